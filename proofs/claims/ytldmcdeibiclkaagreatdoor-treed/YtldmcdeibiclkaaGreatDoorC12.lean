/-
  Toward: treed_holds, each node's digest is that of its children's, for every argument of Treed. THE POOL's TRACE: blocks that all may read and nobody writes ('ro'), blocks of one goroutine's own ('ow k', growing), blocks that are touched by no plain access ('qu'). No project text.
  WALKS BY RECKONING: steps that look at no world, many at once, by the kernel's own reckoning; steps that look at it: what they ask of it, and what they do to it. No project text.
-/
import Derived.Test.YtldmcdeibiclkaaGreatDoorC11
import Derived.Conc.CrowdTrace
set_option linter.unusedVariables false
set_option linter.unusedSimpArgs false
set_option maxRecDepth 4000
section
namespace Go.Proofs.YtldmcdeibiclkaaGreatDoor.U
open Go.Conc
open Go.ConcN (RelBy fork_knows)
def blk:Loc→Option Nat
 | .cell a=>some a.block
 | .obj r=>some r
 |_=>none
structure Lots where
 ro:Nat→Prop
 ow:Nat→Nat→Prop
 qu:Nat→Prop
structure LotsOk (Λ:Lots):Prop where
 own: ∀k k' b,Λ.ow k b→Λ.ow k' b→k=k'
 ro: ∀k b,Λ.ow k b→¬ Λ.ro b
 qu: ∀k b,Λ.ow k b→¬ Λ.qu b
 roqu: ∀b,Λ.ro b→¬ Λ.qu b
def OkT (Λ:Lots) (k:Nat) (a:Touch):Prop:=∀b,blk a.loc=some b→
 (Λ.ow k b∧a.kind= .plain)∨(Λ.ro b∧a.write=false∧a.kind= .plain)∨(Λ.qu b∧a.kind≠.plain∧(a.kind= .said→k=0))
structure TP (Λ:Lots) (Sh live Wk:Nat→Prop) (B:Nat) (t:Trace):Prop where
 clean: ∀said,¬ Race said t
 know: ∀k,live k→∀i a,touchAt t i=some a→∀b,blk a.loc=some b→(Λ.ow k b∨(Λ.ro b∧a.write=true))→Knows t k i
 quiet: ∀(i:Nat) (op:MemOp),t[i]? =some op→∀a,op.act.touch? =some a→∀b,blk a.loc=some b→Λ.qu b→a.kind≠.plain∧(a.kind= .said→op.g=0)
 low: ∀op∈t,op.act.low B
 over: ∀i g,t.g? i=some g→g≠0→¬ Wk g→t.counts i→∃j,t.g? j=some 0∧HappensBefore t i j
 known: ∀i a,touchAt t i=some a→a.loc.isMemory=true→Knows t 0 i∨(ShunB Sh a.loc∧a.kind= .atomic)∨∃k,Wk k∧t.g? i=some k
 atom: ∀i k a,Wk k→t.g? i=some k→touchAt t i=some a→a.loc.isMemory=true→a.kind≠.plain→Knows t 0 i∨∃b,blk a.loc=some b∧(Λ.qu b∨Sh b)
section
variable {Λ Λ':Lots} {Sh live Wk:Nat→Prop} {B:Nat} {t u:Trace}
theorem blk_of_memory {l:Loc} (h:l.isMemory=true): ∃b,blk l=some b:=by
 cases l<;> first|exact ⟨_,rfl⟩|cases h
theorem TP.app (hΛ:LotsOk Λ) (h:TP Λ Sh live Wk B t) {k:Nat} (hk:live k) (hw:k=0∨Wk k) (hu: ∀op∈u,op.g=k) (hok: ∀op∈u,∀a,op.act.touch? =some a→a.loc.isMemory=true∧OkT Λ k a)
  (hl: ∀op∈u,op.act.low B):TP Λ Sh live Wk B (t++u):=by
 refine ⟨fun said=>noRace_append (h.clean said) hu fun i a ha op hop b hb hc=>?_,fun k' hk' i a ha b hb hxx=>?_,fun i op hi a ha b hb hq=>?_,seen_app h.low hl,fun i g hg h0 hn hc=>?_,fun i a ha hm=>?_,fun i k' a hk' hg ha hmm hkd=>?_⟩
 ·
  obtain ⟨hmem,hT⟩:=hok op hop b hb
  obtain ⟨bb,hbb⟩:=blk_of_memory hmem
  have hab:blk a.loc=some bb:=by rw [hc.1];exact hbb
  rcases hT bb hbb with ⟨ho,_⟩|⟨hr,hwf,_⟩|⟨hq,hpl,hsd⟩
  ·exact h.know k hk i a ha bb hab (.inl ho)
  ·exact h.know k hk i a ha bb hab (.inr ⟨hr,(hc.2.2.1.resolve_right (by simp [hwf]))⟩)
  ·obtain ⟨x,hx,hxa⟩:=touch_of ha
   obtain ⟨q1,q2⟩:=h.quiet i x hx a hxa bb hab hq
   rcases hc.2.2.2 with y|y|⟨_,y,z⟩
   ·exact absurd y q1
   ·exact absurd y hpl
   ·have:=knows_own hx
    rw [q2 y] at this
    rw [hsd z]
    exact this
 ·obtain ⟨x,hx,hxa⟩:=touch_of ha
  rcases getElem?_append_cases hx with ⟨_,hx'⟩|⟨_,hxu⟩
  ·exact (h.know k' hk' i a (by rw [touchAt_of hx'];exact hxa) b hb hxx).app u
  ·obtain ⟨_,hT⟩:=hok x hxu a hxa
   have hkk:k=k':=by
    rcases hT b hb with ⟨ho,_⟩|⟨hr,hwf,_⟩|⟨hq,_⟩<;> rcases hxx with hxx|⟨hxx,hw'⟩
    ·exact hΛ.own _ _ _ ho hxx
    ·exact absurd hxx (hΛ.ro _ _ ho)
    ·exact absurd hr (hΛ.ro _ _ hxx)
    ·rw [hwf] at hw';cases hw'
    ·exact absurd hq (hΛ.qu _ _ hxx)
    ·exact absurd hq (hΛ.roqu _ hxx)
   have:=knows_own hx
   rw [hu x hxu,hkk] at this
   exact this
 ·rcases getElem?_append_cases hi with ⟨_,hi'⟩|⟨_,hiu⟩
  ·exact h.quiet i op hi' a ha b hb hq
  ·obtain ⟨_,hT⟩:=hok op hiu a ha
   rcases hT b hb with ⟨ho,_⟩|⟨hr,_⟩|⟨_,h1,h2⟩
   ·exact absurd hq (hΛ.qu _ _ ho)
   ·exact absurd hq (hΛ.roqu _ hr)
   ·exact ⟨h1,fun e=>(hu op hiu).trans (h2 e)⟩
 ·obtain ⟨x,hx,hm⟩:=hc
  obtain ⟨op,hop,hox⟩:=touch_of hx
  rcases getElem?_append_cases hop with ⟨hi,hop'⟩|⟨_,hopu⟩
  ·obtain ⟨j,hj,hb⟩:=h.over i g (by rw [← g?_old (u:=u) hi];exact hg) h0 hn ((counts_old hi).1 ⟨x,hx,hm⟩)
   have hjl:j< t.size:=by
    unfold Trace.g? at hj
    obtain ⟨z,hz,_⟩:=Option.map_eq_some_iff.1 hj
    exact lt_size_of_getElem? hz
   exact ⟨j,by rw [g?_old hjl];exact hj,hb_app u hb⟩
  ·have:g=k:=by
    have e:(t++u).g? i=some op.g:=by simp [Trace.g?,hop]
    rw [hg] at e
    rw [Option.some.inj e,hu op hopu]
   subst this
   rcases hw with hw|hw
   ·exact absurd hw h0
   ·exact absurd hw hn
 ·obtain ⟨x,hx,hxa⟩:=touch_of ha
  rcases getElem?_append_cases hx with ⟨hi,hx'⟩|⟨_,hxu⟩
  ·refine (h.known i a (by rw [touchAt_of hx'];exact hxa) hm).imp (·.app u) (Or.imp id fun ⟨k',h1,h2⟩=>⟨k',h1,by rw [g?_old hi];exact h2⟩)
  ·rcases hw with rfl|hw
   ·have:=knows_own hx
    rw [hu x hxu] at this
    exact .inl this
   ·exact .inr (.inr ⟨k,hw,by simp [Trace.g?,hx,hu x hxu]⟩)
 ·obtain ⟨x,hx,hxa⟩:=touch_of ha
  rcases getElem?_append_cases hx with ⟨hi,hx'⟩|⟨_,hxu⟩
  ·exact (h.atom i k' a hk' (by rw [← g?_old (u:=u) hi];exact hg) (by rw [touchAt_of hx'];exact hxa) hmm hkd).imp (·.app u) id
  ·obtain ⟨hmem,hT⟩:=hok x hxu a hxa
   obtain ⟨b,hb⟩:=blk_of_memory hmem
   rcases hT b hb with ⟨_,e⟩|⟨_,_,e⟩|⟨hq,_⟩
   ·exact absurd e hkd
   ·exact absurd e hkd
   ·exact .inr ⟨b,hb,.inl hq⟩
theorem TP.mute (h:TP Λ Sh live Wk B t) {k:Nat} (hu: ∀op∈u,op.g=k) (hn: ∀op∈u,op.act.touch? =none) (hl: ∀op∈u,op.act.low B):TP Λ Sh live Wk B (t++u):=by
 have old: ∀{i:Nat} {a:Touch},touchAt (t++u) i=some a→i< t.size∧touchAt t i=some a:=by
  intro i a ha
  obtain ⟨z,hz,hza⟩:=touch_of ha
  rcases getElem?_append_cases hz with ⟨hi,hz'⟩|⟨_,hzu⟩
  ·exact ⟨hi,by rw [touchAt_of hz'];exact hza⟩
  ·rw [hn z hzu] at hza;cases hza
 refine ⟨fun said=>noRace_append (h.clean said) hu fun i a ha op hop b hb hc=>(by rw [hn op hop] at hb;cases hb),fun k' hk' i a ha b hb hx=>(h.know k' hk' i a (old ha).2 b hb hx).app u,fun i op hi a ha b hb hq=>?_,seen_app h.low hl,fun i g hg h0 hnw hc=>?_,fun i a ha hm=>?_,fun i k' a hk' hg ha hmm hkd=>?_⟩
 ·rcases getElem?_append_cases hi with ⟨_,hi'⟩|⟨_,hiu⟩
  ·exact h.quiet i op hi' a ha b hb hq
  ·rw [hn op hiu] at ha;cases ha
 ·obtain ⟨x,hx,hm⟩:=hc
  obtain ⟨hi,hx'⟩:=old hx
  obtain ⟨j,hj,hb⟩:=h.over i g (by rw [← g?_old (u:=u) hi];exact hg) h0 hnw ((counts_old hi).1 ⟨x,hx,hm⟩)
  have hjl:j< t.size:=by
   unfold Trace.g? at hj
   obtain ⟨z,hz,_⟩:=Option.map_eq_some_iff.1 hj
   exact lt_size_of_getElem? hz
  exact ⟨j,by rw [g?_old hjl];exact hj,hb_app u hb⟩
 ·obtain ⟨hi,ha'⟩:=old ha
  exact (h.known i a ha' hm).imp (·.app u) (Or.imp id fun ⟨k',h1,h2⟩=>⟨k',h1,by rw [g?_old hi];exact h2⟩)
 ·obtain ⟨hi,ha'⟩:=old ha
  exact (h.atom i k' a hk' (by rw [← g?_old (u:=u) hi];exact hg) ha' hmm hkd).imp (·.app u) id
theorem touch_low {t:Trace} {B:Nat} (h: ∀op∈t,op.act.low B) {i:Nat} {a:Touch} (ha:touchAt t i=some a) {b:Nat} (hb:blk a.loc=some b):b< B:=by
 obtain ⟨op,hop,hoa⟩:=touch_of ha
 have hl:=h op (Array.mem_of_getElem? hop)
 cases hx:op.act with
 |access e=>
  rw [hx] at hoa hl
  simp only [MemAct.touch?,Option.some.injEq] at hoa
  subst hoa
  simp only [MemAct.low] at hl
  simp only at hb
  cases hloc:e.loc<;> rw [hloc] at hb hl<;> simp only [blk,Option.some.injEq,reduceCtorEq] at hb
  ·subst hb;exact hl
  ·subst hb;exact hl
 |mark m=>
  rw [hx] at hoa hl
  cases m<;> simp only [MemAct.touch?,Option.some.injEq,reduceCtorEq] at hoa
  all_goals
   subst hoa
   simp only [blk,Option.some.injEq] at hb
   subst hb
   exact hl
 |_=>rw [hx] at hoa;cases hoa
theorem TP.grow (h:TP Λ Sh live Wk B t) {B':Nat} (hB:B≤B') (ho: ∀k b,Λ'.ow k b→Λ.ow k b∨B≤b) (hr: ∀b,Λ'.ro b→Λ.ro b∨B≤b) (hq: ∀b,Λ'.qu b→Λ.qu b∨B≤b) (hq': ∀b,Λ.qu b→Λ'.qu b):TP Λ' Sh live Wk B' t:=by
 refine ⟨h.clean,fun k hk i a ha b hb hx=>?_,fun i op hi a ha b hb hx=>?_,fun op hop=>MemAct.low_mono hB (h.low op hop),h.over,h.known,fun i k a hk hg ha hmm hkd=>(h.atom i k a hk hg ha hmm hkd).imp id fun ⟨b,h1,h2⟩=>⟨b,h1,h2.imp (hq' b) id⟩⟩
 ·have hlow:=touch_low h.low ha hb
  refine h.know k hk i a ha b hb (hx.imp (fun x=>(ho k b x).resolve_right (by omega)) fun x=>⟨(hr b x.1).resolve_right (by omega),x.2⟩)
 ·have hlow:=touch_low h.low (by rw [touchAt_of hi];exact ha) hb
  exact h.quiet i op hi a ha b hb ((hq b hx).resolve_right (by omega))
theorem TP.share (h:TP Λ Sh live Wk B t) (hlive: ∀k,live k→k=0) (ho: ∀k b,Λ'.ow k b→Λ.ow k b) (hr: ∀b,Λ'.ro b→Λ.ro b∨Λ.ow 0 b) (hq: ∀b,Λ'.qu b↔Λ.qu b):TP Λ' Sh live Wk B t:=by
 refine ⟨h.clean,fun k hk i a ha b hb hx=>?_,fun i op hi a ha b hb hx=>h.quiet i op hi a ha b hb ((hq b).1 hx),h.low,h.over,h.known,fun i k a hk hg ha hmm hkd=>(h.atom i k a hk hg ha hmm hkd).imp id fun ⟨b,h1,h2⟩=>⟨b,h1,h2.imp (hq b).2 id⟩⟩
 obtain rfl:=hlive k hk
 rcases hx with hx|⟨hx,hw⟩
 ·exact h.know 0 hk i a ha b hb (.inl (ho 0 b hx))
 ·rcases hr b hx with hx|hx
  ·exact h.know 0 hk i a ha b hb (.inr ⟨hx,hw⟩)
  ·exact h.know 0 hk i a ha b hb (.inl hx)
theorem TP.fork (h:TP Λ Sh live Wk B t) (hl0:live 0) {k:Nat} (hk0:k≠0) (hnk: ¬ Wk k) (hno: ∀b,¬ Λ.ow k b) {x y:MemOp} (hx:x.g=0∧x.act= .go k) (hy:y.g=k∧y.act= .start) (h0:Deaf t 0=0) (hk:Deaf t k=0):
  TP Λ Sh (fun j=>live j∨j=k) (fun j=>Wk j∨j=k) B (t++#[x,y]):=by
 have hnt: ∀op∈#[x,y],op.act.touch? =none:=by
  intro op hop
  simp only [List.mem_toArray,List.mem_cons,List.not_mem_nil,or_false] at hop
  rcases hop with rfl|rfl
  ·rw [hx.2];rfl
  ·rw [hy.2];rfl
 have hlow: ∀op∈#[x,y],op.act.low B:=by
  intro op hop
  simp only [List.mem_toArray,List.mem_cons,List.not_mem_nil,or_false] at hop
  rcases hop with rfl|rfl
  ·rw [hx.2];trivial
  ·rw [hy.2];trivial
 have old: ∀{i:Nat} {a:Touch},touchAt (t++#[x,y]) i=some a→i< t.size∧touchAt t i=some a:=by
  intro i a ha
  obtain ⟨z,hz,hza⟩:=touch_of ha
  rcases getElem?_append_cases hz with ⟨hi,hz'⟩|⟨_,hzu⟩
  ·exact ⟨hi,by rw [touchAt_of hz'];exact hza⟩
  ·rw [hnt z hzu] at hza;cases hza
 refine ⟨fun said=>?_,fun k' hk' i a ha b hb hxx=>?_,fun i op hi a ha b hb hq=>?_,seen_app h.low hlow,fun i g hg hg0 hn hc=>?_,fun i a ha hm=>?_,fun i k' a hk' hg ha hmm hkd=>?_⟩
 ·have e:t++#[x,y]=(t++#[x])++#[y]:=by apply Array.ext';simp
  rw [e]
  refine noRace_append (g:=k) (noRace_append (g:=0) (h.clean said) (fun op hop=>by simp at hop;rw [hop];exact hx.1) (fun i a _ op hop b hb _=>?_)) (fun op hop=>by simp at hop;rw [hop];exact hy.1) (fun i a _ op hop b hb _=>?_)
  ·rw [hnt op (by simp at hop ⊢;exact .inl hop)] at hb;cases hb
  ·rw [hnt op (by simp at hop ⊢;exact .inr hop)] at hb;cases hb
 ·obtain ⟨hi,ha'⟩:=old ha
  by_cases hkk:k'=k
  ·subst hkk
   rcases hxx with hxx|hxx
   ·exact absurd hxx (hno b)
   ·exact fork_knows hx hy h0 hk (h.know 0 hl0 i a ha' b hb (.inr hxx))
  ·exact (h.know k' (hk'.resolve_right hkk) i a ha' b hb hxx).app _
 ·rcases getElem?_append_cases hi with ⟨_,hi'⟩|⟨_,hiu⟩
  ·exact h.quiet i op hi' a ha b hb hq
  ·rw [hnt op hiu] at ha;cases ha
 ·obtain ⟨z,hz,hm⟩:=hc
  obtain ⟨hi,hz'⟩:=old hz
  obtain ⟨j,hj,hb⟩:=h.over i g (by rw [← g?_old (u:=#[x,y]) hi];exact hg) hg0 (fun hw=>hn (.inl hw)) ((counts_old hi).1 ⟨z,hz,hm⟩)
  have hjl:j< t.size:=by
   unfold Trace.g? at hj
   obtain ⟨z,hz,_⟩:=Option.map_eq_some_iff.1 hj
   exact lt_size_of_getElem? hz
  exact ⟨j,by rw [g?_old hjl];exact hj,hb_app _ hb⟩
 ·obtain ⟨hi,ha'⟩:=old ha
  exact (h.known i a ha' hm).imp (·.app _) (Or.imp id fun ⟨k',h1,h2⟩=>⟨k',.inl h1,by rw [g?_old hi];exact h2⟩)
 ·obtain ⟨hi,ha'⟩:=old ha
  have hg':t.g? i=some k':=by rw [← g?_old (u:=#[x,y]) hi];exact hg
  rcases hk' with hk'|rfl
  ·exact (h.atom i k' a hk' hg' ha' hmm hkd).imp (·.app _) id
  ·rcases h.known i a ha' hmm with hx|⟨hs,_⟩|⟨k'',h1,h2⟩
   ·exact .inl (hx.app _)
   ·refine .inr ?_
    cases hl:a.loc with
    |cell c=>rw [hl] at hs;exact ⟨_,rfl,.inr hs⟩
    |obj c=>rw [hl] at hs;exact ⟨_,rfl,.inr hs⟩
    |_=>rw [hl] at hmm;cases hmm
   ·rw [hg'] at h2
    cases h2
    exact absurd h1 hnk
theorem TP.begin {Sh:Nat→Prop} {B:Nat} {t:Trace} (h:Past (ShunB Sh) B t) (hro: ∀b,Λ.ro b→¬ Sh b) (ho: ∀k b,Λ.ow k b→B≤b) (hq: ∀b,Λ.qu b→B≤b):TP Λ Sh (fun k=>k=0) (fun _=>False) B t:=by
 refine ⟨h.clean,fun k hk i a ha b hb hx=>?_,fun i op hi a ha b hb hx=>?_,h.seen,fun i g hg h0 _ hc=>h.over i g hg h0 hc,fun i a ha hm=>(h.known i a ha hm).imp id .inl,fun i k a hk=>hk.elim⟩
 ·subst hk
  have hlow:=touch_low h.seen ha hb
  rcases hx with hx|⟨hx,_⟩
  ·exact absurd (ho 0 b hx) (by omega)
  ·have hm:a.loc.isMemory=true:=by cases hl:a.loc<;> rw [hl] at hb<;> first|rfl|cases hb
   rcases h.known i a ha hm with hk|⟨hs,_⟩
   ·exact hk
   ·exfalso
    refine hro b hx ?_
    cases hl:a.loc<;> rw [hl] at hb hs<;> simp only [blk,Option.some.injEq,reduceCtorEq] at hb
    ·subst hb;exact hs
    ·subst hb;exact hs
 ·have hlow:=touch_low h.seen (by rw [touchAt_of hi];exact ha) hb
  exact absurd (hq b hx) (by omega)
theorem TP.past (h:TP Λ Sh live Wk B t) {ad:Addr} {q:Nat} (all: ∀k,Wk k→∃r,RelBy ad t k r∧r< q) (hn:NoRelease ad t) (hq:t.act? q=some (.mark (.acquire ad))) (hg:t.g? q=some 0) (hh:t.heard q) (hd:Deaf t 0=0):
  Past (ShunB fun b=>Sh b∨Λ.qu b) B t:=by
 have hand: ∀i k,Wk k→t.g? i=some k→t.counts i→HappensBefore t i q:=by
  intro i k hk hgi hc
  obtain ⟨r,hr,hrq⟩:=all k hk
  have edge:HappensBefore t r q:= .single (.inr ⟨.marked hrq (.inr hr.act) hq (fun k _ _=>hn k),hr.heard,hh⟩)
  have hle:i≤r:=Nat.le_of_not_lt fun hlt=>hr.after i hlt hgi hc
  rcases Nat.lt_or_ge i r with hlt|hge
  ·exact .trans (.single (.inl ⟨hlt,k,hgi,hr.g⟩)) edge
  ·obtain rfl:i=r:=by omega
   exact edge
 refine ⟨h.clean,fun i a ha hm=>?_,fun i g hgi hne hc=>?_,hd,h.low⟩
 ·have shun: ∀{l:Loc},ShunB Sh l→ShunB (fun b=>Sh b∨Λ.qu b) l:=fun {l} hl=>by cases l<;> first|exact .inl hl|exact hl
  rcases h.known i a ha hm with hk|⟨hs,hk⟩|⟨k,hk,hgi⟩
  ·exact .inl hk
  ·exact .inr ⟨shun hs,hk⟩
  ·by_cases hc:t.counts i
   ·have:=hand i k hk hgi hc
    refine .inl ?_
    unfold Trace.g? at hg
    obtain ⟨z,hz,hzg⟩:=Option.map_eq_some_iff.1 hg
    exact ⟨q,z,hz,hzg,.inr this⟩
   ·have hkd:a.kind= .atomic:=by
     refine Classical.byContradiction fun hx=>hc ⟨a,ha,hm,.inl hx⟩
    rcases h.atom i k a hk hgi ha hm (by rw [hkd];simp) with hx|⟨b,hb,hqu⟩
    ·exact .inl hx
    refine .inr ⟨?_,hkd⟩
    cases hl:a.loc<;> rw [hl] at hb<;> simp only [blk,Option.some.injEq,reduceCtorEq] at hb
    ·subst hb;exact hqu.symm
    ·subst hb;exact hqu.symm
 ·by_cases hk:Wk g
  ·exact ⟨q,hg,hand i g hk hgi hc⟩
  ·exact h.over i g hgi hne hk hc
end
end Go.Proofs.YtldmcdeibiclkaaGreatDoor.U
end
section
namespace Go.Proofs.YtldmcdeibiclkaaGreatDoor.U
open Go.Conc
def nx (P:Program) (m:Bool) (g:Goroutine):Goroutine:=match stepG P m g default with| .go g' _ _=>g'|_=>g
def nxN (P:Program) (m:Bool):Nat→Goroutine→Goroutine
 |0,g=>g
 |n+1,g=>nxN P m n (nx P m g)
def nxE (P:Program) (m:Bool) (g:Goroutine):Array Event:=match stepG P m g default with| .go _ _ es=>es|_=>#[]
def doneS (P:Program) (m:Bool) (w:World):Nat→Goroutine→List (GoStatus×GStep)
 |0,_=>[]
 |n+1,g=>(g.status,stepG P m g w)::doneS P m w n (nx P m g)
def idleS (P:Program) (m:Bool) (w:World):Nat→Goroutine→List (GoStatus×GStep)
 |0,_=>[]
 |n+1,g=>(.running,.go (nx P m g) w #[])::idleS P m w n (nx P m g)
def Slid (P:Program) (m:Bool) (n:Nat) (g:Goroutine):Prop:=∀w,doneS P m w n g=idleS P m w n g
section
variable {P:Program} {m:Bool}
theorem Slid.zero (g:Goroutine):Slid P m 0 g:=fun _=>rfl
theorem Slid.step {n:Nat} {g:Goroutine} (h:Slid P m (n+1) g):g.status= .running∧(∀w,stepG P m g w= .go (nx P m g) w #[])∧Slid P m n (nx P m g):=by
 refine ⟨?_,fun w=>?_,fun w=>?_⟩
 ·have:=h default
  simp only [doneS,idleS,List.cons.injEq,Prod.mk.injEq] at this
  exact this.1.1
 ·have:=h w
  simp only [doneS,idleS,List.cons.injEq,Prod.mk.injEq] at this
  exact this.1.2
 ·have:=h w
  simp only [doneS,idleS,List.cons.injEq,Prod.mk.injEq] at this
  exact this.2
end
inductive Glide (P:Program) (m:Bool):Nat→Goroutine→Goroutine→Prop
 |refl (g:Goroutine):Glide P m 0 g g
 |step {n:Nat} {g g1 g2:Goroutine}:g.status= .running→(∀w,stepG P m g w= .go g1 w #[])→Glide P m n g1 g2→Glide P m (n+1) g g2
theorem Slid.glide {P:Program} {m:Bool}: ∀{n:Nat} {g:Goroutine},Slid P m n g→Glide P m n g (nxN P m n g)
 |0,g,_=> .refl g
 |_+1,_,h=> .step h.step.1 h.step.2.1 h.step.2.2.glide
theorem Glide.trans {P:Program} {m:Bool} {a b:Nat} {g g1 g2:Goroutine} (h:Glide P m a g g1) (k:Glide P m b g1 g2):Glide P m (a+b) g g2:=by
 induction h with
 |refl g=>simpa using k
 |@step n g g1 g2 h1 h2 _ ih=>rw [show n+1+b=(n+b)+1 by omega];exact .step h1 h2 (ih k)
theorem Glide.one {P:Program} {m:Bool} {g g1:Goroutine} (h:g.status= .running) (hs: ∀w,stepG P m g w= .go g1 w #[]):Glide P m 1 g g1:= .step h hs (.refl _)
def seekC (id:Nat):Code→List Item→Option (List Item)
 | .seq a b,k=>(seekC id a (.code b::k)).or (seekC id b k)
 | .cond _ a b,k=>(seekC id a k).or (seekC id b k)
 | .block i c,k=>seekC id c (.inBlock i::k)
 | .loop c,k=>seekC id c (.inLoop c::k)
 | .region j ops _,k=>if j=id then some (.inRegion ops (List.range ops.size)::k) else none
 |_,_=>none
def dropOps (n:Nat):List Item→List Item
 | .inRegion ops l::k=> .inRegion ops (l.drop n)::k
 |k=>k
def placeAt (P:Program) (f:FuncId) (id n:Nat):List Item:=dropOps n ((((P.funcs[f]?).bind (·.body)).bind fun c=>seekC id c []).getD [])
def gAt (P:Program) (f:FuncId) (id n:Nat) (ts:Array Value) (cs:List Frame):Goroutine:=
 {frame:={fn:=f,tmps:=ts,todo:=placeAt P f id n,defers:=[],mode:= .run,kind:= .normal},callers:=cs,status:= .running,dying:=none}
def leaveS (P:Program) (w:World):Nat→Goroutine→List (GoStatus×GStep)
 |0,_=>[]
 |n+1,g=>(.running,.go (nx P false g) w (nxE P false g))::leaveS P w n (nx P false g)
def muteN (P:Program):Nat→Goroutine→Bool
 |0,_=>true
 |n+1,g=>(nxE P false g).all Event.mute && muteN P n (nx P false g)
def deafN (P:Program):Nat→Nat→Goroutine→Nat
 |0,d,_=>d
 |n+1,d,g=>deafN P n (deafBehind d (nxE P false g)) (nx P false g)
theorem quits_of {P:Program}: ∀(n d:Nat) (g:Goroutine),(∀w,doneS P false w n g=leaveS P w n g)→muteN P n g=true→deafN P n d g=0→(nxN P false n g).status= .finished→QuitsD P n d g
 |0,d,g,_,_,hd,hf=>⟨hf,hd⟩
 |n+1,d,g,hs,hm,hd,hf=>by
  simp only [muteN,Bool.and_eq_true] at hm
  refine .inr ⟨?_,nx P false g,nxE P false g,fun e he=>Array.all_eq_true'.1 hm.1 e he,fun w=>?_,?_⟩
  ·have:=hs default
   simp only [doneS,leaveS,List.cons.injEq,Prod.mk.injEq] at this
   exact this.1.1
  ·have:=hs w
   simp only [doneS,leaveS,List.cons.injEq,Prod.mk.injEq] at this
   exact this.1.2
  ·refine quits_of n _ _ (fun w=>?_) hm.2 hd hf
   have:=hs w
   simp only [doneS,leaveS,List.cons.injEq,Prod.mk.injEq] at this
   exact this.2
theorem QuitsD.glide {P:Program} {n q d:Nat} {g g1:Goroutine} (h:Glide P false n g g1) (k:QuitsD P q d g1):QuitsD P (n+q) d g:=by
 induction h with
 |refl g=>simpa using k
 |@step n g g1 g2 h1 h2 _ ih=>
  rw [show n+1+q=(n+q)+1 by omega]
  exact .inr ⟨h1,g1,#[],by simp,h2,ih k⟩
theorem QuitsD.marked {P:Program} {q d:Nat} {g g1:Goroutine} {es:Array Event} (h:g.status= .running) (hs: ∀w,stepG P false g w= .go g1 w es) (hm: ∀e∈es,Event.mute e=true) (k:QuitsD P q (deafBehind d es) g1):QuitsD P (q+1) d g:=
 .inr ⟨h,g1,es,hm,hs,k⟩
inductive Ans where
 |val (v:Value)|shp (x:Option (TypeId×Nat))|fz (b:Bool)|ref (r:Nat)|obj (o:Obj)
inductive Dem where
 |ld (m:Mode) (a:Addr)|st (m:Mode) (a:Addr) (v:Value)|shp (r:Nat)|fz (a:Addr)|nw (o:Obj)|gt (r:Nat)|pt (r:Nat) (o:Obj)|mk (m:Mark)
def feed (P:Program) {α:Type}:Sem α→List Ans→Option (List Dem×(α ⊕ Halt))
 | .pure a,[]=>some ([],.inl a)
 | .halt h,[]=>some ([],.inr h)
 | .load m a k,.val v::as=>(feed P (k v) as).map fun x=>(.ld m a::x.1,x.2)
 | .store m a v k,as=>(feed P k as).map fun x=>(.st m a v::x.1,x.2)
 | .new o k,.ref r::as=>(feed P (k r) as).map fun x=>(.nw o::x.1,x.2)
 | .shape r k,.shp y::as=>(feed P (k y) as).map fun x=>(.shp r::x.1,x.2)
 | .frozen a k,.fz b::as=>(feed P (k b) as).map fun x=>(.fz a::x.1,x.2)
 | .getObj r k,.obj o::as=>(feed P (k o) as).map fun x=>(.gt r::x.1,x.2)
 | .setObj r o k,as=>(feed P k as).map fun x=>(.pt r o::x.1,x.2)
 | .mark m k,as=>(feed P k as).map fun x=>(.mk m::x.1,x.2)
 | .program k,as=>feed P (k P) as
 |_,_=>none
def isCells:Obj→Bool
 | .cells .. =>true
 |_=>false
def Meets:List Dem→List Ans→World→Array Event→World→Array Event→Prop
 |[],[],w,es,w',es'=>w'=w∧es'=es
 | .ld m a::ds,.val v::as,w,es,w',es'=>w.cell? a=some v∧Meets ds as w (es.push ⟨.cell a,false,m== .atomic⟩) w' es'
 | .st m a v::ds,as,w,es,w',es'=>(∀c,v≠.agg c)∧(∀c,v≠.tuple c)∧(∃x,w.cell? a=some x)∧w.frozen? a=false∧Meets ds as (w.setCell a v) (es.push ⟨.cell a,true,m== .atomic⟩) w' es'
 | .nw o::ds,.ref r::as,w,es,w',es'=>r=w.heap.size∧Meets ds as {w with heap:=w.heap.push o} es w' es'
 | .shp r::ds,.shp x::as,w,es,w',es'=>w.shape? r=x∧Meets ds as w es w' es'
 | .fz a::ds,.fz b::as,w,es,w',es'=>w.frozen? a=b∧Meets ds as w es w' es'
 | .gt r::ds,.obj o::as,w,es,w',es'=>w.heap[r]? =some o∧isCells o=false∧Meets ds as w (es.push ⟨.obj r,false,o.isChan⟩) w' es'
 | .pt r o::ds,as,w,es,w',es'=>(∃q,w.heap[r]? =some q∧isCells q=false)∧Meets ds as {w with heap:=w.heap.setIfInBounds r o} (es.push ⟨.obj r,true,o.isChan⟩) w' es'
 | .mk m::ds,as,w,es,w',es'=>Meets ds as w (es.push ⟨.mark m,false,true⟩) w' es'
 |_,_,_,_,_,_=>False
theorem feed_run {P:Program} {α:Type}: ∀(p:Sem α) (as:List Ans) (ds:List Dem) (r:α ⊕ Halt) (w w':World) (es es':Array Event),feed P p as=some (ds,r)→Meets ds as w es w' es'→
  p.runT P w es=((match r with| .inl a=> .ok a w'| .inr h=> .halt h w'),es'):=by
 intro p
 induction p with
 |pure a=>
  intro as ds r w w' es es' hf hm
  cases as with
  |nil=>simp only [feed,Option.some.injEq,Prod.mk.injEq] at hf;obtain ⟨rfl,rfl⟩:=hf;obtain ⟨rfl,rfl⟩:=hm;rfl
  |cons=>cases hf
 |halt h=>
  intro as ds r w w' es es' hf hm
  cases as with
  |nil=>simp only [feed,Option.some.injEq,Prod.mk.injEq] at hf;obtain ⟨rfl,rfl⟩:=hf;obtain ⟨rfl,rfl⟩:=hm;rfl
  |cons=>cases hf
 |load m a k ih=>
  intro as ds r w w' es es' hf hm
  match as,hf with
  | .val v::as,hf=>
   simp only [feed,Option.map_eq_some_iff,Prod.mk.injEq] at hf
   obtain ⟨⟨d1,r1⟩,h1,rfl,rfl⟩:=hf
   obtain ⟨hc,hm⟩:=hm
   rw [Sem.runT,hc]
   exact ih v _ _ _ _ _ _ _ h1 hm
 |store m a v k ih=>
  intro as ds r w w' es es' hf hm
  simp only [feed,Option.map_eq_some_iff,Prod.mk.injEq] at hf
  obtain ⟨⟨d1,r1⟩,h1,rfl,rfl⟩:=hf
  simp only [Meets] at hm
  obtain ⟨n1,n2,⟨x,hc⟩,hfz,hm⟩:=hm
  rw [Sem.runT.eq_5 _ _ _ _ _ _ _ n1 n2,hc]
  simp only [hfz,Bool.false_eq_true,if_false]
  exact ih _ _ _ _ _ _ _ h1 hm
 |new o k ih=>
  intro as ds r w w' es es' hf hm
  match as,hf with
  | .ref rr::as,hf=>
   simp only [feed,Option.map_eq_some_iff,Prod.mk.injEq] at hf
   obtain ⟨⟨d1,r1⟩,h1,rfl,rfl⟩:=hf
   obtain ⟨rfl,hm⟩:=hm
   rw [Sem.runT]
   exact ih _ _ _ _ _ _ _ _ h1 hm
 |shape rr k ih=>
  intro as ds r w w' es es' hf hm
  match as,hf with
  | .shp y::as,hf=>
   simp only [feed,Option.map_eq_some_iff,Prod.mk.injEq] at hf
   obtain ⟨⟨d1,r1⟩,h1,rfl,rfl⟩:=hf
   obtain ⟨rfl,hm⟩:=hm
   rw [Sem.runT]
   exact ih _ _ _ _ _ _ _ _ h1 hm
 |freeze a n k ih=>intro as ds r w w' es es' hf;cases hf
 |frozen a k ih=>
  intro as ds r w w' es es' hf hm
  match as,hf with
  | .fz b::as,hf=>
   simp only [feed,Option.map_eq_some_iff,Prod.mk.injEq] at hf
   obtain ⟨⟨d1,r1⟩,h1,rfl,rfl⟩:=hf
   obtain ⟨rfl,hm⟩:=hm
   rw [Sem.runT]
   exact ih _ _ _ _ _ _ _ _ h1 hm
 |getObj rr k ih=>
  intro as ds r w w' es es' hf hm
  match as,hf with
  | .obj o::as,hf=>
   simp only [feed,Option.map_eq_some_iff,Prod.mk.injEq] at hf
   obtain ⟨⟨d1,r1⟩,h1,rfl,rfl⟩:=hf
   obtain ⟨hc,hi,hm⟩:=hm
   rw [Sem.runT,hc]
   cases o with
   |cells=>cases hi
   |_=>exact ih _ _ _ _ _ _ _ _ h1 hm
 |setObj rr o k ih=>
  intro as ds r w w' es es' hf hm
  simp only [feed,Option.map_eq_some_iff,Prod.mk.injEq] at hf
  obtain ⟨⟨d1,r1⟩,h1,rfl,rfl⟩:=hf
  simp only [Meets] at hm
  obtain ⟨⟨q,hc,hi⟩,hm⟩:=hm
  rw [Sem.runT,hc]
  cases q with
  |cells=>cases hi
  |_=>exact ih _ _ _ _ _ _ _ h1 hm
 |choose q k ih=>intro as ds r w w' es es' hf;cases hf
 |sys c k ih=>intro as ds r w w' es es' hf;cases hf
 |program k ih=>
  intro as ds r w w' es es' hf hm
  rw [Sem.runT]
  exact ih P _ _ _ _ _ _ _ hf hm
 |mark m k ih=>
  intro as ds r w w' es es' hf hm
  simp only [feed,Option.map_eq_some_iff,Prod.mk.injEq] at hf
  obtain ⟨⟨d1,r1⟩,h1,rfl,rfl⟩:=hf
  simp only [Meets] at hm
  rw [Sem.runT]
  exact ih _ _ _ _ _ _ _ h1 hm
def pendS (g:Goroutine):Sem Next:=execOp g.frame.eval ((g.frame.oper?).getD default)
def AtOp (P:Program) (m:Bool) (g:Goroutine):Prop:=(∀w,stepG P m g w=stepG.apply P true g.frame g.callers none (pendS g) w)∧g.status= .running∧(g.frame.kind== .early)=false
def gOf (g:Goroutine) (fr:Frame):Goroutine:={frame:=fr,callers:=g.callers,status:= .running,dying:=none}
section
variable {P:Program} {m:Bool} {g:Goroutine}
theorem AtOp.value (h:AtOp P m g) {rs:List Ans} {ds:List Dem} {v:Value} (hf:feed P (pendS g) rs=some (ds,.inl (.value v))) {w w':World} {es:Array Event} (hm:Meets ds rs w #[] w' es):
  stepG P m g w= .go (gOf g (g.frame.finish v)) w' (seen P g.frame.fn es):=by
 have hr:=feed_run _ _ _ _ _ _ _ _ hf hm
 rw [h.1 w]
 simp only [stepG.apply,hr,h.2.2,Bool.false_eq_true,if_false,if_true,GStep.after,gOf,Array.append_empty]
theorem AtOp.skip (h:AtOp P m g) {as:List Ans} {ds:List Dem} (hf:feed P (pendS g) as=some (ds,.inl .skip)) {w w':World} {es:Array Event} (hm:Meets ds as w #[] w' es):
  stepG P m g w= .go (gOf g (g.frame.finish undef)) w' (seen P g.frame.fn es):=by
 have hr:=feed_run _ _ _ _ _ _ _ _ hf hm
 rw [h.1 w]
 simp only [stepG.apply,hr,h.2.2,Bool.false_eq_true,if_false,if_true,GStep.after,gOf,Array.append_empty]
theorem AtOp.comm (h:AtOp P m g) {as:List Ans} {ds:List Dem} {cases:Array CommCase} {b:Bool} {sh:CommShape} (hf:feed P (pendS g) as=some (ds,.inl (.comm cases b sh))) {w w':World} {es:Array Event} (hm:Meets ds as w #[] w' es):
  stepG P m g w= .comm (gOf g g.frame) cases b sh w' (seen P g.frame.fn es):=by
 have hr:=feed_run _ _ _ _ _ _ _ _ hf hm
 rw [h.1 w]
 simp only [stepG.apply,hr,h.2.2,Bool.false_eq_true,if_false,if_true,GStep.after,gOf,Array.append_empty]
theorem AtOp.blocked (h:AtOp P m g) {as:List Ans} {ds:List Dem} (hf:feed P (pendS g) as=some (ds,.inr .blocked)) {w w':World} {es:Array Event} (hm:Meets ds as w #[] w' es):
  stepG P m g w= .go {frame:=g.frame,callers:=g.callers,status:= .blocked,dying:=none} w' (seen P g.frame.fn #[]):=by
 have hr:=feed_run _ _ _ _ _ _ _ _ hf hm
 rw [h.1 w]
 simp only [stepG.apply,hr,if_true,GStep.after,Array.append_empty]
 split<;> rfl
end
end Go.Proofs.YtldmcdeibiclkaaGreatDoor.U
end
