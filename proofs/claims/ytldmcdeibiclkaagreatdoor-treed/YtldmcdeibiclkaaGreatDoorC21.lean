/-
  Toward: treed_holds, each node's digest is that of its children's, for every argument of Treed. THE POOL's MACHINE: a worker in its calls.
  THE POOL's MACHINE: a worker says Done, and leaves.
-/
import Derived.Test.YtldmcdeibiclkaaGreatDoorC20
set_option linter.unusedVariables false
set_option linter.unusedSimpArgs false
set_option maxRecDepth 4000
section
namespace Go.Proofs.YtldmcdeibiclkaaGreatDoor.U
open Go.Conc
open Go.ConcN (upd upd_same upd_ne sumTo sumTo_upd sumTo_congr RelBy)
section
variable {L:Lim} {T:Tab} {Goal:Frame→List Frame→World→Prop} {X:PC L}
theorem deaf_in {Rg Wg:Nat→Prop} {es:Array Event} (h: ∀e∈es,EvIn Rg Wg e) (d:Nat):deafBehind d es=d:=deafBehind_still (fun e he=>by
 rcases h e he with ⟨a,wr,rfl,_⟩|⟨r,wr,rfl,_⟩|rfl<;> exact ⟨by simp,by simp⟩) d
theorem ev_call (O:PCOk T Goal X) {s':PS} {k:Nat} (hk:k< s'.j) {ow:Nat→Prop} (how:s'.ow k=ow) {v1:World} (hlow: ∀b,ow b→b< v1.heap.size) (hv:X.E.v0.heap.size≤v1.heap.size) {es:Array Event} (h: ∀e∈es,EvIn (fun t=>(∃r,X.E.ρ r t)∨ow t) ow e):
  (∀e∈es,∀a,(MemAct.ofEvent e).touch? =some a→a.loc.isMemory=true∧OkT (lots X s') (X.n0+k) a)∧(∀e∈es,(MemAct.ofEvent e).low v1.heap.size)∧∀e∈es,e.loc≠.mark (.release (stA' X)):=by
 have ro: ∀b,(∃r,X.E.ρ r b)→(lots X s').ro b:=fun b ⟨r,hr⟩=> .inl ⟨(O.K.dom r b hr).2,O.rosh r b hr⟩
 have own: ∀b,ow b→(lots X s').ow (X.n0+k) b:=fun b hb=>⟨k,hk,rfl,by rw [how];exact hb⟩
 have low: ∀b,(∃r,X.E.ρ r b)∨ow b→b< v1.heap.size:=fun b hb=>hb.elim (fun ⟨r,hr⟩=>Nat.lt_of_lt_of_le (O.K.dom r b hr).2 hv) (hlow b)
 refine ⟨fun e he a ha=>?_,fun e he=>?_,fun e he=>?_⟩
 ·rcases h e he with ⟨c,wr,rfl,h1,h2⟩|⟨r,wr,rfl,h1,h2⟩|rfl
  ·simp only [MemAct.ofEvent,MemAct.touch?,Option.some.injEq] at ha
   subst ha
   refine ⟨rfl,fun b hb=>?_⟩
   simp only [blk,Option.some.injEq] at hb
   subst hb
   cases wr with
   |true=>exact .inl ⟨own _ (h2 rfl),rfl⟩
   |false=>
    rcases h1 with h1|h1
    ·exact .inr (.inl ⟨ro _ h1,rfl,rfl⟩)
    ·exact .inl ⟨own _ h1,rfl⟩
  ·simp only [MemAct.ofEvent,MemAct.touch?,Option.some.injEq] at ha
   subst ha
   refine ⟨rfl,fun b hb=>?_⟩
   simp only [blk,Option.some.injEq] at hb
   subst hb
   cases wr with
   |true=>exact .inl ⟨own _ (h2 rfl),rfl⟩
   |false=>
    rcases h1 with h1|h1
    ·exact .inr (.inl ⟨ro _ h1,rfl,rfl⟩)
    ·exact .inl ⟨own _ h1,rfl⟩
  ·simp [MemAct.ofEvent,MemAct.touch?] at ha
 ·rcases h e he with ⟨c,wr,rfl,h1,_⟩|⟨r,wr,rfl,h1,_⟩|rfl
  ·exact low_cell (low _ h1) _ _
  ·simp only [MemAct.ofEvent,MemAct.low,Loc.low];exact low _ h1
  ·trivial
 ·rcases h e he with ⟨c,wr,rfl,_⟩|⟨r,wr,rfl,_⟩|rfl<;> simp
theorem w_enter (O:PCOk T Goal X) {s:PS} {gs:Array Goroutine} {v:World} {sl:Option (Nat×Nat)} {t:Trace} (H:PI T Goal X s gs v t) (hfin: ∀n xs,s.mt= .fin n xs→False) {k:Nat} (hk:k< s.j) {i j:Nat} {l:List Nat} {xs:Nat→Value} (hσ:s.ws k= .ops i (j::l) xs) (hj:j=4∨j=5):StepsTo T Goal X s gs v sl t (X.n0+k):=by
 obtain ⟨g,hg,hW⟩:=H.gs.work k hk
 rw [hσ] at hW
 obtain ⟨rfl,hd,_,ho⟩:=hW
 obtain ⟨hh,hgd⟩:=good_cons ho.good
 have hr:(s.ws k).rank=21+2*(l.length+1):=by rw [hσ];rfl
 rcases hj with rfl|rfl
 ·simp only [headOk,Bool.and_eq_true,Bool.not_eq_true'] at hh
  obtain ⟨Y,st,g1,e,h7,hC⟩:=job_text O.A O.K (O.jobs i ho.lt) X.p l (ho.d2 (by rw [contains_cons_ne _ (by omega)];exact hh.1.1)) (ho.d3 (by rw [contains_cons_ne _ (by omega)];exact hh.1.2)) H.wd.old
  exact workGo O H hk hg e (.text i l xs st) (s.ow k) s.st s.sm ⟨hd,ho,Y,h7,hC.low _ fun _ h=>h.elim⟩ (Nat.le_refl _) (fun _ _ _ _=>rfl) (fun b hb=> .inl hb) H.wd.wg ⟨rfl,rfl,rfl⟩
   (H.ac.wk _ (by rw [hσ];rfl) (fun h=>by cases h) (fun h=>by simp only [Wk.rank] at h;omega)) (fun mt' hm _=>H.wg.wk4 X hk _ (by omega) (by simp only [Wk.rank];omega) (by rw [hσ];rfl) mt' hm) (fun e he=>by simp at he) (fun e he=>by simp at he) (fun h=>by cases h) (fun e he=>by simp at he) hfin (fun mt' hm=>dec_rank hk (by rw [hσ];simp only [Wk.rank,List.length_cons];omega) (by rw [hσ];rfl) mt' hm _ _ _)
 ·simp only [headOk,Bool.and_eq_true,Bool.not_eq_true'] at hh
  obtain ⟨t',h13,hm⟩:=ho.d4 (by rw [contains_cons_ne _ (by omega)];exact hh.1) (by simp)
  obtain ⟨Y,st,g1,e,h7,hC⟩:=job_sum O.A O.K hm X.p l h13 H.wd.old
  exact workGo O H hk hg e (.summ i l xs st) (s.ow k) s.st s.sm ⟨hd,ho,Y,h7,hC.low _ fun _ h=>h.elim⟩ (Nat.le_refl _) (fun _ _ _ _=>rfl) (fun b hb=> .inl hb) H.wd.wg ⟨rfl,rfl,rfl⟩
   (H.ac.wk _ (by rw [hσ];rfl) (fun h=>by cases h) (fun h=>by simp only [Wk.rank] at h;omega)) (fun mt' hm _=>H.wg.wk4 X hk _ (by omega) (by simp only [Wk.rank];omega) (by rw [hσ];rfl) mt' hm) (fun e he=>by simp at he) (fun e he=>by simp at he) (fun h=>by cases h) (fun e he=>by simp at he) hfin (fun mt' hm=>dec_rank hk (by rw [hσ];simp only [Wk.rank,List.length_cons];omega) (by rw [hσ];rfl) mt' hm _ _ _)
theorem dec_tree {s:PS} {k:Nat} (hk:k< s.j) (h4:s.j≤4) {σ:Wk} {x x':GSt} (hr:σ.rank=(s.ws k).rank) (hc:σ.cnt=(s.ws k).cnt) (ht:(s.ws k).tree=some x) (ht':σ.tree=some x') (hn:Nxt Qg Goal x' x) (mt':Mt) (hm:MLike s.mt mt') (ow:Nat→Prop) (st sm:Nat):Dec Goal X {s.wk mt' k σ ow with st:=st,sm:=sm} s:=by
 have h1:=s.wk_sum mt' hk σ ow Wk.rank
 have h2:=s.wk_c mt' hk σ ow
 have h3:(s.wk mt' k σ ow).c=s.c:=by omega
 have h5:=(hm.facts (X:=X)).1 s.c
 refine .inr (.inl ⟨?_,k,by omega,x,x',?_,?_,hn,fun i hi=>?_⟩)
 ·show mt'.rank (s.wk mt' k σ ow).c+sumTo s.j (fun i=>((s.wk mt' k σ ow).ws i).rank)+12*(s.wk mt' k σ ow).c+60*(X.E.n - s.rN)=s.mt.rank s.c+sumTo s.j (fun i=>(s.ws i).rank)+12*s.c+60*(X.E.n - s.rN)
  rw [h3]
  omega
 ·simp [PS.kap,hk,ht]
 ·show (if k< s.j then ((s.wk mt' k σ ow).ws k).tree else none)=some x'
  rw [(s.wk_self mt' k σ ow).1]
  simp [hk,ht']
 ·show (if i< s.j then ((s.wk mt' k σ ow).ws i).tree else none)=if i< s.j then (s.ws i).tree else none
  rw [(s.wk_ne mt' σ ow hi).1]
theorem nW_le (O:PCOk T Goal X) {s:PS} (H:Ac X s) {gs:Array Goroutine} {v:World} {t:Trace} (G:Gs T Goal X s gs v t):s.j≤4:=by
 have h1:=O.nw
 have h2:=H.on
 obtain ⟨h,_,hM⟩:=G.main
 cases hmt:s.mt<;> rw [hmt] at h2 hM<;> simp only [Mt.on] at h2<;> simp only [MAt] at hM<;> omega
theorem w_call (O:PCOk T Goal X) {s:PS} {gs:Array Goroutine} {v:World} {sl:Option (Nat×Nat)} {t:Trace} (H:PI T Goal X s gs v t) (hfin: ∀n xs,s.mt= .fin n xs→False) {k:Nat} (hk:k< s.j) {i:Nat} {l:List Nat} {xs:Nat→Value} {x:GSt} (hσ:s.ws k= .text i l xs x∨s.ws k= .summ i l xs x):StepsTo T Goal X s gs v sl t (X.n0+k):=by
 obtain ⟨g,hg,hW⟩:=H.gs.work k hk
 have h4:=nW_le O H.ac H.gs
 have e6:=O.wg
 have hold:=H.wd.old.1
 have hwg0: ¬ s.ow k X.M.wg:=fun h=>by have:=(H.tr.own k _ hk h).1;omega
 rcases hσ with hσ|hσ
 ·rw [hσ] at hW
  obtain ⟨hd,ho,Y,h7,hC⟩:=hW
  have hr:(s.ws k).rank=22+2*l.length:=by rw [hσ];rfl
  rcases hC.step O.A with ⟨g1,v1,fs,x1,e,hC1,hn,hD⟩|⟨xv,y,fs,w1,e,hsafe,hkeep,hstr,_,hev⟩
  ·have hevs:=ev_call O (s':=s.wk s.mt k (.text i l xs x1) fun b=>s.ow k b∨(v.heap.size≤b∧b< v1.heap.size)) hk (s.wk_self s.mt k _ _).2 (v1:=v1) (fun b hb=>hb.elim (fun h=>Nat.lt_of_lt_of_le (H.tr.own k b hk h).2 hD.grow) (·.2)) (Nat.le_trans hold hD.grow) hD.evs
   exact workGo O H hk hg e (.text i l xs x1) _ s.st s.sm ⟨by rw [deaf_in hD.evs];exact hd,ho,Y,h7,hC1⟩ hD.grow (fun b hb hno _=>hD.away b hb hno) (fun b hb=>hb) (by rw [hD.away _ H.wd.size hwg0];exact H.wd.wg) ⟨hD.tape,hD.os,hD.output⟩
    (H.ac.wk _ (by rw [hσ];rfl) (fun h=>by cases h) (fun h=>by simp only [Wk.rank] at h;omega)) (fun mt' hm _=>H.wg.wk4 X hk _ (by omega) (by simp only [Wk.rank];omega) (by rw [hσ];rfl) mt' hm) hevs.1 hevs.2.1 (fun h=>by cases h) hevs.2.2 hfin (fun mt' hm=>dec_tree hk h4 (by rw [hσ];rfl) (by rw [hσ];rfl) (by rw [hσ];rfl) rfl hn mt' hm _ _ _)
  ·obtain ⟨t',rfl,hmid⟩:=job_mid O.A h7 hsafe hkeep
   obtain rfl:=hstr t' rfl
   have hevs:=ev_call O (s':=s.wk s.mt k (.ops i l (upd xs 13 (.string t'))) (s.ow k)) hk (s.wk_self s.mt k _ _).2 (v1:=v) (fun b hb=>(H.tr.own k b hk hb).2) hold hev
   obtain ⟨hh,hgd⟩:=good_cons ho.good
   simp only [headOk,Bool.and_eq_true,Bool.not_eq_true'] at hh
   have hne:l≠[]:=ne_nil_of (m:=5) hh.2
   have e':stepG Pg false g v= .go (gOps X.p (upd xs 13 (.string t')) l) v fs:=by rw [← op4_next];exact e
   exact workGo O H hk hg e' (.ops i l (upd xs 13 (.string t'))) (s.ow k) s.st s.sm ⟨rfl,by rw [deaf_in hev];exact hd,hne,hgd,ho.lt,ho.x4,fun h=>ho.d0 (by rw [contains_cons_ne _ (by omega)];exact h),fun h=>ho.d1 (by rw [contains_cons_ne _ (by omega)];exact h),fun h=>ho.d2 (by rw [contains_cons_ne _ (by omega)];exact h),fun h=>ho.d3 (by rw [contains_cons_ne _ (by omega)];exact h),fun _ _=>⟨t',rfl,hmid⟩,fun h=>(by rw [hh.2] at h;cases h),fun h=>ho.d6 (by rw [contains_cons_ne _ (by omega)];exact h)⟩ (Nat.le_refl _) (fun _ _ _ _=>rfl) (fun b hb=> .inl hb) H.wd.wg ⟨rfl,rfl,rfl⟩
    (H.ac.wk _ (by rw [hσ];rfl) (fun h=>by cases h) (fun h=>by simp only [Wk.rank] at h;omega)) (fun mt' hm _=>H.wg.wk4 X hk _ (by omega) (by simp only [Wk.rank];omega) (by rw [hσ];rfl) mt' hm) hevs.1 hevs.2.1 (fun h=>by cases h) hevs.2.2 hfin (fun mt' hm=>dec_rank hk (by rw [hσ];simp only [Wk.rank];omega) (by rw [hσ];rfl) mt' hm _ _ _)
 ·rw [hσ] at hW
  obtain ⟨hd,ho,Y,h7,hC⟩:=hW
  have hr:(s.ws k).rank=22+2*l.length:=by rw [hσ];rfl
  rcases hC.step O.A with ⟨g1,v1,fs,x1,e,hC1,hn,hD⟩|⟨xv,y,fs,w1,e,hsafe,hkeep,_,hint,hev⟩
  ·have hevs:=ev_call O (s':=s.wk s.mt k (.summ i l xs x1) fun b=>s.ow k b∨(v.heap.size≤b∧b< v1.heap.size)) hk (s.wk_self s.mt k _ _).2 (v1:=v1) (fun b hb=>hb.elim (fun h=>Nat.lt_of_lt_of_le (H.tr.own k b hk h).2 hD.grow) (·.2)) (Nat.le_trans hold hD.grow) hD.evs
   exact workGo O H hk hg e (.summ i l xs x1) _ s.st s.sm ⟨by rw [deaf_in hD.evs];exact hd,ho,Y,h7,hC1⟩ hD.grow (fun b hb hno _=>hD.away b hb hno) (fun b hb=>hb) (by rw [hD.away _ H.wd.size hwg0];exact H.wd.wg) ⟨hD.tape,hD.os,hD.output⟩
    (H.ac.wk _ (by rw [hσ];rfl) (fun h=>by cases h) (fun h=>by simp only [Wk.rank] at h;omega)) (fun mt' hm _=>H.wg.wk4 X hk _ (by omega) (by simp only [Wk.rank];omega) (by rw [hσ];rfl) mt' hm) hevs.1 hevs.2.1 (fun h=>by cases h) hevs.2.2 hfin (fun mt' hm=>dec_tree hk h4 (by rw [hσ];rfl) (by rw [hσ];rfl) (by rw [hσ];rfl) rfl hn mt' hm _ _ _)
  ·obtain rfl:=job_end O.A h7 hsafe
   obtain rfl:=hint (X.a i) rfl
   have hevs:=ev_call O (s':=s.wk s.mt k (.ops i l (upd xs 14 (.int .u64 (X.a i)))) (s.ow k)) hk (s.wk_self s.mt k _ _).2 (v1:=v) (fun b hb=>(H.tr.own k b hk hb).2) hold hev
   obtain ⟨hh,hgd⟩:=good_cons ho.good
   simp only [headOk,Bool.and_eq_true,Bool.not_eq_true'] at hh
   have hne:l≠[]:=ne_nil_of (m:=6) hh.2
   have e':stepG Pg false g v= .go (gOps X.p (upd xs 14 (.int .u64 (X.a i))) l) v fs:=by rw [← op5_next];exact e
   exact workGo O H hk hg e' (.ops i l (upd xs 14 (.int .u64 (X.a i)))) (s.ow k) s.st s.sm ⟨rfl,by rw [deaf_in hev];exact hd,hne,hgd,ho.lt,ho.x4,fun h=>ho.d0 (by rw [contains_cons_ne _ (by omega)];exact h),fun h=>ho.d1 (by rw [contains_cons_ne _ (by omega)];exact h),fun h=>ho.d2 (by rw [contains_cons_ne _ (by omega)];exact h),fun h=>ho.d3 (by rw [contains_cons_ne _ (by omega)];exact h),fun h h5=>ho.d4 (by rw [contains_cons_ne _ (by omega)];exact h) (by simp),fun _=>rfl,fun h=>ho.d6 (by rw [contains_cons_ne _ (by omega)];exact h)⟩ (Nat.le_refl _) (fun _ _ _ _=>rfl) (fun b hb=> .inl hb) H.wd.wg ⟨rfl,rfl,rfl⟩
    (H.ac.wk _ (by rw [hσ];rfl) (fun h=>by cases h) (fun h=>by simp only [Wk.rank] at h;omega)) (fun mt' hm _=>H.wg.wk4 X hk _ (by omega) (by simp only [Wk.rank];omega) (by rw [hσ];rfl) mt' hm) hevs.1 hevs.2.1 (fun h=>by cases h) hevs.2.2 hfin (fun mt' hm=>dec_rank hk (by rw [hσ];simp only [Wk.rank];omega) (by rw [hσ];rfl) mt' hm _ _ _)
end
end Go.Proofs.YtldmcdeibiclkaaGreatDoor.U
end
section
namespace Go.Proofs.YtldmcdeibiclkaaGreatDoor.U
open Go.Conc
open Go.ConcN (upd upd_same upd_ne sumTo sumTo_upd sumTo_congr le_sumTo RelBy)
section
variable {L:Lim} {T:Tab} {Goal:Frame→List Frame→World→Prop} {X:PC L}
theorem Wd.shape {s:PS} {v:World} (H:Wd X s v):v.shape? X.M.wg=some (188,2):=by simp [World.shape?,H.wg]
theorem Wd.cell0 {s:PS} {v:World} (H:Wd X s v):v.cell? ⟨X.M.wg,0,none⟩=some (.int .u64 s.st):=by simp [World.cell?,H.wg]
theorem Wd.cell1 {s:PS} {v:World} (H:Wd X s v):v.cell? ⟨X.M.wg,1,none⟩=some (.int .u32 s.sm):=by simp [World.cell?,H.wg]
theorem Wd.frozen {s:PS} {v:World} (H:Wd X s v) (o:Nat):v.frozen? ⟨X.M.wg,o,none⟩=false:=by simp [World.frozen?,H.wg]
theorem Wd.set0 {s:PS} {v:World} (H:Wd X s v) (st:Nat):(v.setCell ⟨X.M.wg,0,none⟩ (.int .u64 st)).heap[X.M.wg]? =some (.cells #[.int .u64 st,.int .u32 s.sm] 188):=by simp [World.setCell,Array.getElem?_modify,H.wg]
theorem Wd.set1 {s:PS} {v:World} (H:Wd X s v) (sm:Nat):(v.setCell ⟨X.M.wg,1,none⟩ (.int .u32 sm)).heap[X.M.wg]? =some (.cells #[.int .u64 s.st,.int .u32 sm] 188):=by simp [World.setCell,Array.getElem?_modify,H.wg]
theorem set_other (v:World) (b o:Nat) (x:Value):(v.setCell ⟨b,o,none⟩ x).heap.size=v.heap.size∧∀c,c≠b→(v.setCell ⟨b,o,none⟩ x).heap[c]? =v.heap[c]? :=
 ⟨by simp [World.setCell],fun c hc=>by simp [World.setCell,Array.getElem?_modify,Ne.symm hc]⟩
theorem ev_wg {s':PS} {g B:Nat} (hB:X.M.wg< B) {es:Array Event} (h: ∀e∈es,(∃o wr,e=⟨.cell ⟨X.M.wg,o,none⟩,wr,true⟩)∨e=mkE .disable∨e=mkE .enable∨e=mkE (.releaseMerge (stA' X))):
  (∀e∈es,∀a,(MemAct.ofEvent e).touch? =some a→a.loc.isMemory=true∧OkT (lots X s') g a)∧(∀e∈es,(MemAct.ofEvent e).low B)∧∀e∈es,e.loc≠.mark (.release (stA' X)):=by
 refine ⟨fun e he a ha=>?_,fun e he=>?_,fun e he=>?_⟩
 ·rcases h e he with ⟨o,wr,rfl⟩|rfl|rfl|rfl
  ·simp only [MemAct.ofEvent,MemAct.touch?,Option.some.injEq] at ha
   subst ha
   refine ⟨rfl,fun b hb=>?_⟩
   simp only [blk,Option.some.injEq] at hb
   subst hb
   exact .inr (.inr ⟨.inl rfl,by simp,by simp⟩)
  ·simp [mkE,MemAct.ofEvent,MemAct.touch?] at ha
  ·simp [mkE,MemAct.ofEvent,MemAct.touch?] at ha
  ·simp [mkE,MemAct.ofEvent,MemAct.touch?] at ha
 ·rcases h e he with ⟨o,wr,rfl⟩|rfl|rfl|rfl
  ·exact low_cell hB _ _
  ·trivial
  ·trivial
  ·exact hB
 ·rcases h e he with ⟨o,wr,rfl⟩|rfl|rfl|rfl<;> simp [mkE]
theorem rel_new {a:Addr} {t:Trace} {k:Nat} (hd:Deaf t k=0) (fn:FuncId) (pos:String): ∃r,RelBy a (t++MemOp.ofEvents k fn pos #[mkE (.releaseMerge a)]) k r:=by
 have e:MemOp.ofEvents k fn pos #[mkE (.releaseMerge a)]=#[{g:=k,fn,pos,act:= .mark (.releaseMerge a)}]:=by simp [ofEvents_eq,mkE,MemAct.ofEvent]
 rw [e]
 have hx:(t++#[({g:=k,fn,pos,act:= .mark (.releaseMerge a)}:MemOp)])[t.size]? =some {g:=k,fn,pos,act:= .mark (.releaseMerge a)}:=by rw [Array.getElem?_append_right (Nat.le_refl _)];simp
 refine ⟨t.size,by simp [Trace.act?,hx],by simp [Trace.g?,hx],⟨k,by simp [Trace.g?,hx],by rw [deaf_old (Nat.le_refl _)];exact hd⟩,fun i hi hg=>?_⟩
 have:(t++#[({g:=k,fn,pos,act:= .mark (.releaseMerge a)}:MemOp)]).g? i=none:=by simp [Trace.g?];omega
 rw [this] at hg
 cases hg
theorem w_conv (O:PCOk T Goal X) {s:PS} {gs:Array Goroutine} {v:World} {sl:Option (Nat×Nat)} {t:Trace} (H:PI T Goal X s gs v t) (hfin: ∀n xs,s.mt= .fin n xs→False) {k:Nat} (hk:k< s.j) {xs:Nat→Value} (hσ:s.ws k= .conv 0 xs):StepsTo T Goal X s gs v sl t (X.n0+k):=by
 obtain ⟨g,hg,hW⟩:=H.gs.work k hk
 rw [hσ] at hW
 obtain ⟨hgl,hd⟩:=hW
 cases hgl
 have e:=AtOp.value (anConv_op (cD X.p xs::csD X.p xs) X.M.wg) (anConv_feed _ _) (w:=v) (w':=v) (es:=#[]) ⟨H.wd.shape,H.wd.shape,rfl,rfl⟩
 rw [seen_empty] at e
 have hr:(s.ws k).rank=7:=by rw [hσ];rfl
 exact workGo O H hk hg e (.relm xs) (s.ow k) s.st s.sm ⟨rfl,hd⟩ (Nat.le_refl _) (fun _ _ _ _=>rfl) (fun b hb=> .inl hb) H.wd.wg ⟨rfl,rfl,rfl⟩
  (H.ac.wk _ (by rw [hσ];rfl) (fun h=>by cases h) (fun _=>H.ac.gone k hk (by omega))) (fun mt' hm _=>H.wg.wk4 X hk _ (by omega) (by simp [Wk.rank]) (by rw [hσ];rfl) mt' hm) (fun e he=>by simp at he) (fun e he=>by simp at he) (fun h=>by cases h) (fun e he=>by simp at he) hfin (fun mt' hm=>dec_rank hk (by rw [hσ];simp [Wk.rank]) (by rw [hσ];rfl) mt' hm _ _ _)
theorem w_relm (O:PCOk T Goal X) {s:PS} {gs:Array Goroutine} {v:World} {sl:Option (Nat×Nat)} {t:Trace} (H:PI T Goal X s gs v t) (hfin: ∀n xs,s.mt= .fin n xs→False) {k:Nat} (hk:k< s.j) {xs:Nat→Value} (hσ:s.ws k= .relm xs):StepsTo T Goal X s gs v sl t (X.n0+k):=by
 obtain ⟨g,hg,hW⟩:=H.gs.work k hk
 rw [hσ] at hW
 obtain ⟨rfl,hd⟩:=hW
 have e:=anRelm_step (cD X.p xs::csD X.p xs) X.M.wg v
 have hr:(s.ws k).rank=6:=by rw [hσ];rfl
 have hev:=ev_wg (X:=X) (s':=s.wk s.mt k (.dis 3 xs) (s.ow k)) (g:=X.n0+k) H.wd.size (es:=#[mkE (.releaseMerge (stA' X))]) (fun e he=>by simp at he;exact .inr (.inr (.inr he)))
 exact workGo O H hk hg e (.dis 3 xs) (s.ow k) s.st s.sm ⟨(anRelm_slid _ _).glide,hd⟩ (Nat.le_refl _) (fun _ _ _ _=>rfl) (fun b hb=> .inl hb) H.wd.wg ⟨rfl,rfl,rfl⟩
  (H.ac.wk _ (by rw [hσ];rfl) (fun h=>by cases h) (fun _=>H.ac.gone k hk (by omega))) (fun mt' hm _=>H.wg.wk4 X hk _ (by omega) (by simp [Wk.rank]) (by rw [hσ];rfl) mt' hm) hev.1 hev.2.1 (fun _=>rel_new hd _ _) hev.2.2 hfin (fun mt' hm=>dec_rank hk (by rw [hσ];simp [Wk.rank]) (by rw [hσ];rfl) mt' hm _ _ _)
theorem w_dis (O:PCOk T Goal X) {s:PS} {gs:Array Goroutine} {v:World} {sl:Option (Nat×Nat)} {t:Trace} (H:PI T Goal X s gs v t) (hfin: ∀n xs,s.mt= .fin n xs→False) {k:Nat} (hk:k< s.j) {xs:Nat→Value} (hσ:s.ws k= .dis 0 xs):StepsTo T Goal X s gs v sl t (X.n0+k):=by
 obtain ⟨g,hg,hW⟩:=H.gs.work k hk
 rw [hσ] at hW
 obtain ⟨hgl,hd⟩:=hW
 cases hgl
 have e:=anDis_step (cD X.p xs::csD X.p xs) X.M.wg v
 have hr:(s.ws k).rank=5:=by rw [hσ];rfl
 have hev:=ev_wg (X:=X) (s':=s.wk s.mt k (.add 34 xs) (s.ow k)) (g:=X.n0+k) H.wd.size (es:=#[mkE .disable]) (fun e he=>by simp at he;exact .inr (.inl he))
 obtain ⟨r,hrel⟩:=H.tr.rel k hk (by rw [hσ];rfl)
 exact workGo O H hk hg e (.add 34 xs) (s.ow k) s.st s.sm ⟨anDis_glide _ _,by rw [hd];rfl⟩ (Nat.le_refl _) (fun _ _ _ _=>rfl) (fun b hb=> .inl hb) H.wd.wg ⟨rfl,rfl,rfl⟩
  (H.ac.wk _ (by rw [hσ];rfl) (fun h=>by cases h) (fun _=>H.ac.gone k hk (by omega))) (fun mt' hm _=>H.wg.wk4 X hk _ (by omega) (by simp [Wk.rank]) (by rw [hσ];rfl) mt' hm) hev.1 hev.2.1 (fun _=>⟨r,RelBy.still hrel fun op hop=>by obtain ⟨e,he,rfl⟩:=Go.Conc.mem_ofEvents hop;simp at he;subst he;rfl⟩) hev.2.2 hfin (fun mt' hm=>dec_rank hk (by rw [hσ];simp [Wk.rank]) (by rw [hσ];rfl) mt' hm _ _ _)
theorem w_quit (O:PCOk T Goal X) {s:PS} {gs:Array Goroutine} {v:World} {sl:Option (Nat×Nat)} {t:Trace} (H:PI T Goal X s gs v t) (hfin: ∀n xs,s.mt= .fin n xs→False) {k:Nat} (hk:k< s.j) {q:Nat} (hσ:s.ws k= .quit q) {g:Goroutine} (hg:gs[X.n0+k]? =some g) (hrun:g.status= .running):StepsTo T Goal X s gs v sl t (X.n0+k):=by
 obtain ⟨g',hg',hW⟩:=H.gs.work k hk
 rw [hg] at hg'
 cases hg'
 rw [hσ] at hW
 cases q with
 |zero=>rw [hW.1] at hrun;cases hrun
 |succ q=>
  rcases hW with ⟨hf,_⟩|⟨_,g1,es,hm,hst,hq⟩
  ·rw [hf] at hrun;cases hrun
  have hl:Like (s.ws k) (.quit q):=by rw [hσ];exact ⟨rfl,rfl,rfl,rfl,rfl,rfl⟩
  obtain ⟨r,hrel⟩:=H.tr.rel k hk (by rw [hσ];rfl)
  refine workGo O H hk hg (hst v) (.quit q) (s.ow k) s.st s.sm hq (Nat.le_refl _) (fun _ _ _ _=>rfl) (fun b hb=> .inl hb) H.wd.wg ⟨rfl,rfl,rfl⟩ (fun mt' hm=>H.ac.like hm hl _) (fun mt' hm _=>H.wg.like X hm hk hl _) (fun e he a ha=>by rw [touch_mute (hm e he)] at ha;cases ha) (fun e he=>low_mute (hm e he) _) (fun _=>⟨r,RelBy.still hrel fun op hop=>by obtain ⟨e,he,rfl⟩:=Go.Conc.mem_ofEvents hop;exact touch_mute (hm e he)⟩) (fun e he h=>?_) hfin (fun mt' hm=>?_)
  ·have:=hm e he
   obtain ⟨loc,wr,sy⟩:=e
   simp only at h
   subst h
   simp [Event.mute] at this
  ·have h1:=s.wk_sum mt' hk (.quit q) (s.ow k) Wk.rank
   have h2:=s.wk_c mt' hk (.quit q) (s.ow k)
   have h5:=s.wk_sum mt' hk (.quit q) (s.ow k) Wk.idle
   rw [hl.rank] at h1
   rw [hl.cnt] at h2
   have hid:(s.ws k).idle=q+1:=by rw [hσ];rfl
   have hid':(Wk.quit q).idle=q:=rfl
   have hf:=hm.facts (X:=X)
   have h3:(s.wk mt' k (.quit q) (s.ow k)).c=s.c:=by omega
   refine .inr (.inr ⟨?_,s.wk_kap mt' (.quit q) (s.ow k) hl.tree,?_⟩)
   ·show mt'.rank (s.wk mt' k (.quit q) (s.ow k)).c+sumTo s.j (fun i=>((s.wk mt' k (.quit q) (s.ow k)).ws i).rank)+12*(s.wk mt' k (.quit q) (s.ow k)).c+60*(X.E.n - s.rN)=s.mt.rank s.c+sumTo s.j (fun i=>(s.ws i).rank)+12*s.c+60*(X.E.n - s.rN)
    rw [h3,hf.1 s.c]
    omega
   ·show mt'.idle+2*sumTo s.j (fun i=>((s.wk mt' k (.quit q) (s.ow k)).ws i).idle)+2*sumTo X.n0 s.q< s.mt.idle+2*sumTo s.j (fun i=>(s.ws i).idle)+2*sumTo X.n0 s.q
    have:=hf.2.2.2.2.2.2.2.2.2.1
    omega
end
end Go.Proofs.YtldmcdeibiclkaaGreatDoor.U
end
