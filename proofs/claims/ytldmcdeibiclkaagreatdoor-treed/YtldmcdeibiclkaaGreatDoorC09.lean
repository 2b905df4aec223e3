/-
  Toward: treed_holds, each node's digest is that of its children's, for every argument of Treed. A GOROUTINE's STEP, SIDE BY SIDE: frames, coloured.
  A GOROUTINE's STEP, SIDE BY SIDE: frames; an operation carried out.
  A GOROUTINE's STEP, SIDE BY SIDE: loops over functions; results.
-/
import Derived.Test.YtldmcdeibiclkaaGreatDoorC08
import Derived.Conc.Listed
set_option linter.unusedVariables false
set_option linter.unusedSimpArgs false
set_option maxRecDepth 4000
section
namespace Go.Proofs.YtldmcdeibiclkaaGreatDoor.U
open Go.Conc
inductive L2 {α β:Type} (R:α→β→Prop):List α→List β→Prop
 |nil:L2 R [] []
 |cons {a:α} {b:β} {as:List α} {bs:List β}:R a b→L2 R as bs→L2 R (a::as) (b::bs)
def dstCol (L:Lim) (f:FuncId) (o:Oper):Col:=(o.dst.map (L.col f)).getD .any
def okOps (P:Program) (L:Lim) (T:Tab) (f:FuncId) (ops:Array Oper):Bool:=ops.all fun o=>okOp P L T f (dstCol L f o) o.op
def okCode (P:Program) (L:Lim) (T:Tab) (f:FuncId):Code→Bool
 | .skip| .ret| .exit _| .refuse _=>true
 | .region _ ops _=>okOps P L T f ops
 | .seq a b=>okCode P L T f a && okCode P L T f b
 | .cond c a b=>fits L T f .any c && okCode P L T f a && okCode P L T f b
 | .block _ c| .loop c=>okCode P L T f c
 | .rangeFunc x ps a c=>fits L T f .itr x && ps.all (fun p=>decide (L.col f p= .any)) && okCode P L T f a && okCode P L T f c
 |_=>false
def okRes (L:Lim) (T:Tab) (f:FuncId) (fn:Func):Bool:=
 match fn.results.toList with
 |[.tmp t]=>fitsCol T.fl (L.col f t) (L.res f)
 |rs=>fitsCol T.fl .any (L.res f) && rs.all fun r=>match r with| .tmp t=>fitsCol T.fl (L.col f t) .any| .cell a _=>fitsCol T.fl (L.col f a) .any
section
variable (P:Program) (G:Array Func) (L:Lim) (T:Tab) (τ:Tri)
abbrev CC:FuncId→Code→Prop:=fun f c=>okCode P L T f c=true∧f≠T.pool
inductive ItemR (f:FuncId):Item→Item→Prop
 |code {c:Code}:okCode P L T f c=true→ItemR f (.code c) (.code c)
 |inBlock (id:Nat):ItemR f (.inBlock id) (.inBlock id)
 |inLoop {c:Code}:okCode P L T f c=true→ItemR f (.inLoop c) (.inLoop c)
 |inRegion {ops:Array Oper} (todo:List Nat):okOps P L T f ops=true→ItemR f (.inRegion ops todo) (.inRegion ops todo)
 |inRangeFunc {l m:Nat}:τ.lp l m→ItemR f (.inRangeFunc l) (.inRangeFunc m)
 |endRangeFunc {l m:Nat}:τ.lp l m→ItemR f (.endRangeFunc l) (.endRangeFunc m)
 |beginRound:ItemR f .beginRound .beginRound
inductive MarkR:Deferred→Deferred→Prop
 |collected {r s:Nat}:τ.lp r s→MarkR {target:= .collected r,args:=#[]} {target:= .collected s,args:=#[]}
structure FrR (fr gr:Frame):Prop where
 fn:gr.fn=fr.fn
 let_:L.fn fr.fn
 np:fr.fn≠T.pool
 tmps:TR L τ fr.fn fr.tmps gr.tmps
 todo:L2 (ItemR P L T τ fr.fn) fr.todo gr.todo
 defers:L2 (MarkR τ) fr.defers gr.defers
 mode:gr.mode=fr.mode
 run:fr.mode= .run∨(fr.mode= .returning∧fr.roundOf=none)
 kind:fr.kind= .normal∧gr.kind= .normal
 round:NR τ.lp fr.roundOf gr.roundOf
inductive TopR:Frame→Frame→Prop
 |run {fr gr:Frame}:FrR P L T τ fr gr→TopR fr gr
 |pool {xs ys:Array Value}:L.fn T.pool→TR L τ T.pool xs ys→(∀k,L.ar T.pool=some k→xs.size=k)→TopR (Frame.enter (gp P G) T.pool xs .normal) (Frame.enter P T.pool ys .normal)
def retCol (L:Lim) (fr:Frame):Col:=if fr.roundOf.isSome then .any else L.res fr.fn
def FinOk (c:Col) (fr:Frame):Prop:=∀ops i rest k d,fr.todo= .inRegion ops (i::rest)::k→(ops[i]?).bind (·.dst)=some d→fitsCol T.fl c (L.col fr.fn d)=true
inductive ChR:Col→List Frame→List Frame→Prop
 |nil (c:Col):ChR c [] []
 |cons {c:Col} {fr gr:Frame} {cs ds:List Frame}:FrR P L T τ fr gr→FinOk L T c fr→ChR (retCol L fr) cs ds→ChR c (fr::cs) (gr::ds)
def BotOk:Frame→List Frame→Prop
 |fr,[]=>fr.roundOf=none
 |_,c::cs=>BotOk c cs
structure GR (B D:List Frame) (g h:Goroutine):Prop where
 frame:TopR P G L T τ g.frame h.frame
 status:g.status= .running∧h.status= .running
 dying:g.dying=none∧h.dying=none
 offers:g.offers=none∧h.offers=none
 callers: ∃cs ds,g.callers=cs++B∧h.callers=ds++D∧ChR P L T τ (retCol L g.frame) cs ds∧BotOk g.frame cs
structure Let:Prop where
 body: ∀f,L.fn f→f≠T.pool→∃fn c,P.funcs[f]? =some fn∧G[f]? =some fn∧fn.body=some c∧okCode P L T f c=true∧okRes L T f fn=true
 plain: ∀f,L.fn f→(∃fn,P.funcs[f]? =some fn∧(fn.name== "runtime.NumGoroutine")=false∧fn.body.isNone=false∧fn.norace=false)∧(∃fn,G[f]? =some fn∧(fn.name== "runtime.NumGoroutine")=false∧fn.body.isNone=false∧fn.norace=false)
 tab:TabOk L T
 ahead:P.follows .staticDataAhead=true
 noStep: ∀g,(gp P G).stepOf g=none
end
section
variable {P:Program} {G:Array Func} {L:Lim} {T:Tab} {τ:Tri} {k₀:Kd} {N:Nat} {B D:List Frame}
theorem Let.bodied (K:Let P G L T):Bodied P G L:=fun f hf=>by
 obtain ⟨⟨fn,h1,h2,h3,_⟩,⟨gn,g1,g2,g3,_⟩⟩:=K.plain f hf
 exact ⟨⟨fn,h1,h2,h3⟩,⟨gn,g1,g2,g3⟩⟩
theorem Let.norace (K:Let P G L T) {f:FuncId} (hf:L.fn f):(P.funcs[f]?).any (·.norace)=false∧((gp P G).funcs[f]?).any (·.norace)=false:=by
 obtain ⟨⟨fn,h1,_,_,h4⟩,⟨gn,g1,_,_,g4⟩⟩:=K.plain f hf
 exact ⟨by rw [h1];exact h4,by rw [gp_funcs,g1];exact g4⟩
structure Fine (g:Goroutine):Prop where
 status:g.status= .running
 dying:g.dying=none
 mode: ∀c,g.frame.mode≠.panicking c
 kind:g.frame.kind= .normal
def Res (P:Program) (G:Array Func) (L:Lim) (T:Tab) (τ:Tri) (k₀:Kd) (N:Nat) (B D:List Frame) (w v:World) (s t:GStep):Prop:=
 ∀g1 w1 es,s= .go g1 w1 es→Fine g1→w1.heap.size≤N→(∀j q,w.drawn+j< w1.drawn→v.tape (v.drawn+j) q=w.tape (w.drawn+j) q)→
  ∃h1 v1 fs,t= .go h1 v1 fs∧GR P G L T τ B D g1 h1∧Both L (CC P L T) τ k₀ N w v w1 v1 #[] #[] es fs
theorem Res.go {w v:World} {g h:Goroutine} (hs:Sync L (CC P L T) τ k₀ N w v) (hg:GR P G L T τ B D g h):Res P G L T τ k₀ N B D w v (.go g w) (.go h v):=by
 intro g1 w1 es e _ _ _
 cases e
 exact ⟨h,v,#[],rfl,hg,.refl hs⟩
theorem Res.ended {w v:World} {o:Outcome} {x:World} {es:Array Event} {t:GStep}:Res P G L T τ k₀ N B D w v (.ended o x es) t:=by
 intro g1 w1 es e;cases e
theorem ev_noExtern {zs:Array (Event×Event)} (h: ∀z∈zs,EvR τ z.1 z.2):(∀e∈zs.map (·.1),∀f,e.loc≠.mark (.extern f))∧∀e∈zs.map (·.2),∀f,e.loc≠.mark (.extern f):=by
 constructor
 ·intro e he f
  obtain ⟨⟨z1,z2⟩,hz,rfl⟩:=Array.mem_map.1 he
  have hx:EvR τ z1 z2:=h _ hz
  cases hx<;> simp
 ·intro e he f
  obtain ⟨⟨z1,z2⟩,hz,rfl⟩:=Array.mem_map.1 he
  have hx:EvR τ z1 z2:=h _ hz
  cases hx<;> simp
theorem Res.sem (K:Let P G L T) (hb:Fit τ) (hd: ∀r s,τ.un r s→r< N) {w v:World} (hs:Sync L (CC P L T) τ k₀ N w v) {α β:Type} {R:α→β→Prop} {p:Sem α} {q:Sem β} (h:SemR P G L (CC P L T) τ k₀ R p q)
  {f f':FuncId} (hf:L.fn f) (hf':L.fn f') {k:Result α→GStep} {l:Result β→GStep}
  (hh: ∀hh w',∀g1 w1 es,k (.halt hh w')= .go g1 w1 es→¬ Fine g1)
  (hw: ∀a w1 g1 w2 es,k (.ok a w1)= .go g1 w2 es→w2=w1∧es=#[])
  (hk: ∀a b w1 v1,R a b→∀g1,k (.ok a w1)= .go g1 w1 #[]→Fine g1→∃h1,l (.ok b v1)= .go h1 v1∧GR P G L T τ B D g1 h1):
  Res P G L T τ k₀ N B D w v (GStep.after (seen (gp P G) f (p.runT (gp P G) w #[]).2) (k (p.runT (gp P G) w #[]).1)) (GStep.after (seen P f' (q.runT P v #[]).2) (l (q.runT P v #[]).1)):=by
 intro g1 w1 es e hfi hN ht
 cases hr:p.runT (gp P G) w #[] with
 |mk r es0=>
  rw [hr] at e
  cases r with
  |halt hx w'=>
   exfalso
   simp only at e
   cases hkk:k (.halt hx w') with
   |go g' w'' es'=>
    rw [hkk] at e
    simp only [GStep.after,GStep.go.injEq] at e
    obtain ⟨rfl,rfl,_⟩:=e
    exact hh hx w' _ _ _ hkk hfi
   |_=>rw [hkk] at e;cases e
  |ok a w'=>
   simp only at e
   cases hkk:k (.ok a w') with
   |go g' w'' es'=>
    rw [hkk] at e
    simp only [GStep.after,GStep.go.injEq] at e
    obtain ⟨rfl,rfl,rfl⟩:=e
    obtain ⟨rfl,rfl⟩:=hw _ _ _ _ _ hkk
    obtain ⟨b,v1,fs1,e1,hR,hB⟩:=h.adequate hb w v #[] #[] a w'' es0 hs hr hN ht hd
    obtain ⟨h1,e2,hG⟩:=hk a b w'' v1 hR _ hkk hfi
    obtain ⟨zs,z1,z2,z3⟩:=hB.events
    have hne:=ev_noExtern z3
    have q1:seen (gp P G) f es0=es0:=seen_eq (K.norace hf).2 (by rw [z1];simpa using hne.1)
    have q2:seen P f' fs1=fs1:=seen_eq (K.norace hf').1 (by rw [z2];simpa using hne.2)
    refine ⟨h1,v1,fs1,?_,hG,?_⟩
    ·rw [e1]
     simp only [e2,GStep.after,q2,Array.append_empty]
    ·rw [q1,Array.append_empty]
     exact hB
   |_=>rw [hkk] at e;cases e
end
end Go.Proofs.YtldmcdeibiclkaaGreatDoor.U
end
section
namespace Go.Proofs.YtldmcdeibiclkaaGreatDoor.U
open Go.Conc
section
variable {P:Program} {G:Array Func} {L:Lim} {T:Tab} {τ:Tri} {k₀:Kd} {N:Nat} {B D:List Frame}
theorem FrR.eval (K:Let P G L T) (hb:TriOk τ) (hfl:Flat T τ) {fr gr:Frame} (h:FrR P L T τ fr gr) (c:Col) (x:Operand) (hx:fits L T fr.fn c x=true):CR L τ c (fr.eval x) (gr.eval x):=by
 cases x with
 |tmp t=>exact CR.fit hb hfl hx (h.tmps.getD t)
 |const v=>
  simp only [fits,Bool.or_eq_true,Bool.and_eq_true] at hx
  rcases hx with ⟨h1,h2⟩|⟨h1,h2⟩
  ·exact CR.ofFlat h2 fun π=> .ofConst h1
  ·cases v<;> first|(cases h2;done)|skip
   cases c with
   |itr=>exact .inr (.inl ⟨rfl,rfl⟩)
   |loc=>exact .inr (.inl ⟨rfl,rfl⟩)
   |_=>cases h1
 |func f=>
  simp only [fits,Bool.and_eq_true] at hx
  exact CR.ofFlat hx.2 fun π=> .ofFunc (K.tab.cb f hx.1)
 |global g=>
  simp only [fits,Bool.and_eq_true,decide_eq_true_eq] at hx
  exact CR.any hb hfl hx.2 (.ptr ⟨hfl.2 g hx.1,rfl,rfl⟩)
theorem FrR.to {fr gr:Frame} (h:FrR P L T τ fr gr) {k l:List Item} (hk:L2 (ItemR P L T τ fr.fn) k l):FrR P L T τ {fr with todo:=k} {gr with todo:=l}:=
 ⟨h.fn,h.let_,h.np,h.tmps,hk,h.defers,h.mode,h.run,h.kind,h.round⟩
theorem FrR.leave {fr gr:Frame} (h:FrR P L T τ fr gr) (hr:fr.roundOf=none):FrR P L T τ {fr with mode:= .returning} {gr with mode:= .returning}:=
 ⟨h.fn,h.let_,h.np,h.tmps,h.todo,h.defers,rfl,.inr ⟨rfl,hr⟩,h.kind,h.round⟩
theorem FrR.finish (hb:TriOk τ) (hfl:Flat T τ) {fr gr:Frame} (h:FrR P L T τ fr gr) {c:Col} (hc:FinOk L T c fr) {v w:Value} (hv:CR L τ c v w):FrR P L T τ (fr.finish v) (gr.finish w):=by
 have ht:=h.todo
 have ht':=h.tmps
 unfold Frame.finish
 generalize e1:fr.todo=k at ht
 generalize e2:gr.todo=l at ht
 cases ht with
 |nil=>exact h
 |cons hi hk=>
  cases hi with
  |@inRegion ops todo hops=>
   cases todo with
   |nil=>exact h
   |cons i rest=>
    dsimp only
    refine ⟨h.fn,h.let_,h.np,?_,.cons (.inRegion rest hops) hk,h.defers,h.mode,h.run,h.kind,h.round⟩
    cases hd:(ops[i]?).bind (·.dst) with
    |none=>exact ht'
    |some d=>exact ht'.set (CR.fit hb hfl (hc ops i rest _ d e1 hd) hv)
  |inRangeFunc hl=>exact ⟨h.fn,h.let_,h.np,ht',.cons (.endRangeFunc hl) hk,h.defers,h.mode,h.run,h.kind,h.round⟩
  |beginRound=>exact ⟨h.fn,h.let_,h.np,ht',hk,h.defers,h.mode,h.run,h.kind,h.round⟩
  |_=>exact h
theorem FrR.finishU {fr gr:Frame} (h:FrR P L T τ fr gr):FrR P L T τ (fr.finish undef) (gr.finish undef):=by
 have ht:=h.todo
 have ht':=h.tmps
 unfold Frame.finish
 generalize e1:fr.todo=k at ht
 generalize e2:gr.todo=l at ht
 cases ht with
 |nil=>exact h
 |cons hi hk=>
  cases hi with
  |@inRegion ops todo hops=>
   cases todo with
   |nil=>exact h
   |cons i rest=>
    dsimp only
    refine ⟨h.fn,h.let_,h.np,?_,.cons (.inRegion rest hops) hk,h.defers,h.mode,h.run,h.kind,h.round⟩
    cases hd:(ops[i]?).bind (·.dst) with
    |none=>exact ht'
    |some d=>exact ht'.set (CR.undef _)
  |inRangeFunc hl=>exact ⟨h.fn,h.let_,h.np,ht',.cons (.endRangeFunc hl) hk,h.defers,h.mode,h.run,h.kind,h.round⟩
  |beginRound=>exact ⟨h.fn,h.let_,h.np,ht',hk,h.defers,h.mode,h.run,h.kind,h.round⟩
  |_=>exact h
theorem finish_roundOf (fr:Frame) (v:Value):(fr.finish v).roundOf=fr.roundOf:=by
 unfold Frame.finish
 split<;> rfl
theorem finish_fn (fr:Frame) (v:Value):(fr.finish v).fn=fr.fn:=by
 unfold Frame.finish
 split<;> rfl
theorem finish_retCol (fr:Frame) (v:Value):retCol L (fr.finish v)=retCol L fr:=by
 unfold retCol
 rw [finish_roundOf,finish_fn]
theorem finish_mode (fr:Frame) (v:Value):(fr.finish v).mode=fr.mode:=by
 unfold Frame.finish
 split<;> rfl
theorem BotOk.same {fr gr:Frame} {cs:List Frame} (h:BotOk fr cs) (e:gr.roundOf=fr.roundOf):BotOk gr cs:=by
 cases cs with
 |nil=>exact e.trans h
 |cons c cs=>exact h
theorem yielded_eq {f:FuncId} {ops:Array Oper} {xs ys:Array Value} (h:TR L τ f xs ys) (j:Nat):yielded ops ys j=yielded ops xs j:=by
 unfold yielded
 cases (ops[j]?).bind (·.dst) with
 |none=>rfl
 |some d=>
  simp only [Option.bind_some]
  by_cases hi:d< xs.size
  ·have hj:d< ys.size:=by rw [h.1];exact hi
   rw [Array.getElem?_eq_getElem hi,Array.getElem?_eq_getElem hj]
   have hc:=h.2 d _ _ (Array.getElem?_eq_getElem hi) (Array.getElem?_eq_getElem hj)
   revert hc
   generalize xs[d]=x
   generalize ys[d]=y
   generalize L.col f d=c
   intro hc
   have fun_: ∀{p n},FunV L p n τ x y→(match some y with|some (.bool b)=>some b|_=>none)=(match some x with|some (.bool b)=>some b|_=>none):=by
    rintro p n (⟨rfl,rfl⟩|⟨rfl,rfl⟩|⟨_,_,_,rfl,rfl,_⟩)<;> rfl
   have vr: ∀{π},VR L π x y→(match some y with|some (.bool b)=>some b|_=>none)=(match some x with|some (.bool b)=>some b|_=>none):=fun hv=>by
    cases hv with
    |junk s a b c=>
     dsimp only
     cases hj:L.junk s<;> first|rfl|exact absurd hj (c _)
    |_=>rfl
   cases c with
   |any=>exact vr hc
   |own=>exact vr hc
   |box=>exact vr hc
   |yld=>rcases hc with ⟨rfl,rfl⟩|⟨_,_,rfl,rfl,_⟩<;> rfl
   |itr=>exact fun_ hc
   |loc=>exact fun_ hc
  ·have h1:xs.size≤d:=Nat.le_of_not_lt hi
   have h2:ys.size≤d:=by rw [h.1];exact h1
   rw [Array.getElem?_eq_none h1,Array.getElem?_eq_none h2]
theorem FrR.enter (K:Let P G L T) {f:FuncId} (hf:L.fn f) (hn:f≠T.pool) {xs ys:Array Value} (h:TR L τ f xs ys):FrR P L T τ (Frame.enter (gp P G) f xs .normal) (Frame.enter P f ys .normal):=by
 obtain ⟨fn,c,h1,g1,h2,h3,_⟩:=K.body f hf hn
 unfold Frame.enter
 rw [gp_funcs,h1,g1]
 simp only [Option.map_some,Option.getD_some,Option.bind_some,h2]
 refine ⟨rfl,hf,hn,?_,.cons (.code h3) .nil,.nil,rfl,.inl rfl,⟨rfl,rfl⟩,trivial⟩
 rw [h.size]
 exact h.pad _
theorem TopR.enter (K:Let P G L T) {f:FuncId} (hf:L.fn f) {xs ys:Array Value} (h:TR L τ f xs ys) (ha: ∀k,L.ar f=some k→xs.size=k):TopR P G L T τ (Frame.enter (gp P G) f xs .normal) (Frame.enter P f ys .normal):=by
 by_cases hn:f=T.pool
 ·subst hn;exact .pool hf h ha
 ·exact .run (FrR.enter K hf hn h)
theorem FrR.roundFrame {l m:Nat} (hl:τ.lp l m) {f:FuncId} (hf:L.fn f) (hn:f≠T.pool) {xs ys:Array Value} (h:TR L τ f xs ys) {a b:Code} (ha:okCode P L T f a=true) (hb:okCode P L T f b=true):
  FrR P L T τ (Frame.round l f xs a b .normal) (Frame.round m f ys a b .normal):=
 ⟨rfl,hf,hn,h,.cons (.code ha) (.cons .beginRound (.cons (.code hb) .nil)),.nil,rfl,.inl rfl,⟨rfl,rfl⟩,hl⟩
theorem kind_normal {f:FuncId} {k l:List Item} (h:L2 (ItemR P L T τ f) k l):(match k with| .call _ true _ _::_=>CallKind.wrapped|_=>CallKind.normal)= .normal∧(match l with| .call _ true _ _::_=>CallKind.wrapped|_=>CallKind.normal)= .normal:=by
 cases h with
 |nil=>exact ⟨rfl,rfl⟩
 |cons hi _=>cases hi<;> exact ⟨rfl,rfl⟩
theorem endFatal_dying {Q:Program} {fr:Frame} {cs:List Frame} {m:String} {w w1:World} {g1:Goroutine} {es0 es:Array Event} (h:GStep.after es0 (endFatal Q fr cs none m w)= .go g1 w1 es):g1.dying≠none:=by
 unfold endFatal at h
 dsimp only at h
 split at h
 ·simp only [dieOf,GStep.after,GStep.go.injEq] at h
  obtain ⟨rfl,_⟩:=h
  simp
 ·cases h
 ·cases h
theorem early_not {Q:Program} (hah:Q.follows .staticDataAhead=true) (hns: ∀g,Q.stepOf g=none) {fr:Frame} {cs:List Frame} {g:Nat} {w' w1:World} {g1:Goroutine} {es0 es:Array Event} (h:GStep.after es0 (early Q fr cs none g w')= .go g1 w1 es):False:=by
 unfold early at h
 simp only [hah,hns] at h
 cases h
theorem apply_ok {Q:Program} (hah:Q.follows .staticDataAhead=true) (hns: ∀g,Q.stepOf g=none) {fr:Frame} (hk:fr.kind= .normal) {cs:List Frame} {p:Sem Next} {w w1:World} {g1:Goroutine} {es:Array Event} (e:stepG.apply Q true fr cs none p w= .go g1 w1 es) (hfi:Fine g1):
  ∃a es0,p.runT Q w #[]=(.ok a w1,es0):=by
 have hst:=hfi.status
 have hmd:=hfi.mode
 have hke:(fr.kind==CallKind.early)=false:=by rw [hk];rfl
 cases hr:p.runT Q w #[] with
 |mk r es0=>
  cases r with
  |halt hx w'=>
   exfalso
   simp only [stepG.apply,if_true,hr,hke,Bool.false_eq_true,if_false] at e
   cases hx with
   |panic x=>
    simp only [GStep.after,GStep.go.injEq] at e
    obtain ⟨rfl,_⟩:=e
    unfold Frame.raise at hmd
    split at hmd<;> exact hmd _ rfl
   |goexit=>
    simp only [GStep.after,GStep.go.injEq] at e
    obtain ⟨rfl,_⟩:=e
    unfold Frame.raise at hmd
    split at hmd<;> exact hmd _ rfl
   |blocked=>
    simp only [GStep.after,GStep.go.injEq] at e
    obtain ⟨rfl,_⟩:=e
    cases hst
   |waiting=>
    simp only [GStep.after,GStep.go.injEq] at e
    obtain ⟨rfl,_⟩:=e
    cases hst
   |exit c=>cases e
   |fatal m=>exact absurd hfi.dying (endFatal_dying e)
   |throw m=>
    simp only [endThrow,dieOf,GStep.after,GStep.go.injEq] at e
    obtain ⟨rfl,_⟩:=e
    cases hfi.dying
   |stuck m=>cases e
   |unsupported u=>
    cases u with
    |initOrder g=>exact early_not hah hns e
    |_=>cases e
  |ok a w'=>
   have hw:w1=w':=by
    simp only [stepG.apply,if_true,hr,hke,Bool.false_eq_true,if_false] at e
    cases a<;> dsimp only at e<;> first
     |(simp only [GStep.after,GStep.go.injEq] at e;exact e.2.1.symm)
     |(cases e;done)
     |(split at e<;> (try split at e)<;> first|(simp only [GStep.after,GStep.go.injEq] at e;exact e.2.1.symm)|(simp only [endThrow,dieOf,GStep.after,GStep.go.injEq] at e;exact e.2.1.symm)|(cases e;done))
   subst hw
   exact ⟨a,es0,rfl⟩
def DstIs (L:Lim) (c:Col) (fr:Frame):Prop:=∀ops i rest k d,fr.todo= .inRegion ops (i::rest)::k→(ops[i]?).bind (·.dst)=some d→L.col fr.fn d=c
theorem DstIs.fin {c d:Col} {fr:Frame} (h:DstIs L c fr) (hf:fitsCol T.fl d c=true):FinOk L T d fr:=fun ops i rest k e h1 h2=>by rw [h ops i rest k e h1 h2];exact hf
theorem fitsCol_refl (fl:Bool) (c:Col):fitsCol fl c c=true:=by simp [fitsCol]
theorem Res.apply (K:Let P G L T) (hb:Fit τ) (hfl:Flat T τ) (hd: ∀r s,τ.un r s→r< N) {w v:World} (hs:Sync L (CC P L T) τ k₀ N w v) {fr gr:Frame} (hfr:FrR P L T τ fr gr) {cs ds:List Frame} (hcs:ChR P L T τ (retCol L fr) cs ds) (hbot:BotOk fr cs)
  {c:Col} (hc:DstIs L c fr) {p q:Sem Next} (h:SemR P G L (CC P L T) τ k₀ (NxR L (CC P L T) τ T.fl c) p q):
  Res P G L T τ k₀ N B D w v (stepG.apply (gp P G) true fr (cs++B) none p w) (stepG.apply P true gr (ds++D) none q v):=by
 intro g1 w1 es e hfi hN ht
 have hke:(fr.kind==CallKind.early)=false∧(gr.kind==CallKind.early)=false:=by rw [hfr.kind.1,hfr.kind.2];exact ⟨rfl,rfl⟩
 have hkn:=kind_normal hfr.todo
 obtain ⟨a,es0,hr⟩:=apply_ok (Q:=gp P G) K.ahead K.noStep hfr.kind.1 e hfi
 obtain ⟨b,v1,fs1,e1,hR,hB⟩:=h.adequate hb w v #[] #[] a w1 es0 hs hr hN ht hd
 obtain ⟨zs,z1,z2,z3⟩:=hB.events
 have hne:=ev_noExtern z3
 have q1:seen (gp P G) fr.fn es0=es0:=seen_eq (K.norace hfr.let_).2 (by rw [z1];simpa using hne.1)
 have q2:seen P gr.fn fs1=fs1:=seen_eq (K.norace (by rw [hfr.fn];exact hfr.let_)).1 (by rw [z2];simpa using hne.2)
 simp only [stepG.apply,if_true,hr,hke.1,Bool.false_eq_true,if_false,q1] at e
 cases hR with
 |@value x y hv=>
  simp only [GStep.after,GStep.go.injEq,Array.append_empty] at e
  obtain ⟨rfl,_,rfl⟩:=e
  refine ⟨{frame:=gr.finish y,callers:=ds++D,status:= .running,dying:=none},v1,fs1,?_,?_,hB⟩
  ·simp only [stepG.apply,if_true,e1,hke.2,Bool.false_eq_true,if_false,q2,GStep.after,Array.append_empty]
  ·exact ⟨.run (hfr.finish hb.toTriOk hfl (hc.fin (fitsCol_refl _ _)) hv),⟨rfl,rfl⟩,⟨rfl,rfl⟩,⟨rfl,rfl⟩,cs,ds,rfl,rfl,by rw [finish_retCol];exact hcs,hbot.same (finish_roundOf _ _)⟩
 |skip=>
  simp only [GStep.after,GStep.go.injEq,Array.append_empty] at e
  obtain ⟨rfl,_,rfl⟩:=e
  refine ⟨{frame:=gr.finish undef,callers:=ds++D,status:= .running,dying:=none},v1,fs1,?_,?_,hB⟩
  ·simp only [stepG.apply,if_true,e1,hke.2,Bool.false_eq_true,if_false,q2,GStep.after,Array.append_empty]
  ·exact ⟨.run hfr.finishU,⟨rfl,rfl⟩,⟨rfl,rfl⟩,⟨rfl,rfl⟩,cs,ds,rfl,rfl,by rw [finish_retCol];exact hcs,hbot.same (finish_roundOf _ _)⟩
 |@enter f xs ys hf hx hres har=>
  simp only [GStep.after,GStep.go.injEq,Array.append_empty] at e
  obtain ⟨rfl,_,rfl⟩:=e
  refine ⟨{frame:=Frame.enter P f ys .normal,callers:=gr::(ds++D),status:= .running,dying:=none},v1,fs1,?_,?_,hB⟩
  ·simp only [stepG.apply,if_true,e1,hke.2,Bool.false_eq_true,if_false,q2,GStep.after,Array.append_empty]
   exact congrArg (fun k=>GStep.go {frame:=Frame.enter P f ys k,callers:=gr::(ds++D),status:= .running,dying:=none} v1 fs1) hkn.2
  ·refine ⟨?_,⟨rfl,rfl⟩,⟨rfl,rfl⟩,⟨rfl,rfl⟩,fr::cs,gr::ds,rfl,rfl,.cons hfr (hc.fin hres) hcs,hbot⟩
   exact cast (congrArg (fun k=>TopR P G L T τ (Frame.enter (gp P G) f xs k) (Frame.enter P f ys .normal)) hkn.1.symm) (TopR.enter K hf hx har)
 |@round l m f xs ys a b hl hf hx ha hbd hres=>
  simp only [GStep.after,GStep.go.injEq,Array.append_empty] at e
  obtain ⟨rfl,_,rfl⟩:=e
  refine ⟨{frame:=Frame.round m f ys a b .normal,callers:=gr::(ds++D),status:= .running,dying:=none},v1,fs1,?_,?_,hB⟩
  ·simp only [stepG.apply,if_true,e1,hke.2,Bool.false_eq_true,if_false,q2,GStep.after,Array.append_empty]
  ·exact ⟨.run (FrR.roundFrame hl hf ha.2 hx ha.1 hbd.1),⟨rfl,rfl⟩,⟨rfl,rfl⟩,⟨rfl,rfl⟩,fr::cs,gr::ds,rfl,rfl,.cons hfr (hc.fin hres) hcs,hbot⟩
end
end Go.Proofs.YtldmcdeibiclkaaGreatDoor.U
end
section
namespace Go.Proofs.YtldmcdeibiclkaaGreatDoor.U
open Go.Conc
section
variable {P:Program} {G:Array Func} {L:Lim} {T:Tab} {τ:Tri} {k₀:Kd} {N:Nat} {B D:List Frame}
theorem L2.append {α β:Type} {R:α→β→Prop} {as cs:List α} {bs ds:List β} (h:L2 R as bs) (k:L2 R cs ds):L2 R (as++cs) (bs++ds):=by
 induction h with
 |nil=>exact k
 |cons h _ ih=>exact .cons h ih
theorem exitTo_of {f:FuncId} (id:Nat): ∀{k l:List Item},L2 (ItemR P L T τ f) k l→(exitTo id k=none∧exitTo id l=none)∨∃k' l',exitTo id k=some k'∧exitTo id l=some l'∧L2 (ItemR P L T τ f) k' l'
 |[],_,.nil=> .inl ⟨rfl,rfl⟩
 |_::_,_::_,.cons hi hk=>by
  have ih:=exitTo_of id hk
  cases hi with
  |inBlock id'=>
   simp only [exitTo]
   split
   ·exact .inr ⟨_,_,rfl,rfl,hk⟩
   ·exact ih
  |_=>exact ih
theorem Jump.ok {c:Code} (h:Jump c) (f:FuncId):okCode P L T f c=true:=by
 rcases h with rfl|⟨id,rfl⟩<;> rfl
theorem R_newL {o q:Obj} (h:PR' L (CC P L T) τ o q):SemR P G L (CC P L T) τ .lp τ.lp (newObj o) (newObj q):= .newL rfl h fun _ _ hr=> .pure hr
theorem R_enterLoop {fr gr:Frame} (h:FrR P L T τ fr gr) (ps:Array Tmp) (hps: ∀p∈ps,L.col fr.fn p= .any) {a b:Code} (ha:okCode P L T fr.fn a=true) (hb:okCode P L T fr.fn b=true):
  SemR P G L (CC P L T) τ .lp (fun x y=>τ.lp x.1 y.1∧L2 (MarkR τ) x.2 y.2) (Instr.enterLoop fr.fn fr.tmps ps a b fr.roundOf) (Instr.enterLoop gr.fn gr.tmps ps a b gr.roundOf):=by
 have fin: ∀{d e:Nat} {ms ns:List Deferred},τ.lp d e→L2 (MarkR τ) ms ns→SemR P G L (CC P L T) τ .lp (fun x y=>τ.lp x.1 y.1∧L2 (MarkR τ) x.2 y.2)
   (newObj (.loop {state:= .ready,pending:=none,fn:=fr.fn,tmps:=fr.tmps,params:=ps,assign:=a,body:=b,defers:=d}) >>=fun l=>pure (l,ms))
   (newObj (.loop {state:= .ready,pending:=none,fn:=gr.fn,tmps:=gr.tmps,params:=ps,assign:=a,body:=b,defers:=e}) >>=fun l=>pure (l,ns)):=fun hde hm=>
  SemR.bind' (R_newL (.loop rfl rfl h.fn h.tmps rfl rfl rfl hde ⟨ha,h.np⟩ ⟨hb,h.np⟩ (fun c hc=>by cases hc) h.let_ hps)) fun r s hr=> .pure ⟨hr,hm⟩
 have hr:=h.round
 unfold Instr.enterLoop
 cases h1:fr.roundOf with
 |none=>
  cases h2:gr.roundOf with
  |none=>
   refine SemR.bind' (R_newL (.deferred (.inr rfl))) fun r s hrs=>?_
   exact fin hrs (.cons (.collected hrs) .nil)
  |some m=>rw [h1,h2] at hr;exact hr.elim
 |some l=>
  cases h2:gr.roundOf with
  |none=>rw [h1,h2] at hr;exact hr.elim
  |some m=>
   rw [h1,h2] at hr
   refine SemR.bind' (R_getLoop hr) fun x y hxy=>?_
   cases hxy with
   |loop a1 a2 a3 a4 a5 a6 a7 a8=>exact fin a8 .nil
theorem R_beginRound {l m:Nat} (h:τ.lp l m):SemR P G L (CC P L T) τ k₀ (fun _ _=>True) (Instr.beginRound l) (Instr.beginRound m):=by
 unfold Instr.beginRound
 refine SemR.bind' (R_getLoop h) fun x y hxy=>?_
 cases hxy with
 |loop a1 a2 a3 a4 a5 a6 a7 a8 a9 a10 a11 a12 a13=>
  refine SemR.bind' (R_setL h (.loop rfl a2 a3 a4 a5 a6 a7 a8 a9 a10 a11 a12 a13)) fun _ _ _=>?_
  rw [a1]
  split
  ·exact .pure trivial
  ·exact .doom _ (.runtimePanic _)
  ·exact .doom _ (.runtimePanic _)
  ·exact .doom _ (.runtimePanic _)
theorem R_endRound {l m:Nat} (h:τ.lp l m) {jump:Option Code} (hj: ∀c,jump=some c→Jump c):SemR P G L (CC P L T) τ k₀ (CR L τ .any) (Instr.endRound l jump) (Instr.endRound m jump):=by
 unfold Instr.endRound
 refine SemR.bind' (R_getLoop h) fun x y hxy=>?_
 cases hxy with
 |loop a1 a2 a3 a4 a5 a6 a7 a8 a9 a10 a11 a12 a13=>
  refine SemR.bind' (R_setL h (.loop rfl rfl a3 a4 a5 a6 a7 a8 a9 a10 hj a12 a13)) fun _ _ _=>?_
  exact .pure (VR.bool _)
theorem R_endLoop {l m:Nat} (h:τ.lp l m):SemR P G L (CC P L T) τ k₀ (fun a b=>a=b∧∀c,a=some c→Jump c) (Instr.endLoop l) (Instr.endLoop m):=by
 unfold Instr.endLoop
 refine SemR.bind' (R_getLoop h) fun x y hxy=>?_
 cases hxy with
 |loop a1 a2 a3 a4 a5 a6 a7 a8 a9 a10 a11 a12 a13=>
  try dsimp only
  rw [a1]
  split
  ·exact .doom _ (Doomed.bind' (.runtimePanic _))
  ·refine SemR.bind' (R_setL h (.loop rfl a2 a3 a4 a5 a6 a7 a8 a9 a10 a11 a12 a13)) fun _ _ _=>?_
   exact .pure ⟨a2.symm,a11⟩
theorem R_takeDeferred {l m:Nat} (h:τ.lp l m):SemR P G L (CC P L T) τ k₀ (fun a b=>a= []∧b= []) (Instr.takeDeferred l) (Instr.takeDeferred m):=by
 unfold Instr.takeDeferred
 refine SemR.bind' (R_getL h) fun o q ho=>?_
 cases ho with
 |deferred hd=>
  rcases hd with rfl|rfl
  ·exact .doom _ (.stuck _)
  ·refine SemR.bind' (R_setL h (.deferred (.inl rfl))) fun _ _ _=>?_
   exact .pure ⟨rfl,rfl⟩
 |_=>exact .doom _ (.stuck _)
theorem R_results (hb:TriOk τ) (hfl:Flat T τ) {f:FuncId} (fn:Func) (hok:okRes L T f fn=true) {xs ys:Array Value} (h:TR L τ f xs ys):SemR P G L (CC P L T) τ .own (CR L τ (L.res f)) (results fn xs) (results fn ys):=by
 have gen:(fitsCol T.fl .any (L.res f) && fn.results.toList.all fun r=>match r with| .tmp t=>fitsCol T.fl (L.col f t) .any| .cell a _=>fitsCol T.fl (L.col f a) .any)=true→SemR P G L (CC P L T) τ .own (CR L τ (L.res f)) (results fn xs) (results fn ys):=by
  intro hk
  simp only [Bool.and_eq_true] at hk
  unfold results
  refine SemR.bind' (R_mapMArray (R:=fun a b=>a=b∧a∈fn.results) (S:=VR L τ.all) (xs:=fn.results) (ys:=fn.results) ?_ (XR.self _ fun x hx=>⟨rfl,hx⟩)) fun us vs hu=>?_
  ·rintro r _ ⟨rfl,hr⟩
   have hr2:=List.all_eq_true.1 hk.2 r (by simpa using hr)
   cases r with
   |tmp t=>exact .pure (CR.fit hb hfl hr2 (h.getD t))
   |cell a t=>exact SemR.bind' (R_asAddr (CR.fit (d:= .any) hb hfl hr2 (h.getD a))) fun x y hxy=>R_loadVar t hxy
  ·refine .pure (CR.any hb hfl hk.1 ?_)
   have hsz:=hu.size
   by_cases h1:us.size=1
   ·have h2:vs.size=1:=by omega
    simp only [h1,h2,dif_pos]
    rcases hu.get? 0 with ⟨e1,_⟩|⟨x,y,e1,e2,e3⟩
    ·rw [Array.getElem?_eq_none_iff] at e1;omega
    ·rw [Array.getElem?_eq_getElem (by omega)] at e1 e2
     cases e1;cases e2
     exact e3
   ·have h2: ¬ vs.size=1:=by omega
    simp only [h1,h2,dif_neg,not_false_eq_true]
    exact .ofTuple hu
 unfold okRes at hok
 split at hok
 ·rename_i t ht
  have e:fn.results=#[.tmp t]:=one_of ht
  unfold results
  rw [e]
  simp only [Array.mapM_eq_foldlM,List.size_toArray,List.length_cons,List.length_nil]
  exact .pure (CR.fit hb hfl hok (h.getD t))
 ·exact gen hok
end
end Go.Proofs.YtldmcdeibiclkaaGreatDoor.U
end
