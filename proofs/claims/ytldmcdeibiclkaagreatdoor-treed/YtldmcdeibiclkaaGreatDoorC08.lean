/-
  Toward: treed_holds, each node's digest is that of its children's, for every argument of Treed. COLOURS OF OPERANDS; CALLS, SIDE BY SIDE.
  EVERY OPERATION THAT IS LET BY, SIDE BY SIDE; COLOURS.
-/
import Derived.Test.YtldmcdeibiclkaaGreatDoorC07
set_option linter.unusedVariables false
set_option linter.unusedSimpArgs false
set_option maxRecDepth 4000
section
namespace Go.Proofs.YtldmcdeibiclkaaGreatDoor.U
def fitsCol (fl:Bool) (c d:Col):Bool:=decide (c=d)||(decide (c= .own) && decide (d= .any))||(fl && decide (c= .any) && decide (d= .own))
def flatCol:Col→Bool
 | .any| .own| .box=>true
 |_=>false
def funCol:Col→Bool
 | .itr| .loc=>true
 |_=>false
structure Tab where
 fl:Bool
 fb:FuncId→Bool
 cb:FuncId→Bool
 ib:FuncId→Bool
 lb:FuncId→Bool
 pool:FuncId
 ng:Nat
structure TabOk (L:Lim) (T:Tab):Prop where
 fb: ∀f,T.fb f=true→L.fn f
 cb: ∀f,T.cb f=true→L.clo f
 ib: ∀f,T.ib f=true→L.itr f
 lb: ∀f,T.lb f=true→L.loc f
 clo: ∀f,L.clo f→L.fn f∧(∀i,L.col f i= .any)∧L.res f= .any
 loc: ∀f,L.loc f→L.fn f∧(∀i,L.col f i= .any)∧L.res f= .any
 ar: ∀f,L.clo f∨L.itr f∨L.loc f→L.ar f=none
 itr: ∀f,L.itr f→L.fn f∧L.col f 0= .yld∧(∀i,i≠0→fitsCol T.fl .any (L.col f i)=true∨2≤i)∧L.res f= .any
inductive NxR (L:Lim) (C:FuncId→Code→Prop) (τ:Tri) (fl:Bool) (c:Col):Next→Next→Prop
 |value {v w:Value}:CR L τ c v w→NxR L C τ fl c (.value v) (.value w)
 |skip:NxR L C τ fl c .skip .skip
 |enter {f:FuncId} {xs ys:Array Value}:L.fn f→TR L τ f xs ys→fitsCol fl (L.res f) c=true→(∀k,L.ar f=some k→xs.size=k)→NxR L C τ fl c (.enter f xs) (.enter f ys)
 |round {l m:Nat} {f:FuncId} {xs ys:Array Value} {a b:Code}:τ.lp l m→L.fn f→TR L τ f xs ys→C f a→C f b→fitsCol fl .any c=true→NxR L C τ fl c (.round l f xs a b) (.round m f ys a b)
def Bodied (P:Program) (G:Array Func) (L:Lim):Prop:=∀f,L.fn f→(∃fn,P.funcs[f]? =some fn∧(fn.name== "runtime.NumGoroutine")=false∧fn.body.isNone=false)∧(∃fn,G[f]? =some fn∧(fn.name== "runtime.NumGoroutine")=false∧fn.body.isNone=false)
def okConst:Value→Bool
 | .bool _| .int .. | .string _| .pointer none| .slice none _ _| .map none| .nilFunc| .nilIface=>true
 |_=>false
def fits (L:Lim) (T:Tab) (f:FuncId) (c:Col):Operand→Bool
 | .tmp i=>fitsCol T.fl (L.col f i) c
 | .const v=>(okConst v && flatCol c)||(funCol c && (match v with| .nilFunc=>true|_=>false))
 | .func g=>T.cb g && flatCol c
 | .global g=>decide (g< T.ng) && fitsCol T.fl .any c
def okConv (P:Program) (s d:TypeId):Bool:=
 match P.underlying s,P.underlying d with
 |some (.int _),some (.int _)=>true
 |some (.slice e),some .string=>(match P.underlying e with|some (.int .u8)=>true|_=>false)
 |_,_=>false
section
variable {P:Program} {G:Array Func} {L:Lim} {C:FuncId→Code→Prop} {τ:Tri} {T:Tab} {π:Nat→Nat→Prop} {k₀:Kd}
theorem VR.ofConst {v:Value} (h:okConst v=true):VR L π v v:=by
 cases v with
 |pointer p=>cases p<;> first|exact .nilptr|cases h
 |slice p n c=>cases p<;> first|exact .nilslice _ _|cases h
 |map p=>cases p<;> first|exact .nilmap|cases h
 |bool b=>exact .bool b
 |int k n=>exact .int k n
 |string s=>exact .string s
 |nilFunc=>exact .nilFunc
 |nilIface=>exact .nilIface
 |_=>cases h
theorem VR.ofFunc {f:FuncId} (h:L.clo f):VR L π (.func (.func f) #[] #[]) (.func (.func f) #[] #[]):=by
 simpa using VR.func (L:=L) (π:=π) #[] #[] h (by simp) (by simp)
theorem VR.undef:VR L π Go.undef Go.undef:=by
 simpa [Go.undef] using VR.tuple (L:=L) (π:=π) #[] (by simp)
theorem CR.undef (c:Col):CR L τ c Go.undef Go.undef:=by
 cases c with
 |any=>exact VR.undef
 |own=>exact VR.undef
 |box=>exact VR.undef
 |yld=>exact .inl ⟨rfl,rfl⟩
 |itr=>exact .inl ⟨rfl,rfl⟩
 |loc=>exact .inl ⟨rfl,rfl⟩
def Flat (T:Tab) (τ:Tri):Prop:=(T.fl=true→∀r s,τ.all r s→τ.own r s)∧∀g,g< T.ng→τ.all g g
theorem CR.fit (hb:TriOk τ) (hf:Flat T τ) {c d:Col} (h:fitsCol T.fl c d=true) {v w:Value} (hv:CR L τ c v w):CR L τ d v w:=by
 unfold fitsCol at h
 simp only [Bool.or_eq_true,Bool.and_eq_true,decide_eq_true_eq] at h
 rcases h with (rfl|⟨rfl,rfl⟩)|⟨⟨hx,rfl⟩,rfl⟩
 ·exact hv
 ·exact VR.mono hb.own hv
 ·exact VR.mono (hf.1 hx) hv
theorem CR.own {c:Col} (hb:TriOk τ) (hf:Flat T τ) (h:fitsCol T.fl .own c=true) {v w:Value} (hv:VR L τ.own v w):CR L τ c v w:=CR.fit (c:= .own) hb hf h hv
theorem CR.any {c:Col} (hb:TriOk τ) (hf:Flat T τ) (h:fitsCol T.fl .any c=true) {v w:Value} (hv:VR L τ.all v w):CR L τ c v w:=CR.fit (c:= .any) hb hf h hv
theorem CR.ofFlat {c:Col} (h:flatCol c=true) {v w:Value} (hv: ∀π,VR L π v w):CR L τ c v w:=by
 cases c with
 |any=>exact hv _
 |own=>exact hv _
 |box=>exact hv _
 |_=>cases h
theorem TR.size {f:FuncId} {xs ys:Array Value} (h:TR L τ f xs ys):ys.size=xs.size:=h.1
theorem TR.getD {f:FuncId} {xs ys:Array Value} (h:TR L τ f xs ys) (i:Nat):CR L τ (L.col f i) (xs.getD i Go.undef) (ys.getD i Go.undef):=by
 rw [Array.getD_eq_getD_getElem?,Array.getD_eq_getD_getElem?]
 by_cases hi:i< xs.size
 ·have hj:i< ys.size:=by rw [h.1];exact hi
  rw [Array.getElem?_eq_getElem hi,Array.getElem?_eq_getElem hj]
  exact h.2 i _ _ (Array.getElem?_eq_getElem hi) (Array.getElem?_eq_getElem hj)
 ·rw [Array.getElem?_eq_none (by omega),Array.getElem?_eq_none (by rw [h.1];omega)]
  exact CR.undef _
theorem TR.set {f:FuncId} {xs ys:Array Value} (h:TR L τ f xs ys) {d:Nat} {v w:Value} (hv:CR L τ (L.col f d) v w):TR L τ f (xs.setIfInBounds d v) (ys.setIfInBounds d w):=by
 refine ⟨by simp [h.1],fun i x y hx hy=>?_⟩
 rw [Array.getElem?_setIfInBounds] at hx hy
 by_cases e:d=i
 ·subst e
  simp only [if_true] at hx hy
  split at hx
  ·split at hy
   ·cases hx;cases hy;exact hv
   ·cases hy
  ·cases hx
 ·simp only [e,if_false] at hx hy
  exact h.2 i x y hx hy
theorem TR.ofAny {f:FuncId} (hc: ∀i,L.col f i= .any) {xs ys:Array Value} (h:XR (VR L τ.all) xs ys):TR L τ f xs ys:=
 ⟨h.size,fun i x y hx hy=>by
  rw [hc i]
  rcases h.get? i with ⟨h1,_⟩|⟨u,v,h1,h2,h3⟩
  ·rw [h1] at hx;cases hx
  ·rw [h1] at hx;rw [h2] at hy;cases hx;cases hy;exact h3⟩
theorem TR.pad {f:FuncId} {xs ys:Array Value} (h:TR L τ f xs ys) (n:Nat):TR L τ f (xs++Array.replicate n Go.undef) (ys++Array.replicate n Go.undef):=by
 refine ⟨by simp [h.1],fun i x y hx hy=>?_⟩
 rw [Array.getElem?_append] at hx hy
 rw [h.1] at hy
 split at hx
 ·rename_i hi
  rw [if_pos hi] at hy
  exact h.2 i x y hx hy
 ·rename_i hi
  rw [if_neg hi] at hy
  rw [Array.eq_of_mem_replicate (Array.mem_of_getElem? hx),Array.eq_of_mem_replicate (Array.mem_of_getElem? hy)]
  exact CR.undef _
theorem TR.foldZip {f:FuncId}: ∀(ps:List Nat) (l:List (Value×Value)) {cs ds:Array Value},(∀p∈ps,L.col f p= .any)→(∀z∈l,VR L τ.all z.1 z.2)→TR L τ f cs ds→
  TR L τ f ((ps.zip (l.map (·.1))).foldl (fun c (x:Nat×Value)=>c.setIfInBounds x.1 x.2) cs) ((ps.zip (l.map (·.2))).foldl (fun c (x:Nat×Value)=>c.setIfInBounds x.1 x.2) ds)
 |[],_,_,_,_,_,h=>h
 |_::_,[],_,_,_,_,h=>h
 |p::ps,z::l,cs,ds,hp,hz,h=>by
  simp only [List.map_cons,List.zip_cons_cons,List.foldl_cons]
  exact TR.foldZip ps l (fun q hq=>hp q (by simp [hq])) (fun y hy=>hz y (by simp [hy])) (h.set (by rw [hp p (by simp)];exact hz z (by simp)))
theorem R_programK {α β:Type} {R:α→β→Prop} {f:Program→Sem α} {g:Program→Sem β} (h:SemR P G L C τ k₀ R (f (gp P G)) (g P)):SemR P G L C τ k₀ R (program >>=f) (program >>=g):= .program h
theorem R_getL {r s:Nat} (h:τ.lp r s):SemR P G L C τ k₀ (PR' L C τ) (getObj r) (getObj s):= .getL h fun _ _ ho=> .pure ho
theorem R_setL {r s:Nat} {o q:Obj} (h:τ.lp r s) (ho:PR' L C τ o q):SemR P G L C τ k₀ (fun _ _=>True) (setObj r o) (setObj s q):= .setL h ho (.pure trivial)
theorem R_callFunc (F:Bodied P G L) {fl:Bool} {c:Col} {f:FuncId} (hf:L.fn f) {xs ys:Array Value} (h:TR L τ f xs ys) (hr:fitsCol fl (L.res f) c=true) (ha: ∀k,L.ar f=some k→xs.size=k):SemR P G L C τ k₀ (NxR L C τ fl c) (callFunc f xs) (callFunc f ys):=by
 obtain ⟨⟨fn,h1,h2,h3⟩,⟨gn,g1,g2,g3⟩⟩:=F f hf
 unfold callFunc
 refine R_programK ?_
 have e:(gp P G).funcs=G:=rfl
 rw [e,h1,g1]
 dsimp only
 rw [h2,h3,g2,g3]
 exact .pure (.enter hf h hr ha)
theorem R_getLoop {l m:Nat} (h:τ.lp l m):SemR P G L C τ k₀ (fun a b=>PR' L C τ (.loop a) (.loop b)) (Instr.getLoop l) (Instr.getLoop m):=by
 unfold Instr.getLoop
 refine SemR.bind' (R_getL h) fun o q ho=>?_
 have ho':=ho
 cases ho with
 |loop=>exact .pure ho'
 |_=>exact .doom _ (.stuck _)
theorem R_yield {fl:Bool} {c:Col} (hc:fitsCol fl .any c=true) {l m:Nat} (h:τ.lp l m) {xs ys:Array Value} (hx:XR (VR L τ.all) xs ys):SemR P G L C τ k₀ (NxR L C τ fl c) (Instr.yield l xs) (Instr.yield m ys):=by
 unfold Instr.yield
 refine SemR.bind' (R_getLoop h) fun a b hab=>?_
 cases hab with
 |loop h1 h2 h3 h4 h5 h6 h7 h8 h9 h10 h11 h12 h13=>
  try dsimp only
  rw [hx.size,h5]
  split
  ·exact .doom _ (Doomed.bind' (.stuck _))
  ·refine .pure ?_
   rw [h3,h6,h7]
   refine .round h h12 ?_ h9 h10 hc
   obtain ⟨l',e1,e2,e3⟩:=hx.list
   rw [← Array.foldl_toList,← Array.foldl_toList,Array.toList_zip,Array.toList_zip,e1,e2]
   exact TR.foldZip _ l' (fun p hp=>h13 p (by simpa using hp)) e3 h4
theorem R_callValue (F:Bodied P G L) (K:TabOk L T) {fl:Bool} {c:Col} (hc:fitsCol fl .any c=true) {v w:Value} (hv:VR L τ.all v w) {xs ys:Array Value} (hx:XR (VR L τ.all) xs ys):
  SemR P G L C τ k₀ (NxR L C τ fl c) (do let d ← Deferred.ofValue v xs;invoke d.target d.args) (do let d ← Deferred.ofValue w ys;invoke d.target d.args):=by
 cases hv with
 |func us vs hf hu hv'=>
  show SemR P G L C τ k₀ (NxR L C τ fl c) (callFunc _ _) (callFunc _ _)
  obtain ⟨h1,h2,h3⟩:=K.clo _ hf
  exact R_callFunc F h1 (TR.ofAny h2 (XR.append (XR.append ⟨us,rfl,rfl,hu⟩ hx) ⟨vs,rfl,rfl,hv'⟩)) (by rw [h3];exact hc) (fun k hk=>by rw [K.ar _ (.inl hf)] at hk;cases hk)
 |nilFunc=>exact .doom _ (show Doomed (gp P G) (runtimePanic .nilDeref:Sem Next) from .runtimePanic _)
 |junk s h1 h2 h3=>
  refine .doom _ ?_
  show Doomed (gp P G) (match (#[Value.nilIface]++xs)[0]? with|some recv=>callMethod recv s ((#[Value.nilIface]++xs).extract 1 (#[Value.nilIface]++xs).size)|_=>stuck "call: a method without a receiver")
  have e:(#[Value.nilIface]++xs)[0]? =some .nilIface:=by rw [Array.getElem?_append_left (by decide)];rfl
  rw [e]
  exact show Doomed (gp P G) (runtimePanic .nilDeref:Sem Next) from .runtimePanic _
 |_=>exact .doom _ (Doomed.bind' (.stuck _))
theorem R_callLoc (F:Bodied P G L) (K:TabOk L T) {fl:Bool} {c:Col} (hc:fitsCol fl .any c=true) {v w:Value} (hv:CR L τ .loc v w) {xs ys:Array Value} (hx:XR (VR L τ.all) xs ys):
  SemR P G L C τ k₀ (NxR L C τ fl c) (do let d ← Deferred.ofValue v xs;invoke d.target d.args) (do let d ← Deferred.ofValue w ys;invoke d.target d.args):=by
 rcases hv with ⟨rfl,rfl⟩|⟨rfl,rfl⟩|⟨f,us,vs,rfl,rfl,hf,hu,h5⟩
 ·exact .doom _ (Doomed.bind' (.stuck _))
 ·exact .doom _ (show Doomed (gp P G) (runtimePanic .nilDeref:Sem Next) from .runtimePanic _)
 ·show SemR P G L C τ k₀ (NxR L C τ fl c) (callFunc _ _) (callFunc _ _)
  obtain ⟨h1,h2,h3⟩:=K.loc _ hf
  exact R_callFunc F h1 (TR.ofAny h2 (XR.append (XR.append .nil hx) hu)) (by rw [h3];exact hc) (fun k hk=>by rw [K.ar _ (.inr (.inr hf))] at hk;cases hk)
theorem R_callYld {fl:Bool} {c:Col} (hc:fitsCol fl .any c=true) {v w:Value} (hv:CR L τ .yld v w) {xs ys:Array Value} (hx:XR (VR L τ.all) xs ys):
  SemR P G L C τ k₀ (NxR L C τ fl c) (do let d ← Deferred.ofValue v xs;invoke d.target d.args) (do let d ← Deferred.ofValue w ys;invoke d.target d.args):=by
 rcases hv with ⟨rfl,rfl⟩|⟨l,m,rfl,rfl,h⟩
 ·exact .doom _ (Doomed.bind' (.stuck _))
 ·show SemR P G L C τ k₀ (NxR L C τ fl c) (Instr.yield _ _) (Instr.yield _ _)
  exact R_yield hc h (XR.append .nil hx)
theorem R_callItr (hb:TriOk τ) (hfl:Flat T τ) (F:Bodied P G L) (K:TabOk L T) {fl:Bool} {c:Col} (hc:fitsCol fl .any c=true) {v w:Value} (hv:CR L τ .itr v w) {l m:Nat} (hl:τ.lp l m):
  SemR P G L C τ k₀ (NxR L C τ fl c) (do let d ← Deferred.ofValue v #[.func (.yield l) #[] #[]];invoke d.target d.args) (do let d ← Deferred.ofValue w #[.func (.yield m) #[] #[]];invoke d.target d.args):=by
 rcases hv with ⟨rfl,rfl⟩|⟨rfl,rfl⟩|⟨f,us,vs,rfl,rfl,hf,hu,h5⟩
 ·exact .doom _ (Doomed.bind' (.stuck _))
 ·exact .doom _ (show Doomed (gp P G) (runtimePanic .nilDeref:Sem Next) from .runtimePanic _)
 ·show SemR P G L C τ k₀ (NxR L C τ fl c) (callFunc f (#[]++#[.func (.yield l) #[] #[]]++us)) (callFunc f (#[]++#[.func (.yield m) #[] #[]]++vs))
  obtain ⟨h1,h2,h3,h4⟩:=K.itr _ hf
  refine R_callFunc F h1 ⟨by simp [hu.size],fun i x y hx hy=>?_⟩ (by rw [h4];exact hc) (fun k hk=>by rw [K.ar _ (.inr (.inl hf))] at hk;cases hk)
  cases i with
  |zero=>
   rw [h2]
   simp [Array.getElem?_append] at hx hy
   exact .inr ⟨l,m,hx.symm,hy.symm,hl⟩
  |succ i=>
   simp [Array.getElem?_append] at hx hy
   rcases hu.get? i with ⟨g1,_⟩|⟨u,v,g1,g2,g3⟩
   ·rw [g1] at hx;cases hx
   ·rw [g1] at hx;rw [g2] at hy;cases hx;cases hy
    have hi:i< us.size:=(Array.getElem?_eq_some_iff.1 g1).1
    rcases h3 (i+1) (by omega) with h6|h6
    ·exact CR.any hb hfl h6 g3
    ·omega
end
end Go.Proofs.YtldmcdeibiclkaaGreatDoor.U
end
section
namespace Go.Proofs.YtldmcdeibiclkaaGreatDoor.U
def okBuiltin (P:Program) (L:Lim) (T:Tab) (f:FuncId) (c:Col) (b:Builtin) (ts:Array TypeId) (xs:Array Operand):Bool:=
 match b,ts.toList,xs.toList with
 | .append,[_,xt],[a,d]=>fits L T f .own a && fits L T f .any d && fitsCol T.fl .own c && (match P.underlying xt with|some (.int _)=>false|_=>true)
 | .copy,[_,_],[a,d]=>fits L T f .own a && fits L T f .any d && fitsCol T.fl .any c
 | .len,[t],[a]=>fits L T f .any a && fitsCol T.fl .any c && (match P.underlying t with|some .string|some (.slice _)=>true|_=>false)
 | .min,_,[a,d]| .max,_,[a,d]=>fits L T f .any a && fits L T f .any d && fitsCol T.fl .any c
 | .unsafeString,_,[a,d]=>fits L T f .own a && fits L T f .any d && fitsCol T.fl .any c
 |_,_,_=>false
def fitsArgs (L:Lim) (T:Tab) (f g:FuncId) (xs:Array Operand):Bool:=(List.range xs.size).all fun i=>match xs[i]? with|some x=>fits L T f (L.col g i) x|none=>false
def okCallee (L:Lim) (T:Tab) (f:FuncId) (c:Col) (xs:Array Operand):Operand→Bool
 | .func g=>T.fb g && fitsArgs L T f g xs && fitsCol T.fl (L.res g) c && (match L.ar g with|some k=>xs.size==k|none=>true)
 | .tmp i=>(fitsCol T.fl (L.col f i) .any||decide (L.col f i= .loc)||decide (L.col f i= .yld)) && xs.all (fits L T f .any) && fitsCol T.fl .any c
 |_=>false
def okOp (P:Program) (L:Lim) (T:Tab) (f:FuncId) (c:Col):Op→Bool
 | .move x| .assign x=>fits L T f c x
 | .nilCheck x=>flatCol c && fits L T f c x
 | .unOp _ _ x| .makeInterface _ x| .field _ x _| .entry x| .typeAssert x _ _ _| .extract x _=>fits L T f .any x && fitsCol T.fl .any c
 | .panic _=>true
 | .box _ x=>(decide (c= .box) && fits L T f .own x)||(fitsCol T.fl .own c && !decide (c= .box) && fits L T f .any x)
 | .load _ x=>(fits L T f .any x && fitsCol T.fl .any c)||(fits L T f .box x && fitsCol T.fl .own c)
 | .fieldAddr _ x _=>(fits L T f .any x && fitsCol T.fl .any c)||(fits L T f .own x && fitsCol T.fl .own c)
 | .range _ x=>fits L T f .any x && fitsCol T.fl .own c
 | .next x s=>!s && fits L T f .own x && fitsCol T.fl .any c
 | .pick b x y=>fits L T f .any b && fits L T f c x && fits L T f c y
 | .alloc _=>fitsCol T.fl .own c
 | .build _ ps=>(ps.all fun p=>fits L T f .any p.2) && fitsCol T.fl .any c
 | .buildSlice _ _ ps=>(ps.all fun p=>fits L T f .any p.2) && fitsCol T.fl .own c
 | .store _ a v=>(fits L T f .own a && fits L T f .any v)||(fits L T f .box a && fits L T f .own v)
 | .makeSlice _ a v=>fits L T f .any a && fits L T f .any v && fitsCol T.fl .own c
 | .indexAddr _ a v=>fits L T f .any v && ((fits L T f .any a && fitsCol T.fl .any c)||(fits L T f .own a && fitsCol T.fl .own c))
 | .index _ a v=>fits L T f .any a && fits L T f .any v && fitsCol T.fl .any c
 | .binOp op t x y _=>fits L T f .any x && fits L T f .any y && fitsCol T.fl .any c && (match op with| .eql| .neq=>eqOk P 10 t && !P.eqGuardType P.depth t|_=>true)
 | .convert s d x=>fits L T f .any x && fitsCol T.fl .any c && okConv P s d
 | .makeFunc (.func g) a b=>(T.cb g && a.all (fits L T f .any) && b.all (fits L T f .any) && fitsCol T.fl .any c)||(a.isEmpty && b.all (fits L T f .any) && ((T.ib g && decide (c= .itr) && decide (b.size≤1))||(T.lb g && decide (c= .loc) && decide (b.size≤2))))
 | .makeMap _ none=>fitsCol T.fl .own c
 | .slice _ x l h m=>l.all (fits L T f .any) && h.all (fits L T f .any) && m.all (fits L T f .any) && ((fits L T f .any x && fitsCol T.fl .any c)||(fits L T f .own x && fitsCol T.fl .own c))
 | .lookup t x i _=>fits L T f .any x && fits L T f .any i && fitsCol T.fl .any c && (match P.underlying t with|some (.map k _)=>eqOk P 10 k|_=>false)
 | .mapUpdate t m k v=>fits L T f .own m && fits L T f .any k && fits L T f .any v && (match P.underlying t with|some (.map k _)=>(match P.underlying k with|some .string=>true|_=>false)|_=>false)
 | .call d=>(match d.callee with| .value g=>okCallee L T f c d.args g| .builtin b=>okBuiltin P L T f c b d.argTypes d.args| .invoke .. =>false)
 |_=>false
def kdOp (c:Col):Op→Kd
 | .box _ _=>if c= .box then .box else .own
 |_=> .own
section
variable {P:Program} {G:Array Func} {L:Lim} {C:FuncId→Code→Prop} {τ:Tri} {T:Tab} {f:FuncId} {c:Col} {ρ σ:Operand→Value}
theorem R_boxX (e:TypeId) {v w:Value} (h:VR L τ.own v w):SemR P G L C τ .box (VR L τ.box) (Instr.box e v) (Instr.box e w):=by
 unfold Instr.box newVar newRow
 exact SemR.bind' (R:=AR τ.box) (SemR.bind' (R:=τ.box) (.newX e (0,0) rfl h.cells fun r s hr=> .pure hr) fun r s hr=> .pure ⟨hr,rfl,rfl⟩) fun a b h=> .pure (.ptr h)
theorem R_value {k₀:Kd} {p q:Sem Value} (h:SemR P G L C τ k₀ (CR L τ c) p q):SemR P G L C τ k₀ (NxR L C τ T.fl c) (do pure (.value (← p))) (do pure (.value (← q))):=SemR.bind' h fun _ _ hv=> .pure (.value hv)
theorem R_unit {p q:Sem Unit} (h:SemR P G L C τ .own (fun _ _=>True) p q):SemR P G L C τ .own (NxR L C τ T.fl c) (do p;pure .skip) (do q;pure .skip):=SemR.bind' h fun _ _ _=> .pure .skip
theorem XR.args (hρ: ∀c x,fits L T f c x=true→CR L τ c (ρ x) (σ x)) {xs:Array Operand} (h:xs.all (fits L T f .any)=true):XR (VR L τ.all) (xs.map ρ) (xs.map σ):=
 XR.map (R:=fun a b=>a=b∧fits L T f .any a=true) (XR.self xs fun x hx=>⟨rfl,Array.all_eq_true'.1 h x hx⟩) (by rintro a _ ⟨rfl,ha⟩;exact hρ .any a ha)
theorem XR.parts (hρ: ∀c x,fits L T f c x=true→CR L τ c (ρ x) (σ x)) {xs:Array (Nat×Operand)} (h:(xs.all fun p=>fits L T f .any p.2)=true):XR (PR L τ.all) (xs.map fun (i,x)=>(i,ρ x)) (xs.map fun (i,x)=>(i,σ x)):=
 XR.map (R:=fun a b=>a=b∧fits L T f .any a.2=true) (XR.self xs fun x hx=>⟨rfl,Array.all_eq_true'.1 h x hx⟩) (by rintro ⟨i,a⟩ _ ⟨rfl,ha⟩;exact ⟨rfl,hρ .any a ha⟩)
theorem QR.opt (hρ: ∀c x,fits L T f c x=true→CR L τ c (ρ x) (σ x)) {o:Option Operand} (h:o.all (fits L T f .any)=true):QR L τ.all (o.map ρ) (o.map σ):=by
 cases o with
 |none=>exact .none
 |some x=>exact .some (hρ .any x h)
theorem TR.args (hρ: ∀c x,fits L T f c x=true→CR L τ c (ρ x) (σ x)) {g:FuncId} {xs:Array Operand} (h:fitsArgs L T f g xs=true):TR L τ g (xs.map ρ) (xs.map σ):=by
 refine ⟨by simp,fun i x y hx hy=>?_⟩
 rw [Array.getElem?_map] at hx hy
 obtain ⟨a,ha,rfl⟩:=Option.map_eq_some_iff.1 hx
 rw [ha] at hy
 cases hy
 have:=List.all_eq_true.1 h i (List.mem_range.2 (Array.getElem?_eq_some_iff.1 ha).1)
 rw [ha] at this
 exact hρ _ a this
theorem two_of {α:Type} {xs:Array α} {a b:α} (h:xs.toList= [a,b]):xs=#[a,b]:=by
 obtain ⟨l⟩:=xs;simp only at h;subst h;rfl
theorem one_of {α:Type} {xs:Array α} {a:α} (h:xs.toList= [a]):xs=#[a]:=by
 obtain ⟨l⟩:=xs;simp only at h;subst h;rfl
theorem map_two (h:Operand→Value) (a b:Operand):(#[a,b]:Array Operand).map h=#[h a,h b]:=by simp
theorem map_one (h:Operand→Value) (a:Operand):(#[a]:Array Operand).map h=#[h a]:=by simp
theorem R_builtin (E:Env P L τ) (hfl:Flat T τ) (hρ: ∀c x,fits L T f c x=true→CR L τ c (ρ x) (σ x)) (b:Builtin) {ts:Array TypeId} (t:TypeId) (cs:Array Bool) {xs:Array Operand} (hok:okBuiltin P L T f c b ts xs=true):
  SemR P G L C τ .own (NxR L C τ T.fl c) (builtin b ts t cs (xs.map ρ)) (builtin b ts t cs (xs.map σ)):=by
 have hb:=E.bi.toTriOk
 have vown: ∀{p q:Sem Value},fitsCol T.fl .own c=true→SemR P G L C τ .own (VR L τ.own) p q→SemR P G L C τ .own (NxR L C τ T.fl c) (do pure (.value (← p))) (do pure (.value (← q))):=fun hc h=>R_value (h.mono fun _ _ hv=>CR.own hb hfl hc hv)
 have vany: ∀{p q:Sem Value},fitsCol T.fl .any c=true→SemR P G L C τ .own (VR L τ.all) p q→SemR P G L C τ .own (NxR L C τ T.fl c) (do pure (.value (← p))) (do pure (.value (← q))):=fun hc h=>R_value (h.mono fun _ _ hv=>CR.any hb hfl hc hv)
 obtain ⟨ts⟩:=ts
 unfold okBuiltin at hok
 split at hok
 ·rename_i st xt a d hts hn
  obtain rfl:=two_of hn
  rw [map_two ρ,map_two σ]
  simp only [Bool.and_eq_true] at hok
  obtain ⟨⟨⟨h1,h2⟩,h3⟩,hok⟩:=hok
  simp only at hts
  subst hts
  refine vown h3 (R_append E t (fun d hd=>?_) (hρ .own a h1) (hρ .any d h2))
  rw [hd] at hok
  cases d<;> first|rfl|cases hok
 ·rename_i st xt a d hts hn
  obtain rfl:=two_of hn
  rw [map_two ρ,map_two σ]
  simp only [Bool.and_eq_true] at hok
  simp only at hts
  subst hts
  exact vany hok.2 (R_copy t (hρ .own a hok.1.1) (hρ .any d hok.1.2))
 ·rename_i xt a hts hn
  obtain rfl:=one_of hn
  rw [map_one ρ,map_one σ]
  simp only [Bool.and_eq_true] at hok
  obtain ⟨⟨h1,h2⟩,hok⟩:=hok
  simp only at hts
  subst hts
  refine vany h2 (R_len t (fun d hd=>?_) (hρ .any a h1))
  rw [hd] at hok
  cases d<;> first|exact .inl rfl|exact .inr ⟨_,rfl⟩|cases hok
 ·rename_i a d hn
  obtain rfl:=two_of hn
  rw [map_two ρ,map_two σ]
  simp only [Bool.and_eq_true] at hok
  exact vany hok.2 (R_min _ _ (hρ .any a hok.1.1) (hρ .any d hok.1.2))
 ·rename_i a d hn
  obtain rfl:=two_of hn
  rw [map_two ρ,map_two σ]
  simp only [Bool.and_eq_true] at hok
  exact vany hok.2 (R_max _ _ (hρ .any a hok.1.1) (hρ .any d hok.1.2))
 ·rename_i a d hn
  obtain rfl:=two_of hn
  rw [map_two ρ,map_two σ]
  simp only [Bool.and_eq_true] at hok
  exact vany hok.2 (R_unsafeString hb _ _ (hρ .own a hok.1.1) (hρ .any d hok.1.2))
 ·cases hok
theorem R_callStatic (F:Bodied P G L) {fl:Bool} {k₀:Kd} {g:FuncId} (hf:L.fn g) {v w:Value} (hv:v= .func (.func g) #[] #[]) (hw:w= .func (.func g) #[] #[]) {xs ys:Array Value} (hx:TR L τ g xs ys) (hr:fitsCol fl (L.res g) c=true) (ha: ∀k,L.ar g=some k→xs.size=k):
  SemR P G L C τ k₀ (NxR L C τ fl c) (do let d ← Deferred.ofValue v xs;invoke d.target d.args) (do let d ← Deferred.ofValue w ys;invoke d.target d.args):=by
 subst hv hw
 show SemR P G L C τ k₀ (NxR L C τ fl c) (callFunc g (#[]++xs++#[])) (callFunc g (#[]++ys++#[]))
 simp only [Array.empty_append,Array.append_empty]
 exact R_callFunc F hf hx hr ha
theorem R_execOp (E:Env P L τ) (F:Bodied P G L) (K:TabOk L T) (hfl:Flat T τ) (hg:(∀g,ρ (.func g)= .func (.func g) #[] #[])∧∀g,σ (.func g)= .func (.func g) #[] #[]) (hρ: ∀c x,fits L T f c x=true→CR L τ c (ρ x) (σ x)) (o:Oper) (ho:okOp P L T f c o.op=true):
  SemR P G L C τ (kdOp c o.op) (NxR L C τ T.fl c) (execOp ρ o) (execOp σ o):=by
 have hb:=E.bi.toTriOk
 have vown: ∀{p q:Sem Value},fitsCol T.fl .own c=true→SemR P G L C τ .own (VR L τ.own) p q→SemR P G L C τ .own (NxR L C τ T.fl c) (do pure (.value (← p))) (do pure (.value (← q))):=fun hc h=>R_value (h.mono fun _ _ hv=>CR.own hb hfl hc hv)
 have vany: ∀{p q:Sem Value},fitsCol T.fl .any c=true→SemR P G L C τ .own (VR L τ.all) p q→SemR P G L C τ .own (NxR L C τ T.fl c) (do pure (.value (← p))) (do pure (.value (← q))):=fun hc h=>R_value (h.mono fun _ _ hv=>CR.any hb hfl hc hv)
 have hA: ∀x,fits L T f .any x=true→VR L τ.all (ρ x) (σ x):=fun x hx=>hρ .any x hx
 have hO: ∀x,fits L T f .own x=true→VR L τ.own (ρ x) (σ x):=fun x hx=>hρ .own x hx
 have hX: ∀x,fits L T f .box x=true→VR L τ.box (ρ x) (σ x):=fun x hx=>hρ .box x hx
 unfold execOp
 cases hop:o.op with
 |move x=>rw [hop] at ho;exact .pure (.value (hρ c x ho))
 |assign x=>rw [hop] at ho;exact .pure (.value (hρ c x ho))
 |pick b x y=>
  rw [hop] at ho
  simp only [okOp,Bool.and_eq_true] at ho
  refine SemR.bind' (R_asBool (hA b ho.1.1)) ?_
  rintro x _ rfl
  refine .pure (.value ?_)
  split
  ·exact hρ c _ ho.1.2
  ·exact hρ c _ ho.2
 |alloc e=>rw [hop] at ho;exact vown ho (R_alloc E e)
 |box e x=>
  rw [hop] at ho
  simp only [okOp,Bool.or_eq_true,Bool.and_eq_true,decide_eq_true_eq,Bool.not_eq_true',decide_eq_false_iff_not] at ho
  rcases ho with ⟨rfl,h⟩|⟨⟨hc,hn⟩,h⟩
  ·exact R_value (c:= .box) (R_boxX e (hO x h))
  ·have e1:kdOp c (.box e x)= .own:=by simp [kdOp,hn]
   rw [e1]
   exact vown hc (R_box e (hA x h))
 |build t ps=>rw [hop] at ho;simp only [okOp,Bool.and_eq_true] at ho;exact vany ho.2 (R_build E t (XR.parts hρ ho.1))
 |buildSlice t n ps=>rw [hop] at ho;simp only [okOp,Bool.and_eq_true] at ho;exact vown ho.2 (R_buildSlice E t n (XR.parts hρ ho.1))
 |load t a=>
  rw [hop] at ho
  simp only [okOp,Bool.or_eq_true,Bool.and_eq_true] at ho
  rcases ho with ⟨h1,h2⟩|⟨h1,h2⟩
  ·exact vany h2 (R_loadAt t (hA a h1))
  ·exact vown h2 (R_loadAtBox t (hX a h1))
 |store t a x=>
  rw [hop] at ho
  simp only [okOp,Bool.or_eq_true,Bool.and_eq_true] at ho
  rcases ho with ⟨h1,h2⟩|⟨h1,h2⟩
  ·exact R_unit (R_storeAt t (hO a h1) (hA x h2))
  ·exact R_unit (R_storeAtBox t (hX a h1) (hO x h2))
 |nilCheck x=>
  rw [hop] at ho
  simp only [okOp,Bool.and_eq_true] at ho
  have h:=hρ c x ho.2
  dsimp only
  revert h
  generalize ρ x=v
  generalize σ x=w
  intro h
  have h':=h
  obtain ⟨π,hv⟩: ∃π,VR L π v w:=by
   cases c with
   |any=>exact ⟨_,h⟩
   |own=>exact ⟨_,h⟩
   |box=>exact ⟨_,h⟩
   |_=>cases ho.1
  clear h
  cases hv with
  |nilptr=>exact .doom _ (.runtimePanic _)
  |nilIface=>exact .doom _ (.runtimePanic _)
  |nilFunc=>exact .doom _ (.runtimePanic _)
  |junk s=>exact .doom _ (show Doomed (gp P G) (runtimePanic .nilDeref:Sem Next) from .runtimePanic _)
  |_=>exact .pure (.value h')
 |binOp op t x y yt=>
  rw [hop] at ho
  simp only [okOp,Bool.and_eq_true] at ho
  obtain ⟨⟨⟨hx,hy⟩,hc⟩,hop2⟩:=ho
  have vx:=hA x hx
  have vy:=hA y hy
  cases op with
  |eql=>
   simp only [Bool.and_eq_true,Bool.not_eq_true'] at hop2
   exact vany hc (R_eql E hop2.1 hop2.2 x y vx vy)
  |neq=>
   simp only [Bool.and_eq_true,Bool.not_eq_true'] at hop2
   exact vany hc (R_neq E hop2.1 hop2.2 x y vx vy)
  |add=>exact vany hc (R_bin_add E t vx vy)
  |sub=>exact vany hc (R_bin_sub E t vx vy)
  |mul=>exact vany hc (R_bin_mul E t vx vy)
  |quo=>exact vany hc (R_bin_quo E t vx vy)
  |rem=>exact vany hc (R_bin_rem E t vx vy)
  |and=>exact vany hc (R_bin_and E t vx vy)
  |or=>exact vany hc (R_bin_or E t vx vy)
  |xor=>exact vany hc (R_bin_xor E t vx vy)
  |shl=>exact vany hc (R_bin_shl E t vx vy)
  |shr=>exact vany hc (R_bin_shr E t vx vy)
  |andNot=>exact vany hc (R_bin_andNot E t vx vy)
  |lss=>exact vany hc (R_bin_lss E t vx vy)
  |leq=>exact vany hc (R_bin_leq E t vx vy)
  |gtr=>exact vany hc (R_bin_gtr E t vx vy)
  |geq=>exact vany hc (R_bin_geq E t vx vy)
 |unOp op t x=>rw [hop] at ho;simp only [okOp,Bool.and_eq_true] at ho;exact vany ho.2 (R_unary op (hA x ho.1))
 |convert s d x=>
  rw [hop] at ho
  simp only [okOp,Bool.and_eq_true] at ho
  obtain ⟨⟨hx,hcc⟩,hc⟩:=ho
  unfold okConv at hc
  split at hc
  ·rename_i h1 h2
   exact vany hcc (R_convertInt h1 h2 (hA x hx))
  ·rename_i e h1 h2
   split at hc
   ·rename_i h3
    exact vany hcc (R_convertBytes h1 h3 h2 (hA x hx))
   ·cases hc
  ·cases hc
 |makeInterface t x=>rw [hop] at ho;simp only [okOp,Bool.and_eq_true] at ho;exact vany ho.2 (R_makeInterface t (hA x ho.1))
 |makeFunc g a b=>
  rw [hop] at ho
  cases g with
  |func g=>
   simp only [okOp,Bool.or_eq_true,Bool.and_eq_true,decide_eq_true_eq] at ho
   rcases ho with ⟨⟨⟨h1,h2⟩,h3⟩,h4⟩|⟨⟨h1,h2⟩,h3⟩
   ·exact vany h4 (R_makeFunc (K.cb g h1) (XR.args hρ h2) (XR.args hρ h3))
   ·have ea:a=#[]:=by simpa using h1
    subst ea
    have hx:=XR.args hρ h2
    rcases h3 with ⟨⟨h3,rfl⟩,h4⟩|⟨⟨h3,rfl⟩,h4⟩
    ·refine R_value (c:= .itr) (.pure (.inr (.inr ⟨g,_,_,by simp,by simp,K.ib g h3,hx,by simpa using h4⟩)))
    ·refine R_value (c:= .loc) (.pure (.inr (.inr ⟨g,_,_,by simp,by simp,K.lb g h3,hx,by simpa using h4⟩)))
  |_=>cases ho
 |makeMap t r=>
  rw [hop] at ho
  cases r with
  |none=>exact vown ho (R_makeMap t)
  |some x=>cases ho
 |makeSlice t l d=>
  rw [hop] at ho
  simp only [okOp,Bool.and_eq_true] at ho
  exact vown ho.2 (R_makeSlice E t (hA l ho.1.1) (hA d ho.1.2))
 |slice t x l h m=>
  rw [hop] at ho
  simp only [okOp,Bool.or_eq_true,Bool.and_eq_true] at ho
  obtain ⟨⟨⟨h1,h2⟩,h3⟩,⟨h4,h5⟩|⟨h4,h5⟩⟩:=ho
  ·exact vany h5 (R_sliceAt t (hA x h4) (QR.opt hρ h1) (QR.opt hρ h2) (QR.opt hρ h3))
  ·exact vown h5 (R_sliceAt t (hO x h4) (QR.opt hρ h1) (QR.opt hρ h2) (QR.opt hρ h3))
 |fieldAddr s x i=>
  rw [hop] at ho
  simp only [okOp,Bool.or_eq_true,Bool.and_eq_true] at ho
  rcases ho with ⟨h1,h2⟩|⟨h1,h2⟩
  ·exact vany h2 (R_fieldAt (fun _ _ h=>h) s (hA x h1) i)
  ·exact vown h2 (R_fieldAt hb.own s (hO x h1) i)
 |field t x i=>rw [hop] at ho;simp only [okOp,Bool.and_eq_true] at ho;exact vany ho.2 (R_field t (hA x ho.1) i)
 |indexAddr t x i=>
  rw [hop] at ho
  simp only [okOp,Bool.or_eq_true,Bool.and_eq_true] at ho
  obtain ⟨hi,⟨h1,h2⟩|⟨h1,h2⟩⟩:=ho
  ·exact vany h2 (R_indexAt t (hA x h1) (hA i hi))
  ·exact vown h2 (R_indexAt t (hO x h1) (hA i hi))
 |index t x i=>
  rw [hop] at ho
  simp only [okOp,Bool.and_eq_true] at ho
  exact vany ho.2 (R_index t (hA x ho.1.1) (hA i ho.1.2))
 |lookup t x i ok=>
  rw [hop] at ho
  simp only [okOp,Bool.and_eq_true] at ho
  obtain ⟨⟨⟨h1,h3⟩,hc⟩,h2⟩:=ho
  refine vany hc (R_lookup E (m:=10) (fun k e hk=>?_) (hA x h1) (hA i h3) ok)
  rw [hk] at h2
  exact h2
 |mapUpdate t m k v=>
  rw [hop] at ho
  simp only [okOp,Bool.and_eq_true] at ho
  obtain ⟨⟨⟨hm,hk⟩,hv⟩,ht⟩:=ho
  split at ht
  ·rename_i h1
   split at ht
   ·rename_i h2
    exact R_unit (R_mapUpdate hb h1 h2 (hO m hm) (hA k hk) (hA v hv))
   ·cases ht
  ·cases ht
 |range t x=>rw [hop] at ho;simp only [okOp,Bool.and_eq_true] at ho;exact vown ho.2 (R_range t (hA x ho.1))
 |next x s=>
  rw [hop] at ho
  simp only [okOp,Bool.and_eq_true,Bool.not_eq_true'] at ho
  obtain ⟨⟨rfl,hx⟩,hc⟩:=ho
  exact vany hc (R_next hb (hO x hx) _)
 |entry x=>rw [hop] at ho;simp only [okOp,Bool.and_eq_true] at ho;exact vany ho.2 (R_entry (hA x ho.1))
 |typeAssert x a b ok=>rw [hop] at ho;simp only [okOp,Bool.and_eq_true] at ho;exact vany ho.2 (R_typeAssert E (hA x ho.1) a b ok)
 |extract x i=>rw [hop] at ho;simp only [okOp,Bool.and_eq_true] at ho;exact vany ho.2 (R_extract (hA x ho.1) i)
 |panic x=>
  refine .doom _ (Doomed.bind' ?_)
  unfold Instr.panic
  split
  ·exact .goPanic _
  ·refine Doomed.then ?_ fun _=>doomed_ite (.goPanic _) (.runtimePanic _)
   unfold Instr.panicnil
   refine Mild.bind (.sys _) fun r=>?_
   split
   ·exact Mild.bind .program fun _=> .pure _
   ·exact (Doomed.stuck _).mild
  ·exact .stuck _
 |call d=>
  rw [hop] at ho
  obtain ⟨cal,args,ats⟩:=d
  simp only [okOp] at ho
  cases cal with
  |builtin b=>
   show SemR P G L C τ .own (NxR L C τ T.fl c) (builtin b ats o.type _ (args.map ρ)) (builtin b ats o.type _ (args.map σ))
   exact R_builtin E hfl hρ b o.type _ ho
  |value g=>
   cases g with
   |func g=>
    simp only [okCallee,Bool.and_eq_true] at ho
    obtain ⟨⟨⟨h1,h2⟩,h3⟩,h4⟩:=ho
    exact R_callStatic F (K.fb g h1) (hg.1 g) (hg.2 g) (TR.args hρ h2) h3 (fun k hk=>by rw [hk] at h4;simpa using h4)
   |tmp i=>
    simp only [okCallee,Bool.and_eq_true,Bool.or_eq_true,decide_eq_true_eq] at ho
    obtain ⟨⟨h1,h2⟩,h3⟩:=ho
    have ha:=XR.args hρ h2
    rcases h1 with (h1|h1)|h1
    ·exact R_callValue F K h3 (hA (.tmp i) h1) ha
    ·exact R_callLoc F K h3 (hρ .loc (.tmp i) (by simp [fits,fitsCol,h1])) ha
    ·exact R_callYld h3 (hρ .yld (.tmp i) (by simp [fits,fitsCol,h1])) ha
   |_=>cases ho
  |invoke r n=>cases ho
 |_=>rw [hop] at ho;cases ho
end
end Go.Proofs.YtldmcdeibiclkaaGreatDoor.U
end
