/-
  Toward: treed_holds, each node's digest is that of its children's, for every argument of Treed. THE SAME TYPES, OTHER FUNCTIONS: what looks at types alone is the same.
  TWO RUNS OF ONE PIECE OF THE MODEL, SIDE BY SIDE: related values, objects, pieces ('SemR'); what comes of one run comes of the other (adequacy). No project text.
-/
import GoSem.Step
import Derived.Conc.Events
set_option linter.unusedVariables false
set_option linter.unusedSimpArgs false
set_option maxRecDepth 4000
section
namespace Go.Proofs.YtldmcdeibiclkaaGreatDoor.U
def gp (P:Program) (G:Array Func):Program:={P with funcs:=G}
section
variable (P:Program) (G:Array Func)
theorem gp_info (t:TypeId):(gp P G).info? t=P.info? t:=rfl
theorem gp_underlying (t:TypeId):(gp P G).underlying t=P.underlying t:=rfl
theorem gp_cellsOf (t:TypeId):(gp P G).cellsOf t=P.cellsOf t:=rfl
theorem gp_bytesOf (t:TypeId):(gp P G).bytesOf t=P.bytesOf t:=rfl
theorem gp_depth:(gp P G).depth=P.depth:=rfl
theorem gp_globals:(gp P G).globals=P.globals:=rfl
theorem gp_funcs:(gp P G).funcs=G:=rfl
theorem gp_byteOfCell: ∀(d:Nat) (t:TypeId) (off:Nat),byteOfCell (gp P G) d t off=byteOfCell P d t off
 |0,_,_=>rfl
 |d+1,t,off=>by
  unfold byteOfCell
  simp only [gp_byteOfCell d]
  rfl
theorem gp_cellOfByte: ∀(d:Nat) (t:TypeId) (off:Nat),cellOfByte (gp P G) d t off=cellOfByte P d t off
 |0,_,_=>rfl
 |d+1,t,off=>by
  unfold cellOfByte
  simp only [gp_cellOfByte d]
  rfl
theorem gp_cellAtBytes (d:Nat) (e:TypeId) (c o:Nat) (b:Int):cellAtBytes (gp P G) d e c o b=cellAtBytes P d e c o b:=by
 unfold cellAtBytes
 simp only [gp_byteOfCell,gp_cellOfByte]
 rfl
theorem gp_alike: ∀(n:Nat) (t u:TypeId),(gp P G).alikeButTags n t u=P.alikeButTags n t u
 |0,_,_=>rfl
 |n+1,t,u=>by
  unfold Program.alikeButTags
  simp only [gp_alike n]
  rfl
theorem gp_stoodInAs (t:TypeId):(gp P G).stoodInAs t=P.stoodInAs t:=by
 unfold Program.stoodInAs
 simp only [gp_alike]
 rfl
theorem gp_stoodInHeld (t:TypeId):(gp P G).stoodInHeld t=P.stoodInHeld t:=by
 unfold Program.stoodInHeld
 simp only [gp_stoodInAs]
 rfl
theorem gp_sameLayout: ∀(d:Nat) (t u:TypeId),sameLayout (gp P G) d t u=sameLayout P d t u
 |0,_,_=>rfl
 |d+1,t,u=>by
  unfold sameLayout
  simp only [gp_sameLayout d,gp_stoodInHeld]
  rfl
theorem gp_rowAt (fits:TypeId→Bool): ∀(d:Nat) (e:TypeId) (c o n:Nat),rowAt (gp P G) fits d e c o n=rowAt P fits d e c o n
 |0,_,_,_,_=>rfl
 |d+1,e,c,o,n=>by
  unfold rowAt
  simp only [gp_rowAt fits d,gp_stoodInHeld]
  rfl
theorem gp_liesAt: ∀(d:Nat) (e:TypeId) (c o:Nat) (u:TypeId) (n:Nat),liesAt (gp P G) d e c o u n=liesAt P d e c o u n
 |0,_,_,_,_,_=>rfl
 |d+1,e,c,o,u,n=>by
  unfold liesAt
  have hs:(fun x=>sameLayout (gp P G) (gp P G).depth x u)=fun x=>sameLayout P P.depth x u:=funext fun x=>gp_sameLayout P G _ x u
  simp only [gp_liesAt d,gp_rowAt,hs]
  rfl
theorem gp_eqGuardType: ∀(d:Nat) (t:TypeId),(gp P G).eqGuardType d t=P.eqGuardType d t
 |0,_=>rfl
 |d+1,t=>by
  unfold Program.eqGuardType
  simp only [gp_eqGuardType d]
  rfl
end
end Go.Proofs.YtldmcdeibiclkaaGreatDoor.U
end
section
namespace Go.Proofs.YtldmcdeibiclkaaGreatDoor.U
def AR (π:Nat→Nat→Prop) (a b:Addr):Prop:=π a.block b.block∧b.off=a.off∧b.spot=a.spot
inductive Col where
 |any|own|box
 |yld|itr
 |loc
 deriving DecidableEq
inductive Kd where
 |own|box|lp
 deriving DecidableEq
structure Lim where
 fn:FuncId→Prop
 clo:FuncId→Prop
 itr:FuncId→Prop
 loc:FuncId→Prop
 junk:String→Value
 col:FuncId→Nat→Col
 res:FuncId→Col
 ar:FuncId→Option Nat
structure Tri where
 all:Nat→Nat→Prop
 own:Nat→Nat→Prop
 box:Nat→Nat→Prop
 lp:Nat→Nat→Prop
def Tri.un (τ:Tri) (r s:Nat):Prop:=τ.all r s∨τ.box r s∨τ.lp r s
def Tri.kd (τ:Tri):Kd→Nat→Nat→Prop
 | .own=>τ.own
 | .box=>τ.box
 | .lp=>τ.lp
structure TriOk (τ:Tri):Prop where
 own: ∀r s,τ.own r s→τ.all r s
 two: ∀r s t,τ.all r s→τ.box r t→False
 two': ∀r s t,τ.all r s→τ.lp r t→False
 two'': ∀r s t,τ.box r s→τ.lp r t→False
def junkOf (s:String):Value:= .func (.method s) #[.nilIface] #[]
inductive VR (L:Lim) (π:Nat→Nat→Prop):Value→Value→Prop
 |junk (s:String):(∀c,L.junk s≠.agg c)→(∀c,L.junk s≠.tuple c)→(∀b,L.junk s≠.bool b)→VR L π (.func (.method s) #[.nilIface] #[]) (L.junk s)
 |bool (b:Bool):VR L π (.bool b) (.bool b)
 |int (k:IntKind) (n:Int):VR L π (.int k n) (.int k n)
 |string (s:ByteArray):VR L π (.string s) (.string s)
 |nilptr:VR L π (.pointer none) (.pointer none)
 |ptr {a b:Addr}:AR π a b→VR L π (.pointer (some a)) (.pointer (some b))
 |nilslice (n c:Nat):VR L π (.slice none n c) (.slice none n c)
 |slice {a b:Addr} (n c:Nat):AR π a b→VR L π (.slice (some a) n c) (.slice (some b) n c)
 |nilmap:VR L π (.map none) (.map none)
 |nilchan:VR L π (.chan none) (.chan none)
 |map {r s:Nat}:π r s→VR L π (.map (some r)) (.map (some s))
 |func {f:FuncId} (xs ys:Array (Value×Value)):L.clo f→(∀z∈xs,VR L π z.1 z.2)→(∀z∈ys,VR L π z.1 z.2)→
   VR L π (.func (.func f) (xs.map (·.1)) (ys.map (·.1))) (.func (.func f) (xs.map (·.2)) (ys.map (·.2)))
 |nilFunc:VR L π .nilFunc .nilFunc
 |iface (t:TypeId) {v w:Value}:VR L π v w→VR L π (.iface t v) (.iface t w)
 |nilIface:VR L π .nilIface .nilIface
 |agg (xs:Array (Value×Value)):(∀z∈xs,VR L π z.1 z.2)→VR L π (.agg (xs.map (·.1))) (.agg (xs.map (·.2)))
 |tuple (xs:Array (Value×Value)):(∀z∈xs,VR L π z.1 z.2)→VR L π (.tuple (xs.map (·.1))) (.tuple (xs.map (·.2)))
def XR {α β:Type} (R:α→β→Prop) (xs:Array α) (ys:Array β):Prop:=∃zs:Array (α×β),xs=zs.map (·.1)∧ys=zs.map (·.2)∧∀z∈zs,R z.1 z.2
def ER (L:Lim) (π:Nat→Nat→Prop) (e f:MapEntry):Prop:=VR L π e.key f.key∧VR L π e.val f.val∧f.born=e.born
def NR (π:Nat→Nat→Prop):Option Nat→Option Nat→Prop
 |none,none=>True
 |some r,some s=>π r s
 |_,_=>False
def FunV (L:Lim) (p:FuncId→Prop) (n:Nat) (τ:Tri) (v w:Value):Prop:=
 (v= .tuple #[]∧w= .tuple #[])∨(v= .nilFunc∧w= .nilFunc)∨∃f xs ys,v= .func (.func f) #[] xs∧w= .func (.func f) #[] ys∧p f∧XR (VR L τ.all) xs ys∧xs.size≤n
def CR (L:Lim) (τ:Tri):Col→Value→Value→Prop
 | .any,v,w=>VR L τ.all v w
 | .own,v,w=>VR L τ.own v w
 | .box,v,w=>VR L τ.box v w
 | .yld,v,w=>(v= .tuple #[]∧w= .tuple #[])∨∃l m,v= .func (.yield l) #[] #[]∧w= .func (.yield m) #[] #[]∧τ.lp l m
 | .itr,v,w=>FunV L L.itr 1 τ v w
 | .loc,v,w=>FunV L L.loc 2 τ v w
def TR (L:Lim) (τ:Tri) (f:FuncId) (xs ys:Array Value):Prop:=ys.size=xs.size∧∀(i:Nat) x y,xs[i]? =some x→ys[i]? =some y→CR L τ (L.col f i) x y
inductive OR (L:Lim) (τ:Tri):Obj→Obj→Prop
 |cells {xs ys:Array Value} (e:TypeId) (f:Nat×Nat):XR (VR L τ.all) xs ys→OR L τ (.cells xs e f) (.cells ys e f)
 |map {xs ys:Array MapEntry} (c:Nat):XR (ER L τ.all) xs ys→OR L τ (.map xs c) (.map ys c)
 |stringIter (s:ByteArray) (p:Nat):OR L τ (.stringIter s p) (.stringIter s p)
 |mapIter {r s:Option Nat} (since:Nat) (seen:Array Nat) (st:Nat):NR τ.all r s→OR L τ (.mapIter r since seen st) (.mapIter s since seen st)
 |number {a b:Addr} (lost:Bool):AR τ.all a b→OR L τ (.number a lost) (.number b lost)
def Jump (c:Code):Prop:=c= .ret∨∃id,c= .exit id
inductive PR' (L:Lim) (C:FuncId→Code→Prop) (τ:Tri):Obj→Obj→Prop
 |loop {k l:Loop}:l.state=k.state→l.pending=k.pending→l.fn=k.fn→TR L τ k.fn k.tmps l.tmps→l.params=k.params→l.assign=k.assign→l.body=k.body→τ.lp k.defers l.defers→
   C k.fn k.assign→C k.fn k.body→(∀c,k.pending=some c→Jump c)→L.fn k.fn→(∀p∈k.params,L.col k.fn p= .any)→PR' L C τ (.loop k) (.loop l)
 |deferred {d:Option (List Deferred)}:(d=none∨d=some [])→PR' L C τ (.deferred d) (.deferred d)
def NotCells (o:Obj):Prop:=∀c e f,o≠.cells c e f
def Tame:Halt→Prop
 | .panic _| .stuck _| .unsupported _=>True
 |_=>False
def DefKeep (w w1:World):Prop:=∀(r:Nat) d,w1.heap[r]? =some (.deferred d)→w.heap[r]? =some (.deferred d)
theorem DefKeep.refl (w:World):DefKeep w w:=fun _ _ h=>h
theorem DefKeep.trans {w w1 w2:World} (h:DefKeep w w1) (k:DefKeep w1 w2):DefKeep w w2:=fun r d e=>h r d (k r d e)
def Doomed (P:Program) {α:Type} (p:Sem α):Prop:=∀w es,∃h w1 es1,p.runT P w es=(.halt h w1,es1)∧Tame h∧DefKeep w w1
def Mild (P:Program) {α:Type} (p:Sem α):Prop:=∀w es,(∃a w1 es1,p.runT P w es=(.ok a w1,es1)∧DefKeep w w1)∨(∃h w1 es1,p.runT P w es=(.halt h w1,es1)∧Tame h∧DefKeep w w1)
section
variable {P:Program} {α β:Type}
theorem Doomed.mild {p:Sem α} (h:Doomed P p):Mild P p:=fun w es=> .inr (h w es)
theorem Mild.pure (a:α):Mild P (Pure.pure a:Sem α):=fun w es=> .inl ⟨a,w,es,rfl,.refl w⟩
theorem Mild.bind {p:Sem α} {f:α→Sem β} (h:Mild P p) (k: ∀a,Mild P (f a)):Mild P (p >>=f):=fun w es=>by
 rcases h w es with ⟨a,w1,es1,e,hk⟩|⟨hh,w1,es1,e,ht,hk⟩
 ·rcases k a w1 es1 with ⟨b,w2,es2,e2,hk2⟩|⟨hh,w2,es2,e2,ht,hk2⟩
  ·refine .inl ⟨b,w2,es2,?_,hk.trans hk2⟩
   show (p.bind f).runT P w es=_
   rw [Sem.runT_bind',e];exact e2
  ·refine .inr ⟨hh,w2,es2,?_,ht,hk.trans hk2⟩
   show (p.bind f).runT P w es=_
   rw [Sem.runT_bind',e];exact e2
 ·refine .inr ⟨hh,w1,es1,?_,ht,hk⟩
  show (p.bind f).runT P w es=_
  rw [Sem.runT_bind',e]
theorem Mild.ite {c:Prop} [Decidable c] {p q:Sem α} (h:Mild P p) (k:Mild P q):Mild P (if c then p else q):=by split<;> assumption
theorem Mild.choose (q:Question):Mild P (Go.choose q):=fun w es=>by
 refine .inl ?_
 unfold Go.choose
 by_cases hf:q.forced=true
 ·exact ⟨0,w,es,by simp only [Sem.runT,hf,if_true],.refl w⟩
 ·exact ⟨q.cut (w.tape w.drawn q),{w with drawn:=w.drawn+1},es,by simp only [Sem.runT,hf,Bool.false_eq_true,if_false],fun _ _ h=>h⟩
theorem Mild.program:Mild P Go.program:=fun w es=> .inl ⟨P,w,es,rfl,.refl w⟩
theorem Mild.shape (r:Nat):Mild P (Go.shape r):=fun w es=> .inl ⟨_,w,es,rfl,.refl w⟩
theorem Mild.frozen (a:Addr):Mild P (Go.frozen a):=fun w es=> .inl ⟨_,w,es,rfl,.refl w⟩
theorem Mild.mark (m:Mark):Mild P (Go.mark m):=fun w _=> .inl ⟨(),w,_,rfl,.refl w⟩
theorem Mild.newCells (c:Array Value) (e:TypeId):Mild P (newObj (.cells c e)):=fun w es=> .inl ⟨_,{w with heap:=w.heap.push (.cells c e)},es,rfl,fun r d h=>by
 simp only [Array.getElem?_push] at h
 split at h
 ·cases h
 ·exact h⟩
theorem Doomed.bind {p:Sem α} {f:α→Sem β} (h:Doomed P p):Doomed P (p.bind f):=fun w es=>by
 obtain ⟨hh,w1,es1,e,ht,hk⟩:=h w es
 exact ⟨hh,w1,es1,by rw [Sem.runT_bind',e],ht,hk⟩
theorem Doomed.bind' {p:Sem α} {f:α→Sem β} (h:Doomed P p):Doomed P (p >>=f):=h.bind
theorem Doomed.then {p:Sem α} {f:α→Sem β} (hp:Mild P p) (h: ∀a,Doomed P (f a)):Doomed P (p >>=f):=fun w es=>by
 rcases hp w es with ⟨a,w1,es1,e,hk⟩|⟨hh,w1,es1,e,ht,hk⟩
 ·obtain ⟨hh,w2,es2,e2,ht,hk2⟩:=h a w1 es1
  refine ⟨hh,w2,es2,?_,ht,hk.trans hk2⟩
  show (p.bind f).runT P w es=_
  rw [Sem.runT_bind',e];exact e2
 ·refine ⟨hh,w1,es1,?_,ht,hk⟩
  show (p.bind f).runT P w es=_
  rw [Sem.runT_bind',e]
theorem Doomed.halt {h:Halt} (ht:Tame h):Doomed P (.halt h:Sem α):=fun w es=>⟨h,w,es,rfl,ht,.refl w⟩
theorem Doomed.stuck (s:String):Doomed P (Go.stuck s:Sem α):=Doomed.halt trivial
theorem Doomed.unsupported (u:Unsupported):Doomed P (Go.unsupported u:Sem α):=Doomed.halt trivial
theorem Doomed.goPanic (v:Value):Doomed P (Go.goPanic v:Sem α):=Doomed.halt trivial
theorem Mild.typeInfo (t:TypeId):Mild P (Go.typeInfo t):=by
 unfold Go.typeInfo
 refine Mild.bind .program fun p=>?_
 split
 ·exact .pure _
 ·exact (Doomed.stuck _).mild
theorem Mild.underlying (t:TypeId):Mild P (Go.underlying t):=by
 unfold Go.underlying
 refine Mild.bind .program fun p=>?_
 split
 ·exact .pure _
 ·exact (Doomed.stuck _).mild
theorem Mild.elemOf (t:TypeId):Mild P (Go.elemOf t):=by
 unfold Go.elemOf
 refine Mild.bind (.underlying t) fun d=>?_
 split
 ·exact .pure _
 ·exact (Doomed.stuck _).mild
theorem Mild.typeStr (t:TypeId):Mild P (Go.typeStr t):=by
 unfold Go.typeStr
 refine Mild.bind (.typeInfo t) fun d=>?_
 dsimp only
 split
 ·exact (Doomed.unsupported _).mild
 ·exact .pure _
theorem Mild.newVar (t:TypeId) (v:Value):Mild P (Go.newVar t v):=Mild.bind (.newCells _ _) fun _=> .pure _
theorem Mild.asIntOf (v:Value):Mild P (Go.asIntOf v):=by
 cases v with
 |int=>exact .pure _
 |pointer p=>cases p<;> first|exact (Doomed.stuck _).mild|exact (Doomed.unsupported _).mild
 |_=>exact (Doomed.stuck _).mild
theorem Mild.asInt (v:Value):Mild P (Go.asInt v):=Mild.bind (.asIntOf v) fun _=> .pure _
theorem Doomed.runtimePanic (e:RuntimeError):Doomed P (Go.runtimePanic e:Sem α):=by
 unfold Go.runtimePanic
 refine Doomed.then .program fun p=>?_
 cases e with
 |typeAssertion i c a m=>exact Doomed.then (.elemOf _) fun _=>Doomed.then (.newVar _ _) fun _=>Doomed.goPanic _
 |panicNil=>exact Doomed.then (.elemOf _) fun _=>Doomed.then (.newVar _ _) fun _=>Doomed.goPanic _
 |_=>exact Doomed.goPanic _
theorem Doomed.boundsPanic (k:IntKind) (x y:Int) (c:BoundsCode):Doomed P (Go.boundsPanic k x y c:Sem α):=by
 unfold Go.boundsPanic
 dsimp only
 split
 ·exact Doomed.then (Mild.bind (.choose _) fun _=> .pure _) fun _=>Doomed.runtimePanic _
 ·exact Doomed.then (.pure _) fun _=>Doomed.runtimePanic _
theorem Mild.sliceBound (v:Value) (y:Nat) (c:BoundsCode):Mild P (Instr.sliceBound v y c):=by
 unfold Instr.sliceBound
 refine Mild.bind (.asIntOf v) fun x=>?_
 obtain ⟨k,i⟩:=x
 dsimp only
 exact Mild.ite (.pure _) (Doomed.boundsPanic _ _ _ _).mild
end
inductive SemR (P:Program) (G:Array Func) (L:Lim) (C:FuncId→Code→Prop) (τ:Tri) (k₀:Kd) {α β:Type} (R:α→β→Prop):Sem α→Sem β→Prop
 |pure {a:α} {b:β}:R a b→SemR P G L C τ k₀ R (.pure a) (.pure b)
 |load {a b:Addr} {k:Value→Sem α} {l:Value→Sem β}:AR τ.all a b→(∀v w,VR L τ.all v w→SemR P G L C τ k₀ R (k v) (l w))→SemR P G L C τ k₀ R (.load .plain a k) (.load .plain b l)
 |loadX {a b:Addr} {k:Value→Sem α} {l:Value→Sem β}:AR τ.box a b→(∀v w,VR L τ.own v w→SemR P G L C τ k₀ R (k v) (l w))→SemR P G L C τ k₀ R (.load .plain a k) (.load .plain b l)
 |store {a b:Addr} {v w:Value} {k:Sem α} {l:Sem β}:AR τ.own a b→VR L τ.all v w→SemR P G L C τ k₀ R k l→SemR P G L C τ k₀ R (.store .plain a v k) (.store .plain b w l)
 |storeX {a b:Addr} {v w:Value} {k:Sem α} {l:Sem β}:AR τ.box a b→VR L τ.own v w→SemR P G L C τ k₀ R k l→SemR P G L C τ k₀ R (.store .plain a v k) (.store .plain b w l)
 |new {o q:Obj} {k:Nat→Sem α} {l:Nat→Sem β}:k₀= .own→OR L τ o q→(∀r s,τ.own r s→SemR P G L C τ k₀ R (k r) (l s))→SemR P G L C τ k₀ R (.new o k) (.new q l)
 |newX {xs ys:Array Value} (e:TypeId) (f:Nat×Nat) {k:Nat→Sem α} {l:Nat→Sem β}:k₀= .box→XR (VR L τ.own) xs ys→(∀r s,τ.box r s→SemR P G L C τ k₀ R (k r) (l s))→SemR P G L C τ k₀ R (.new (.cells xs e f) k) (.new (.cells ys e f) l)
 |newL {o q:Obj} {k:Nat→Sem α} {l:Nat→Sem β}:k₀= .lp→PR' L C τ o q→(∀r s,τ.lp r s→SemR P G L C τ k₀ R (k r) (l s))→SemR P G L C τ k₀ R (.new o k) (.new q l)
 |getL {r s:Nat} {k:Obj→Sem α} {l:Obj→Sem β}:τ.lp r s→(∀o q,PR' L C τ o q→SemR P G L C τ k₀ R (k o) (l q))→SemR P G L C τ k₀ R (.getObj r k) (.getObj s l)
 |setL {r s:Nat} {o q:Obj} {k:Sem α} {l:Sem β}:τ.lp r s→PR' L C τ o q→SemR P G L C τ k₀ R k l→SemR P G L C τ k₀ R (.setObj r o k) (.setObj s q l)
 |shape {r s:Nat} {k:Option (TypeId×Nat)→Sem α} {l:Option (TypeId×Nat)→Sem β}:τ.all r s→(∀x,SemR P G L C τ k₀ R (k x) (l x))→SemR P G L C τ k₀ R (.shape r k) (.shape s l)
 |freeze {a b:Addr} (n:Nat) {k:Sem α} {l:Sem β}:AR τ.own a b→SemR P G L C τ k₀ R k l→SemR P G L C τ k₀ R (.freeze a n k) (.freeze b n l)
 |frozen {a b:Addr} {k:Bool→Sem α} {l:Bool→Sem β}:AR τ.all a b→(∀x,SemR P G L C τ k₀ R (k x) (l x))→SemR P G L C τ k₀ R (.frozen a k) (.frozen b l)
 |getObj {r s:Nat} {k:Obj→Sem α} {l:Obj→Sem β}:τ.all r s→(∀o q,OR L τ o q→SemR P G L C τ k₀ R (k o) (l q))→SemR P G L C τ k₀ R (.getObj r k) (.getObj s l)
 |setObj {r s:Nat} {o q:Obj} {k:Sem α} {l:Sem β}:τ.own r s→OR L τ o q→NotCells o→SemR P G L C τ k₀ R k l→SemR P G L C τ k₀ R (.setObj r o k) (.setObj s q l)
 |choose (q:Question) {k:Nat→Sem α} {l:Nat→Sem β}:(∀n,SemR P G L C τ k₀ R (k n) (l n))→SemR P G L C τ k₀ R (.choose q k) (.choose q l)
 |program {k:Program→Sem α} {l:Program→Sem β}:SemR P G L C τ k₀ R (k (gp P G)) (l P)→SemR P G L C τ k₀ R (.program k) (.program l)
 |programL {k:Program→Sem α} {q:Sem β}:SemR P G L C τ k₀ R (k (gp P G)) q→SemR P G L C τ k₀ R (.program k) q
 |noRoom {k:Sem α} {l:Sem β}:SemR P G L C τ k₀ R k l→SemR P G L C τ k₀ R (.mark .noRoom k) (.mark .noRoom l)
 |doom {p:Sem α} (q:Sem β):Doomed (gp P G) p→SemR P G L C τ k₀ R p q
section
variable {P:Program} {G:Array Func} {L:Lim} {C:FuncId→Code→Prop} {π:Nat→Nat→Prop} {τ υ:Tri} {k₀:Kd}
theorem SemR.bind {α β γ δ:Type} {R:α→β→Prop} {S:γ→δ→Prop} {p:Sem α} {q:Sem β} {f:α→Sem γ} {g:β→Sem δ} (h:SemR P G L C τ k₀ R p q)
  (hf: ∀a b,R a b→SemR P G L C τ k₀ S (f a) (g b)):SemR P G L C τ k₀ S (p.bind f) (q.bind g):=by
 induction h with
 |pure h=>exact hf _ _ h
 |load h _ ih=>exact .load h fun v w hv=>ih v w hv
 |loadX h _ ih=>exact .loadX h fun v w hv=>ih v w hv
 |store h hv _ ih=>exact .store h hv ih
 |storeX h hv _ ih=>exact .storeX h hv ih
 |new hk h _ ih=>exact .new hk h fun r s hr=>ih r s hr
 |newX e f hk h _ ih=>exact .newX e f hk h fun r s hr=>ih r s hr
 |newL hk h _ ih=>exact .newL hk h fun r s hr=>ih r s hr
 |getL h _ ih=>exact .getL h fun o q ho=>ih o q ho
 |setL h ho _ ih=>exact .setL h ho ih
 |shape h _ ih=>exact .shape h fun x=>ih x
 |freeze n h _ ih=>exact .freeze n h ih
 |frozen h _ ih=>exact .frozen h fun x=>ih x
 |getObj h _ ih=>exact .getObj h fun o q ho=>ih o q ho
 |setObj h ho hn _ ih=>exact .setObj h ho hn ih
 |choose q _ ih=>exact .choose q fun n=>ih n
 |program _ ih=>exact .program ih
 |programL _ ih=>exact .programL ih
 |noRoom _ ih=>exact .noRoom ih
 |doom q h=>exact .doom _ h.bind
theorem SemR.bind' {α β γ δ:Type} {R:α→β→Prop} {S:γ→δ→Prop} {p:Sem α} {q:Sem β} {f:α→Sem γ} {g:β→Sem δ} (h:SemR P G L C τ k₀ R p q)
  (hf: ∀a b,R a b→SemR P G L C τ k₀ S (f a) (g b)):SemR P G L C τ k₀ S (p >>=f) (q >>=g):=SemR.bind h hf
theorem SemR.mono {α β:Type} {R S:α→β→Prop} {p:Sem α} {q:Sem β} (h:SemR P G L C τ k₀ R p q) (hf: ∀a b,R a b→S a b):SemR P G L C τ k₀ S p q:=by
 induction h with
 |pure h=>exact .pure (hf _ _ h)
 |load h _ ih=>exact .load h fun v w hv=>ih v w hv
 |loadX h _ ih=>exact .loadX h fun v w hv=>ih v w hv
 |store h hv _ ih=>exact .store h hv ih
 |storeX h hv _ ih=>exact .storeX h hv ih
 |new hk h _ ih=>exact .new hk h fun r s hr=>ih r s hr
 |newX e f hk h _ ih=>exact .newX e f hk h fun r s hr=>ih r s hr
 |newL hk h _ ih=>exact .newL hk h fun r s hr=>ih r s hr
 |getL h _ ih=>exact .getL h fun o q ho=>ih o q ho
 |setL h ho _ ih=>exact .setL h ho ih
 |shape h _ ih=>exact .shape h fun x=>ih x
 |freeze n h _ ih=>exact .freeze n h ih
 |frozen h _ ih=>exact .frozen h fun x=>ih x
 |getObj h _ ih=>exact .getObj h fun o q ho=>ih o q ho
 |setObj h ho hn _ ih=>exact .setObj h ho hn ih
 |choose q _ ih=>exact .choose q fun n=>ih n
 |program _ ih=>exact .program ih
 |programL _ ih=>exact .programL ih
 |noRoom _ ih=>exact .noRoom ih
 |doom q h=>exact .doom _ h
theorem VR.mono {ρ:Nat→Nat→Prop} (hm: ∀r s,π r s→ρ r s) {v w:Value} (h:VR L π v w):VR L ρ v w:=by
 induction h with
 |junk s a b c=>exact .junk s a b c
 |bool b=>exact .bool b
 |int k n=>exact .int k n
 |string s=>exact .string s
 |nilptr=>exact .nilptr
 |ptr h=>exact .ptr ⟨hm _ _ h.1,h.2⟩
 |nilslice n c=>exact .nilslice n c
 |slice n c h=>exact .slice n c ⟨hm _ _ h.1,h.2⟩
 |nilmap=>exact .nilmap
 |nilchan=>exact .nilchan
 |map h=>exact .map (hm _ _ h)
 |func xs ys hf _ _ ihx ihy=>exact .func xs ys hf ihx ihy
 |nilFunc=>exact .nilFunc
 |iface t _ ih=>exact .iface t ih
 |nilIface=>exact .nilIface
 |agg xs _ ih=>exact .agg xs ih
 |tuple xs _ ih=>exact .tuple xs ih
theorem XR.imp {α β:Type} {R S:α→β→Prop} (hm: ∀a b,R a b→S a b) {xs:Array α} {ys:Array β} (h:XR R xs ys):XR S xs ys:=
 let ⟨zs,h1,h2,h3⟩:=h;⟨zs,h1,h2,fun z hz=>hm _ _ (h3 z hz)⟩
theorem AR.mono {ρ:Nat→Nat→Prop} (hm: ∀r s,π r s→ρ r s) {a b:Addr} (h:AR π a b):AR ρ a b:=⟨hm _ _ h.1,h.2⟩
theorem ER.mono {ρ:Nat→Nat→Prop} (hm: ∀r s,π r s→ρ r s) {a b:MapEntry} (h:ER L π a b):ER L ρ a b:=⟨h.1.mono hm,h.2.1.mono hm,h.2.2⟩
theorem NR.mono {ρ:Nat→Nat→Prop} (hm: ∀r s,π r s→ρ r s): ∀{a b:Option Nat},NR π a b→NR ρ a b
 |none,none,_=>trivial
 |some _,some _,h=>hm _ _ h
structure TriLe (τ υ:Tri):Prop where
 all: ∀r s,τ.all r s→υ.all r s
 own: ∀r s,τ.own r s→υ.own r s
 box: ∀r s,τ.box r s→υ.box r s
 lp: ∀r s,τ.lp r s→υ.lp r s
theorem CR.mono (hm:TriLe τ υ) {c:Col} {v w:Value} (h:CR L τ c v w):CR L υ c v w:=by
 cases c with
 |any=>exact VR.mono hm.all h
 |own=>exact VR.mono hm.own h
 |box=>exact VR.mono hm.box h
 |yld=>exact h.imp id fun ⟨l,m,h1,h2,h3⟩=>⟨l,m,h1,h2,hm.lp _ _ h3⟩
 |itr=>exact h.imp id (Or.imp id fun ⟨f,xs,ys,h1,h2,h3,h4,h5⟩=>⟨f,xs,ys,h1,h2,h3,h4.imp fun _ _=>VR.mono hm.all,h5⟩)
 |loc=>exact h.imp id (Or.imp id fun ⟨f,xs,ys,h1,h2,h3,h4,h5⟩=>⟨f,xs,ys,h1,h2,h3,h4.imp fun _ _=>VR.mono hm.all,h5⟩)
theorem TR.mono (hm:TriLe τ υ) {f:FuncId} {xs ys:Array Value} (h:TR L τ f xs ys):TR L υ f xs ys:=⟨h.1,fun i x y hx hy=>(h.2 i x y hx hy).mono hm⟩
theorem OR.mono (hm:TriLe τ υ) {o q:Obj} (h:OR L τ o q):OR L υ o q:=by
 cases h with
 |cells e f h=>exact .cells e f (h.imp fun _ _=>VR.mono hm.all)
 |map c h=>exact .map c (h.imp fun _ _=>ER.mono hm.all)
 |stringIter s p=>exact .stringIter s p
 |mapIter a b c h=>exact .mapIter a b c (h.mono hm.all)
 |number l h=>exact .number l (h.mono hm.all)
theorem PR'.mono (hm:TriLe τ υ) {o q:Obj} (h:PR' L C τ o q):PR' L C υ o q:=by
 cases h with
 |loop h1 h2 h3 h4 h5 h6 h7 h8 h9 h10 h11 h12 h13=>exact .loop h1 h2 h3 (h4.mono hm) h5 h6 h7 (hm.lp _ _ h8) h9 h10 h11 h12 h13
 |deferred h=>exact .deferred h
theorem AR.add {a b:Addr} (h:AR π a b) (n:Nat):AR π (a.add n) (b.add n):=by
 unfold Addr.add
 split
 ·exact h
 ·exact ⟨h.1,by simp [h.2.1],rfl⟩
section rows
variable {α β:Type} {R:α→β→Prop} {xs:Array α} {ys:Array β}
theorem XR.size (h:XR R xs ys):ys.size=xs.size:=by obtain ⟨zs,rfl,rfl,_⟩:=h;simp
theorem XR.get? (h:XR R xs ys) (i:Nat):(xs[i]? =none∧ys[i]? =none)∨∃x y,xs[i]? =some x∧ys[i]? =some y∧R x y:=by
 obtain ⟨zs,rfl,rfl,hz⟩:=h
 cases e:zs[i]? with
 |none=>exact .inl ⟨by simp [e],by simp [e]⟩
 |some z=>exact .inr ⟨z.1,z.2,by simp [e],by simp [e],hz z (Array.mem_of_getElem? e)⟩
theorem XR.of_get (hs:ys.size=xs.size) (h: ∀(i:Nat) (x:α) (y:β),xs[i]? =some x→ys[i]? =some y→R x y):XR R xs ys:=by
 refine ⟨xs.zip ys,?_,?_,?_⟩
 ·apply Array.ext
  ·simp [hs]
  ·intro i h1 h2;simp
 ·apply Array.ext
  ·simp [hs]
  ·intro i h1 h2;simp
 ·intro z hz
  obtain ⟨i,hi,rfl⟩:=Array.mem_iff_getElem.1 hz
  have hi1:i< xs.size:=by simp at hi;omega
  have hi2:i< ys.size:=by omega
  exact h i _ _ (by simp [hi1]) (by simp [hi2])
theorem XR.nil:XR R #[] #[]:=⟨#[],by simp,by simp,by simp⟩
theorem XR.push {x:α} {y:β} (h:XR R xs ys) (hx:R x y):XR R (xs.push x) (ys.push y):=by
 obtain ⟨zs,rfl,rfl,hz⟩:=h
 refine ⟨zs.push (x,y),by simp,by simp,fun z hm=>?_⟩
 rcases Array.mem_push.1 hm with h|rfl
 ·exact hz z h
 ·exact hx
theorem XR.append {us:Array α} {vs:Array β} (h:XR R xs ys) (h':XR R us vs):XR R (xs++us) (ys++vs):=by
 obtain ⟨zs,rfl,rfl,hz⟩:=h
 obtain ⟨zs',rfl,rfl,hz'⟩:=h'
 exact ⟨zs++zs',by simp,by simp,fun z hm=>(Array.mem_append.1 hm).elim (hz z) (hz' z)⟩
theorem XR.extract (h:XR R xs ys) (i j:Nat):XR R (xs.extract i j) (ys.extract i j):=by
 obtain ⟨zs,rfl,rfl,hz⟩:=h
 exact ⟨zs.extract i j,by simp,by simp,fun z hm=>by
  obtain ⟨k,hk,rfl⟩:=Array.mem_iff_getElem.1 hm
  rw [Array.getElem_extract]
  exact hz _ (Array.getElem_mem _)⟩
theorem XR.set {x:α} {y:β} (h:XR R xs ys) (hx:R x y) (i:Nat):XR R (xs.setIfInBounds i x) (ys.setIfInBounds i y):=by
 refine XR.of_get (by simp [h.size]) fun j a b ha hb=>?_
 rw [Array.getElem?_setIfInBounds] at ha hb
 by_cases e:i=j
 ·subst e
  simp only [if_true] at ha hb
  split at ha
  ·split at hb
   ·cases ha;cases hb;exact hx
   ·cases hb
  ·cases ha
 ·simp only [e,if_false] at ha hb
  rcases h.get? j with ⟨h1,_⟩|⟨u,v,h1,h2,h3⟩
  ·rw [h1] at ha;cases ha
  ·rw [h1] at ha;rw [h2] at hb;cases ha;cases hb;exact h3
theorem XR.modify {f:α→α} {g:β→β} (h:XR R xs ys) (hf: ∀a b,R a b→R (f a) (g b)) (i:Nat):XR R (xs.modify i f) (ys.modify i g):=by
 refine XR.of_get (by simp [h.size]) fun j a b ha hb=>?_
 rw [Array.getElem?_modify] at ha hb
 rcases h.get? j with ⟨h1,_⟩|⟨u,v,h1,h2,h3⟩
 ·rw [h1] at ha;split at ha<;> cases ha
 ·rw [h1] at ha;rw [h2] at hb
  by_cases e:i=j
  ·simp [e] at ha hb;subst ha;subst hb;exact hf _ _ h3
  ·simp [e] at ha hb;subst ha;subst hb;exact h3
theorem XR.map {γ δ:Type} {S:γ→δ→Prop} {f:α→γ} {g:β→δ} (h:XR R xs ys) (hf: ∀a b,R a b→S (f a) (g b)):XR S (xs.map f) (ys.map g):=by
 obtain ⟨zs,rfl,rfl,hz⟩:=h
 refine ⟨zs.map fun z=>(f z.1,g z.2),by simp,by simp,fun z hm=>?_⟩
 obtain ⟨y,hy,rfl⟩:=Array.mem_map.1 hm
 exact hf _ _ (hz y hy)
theorem XR.self {S:α→α→Prop} (xs:Array α) (h: ∀x∈xs,S x x):XR S xs xs:=
 ⟨xs.map fun x=>(x,x),by simp [Function.comp_def],by simp [Function.comp_def],fun z hm=>by obtain ⟨y,hy,rfl⟩:=Array.mem_map.1 hm;exact h y hy⟩
theorem XR.list (h:XR R xs ys): ∃l:List (α×β),xs.toList=l.map (·.1)∧ys.toList=l.map (·.2)∧∀z∈l,R z.1 z.2:=by
 obtain ⟨zs,rfl,rfl,hz⟩:=h
 exact ⟨zs.toList,by simp,by simp,fun z hm=>hz z (by simpa using hm)⟩
theorem XR.getD {x:α} {y:β} (h:XR R xs ys) (hd:R x y) (i:Nat):R (xs.getD i x) (ys.getD i y):=by
 rw [Array.getD_eq_getD_getElem?,Array.getD_eq_getD_getElem?]
 rcases h.get? i with ⟨h1,h2⟩|⟨u,v,h1,h2,h3⟩
 ·simpa [h1,h2] using hd
 ·simpa [h1,h2] using h3
theorem XR.isEmpty (h:XR R xs ys):ys.isEmpty=xs.isEmpty:=by
 have:=h.size
 simp only [Array.isEmpty,this]
end rows
theorem VR.cells {v w:Value} (h:VR L π v w):XR (VR L π) v.cells w.cells:=by
 have h':=h
 cases h with
 |agg xs h=>exact ⟨xs,rfl,rfl,h⟩
 |junk s hn=>
  have e:(L.junk s).cells=#[L.junk s]:=by cases hj:L.junk s<;> first|rfl|exact absurd hj (hn _)
  rw [e]
  exact XR.push (xs:=#[]) (ys:=#[]) XR.nil h'
 |_=>exact XR.push (xs:=#[]) (ys:=#[]) XR.nil h'
end
end Go.Proofs.YtldmcdeibiclkaaGreatDoor.U
end
