/-
  Toward settled_holds: THE SAME TYPES, OTHER FUNCTIONS: what looks at types alone is the same.
-/
import GoSem.Step
import Derived.Conc.Events
set_option linter.unusedVariables false
set_option linter.unusedSimpArgs false
set_option maxRecDepth 100000
set_option maxHeartbeats 20000000
namespace Go.Proofs
abbrev iR:=@Nat.le_refl
abbrev AI:=@if_neg
abbrev AS:=@if_pos
abbrev IN:=@Bool.and_eq_true
abbrev IS:=@ByteArray.size_append
abbrev No:=@if_true
abbrev Xa:=@Option.some.injEq
abbrev Xb:=@Nat.le_trans
abbrev Xc:=@Nat.lt_of_lt_of_le
abbrev Xd:=@if_false
abbrev Xe:=@List.getElem_mem
abbrev Xf:=@Bool.false_eq_true
abbrev Xk:=@List.length_append
abbrev Xl:=@Ne.symm
abbrev Xn:=@List.length_map
abbrev Xo:=@Prod.mk.injEq
abbrev Xp:=@List.length_cons
abbrev Xq:=@List.take_succ_eq_append_getElem
abbrev Xs:=@decide_eq_true_eq
abbrev Xv:=@Array.ext
abbrev Xw:=@Bool.or_eq_true
abbrev Xx:=@List.take_length
abbrev Xy:=@Nat.lt_or_ge
abbrev XA:=@Option.some.inj
abbrev XB:=@Array.size_setIfInBounds
abbrev XC:=@Array.length_toList
abbrev XD:=@Classical.byContradiction
abbrev XE:=@List.map_cons
abbrev XG:=@Array.append_empty
abbrev XH:=@Nat.pow_succ
abbrev XI:=@List.map_congr_left
abbrev XL:=@Option.map_some
abbrev XM:=@List.flatMap_cons
abbrev XN:=@Nat.zero_le
abbrev XO:=@Array.mem_of_getElem
abbrev XP:=@List.mem_map
abbrev XQ:=@Bool.not_eq_true
abbrev XS:=@List.cons_append
abbrev XT:=@and_true
abbrev XU:=@List.flatMap_append
abbrev XV:=@List.range_succ
abbrev XW:=@List.length_nil
abbrev XX:=@List.length_singleton
abbrev XY:=@Function.comp_def
abbrev X0:=@Nat.not_lt_zero
abbrev X4:=@List.append_assoc
abbrev X9:=@List.length_replicate
abbrev Ya:=@List.append_nil
abbrev Yc:=@Array.empty_append
abbrev Yd:=@List.map_map
abbrev Ye:=@List.cons.injEq
abbrev Yf:=@Option.map_eq_some_iff
abbrev Yh:=@Array.size_push
abbrev Yi:=@List.map_append
abbrev Yj:=@Option.getD_some
abbrev Yk:=@Nat.add_comm
abbrev Yl:=@List.foldl_cons
abbrev Ym:=@Option.pure_def
abbrev Yp:=@ByteArray.ext
abbrev Yr:=@List.append_cancel_right
abbrev Ys:=@List.mem_map_of_mem
abbrev Yt:=@Option.bind_eq_bind
abbrev Yu:=@Option.bind_eq_some_iff
abbrev Yw:=@Nat.eq_zero_or_pos
abbrev Yy:=@List.map_id
abbrev Yz:=@decide_eq_false_iff_not
abbrev YA:=@List.take_of_length_le
abbrev YB:=@Int.emod_eq_of_lt
abbrev YC:=@List.mem_toArray
abbrev YD:=@decide_eq_true
abbrev YF:=@List.mem_of_getElem
abbrev YG:=@Option.bind_some
abbrev YH:=@List.nil_append
abbrev YI:=@List.getElem_of_mem
abbrev YJ:=@List.getElem_map
abbrev YK:=@List.filter_congr
abbrev YL:=@Int.emod_nonneg
abbrev YM:=@List.mem_flatMap
abbrev YN:=@decide_eq_false
abbrev YO:=@List.ext_getElem
abbrev YQ:=@List.mem_cons
abbrev YR:=@Array.toArray_toList
abbrev YS:=@Array.foldl_toList
end Go.Proofs
namespace Go.Proofs.YtldmcdeibiclkaaGreatDoor.U
variable {w v w1 w2 v1:World}{a b:Addr}{r s t:Nat}{x y:Value}{o q:Obj}{ρ:Nat->Nat->Prop}{es fs:Array Event}{g:Obj->Obj}{h:Halt}{γ δ:Type}{e:TypeId}{f:Nat×Nat}
section
def gp(P:Program)(G:Array Func):Program:={P with funcs:=G}
section
variable (P:Program) (G:Array Func)
theorem Dh(t:TypeId):(gp P G).info? t=P.info? t:=rfl
theorem As(t:TypeId):(gp P G).underlying t=P.underlying t:=rfl
theorem Bl(t:TypeId):(gp P G).cellsOf t=P.cellsOf t:=rfl
theorem JY(t:TypeId):(gp P G).bytesOf t=P.bytesOf t:=rfl
theorem Af:(gp P G).depth=P.depth:=rfl
theorem Hi:(gp P G).globals=P.globals:=rfl
theorem Hy:(gp P G).funcs=G:=rfl
theorem xF:∀(d:Nat) (t:TypeId) (off:Nat),byteOfCell (gp P G) d t off=byteOfCell P d t off
 |0,_,_=>rfl
 |d+1,t,off=>by
  unfold byteOfCell;simp only[xF d];rfl
theorem GZ:∀(d:Nat) (t:TypeId) (off:Nat),cellOfByte (gp P G) d t off=cellOfByte P d t off
 |0,_,_=>rfl
 |d+1,t,off=>by
  unfold cellOfByte;simp only[GZ d];rfl
theorem Jp(d:Nat)(e:TypeId)(c o:Nat)(b:Int):cellAtBytes (gp P G) d e c o b=cellAtBytes P d e c o b:=by
 unfold cellAtBytes;simp only[xF,GZ];rfl
theorem CI:∀(n:Nat) (t u:TypeId),(gp P G).alikeButTags n t u=P.alikeButTags n t u
 |0,_,_=>rfl
 |n+1,t,u=>by
  unfold Program.alikeButTags;simp only[CI n];rfl
theorem L9(t:TypeId):(gp P G).stoodInAs t=P.stoodInAs t:=by
 unfold Program.stoodInAs;simp only[CI];rfl
theorem wZ(t:TypeId):(gp P G).stoodInHeld t=P.stoodInHeld t:=by
 unfold Program.stoodInHeld;simp only[L9];rfl
theorem Fv:∀(d:Nat) (t u:TypeId),sameLayout (gp P G) d t u=sameLayout P d t u
 |0,_,_=>rfl
 |d+1,t,u=>by
  unfold sameLayout;simp only[Fv d,wZ];rfl
theorem Ge(fits:TypeId->Bool):∀(d:Nat) (e:TypeId) (c o n:Nat),rowAt (gp P G) fits d e c o n=rowAt P fits d e c o n
 |0,_,_,_,_=>rfl
 |d+1,e,c,o,n=>by
  unfold rowAt;simp only[Ge fits d,wZ];rfl
theorem BJ:∀(d:Nat) (e:TypeId) (c o:Nat) (u:TypeId) (n:Nat),liesAt (gp P G) d e c o u n=liesAt P d e c o u n
 |0,_,_,_,_,_=>rfl
 |d+1,e,c,o,u,n=>by
  unfold liesAt;have hs:(λx=>sameLayout (gp P G) (gp P G).depth x u)=λx=>sameLayout P P.depth x u:=funext λx=>Fv P G _ x u;simp only[BJ d,Ge,hs];rfl
theorem tY:∀(d:Nat) (t:TypeId),(gp P G).eqGuardType d t=P.eqGuardType d t
 |0,_=>rfl
 |d+1,t=>by
  unfold Program.eqGuardType;simp only[tY d];rfl
end
end
section
def AR(π:Nat->Nat->Prop)(a b:Addr):Prop:=π a.block b.block/\b.off=a.off/\b.spot=a.spot
inductive bO where
 |any|own|box
 |jo|dV
 |loc
 deriving DecidableEq
inductive Kd where
 |own|box|lp
 deriving DecidableEq
structure aA where
 fn:FuncId->Prop
 fG:FuncId->Prop
 dV:FuncId->Prop
 loc:FuncId->Prop
 bl:String->Value
 cY:FuncId->Nat->bO
 res:FuncId->bO
 ar:FuncId->Option Nat
structure ai where
 all:Nat->Nat->Prop
 own:Nat->Nat->Prop
 box:Nat->Nat->Prop
 lp:Nat->Nat->Prop
def ai.un(τ:ai)(r s:Nat):Prop:=τ.all r s\/τ.box r s\/τ.lp r s
def ai.kd(τ:ai):Kd->Nat->Nat->Prop
 |.own=>τ.own
 |.box=>τ.box
 |.lp=>τ.lp
structure fC(τ:ai):Prop where
 own:∀r s,τ.own r s->τ.all r s
 two:∀r s t,τ.all r s->τ.box r t->False
 nj:∀r s t,τ.all r s->τ.lp r t->False
 mQ:∀r s t,τ.box r s->τ.lp r t->False
def jG(s:String):Value:=.func (.method s) #[.nilIface] #[]
inductive VR (L:aA) (π:Nat->Nat->Prop):Value->Value->Prop
 |bl (s:String):(∀c,L.bl s≠.agg c)->(∀c,L.bl s≠.tuple c)->(∀b,L.bl s≠.bool b)->VR L π (.func (.method s) #[.nilIface] #[]) (L.bl s)
 |bool (b:Bool):VR L π (.bool b) (.bool b)
 |int (k:IntKind) (n:Int):VR L π (.int k n) (.int k n)
 |string (s:ByteArray):VR L π (.string s) (.string s)
 |bG:VR L π (.pointer none) (.pointer none)
 |ptr {a b:Addr}:AR π a b->VR L π (.pointer (some a)) (.pointer (some b))
 |iE (n c:Nat):VR L π (.slice none n c) (.slice none n c)
 |slice {a b:Addr} (n c:Nat):AR π a b->VR L π (.slice (some a) n c) (.slice (some b) n c)
 |kQ:VR L π (.map none) (.map none)
 |pG:VR L π (.chan none) (.chan none)
 |map {r s:Nat}:π r s->VR L π (.map (some r)) (.map (some s))
 |func {f:FuncId} (xs ys:Array (Value×Value)):L.fG f->(∀z∈xs,VR L π z.1 z.2)->(∀z∈ys,VR L π z.1 z.2)->
   VR L π (.func (.func f) (xs.map (·.1)) (ys.map (·.1))) (.func (.func f) (xs.map (·.2)) (ys.map (·.2)))
 |nilFunc:VR L π .nilFunc .nilFunc
 |iface (t:TypeId) {v w:Value}:VR L π v w->VR L π (.iface t v) (.iface t w)
 |nilIface:VR L π .nilIface .nilIface
 |agg (xs:Array (Value×Value)):(∀z∈xs,VR L π z.1 z.2)->VR L π (.agg (xs.map (·.1))) (.agg (xs.map (·.2)))
 |tuple (xs:Array (Value×Value)):(∀z∈xs,VR L π z.1 z.2)->VR L π (.tuple (xs.map (·.1))) (.tuple (xs.map (·.2)))
def XR{α β:Type}(R:α->β->Prop)(xs:Array α)(ys:Array β):Prop:=∃zs:Array (α×β),xs=zs.map (·.1)/\ys=zs.map (·.2)/\∀z∈zs,R z.1 z.2
def ER(L:aA)(π:Nat->Nat->Prop)(e f:MapEntry):Prop:=VR L π e.key f.key/\VR L π e.val f.val/\f.born=e.born
def NR(π:Nat->Nat->Prop):Option Nat->Option Nat->Prop
 |none,none=>True
 |some r,some s=>π r s
 |_,_=>False
def oX(L:aA)(p:FuncId->Prop)(n:Nat)(τ:ai)(v w:Value):Prop:=
 (v=.tuple #[]/\w=.tuple #[])\/(v=.nilFunc/\w=.nilFunc)\/∃f xs ys,v=.func (.func f) #[] xs/\w=.func (.func f) #[] ys/\p f/\XR (VR L τ.all) xs ys/\xs.size<=n
def CR(L:aA)(τ:ai):bO->Value->Value->Prop
 |.any,v,w=>VR L τ.all v w
 |.own,v,w=>VR L τ.own v w
 |.box,v,w=>VR L τ.box v w
 |.jo,v,w=>(v=.tuple #[]/\w=.tuple #[])\/∃l m,v=.func (.yield l) #[] #[]/\w=.func (.yield m) #[] #[]/\τ.lp l m
 |.dV,v,w=>oX L L.dV 1 τ v w
 |.loc,v,w=>oX L L.loc 2 τ v w
def TR(L:aA)(τ:ai)(f:FuncId)(xs ys:Array Value):Prop:=ys.size=xs.size/\∀(i:Nat) x y,xs[i]?=some x->ys[i]?=some y->CR L τ (L.cY f i) x y
inductive OR (L:aA) (τ:ai):Obj->Obj->Prop
 |cells {xs ys:Array Value} (e:TypeId) (f:Nat×Nat):XR (VR L τ.all) xs ys->OR L τ (.cells xs e f) (.cells ys e f)
 |map {xs ys:Array MapEntry} (c:Nat):XR (ER L τ.all) xs ys->OR L τ (.map xs c) (.map ys c)
 |stringIter (s:ByteArray) (p:Nat):OR L τ (.stringIter s p) (.stringIter s p)
 |mapIter {r s:Option Nat} (since:Nat) (seen:Array Nat) (st:Nat):NR τ.all r s->OR L τ (.mapIter r since seen st) (.mapIter s since seen st)
 |number {a b:Addr} (lost:Bool):AR τ.all a b->OR L τ (.number a lost) (.number b lost)
def Jump(c:Code):Prop:=c=.ret\/∃id,c=.exit id
inductive fD (L:aA) (C:FuncId->Code->Prop) (τ:ai):Obj->Obj->Prop
 |loop {k l:Loop}:l.state=k.state->l.pending=k.pending->l.fn=k.fn->TR L τ k.fn k.tmps l.tmps->l.params=k.params->l.assign=k.assign->l.body=k.body->τ.lp k.defers l.defers->
   C k.fn k.assign->C k.fn k.body->(∀c,k.pending=some c->Jump c)->L.fn k.fn->(∀p∈k.params,L.cY k.fn p=.any)->fD L C τ (.loop k) (.loop l)
 |deferred {d:Option (List Deferred)}:(d=none\/d=some [])->fD L C τ (.deferred d) (.deferred d)
def Es(o:Obj):Prop:=∀c e f,o≠.cells c e f
def lY:Halt->Prop
 |.panic _|.stuck _|.unsupported _=>True
 |_=>False
def lP(w w1:World):Prop:=∀(r:Nat) d,w1.heap[r]?=some (.deferred d)->w.heap[r]?=some (.deferred d)
theorem lP.refl(w:World):lP w w:=λ_ _ h=>h
theorem lP.trans(h:lP w w1)(k:lP w1 w2):lP w w2:=λr d e=>h r d (k r d e)
def ak(P:Program){α:Type}(p:Sem α):Prop:=∀w es,∃h w1 es1,p.runT P w es=(.halt h w1,es1)/\lY h/\lP w w1
def aT(P:Program){α:Type}(p:Sem α):Prop:=∀w es,(∃a w1 es1,p.runT P w es=(.ok a w1,es1)/\lP w w1)\/(∃h w1 es1,p.runT P w es=(.halt h w1,es1)/\lY h/\lP w w1)
section
variable {P:Program}{α β:Type}
theorem ak.ln{p:Sem α}(h:ak P p):aT P p:=λw es=>.inr (h w es)
theorem aT.pure(a:α):aT P (Pure.pure a:Sem α):=λw es=>.inl ⟨a,w,es,rfl,.refl w⟩
theorem aT.bind{p:Sem α}{f:α->Sem β}(h:aT P p)(k:∀a,aT P (f a)):aT P (p >>=f):=λw es=>by
 rcases h w es with⟨a,w1,es1,e,hk⟩|⟨hh,w1,es1,e,ht,hk⟩
 ·rcases k a w1 es1 with⟨b,w2,es2,e2,hk2⟩|⟨hh,w2,es2,e2,ht,hk2⟩
  ·refine .inl ⟨b,w2,es2,?_,hk.trans hk2⟩;show (p.bind f).runT P w es=_;rw[Sem.runT_bind',e];exact e2
  ·refine .inr ⟨hh,w2,es2,?_,ht,hk.trans hk2⟩;show (p.bind f).runT P w es=_;rw[Sem.runT_bind',e];exact e2
 ·refine .inr ⟨hh,w1,es1,?_,ht,hk⟩;show (p.bind f).runT P w es=_;rw[Sem.runT_bind',e]
theorem aT.ite{c:Prop}[Decidable c]{p q:Sem α}(h:aT P p)(k:aT P q):aT P (if c then p else q):=by split<;>assumption
theorem aT.choose(q:Question):aT P (Go.choose q):=λw es=>by
 refine .inl ?_;unfold Go.choose;by_cases hf:q.forced=true
 ·exact⟨0,w,es,by simp only[Sem.runT,hf,No],.refl w⟩
 ·exact⟨q.cut (w.tape w.drawn q),{w with drawn:=w.drawn+1},es,by simp only[Sem.runT,hf,Xf,Xd],λ_ _ h=>h⟩
theorem aT.program:aT P Go.program:=λw es=>.inl ⟨P,w,es,rfl,.refl w⟩
theorem aT.shape(r:Nat):aT P (Go.shape r):=λw es=>.inl ⟨_,w,es,rfl,.refl w⟩
theorem aT.frozen(a:Addr):aT P (Go.frozen a):=λw es=>.inl ⟨_,w,es,rfl,.refl w⟩
theorem aT.mark(m:Mark):aT P (Go.mark m):=λw _=>.inl ⟨(),w,_,rfl,.refl w⟩
theorem aT.Vo(c:Array Value)(e:TypeId):aT P (newObj (.cells c e)):=λw es=>.inl ⟨_,{w with heap:=w.heap.push (.cells c e)},es,rfl,λr d h=>by
 simp only[Array.getElem?_push]at h;split at h
 ·cases h
 ·exact h⟩
theorem ak.bind{p:Sem α}{f:α->Sem β}(h:ak P p):ak P (p.bind f):=λw es=>by
 obtain⟨hh,w1,es1,e,ht,hk⟩:=h w es;exact⟨hh,w1,es1,by rw[Sem.runT_bind',e],ht,hk⟩
theorem ak.bind'{p:Sem α}{f:α->Sem β}(h:ak P p):ak P (p >>=f):=h.bind
theorem ak.then{p:Sem α}{f:α->Sem β}(hp:aT P p)(h:∀a,ak P (f a)):ak P (p >>=f):=λw es=>by
 rcases hp w es with⟨a,w1,es1,e,hk⟩|⟨hh,w1,es1,e,ht,hk⟩
 ·obtain⟨hh,w2,es2,e2,ht,hk2⟩:=h a w1 es1;refine⟨hh,w2,es2,?_,ht,hk.trans hk2⟩;show (p.bind f).runT P w es=_;rw[Sem.runT_bind',e];exact e2
 ·refine⟨hh,w1,es1,?_,ht,hk⟩;show (p.bind f).runT P w es=_;rw[Sem.runT_bind',e]
theorem ak.halt(ht:lY h):ak P (.halt h:Sem α):=λw es=>⟨h,w,es,rfl,ht,.refl w⟩
theorem ak.stuck(s:String):ak P (Go.stuck s:Sem α):=ak.halt trivial
theorem ak.unsupported(u:Unsupported):ak P (Go.unsupported u:Sem α):=ak.halt trivial
theorem ak.goPanic(v:Value):ak P (Go.goPanic v:Sem α):=ak.halt trivial
theorem aT.typeInfo(t:TypeId):aT P (Go.typeInfo t):=by
 unfold Go.typeInfo;refine aT.bind .program λp=>?_;split
 ·exact .pure _
 ·exact (ak.stuck _).ln
theorem aT.underlying(t:TypeId):aT P (Go.underlying t):=by
 unfold Go.underlying;refine aT.bind .program λp=>?_;split
 ·exact .pure _
 ·exact (ak.stuck _).ln
theorem aT.elemOf(t:TypeId):aT P (Go.elemOf t):=by
 unfold Go.elemOf;refine aT.bind (.underlying t) λd=>?_;split
 ·exact .pure _
 ·exact (ak.stuck _).ln
theorem aT.typeStr(t:TypeId):aT P (Go.typeStr t):=by
 unfold Go.typeStr;refine aT.bind (.typeInfo t) λd=>?_;dsimp only;split
 ·exact (ak.unsupported _).ln
 ·exact .pure _
theorem aT.newVar(t:TypeId)(v:Value):aT P (Go.newVar t v):=aT.bind (.Vo _ _) λ_=>.pure _
theorem aT.asIntOf(v:Value):aT P (Go.asIntOf v):=by
 cases v with
 |int=>exact .pure _
 |pointer p=>cases p<;>first|exact (ak.stuck _).ln|exact (ak.unsupported _).ln
 |_=>exact (ak.stuck _).ln
theorem aT.asInt(v:Value):aT P (Go.asInt v):=aT.bind (.asIntOf v) λ_=>.pure _
theorem ak.runtimePanic(e:RuntimeError):ak P (Go.runtimePanic e:Sem α):=by
 unfold Go.runtimePanic;refine ak.then .program λp=>?_;cases e with
 |typeAssertion i c a m=>exact ak.then (.elemOf _) λ_=>ak.then (.newVar _ _) λ_=>ak.goPanic _
 |panicNil=>exact ak.then (.elemOf _) λ_=>ak.then (.newVar _ _) λ_=>ak.goPanic _
 |_=>exact ak.goPanic _
theorem ak.boundsPanic(k:IntKind)(x y:Int)(c:BoundsCode):ak P (Go.boundsPanic k x y c:Sem α):=by
 unfold Go.boundsPanic;dsimp only;split
 ·exact ak.then (aT.bind (.choose _) λ_=>.pure _) λ_=>ak.runtimePanic _
 ·exact ak.then (.pure _) λ_=>ak.runtimePanic _
theorem aT.sliceBound(v:Value)(y:Nat)(c:BoundsCode):aT P (Instr.sliceBound v y c):=by
 unfold Instr.sliceBound;refine aT.bind (.asIntOf v) λx=>?_;obtain⟨k,i⟩:=x;dsimp only;exact aT.ite (.pure _) (ak.boundsPanic _ _ _ _).ln
end
inductive ae (P:Program) (G:Array Func) (L:aA) (C:FuncId->Code->Prop) (τ:ai) (k₀:Kd) {α β:Type} (R:α->β->Prop):Sem α->Sem β->Prop
 |pure {a:α} {b:β}:R a b->ae P G L C τ k₀ R (.pure a) (.pure b)
 |load {a b:Addr} {k:Value->Sem α} {l:Value->Sem β}:AR τ.all a b->(∀v w,VR L τ.all v w->ae P G L C τ k₀ R (k v) (l w))->ae P G L C τ k₀ R (.load .plain a k) (.load .plain b l)
 |oE {a b:Addr} {k:Value->Sem α} {l:Value->Sem β}:AR τ.box a b->(∀v w,VR L τ.own v w->ae P G L C τ k₀ R (k v) (l w))->ae P G L C τ k₀ R (.load .plain a k) (.load .plain b l)
 |store {a b:Addr} {v w:Value} {k:Sem α} {l:Sem β}:AR τ.own a b->VR L τ.all v w->ae P G L C τ k₀ R k l->ae P G L C τ k₀ R (.store .plain a v k) (.store .plain b w l)
 |oG {a b:Addr} {v w:Value} {k:Sem α} {l:Sem β}:AR τ.box a b->VR L τ.own v w->ae P G L C τ k₀ R k l->ae P G L C τ k₀ R (.store .plain a v k) (.store .plain b w l)
 |new {o q:Obj} {k:Nat->Sem α} {l:Nat->Sem β}:k₀=.own->OR L τ o q->(∀r s,τ.own r s->ae P G L C τ k₀ R (k r) (l s))->ae P G L C τ k₀ R (.new o k) (.new q l)
 |oV {xs ys:Array Value} (e:TypeId) (f:Nat×Nat) {k:Nat->Sem α} {l:Nat->Sem β}:k₀=.box->XR (VR L τ.own) xs ys->(∀r s,τ.box r s->ae P G L C τ k₀ R (k r) (l s))->ae P G L C τ k₀ R (.new (.cells xs e f) k) (.new (.cells ys e f) l)
 |ou {o q:Obj} {k:Nat->Sem α} {l:Nat->Sem β}:k₀=.lp->fD L C τ o q->(∀r s,τ.lp r s->ae P G L C τ k₀ R (k r) (l s))->ae P G L C τ k₀ R (.new o k) (.new q l)
 |oN {r s:Nat} {k:Obj->Sem α} {l:Obj->Sem β}:τ.lp r s->(∀o q,fD L C τ o q->ae P G L C τ k₀ R (k o) (l q))->ae P G L C τ k₀ R (.getObj r k) (.getObj s l)
 |og {r s:Nat} {o q:Obj} {k:Sem α} {l:Sem β}:τ.lp r s->fD L C τ o q->ae P G L C τ k₀ R k l->ae P G L C τ k₀ R (.setObj r o k) (.setObj s q l)
 |shape {r s:Nat} {k:Option (TypeId×Nat)->Sem α} {l:Option (TypeId×Nat)->Sem β}:τ.all r s->(∀x,ae P G L C τ k₀ R (k x) (l x))->ae P G L C τ k₀ R (.shape r k) (.shape s l)
 |freeze {a b:Addr} (n:Nat) {k:Sem α} {l:Sem β}:AR τ.own a b->ae P G L C τ k₀ R k l->ae P G L C τ k₀ R (.freeze a n k) (.freeze b n l)
 |frozen {a b:Addr} {k:Bool->Sem α} {l:Bool->Sem β}:AR τ.all a b->(∀x,ae P G L C τ k₀ R (k x) (l x))->ae P G L C τ k₀ R (.frozen a k) (.frozen b l)
 |getObj {r s:Nat} {k:Obj->Sem α} {l:Obj->Sem β}:τ.all r s->(∀o q,OR L τ o q->ae P G L C τ k₀ R (k o) (l q))->ae P G L C τ k₀ R (.getObj r k) (.getObj s l)
 |setObj {r s:Nat} {o q:Obj} {k:Sem α} {l:Sem β}:τ.own r s->OR L τ o q->Es o->ae P G L C τ k₀ R k l->ae P G L C τ k₀ R (.setObj r o k) (.setObj s q l)
 |choose (q:Question) {k:Nat->Sem α} {l:Nat->Sem β}:(∀n,ae P G L C τ k₀ R (k n) (l n))->ae P G L C τ k₀ R (.choose q k) (.choose q l)
 |program {k:Program->Sem α} {l:Program->Sem β}:ae P G L C τ k₀ R (k (gp P G)) (l P)->ae P G L C τ k₀ R (.program k) (.program l)
 |oH {k:Program->Sem α} {q:Sem β}:ae P G L C τ k₀ R (k (gp P G)) q->ae P G L C τ k₀ R (.program k) q
 |noRoom {k:Sem α} {l:Sem β}:ae P G L C τ k₀ R k l->ae P G L C τ k₀ R (.mark .noRoom k) (.mark .noRoom l)
 |af {p:Sem α} (q:Sem β):ak (gp P G) p->ae P G L C τ k₀ R p q
theorem ae.am{P:Program}{G:Array Func}{L:aA}{C:FuncId->Code->Prop}{τ:ai}{k₀:Kd}{α β:Type}{R:α->β->Prop}{q:Sem β}(ht:lY h:=by trivial):ae P G L C τ k₀ R (.halt h) q:=.af _ (ak.halt ht)
section
variable {P:Program}{G:Array Func}{L:aA}{C:FuncId->Code->Prop}{π:Nat->Nat->Prop}{τ υ:ai}{k₀:Kd}
theorem ae.bind{α β:Type}{R:α->β->Prop}{S:γ->δ->Prop}{p:Sem α}{q:Sem β}{f:α->Sem γ}{g:β->Sem δ}(h:ae P G L C τ k₀ R p q)(hf:∀a b,R a b->ae P G L C τ k₀ S (f a) (g b)):ae P G L C τ k₀ S (p.bind f) (q.bind g):=by
 induction h with
 |pure h=>exact hf _ _ h
 |load h _ ih=>exact .load h λv w hv=>ih v w hv
 |oE h _ ih=>exact .oE h λv w hv=>ih v w hv
 |store h hv _ ih=>exact .store h hv ih
 |oG h hv _ ih=>exact .oG h hv ih
 |new hk h _ ih=>exact .new hk h λr s hr=>ih r s hr
 |oV e f hk h _ ih=>exact .oV e f hk h λr s hr=>ih r s hr
 |ou hk h _ ih=>exact .ou hk h λr s hr=>ih r s hr
 |oN h _ ih=>exact .oN h λo q ho=>ih o q ho
 |og h ho _ ih=>exact .og h ho ih
 |shape h _ ih=>exact .shape h λx=>ih x
 |freeze n h _ ih=>exact .freeze n h ih
 |frozen h _ ih=>exact .frozen h λx=>ih x
 |getObj h _ ih=>exact .getObj h λo q ho=>ih o q ho
 |setObj h ho hn _ ih=>exact .setObj h ho hn ih
 |choose q _ ih=>exact .choose q λn=>ih n
 |program _ ih=>exact .program ih
 |oH _ ih=>exact .oH ih
 |noRoom _ ih=>exact .noRoom ih
 |af q h=>exact .af _ h.bind
theorem ae.bind'{α β:Type}{R:α->β->Prop}{S:γ->δ->Prop}{p:Sem α}{q:Sem β}{f:α->Sem γ}{g:β->Sem δ}(h:ae P G L C τ k₀ R p q)(hf:∀a b,R a b->ae P G L C τ k₀ S (f a) (g b)):ae P G L C τ k₀ S (p >>=f) (q >>=g):=ae.bind h hf
theorem ae.mono{α β:Type}{R S:α->β->Prop}{p:Sem α}{q:Sem β}(h:ae P G L C τ k₀ R p q)(hf:∀a b,R a b->S a b):ae P G L C τ k₀ S p q:=by
 induction h with
 |pure h=>exact .pure (hf _ _ h)
 |load h _ ih=>exact .load h λv w hv=>ih v w hv
 |oE h _ ih=>exact .oE h λv w hv=>ih v w hv
 |store h hv _ ih=>exact .store h hv ih
 |oG h hv _ ih=>exact .oG h hv ih
 |new hk h _ ih=>exact .new hk h λr s hr=>ih r s hr
 |oV e f hk h _ ih=>exact .oV e f hk h λr s hr=>ih r s hr
 |ou hk h _ ih=>exact .ou hk h λr s hr=>ih r s hr
 |oN h _ ih=>exact .oN h λo q ho=>ih o q ho
 |og h ho _ ih=>exact .og h ho ih
 |shape h _ ih=>exact .shape h λx=>ih x
 |freeze n h _ ih=>exact .freeze n h ih
 |frozen h _ ih=>exact .frozen h λx=>ih x
 |getObj h _ ih=>exact .getObj h λo q ho=>ih o q ho
 |setObj h ho hn _ ih=>exact .setObj h ho hn ih
 |choose q _ ih=>exact .choose q λn=>ih n
 |program _ ih=>exact .program ih
 |oH _ ih=>exact .oH ih
 |noRoom _ ih=>exact .noRoom ih
 |af q h=>exact .af _ h
theorem VR.mono(hm:∀r s,π r s->ρ r s){v w:Value}(h:VR L π v w):VR L ρ v w:=by
 induction h with
 |bl s a b c=>exact .bl s a b c
 |bool b=>exact .bool b
 |int k n=>exact .int k n
 |string s=>exact .string s
 |bG=>exact .bG
 |ptr h=>exact .ptr ⟨hm _ _ h.1,h.2⟩
 |iE n c=>exact .iE n c
 |slice n c h=>exact .slice n c ⟨hm _ _ h.1,h.2⟩
 |kQ=>exact .kQ
 |pG=>exact .pG
 |map h=>exact .map (hm _ _ h)
 |func xs ys hf _ _ ihx ihy=>exact .func xs ys hf ihx ihy
 |nilFunc=>exact .nilFunc
 |iface t _ ih=>exact .iface t ih
 |nilIface=>exact .nilIface
 |agg xs _ ih=>exact .agg xs ih
 |tuple xs _ ih=>exact .tuple xs ih
theorem XR.imp{α β:Type}{R S:α->β->Prop}(hm:∀a b,R a b->S a b){xs:Array α}{ys:Array β}(h:XR R xs ys):XR S xs ys:=
 let ⟨zs,h1,h2,h3⟩:=h;⟨zs,h1,h2,λz hz=>hm _ _ (h3 z hz)⟩
theorem AR.mono(hm:∀r s,π r s->ρ r s)(h:AR π a b):AR ρ a b:=⟨hm _ _ h.1,h.2⟩
theorem ER.mono(hm:∀r s,π r s->ρ r s){a b:MapEntry}(h:ER L π a b):ER L ρ a b:=⟨h.1.mono hm,h.2.1.mono hm,h.2.2⟩
theorem NR.mono(hm:∀r s,π r s->ρ r s):∀{a b:Option Nat},NR π a b->NR ρ a b
 |none,none,_=>trivial
 |some _,some _,h=>hm _ _ h
structure fR(τ υ:ai):Prop where
 all:∀r s,τ.all r s->υ.all r s
 own:∀r s,τ.own r s->υ.own r s
 box:∀r s,τ.box r s->υ.box r s
 lp:∀r s,τ.lp r s->υ.lp r s
theorem CR.mono(hm:fR τ υ){c:bO}{v w:Value}(h:CR L τ c v w):CR L υ c v w:=by
 cases c with
 |any=>exact VR.mono hm.all h
 |own=>exact VR.mono hm.own h
 |box=>exact VR.mono hm.box h
 |jo=>exact h.imp id λ⟨l,m,h1,h2,h3⟩=>⟨l,m,h1,h2,hm.lp _ _ h3⟩
 |dV=>exact h.imp id (Or.imp id λ⟨f,xs,ys,h1,h2,h3,h4,h5⟩=>⟨f,xs,ys,h1,h2,h3,h4.imp λ_ _=>VR.mono hm.all,h5⟩)
 |loc=>exact h.imp id (Or.imp id λ⟨f,xs,ys,h1,h2,h3,h4,h5⟩=>⟨f,xs,ys,h1,h2,h3,h4.imp λ_ _=>VR.mono hm.all,h5⟩)
theorem TR.mono(hm:fR τ υ){f:FuncId}{xs ys:Array Value}(h:TR L τ f xs ys):TR L υ f xs ys:=⟨h.1,λi x y hx hy=>(h.2 i x y hx hy).mono hm⟩
theorem OR.mono(hm:fR τ υ)(h:OR L τ o q):OR L υ o q:=by
 cases h with
 |cells e f h=>exact .cells e f (h.imp λ_ _=>VR.mono hm.all)
 |map c h=>exact .map c (h.imp λ_ _=>ER.mono hm.all)
 |stringIter s p=>exact .stringIter s p
 |mapIter a b c h=>exact .mapIter a b c (h.mono hm.all)
 |number l h=>exact .number l (h.mono hm.all)
theorem fD.mono(hm:fR τ υ)(h:fD L C τ o q):fD L C υ o q:=by
 cases h with
 |loop h1 h2 h3 h4 h5 h6 h7 h8 h9 h10 h11 h12 h13=>exact .loop h1 h2 h3 (h4.mono hm) h5 h6 h7 (hm.lp _ _ h8) h9 h10 h11 h12 h13
 |deferred h=>exact .deferred h
theorem AR.add(h:AR π a b)(n:Nat):AR π (a.add n) (b.add n):=by
 unfold Addr.add;split
 ·exact h
 ·exact⟨h.1,by simp[h.2.1],rfl⟩
section rows
variable {α β:Type}{R:α->β->Prop}{xs:Array α}{ys:Array β}
theorem XR.size(h:XR R xs ys):ys.size=xs.size:=by obtain⟨zs,rfl,rfl,_⟩:=h;simp
theorem XR.get?(h:XR R xs ys)(i:Nat):(xs[i]?=none/\ys[i]?=none)\/∃x y,xs[i]?=some x/\ys[i]?=some y/\R x y:=by
 obtain⟨zs,rfl,rfl,hz⟩:=h;cases e:zs[i]? with
 |none=>exact .inl ⟨by simp[e],by simp[e]⟩
 |some z=>exact .inr ⟨z.1,z.2,by simp[e],by simp[e],hz z (Array.mem_of_getElem? e)⟩
theorem XR.wo(hs:ys.size=xs.size)(h:∀(i:Nat) (x:α) (y:β),xs[i]?=some x->ys[i]?=some y->R x y):XR R xs ys:=by
 refine⟨xs.zip ys,?_,?_,?_⟩
 ·apply Xv
  ·simp[hs]
  ·intro i h1 h2;simp
 ·apply Xv
  ·simp[hs]
  ·intro i h1 h2;simp
 ·intro z hz;obtain⟨i,hi,rfl⟩:=Array.mem_iff_getElem.1 hz;have hi1:i<xs.size:=by simp at hi;omega
  have hi2:i<ys.size:=by omega
  exact h i _ _ (by simp[hi1]) (by simp[hi2])
theorem XR.nil:XR R #[] #[]:=⟨#[],by simp,by simp,by simp⟩
theorem XR.push{x:α}{y:β}(h:XR R xs ys)(hx:R x y):XR R (xs.push x) (ys.push y):=by
 obtain⟨zs,rfl,rfl,hz⟩:=h;refine⟨zs.push (x,y),by simp,by simp,λz hm=>?_⟩;rcases Array.mem_push.1 hm with h|rfl
 ·exact hz z h
 ·exact hx
theorem XR.append{us:Array α}{vs:Array β}(h:XR R xs ys)(h':XR R us vs):XR R (xs++us) (ys++vs):=by
 obtain⟨zs,rfl,rfl,hz⟩:=h;obtain⟨zs',rfl,rfl,hz'⟩:=h';exact⟨zs++zs',by simp,by simp,λz hm=>(Array.mem_append.1 hm).elim (hz z) (hz' z)⟩
theorem XR.extract(h:XR R xs ys)(i j:Nat):XR R (xs.extract i j) (ys.extract i j):=by
 obtain⟨zs,rfl,rfl,hz⟩:=h;exact⟨zs.extract i j,by simp,by simp,λz hm=>by
  obtain⟨k,hk,rfl⟩:=Array.mem_iff_getElem.1 hm;rw[Array.getElem_extract];exact hz _ (Array.getElem_mem _)⟩
theorem XR.set{x:α}{y:β}(h:XR R xs ys)(hx:R x y)(i:Nat):XR R (xs.setIfInBounds i x) (ys.setIfInBounds i y):=by
 refine XR.wo (by simp[h.size]) λj a b ha hb=>?_;rw[Array.getElem?_setIfInBounds]at ha hb;by_cases e:i=j
 ·subst e;simp only[No]at ha hb;split at ha
  ·split at hb
   ·cases ha;cases hb;exact hx
   ·cases hb
  ·cases ha
 ·simp only[e,Xd]at ha hb;rcases h.get? j with⟨h1,_⟩|⟨u,v,h1,h2,h3⟩
  ·rw[h1]at ha;cases ha
  ·rw[h1]at ha;rw[h2]at hb;cases ha;cases hb;exact h3
theorem XR.modify{f:α->α}{g:β->β}(h:XR R xs ys)(hf:∀a b,R a b->R (f a) (g b))(i:Nat):XR R (xs.modify i f) (ys.modify i g):=by
 refine XR.wo (by simp[h.size]) λj a b ha hb=>?_;rw[Array.getElem?_modify]at ha hb;rcases h.get? j with⟨h1,_⟩|⟨u,v,h1,h2,h3⟩
 ·rw[h1]at ha;split at ha<;>cases ha
 ·rw[h1]at ha;rw[h2]at hb;by_cases e:i=j
  ·simp[e]at ha hb;subst ha;subst hb;exact hf _ _ h3
  ·simp[e]at ha hb;subst ha;subst hb;exact h3
theorem XR.map{γ δ:Type}{S:γ->δ->Prop}{f:α->γ}{g:β->δ}(h:XR R xs ys)(hf:∀a b,R a b->S (f a) (g b)):XR S (xs.map f) (ys.map g):=by
 obtain⟨zs,rfl,rfl,hz⟩:=h;refine⟨zs.map λz=>(f z.1,g z.2),by simp,by simp,λz hm=>?_⟩;obtain⟨y,hy,rfl⟩:=Array.mem_map.1 hm;exact hf _ _ (hz y hy)
theorem XR.self{S:α->α->Prop}(xs:Array α)(h:∀x∈xs,S x x):XR S xs xs:=
 ⟨xs.map λx=>(x,x),by simp[XY],by simp[XY],λz hm=>by obtain⟨y,hy,rfl⟩:=Array.mem_map.1 hm;exact h y hy⟩
theorem XR.list(h:XR R xs ys): ∃l:List (α×β),xs.toList=l.map (·.1)/\ys.toList=l.map (·.2)/\∀z∈l,R z.1 z.2:=by
 obtain⟨zs,rfl,rfl,hz⟩:=h;exact⟨zs.toList,by simp,by simp,λz hm=>hz z (by simpa using hm)⟩
theorem XR.isEmpty(h:XR R xs ys):ys.isEmpty=xs.isEmpty:=by
 have:=h.size;simp only[Array.isEmpty,this]
end rows
theorem VR.cells{v w:Value}(h:VR L π v w):XR (VR L π) v.cells w.cells:=by
 have h':=h;cases h with
 |agg xs h=>exact⟨xs,rfl,rfl,h⟩
 |bl s hn=>
  have e:(L.bl s).cells=#[L.bl s]:=by cases hj:L.bl s<;>first|rfl|exact absurd hj (hn _)
  rw[e];exact XR.push (xs:=#[]) (ys:=#[]) XR.nil h'
 |_=>exact XR.push (xs:=#[]) (ys:=#[]) XR.nil h'
end
end
section
def ai.mine(τ:ai)(r s:Nat):Prop:=τ.own r s\/τ.box r s\/τ.lp r s
inductive jO (τ:ai):Event->Event->Prop
 |cell {a b:Addr}:AR τ.un a b->jO τ ⟨.cell a,false,false⟩ ⟨.cell b,false,false⟩
 |write {a b:Addr}:AR τ.mine a b->jO τ ⟨.cell a,true,false⟩ ⟨.cell b,true,false⟩
 |obj {r s:Nat}:τ.un r s->jO τ ⟨.obj r,false,false⟩ ⟨.obj s,false,false⟩
 |set {r s:Nat}:τ.mine r s->jO τ ⟨.obj r,true,false⟩ ⟨.obj s,true,false⟩
 |noRoom:jO τ ⟨.mark .noRoom,false,true⟩ ⟨.mark .noRoom,false,true⟩
structure lJ(π:Nat->Nat->Prop):Prop where
 fn:∀r s t,π r s->π r t->s=t
 inj:∀r s t,π r t->π s t->r=s
structure Fit(τ:ai):Prop extends fC τ,lJ τ.un
structure KR(L:aA)(C:FuncId->Code->Prop)(τ:ai)(r s:Nat)(o q:Obj):Prop where
 all:τ.all r s->OR L τ o q
 box:τ.box r s->∃xs ys e f,o=.cells xs e f/\q=.cells ys e f/\XR (VR L τ.own) xs ys
 lp:τ.lp r s->fD L C τ o q
structure Sync(L:aA)(C:FuncId->Code->Prop)(τ:ai)(k₀:Kd)(N:Nat)(w v:World):Prop where
 held:∀r s,τ.un r s->r<w.heap.size->∃o q,w.heap[r]?=some o/\v.heap[s]?=some q/\KR L C τ r s o q
 mN:∀i,w.heap.size+i<N->τ.kd k₀ (w.heap.size+i) (v.heap.size+i)
structure cZ(L:aA)(C:FuncId->Code->Prop)(τ:ai)(k₀:Kd)(N:Nat)(w v w1 v1:World)(es fs es1 fs1:Array Event):Prop where
 sync:Sync L C τ k₀ N w1 v1
 size:v1.heap.size+w.heap.size=v.heap.size+w1.heap.size
 grow:w.heap.size<=w1.heap.size
 drawn:v1.drawn+w.drawn=v.drawn+w1.drawn
 draw:w.drawn<=w1.drawn
 tape:v1.tape=v.tape
 os:v1.os=v.os
 output:v1.output=v.output
 tB:w1.tape=w.tape
 xo:w1.os=w.os
 yr:w1.output=w.output
 gf:∀s,s<v.heap.size->(∀r,¬τ.mine r s)->v1.heap[s]?=v.heap[s]?
 nD:∀r,r<w.heap.size->(∀s,¬τ.mine r s)->w1.heap[r]?=w.heap[r]?
 events: ∃zs:Array (Event×Event),es1=es++zs.map (·.1)/\fs1=fs++zs.map (·.2)/\∀z∈zs,jO τ z.1 z.2
section
variable {P:Program}{G:Array Func}{L:aA}{C:FuncId->Code->Prop}{τ:ai}{k₀:Kd}{N:Nat}
theorem Fit.mine(hb:Fit τ)(h:τ.mine r s):τ.un r s:=h.imp (hb.own _ _) id
theorem ai.tU(h:τ.box r s):τ.un r s:=.inr (.inl h)
theorem ai.pR(h:τ.lp r s):τ.un r s:=.inr (.inr h)
theorem Fit.EZ(hb:Fit τ):lJ τ.all:=⟨λ_ _ _ h k=>hb.fn _ _ _ (.inl h) (.inl k),λ_ _ _ h k=>hb.inj _ _ _ (.inl h) (.inl k)⟩
theorem Fit.kd(hb:Fit τ)(h:τ.kd k₀ r s):τ.un r s:=by
 cases k₀ with
 |own=>exact .inl (hb.own _ _ h)
 |box=>exact ai.tU h
 |lp=>exact ai.pR h
theorem Sync.obj(h:Sync L C τ k₀ N w v):∀r s,τ.all r s->r<w.heap.size->∃o q,w.heap[r]?=some o/\v.heap[s]?=some q/\OR L τ o q:=λr s hr hl=>
 let ⟨o,q,h1,h2,h3⟩:=h.held r s (.inl hr) hl;⟨o,q,h1,h2,h3.all hr⟩
theorem Sync.boxes(h:Sync L C τ k₀ N w v):∀r s,τ.box r s->r<w.heap.size->∃xs ys e f,w.heap[r]?=some (.cells xs e f)/\v.heap[s]?=some (.cells ys e f)/\XR (VR L τ.own) xs ys:=λr s hr hl=>by
 obtain⟨o,q,h1,h2,h3⟩:=h.held r s (.inr (.inl hr)) hl;obtain⟨xs,ys,e,f,rfl,rfl,hx⟩:=h3.box hr;exact⟨xs,ys,e,f,h1,h2,hx⟩
theorem Sync.loops(h:Sync L C τ k₀ N w v):∀r s,τ.lp r s->r<w.heap.size->∃o q,w.heap[r]?=some o/\v.heap[s]?=some q/\fD L C τ o q:=λr s hr hl=>
 let ⟨o,q,h1,h2,h3⟩:=h.held r s (.inr (.inr hr)) hl;⟨o,q,h1,h2,h3.lp hr⟩
theorem KR.nH(hb:Fit τ)(hr:τ.all r s)(h:OR L τ o q):KR L C τ r s o q:=
 ⟨λ_=>h,λh2=>(hb.two _ _ _ hr h2).elim,λh2=>(hb.nj _ _ _ hr h2).elim⟩
theorem KR.tf(hb:Fit τ)(hr:τ.box r s){xs ys:Array Value}(h:XR (VR L τ.own) xs ys):KR L C τ r s (.cells xs e f) (.cells ys e f):=
 ⟨λh2=>(hb.two _ _ _ h2 hr).elim,λ_=>⟨xs,ys,e,f,rfl,rfl,h⟩,λh2=>(hb.mQ _ _ _ hr h2).elim⟩
theorem KR.se(hb:Fit τ)(hr:τ.lp r s)(h:fD L C τ o q):KR L C τ r s o q:=
 ⟨λh2=>(hb.nj _ _ _ h2 hr).elim,λh2=>(hb.mQ _ _ _ h2 hr).elim,λ_=>h⟩
theorem Sync.later(h:Sync L C τ k₀ N w v)(hb:Fit τ)(hr:τ.un r s)(hl: ¬r<w.heap.size)(hN:r<N):v.heap.size<=s:=by
 obtain⟨i,rfl⟩: ∃i,r=w.heap.size+i:=⟨r-w.heap.size,by omega⟩
 obtain rfl:=hb.fn _ _ _ (hb.kd (h.mN i hN)) hr;omega
theorem cZ.refl(h:Sync L C τ k₀ N w v):cZ L C τ k₀ N w v w v es fs es fs:=
 ⟨h,rfl,iR _,rfl,iR _,rfl,rfl,rfl,rfl,rfl,rfl,λ_ _ _=>rfl,λ_ _ _=>rfl,#[],by simp,by simp,by simp⟩
theorem cZ.ev{e f:Event}(h:Sync L C τ k₀ N w v)(he:jO τ e f):cZ L C τ k₀ N w v w v es fs (es.push e) (fs.push f):=
 ⟨h,rfl,iR _,rfl,iR _,rfl,rfl,rfl,rfl,rfl,rfl,λ_ _ _=>rfl,λ_ _ _=>rfl,#[(e,f)],by simp,by simp,by simpa using he⟩
theorem cZ.trans{v2:World}{es1 fs1 es2 fs2:Array Event}(h:cZ L C τ k₀ N w v w1 v1 es fs es1 fs1)(k:cZ L C τ k₀ N w1 v1 w2 v2 es1 fs1 es2 fs2):
  cZ L C τ k₀ N w v w2 v2 es fs es2 fs2:=by
 have h1:=h.size;have h2:=k.size;have h3:=h.drawn;have h4:=k.drawn;have h5:=h.grow;have h6:=h.draw;have h7:=k.grow;have h8:=k.draw;refine⟨k.sync,by omega,by omega,by omega,by omega,k.tape.trans h.tape,k.os.trans h.os,k.output.trans h.output,k.tB.trans h.tB,k.xo.trans h.xo,k.yr.trans h.yr,λs hl ha=>?_,λr hl ha=>?_,?_⟩
 ·rw[k.gf s (by omega) ha,h.gf s hl ha]
 ·rw[k.nD r (by omega) ha,h.nD r hl ha]
 ·obtain⟨zs,e1,e2,e3⟩:=h.events;obtain⟨ys,f1,f2,f3⟩:=k.events;exact⟨zs++ys,by rw[f1,e1];simp,by rw[f2,e2];simp,λz hz=>(Array.mem_append.1 hz).elim (e3 z) (f3 z)⟩
theorem cZ.front(h:cZ L C τ k₀ N w v w1 v1 #[] #[] es fs)(es0 fs0:Array Event):cZ L C τ k₀ N w v w1 v1 es0 fs0 (es0++es) (fs0++fs):=by
 obtain⟨a1,a2,a3,a4,a5,a6,a7,a8,a9,a10,a11,a12,a13,zs,z1,z2,z3⟩:=h;exact⟨a1,a2,a3,a4,a5,a6,a7,a8,a9,a10,a11,a12,a13,zs,by rw[z1];simp,by rw[z2];simp,z3⟩
theorem Fg{c:Array Value}(h:w.heap[a.block]?=some (.cells c e f)):w.cell? a=if a.spot.isSome then none else c[a.off]? :=by
 unfold World.cell?;rw[h]
theorem sH{v:Value}(h:w.cell? a=some v):a.spot=none/\∃c e f,w.heap[a.block]?=some (.cells c e f)/\c[a.off]?=some v:=by
 unfold World.cell? at h;split at h
 ·rename_i c e f he;split at h
  ·cases h
  ·rename_i hs;refine⟨by cases hsp:a.spot<;>simp_all,c,e,f,he,h⟩
 ·cases h
theorem Sync.cell(h:Sync L C τ k₀ N w v)(hab:AR τ.all a b)(hx:w.cell? a=some x): ∃y,v.cell? b=some y/\VR L τ.all x y:=by
 obtain⟨hs,c,e,f,he,hc⟩:=sH hx;obtain⟨o,q,h1,h2,h3⟩:=h.obj _ _ hab.1 (Array.getElem?_eq_some_iff.1 he).1;rw[he]at h1;cases h1;cases h3 with
 |cells e f hxr=>
  rcases hxr.get? a.off with⟨h4,_⟩|⟨x',y',h4,h5,h6⟩
  ·rw[h4]at hc;cases hc
  ·rw[h4]at hc;cases hc;refine⟨y',?_,h6⟩;rw[Fg h2,hab.2.2,hs,hab.2.1];simpa using h5
theorem Sync.y8(h:Sync L C τ k₀ N w v)(hab:AR τ.box a b)(hx:w.cell? a=some x): ∃y,v.cell? b=some y/\VR L τ.own x y:=by
 obtain⟨hs,c,e,f,he,hc⟩:=sH hx;obtain⟨xs,ys,e0,f0,h1,h2,h3⟩:=h.boxes _ _ hab.1 (Array.getElem?_eq_some_iff.1 he).1;rw[he]at h1;cases h1;rcases h3.get? a.off with⟨h4,_⟩|⟨x',y',h4,h5,h6⟩
 ·rw[h4]at hc;cases hc
 ·rw[h4]at hc;cases hc;refine⟨y',?_,h6⟩;rw[Fg h2,hab.2.2,hs,hab.2.1];simpa using h5
def cF(L:aA)(τ:ai)(o:Obj):Prop:=(∃q,OR L τ o q)\/∃xs e f,o=.cells xs e f
theorem Sync.known(h:Sync L C τ k₀ N w v)(hr:τ.all r s\/τ.box r s):∀o,w.heap[r]?=some o->cF L τ o:=λo ho=>by
 rcases hr with hr|hr
 ·obtain⟨o',q,h1,_,h3⟩:=h.obj r s hr (Array.getElem?_eq_some_iff.1 ho).1;rw[ho]at h1;cases h1;exact .inl ⟨q,h3⟩
 ·obtain⟨xs,ys,e,f,h1,_,_⟩:=h.boxes r s hr (Array.getElem?_eq_some_iff.1 ho).1;rw[ho]at h1;cases h1;exact .inr ⟨_,_,_,rfl⟩
theorem Fx(ho:∀o,w.heap[a.block]?=some o->cF L τ o)(b:Bool): ∃h,w.farLoad P a b=.error h:=by
 unfold World.farLoad;split
 ·rename_i he;rcases ho _ he with⟨q,hq⟩|⟨_,_,_,hq⟩<;>cases hq
 ·exact⟨_,rfl⟩
theorem Vp(ho:∀o,w.heap[a.block]?=some o->cF L τ o)(b:Bool): ∃h,w.farStore P a x b=.error h:=by
 unfold World.farStore;split
 ·rename_i he;rcases ho _ he with⟨q,hq⟩|⟨_,_,_,hq⟩<;>cases hq
 ·exact⟨_,rfl⟩
theorem Sync.shape{w v:World}(h:Sync L C τ k₀ N w v){r s:Nat}(hr:τ.all r s)(hl:r<w.heap.size):v.shape? s=w.shape? r:=by
 obtain⟨o,q,h1,h2,h3⟩:=h.obj r s hr hl;unfold World.shape?;rw[h1,h2];cases h3<;>simp;rename_i hx;exact hx.size
theorem Sync.frozen{w v:World}(h:Sync L C τ k₀ N w v){a b:Addr}(hab:AR τ.all a b\/AR τ.box a b)(hl:a.block<w.heap.size):v.frozen? b=w.frozen? a:=by
 rcases hab with hab|hab
 ·obtain⟨o,q,h1,h2,h3⟩:=h.obj _ _ hab.1 hl;unfold World.frozen?;rw[h1,h2];cases h3<;>simp[hab.2.1]
 ·obtain⟨xs,ys,e,f,h1,h2,h3⟩:=h.boxes _ _ hab.1 hl;unfold World.frozen?;rw[h1,h2];simp[hab.2.1]
theorem Sync.turn(h:Sync L C τ k₀ N w v)(hb:Fit τ)(hr:τ.un r s){f:Obj->Obj}(hfg:∀o q,KR L C τ r s o q->KR L C τ r s (f o) (g q)):
  Sync L C τ k₀ N {w with heap:=w.heap.modify r f} {v with heap:=v.heap.modify s g}:=by
 refine⟨λr' s' hr' hl=>?_,λi hi=>?_⟩
 ·simp only[Array.size_modify]at hl;obtain⟨o,q,h1,h2,h3⟩:=h.held r' s' hr' hl;by_cases e:r=r'
  ·subst e;obtain rfl:=hb.fn _ _ _ hr hr';exact⟨f o,g q,by simp[Array.getElem?_modify,h1],by simp[Array.getElem?_modify,h2],hfg _ _ h3⟩
  ·have e':s≠s':=λx=>e (hb.inj _ _ _ hr (x▸hr'));exact⟨o,q,by simp[Array.getElem?_modify,h1,e],by simp[Array.getElem?_modify,h2,e'],h3⟩
 ·simp only[Array.size_modify]at hi ⊢;exact h.mN i hi
theorem Sync.boxed(hb:Fit τ)(h:Sync L C τ k₀ N w v)(hab:AR τ.box a b)(hsp:a.spot=none)(hxy:VR L τ.own x y):Sync L C τ k₀ N (w.setCell a x) (v.setCell b y):=by
 have hbsp:b.spot=none:=hab.2.2.trans hsp;refine h.turn hb (ai.tU hab.1) λo q ho=>?_;obtain⟨xs,ys,e,f,rfl,rfl,hx⟩:=ho.box hab.1;simp only[hsp,hbsp,hab.2.1];exact KR.tf hb hab.1 (hx.set hxy _)
theorem vE(hr:τ.mine r s)(ha:∀r,¬τ.mine r t):(v.heap.modify s g)[t]?=v.heap[t]? :=by
 rw[Array.getElem?_modify];split
 ·rename_i e;subst e;exact absurd hr (ha r)
 ·rfl
theorem vF(hr:τ.mine r s)(ha:∀s,¬τ.mine t s):(w.heap.modify r g)[t]?=w.heap[t]? :=by
 rw[Array.getElem?_modify];split
 ·rename_i e;subst e;exact absurd hr (ha s)
 ·rfl
theorem nY(h:Array Obj)(r:Nat)(o:Obj):h.setIfInBounds r o=h.modify r λ_=>o:=by
 apply Array.ext_getElem?;intro i;rw[Array.getElem?_setIfInBounds,Array.getElem?_modify];split
 ·rename_i e;subst e;split
  ·simp[*]
  ·rename_i hl;simp[Nat.le_of_not_lt hl]
 ·rfl
theorem Bb{p:Program}{k:Addr}{u:TypeId}{b:Bool}{l:List Addr}(h:w.viewStore p a u k x b=.ok (w1,l)):w1.heap.size=w.heap.size/\w1.drawn=w.drawn:=by
 unfold World.viewStore at h;simp only[bind,Except.bind,pure,Except.pure]at h;repeat' split at h
 all_goals first
  |(cases h;done)
  |(simp only[Except.ok.injEq,Xo]at h;obtain⟨rfl,_⟩:=h;simp)
theorem ask_size{α:Type}:∀(k:Ask α) (w:World),(w.ask k).2.heap=w.heap/\w.drawn<=(w.ask k).2.drawn
 |.done a,w=>⟨rfl,iR _⟩
 |.ask what range k,w=>by
  unfold World.ask;dsimp only;split
  ·exact ask_size (k 0) w
  ·obtain⟨h1,h2⟩:=ask_size (k ((Question.extern what range).cut (w.tape w.drawn (Question.extern what range)))) {w with drawn:=w.drawn+1};exact⟨h1,Xb (Nat.le_succ _) h2⟩
theorem wE(w:World)(c:Sys):(w.sys c).2.heap=w.heap/\w.drawn<=(w.sys c).2.drawn:=by
 have h:=ask_size (Kernel.perform c w.os) w;unfold World.sys;split
 ·exact⟨rfl,iR _⟩
 ·rename_i r os w' _ he;rw[he]at h;exact h
theorem aT.sys{P:Program}(c:Sys):aT P (Go.sys c):=λw es=>.inl ⟨_,(w.sys c).2,_,rfl,λr d h=>by rw[(wE w c).1]at h;exact h⟩
theorem _root_.Go.Sem.o7{α:Type}(P:Program):∀(p:Sem α) (w:World) (es:Array Event) {a:α} {w1:World} {es1:Array Event},p.runT P w es=(.ok a w1,es1)->w.heap.size<=w1.heap.size/\w.drawn<=w1.drawn:=by
 intro p;induction p with
 |pure a=>
  intro w es a w1 es1 hr;simp only[Sem.runT,Xo,Result.ok.injEq]at hr;obtain⟨⟨rfl,rfl⟩,rfl⟩:=hr;exact⟨iR _,iR _⟩
 |load m a k ih=>
  intro w es x w1 es1 hr;rw[Sem.runT]at hr;split at hr
  ·exact ih _ _ _ hr
  ·split at hr
   ·exact ih _ _ _ hr
   ·cases hr
 |store m a x k ih=>
  intro w es y w1 es1 hr;by_cases h1: ∃c,x=.agg c
  ·obtain⟨c,rfl⟩:=h1;simp[Sem.runT]at hr
  by_cases h2: ∃c,x=.tuple c
  ·obtain⟨c,rfl⟩:=h2;simp[Sem.runT]at hr
  rw[Sem.runT.eq_5 _ _ _ _ _ _ _ (λc e=>h1 ⟨c,e⟩) (λc e=>h2 ⟨c,e⟩)]at hr;split at hr
  ·split at hr
   ·cases hr
   ·have:=ih _ _ hr;simpa[World.setCell] using this
  ·split at hr
   ·rename_i w' l he;unfold World.farStore at he;split at he
    ·split at he
     ·rename_i r hh;cases he;have h3:=Bb hh
      have:=ih _ _ hr;rw[h3.1,h3.2]at this;exact this
     ·cases he
    ·cases he
   ·cases hr
 |new o k ih=>
  intro w es x w1 es1 hr
  have:=ih _ _ _ hr;simp at this;exact⟨by omega,this.2⟩
 |shape r k ih=>intro w es x w1 es1 hr;exact ih _ _ _ hr
 |freeze a n k ih=>
  intro w es x w1 es1 hr
  have:=ih _ _ hr;have h2:(w.freeze a n).heap.size=w.heap.size/\(w.freeze a n).drawn=w.drawn:=by unfold World.freeze;split<;>simp
  rw[h2.1,h2.2]at this;exact this
 |frozen a k ih=>intro w es x w1 es1 hr;exact ih _ _ _ hr
 |getObj r k ih=>
  intro w es x w1 es1 hr;rw[Sem.runT]at hr;split at hr
  ·cases hr
  ·exact ih _ _ _ hr
  ·cases hr
 |setObj r o k ih=>
  intro w es x w1 es1 hr;rw[Sem.runT]at hr;split at hr
  ·cases hr
  ·have:=ih _ _ hr;simpa using this
  ·cases hr
 |choose q k ih=>
  intro w es x w1 es1 hr;rw[Sem.runT]at hr;split at hr
  ·exact ih _ _ _ hr
  ·have:=ih _ _ _ hr;exact⟨this.1,Xb (Nat.le_succ _) this.2⟩
 |sys c k ih=>
  intro w es x w1 es1 hr
  have:=ih _ _ _ hr;have h2:=wE w c;rw[h2.1]at this;exact⟨this.1,Xb h2.2 this.2⟩
 |program k ih=>intro w es x w1 es1 hr;exact ih _ _ _ hr
 |mark m k ih=>intro w es x w1 es1 hr;exact ih _ _ hr
 |halt h=>intro w es x w1 es1 hr;simp[Sem.runT]at hr
theorem Sync.push(hb:Fit τ)(hs:Sync L C τ k₀ N w v)(hsz:w.heap.size<N)(ho:KR L C τ w.heap.size v.heap.size o q):Sync L C τ k₀ N {w with heap:=w.heap.push o} {v with heap:=v.heap.push q}:=by
 have hp:τ.kd k₀ w.heap.size v.heap.size:=by simpa using hs.mN 0 (by simpa using hsz)
 refine⟨λr' s' hr' hl=>?_,λi hi=>?_⟩
 ·simp only[Yh]at hl;by_cases e:r'=w.heap.size
  ·subst e;obtain rfl:=hb.fn _ _ _ (hb.kd hp) hr';exact⟨o,q,by simp,by simp,ho⟩
  ·obtain⟨o',q',h1,h2,h3⟩:=hs.held r' s' hr' (by omega);have l1:=(Array.getElem?_eq_some_iff.1 h1).1;have l2:=(Array.getElem?_eq_some_iff.1 h2).1;exact⟨o',q',by simp[Array.getElem?_push,h1];omega,by simp[Array.getElem?_push,h2];omega,h3⟩
 ·simp only[Yh]at hi ⊢
  have:=hs.mN (i+1) (by omega);rw[show w.heap.size+1+i=w.heap.size+(i+1) by omega,show v.heap.size+1+i=v.heap.size+(i+1) by omega];exact this
theorem Sync.next(hs:Sync L C τ k₀ N w v)(hsz:w.heap.size<N):τ.kd k₀ w.heap.size v.heap.size:=by simpa using hs.mN 0 (by simpa using hsz)
theorem Sync.stored(hb:Fit τ)(hs:Sync L C τ k₀ N w v)(hab:AR τ.own a b)(hsp:a.spot=none)(hxy:VR L τ.all x y):Sync L C τ k₀ N (w.setCell a x) (v.setCell b y):=by
 have hbsp:b.spot=none:=hab.2.2.trans hsp;have hra:=hb.own _ _ hab.1;refine hs.turn hb (.inl hra) λo q ho=>KR.nH hb hra ?_;cases ho.all hra with
 |cells e f hx=>
  refine .cells e f ?_;rw[hsp,hbsp,hab.2.1];exact hx.set hxy _
 |map c h=>exact .map c h
 |stringIter s p=>exact .stringIter s p
 |mapIter a b c h=>exact .mapIter a b c h
 |number l h=>exact .number l h
theorem Sync.froze(hb:Fit τ)(hs:Sync L C τ k₀ N w v)(hab:AR τ.own a b)(n:Nat):Sync L C τ k₀ N (w.freeze a n) (v.freeze b n):=by
 have hra:=hb.own _ _ hab.1;unfold World.freeze;split
 ·exact hs
 ·refine hs.turn hb (.inl hra) λo q ho=>KR.nH hb hra ?_;cases ho.all hra with
  |cells e f hx=>obtain⟨lo,hi⟩:=f;simp only[hab.2.1];exact .cells e _ hx
  |map c h=>exact .map c h
  |stringIter s p=>exact .stringIter s p
  |mapIter a b c h=>exact .mapIter a b c h
  |number l h=>exact .number l h
theorem ae.sn(hb:Fit τ){α β:Type}{R:α->β->Prop}{p:Sem α}{q:Sem β}(h:ae P G L C τ k₀ R p q):
  ∀(w v:World) (es fs:Array Event) (a:α) (w1:World) (es1:Array Event),Sync L C τ k₀ N w v->p.runT (gp P G) w es=(.ok a w1,es1)->w1.heap.size<=N->
   (∀j q,w.drawn+j<w1.drawn->v.tape (v.drawn+j) q=w.tape (w.drawn+j) q)->(∀r s,τ.un r s->r<N)->
   ∃b v1 fs1,q.runT P v fs=(.ok b v1,fs1)/\R a b/\cZ L C τ k₀ N w v w1 v1 es fs es1 fs1:=by
 have stores:∀{a b:Addr} {x y:Value},(AR τ.own a b/\VR L τ.all x y\/AR τ.box a b/\VR L τ.own x y)->∀{k:Sem α} {l:Sem β},
   (∀(w v:World) (es fs:Array Event) (a:α) (w1:World) (es1:Array Event),Sync L C τ k₀ N w v->k.runT (gp P G) w es=(.ok a w1,es1)->w1.heap.size<=N->
    (∀j q,w.drawn+j<w1.drawn->v.tape (v.drawn+j) q=w.tape (w.drawn+j) q)->(∀r s,τ.un r s->r<N)->∃b v1 fs1,l.runT P v fs=(.ok b v1,fs1)/\R a b/\cZ L C τ k₀ N w v w1 v1 es fs es1 fs1)->
   ∀(w v:World) (es fs:Array Event) (r:α) (w1:World) (es1:Array Event),Sync L C τ k₀ N w v->(Sem.store .plain a x k).runT (gp P G) w es=(.ok r w1,es1)->w1.heap.size<=N->
    (∀j q,w.drawn+j<w1.drawn->v.tape (v.drawn+j) q=w.tape (w.drawn+j) q)->(∀r s,τ.un r s->r<N)->∃b' v1 fs1,(Sem.store .plain b y l).runT P v fs=(.ok b' v1,fs1)/\R r b'/\cZ L C τ k₀ N w v w1 v1 es fs es1 fs1:=by
  intro a b x y hor k l ih w v es fs r w1 es1 hs hr hN ht hd;have hab:AR τ.all a b\/AR τ.box a b:=hor.imp (λh=>h.1.mono hb.own) (λh=>h.1);have hxy:VR L τ.all x y:=hor.elim (λh=>h.2) (λh=>h.2.mono hb.own);have hnt:(∀c,x≠.agg c)/\∀c,x≠.tuple c:=by
   constructor
   ·rintro c rfl;simp[Sem.runT]at hr
   ·rintro c rfl;simp[Sem.runT]at hr
  have hnt':(∀c,y≠.agg c)/\∀c,y≠.tuple c:=by
   cases hxy<;>first|exact absurd rfl (hnt.2 _)|exact absurd rfl (hnt.1 _)|exact⟨by assumption,by assumption⟩|exact⟨by simp,by simp⟩
  rw[Sem.runT.eq_5 _ _ _ _ _ _ _ hnt.1 hnt.2]at hr;cases hc:w.cell? a with
  |none=>
   obtain⟨hh,he⟩:=Vp (P:=gp P G) (L:=L) (τ:=τ) (x:=x) (hs.known (hab.imp (·.1) (·.1))) (Mode.plain==.atomic);rw[hc]at hr;simp only[he]at hr;cases hr
  |some y0=>
   rw[hc]at hr;obtain⟨hsp,cc,ee,ff,hblk,hcc⟩:=sH hc;have hal:a.block<w.heap.size:=(Array.getElem?_eq_some_iff.1 hblk).1;by_cases hfz:w.frozen? a=true
   ·simp only[hfz,No]at hr;cases hr
   simp only[hfz,Xf,Xd]at hr;obtain⟨z,hz⟩: ∃z,v.cell? b=some z:=hab.elim (λh=>let ⟨z,hz,_⟩:=hs.cell h hc;⟨z,hz⟩) (λh=>let ⟨z,hz,_⟩:=hs.y8 h hc;⟨z,hz⟩);have hs1:Sync L C τ k₀ N (w.setCell a x) (v.setCell b y):=hor.elim (λh=>hs.stored hb h.1 hsp h.2) (λh=>hs.boxed hb h.1 hsp h.2);obtain⟨b',v1,fs1,e1,e2,e3⟩:=ih (w.setCell a x) (v.setCell b y) (es.push ⟨.cell a,true,false⟩) (fs.push ⟨.cell b,true,false⟩) r w1 es1 hs1 hr hN ht hd;refine⟨b',v1,fs1,?_,e2,?_⟩
   ·rw[Sem.runT.eq_5 _ _ _ _ _ _ _ hnt'.1 hnt'.2,hz];simp only[hs.frozen hab hal,hfz,Xf,Xd];exact e1
   ·refine cZ.trans ?_ e3;exact⟨hs1,by simp[World.setCell],by simp[World.setCell],by simp[World.setCell],by simp[World.setCell],rfl,rfl,rfl,rfl,rfl,rfl,λs hl ha=>vE (hor.elim (λh=>.inl h.1.1) (λh=>.inr (.inl h.1.1))) ha,λt hl ha=>vF (hor.elim (λh=>.inl h.1.1) (λh=>.inr (.inl h.1.1))) ha,⟨#[(⟨.cell a,true,false⟩,⟨.cell b,true,false⟩)],by simp,by simp,by simp;exact .write (hor.elim (λh=>⟨.inl h.1.1,h.1.2⟩) (λh=>⟨.inr (.inl h.1.1),h.1.2⟩))⟩⟩
 induction h with
 |pure hR=>
  intro w v es fs a w1 es1 hs hr _ _ _;simp only[Sem.runT,Xo,Result.ok.injEq]at hr;obtain⟨⟨rfl,rfl⟩,rfl⟩:=hr;exact⟨_,v,fs,rfl,hR,.refl hs⟩
 |@load a b k l hab _ ih=>
  intro w v es fs x w1 es1 hs hr hN ht hd;rw[Sem.runT]at hr;cases hc:w.cell? a with
  |none=>
   obtain⟨hh,he⟩:=Fx (P:=gp P G) (L:=L) (τ:=τ) (hs.known (.inl hab.1)) (Mode.plain==.atomic);rw[hc]at hr;simp only[he]at hr;cases hr
  |some y=>
   rw[hc]at hr;obtain⟨z,hz,hyz⟩:=hs.cell hab hc;obtain⟨b',v1,fs1,e1,e2,e3⟩:=ih y z hyz w v (es.push ⟨.cell a,false,false⟩) (fs.push ⟨.cell b,false,false⟩) x w1 es1 hs hr hN ht hd;refine⟨b',v1,fs1,?_,e2,?_⟩
   ·rw[Sem.runT,hz];exact e1
   ·refine cZ.trans ?_ e3;exact cZ.ev hs (.cell ⟨.inl hab.1,hab.2⟩)
 |@oE a b k l hab _ ih=>
  intro w v es fs x w1 es1 hs hr hN ht hd;rw[Sem.runT]at hr;cases hc:w.cell? a with
  |none=>
   obtain⟨hh,he⟩:=Fx (P:=gp P G) (L:=L) (τ:=τ) (hs.known (.inr hab.1)) (Mode.plain==.atomic);rw[hc]at hr;simp only[he]at hr;cases hr
  |some y=>
   rw[hc]at hr;obtain⟨z,hz,hyz⟩:=hs.y8 hab hc;obtain⟨b',v1,fs1,e1,e2,e3⟩:=ih y z hyz w v (es.push ⟨.cell a,false,false⟩) (fs.push ⟨.cell b,false,false⟩) x w1 es1 hs hr hN ht hd;refine⟨b',v1,fs1,?_,e2,?_⟩
   ·rw[Sem.runT,hz];exact e1
   ·refine cZ.trans ?_ e3;exact cZ.ev hs (.cell ⟨.inr (.inl hab.1),hab.2⟩)
 |@store a b x y k l hab hxy _ ih=>exact stores (.inl ⟨hab,hxy⟩) ih
 |@oG a b x y k l hab hxy _ ih=>exact stores (.inr ⟨hab,hxy⟩) ih
 |@new o q k l hk ho _ ih=>
  intro w v es fs x w1 es1 hs hr hN ht hd;rw[Sem.runT]at hr;have hsz:w.heap.size<N:=by
   refine Xc ?_ hN
   have:=(Sem.o7 (gp P G) _ _ _ hr).1;simp only[Yh]at this;omega
  have hp:τ.own w.heap.size v.heap.size:=by have:=hs.next hsz;rw[hk]at this;exact this
  have hs1:=hs.push hb hsz (KR.nH hb (hb.own _ _ hp) ho);obtain⟨b',v1,fs1,e1,e2,e3⟩:=ih w.heap.size v.heap.size hp _ _ es fs x w1 es1 hs1 hr hN ht hd;refine⟨b',v1,fs1,by rw[Sem.runT];exact e1,e2,cZ.trans ?_ e3⟩;refine⟨hs1,by simp;omega,by simp,rfl,iR _,rfl,rfl,rfl,rfl,rfl,rfl,λs hl ha=>by simp[Array.getElem?_push];omega,λs hl ha=>by simp[Array.getElem?_push];omega,#[],by simp,by simp,by simp⟩
 |@oV xs ys e f k l hk ho _ ih=>
  intro w v es fs x w1 es1 hs hr hN ht hd;rw[Sem.runT]at hr;have hsz:w.heap.size<N:=by
   refine Xc ?_ hN
   have:=(Sem.o7 (gp P G) _ _ _ hr).1;simp only[Yh]at this;omega
  have hp:τ.box w.heap.size v.heap.size:=by have:=hs.next hsz;rw[hk]at this;exact this
  have hs1:=hs.push hb hsz (KR.tf (e:=e) (f:=f) hb hp ho);obtain⟨b',v1,fs1,e1,e2,e3⟩:=ih w.heap.size v.heap.size hp _ _ es fs x w1 es1 hs1 hr hN ht hd;refine⟨b',v1,fs1,by rw[Sem.runT];exact e1,e2,cZ.trans ?_ e3⟩;refine⟨hs1,by simp;omega,by simp,rfl,iR _,rfl,rfl,rfl,rfl,rfl,rfl,λs hl ha=>by simp[Array.getElem?_push];omega,λs hl ha=>by simp[Array.getElem?_push];omega,#[],by simp,by simp,by simp⟩
 |@ou o q k l hk ho _ ih=>
  intro w v es fs x w1 es1 hs hr hN ht hd;rw[Sem.runT]at hr;have hsz:w.heap.size<N:=by
   refine Xc ?_ hN
   have:=(Sem.o7 (gp P G) _ _ _ hr).1;simp only[Yh]at this;omega
  have hp:τ.lp w.heap.size v.heap.size:=by have:=hs.next hsz;rw[hk]at this;exact this
  have hs1:=hs.push hb hsz (KR.se hb hp ho);obtain⟨b',v1,fs1,e1,e2,e3⟩:=ih w.heap.size v.heap.size hp _ _ es fs x w1 es1 hs1 hr hN ht hd;refine⟨b',v1,fs1,by rw[Sem.runT];exact e1,e2,cZ.trans ?_ e3⟩;refine⟨hs1,by simp;omega,by simp,rfl,iR _,rfl,rfl,rfl,rfl,rfl,rfl,λs hl ha=>by simp[Array.getElem?_push];omega,λs hl ha=>by simp[Array.getElem?_push];omega,#[],by simp,by simp,by simp⟩
 |@oN r s k l hrs _ ih=>
  intro w v es fs x w1 es1 hs hr hN ht hd;rw[Sem.runT]at hr;cases hc:w.heap[r]? with
  |none=>rw[hc]at hr;cases hr
  |some o=>
   obtain⟨o',q,h1,h2,h3⟩:=hs.loops r s hrs (Array.getElem?_eq_some_iff.1 hc).1;rw[hc]at h1;cases h1;rw[hc]at hr;have h3':=h3;cases h3 with
   |_=>
    obtain⟨b',v1,fs1,e1,e2,e3⟩:=ih _ _ h3' w v (es.push ⟨.obj r,false,false⟩) (fs.push ⟨.obj s,false,false⟩) x w1 es1 hs hr hN ht hd;refine⟨b',v1,fs1,by rw[Sem.runT,h2];exact e1,e2,cZ.trans ?_ e3⟩;exact cZ.ev hs (.obj (ai.pR hrs))
 |@og r s o q k l hrs ho _ ih=>
  intro w v es fs x w1 es1 hs hr hN ht hd;rw[Sem.runT]at hr;cases hc:w.heap[r]? with
  |none=>rw[hc]at hr;cases hr
  |some o0=>
   obtain⟨o',q0,h1,h2,h3⟩:=hs.loops r s hrs (Array.getElem?_eq_some_iff.1 hc).1;rw[hc]at h1;cases h1;rw[hc]at hr;have hch:o.isChan=false/\q.isChan=false:=by cases ho<;>exact⟨rfl,rfl⟩
   rw[nY,hch.1]at hr;have hs1:Sync L C τ k₀ N {w with heap:=w.heap.modify r λ_=>o} {v with heap:=v.heap.modify s λ_=>q}:=hs.turn hb (ai.pR hrs) λ_ _ _=>KR.se hb hrs ho;cases h3 with
   |_=>
    obtain⟨b',v1,fs1,e1,e2,e3⟩:=ih _ _ (es.push ⟨.obj r,true,false⟩) (fs.push ⟨.obj s,true,false⟩) x w1 es1 hs1 hr hN ht hd;refine⟨b',v1,fs1,by rw[Sem.runT,h2,nY,hch.2];exact e1,e2,cZ.trans ?_ e3⟩;exact⟨hs1,by simp,by simp,rfl,iR _,rfl,rfl,rfl,rfl,rfl,rfl,λt hl ha=>vE (.inr (.inr hrs)) ha,λt hl ha=>vF (.inr (.inr hrs)) ha,⟨#[(⟨.obj r,true,false⟩,⟨.obj s,true,false⟩)],by simp,by simp,by simp;exact .set (.inr (.inr hrs))⟩⟩
 |@shape r s k l hrs _ ih=>
  intro w v es fs x w1 es1 hs hr hN ht hd;rw[Sem.runT]at hr;by_cases hl:r<w.heap.size
  ·obtain⟨b',v1,fs1,e1,e2,e3⟩:=ih _ w v es fs x w1 es1 hs hr hN ht hd;exact⟨b',v1,fs1,by rw[Sem.runT,hs.shape hrs hl];exact e1,e2,e3⟩
  ·
   have hn:w.shape? r=none:=by unfold World.shape?;simp[Nat.le_of_not_lt hl]
   have hv:v.shape? s=none:=by
    have:=hs.later hb (.inl hrs) hl (hd _ _ (.inl hrs));unfold World.shape?;rw[Array.getElem?_eq_none (by omega)]
   rw[hn]at hr;obtain⟨b',v1,fs1,e1,e2,e3⟩:=ih _ w v es fs x w1 es1 hs hr hN ht hd;exact⟨b',v1,fs1,by rw[Sem.runT,hv];exact e1,e2,e3⟩
 |@freeze a b n k l hab _ ih=>
  intro w v es fs x w1 es1 hs hr hN ht hd;rw[Sem.runT]at hr;have hs1:Sync L C τ k₀ N (w.freeze a n) (v.freeze b n):=hs.froze hb hab n;have hf:∀(w:World) (a:Addr),(w.freeze a n).heap.size=w.heap.size/\(w.freeze a n).drawn=w.drawn/\(w.freeze a n).tape=w.tape/\(w.freeze a n).os=w.os/\(w.freeze a n).output=w.output:=λw a=>by
   unfold World.freeze;split<;>simp
  obtain⟨b',v1,fs1,e1,e2,e3⟩:=ih _ _ es fs x w1 es1 hs1 hr hN (by rw[(hf w a).2.1,(hf w a).2.2.1,(hf v b).2.1,(hf v b).2.2.1];exact ht) hd;refine⟨b',v1,fs1,by rw[Sem.runT];exact e1,e2,cZ.trans ?_ e3⟩;refine⟨hs1,by rw[(hf w a).1,(hf v b).1],by rw[(hf w a).1];exact iR _,by rw[(hf w a).2.1,(hf v b).2.1],by rw[(hf w a).2.1];exact iR _,(hf v b).2.2.1,(hf v b).2.2.2.1,(hf v b).2.2.2.2,(hf w a).2.2.1,(hf w a).2.2.2.1,(hf w a).2.2.2.2,λs hl ha=>?_,λs hl ha=>?_,#[],by simp,by simp,by simp⟩
  ·unfold World.freeze;split
   ·rfl
   ·exact vE (.inl hab.1) ha
  ·unfold World.freeze;split
   ·rfl
   ·exact vF (.inl hab.1) ha
 |@frozen a b k l hab _ ih=>
  intro w v es fs x w1 es1 hs hr hN ht hd;rw[Sem.runT]at hr;by_cases hl:a.block<w.heap.size
  ·obtain⟨b',v1,fs1,e1,e2,e3⟩:=ih _ w v es fs x w1 es1 hs hr hN ht hd;exact⟨b',v1,fs1,by rw[Sem.runT,hs.frozen (.inl hab) hl];exact e1,e2,e3⟩
  ·have hn:w.frozen? a=false:=by unfold World.frozen?;simp[Nat.le_of_not_lt hl]
   have hv:v.frozen? b=false:=by
    have:=hs.later hb (.inl hab.1) hl (hd _ _ (.inl hab.1));unfold World.frozen?;rw[Array.getElem?_eq_none (by omega)]
   rw[hn]at hr;obtain⟨b',v1,fs1,e1,e2,e3⟩:=ih _ w v es fs x w1 es1 hs hr hN ht hd;exact⟨b',v1,fs1,by rw[Sem.runT,hv];exact e1,e2,e3⟩
 |@getObj r s k l hrs _ ih=>
  intro w v es fs x w1 es1 hs hr hN ht hd;rw[Sem.runT]at hr;cases hc:w.heap[r]? with
  |none=>rw[hc]at hr;cases hr
  |some o=>
   obtain⟨o',q,h1,h2,h3⟩:=hs.obj r s hrs (Array.getElem?_eq_some_iff.1 hc).1;rw[hc]at h1;cases h1;rw[hc]at hr;have hch:o.isChan=false/\q.isChan=false:=by cases h3<;>exact⟨rfl,rfl⟩
   have h3':=h3;cases h3 with
   |cells e f hx=>cases hr
   |_=>
    obtain⟨b',v1,fs1,e1,e2,e3⟩:=ih _ _ h3' w v (es.push ⟨.obj r,false,false⟩) (fs.push ⟨.obj s,false,false⟩) x w1 es1 hs hr hN ht hd;refine⟨b',v1,fs1,by rw[Sem.runT,h2];exact e1,e2,cZ.trans ?_ e3⟩;exact cZ.ev hs (.obj (.inl hrs))
 |@setObj r s o q k l hrs ho hnc _ ih=>
  intro w v es fs x w1 es1 hs hr hN ht hd;rw[Sem.runT]at hr;cases hc:w.heap[r]? with
  |none=>rw[hc]at hr;cases hr
  |some o0=>
   obtain⟨o',q0,h1,h2,h3⟩:=hs.obj r s (hb.own _ _ hrs) (Array.getElem?_eq_some_iff.1 hc).1;rw[hc]at h1;cases h1;rw[hc]at hr;have hch:o.isChan=false/\q.isChan=false:=by cases ho<;>exact⟨rfl,rfl⟩
   rw[nY,hch.1]at hr;have hs1:Sync L C τ k₀ N {w with heap:=w.heap.modify r λ_=>o} {v with heap:=v.heap.modify s λ_=>q}:=hs.turn hb (.inl (hb.own _ _ hrs)) λ_ _ _=>KR.nH hb (hb.own _ _ hrs) ho;cases h3 with
   |cells e f hx=>cases hr
   |_=>
    obtain⟨b',v1,fs1,e1,e2,e3⟩:=ih _ _ (es.push ⟨.obj r,true,false⟩) (fs.push ⟨.obj s,true,false⟩) x w1 es1 hs1 hr hN ht hd;refine⟨b',v1,fs1,by rw[Sem.runT,h2,nY,hch.2];exact e1,e2,cZ.trans ?_ e3⟩;exact⟨hs1,by simp,by simp,rfl,iR _,rfl,rfl,rfl,rfl,rfl,rfl,λt hl ha=>vE (.inl hrs) ha,λt hl ha=>vF (.inl hrs) ha,⟨#[(⟨.obj r,true,false⟩,⟨.obj s,true,false⟩)],by simp,by simp,by simp;exact .set (.inl hrs)⟩⟩
 |@choose qq k l _ ih=>
  intro w v es fs x w1 es1 hs hr hN ht hd;rw[Sem.runT]at hr;by_cases hf:qq.forced=true
  ·simp only[hf,No]at hr;obtain⟨b',v1,fs1,e1,e2,e3⟩:=ih 0 w v es fs x w1 es1 hs hr hN ht hd;exact⟨b',v1,fs1,by rw[Sem.runT];simp only[hf,No];exact e1,e2,e3⟩
  ·simp only[hf,Xf,Xd]at hr;have hdr:=(Sem.o7 (gp P G) _ _ _ hr).2;simp only at hdr;have htape:v.tape v.drawn qq=w.tape w.drawn qq:=by simpa using ht 0 qq (by omega)
   have hs1:Sync L C τ k₀ N {w with drawn:=w.drawn+1} {v with drawn:=v.drawn+1}:=⟨hs.held,hs.mN⟩
   obtain⟨b',v1,fs1,e1,e2,e3⟩:=ih _ _ _ es fs x w1 es1 hs1 hr hN (λj q hj=>by
    have:=ht (j+1) q (by simp only at hj;omega);simpa[Nat.add_assoc,Yk 1 j] using this) hd
   refine⟨b',v1,fs1,by rw[Sem.runT];simp only[hf,Xf,Xd,htape];exact e1,e2,cZ.trans ?_ e3⟩;exact⟨hs1,rfl,iR _,by simp;omega,by simp,rfl,rfl,rfl,rfl,rfl,rfl,λ_ _ _=>rfl,λ_ _ _=>rfl,#[],by simp,by simp,by simp⟩
 |program _ ih=>
  intro w v es fs x w1 es1 hs hr hN ht hd;rw[Sem.runT]at hr;obtain⟨b',v1,fs1,e1,e2,e3⟩:=ih w v es fs x w1 es1 hs hr hN ht hd;exact⟨b',v1,fs1,by rw[Sem.runT];exact e1,e2,e3⟩
 |oH _ ih=>
  intro w v es fs x w1 es1 hs hr hN ht hd;rw[Sem.runT]at hr;exact ih w v es fs x w1 es1 hs hr hN ht hd
 |noRoom _ ih=>
  intro w v es fs x w1 es1 hs hr hN ht hd;rw[Sem.runT]at hr;obtain⟨b',v1,fs1,e1,e2,e3⟩:=ih w v _ (fs.push ⟨.mark .noRoom,false,true⟩) x w1 es1 hs hr hN ht hd;refine⟨b',v1,fs1,by rw[Sem.runT];exact e1,e2,cZ.trans ?_ e3⟩;exact cZ.ev hs (.noRoom)
 |af qq hh=>
  intro w v es fs x w1 es1 hs hr hN ht hd;obtain⟨_,_,_,e,_,_⟩:=hh w es;rw[e]at hr;cases hr
end
end
end Go.Proofs.YtldmcdeibiclkaaGreatDoor.U
