/-
  Toward summed_holds: THE SAME TYPES, OTHER FUNCTIONS: what looks at types alone is the same.
-/
import GoSem.Step
import Derived.Conc.Events
set_option linter.unusedVariables false
set_option linter.unusedSimpArgs false
set_option maxRecDepth 100000
set_option maxHeartbeats 20000000
namespace Go.Proofs
abbrev AI:=@Nat.le_refl
abbrev By:=@if_neg
abbrev IN:=@if_pos
abbrev IT:=@Nat.le_trans
abbrev No:=@Bool.and_eq_true
abbrev OF:=@List.getElem_mem
abbrev QA:=@Option.some.injEq
abbrev QB:=@ByteArray.size_append
abbrev QC:=@if_false
abbrev QD:=@if_true
abbrev QF:=@Bool.false_eq_true
abbrev QH:=@List.length_cons
abbrev QK:=@Ne.symm
abbrev QL:=@Nat.lt_of_lt_of_le
abbrev QM:=@Prod.mk.injEq
abbrev QO:=@Nat.lt_or_ge
abbrev QQ:=@Nat.zero_le
abbrev QS:=@decide_eq_true_eq
abbrev QU:=@List.map_cons
abbrev QV:=@Array.append_empty
abbrev QX:=@Array.ext
abbrev QY:=@List.length_nil
abbrev Q0:=@Option.some.inj
abbrev Q2:=@List.length_append
abbrev Q4:=@List.length_filter_le
abbrev Q5:=@List.mem_singleton
abbrev Q7:=@Option.map_some
abbrev Q8:=@Bool.or_eq_true
abbrev Q9:=@Bool.not_eq_true
abbrev Ra:=@Array.mem_of_getElem
abbrev Rb:=@List.length_map
abbrev Rh:=@Nat.not_lt_zero
abbrev Ri:=@and_true
abbrev Rj:=@List.mem_map
abbrev Rl:=@Function.comp_def
abbrev Rm:=@Classical.byContradiction
abbrev Rn:=@Array.empty_append
abbrev Ro:=@Int.max_def
abbrev Rp:=@Option.map_eq_some_iff
abbrev Rq:=@List.cons.injEq
abbrev Rr:=@Array.size_push
abbrev Rs:=@decide_eq_false
abbrev Rt:=@Array.size_setIfInBounds
abbrev Ru:=@Option.pure_def
abbrev Rw:=@beq_iff_eq
abbrev Rx:=@List.append_cancel_right
abbrev Ry:=@Nat.add_comm
abbrev Rz:=@List.cons_append
abbrev RA:=@List.mem_toArray
abbrev RB:=@Option.bind_eq_bind
abbrev RD:=@Option.bind_eq_some_iff
abbrev RF:=@Int.add_emod_right
abbrev RG:=@Array.length_toList
abbrev RI:=@Nat.eq_zero_or_pos
abbrev RJ:=@ByteArray.ext
abbrev RM:=@Option.getD_some
abbrev RO:=@List.take_succ_eq_append_getElem
abbrev RP:=@List.mem_cons
abbrev RQ:=@List.length_singleton
abbrev RR:=@List.filter_cons_of_pos
abbrev RS:=@List.length_take
abbrev RU:=@Option.bind_some
abbrev RV:=@Int.emod_nonneg
abbrev RX:=@List.append_nil
abbrev RY:=@List.take_of_length_le
abbrev RZ:=@List.ext_getElem
abbrev R0:=@Nat.mul_le_mul_right
abbrev R4:=@List.take_append_drop
abbrev R5:=@List.eq_nil_of_length_eq_zero
abbrev R6:=@List.map_append
end Go.Proofs
namespace Go.Proofs.YtldmcdeibiclkaaGreat.U
variable {w v w1 w2 v1:World}{a b:Addr}{r s t:Nat}{x y:Value}{o q:Obj}{ρ:Nat->Nat->Prop}{es fs:Array Event}{g:Obj->Obj}{h:Halt}{γ δ:Type}{e:TypeId}{f:Nat×Nat}
section
def gp(P:Program)(G:Array Func):Program:={P with funcs:=G}
section
variable (P:Program) (G:Array Func)
theorem wN(t:TypeId):(gp P G).info? t=P.info? t:=rfl
theorem A9(t:TypeId):(gp P G).underlying t=P.underlying t:=rfl
theorem yb(t:TypeId):(gp P G).cellsOf t=P.cellsOf t:=rfl
theorem IG(t:TypeId):(gp P G).bytesOf t=P.bytesOf t:=rfl
theorem tR:(gp P G).depth=P.depth:=rfl
theorem Bp:(gp P G).globals=P.globals:=rfl
theorem wK:(gp P G).funcs=G:=rfl
theorem ri:∀(d:Nat) (t:TypeId) (off:Nat),byteOfCell (gp P G) d t off=byteOfCell P d t off
 |0,_,_=>rfl
 |d+1,t,off=>by
  unfold byteOfCell;simp only[ri d];rfl
theorem xY:∀(d:Nat) (t:TypeId) (off:Nat),cellOfByte (gp P G) d t off=cellOfByte P d t off
 |0,_,_=>rfl
 |d+1,t,off=>by
  unfold cellOfByte;simp only[xY d];rfl
theorem FO(d:Nat)(e:TypeId)(c o:Nat)(b:Int):cellAtBytes (gp P G) d e c o b=cellAtBytes P d e c o b:=by
 unfold cellAtBytes;simp only[ri,xY];rfl
theorem ye:∀(n:Nat) (t u:TypeId),(gp P G).alikeButTags n t u=P.alikeButTags n t u
 |0,_,_=>rfl
 |n+1,t,u=>by
  unfold Program.alikeButTags;simp only[ye n];rfl
theorem Eg(t:TypeId):(gp P G).stoodInAs t=P.stoodInAs t:=by
 unfold Program.stoodInAs;simp only[ye];rfl
theorem uH(t:TypeId):(gp P G).stoodInHeld t=P.stoodInHeld t:=by
 unfold Program.stoodInHeld;simp only[Eg];rfl
theorem xu:∀(d:Nat) (t u:TypeId),sameLayout (gp P G) d t u=sameLayout P d t u
 |0,_,_=>rfl
 |d+1,t,u=>by
  unfold sameLayout;simp only[xu d,uH];rfl
theorem vi(fits:TypeId->Bool):∀(d:Nat) (e:TypeId) (c o n:Nat),rowAt (gp P G) fits d e c o n=rowAt P fits d e c o n
 |0,_,_,_,_=>rfl
 |d+1,e,c,o,n=>by
  unfold rowAt;simp only[vi fits d,uH];rfl
theorem xH:∀(d:Nat) (e:TypeId) (c o:Nat) (u:TypeId) (n:Nat),liesAt (gp P G) d e c o u n=liesAt P d e c o u n
 |0,_,_,_,_,_=>rfl
 |d+1,e,c,o,u,n=>by
  unfold liesAt;have hs:(λx=>sameLayout (gp P G) (gp P G).depth x u)=λx=>sameLayout P P.depth x u:=funext λx=>xu P G _ x u;simp only[xH d,vi,hs];rfl
theorem pE:∀(d:Nat) (t:TypeId),(gp P G).eqGuardType d t=P.eqGuardType d t
 |0,_=>rfl
 |d+1,t=>by
  unfold Program.eqGuardType;simp only[pE d];rfl
end
end
section
def AR(π:Nat->Nat->Prop)(a b:Addr):Prop:=π a.block b.block/\b.off=a.off/\b.spot=a.spot
inductive bh where
 |any|own|box
 |gL|cO
 |loc
 deriving DecidableEq
inductive Kd where
 |own|box|lp
 deriving DecidableEq
structure au where
 fn:FuncId->Prop
 eA:FuncId->Prop
 cO:FuncId->Prop
 loc:FuncId->Prop
 aW:String->Value
 bO:FuncId->Nat->bh
 res:FuncId->bh
 ar:FuncId->Option Nat
structure ah where
 all:Nat->Nat->Prop
 own:Nat->Nat->Prop
 box:Nat->Nat->Prop
 lp:Nat->Nat->Prop
def ah.un(τ:ah)(r s:Nat):Prop:=τ.all r s\/τ.box r s\/τ.lp r s
def ah.kd(τ:ah):Kd->Nat->Nat->Prop
 |.own=>τ.own
 |.box=>τ.box
 |.lp=>τ.lp
structure eh(τ:ah):Prop where
 own:∀r s,τ.own r s->τ.all r s
 two:∀r s t,τ.all r s->τ.box r t->False
 jR:∀r s t,τ.all r s->τ.lp r t->False
 j3:∀r s t,τ.box r s->τ.lp r t->False
def gN(s:String):Value:=.func (.method s) #[.nilIface] #[]
inductive VR (L:au) (π:Nat->Nat->Prop):Value->Value->Prop
 |aW (s:String):(∀c,L.aW s≠.agg c)->(∀c,L.aW s≠.tuple c)->(∀b,L.aW s≠.bool b)->VR L π (.func (.method s) #[.nilIface] #[]) (L.aW s)
 |bool (b:Bool):VR L π (.bool b) (.bool b)
 |int (k:IntKind) (n:Int):VR L π (.int k n) (.int k n)
 |string (s:ByteArray):VR L π (.string s) (.string s)
 |bc:VR L π (.pointer none) (.pointer none)
 |ptr {a b:Addr}:AR π a b->VR L π (.pointer (some a)) (.pointer (some b))
 |fX (n c:Nat):VR L π (.slice none n c) (.slice none n c)
 |slice {a b:Addr} (n c:Nat):AR π a b->VR L π (.slice (some a) n c) (.slice (some b) n c)
 |iV:VR L π (.map none) (.map none)
 |mj:VR L π (.chan none) (.chan none)
 |map {r s:Nat}:π r s->VR L π (.map (some r)) (.map (some s))
 |func {f:FuncId} (xs ys:Array (Value×Value)):L.eA f->(∀z∈xs,VR L π z.1 z.2)->(∀z∈ys,VR L π z.1 z.2)->
   VR L π (.func (.func f) (xs.map (·.1)) (ys.map (·.1))) (.func (.func f) (xs.map (·.2)) (ys.map (·.2)))
 |nilFunc:VR L π .nilFunc .nilFunc
 |iface (t:TypeId) {v w:Value}:VR L π v w->VR L π (.iface t v) (.iface t w)
 |nilIface:VR L π .nilIface .nilIface
 |agg (xs:Array (Value×Value)):(∀z∈xs,VR L π z.1 z.2)->VR L π (.agg (xs.map (·.1))) (.agg (xs.map (·.2)))
 |tuple (xs:Array (Value×Value)):(∀z∈xs,VR L π z.1 z.2)->VR L π (.tuple (xs.map (·.1))) (.tuple (xs.map (·.2)))
def XR{α β:Type}(R:α->β->Prop)(xs:Array α)(ys:Array β):Prop:=∃zs:Array (α×β),xs=zs.map (·.1)/\ys=zs.map (·.2)/\∀z∈zs,R z.1 z.2
def ER(L:au)(π:Nat->Nat->Prop)(e f:MapEntry):Prop:=VR L π e.key f.key/\VR L π e.val f.val/\f.born=e.born
def NR(π:Nat->Nat->Prop):Option Nat->Option Nat->Prop
 |none,none=>True
 |some r,some s=>π r s
 |_,_=>False
def la(L:au)(p:FuncId->Prop)(n:Nat)(τ:ah)(v w:Value):Prop:=
 (v=.tuple #[]/\w=.tuple #[])\/(v=.nilFunc/\w=.nilFunc)\/∃f xs ys,v=.func (.func f) #[] xs/\w=.func (.func f) #[] ys/\p f/\XR (VR L τ.all) xs ys/\xs.size<=n
def CR(L:au)(τ:ah):bh->Value->Value->Prop
 |.any,v,w=>VR L τ.all v w
 |.own,v,w=>VR L τ.own v w
 |.box,v,w=>VR L τ.box v w
 |.gL,v,w=>(v=.tuple #[]/\w=.tuple #[])\/∃l m,v=.func (.yield l) #[] #[]/\w=.func (.yield m) #[] #[]/\τ.lp l m
 |.cO,v,w=>la L L.cO 1 τ v w
 |.loc,v,w=>la L L.loc 2 τ v w
def TR(L:au)(τ:ah)(f:FuncId)(xs ys:Array Value):Prop:=ys.size=xs.size/\∀(i:Nat) x y,xs[i]?=some x->ys[i]?=some y->CR L τ (L.bO f i) x y
inductive OR (L:au) (τ:ah):Obj->Obj->Prop
 |cells {xs ys:Array Value} (e:TypeId) (f:Nat×Nat):XR (VR L τ.all) xs ys->OR L τ (.cells xs e f) (.cells ys e f)
 |map {xs ys:Array MapEntry} (c:Nat):XR (ER L τ.all) xs ys->OR L τ (.map xs c) (.map ys c)
 |stringIter (s:ByteArray) (p:Nat):OR L τ (.stringIter s p) (.stringIter s p)
 |mapIter {r s:Option Nat} (since:Nat) (seen:Array Nat) (st:Nat):NR τ.all r s->OR L τ (.mapIter r since seen st) (.mapIter s since seen st)
 |number {a b:Addr} (lost:Bool):AR τ.all a b->OR L τ (.number a lost) (.number b lost)
def Jump(c:Code):Prop:=c=.ret\/∃id,c=.exit id
inductive ed (L:au) (C:FuncId->Code->Prop) (τ:ah):Obj->Obj->Prop
 |loop {k l:Loop}:l.state=k.state->l.pending=k.pending->l.fn=k.fn->TR L τ k.fn k.tmps l.tmps->l.params=k.params->l.assign=k.assign->l.body=k.body->τ.lp k.defers l.defers->
   C k.fn k.assign->C k.fn k.body->(∀c,k.pending=some c->Jump c)->L.fn k.fn->(∀p∈k.params,L.bO k.fn p=.any)->ed L C τ (.loop k) (.loop l)
 |deferred {d:Option (List Deferred)}:(d=none\/d=some [])->ed L C τ (.deferred d) (.deferred d)
def yz(o:Obj):Prop:=∀c e f,o≠.cells c e f
def jN:Halt->Prop
 |.panic _|.stuck _|.unsupported _=>True
 |_=>False
def jE(w w1:World):Prop:=∀(r:Nat) d,w1.heap[r]?=some (.deferred d)->w.heap[r]?=some (.deferred d)
theorem jE.refl(w:World):jE w w:=λ_ _ h=>h
theorem jE.trans(h:jE w w1)(k:jE w1 w2):jE w w2:=λr d e=>h r d (k r d e)
def ai(P:Program){α:Type}(p:Sem α):Prop:=∀w es,∃h w1 es1,p.runT P w es=(.halt h w1,es1)/\jN h/\jE w w1
def aP(P:Program){α:Type}(p:Sem α):Prop:=∀w es,(∃a w1 es1,p.runT P w es=(.ok a w1,es1)/\jE w w1)\/(∃h w1 es1,p.runT P w es=(.halt h w1,es1)/\jN h/\jE w w1)
section
variable {P:Program}{α β:Type}
theorem ai.iE{p:Sem α}(h:ai P p):aP P p:=λw es=>.inr (h w es)
theorem aP.pure(a:α):aP P (Pure.pure a:Sem α):=λw es=>.inl ⟨a,w,es,rfl,.refl w⟩
theorem aP.bind{p:Sem α}{f:α->Sem β}(h:aP P p)(k:∀a,aP P (f a)):aP P (p >>=f):=λw es=>by
 rcases h w es with⟨a,w1,es1,e,hk⟩|⟨hh,w1,es1,e,ht,hk⟩
 ·rcases k a w1 es1 with⟨b,w2,es2,e2,hk2⟩|⟨hh,w2,es2,e2,ht,hk2⟩
  ·refine .inl ⟨b,w2,es2,?_,hk.trans hk2⟩;show (p.bind f).runT P w es=_;rw[Sem.runT_bind',e];exact e2
  ·refine .inr ⟨hh,w2,es2,?_,ht,hk.trans hk2⟩;show (p.bind f).runT P w es=_;rw[Sem.runT_bind',e];exact e2
 ·refine .inr ⟨hh,w1,es1,?_,ht,hk⟩;show (p.bind f).runT P w es=_;rw[Sem.runT_bind',e]
theorem aP.ite{c:Prop}[Decidable c]{p q:Sem α}(h:aP P p)(k:aP P q):aP P (if c then p else q):=by split<;>assumption
theorem aP.choose(q:Question):aP P (Go.choose q):=λw es=>by
 refine .inl ?_;unfold Go.choose;by_cases hf:q.forced=true
 ·exact⟨0,w,es,by simp only[Sem.runT,hf,QD],.refl w⟩
 ·exact⟨q.cut (w.tape w.drawn q),{w with drawn:=w.drawn+1},es,by simp only[Sem.runT,hf,QF,QC],λ_ _ h=>h⟩
theorem aP.program:aP P Go.program:=λw es=>.inl ⟨P,w,es,rfl,.refl w⟩
theorem aP.shape(r:Nat):aP P (Go.shape r):=λw es=>.inl ⟨_,w,es,rfl,.refl w⟩
theorem aP.frozen(a:Addr):aP P (Go.frozen a):=λw es=>.inl ⟨_,w,es,rfl,.refl w⟩
theorem aP.mark(m:Mark):aP P (Go.mark m):=λw _=>.inl ⟨(),w,_,rfl,.refl w⟩
theorem aP.Qd(c:Array Value)(e:TypeId):aP P (newObj (.cells c e)):=λw es=>.inl ⟨_,{w with heap:=w.heap.push (.cells c e)},es,rfl,λr d h=>by
 simp only[Array.getElem?_push]at h;split at h
 ·cases h
 ·exact h⟩
theorem ai.bind{p:Sem α}{f:α->Sem β}(h:ai P p):ai P (p.bind f):=λw es=>by
 obtain⟨hh,w1,es1,e,ht,hk⟩:=h w es;exact⟨hh,w1,es1,by rw[Sem.runT_bind',e],ht,hk⟩
theorem ai.bind'{p:Sem α}{f:α->Sem β}(h:ai P p):ai P (p >>=f):=h.bind
theorem ai.then{p:Sem α}{f:α->Sem β}(hp:aP P p)(h:∀a,ai P (f a)):ai P (p >>=f):=λw es=>by
 rcases hp w es with⟨a,w1,es1,e,hk⟩|⟨hh,w1,es1,e,ht,hk⟩
 ·obtain⟨hh,w2,es2,e2,ht,hk2⟩:=h a w1 es1;refine⟨hh,w2,es2,?_,ht,hk.trans hk2⟩;show (p.bind f).runT P w es=_;rw[Sem.runT_bind',e];exact e2
 ·refine⟨hh,w1,es1,?_,ht,hk⟩;show (p.bind f).runT P w es=_;rw[Sem.runT_bind',e]
theorem ai.halt(ht:jN h):ai P (.halt h:Sem α):=λw es=>⟨h,w,es,rfl,ht,.refl w⟩
theorem ai.stuck(s:String):ai P (Go.stuck s:Sem α):=ai.halt trivial
theorem ai.unsupported(u:Unsupported):ai P (Go.unsupported u:Sem α):=ai.halt trivial
theorem ai.goPanic(v:Value):ai P (Go.goPanic v:Sem α):=ai.halt trivial
theorem aP.typeInfo(t:TypeId):aP P (Go.typeInfo t):=by
 unfold Go.typeInfo;refine aP.bind .program λp=>?_;split
 ·exact .pure _
 ·exact (ai.stuck _).iE
theorem aP.underlying(t:TypeId):aP P (Go.underlying t):=by
 unfold Go.underlying;refine aP.bind .program λp=>?_;split
 ·exact .pure _
 ·exact (ai.stuck _).iE
theorem aP.elemOf(t:TypeId):aP P (Go.elemOf t):=by
 unfold Go.elemOf;refine aP.bind (.underlying t) λd=>?_;split
 ·exact .pure _
 ·exact (ai.stuck _).iE
theorem aP.typeStr(t:TypeId):aP P (Go.typeStr t):=by
 unfold Go.typeStr;refine aP.bind (.typeInfo t) λd=>?_;dsimp only;split
 ·exact (ai.unsupported _).iE
 ·exact .pure _
theorem aP.newVar(t:TypeId)(v:Value):aP P (Go.newVar t v):=aP.bind (.Qd _ _) λ_=>.pure _
theorem aP.asIntOf(v:Value):aP P (Go.asIntOf v):=by
 cases v with
 |int=>exact .pure _
 |pointer p=>cases p<;>first|exact (ai.stuck _).iE|exact (ai.unsupported _).iE
 |_=>exact (ai.stuck _).iE
theorem aP.asInt(v:Value):aP P (Go.asInt v):=aP.bind (.asIntOf v) λ_=>.pure _
theorem ai.runtimePanic(e:RuntimeError):ai P (Go.runtimePanic e:Sem α):=by
 unfold Go.runtimePanic;refine ai.then .program λp=>?_;cases e with
 |typeAssertion i c a m=>exact ai.then (.elemOf _) λ_=>ai.then (.newVar _ _) λ_=>ai.goPanic _
 |panicNil=>exact ai.then (.elemOf _) λ_=>ai.then (.newVar _ _) λ_=>ai.goPanic _
 |_=>exact ai.goPanic _
theorem ai.boundsPanic(k:IntKind)(x y:Int)(c:BoundsCode):ai P (Go.boundsPanic k x y c:Sem α):=by
 unfold Go.boundsPanic;dsimp only;split
 ·exact ai.then (aP.bind (.choose _) λ_=>.pure _) λ_=>ai.runtimePanic _
 ·exact ai.then (.pure _) λ_=>ai.runtimePanic _
theorem aP.sliceBound(v:Value)(y:Nat)(c:BoundsCode):aP P (Instr.sliceBound v y c):=by
 unfold Instr.sliceBound;refine aP.bind (.asIntOf v) λx=>?_;obtain⟨k,i⟩:=x;dsimp only;exact aP.ite (.pure _) (ai.boundsPanic _ _ _ _).iE
end
inductive ae (P:Program) (G:Array Func) (L:au) (C:FuncId->Code->Prop) (τ:ah) (k₀:Kd) {α β:Type} (R:α->β->Prop):Sem α->Sem β->Prop
 |pure {a:α} {b:β}:R a b->ae P G L C τ k₀ R (.pure a) (.pure b)
 |load {a b:Addr} {k:Value->Sem α} {l:Value->Sem β}:AR τ.all a b->(∀v w,VR L τ.all v w->ae P G L C τ k₀ R (k v) (l w))->ae P G L C τ k₀ R (.load .plain a k) (.load .plain b l)
 |l7 {a b:Addr} {k:Value->Sem α} {l:Value->Sem β}:AR τ.box a b->(∀v w,VR L τ.own v w->ae P G L C τ k₀ R (k v) (l w))->ae P G L C τ k₀ R (.load .plain a k) (.load .plain b l)
 |store {a b:Addr} {v w:Value} {k:Sem α} {l:Sem β}:AR τ.own a b->VR L τ.all v w->ae P G L C τ k₀ R k l->ae P G L C τ k₀ R (.store .plain a v k) (.store .plain b w l)
 |lS {a b:Addr} {v w:Value} {k:Sem α} {l:Sem β}:AR τ.box a b->VR L τ.own v w->ae P G L C τ k₀ R k l->ae P G L C τ k₀ R (.store .plain a v k) (.store .plain b w l)
 |new {o q:Obj} {k:Nat->Sem α} {l:Nat->Sem β}:k₀=.own->OR L τ o q->(∀r s,τ.own r s->ae P G L C τ k₀ R (k r) (l s))->ae P G L C τ k₀ R (.new o k) (.new q l)
 |lR {xs ys:Array Value} (e:TypeId) (f:Nat×Nat) {k:Nat->Sem α} {l:Nat->Sem β}:k₀=.box->XR (VR L τ.own) xs ys->(∀r s,τ.box r s->ae P G L C τ k₀ R (k r) (l s))->ae P G L C τ k₀ R (.new (.cells xs e f) k) (.new (.cells ys e f) l)
 |lN {o q:Obj} {k:Nat->Sem α} {l:Nat->Sem β}:k₀=.lp->ed L C τ o q->(∀r s,τ.lp r s->ae P G L C τ k₀ R (k r) (l s))->ae P G L C τ k₀ R (.new o k) (.new q l)
 |lz {r s:Nat} {k:Obj->Sem α} {l:Obj->Sem β}:τ.lp r s->(∀o q,ed L C τ o q->ae P G L C τ k₀ R (k o) (l q))->ae P G L C τ k₀ R (.getObj r k) (.getObj s l)
 |lh {r s:Nat} {o q:Obj} {k:Sem α} {l:Sem β}:τ.lp r s->ed L C τ o q->ae P G L C τ k₀ R k l->ae P G L C τ k₀ R (.setObj r o k) (.setObj s q l)
 |shape {r s:Nat} {k:Option (TypeId×Nat)->Sem α} {l:Option (TypeId×Nat)->Sem β}:τ.all r s->(∀x,ae P G L C τ k₀ R (k x) (l x))->ae P G L C τ k₀ R (.shape r k) (.shape s l)
 |freeze {a b:Addr} (n:Nat) {k:Sem α} {l:Sem β}:AR τ.own a b->ae P G L C τ k₀ R k l->ae P G L C τ k₀ R (.freeze a n k) (.freeze b n l)
 |frozen {a b:Addr} {k:Bool->Sem α} {l:Bool->Sem β}:AR τ.all a b->(∀x,ae P G L C τ k₀ R (k x) (l x))->ae P G L C τ k₀ R (.frozen a k) (.frozen b l)
 |getObj {r s:Nat} {k:Obj->Sem α} {l:Obj->Sem β}:τ.all r s->(∀o q,OR L τ o q->ae P G L C τ k₀ R (k o) (l q))->ae P G L C τ k₀ R (.getObj r k) (.getObj s l)
 |setObj {r s:Nat} {o q:Obj} {k:Sem α} {l:Sem β}:τ.own r s->OR L τ o q->yz o->ae P G L C τ k₀ R k l->ae P G L C τ k₀ R (.setObj r o k) (.setObj s q l)
 |choose (q:Question) {k:Nat->Sem α} {l:Nat->Sem β}:(∀n,ae P G L C τ k₀ R (k n) (l n))->ae P G L C τ k₀ R (.choose q k) (.choose q l)
 |program {k:Program->Sem α} {l:Program->Sem β}:ae P G L C τ k₀ R (k (gp P G)) (l P)->ae P G L C τ k₀ R (.program k) (.program l)
 |l5 {k:Program->Sem α} {q:Sem β}:ae P G L C τ k₀ R (k (gp P G)) q->ae P G L C τ k₀ R (.program k) q
 |noRoom {k:Sem α} {l:Sem β}:ae P G L C τ k₀ R k l->ae P G L C τ k₀ R (.mark .noRoom k) (.mark .noRoom l)
 |af {p:Sem α} (q:Sem β):ai (gp P G) p->ae P G L C τ k₀ R p q
theorem ae.am{P:Program}{G:Array Func}{L:au}{C:FuncId->Code->Prop}{τ:ah}{k₀:Kd}{α β:Type}{R:α->β->Prop}{q:Sem β}(ht:jN h:=by trivial):ae P G L C τ k₀ R (.halt h) q:=.af _ (ai.halt ht)
section
variable {P:Program}{G:Array Func}{L:au}{C:FuncId->Code->Prop}{π:Nat->Nat->Prop}{τ υ:ah}{k₀:Kd}
theorem ae.bind{α β:Type}{R:α->β->Prop}{S:γ->δ->Prop}{p:Sem α}{q:Sem β}{f:α->Sem γ}{g:β->Sem δ}(h:ae P G L C τ k₀ R p q)(hf:∀a b,R a b->ae P G L C τ k₀ S (f a) (g b)):ae P G L C τ k₀ S (p.bind f) (q.bind g):=by
 induction h with
 |pure h=>exact hf _ _ h
 |load h _ ih=>exact .load h λv w hv=>ih v w hv
 |l7 h _ ih=>exact .l7 h λv w hv=>ih v w hv
 |store h hv _ ih=>exact .store h hv ih
 |lS h hv _ ih=>exact .lS h hv ih
 |new hk h _ ih=>exact .new hk h λr s hr=>ih r s hr
 |lR e f hk h _ ih=>exact .lR e f hk h λr s hr=>ih r s hr
 |lN hk h _ ih=>exact .lN hk h λr s hr=>ih r s hr
 |lz h _ ih=>exact .lz h λo q ho=>ih o q ho
 |lh h ho _ ih=>exact .lh h ho ih
 |shape h _ ih=>exact .shape h λx=>ih x
 |freeze n h _ ih=>exact .freeze n h ih
 |frozen h _ ih=>exact .frozen h λx=>ih x
 |getObj h _ ih=>exact .getObj h λo q ho=>ih o q ho
 |setObj h ho hn _ ih=>exact .setObj h ho hn ih
 |choose q _ ih=>exact .choose q λn=>ih n
 |program _ ih=>exact .program ih
 |l5 _ ih=>exact .l5 ih
 |noRoom _ ih=>exact .noRoom ih
 |af q h=>exact .af _ h.bind
theorem ae.bind'{α β:Type}{R:α->β->Prop}{S:γ->δ->Prop}{p:Sem α}{q:Sem β}{f:α->Sem γ}{g:β->Sem δ}(h:ae P G L C τ k₀ R p q)(hf:∀a b,R a b->ae P G L C τ k₀ S (f a) (g b)):ae P G L C τ k₀ S (p >>=f) (q >>=g):=ae.bind h hf
theorem ae.mono{α β:Type}{R S:α->β->Prop}{p:Sem α}{q:Sem β}(h:ae P G L C τ k₀ R p q)(hf:∀a b,R a b->S a b):ae P G L C τ k₀ S p q:=by
 induction h with
 |pure h=>exact .pure (hf _ _ h)
 |load h _ ih=>exact .load h λv w hv=>ih v w hv
 |l7 h _ ih=>exact .l7 h λv w hv=>ih v w hv
 |store h hv _ ih=>exact .store h hv ih
 |lS h hv _ ih=>exact .lS h hv ih
 |new hk h _ ih=>exact .new hk h λr s hr=>ih r s hr
 |lR e f hk h _ ih=>exact .lR e f hk h λr s hr=>ih r s hr
 |lN hk h _ ih=>exact .lN hk h λr s hr=>ih r s hr
 |lz h _ ih=>exact .lz h λo q ho=>ih o q ho
 |lh h ho _ ih=>exact .lh h ho ih
 |shape h _ ih=>exact .shape h λx=>ih x
 |freeze n h _ ih=>exact .freeze n h ih
 |frozen h _ ih=>exact .frozen h λx=>ih x
 |getObj h _ ih=>exact .getObj h λo q ho=>ih o q ho
 |setObj h ho hn _ ih=>exact .setObj h ho hn ih
 |choose q _ ih=>exact .choose q λn=>ih n
 |program _ ih=>exact .program ih
 |l5 _ ih=>exact .l5 ih
 |noRoom _ ih=>exact .noRoom ih
 |af q h=>exact .af _ h
theorem VR.mono(hm:∀r s,π r s->ρ r s){v w:Value}(h:VR L π v w):VR L ρ v w:=by
 induction h with
 |aW s a b c=>exact .aW s a b c
 |bool b=>exact .bool b
 |int k n=>exact .int k n
 |string s=>exact .string s
 |bc=>exact .bc
 |ptr h=>exact .ptr ⟨hm _ _ h.1,h.2⟩
 |fX n c=>exact .fX n c
 |slice n c h=>exact .slice n c ⟨hm _ _ h.1,h.2⟩
 |iV=>exact .iV
 |mj=>exact .mj
 |map h=>exact .map (hm _ _ h)
 |func xs ys hf _ _ ihx ihy=>exact .func xs ys hf ihx ihy
 |nilFunc=>exact .nilFunc
 |iface t _ ih=>exact .iface t ih
 |nilIface=>exact .nilIface
 |agg xs _ ih=>exact .agg xs ih
 |tuple xs _ ih=>exact .tuple xs ih
theorem XR.imp{α β:Type}{R S:α->β->Prop}(hm:∀a b,R a b->S a b){xs:Array α}{ys:Array β}(h:XR R xs ys):XR S xs ys:=
 let ⟨zs,h1,h2,h3⟩:=h;⟨zs,h1,h2,λz hz=>hm _ _ (h3 z hz)⟩
theorem AR.mono(hm:∀r s,π r s->ρ r s)(h:AR π a b):AR ρ a b:=⟨hm _ _ h.1,h.2⟩
theorem ER.mono(hm:∀r s,π r s->ρ r s){a b:MapEntry}(h:ER L π a b):ER L ρ a b:=⟨h.1.mono hm,h.2.1.mono hm,h.2.2⟩
theorem NR.mono(hm:∀r s,π r s->ρ r s):∀{a b:Option Nat},NR π a b->NR ρ a b
 |none,none,_=>trivial
 |some _,some _,h=>hm _ _ h
structure eO(τ υ:ah):Prop where
 all:∀r s,τ.all r s->υ.all r s
 own:∀r s,τ.own r s->υ.own r s
 box:∀r s,τ.box r s->υ.box r s
 lp:∀r s,τ.lp r s->υ.lp r s
theorem CR.mono(hm:eO τ υ){c:bh}{v w:Value}(h:CR L τ c v w):CR L υ c v w:=by
 cases c with
 |any=>exact VR.mono hm.all h
 |own=>exact VR.mono hm.own h
 |box=>exact VR.mono hm.box h
 |gL=>exact h.imp id λ⟨l,m,h1,h2,h3⟩=>⟨l,m,h1,h2,hm.lp _ _ h3⟩
 |cO=>exact h.imp id (Or.imp id λ⟨f,xs,ys,h1,h2,h3,h4,h5⟩=>⟨f,xs,ys,h1,h2,h3,h4.imp λ_ _=>VR.mono hm.all,h5⟩)
 |loc=>exact h.imp id (Or.imp id λ⟨f,xs,ys,h1,h2,h3,h4,h5⟩=>⟨f,xs,ys,h1,h2,h3,h4.imp λ_ _=>VR.mono hm.all,h5⟩)
theorem TR.mono(hm:eO τ υ){f:FuncId}{xs ys:Array Value}(h:TR L τ f xs ys):TR L υ f xs ys:=⟨h.1,λi x y hx hy=>(h.2 i x y hx hy).mono hm⟩
theorem OR.mono(hm:eO τ υ)(h:OR L τ o q):OR L υ o q:=by
 cases h with
 |cells e f h=>exact .cells e f (h.imp λ_ _=>VR.mono hm.all)
 |map c h=>exact .map c (h.imp λ_ _=>ER.mono hm.all)
 |stringIter s p=>exact .stringIter s p
 |mapIter a b c h=>exact .mapIter a b c (h.mono hm.all)
 |number l h=>exact .number l (h.mono hm.all)
theorem ed.mono(hm:eO τ υ)(h:ed L C τ o q):ed L C υ o q:=by
 cases h with
 |loop h1 h2 h3 h4 h5 h6 h7 h8 h9 h10 h11 h12 h13=>exact .loop h1 h2 h3 (h4.mono hm) h5 h6 h7 (hm.lp _ _ h8) h9 h10 h11 h12 h13
 |deferred h=>exact .deferred h
theorem AR.add(h:AR π a b)(n:Nat):AR π (a.add n) (b.add n):=by
 unfold Addr.add;split
 ·exact h
 ·exact⟨h.1,by simp[h.2.1],rfl⟩
section rows
variable {α β:Type}{R:α->β->Prop}{xs:Array α}{ys:Array β}
theorem XR.size(h:XR R xs ys):ys.size=xs.size:=by obtain⟨zs,rfl,rfl,_⟩:=h;simp
theorem XR.get?(h:XR R xs ys)(i:Nat):(xs[i]?=none/\ys[i]?=none)\/∃x y,xs[i]?=some x/\ys[i]?=some y/\R x y:=by
 obtain⟨zs,rfl,rfl,hz⟩:=h;cases e:zs[i]? with
 |none=>exact .inl ⟨by simp[e],by simp[e]⟩
 |some z=>exact .inr ⟨z.1,z.2,by simp[e],by simp[e],hz z (Array.mem_of_getElem? e)⟩
theorem XR.rV(hs:ys.size=xs.size)(h:∀(i:Nat) (x:α) (y:β),xs[i]?=some x->ys[i]?=some y->R x y):XR R xs ys:=by
 refine⟨xs.zip ys,?_,?_,?_⟩
 ·apply QX
  ·simp[hs]
  ·intro i h1 h2;simp
 ·apply QX
  ·simp[hs]
  ·intro i h1 h2;simp
 ·intro z hz;obtain⟨i,hi,rfl⟩:=Array.mem_iff_getElem.1 hz;have hi1:i<xs.size:=by simp at hi;omega
  have hi2:i<ys.size:=by omega
  exact h i _ _ (by simp[hi1]) (by simp[hi2])
theorem XR.nil:XR R #[] #[]:=⟨#[],by simp,by simp,by simp⟩
theorem XR.push{x:α}{y:β}(h:XR R xs ys)(hx:R x y):XR R (xs.push x) (ys.push y):=by
 obtain⟨zs,rfl,rfl,hz⟩:=h;refine⟨zs.push (x,y),by simp,by simp,λz hm=>?_⟩;rcases Array.mem_push.1 hm with h|rfl
 ·exact hz z h
 ·exact hx
theorem XR.append{us:Array α}{vs:Array β}(h:XR R xs ys)(h':XR R us vs):XR R (xs++us) (ys++vs):=by
 obtain⟨zs,rfl,rfl,hz⟩:=h;obtain⟨zs',rfl,rfl,hz'⟩:=h';exact⟨zs++zs',by simp,by simp,λz hm=>(Array.mem_append.1 hm).elim (hz z) (hz' z)⟩
theorem XR.extract(h:XR R xs ys)(i j:Nat):XR R (xs.extract i j) (ys.extract i j):=by
 obtain⟨zs,rfl,rfl,hz⟩:=h;exact⟨zs.extract i j,by simp,by simp,λz hm=>by
  obtain⟨k,hk,rfl⟩:=Array.mem_iff_getElem.1 hm;rw[Array.getElem_extract];exact hz _ (Array.getElem_mem _)⟩
theorem XR.set{x:α}{y:β}(h:XR R xs ys)(hx:R x y)(i:Nat):XR R (xs.setIfInBounds i x) (ys.setIfInBounds i y):=by
 refine XR.rV (by simp[h.size]) λj a b ha hb=>?_;rw[Array.getElem?_setIfInBounds]at ha hb;by_cases e:i=j
 ·subst e;simp only[QD]at ha hb;split at ha
  ·split at hb
   ·cases ha;cases hb;exact hx
   ·cases hb
  ·cases ha
 ·simp only[e,QC]at ha hb;rcases h.get? j with⟨h1,_⟩|⟨u,v,h1,h2,h3⟩
  ·rw[h1]at ha;cases ha
  ·rw[h1]at ha;rw[h2]at hb;cases ha;cases hb;exact h3
theorem XR.modify{f:α->α}{g:β->β}(h:XR R xs ys)(hf:∀a b,R a b->R (f a) (g b))(i:Nat):XR R (xs.modify i f) (ys.modify i g):=by
 refine XR.rV (by simp[h.size]) λj a b ha hb=>?_;rw[Array.getElem?_modify]at ha hb;rcases h.get? j with⟨h1,_⟩|⟨u,v,h1,h2,h3⟩
 ·rw[h1]at ha;split at ha<;>cases ha
 ·rw[h1]at ha;rw[h2]at hb;by_cases e:i=j
  ·simp[e]at ha hb;subst ha;subst hb;exact hf _ _ h3
  ·simp[e]at ha hb;subst ha;subst hb;exact h3
theorem XR.map{γ δ:Type}{S:γ->δ->Prop}{f:α->γ}{g:β->δ}(h:XR R xs ys)(hf:∀a b,R a b->S (f a) (g b)):XR S (xs.map f) (ys.map g):=by
 obtain⟨zs,rfl,rfl,hz⟩:=h;refine⟨zs.map λz=>(f z.1,g z.2),by simp,by simp,λz hm=>?_⟩;obtain⟨y,hy,rfl⟩:=Array.mem_map.1 hm;exact hf _ _ (hz y hy)
theorem XR.self{S:α->α->Prop}(xs:Array α)(h:∀x∈xs,S x x):XR S xs xs:=
 ⟨xs.map λx=>(x,x),by simp[Rl],by simp[Rl],λz hm=>by obtain⟨y,hy,rfl⟩:=Array.mem_map.1 hm;exact h y hy⟩
theorem XR.list(h:XR R xs ys): ∃l:List (α×β),xs.toList=l.map (·.1)/\ys.toList=l.map (·.2)/\∀z∈l,R z.1 z.2:=by
 obtain⟨zs,rfl,rfl,hz⟩:=h;exact⟨zs.toList,by simp,by simp,λz hm=>hz z (by simpa using hm)⟩
theorem XR.isEmpty(h:XR R xs ys):ys.isEmpty=xs.isEmpty:=by
 have:=h.size;simp only[Array.isEmpty,this]
end rows
theorem VR.cells{v w:Value}(h:VR L π v w):XR (VR L π) v.cells w.cells:=by
 have h':=h;cases h with
 |agg xs h=>exact⟨xs,rfl,rfl,h⟩
 |aW s hn=>
  have e:(L.aW s).cells=#[L.aW s]:=by cases hj:L.aW s<;>first|rfl|exact absurd hj (hn _)
  rw[e];exact XR.push (xs:=#[]) (ys:=#[]) XR.nil h'
 |_=>exact XR.push (xs:=#[]) (ys:=#[]) XR.nil h'
end
end
section
def ah.mine(τ:ah)(r s:Nat):Prop:=τ.own r s\/τ.box r s\/τ.lp r s
inductive gQ (τ:ah):Event->Event->Prop
 |cell {a b:Addr}:AR τ.un a b->gQ τ ⟨.cell a,false,false⟩ ⟨.cell b,false,false⟩
 |write {a b:Addr}:AR τ.mine a b->gQ τ ⟨.cell a,true,false⟩ ⟨.cell b,true,false⟩
 |obj {r s:Nat}:τ.un r s->gQ τ ⟨.obj r,false,false⟩ ⟨.obj s,false,false⟩
 |set {r s:Nat}:τ.mine r s->gQ τ ⟨.obj r,true,false⟩ ⟨.obj s,true,false⟩
 |noRoom:gQ τ ⟨.mark .noRoom,false,true⟩ ⟨.mark .noRoom,false,true⟩
structure jF(π:Nat->Nat->Prop):Prop where
 fn:∀r s t,π r s->π r t->s=t
 inj:∀r s t,π r t->π s t->r=s
structure Fit(τ:ah):Prop extends eh τ,jF τ.un
structure KR(L:au)(C:FuncId->Code->Prop)(τ:ah)(r s:Nat)(o q:Obj):Prop where
 all:τ.all r s->OR L τ o q
 box:τ.box r s->∃xs ys e f,o=.cells xs e f/\q=.cells ys e f/\XR (VR L τ.own) xs ys
 lp:τ.lp r s->ed L C τ o q
structure Sync(L:au)(C:FuncId->Code->Prop)(τ:ah)(k₀:Kd)(N:Nat)(w v:World):Prop where
 held:∀r s,τ.un r s->r<w.heap.size->∃o q,w.heap[r]?=some o/\v.heap[s]?=some q/\KR L C τ r s o q
 jU:∀i,w.heap.size+i<N->τ.kd k₀ (w.heap.size+i) (v.heap.size+i)
structure bV(L:au)(C:FuncId->Code->Prop)(τ:ah)(k₀:Kd)(N:Nat)(w v w1 v1:World)(es fs es1 fs1:Array Event):Prop where
 sync:Sync L C τ k₀ N w1 v1
 size:v1.heap.size+w.heap.size=v.heap.size+w1.heap.size
 grow:w.heap.size<=w1.heap.size
 drawn:v1.drawn+w.drawn=v.drawn+w1.drawn
 draw:w.drawn<=w1.drawn
 tape:v1.tape=v.tape
 os:v1.os=v.os
 output:v1.output=v.output
 p6:w1.tape=w.tape
 sR:w1.os=w.os
 q6:w1.output=w.output
 eX:∀s,s<v.heap.size->(∀r,¬τ.mine r s)->v1.heap[s]?=v.heap[s]?
 kL:∀r,r<w.heap.size->(∀s,¬τ.mine r s)->w1.heap[r]?=w.heap[r]?
 events: ∃zs:Array (Event×Event),es1=es++zs.map (·.1)/\fs1=fs++zs.map (·.2)/\∀z∈zs,gQ τ z.1 z.2
section
variable {P:Program}{G:Array Func}{L:au}{C:FuncId->Code->Prop}{τ:ah}{k₀:Kd}{N:Nat}
theorem Fit.mine(hb:Fit τ)(h:τ.mine r s):τ.un r s:=h.imp (hb.own _ _) id
theorem ah.pD(h:τ.box r s):τ.un r s:=.inr (.inl h)
theorem ah.nE(h:τ.lp r s):τ.un r s:=.inr (.inr h)
theorem Fit.Bv(hb:Fit τ):jF τ.all:=⟨λ_ _ _ h k=>hb.fn _ _ _ (.inl h) (.inl k),λ_ _ _ h k=>hb.inj _ _ _ (.inl h) (.inl k)⟩
theorem Fit.kd(hb:Fit τ)(h:τ.kd k₀ r s):τ.un r s:=by
 cases k₀ with
 |own=>exact .inl (hb.own _ _ h)
 |box=>exact ah.pD h
 |lp=>exact ah.nE h
theorem Sync.obj(h:Sync L C τ k₀ N w v):∀r s,τ.all r s->r<w.heap.size->∃o q,w.heap[r]?=some o/\v.heap[s]?=some q/\OR L τ o q:=λr s hr hl=>
 let ⟨o,q,h1,h2,h3⟩:=h.held r s (.inl hr) hl;⟨o,q,h1,h2,h3.all hr⟩
theorem Sync.boxes(h:Sync L C τ k₀ N w v):∀r s,τ.box r s->r<w.heap.size->∃xs ys e f,w.heap[r]?=some (.cells xs e f)/\v.heap[s]?=some (.cells ys e f)/\XR (VR L τ.own) xs ys:=λr s hr hl=>by
 obtain⟨o,q,h1,h2,h3⟩:=h.held r s (.inr (.inl hr)) hl;obtain⟨xs,ys,e,f,rfl,rfl,hx⟩:=h3.box hr;exact⟨xs,ys,e,f,h1,h2,hx⟩
theorem Sync.loops(h:Sync L C τ k₀ N w v):∀r s,τ.lp r s->r<w.heap.size->∃o q,w.heap[r]?=some o/\v.heap[s]?=some q/\ed L C τ o q:=λr s hr hl=>
 let ⟨o,q,h1,h2,h3⟩:=h.held r s (.inr (.inr hr)) hl;⟨o,q,h1,h2,h3.lp hr⟩
theorem KR.kB(hb:Fit τ)(hr:τ.all r s)(h:OR L τ o q):KR L C τ r s o q:=
 ⟨λ_=>h,λh2=>(hb.two _ _ _ hr h2).elim,λh2=>(hb.jR _ _ _ hr h2).elim⟩
theorem KR.pX(hb:Fit τ)(hr:τ.box r s){xs ys:Array Value}(h:XR (VR L τ.own) xs ys):KR L C τ r s (.cells xs e f) (.cells ys e f):=
 ⟨λh2=>(hb.two _ _ _ h2 hr).elim,λ_=>⟨xs,ys,e,f,rfl,rfl,h⟩,λh2=>(hb.j3 _ _ _ hr h2).elim⟩
theorem KR.pf(hb:Fit τ)(hr:τ.lp r s)(h:ed L C τ o q):KR L C τ r s o q:=
 ⟨λh2=>(hb.jR _ _ _ h2 hr).elim,λh2=>(hb.j3 _ _ _ h2 hr).elim,λ_=>h⟩
theorem Sync.later(h:Sync L C τ k₀ N w v)(hb:Fit τ)(hr:τ.un r s)(hl: ¬r<w.heap.size)(hN:r<N):v.heap.size<=s:=by
 obtain⟨i,rfl⟩: ∃i,r=w.heap.size+i:=⟨r-w.heap.size,by omega⟩
 obtain rfl:=hb.fn _ _ _ (hb.kd (h.jU i hN)) hr;omega
theorem bV.refl(h:Sync L C τ k₀ N w v):bV L C τ k₀ N w v w v es fs es fs:=
 ⟨h,rfl,AI _,rfl,AI _,rfl,rfl,rfl,rfl,rfl,rfl,λ_ _ _=>rfl,λ_ _ _=>rfl,#[],by simp,by simp,by simp⟩
theorem bV.ev{e f:Event}(h:Sync L C τ k₀ N w v)(he:gQ τ e f):bV L C τ k₀ N w v w v es fs (es.push e) (fs.push f):=
 ⟨h,rfl,AI _,rfl,AI _,rfl,rfl,rfl,rfl,rfl,rfl,λ_ _ _=>rfl,λ_ _ _=>rfl,#[(e,f)],by simp,by simp,by simpa using he⟩
theorem bV.trans{v2:World}{es1 fs1 es2 fs2:Array Event}(h:bV L C τ k₀ N w v w1 v1 es fs es1 fs1)(k:bV L C τ k₀ N w1 v1 w2 v2 es1 fs1 es2 fs2):
  bV L C τ k₀ N w v w2 v2 es fs es2 fs2:=by
 have h1:=h.size;have h2:=k.size;have h3:=h.drawn;have h4:=k.drawn;have h5:=h.grow;have h6:=h.draw;have h7:=k.grow;have h8:=k.draw;refine⟨k.sync,by omega,by omega,by omega,by omega,k.tape.trans h.tape,k.os.trans h.os,k.output.trans h.output,k.p6.trans h.p6,k.sR.trans h.sR,k.q6.trans h.q6,λs hl ha=>?_,λr hl ha=>?_,?_⟩
 ·rw[k.eX s (by omega) ha,h.eX s hl ha]
 ·rw[k.kL r (by omega) ha,h.kL r hl ha]
 ·obtain⟨zs,e1,e2,e3⟩:=h.events;obtain⟨ys,f1,f2,f3⟩:=k.events;exact⟨zs++ys,by rw[f1,e1];simp,by rw[f2,e2];simp,λz hz=>(Array.mem_append.1 hz).elim (e3 z) (f3 z)⟩
theorem bV.front(h:bV L C τ k₀ N w v w1 v1 #[] #[] es fs)(es0 fs0:Array Event):bV L C τ k₀ N w v w1 v1 es0 fs0 (es0++es) (fs0++fs):=by
 obtain⟨a1,a2,a3,a4,a5,a6,a7,a8,a9,a10,a11,a12,a13,zs,z1,z2,z3⟩:=h;exact⟨a1,a2,a3,a4,a5,a6,a7,a8,a9,a10,a11,a12,a13,zs,by rw[z1];simp,by rw[z2];simp,z3⟩
theorem zU{c:Array Value}(h:w.heap[a.block]?=some (.cells c e f)):w.cell? a=if a.spot.isSome then none else c[a.off]? :=by
 unfold World.cell?;rw[h]
theorem oM{v:Value}(h:w.cell? a=some v):a.spot=none/\∃c e f,w.heap[a.block]?=some (.cells c e f)/\c[a.off]?=some v:=by
 unfold World.cell? at h;split at h
 ·rename_i c e f he;split at h
  ·cases h
  ·rename_i hs;refine⟨by cases hsp:a.spot<;>simp_all,c,e,f,he,h⟩
 ·cases h
theorem Sync.cell(h:Sync L C τ k₀ N w v)(hab:AR τ.all a b)(hx:w.cell? a=some x): ∃y,v.cell? b=some y/\VR L τ.all x y:=by
 obtain⟨hs,c,e,f,he,hc⟩:=oM hx;obtain⟨o,q,h1,h2,h3⟩:=h.obj _ _ hab.1 (Array.getElem?_eq_some_iff.1 he).1;rw[he]at h1;cases h1;cases h3 with
 |cells e f hxr=>
  rcases hxr.get? a.off with⟨h4,_⟩|⟨x',y',h4,h5,h6⟩
  ·rw[h4]at hc;cases hc
  ·rw[h4]at hc;cases hc;refine⟨y',?_,h6⟩;rw[zU h2,hab.2.2,hs,hab.2.1];simpa using h5
theorem Sync.rJ(h:Sync L C τ k₀ N w v)(hab:AR τ.box a b)(hx:w.cell? a=some x): ∃y,v.cell? b=some y/\VR L τ.own x y:=by
 obtain⟨hs,c,e,f,he,hc⟩:=oM hx;obtain⟨xs,ys,e0,f0,h1,h2,h3⟩:=h.boxes _ _ hab.1 (Array.getElem?_eq_some_iff.1 he).1;rw[he]at h1;cases h1;rcases h3.get? a.off with⟨h4,_⟩|⟨x',y',h4,h5,h6⟩
 ·rw[h4]at hc;cases hc
 ·rw[h4]at hc;cases hc;refine⟨y',?_,h6⟩;rw[zU h2,hab.2.2,hs,hab.2.1];simpa using h5
def eE(L:au)(τ:ah)(o:Obj):Prop:=(∃q,OR L τ o q)\/∃xs e f,o=.cells xs e f
theorem Sync.known(h:Sync L C τ k₀ N w v)(hr:τ.all r s\/τ.box r s):∀o,w.heap[r]?=some o->eE L τ o:=λo ho=>by
 rcases hr with hr|hr
 ·obtain⟨o',q,h1,_,h3⟩:=h.obj r s hr (Array.getElem?_eq_some_iff.1 ho).1;rw[ho]at h1;cases h1;exact .inl ⟨q,h3⟩
 ·obtain⟨xs,ys,e,f,h1,_,_⟩:=h.boxes r s hr (Array.getElem?_eq_some_iff.1 ho).1;rw[ho]at h1;cases h1;exact .inr ⟨_,_,_,rfl⟩
theorem BL(ho:∀o,w.heap[a.block]?=some o->eE L τ o)(b:Bool): ∃h,w.farLoad P a b=.error h:=by
 unfold World.farLoad;split
 ·rename_i he;rcases ho _ he with⟨q,hq⟩|⟨_,_,_,hq⟩<;>cases hq
 ·exact⟨_,rfl⟩
theorem Ch(ho:∀o,w.heap[a.block]?=some o->eE L τ o)(b:Bool): ∃h,w.farStore P a x b=.error h:=by
 unfold World.farStore;split
 ·rename_i he;rcases ho _ he with⟨q,hq⟩|⟨_,_,_,hq⟩<;>cases hq
 ·exact⟨_,rfl⟩
theorem Sync.shape{w v:World}(h:Sync L C τ k₀ N w v){r s:Nat}(hr:τ.all r s)(hl:r<w.heap.size):v.shape? s=w.shape? r:=by
 obtain⟨o,q,h1,h2,h3⟩:=h.obj r s hr hl;unfold World.shape?;rw[h1,h2];cases h3<;>simp;rename_i hx;exact hx.size
theorem Sync.frozen{w v:World}(h:Sync L C τ k₀ N w v){a b:Addr}(hab:AR τ.all a b\/AR τ.box a b)(hl:a.block<w.heap.size):v.frozen? b=w.frozen? a:=by
 rcases hab with hab|hab
 ·obtain⟨o,q,h1,h2,h3⟩:=h.obj _ _ hab.1 hl;unfold World.frozen?;rw[h1,h2];cases h3<;>simp[hab.2.1]
 ·obtain⟨xs,ys,e,f,h1,h2,h3⟩:=h.boxes _ _ hab.1 hl;unfold World.frozen?;rw[h1,h2];simp[hab.2.1]
theorem Sync.turn(h:Sync L C τ k₀ N w v)(hb:Fit τ)(hr:τ.un r s){f:Obj->Obj}(hfg:∀o q,KR L C τ r s o q->KR L C τ r s (f o) (g q)):
  Sync L C τ k₀ N {w with heap:=w.heap.modify r f} {v with heap:=v.heap.modify s g}:=by
 refine⟨λr' s' hr' hl=>?_,λi hi=>?_⟩
 ·simp only[Array.size_modify]at hl;obtain⟨o,q,h1,h2,h3⟩:=h.held r' s' hr' hl;by_cases e:r=r'
  ·subst e;obtain rfl:=hb.fn _ _ _ hr hr';exact⟨f o,g q,by simp[Array.getElem?_modify,h1],by simp[Array.getElem?_modify,h2],hfg _ _ h3⟩
  ·have e':s≠s':=λx=>e (hb.inj _ _ _ hr (x▸hr'));exact⟨o,q,by simp[Array.getElem?_modify,h1,e],by simp[Array.getElem?_modify,h2,e'],h3⟩
 ·simp only[Array.size_modify]at hi ⊢;exact h.jU i hi
theorem Sync.boxed(hb:Fit τ)(h:Sync L C τ k₀ N w v)(hab:AR τ.box a b)(hsp:a.spot=none)(hxy:VR L τ.own x y):Sync L C τ k₀ N (w.setCell a x) (v.setCell b y):=by
 have hbsp:b.spot=none:=hab.2.2.trans hsp;refine h.turn hb (ah.pD hab.1) λo q ho=>?_;obtain⟨xs,ys,e,f,rfl,rfl,hx⟩:=ho.box hab.1;simp only[hsp,hbsp,hab.2.1];exact KR.pX hb hab.1 (hx.set hxy _)
theorem qt(hr:τ.mine r s)(ha:∀r,¬τ.mine r t):(v.heap.modify s g)[t]?=v.heap[t]? :=by
 rw[Array.getElem?_modify];split
 ·rename_i e;subst e;exact absurd hr (ha r)
 ·rfl
theorem pW(hr:τ.mine r s)(ha:∀s,¬τ.mine t s):(w.heap.modify r g)[t]?=w.heap[t]? :=by
 rw[Array.getElem?_modify];split
 ·rename_i e;subst e;exact absurd hr (ha s)
 ·rfl
theorem ly(h:Array Obj)(r:Nat)(o:Obj):h.setIfInBounds r o=h.modify r λ_=>o:=by
 apply Array.ext_getElem?;intro i;rw[Array.getElem?_setIfInBounds,Array.getElem?_modify];split
 ·rename_i e;subst e;split
  ·simp[*]
  ·rename_i hl;simp[Nat.le_of_not_lt hl]
 ·rfl
theorem yG{p:Program}{k:Addr}{u:TypeId}{b:Bool}{l:List Addr}(h:w.viewStore p a u k x b=.ok (w1,l)):w1.heap.size=w.heap.size/\w1.drawn=w.drawn:=by
 unfold World.viewStore at h;simp only[bind,Except.bind,pure,Except.pure]at h;repeat' split at h
 all_goals first
  |(cases h;done)
  |(simp only[Except.ok.injEq,QM]at h;obtain⟨rfl,_⟩:=h;simp)
theorem ask_size{α:Type}:∀(k:Ask α) (w:World),(w.ask k).2.heap=w.heap/\w.drawn<=(w.ask k).2.drawn
 |.done a,w=>⟨rfl,AI _⟩
 |.ask what range k,w=>by
  unfold World.ask;dsimp only;split
  ·exact ask_size (k 0) w
  ·obtain⟨h1,h2⟩:=ask_size (k ((Question.extern what range).cut (w.tape w.drawn (Question.extern what range)))) {w with drawn:=w.drawn+1};exact⟨h1,IT (Nat.le_succ _) h2⟩
theorem sS(w:World)(c:Sys):(w.sys c).2.heap=w.heap/\w.drawn<=(w.sys c).2.drawn:=by
 have h:=ask_size (Kernel.perform c w.os) w;unfold World.sys;split
 ·exact⟨rfl,AI _⟩
 ·rename_i r os w' _ he;rw[he]at h;exact h
theorem aP.sys{P:Program}(c:Sys):aP P (Go.sys c):=λw es=>.inl ⟨_,(w.sys c).2,_,rfl,λr d h=>by rw[(sS w c).1]at h;exact h⟩
theorem _root_.Go.Sem.mh{α:Type}(P:Program):∀(p:Sem α) (w:World) (es:Array Event) {a:α} {w1:World} {es1:Array Event},p.runT P w es=(.ok a w1,es1)->w.heap.size<=w1.heap.size/\w.drawn<=w1.drawn:=by
 intro p;induction p with
 |pure a=>
  intro w es a w1 es1 hr;simp only[Sem.runT,QM,Result.ok.injEq]at hr;obtain⟨⟨rfl,rfl⟩,rfl⟩:=hr;exact⟨AI _,AI _⟩
 |load m a k ih=>
  intro w es x w1 es1 hr;rw[Sem.runT]at hr;split at hr
  ·exact ih _ _ _ hr
  ·split at hr
   ·exact ih _ _ _ hr
   ·cases hr
 |store m a x k ih=>
  intro w es y w1 es1 hr;by_cases h1: ∃c,x=.agg c
  ·obtain⟨c,rfl⟩:=h1;simp[Sem.runT]at hr
  by_cases h2: ∃c,x=.tuple c
  ·obtain⟨c,rfl⟩:=h2;simp[Sem.runT]at hr
  rw[Sem.runT.eq_5 _ _ _ _ _ _ _ (λc e=>h1 ⟨c,e⟩) (λc e=>h2 ⟨c,e⟩)]at hr;split at hr
  ·split at hr
   ·cases hr
   ·have:=ih _ _ hr;simpa[World.setCell] using this
  ·split at hr
   ·rename_i w' l he;unfold World.farStore at he;split at he
    ·split at he
     ·rename_i r hh;cases he;have h3:=yG hh
      have:=ih _ _ hr;rw[h3.1,h3.2]at this;exact this
     ·cases he
    ·cases he
   ·cases hr
 |new o k ih=>
  intro w es x w1 es1 hr
  have:=ih _ _ _ hr;simp at this;exact⟨by omega,this.2⟩
 |shape r k ih=>intro w es x w1 es1 hr;exact ih _ _ _ hr
 |freeze a n k ih=>
  intro w es x w1 es1 hr
  have:=ih _ _ hr;have h2:(w.freeze a n).heap.size=w.heap.size/\(w.freeze a n).drawn=w.drawn:=by unfold World.freeze;split<;>simp
  rw[h2.1,h2.2]at this;exact this
 |frozen a k ih=>intro w es x w1 es1 hr;exact ih _ _ _ hr
 |getObj r k ih=>
  intro w es x w1 es1 hr;rw[Sem.runT]at hr;split at hr
  ·cases hr
  ·exact ih _ _ _ hr
  ·cases hr
 |setObj r o k ih=>
  intro w es x w1 es1 hr;rw[Sem.runT]at hr;split at hr
  ·cases hr
  ·have:=ih _ _ hr;simpa using this
  ·cases hr
 |choose q k ih=>
  intro w es x w1 es1 hr;rw[Sem.runT]at hr;split at hr
  ·exact ih _ _ _ hr
  ·have:=ih _ _ _ hr;exact⟨this.1,IT (Nat.le_succ _) this.2⟩
 |sys c k ih=>
  intro w es x w1 es1 hr
  have:=ih _ _ _ hr;have h2:=sS w c;rw[h2.1]at this;exact⟨this.1,IT h2.2 this.2⟩
 |program k ih=>intro w es x w1 es1 hr;exact ih _ _ _ hr
 |mark m k ih=>intro w es x w1 es1 hr;exact ih _ _ hr
 |halt h=>intro w es x w1 es1 hr;simp[Sem.runT]at hr
theorem Sync.push(hb:Fit τ)(hs:Sync L C τ k₀ N w v)(hsz:w.heap.size<N)(ho:KR L C τ w.heap.size v.heap.size o q):Sync L C τ k₀ N {w with heap:=w.heap.push o} {v with heap:=v.heap.push q}:=by
 have hp:τ.kd k₀ w.heap.size v.heap.size:=by simpa using hs.jU 0 (by simpa using hsz)
 refine⟨λr' s' hr' hl=>?_,λi hi=>?_⟩
 ·simp only[Rr]at hl;by_cases e:r'=w.heap.size
  ·subst e;obtain rfl:=hb.fn _ _ _ (hb.kd hp) hr';exact⟨o,q,by simp,by simp,ho⟩
  ·obtain⟨o',q',h1,h2,h3⟩:=hs.held r' s' hr' (by omega);have l1:=(Array.getElem?_eq_some_iff.1 h1).1;have l2:=(Array.getElem?_eq_some_iff.1 h2).1;exact⟨o',q',by simp[Array.getElem?_push,h1];omega,by simp[Array.getElem?_push,h2];omega,h3⟩
 ·simp only[Rr]at hi ⊢
  have:=hs.jU (i+1) (by omega);rw[show w.heap.size+1+i=w.heap.size+(i+1) by omega,show v.heap.size+1+i=v.heap.size+(i+1) by omega];exact this
theorem Sync.next(hs:Sync L C τ k₀ N w v)(hsz:w.heap.size<N):τ.kd k₀ w.heap.size v.heap.size:=by simpa using hs.jU 0 (by simpa using hsz)
theorem Sync.stored(hb:Fit τ)(hs:Sync L C τ k₀ N w v)(hab:AR τ.own a b)(hsp:a.spot=none)(hxy:VR L τ.all x y):Sync L C τ k₀ N (w.setCell a x) (v.setCell b y):=by
 have hbsp:b.spot=none:=hab.2.2.trans hsp;have hra:=hb.own _ _ hab.1;refine hs.turn hb (.inl hra) λo q ho=>KR.kB hb hra ?_;cases ho.all hra with
 |cells e f hx=>
  refine .cells e f ?_;rw[hsp,hbsp,hab.2.1];exact hx.set hxy _
 |map c h=>exact .map c h
 |stringIter s p=>exact .stringIter s p
 |mapIter a b c h=>exact .mapIter a b c h
 |number l h=>exact .number l h
theorem Sync.froze(hb:Fit τ)(hs:Sync L C τ k₀ N w v)(hab:AR τ.own a b)(n:Nat):Sync L C τ k₀ N (w.freeze a n) (v.freeze b n):=by
 have hra:=hb.own _ _ hab.1;unfold World.freeze;split
 ·exact hs
 ·refine hs.turn hb (.inl hra) λo q ho=>KR.kB hb hra ?_;cases ho.all hra with
  |cells e f hx=>obtain⟨lo,hi⟩:=f;simp only[hab.2.1];exact .cells e _ hx
  |map c h=>exact .map c h
  |stringIter s p=>exact .stringIter s p
  |mapIter a b c h=>exact .mapIter a b c h
  |number l h=>exact .number l h
theorem ae.oJ(hb:Fit τ){α β:Type}{R:α->β->Prop}{p:Sem α}{q:Sem β}(h:ae P G L C τ k₀ R p q):
  ∀(w v:World) (es fs:Array Event) (a:α) (w1:World) (es1:Array Event),Sync L C τ k₀ N w v->p.runT (gp P G) w es=(.ok a w1,es1)->w1.heap.size<=N->
   (∀j q,w.drawn+j<w1.drawn->v.tape (v.drawn+j) q=w.tape (w.drawn+j) q)->(∀r s,τ.un r s->r<N)->
   ∃b v1 fs1,q.runT P v fs=(.ok b v1,fs1)/\R a b/\bV L C τ k₀ N w v w1 v1 es fs es1 fs1:=by
 have stores:∀{a b:Addr} {x y:Value},(AR τ.own a b/\VR L τ.all x y\/AR τ.box a b/\VR L τ.own x y)->∀{k:Sem α} {l:Sem β},
   (∀(w v:World) (es fs:Array Event) (a:α) (w1:World) (es1:Array Event),Sync L C τ k₀ N w v->k.runT (gp P G) w es=(.ok a w1,es1)->w1.heap.size<=N->
    (∀j q,w.drawn+j<w1.drawn->v.tape (v.drawn+j) q=w.tape (w.drawn+j) q)->(∀r s,τ.un r s->r<N)->∃b v1 fs1,l.runT P v fs=(.ok b v1,fs1)/\R a b/\bV L C τ k₀ N w v w1 v1 es fs es1 fs1)->
   ∀(w v:World) (es fs:Array Event) (r:α) (w1:World) (es1:Array Event),Sync L C τ k₀ N w v->(Sem.store .plain a x k).runT (gp P G) w es=(.ok r w1,es1)->w1.heap.size<=N->
    (∀j q,w.drawn+j<w1.drawn->v.tape (v.drawn+j) q=w.tape (w.drawn+j) q)->(∀r s,τ.un r s->r<N)->∃b' v1 fs1,(Sem.store .plain b y l).runT P v fs=(.ok b' v1,fs1)/\R r b'/\bV L C τ k₀ N w v w1 v1 es fs es1 fs1:=by
  intro a b x y hor k l ih w v es fs r w1 es1 hs hr hN ht hd;have hab:AR τ.all a b\/AR τ.box a b:=hor.imp (λh=>h.1.mono hb.own) (λh=>h.1);have hxy:VR L τ.all x y:=hor.elim (λh=>h.2) (λh=>h.2.mono hb.own);have hnt:(∀c,x≠.agg c)/\∀c,x≠.tuple c:=by
   constructor
   ·rintro c rfl;simp[Sem.runT]at hr
   ·rintro c rfl;simp[Sem.runT]at hr
  have hnt':(∀c,y≠.agg c)/\∀c,y≠.tuple c:=by
   cases hxy<;>first|exact absurd rfl (hnt.2 _)|exact absurd rfl (hnt.1 _)|exact⟨by assumption,by assumption⟩|exact⟨by simp,by simp⟩
  rw[Sem.runT.eq_5 _ _ _ _ _ _ _ hnt.1 hnt.2]at hr;cases hc:w.cell? a with
  |none=>
   obtain⟨hh,he⟩:=Ch (P:=gp P G) (L:=L) (τ:=τ) (x:=x) (hs.known (hab.imp (·.1) (·.1))) (Mode.plain==.atomic);rw[hc]at hr;simp only[he]at hr;cases hr
  |some y0=>
   rw[hc]at hr;obtain⟨hsp,cc,ee,ff,hblk,hcc⟩:=oM hc;have hal:a.block<w.heap.size:=(Array.getElem?_eq_some_iff.1 hblk).1;by_cases hfz:w.frozen? a=true
   ·simp only[hfz,QD]at hr;cases hr
   simp only[hfz,QF,QC]at hr;obtain⟨z,hz⟩: ∃z,v.cell? b=some z:=hab.elim (λh=>let ⟨z,hz,_⟩:=hs.cell h hc;⟨z,hz⟩) (λh=>let ⟨z,hz,_⟩:=hs.rJ h hc;⟨z,hz⟩);have hs1:Sync L C τ k₀ N (w.setCell a x) (v.setCell b y):=hor.elim (λh=>hs.stored hb h.1 hsp h.2) (λh=>hs.boxed hb h.1 hsp h.2);obtain⟨b',v1,fs1,e1,e2,e3⟩:=ih (w.setCell a x) (v.setCell b y) (es.push ⟨.cell a,true,false⟩) (fs.push ⟨.cell b,true,false⟩) r w1 es1 hs1 hr hN ht hd;refine⟨b',v1,fs1,?_,e2,?_⟩
   ·rw[Sem.runT.eq_5 _ _ _ _ _ _ _ hnt'.1 hnt'.2,hz];simp only[hs.frozen hab hal,hfz,QF,QC];exact e1
   ·refine bV.trans ?_ e3;exact⟨hs1,by simp[World.setCell],by simp[World.setCell],by simp[World.setCell],by simp[World.setCell],rfl,rfl,rfl,rfl,rfl,rfl,λs hl ha=>qt (hor.elim (λh=>.inl h.1.1) (λh=>.inr (.inl h.1.1))) ha,λt hl ha=>pW (hor.elim (λh=>.inl h.1.1) (λh=>.inr (.inl h.1.1))) ha,⟨#[(⟨.cell a,true,false⟩,⟨.cell b,true,false⟩)],by simp,by simp,by simp;exact .write (hor.elim (λh=>⟨.inl h.1.1,h.1.2⟩) (λh=>⟨.inr (.inl h.1.1),h.1.2⟩))⟩⟩
 induction h with
 |pure hR=>
  intro w v es fs a w1 es1 hs hr _ _ _;simp only[Sem.runT,QM,Result.ok.injEq]at hr;obtain⟨⟨rfl,rfl⟩,rfl⟩:=hr;exact⟨_,v,fs,rfl,hR,.refl hs⟩
 |@load a b k l hab _ ih=>
  intro w v es fs x w1 es1 hs hr hN ht hd;rw[Sem.runT]at hr;cases hc:w.cell? a with
  |none=>
   obtain⟨hh,he⟩:=BL (P:=gp P G) (L:=L) (τ:=τ) (hs.known (.inl hab.1)) (Mode.plain==.atomic);rw[hc]at hr;simp only[he]at hr;cases hr
  |some y=>
   rw[hc]at hr;obtain⟨z,hz,hyz⟩:=hs.cell hab hc;obtain⟨b',v1,fs1,e1,e2,e3⟩:=ih y z hyz w v (es.push ⟨.cell a,false,false⟩) (fs.push ⟨.cell b,false,false⟩) x w1 es1 hs hr hN ht hd;refine⟨b',v1,fs1,?_,e2,?_⟩
   ·rw[Sem.runT,hz];exact e1
   ·refine bV.trans ?_ e3;exact bV.ev hs (.cell ⟨.inl hab.1,hab.2⟩)
 |@l7 a b k l hab _ ih=>
  intro w v es fs x w1 es1 hs hr hN ht hd;rw[Sem.runT]at hr;cases hc:w.cell? a with
  |none=>
   obtain⟨hh,he⟩:=BL (P:=gp P G) (L:=L) (τ:=τ) (hs.known (.inr hab.1)) (Mode.plain==.atomic);rw[hc]at hr;simp only[he]at hr;cases hr
  |some y=>
   rw[hc]at hr;obtain⟨z,hz,hyz⟩:=hs.rJ hab hc;obtain⟨b',v1,fs1,e1,e2,e3⟩:=ih y z hyz w v (es.push ⟨.cell a,false,false⟩) (fs.push ⟨.cell b,false,false⟩) x w1 es1 hs hr hN ht hd;refine⟨b',v1,fs1,?_,e2,?_⟩
   ·rw[Sem.runT,hz];exact e1
   ·refine bV.trans ?_ e3;exact bV.ev hs (.cell ⟨.inr (.inl hab.1),hab.2⟩)
 |@store a b x y k l hab hxy _ ih=>exact stores (.inl ⟨hab,hxy⟩) ih
 |@lS a b x y k l hab hxy _ ih=>exact stores (.inr ⟨hab,hxy⟩) ih
 |@new o q k l hk ho _ ih=>
  intro w v es fs x w1 es1 hs hr hN ht hd;rw[Sem.runT]at hr;have hsz:w.heap.size<N:=by
   refine QL ?_ hN
   have:=(Sem.mh (gp P G) _ _ _ hr).1;simp only[Rr]at this;omega
  have hp:τ.own w.heap.size v.heap.size:=by have:=hs.next hsz;rw[hk]at this;exact this
  have hs1:=hs.push hb hsz (KR.kB hb (hb.own _ _ hp) ho);obtain⟨b',v1,fs1,e1,e2,e3⟩:=ih w.heap.size v.heap.size hp _ _ es fs x w1 es1 hs1 hr hN ht hd;refine⟨b',v1,fs1,by rw[Sem.runT];exact e1,e2,bV.trans ?_ e3⟩;refine⟨hs1,by simp;omega,by simp,rfl,AI _,rfl,rfl,rfl,rfl,rfl,rfl,λs hl ha=>by simp[Array.getElem?_push];omega,λs hl ha=>by simp[Array.getElem?_push];omega,#[],by simp,by simp,by simp⟩
 |@lR xs ys e f k l hk ho _ ih=>
  intro w v es fs x w1 es1 hs hr hN ht hd;rw[Sem.runT]at hr;have hsz:w.heap.size<N:=by
   refine QL ?_ hN
   have:=(Sem.mh (gp P G) _ _ _ hr).1;simp only[Rr]at this;omega
  have hp:τ.box w.heap.size v.heap.size:=by have:=hs.next hsz;rw[hk]at this;exact this
  have hs1:=hs.push hb hsz (KR.pX (e:=e) (f:=f) hb hp ho);obtain⟨b',v1,fs1,e1,e2,e3⟩:=ih w.heap.size v.heap.size hp _ _ es fs x w1 es1 hs1 hr hN ht hd;refine⟨b',v1,fs1,by rw[Sem.runT];exact e1,e2,bV.trans ?_ e3⟩;refine⟨hs1,by simp;omega,by simp,rfl,AI _,rfl,rfl,rfl,rfl,rfl,rfl,λs hl ha=>by simp[Array.getElem?_push];omega,λs hl ha=>by simp[Array.getElem?_push];omega,#[],by simp,by simp,by simp⟩
 |@lN o q k l hk ho _ ih=>
  intro w v es fs x w1 es1 hs hr hN ht hd;rw[Sem.runT]at hr;have hsz:w.heap.size<N:=by
   refine QL ?_ hN
   have:=(Sem.mh (gp P G) _ _ _ hr).1;simp only[Rr]at this;omega
  have hp:τ.lp w.heap.size v.heap.size:=by have:=hs.next hsz;rw[hk]at this;exact this
  have hs1:=hs.push hb hsz (KR.pf hb hp ho);obtain⟨b',v1,fs1,e1,e2,e3⟩:=ih w.heap.size v.heap.size hp _ _ es fs x w1 es1 hs1 hr hN ht hd;refine⟨b',v1,fs1,by rw[Sem.runT];exact e1,e2,bV.trans ?_ e3⟩;refine⟨hs1,by simp;omega,by simp,rfl,AI _,rfl,rfl,rfl,rfl,rfl,rfl,λs hl ha=>by simp[Array.getElem?_push];omega,λs hl ha=>by simp[Array.getElem?_push];omega,#[],by simp,by simp,by simp⟩
 |@lz r s k l hrs _ ih=>
  intro w v es fs x w1 es1 hs hr hN ht hd;rw[Sem.runT]at hr;cases hc:w.heap[r]? with
  |none=>rw[hc]at hr;cases hr
  |some o=>
   obtain⟨o',q,h1,h2,h3⟩:=hs.loops r s hrs (Array.getElem?_eq_some_iff.1 hc).1;rw[hc]at h1;cases h1;rw[hc]at hr;have h3':=h3;cases h3 with
   |_=>
    obtain⟨b',v1,fs1,e1,e2,e3⟩:=ih _ _ h3' w v (es.push ⟨.obj r,false,false⟩) (fs.push ⟨.obj s,false,false⟩) x w1 es1 hs hr hN ht hd;refine⟨b',v1,fs1,by rw[Sem.runT,h2];exact e1,e2,bV.trans ?_ e3⟩;exact bV.ev hs (.obj (ah.nE hrs))
 |@lh r s o q k l hrs ho _ ih=>
  intro w v es fs x w1 es1 hs hr hN ht hd;rw[Sem.runT]at hr;cases hc:w.heap[r]? with
  |none=>rw[hc]at hr;cases hr
  |some o0=>
   obtain⟨o',q0,h1,h2,h3⟩:=hs.loops r s hrs (Array.getElem?_eq_some_iff.1 hc).1;rw[hc]at h1;cases h1;rw[hc]at hr;have hch:o.isChan=false/\q.isChan=false:=by cases ho<;>exact⟨rfl,rfl⟩
   rw[ly,hch.1]at hr;have hs1:Sync L C τ k₀ N {w with heap:=w.heap.modify r λ_=>o} {v with heap:=v.heap.modify s λ_=>q}:=hs.turn hb (ah.nE hrs) λ_ _ _=>KR.pf hb hrs ho;cases h3 with
   |_=>
    obtain⟨b',v1,fs1,e1,e2,e3⟩:=ih _ _ (es.push ⟨.obj r,true,false⟩) (fs.push ⟨.obj s,true,false⟩) x w1 es1 hs1 hr hN ht hd;refine⟨b',v1,fs1,by rw[Sem.runT,h2,ly,hch.2];exact e1,e2,bV.trans ?_ e3⟩;exact⟨hs1,by simp,by simp,rfl,AI _,rfl,rfl,rfl,rfl,rfl,rfl,λt hl ha=>qt (.inr (.inr hrs)) ha,λt hl ha=>pW (.inr (.inr hrs)) ha,⟨#[(⟨.obj r,true,false⟩,⟨.obj s,true,false⟩)],by simp,by simp,by simp;exact .set (.inr (.inr hrs))⟩⟩
 |@shape r s k l hrs _ ih=>
  intro w v es fs x w1 es1 hs hr hN ht hd;rw[Sem.runT]at hr;by_cases hl:r<w.heap.size
  ·obtain⟨b',v1,fs1,e1,e2,e3⟩:=ih _ w v es fs x w1 es1 hs hr hN ht hd;exact⟨b',v1,fs1,by rw[Sem.runT,hs.shape hrs hl];exact e1,e2,e3⟩
  ·
   have hn:w.shape? r=none:=by unfold World.shape?;simp[Nat.le_of_not_lt hl]
   have hv:v.shape? s=none:=by
    have:=hs.later hb (.inl hrs) hl (hd _ _ (.inl hrs));unfold World.shape?;rw[Array.getElem?_eq_none (by omega)]
   rw[hn]at hr;obtain⟨b',v1,fs1,e1,e2,e3⟩:=ih _ w v es fs x w1 es1 hs hr hN ht hd;exact⟨b',v1,fs1,by rw[Sem.runT,hv];exact e1,e2,e3⟩
 |@freeze a b n k l hab _ ih=>
  intro w v es fs x w1 es1 hs hr hN ht hd;rw[Sem.runT]at hr;have hs1:Sync L C τ k₀ N (w.freeze a n) (v.freeze b n):=hs.froze hb hab n;have hf:∀(w:World) (a:Addr),(w.freeze a n).heap.size=w.heap.size/\(w.freeze a n).drawn=w.drawn/\(w.freeze a n).tape=w.tape/\(w.freeze a n).os=w.os/\(w.freeze a n).output=w.output:=λw a=>by
   unfold World.freeze;split<;>simp
  obtain⟨b',v1,fs1,e1,e2,e3⟩:=ih _ _ es fs x w1 es1 hs1 hr hN (by rw[(hf w a).2.1,(hf w a).2.2.1,(hf v b).2.1,(hf v b).2.2.1];exact ht) hd;refine⟨b',v1,fs1,by rw[Sem.runT];exact e1,e2,bV.trans ?_ e3⟩;refine⟨hs1,by rw[(hf w a).1,(hf v b).1],by rw[(hf w a).1];exact AI _,by rw[(hf w a).2.1,(hf v b).2.1],by rw[(hf w a).2.1];exact AI _,(hf v b).2.2.1,(hf v b).2.2.2.1,(hf v b).2.2.2.2,(hf w a).2.2.1,(hf w a).2.2.2.1,(hf w a).2.2.2.2,λs hl ha=>?_,λs hl ha=>?_,#[],by simp,by simp,by simp⟩
  ·unfold World.freeze;split
   ·rfl
   ·exact qt (.inl hab.1) ha
  ·unfold World.freeze;split
   ·rfl
   ·exact pW (.inl hab.1) ha
 |@frozen a b k l hab _ ih=>
  intro w v es fs x w1 es1 hs hr hN ht hd;rw[Sem.runT]at hr;by_cases hl:a.block<w.heap.size
  ·obtain⟨b',v1,fs1,e1,e2,e3⟩:=ih _ w v es fs x w1 es1 hs hr hN ht hd;exact⟨b',v1,fs1,by rw[Sem.runT,hs.frozen (.inl hab) hl];exact e1,e2,e3⟩
  ·have hn:w.frozen? a=false:=by unfold World.frozen?;simp[Nat.le_of_not_lt hl]
   have hv:v.frozen? b=false:=by
    have:=hs.later hb (.inl hab.1) hl (hd _ _ (.inl hab.1));unfold World.frozen?;rw[Array.getElem?_eq_none (by omega)]
   rw[hn]at hr;obtain⟨b',v1,fs1,e1,e2,e3⟩:=ih _ w v es fs x w1 es1 hs hr hN ht hd;exact⟨b',v1,fs1,by rw[Sem.runT,hv];exact e1,e2,e3⟩
 |@getObj r s k l hrs _ ih=>
  intro w v es fs x w1 es1 hs hr hN ht hd;rw[Sem.runT]at hr;cases hc:w.heap[r]? with
  |none=>rw[hc]at hr;cases hr
  |some o=>
   obtain⟨o',q,h1,h2,h3⟩:=hs.obj r s hrs (Array.getElem?_eq_some_iff.1 hc).1;rw[hc]at h1;cases h1;rw[hc]at hr;have hch:o.isChan=false/\q.isChan=false:=by cases h3<;>exact⟨rfl,rfl⟩
   have h3':=h3;cases h3 with
   |cells e f hx=>cases hr
   |_=>
    obtain⟨b',v1,fs1,e1,e2,e3⟩:=ih _ _ h3' w v (es.push ⟨.obj r,false,false⟩) (fs.push ⟨.obj s,false,false⟩) x w1 es1 hs hr hN ht hd;refine⟨b',v1,fs1,by rw[Sem.runT,h2];exact e1,e2,bV.trans ?_ e3⟩;exact bV.ev hs (.obj (.inl hrs))
 |@setObj r s o q k l hrs ho hnc _ ih=>
  intro w v es fs x w1 es1 hs hr hN ht hd;rw[Sem.runT]at hr;cases hc:w.heap[r]? with
  |none=>rw[hc]at hr;cases hr
  |some o0=>
   obtain⟨o',q0,h1,h2,h3⟩:=hs.obj r s (hb.own _ _ hrs) (Array.getElem?_eq_some_iff.1 hc).1;rw[hc]at h1;cases h1;rw[hc]at hr;have hch:o.isChan=false/\q.isChan=false:=by cases ho<;>exact⟨rfl,rfl⟩
   rw[ly,hch.1]at hr;have hs1:Sync L C τ k₀ N {w with heap:=w.heap.modify r λ_=>o} {v with heap:=v.heap.modify s λ_=>q}:=hs.turn hb (.inl (hb.own _ _ hrs)) λ_ _ _=>KR.kB hb (hb.own _ _ hrs) ho;cases h3 with
   |cells e f hx=>cases hr
   |_=>
    obtain⟨b',v1,fs1,e1,e2,e3⟩:=ih _ _ (es.push ⟨.obj r,true,false⟩) (fs.push ⟨.obj s,true,false⟩) x w1 es1 hs1 hr hN ht hd;refine⟨b',v1,fs1,by rw[Sem.runT,h2,ly,hch.2];exact e1,e2,bV.trans ?_ e3⟩;exact⟨hs1,by simp,by simp,rfl,AI _,rfl,rfl,rfl,rfl,rfl,rfl,λt hl ha=>qt (.inl hrs) ha,λt hl ha=>pW (.inl hrs) ha,⟨#[(⟨.obj r,true,false⟩,⟨.obj s,true,false⟩)],by simp,by simp,by simp;exact .set (.inl hrs)⟩⟩
 |@choose qq k l _ ih=>
  intro w v es fs x w1 es1 hs hr hN ht hd;rw[Sem.runT]at hr;by_cases hf:qq.forced=true
  ·simp only[hf,QD]at hr;obtain⟨b',v1,fs1,e1,e2,e3⟩:=ih 0 w v es fs x w1 es1 hs hr hN ht hd;exact⟨b',v1,fs1,by rw[Sem.runT];simp only[hf,QD];exact e1,e2,e3⟩
  ·simp only[hf,QF,QC]at hr;have hdr:=(Sem.mh (gp P G) _ _ _ hr).2;simp only at hdr;have htape:v.tape v.drawn qq=w.tape w.drawn qq:=by simpa using ht 0 qq (by omega)
   have hs1:Sync L C τ k₀ N {w with drawn:=w.drawn+1} {v with drawn:=v.drawn+1}:=⟨hs.held,hs.jU⟩
   obtain⟨b',v1,fs1,e1,e2,e3⟩:=ih _ _ _ es fs x w1 es1 hs1 hr hN (λj q hj=>by
    have:=ht (j+1) q (by simp only at hj;omega);simpa[Nat.add_assoc,Ry 1 j] using this) hd
   refine⟨b',v1,fs1,by rw[Sem.runT];simp only[hf,QF,QC,htape];exact e1,e2,bV.trans ?_ e3⟩;exact⟨hs1,rfl,AI _,by simp;omega,by simp,rfl,rfl,rfl,rfl,rfl,rfl,λ_ _ _=>rfl,λ_ _ _=>rfl,#[],by simp,by simp,by simp⟩
 |program _ ih=>
  intro w v es fs x w1 es1 hs hr hN ht hd;rw[Sem.runT]at hr;obtain⟨b',v1,fs1,e1,e2,e3⟩:=ih w v es fs x w1 es1 hs hr hN ht hd;exact⟨b',v1,fs1,by rw[Sem.runT];exact e1,e2,e3⟩
 |l5 _ ih=>
  intro w v es fs x w1 es1 hs hr hN ht hd;rw[Sem.runT]at hr;exact ih w v es fs x w1 es1 hs hr hN ht hd
 |noRoom _ ih=>
  intro w v es fs x w1 es1 hs hr hN ht hd;rw[Sem.runT]at hr;obtain⟨b',v1,fs1,e1,e2,e3⟩:=ih w v _ (fs.push ⟨.mark .noRoom,false,true⟩) x w1 es1 hs hr hN ht hd;refine⟨b',v1,fs1,by rw[Sem.runT];exact e1,e2,bV.trans ?_ e3⟩;exact bV.ev hs (.noRoom)
 |af qq hh=>
  intro w v es fs x w1 es1 hs hr hN ht hd;obtain⟨_,_,_,e,_,_⟩:=hh w es;rw[e]at hr;cases hr
end
end
end Go.Proofs.YtldmcdeibiclkaaGreat.U
