/-
  Toward all_holds
-/
import Derived.Calls
import Derived.Below
import Derived.KernelRfl
import GoSem.Step
import Derived.Conc.Events
set_option linter.all false
noncomputable section
set_option maxRecDepth 100000
set_option maxHeartbeats 20000000
namespace Go.Proofs
abbrev aa:=Array Value
abbrev ae:=List Value
abbrev af:=World
abbrev ag:=Value
abbrev ah:=ByteArray
abbrev ai:=Goroutine
abbrev aj:=Program
abbrev ak:=TypeId
abbrev al:=Frame
abbrev au:=FuncId
abbrev aw:=MapEntry
abbrev ax:=Operand
end Go.Proofs
namespace Go.Proofs
def AT:=@if_neg
def BY:=@if_pos
def IN:=@Array.getElem?_eq_some_iff
def IS:=@List.getElem_mem
def IT:=@Nat.le_trans
def No:=@Bool.and_eq_true
def OF:=@ByteArray.size_append
def aaQ:=@beq_eq_false_iff_ne
def aaW:=@List.mem_map
def aaX:=@Option.some.injEq
def aaZ:=@Nat.zero_le
def aba:=@Nat.le_refl
def abb:=@decide_eq_true_eq
def abc:=@Nat.lt_of_lt_of_le
def abd:=@if_false
def abe:=@List.length_map
def abf:=@Bool.false_eq_true
def abi:=@List.length_cons
def abj:=@if_true
def abk:=@List.mem_cons
def abo:=@List.length_append
def abr:=@List.mem_append
def abt:=@beq_iff_eq
def abu:=@List.mem_singleton
def abv:=@List.map_cons
def abw:=@Nat.lt_or_ge
def abx:=@Prod.mk.injEq
def aby:=@Bool.not_eq_true
def abA:=@Array.getElem?_setIfInBounds_ne
def abB:=@List.pairwise_cons
def abC:=@decide_eq_false
def abD:=@Option.map_eq_some_iff
def abE:=@List.take_succ_eq_append_getElem
def abF:=@List.take_length
def abG:=@List.getElem?_eq_getElem
def abI:=@Array.getElem?_eq_getElem
def abJ:=@decide_eq_true
def abK:=@List.all_eq_true
def abL:=@Array.append_empty
def abM:=@List.length_nil
def abN:=@Option.bind_eq_some_iff
def abO:=@List.mem_flatMap
def abQ:=@List.getElem?_take
def abR:=@Array.getElem?_modify
def abS:=@Bool.or_eq_true
def abT:=@List.cons_append
def abU:=@List.append_nil
def abV:=@List.length_filter_le
def abX:=@Array.getElem?_map
def abZ:=@List.map_append
def aca:=@Option.map_some
def acb:=@and_true
def acd:=@Array.getD_eq_getD_getElem?
def ace:=@List.mem_range
def acf:=@Nat.not_lt_zero
def acg:=@Bool.not_eq_false
def ach:=@List.pairwise_append
def aci:=@List.map_congr_left
def acj:=@ByteArray.ext
def ack:=@List.cons.injEq
def acm:=@Array.ext
def acn:=@List.flatMap_cons
def aco:=@Classical.byContradiction
def acp:=@Array.empty_append
def acr:=@List.pairwise_iff_getElem
def acs:=@List.pairwise_map
def acu:=@List.flatMap_append
def acv:=@List.foldl_append
def acw:=@List.mem_filter
def acx:=@Array.mem_of_getElem?
def acy:=@Option.some.inj
def acz:=@Array.getElem?_setIfInBounds
def acA:=@decide_eq_false_iff_not
def acB:=@Array.getElem?_setIfInBounds_self_of_lt
def acD:=@Bool.or_eq_false_iff
def acE:=@List.map_map
def acF:=@Array.mem_map
def acG:=@List.append_cancel_right
def acH:=@Array.all_eq_true'
def acJ:=@List.foldl_cons
def acK:=@List.take_of_length_le
def acL:=@Nat.eq_zero_or_pos
def acM:=@Option.bind_eq_bind
def acN:=@List.length_take
def acO:=@ByteArray.size_extract
def acP:=@List.eq_nil_of_length_eq_zero
def acQ:=@List.length_singleton
def acR:=@Nat.pow_succ
def acU:=@Bool.eq_iff_iff
def acV:=@Nat.add_comm
def acW:=@Array.size_setIfInBounds
def acX:=@Option.pure_def
def acZ:=@List.getElem_of_mem
def ada:=@List.getElem?_map
def adb:=@List.sum_cons
def ade:=@List.length_take_le
def adf:=@Option.bind_some
def adg:=@List.getElem?_append_right
def adh:=@List.ext_getElem?
def adi:=@List.getElem?_eq_none
def adj:=@Array.mem_iff_getElem
def adm:=@List.take_append_drop
def ado:=@List.take_zero
def adp:=@List.mem_toArray
def adq:=@List.mem_map_of_mem
def adt:=@List.Pairwise.filter
def adw:=@Int.emod_eq_of_lt
end Go.Proofs
section
inductive Go.Proofs.Zq
 |z
def Go.Value.i(_:Int):=Go.Proofs.Zq.z
def Go.Value.p(_:Nat):=Go.Proofs.Zq.z
def Go.Value.s(_:ByteArray):=Go.Proofs.Zq.z
def Go.Value.l(_ _ _:Nat):=Go.Proofs.Zq.z
def Go.Addr.a(_ _:Nat):=Go.Proofs.Zq.z
def Go.Ending.r(_:Go.Value):=Go.Proofs.Zq.z
def Option.i(_:Int):=Go.Proofs.Zq.z
def Option.p(_:Nat):=Go.Proofs.Zq.z
def Option.s(_:ByteArray):=Go.Proofs.Zq.z
def Option.l(_ _ _:Nat):=Go.Proofs.Zq.z
def Option.a(_ _:Nat):=Go.Proofs.Zq.z
def Option.c(_:Array Go.Value)(_:Nat):=Go.Proofs.Zq.z
def Array.k(_:Nat->Int):=Go.Proofs.Zq.z
def Array.q(_:ByteArray)(_:Nat->Int)(_:Go.Value):=Go.Proofs.Zq.z
namespace Go.Proofs
instance (x):CoeDep Zq (Value.i x) Value:=⟨.int .i64 x⟩
instance (x):CoeDep Zq (Value.p x) Value:=⟨.pointer (some ⟨x,0,none⟩)⟩
instance (x):CoeDep Zq (Value.s x) Value:=⟨.string x⟩
instance (x n c):CoeDep Zq (Value.l x n c) Value:=⟨.slice (some ⟨x,0,none⟩) n c⟩
instance (x y):CoeDep Zq (Addr.a x y) Addr:=⟨⟨x,y,none⟩⟩
instance (v):CoeDep Zq (Ending.r v) Ending:=⟨.returned v⟩
instance (x):CoeDep Zq (Option.i x) (Option ag):=⟨some (.int .i64 x)⟩
instance (x):CoeDep Zq (Option.p x) (Option ag):=⟨some (.pointer (some ⟨x,0,none⟩))⟩
instance (x):CoeDep Zq (Option.s x) (Option ag):=⟨some (.string x)⟩
instance (x n c):CoeDep Zq (Option.l x n c) (Option ag):=⟨some (.slice (some ⟨x,0,none⟩) n c)⟩
instance (x y):CoeDep Zq (Option.a x y) (Option Addr):=⟨some ⟨x,y,none⟩⟩
instance (x t):CoeDep Zq (Option.c x t) (Option Obj):=⟨some (.cells x t)⟩
instance (c):CoeDep Zq (Array.k c) (aa):=⟨#[.int .i64 (c 0),.int .i64 (c 1),.int .i64 (c 2),.int .i64 (c 3)]⟩
instance (x c v):CoeDep Zq (Array.q x c v) (aa):=⟨#[.string x,.int .i64 (c 0),.int .i64 (c 1),.int .i64 (c 2),.int .i64 (c 3),v]⟩
instance:Coe af Nat:=⟨λw=>w.heap.size⟩
theorem zo{p:Prop}(h:p:=by omega):p:=h
theorem zd{p:Prop}(h:p:=by decide):p:=h
theorem zp{p:Prop}(h:p:=by simp):p:=h
theorem zt{p:Prop}(h:p:=by simp;omega):p:=h
theorem zg{p:Prop}(h:p:=by grind):p:=h
theorem zk{p:Prop}(h:p:=by kernel_rfl):p:=h
theorem zl{p:Prop}(h:p:=by intro;kernel_rfl):p:=h
theorem ze{p:Prop}(h:p:=by unfold maxLen;omega):p:=h
theorem zv{p:Prop}(h:p:=by simp[Value.oneCell']):p:=h
theorem zi{p:Prop}(h:p:=by simp[intOf];omega):p:=h
theorem zh{p:Prop}(h:p:=by rw[hmt];rfl):p:=h
theorem zx{p:Prop}(h:p:=by rw[hσ];rfl):p:=h
theorem zy{p:Prop}(h:p:=by rw[hmt];exact⟨rfl,rfl,rfl⟩):p:=h
theorem zw{p:Prop}(h:p:=by rw[hmt];exact⟨λ_=>rfl,rfl,rfl,rfl,rfl,rfl,rfl,rfl,rfl,(λ_ _ _ _ hx=>by cases hx),(λ_ _ hx=>by cases hx)⟩):p:=h
theorem zu{p:Prop}(h:p):RowKit.Hid p:=h
theorem zf{n:Nat}:n<=n:=aba _
theorem zj{n:Nat}{w:af}:RowKit.Below n w w:=RowKit.Below.refl _ _
theorem zc{p:Prop}(h:p:=by nofun):p:=h
end Go.Proofs
end
namespace Go.Proofs.YtldmcdeibiclkaaGreat.U
variable {w v w1 w2 v1:af}{b:Addr}{x y:ag}{o:Obj}{ρ:Nat->Nat->Prop}{es fs:Array Event}{g:Obj->Obj}{h:Halt}{γ δ:Type}{e:ak}{f:Nat×Nat}{t:Nat}
section
def gp(P:aj)(G:Array Func):Program:={P with funcs:=G}
section
variable (P:aj) (G:Array Func)
def ED(t:ak):(gp P G).info? t=P.info? t:=rfl
def Js(t:ak):(gp P G).underlying t=P.underlying t:=rfl
def DI(t:ak):(gp P G).cellsOf t=P.cellsOf t:=rfl
def VX(t:ak):(gp P G).bytesOf t=P.bytesOf t:=rfl
def A8:(gp P G).depth=P.depth:=rfl
def JV:(gp P G).globals=P.globals:=rfl
def IP:(gp P G).funcs=G:=rfl
theorem Bo:∀(d:Nat) (t:ak) (a:Nat),byteOfCell (gp P G) d t a=byteOfCell P d t a
 |0,_,_=>rfl
 |d+1,t,a=>by
  unfold byteOfCell;simp only[Bo d];rfl
theorem J5:∀(d:Nat) (t:ak) (a:Nat),cellOfByte (gp P G) d t a=cellOfByte P d t a
 |0,_,_=>rfl
 |d+1,t,a=>by
  unfold cellOfByte;simp only[J5 d];rfl
theorem Qt(d:Nat)(e:ak)(c o:Nat)(b:Int):cellAtBytes (gp P G) d e c o b=cellAtBytes P d e c o b:=by
 unfold cellAtBytes;simp only[Bo,J5];rfl
theorem DF:∀(n:Nat) (t u:ak),(gp P G).alikeButTags n t u=P.alikeButTags n t u
 |0,_,_=>rfl
 |n+1,t,u=>by
  unfold Program.alikeButTags;simp only[DF n];rfl
theorem L0(t:ak):(gp P G).stoodInAs t=P.stoodInAs t:=by
 unfold Program.stoodInAs;simp only[DF];rfl
theorem BM(t:ak):(gp P G).stoodInHeld t=P.stoodInHeld t:=by
 unfold Program.stoodInHeld;simp only[L0];rfl
theorem Fp:∀(d:Nat) (t u:ak),sameLayout (gp P G) d t u=sameLayout P d t u
 |0,_,_=>rfl
 |d+1,t,u=>by
  unfold sameLayout;simp only[Fp d,BM];rfl
theorem CH(fits:ak->Bool):∀(d:Nat) (e:ak) (c o n:Nat),rowAt (gp P G) fits d e c o n=rowAt P fits d e c o n
 |0,_,_,_,_=>rfl
 |d+1,e,c,o,n=>by
  unfold rowAt;simp only[CH fits d,BM];rfl
theorem I2:∀(d:Nat) (e:ak) (c o:Nat) (u:ak) (n:Nat),liesAt (gp P G) d e c o u n=liesAt P d e c o u n
 |0,_,_,_,_,_=>rfl
 |d+1,e,c,o,u,n=>by
  unfold liesAt;have hs:(λx=>sameLayout (gp P G) (gp P G).depth x u)=λx=>sameLayout P P.depth x u:=funext λx=>Fp P G _ x u;simp only[I2 d,CH,hs];rfl
theorem xg:∀(d:Nat) (t:ak),(gp P G).eqGuardType d t=P.eqGuardType d t
 |0,_=>rfl
 |d+1,t=>by
  unfold Program.eqGuardType;simp only[xg d];rfl
end
end
section
def AR(π:Nat->Nat->Prop)(a b:Addr):Prop:=π a.block b.block/\b.off=a.off/\b.spot=a.spot
inductive cy where
 |any|own|box
 |kF|eT
 |loc
 deriving DecidableEq
inductive Kd where
 |own|box|lp
 deriving DecidableEq
structure aR where
 fn:au->Prop
 gH:au->Prop
 eT:au->Prop
 loc:au->Prop
 bL:String->ag
 dC:au->Nat->cy
 res:au->cy
 ar:au->Option Nat
structure aJ where
 all:Nat->Nat->Prop
 own:Nat->Nat->Prop
 box:Nat->Nat->Prop
 lp:Nat->Nat->Prop
def aJ.un(τ:aJ)(r s:Nat):Prop:=τ.all r s\/τ.box r s\/τ.lp r s
def aJ.kd(τ:aJ):Kd->Nat->Nat->Prop
 |.own=>τ.own
 |.box=>τ.box
 |.lp=>τ.lp
structure gU(τ:aJ):Prop where
 own:∀r s,τ.own r s->τ.all r s
 two:∀r s t,τ.all r s->τ.box r t->False
 oZ:∀r s t,τ.all r s->τ.lp r t->False
 pP:∀r s t,τ.box r s->τ.lp r t->False
def j8(s:String):Value:=.func (.method s) #[.nilIface] #[]
inductive VR (L:aR) (π:Nat->Nat->Prop):ag->ag->Prop
 |bL (s:String):(∀c,L.bL s≠.agg c)->(∀c,L.bL s≠.tuple c)->(∀b,L.bL s≠.bool b)->VR L π (.func (.method s) #[.nilIface] #[]) (L.bL s)
 |bool (b:Bool):VR L π (.bool b) (.bool b)
 |int (k:IntKind) (n:Int):VR L π (.int k n) (.int k n)
 |string (s:ah):VR L π (.s s) (.s s)
 |bZ:VR L π (.pointer none) (.pointer none)
 |ptr {a b:Addr}:AR π a b->VR L π (.pointer (some a)) (.pointer (some b))
 |jx (n c:Nat):VR L π (.slice none n c) (.slice none n c)
 |slice {a b:Addr} (n c:Nat):AR π a b->VR L π (.slice (some a) n c) (.slice (some b) n c)
 |mD:VR L π (.map none) (.map none)
 |sE:VR L π (.chan none) (.chan none)
 |map {r s:Nat}:π r s->VR L π (.map (some r)) (.map (some s))
 |func {f:au} (xs ys:Array (ag×ag)):L.gH f->(∀z∈xs,VR L π z.1 z.2)->(∀z∈ys,VR L π z.1 z.2)->
   VR L π (.func (.func f) (xs.map (·.1)) (ys.map (·.1))) (.func (.func f) (xs.map (·.2)) (ys.map (·.2)))
 |nilFunc:VR L π .nilFunc .nilFunc
 |iface (t:ak) {v w:ag}:VR L π v w->VR L π (.iface t v) (.iface t w)
 |nilIface:VR L π .nilIface .nilIface
 |agg (xs:Array (ag×ag)):(∀z∈xs,VR L π z.1 z.2)->VR L π (.agg (xs.map (·.1))) (.agg (xs.map (·.2)))
 |tuple (xs:Array (ag×ag)):(∀z∈xs,VR L π z.1 z.2)->VR L π (.tuple (xs.map (·.1))) (.tuple (xs.map (·.2)))
def XR{α β:Type}(R:α->β->Prop)(xs:Array α)(ys:Array β):Prop:=∃zs:Array (α×β),xs=zs.map (·.1)/\ys=zs.map (·.2)/\∀z∈zs,R z.1 z.2
def ER(L:aR)(π:Nat->Nat->Prop)(e f:aw):Prop:=VR L π e.key f.key/\VR L π e.val f.val/\f.born=e.born
def NR(π:Nat->Nat->Prop):Option Nat->Option Nat->Prop
 |none,none=>True
 |some r,some s=>π r s
 |_,_=>False
def qt(L:aR)(p:au->Prop)(n:Nat)(τ:aJ)(v w:ag):Prop:=
 (v=.tuple #[]/\w=.tuple #[])\/(v=.nilFunc/\w=.nilFunc)\/∃f xs ys,v=.func (.func f) #[] xs/\w=.func (.func f) #[] ys/\p f/\XR (VR L τ.all) xs ys/\xs.size<=n
def CR(L:aR)(τ:aJ):cy->ag->ag->Prop
 |.any,v,w=>VR L τ.all v w
 |.own,v,w=>VR L τ.own v w
 |.box,v,w=>VR L τ.box v w
 |.kF,v,w=>(v=.tuple #[]/\w=.tuple #[])\/∃l m,v=.func (.yield l) #[] #[]/\w=.func (.yield m) #[] #[]/\τ.lp l m
 |.eT,v,w=>qt L L.eT 1 τ v w
 |.loc,v,w=>qt L L.loc 2 τ v w
def TR(L:aR)(τ:aJ)(f:au)(xs ys:aa):Prop:=ys.size=xs.size/\∀(i:Nat) x y,xs[i]?=some x->ys[i]?=some y->CR L τ (L.dC f i) x y
inductive OR (L:aR) (τ:aJ):Obj->Obj->Prop
 |cells {xs ys:aa} (e:ak) (f:Nat×Nat):XR (VR L τ.all) xs ys->OR L τ (.cells xs e f) (.cells ys e f)
 |map {xs ys:Array aw} (c:Nat):XR (ER L τ.all) xs ys->OR L τ (.map xs c) (.map ys c)
 |stringIter (s:ah) (p:Nat):OR L τ (.stringIter s p) (.stringIter s p)
 |mapIter {r s:Option Nat} (since:Nat) (seen:Array Nat) (st:Nat):NR τ.all r s->OR L τ (.mapIter r since seen st) (.mapIter s since seen st)
 |number {a b:Addr} (lost:Bool):AR τ.all a b->OR L τ (.number a lost) (.number b lost)
def Jump(c:Code):Prop:=c=.ret\/∃id,c=.exit id
inductive gR (L:aR) (C:au->Code->Prop) (τ:aJ):Obj->Obj->Prop
 |loop {k l:Loop}:l.state=k.state->l.pending=k.pending->l.fn=k.fn->TR L τ k.fn k.tmps l.tmps->l.params=k.params->l.assign=k.assign->l.body=k.body->τ.lp k.defers l.defers->
   C k.fn k.assign->C k.fn k.body->(∀c,k.pending=some c->Jump c)->L.fn k.fn->(∀p∈k.params,L.dC k.fn p=.any)->gR L C τ (.loop k) (.loop l)
 |deferred {d:Option (List Deferred)}:(d=none\/d=some [])->gR L C τ (.deferred d) (.deferred d)
def J9(o:Obj):Prop:=∀c e f,o≠.cells c e f
def nI:Halt->Prop
 |.panic _|.stuck _|.unsupported _=>True
 |_=>False
def oJ(w w1:af):Prop:=∀(r:Nat) d,w1.heap[r]?=some (.deferred d)->w.heap[r]?=some (.deferred d)
def oJ.refl(w:af):oJ w w:=λ_ _ h=>h
def oJ.trans(h:oJ w w1)(k:oJ w1 w2):oJ w w2:=λr d e=>h r d (k r d e)
def aM(P:aj){α:Type}(p:Sem α):Prop:=∀w es,∃h w1 es1,p.runT P w es=(.halt h w1,es1)/\nI h/\oJ w w1
def bD(P:aj){α:Type}(p:Sem α):Prop:=∀w es,(∃a w1 es1,p.runT P w es=(.ok a w1,es1)/\oJ w w1)\/(∃h w1 es1,p.runT P w es=(.halt h w1,es1)/\nI h/\oJ w w1)
section
variable {P:aj}{α β:Type}
def aM.mN{p:Sem α}(h:aM P p):bD P p:=λw es=>.inr (h w es)
def bD.pure(a:α):bD P (Pure.pure a:Sem α):=λw es=>.inl ⟨a,w,es,rfl,.refl w⟩
theorem bD.bind{p:Sem α}{f:α->Sem β}(h:bD P p)(k:∀a,bD P (f a)):bD P (p >>=f):=λw es=>by
 rcases h w es with⟨a,w1,es1,e,i⟩|⟨j,w1,es1,e,l,i⟩
 .rcases k a w1 es1 with⟨b,w2,c,m,d⟩|⟨j,w2,c,m,l,d⟩
  .refine .inl ⟨b,w2,c,?_,i.trans d⟩;simp_all
  .refine .inr ⟨j,w2,c,?_,l,i.trans d⟩;simp_all
 .refine .inr ⟨j,w1,es1,?_,l,i⟩;simp_all
theorem bD.ite{c:Prop}[Decidable c]{p q:Sem α}(h:bD P p)(k:bD P q):bD P (if c then p else q):=by split<;>assumption
theorem bD.choose(q:Question):bD P (Go.choose q):=λw es=>by
 refine .inl ?_;unfold Go.choose;by_cases a:q.forced=true
 .exact⟨0,w,es,by simp only[Sem.runT,a,abj],.refl w⟩
 .exact⟨q.cut (w.tape w.drawn q),{w with drawn:=w.drawn+1},es,by simp only[Sem.runT,a,abf,abd],λ_ _ h=>h⟩
def bD.program:bD P Go.program:=λw es=>.inl ⟨P,w,es,rfl,.refl w⟩
def bD.shape(r:Nat):bD P (Go.shape r):=λw es=>.inl ⟨_,w,es,rfl,.refl w⟩
def bD.frozen(a:Addr):bD P (Go.frozen a):=λw es=>.inl ⟨_,w,es,rfl,.refl w⟩
def bD.mark(m:Mark):bD P (Go.mark m):=λw _=>.inl ⟨(),w,_,rfl,.refl w⟩
theorem bD.Qn(c:aa)(e:ak):bD P (newObj (.cells c e)):=λw es=>.inl ⟨_,{w with heap:=w.heap.push (.cells c e)},es,rfl,λr d h=>by
 grind⟩
theorem aM.bind{p:Sem α}{f:α->Sem β}(h:aM P p):aM P (p.bind f):=λw es=>by
 obtain⟨a,w1,es1,e,c,d⟩:=h w es;exact⟨a,w1,es1,by rw[Sem.runT_bind',e],c,d⟩
def aM.bind'{p:Sem α}{f:α->Sem β}(h:aM P p):aM P (p >>=f):=h.bind
theorem aM.then{p:Sem α}{f:α->Sem β}(l:bD P p)(h:∀a,aM P (f a)):aM P (p >>=f):=λw es=>by
 rcases l w es with⟨a,w1,es1,e,c⟩|⟨d,w1,es1,e,i,c⟩
 .obtain⟨d,w2,j,m,i,k⟩:=h a w1 es1;refine⟨d,w2,j,?_,i,c.trans k⟩;simp_all
 .refine⟨d,w1,es1,?_,i,c⟩;simp_all
def aM.halt(a:nI h):aM P (.halt h:Sem α):=λw es=>⟨h,w,es,rfl,a,.refl w⟩
def aM.stuck(s:String):aM P (Go.stuck s:Sem α):=aM.halt trivial
def aM.unsupported(u:Unsupported):aM P (Go.unsupported u:Sem α):=aM.halt trivial
def aM.goPanic(v:ag):aM P (Go.goPanic v:Sem α):=aM.halt trivial
theorem bD.typeInfo(t:ak):bD P (Go.typeInfo t):=by
 unfold Go.typeInfo;refine bD.bind .program λp=>?_;split
 .exact .pure _
 .exact (aM.stuck _).mN
theorem bD.underlying(t:ak):bD P (Go.underlying t):=by
 unfold Go.underlying;refine bD.bind .program λp=>?_;split
 .exact .pure _
 .exact (aM.stuck _).mN
theorem bD.elemOf(t:ak):bD P (Go.elemOf t):=by
 unfold Go.elemOf;refine bD.bind (.underlying t) λd=>?_;split
 .exact .pure _
 .exact (aM.stuck _).mN
theorem bD.typeStr(t:ak):bD P (Go.typeStr t):=by
 unfold Go.typeStr;refine bD.bind (.typeInfo t) λd=>?_;dsimp only;split
 .exact (aM.unsupported _).mN
 .exact .pure _
def bD.newVar(t:ak)(v:ag):bD P (Go.newVar t v):=bD.bind (.Qn _ _) λ_=>.pure _
theorem bD.asIntOf(v:ag):bD P (Go.asIntOf v):=by
 cases v with
 |int=>exact .pure _
 |pointer p=>cases p<;>first|exact(aM.stuck _).mN|exact(aM.unsupported _).mN
 |_=>exact(aM.stuck _).mN
def bD.asInt(v:ag):bD P (Go.asInt v):=bD.bind (.asIntOf v) λ_=>.pure _
theorem aM.runtimePanic(e:RuntimeError):aM P (Go.runtimePanic e:Sem α):=by
 unfold Go.runtimePanic;refine aM.then .program λp=>?_;cases e with
 |typeAssertion i c a m=>exact aM.then (.elemOf _) λ_=>aM.then (.newVar _ _) λ_=>aM.goPanic _
 |panicNil=>exact aM.then (.elemOf _) λ_=>aM.then (.newVar _ _) λ_=>aM.goPanic _
 |_=>exact aM.goPanic _
theorem aM.boundsPanic(k:IntKind)(x y:Int)(c:BoundsCode):aM P (Go.boundsPanic k x y c:Sem α):=by
 unfold Go.boundsPanic;dsimp only;split
 .exact aM.then (bD.bind (.choose _) λ_=>.pure _) λ_=>aM.runtimePanic _
 .exact aM.then (.pure _) λ_=>aM.runtimePanic _
theorem bD.sliceBound(v:ag)(y:Nat)(c:BoundsCode):bD P (Instr.sliceBound v y c):=by
 unfold Instr.sliceBound;refine bD.bind (.asIntOf v) λx=>?_;obtain⟨k,i⟩:=x;dsimp only;exact bD.ite (.pure _) (aM.boundsPanic _ _ _ _).mN
end
inductive aD (P:aj) (G:Array Func) (L:aR) (C:au->Code->Prop) (τ:aJ) (k₀:Kd) {α β:Type} (R:α->β->Prop):Sem α->Sem β->Prop
 |pure {a:α} {b:β}:R a b->aD P G L C τ k₀ R (.pure a) (.pure b)
 |load {a b:Addr} {k:ag->Sem α} {l:ag->Sem β}:AR τ.all a b->(∀v w,VR L τ.all v w->aD P G L C τ k₀ R (k v) (l w))->aD P G L C τ k₀ R (.load .plain a k) (.load .plain b l)
 |qk {a b:Addr} {k:ag->Sem α} {l:ag->Sem β}:AR τ.box a b->(∀v w,VR L τ.own v w->aD P G L C τ k₀ R (k v) (l w))->aD P G L C τ k₀ R (.load .plain a k) (.load .plain b l)
 |store {a b:Addr} {v w:ag} {k:Sem α} {l:Sem β}:AR τ.own a b->VR L τ.all v w->aD P G L C τ k₀ R k l->aD P G L C τ k₀ R (.store .plain a v k) (.store .plain b w l)
 |qY {a b:Addr} {v w:ag} {k:Sem α} {l:Sem β}:AR τ.box a b->VR L τ.own v w->aD P G L C τ k₀ R k l->aD P G L C τ k₀ R (.store .plain a v k) (.store .plain b w l)
 |new {o q:Obj} {k:Nat->Sem α} {l:Nat->Sem β}:k₀=.own->OR L τ o q->(∀r s,τ.own r s->aD P G L C τ k₀ R (k r) (l s))->aD P G L C τ k₀ R (.new o k) (.new q l)
 |rh {xs ys:aa} (e:ak) (f:Nat×Nat) {k:Nat->Sem α} {l:Nat->Sem β}:k₀=.box->XR (VR L τ.own) xs ys->(∀r s,τ.box r s->aD P G L C τ k₀ R (k r) (l s))->aD P G L C τ k₀ R (.new (.cells xs e f) k) (.new (.cells ys e f) l)
 |qP {o q:Obj} {k:Nat->Sem α} {l:Nat->Sem β}:k₀=.lp->gR L C τ o q->(∀r s,τ.lp r s->aD P G L C τ k₀ R (k r) (l s))->aD P G L C τ k₀ R (.new o k) (.new q l)
 |qe {r s:Nat} {k:Obj->Sem α} {l:Obj->Sem β}:τ.lp r s->(∀o q,gR L C τ o q->aD P G L C τ k₀ R (k o) (l q))->aD P G L C τ k₀ R (.getObj r k) (.getObj s l)
 |qw {r s:Nat} {o q:Obj} {k:Sem α} {l:Sem β}:τ.lp r s->gR L C τ o q->aD P G L C τ k₀ R k l->aD P G L C τ k₀ R (.setObj r o k) (.setObj s q l)
 |shape {r s:Nat} {k:Option (ak×Nat)->Sem α} {l:Option (ak×Nat)->Sem β}:τ.all r s->(∀x,aD P G L C τ k₀ R (k x) (l x))->aD P G L C τ k₀ R (.shape r k) (.shape s l)
 |freeze {a b:Addr} (n:Nat) {k:Sem α} {l:Sem β}:AR τ.own a b->aD P G L C τ k₀ R k l->aD P G L C τ k₀ R (.freeze a n k) (.freeze b n l)
 |frozen {a b:Addr} {k:Bool->Sem α} {l:Bool->Sem β}:AR τ.all a b->(∀x,aD P G L C τ k₀ R (k x) (l x))->aD P G L C τ k₀ R (.frozen a k) (.frozen b l)
 |getObj {r s:Nat} {k:Obj->Sem α} {l:Obj->Sem β}:τ.all r s->(∀o q,OR L τ o q->aD P G L C τ k₀ R (k o) (l q))->aD P G L C τ k₀ R (.getObj r k) (.getObj s l)
 |setObj {r s:Nat} {o q:Obj} {k:Sem α} {l:Sem β}:τ.own r s->OR L τ o q->J9 o->aD P G L C τ k₀ R k l->aD P G L C τ k₀ R (.setObj r o k) (.setObj s q l)
 |choose (q:Question) {k:Nat->Sem α} {l:Nat->Sem β}:(∀n,aD P G L C τ k₀ R (k n) (l n))->aD P G L C τ k₀ R (.choose q k) (.choose q l)
 |program {k:aj->Sem α} {l:aj->Sem β}:aD P G L C τ k₀ R (k (gp P G)) (l P)->aD P G L C τ k₀ R (.program k) (.program l)
 |qH {k:aj->Sem α} {q:Sem β}:aD P G L C τ k₀ R (k (gp P G)) q->aD P G L C τ k₀ R (.program k) q
 |noRoom {k:Sem α} {l:Sem β}:aD P G L C τ k₀ R k l->aD P G L C τ k₀ R (.mark .noRoom k) (.mark .noRoom l)
 |aE {p:Sem α} (q:Sem β):aM (gp P G) p->aD P G L C τ k₀ R p q
theorem aD.aa{P:aj}{G:Array Func}{L:aR}{C:au->Code->Prop}{τ:aJ}{k₀:Kd}{α β:Type}{R:α->β->Prop}{q:Sem β}(a:nI h:=by trivial):aD P G L C τ k₀ R (.halt h) q:=.aE _ (aM.halt a)
section
variable {P:aj}{G:Array Func}{L:aR}{C:au->Code->Prop}{π:Nat->Nat->Prop}{τ υ:aJ}{k₀:Kd}
theorem aD.bind{α β:Type}{R:α->β->Prop}{S:γ->δ->Prop}{p:Sem α}{q:Sem β}{f:α->Sem γ}{g:β->Sem δ}(h:aD P G L C τ k₀ R p q)(k:∀a b,R a b->aD P G L C τ k₀ S (f a) (g b)):aD P G L C τ k₀ S (p.bind f) (q.bind g):=by
 induction h with
 |pure h=>exact k _ _ h
 |load h _ c=>exact .load h λv w hv=>c v w hv
 |qk h _ c=>exact .qk h λv w hv=>c v w hv
 |store h hv _ c=>exact .store h hv c
 |qY h hv _ c=>exact .qY h hv c
 |new i h _ c=>exact .new i h λr s j=>c r s j
 |rh e f i h _ c=>exact .rh e f i h λr s j=>c r s j
 |qP i h _ c=>exact .qP i h λr s j=>c r s j
 |qe h _ c=>exact .qe h λo q d=>c o q d
 |qw h d _ c=>exact .qw h d c
 |shape h _ c=>exact .shape h λx=>c x
 |freeze n h _ c=>exact .freeze n h c
 |frozen h _ c=>exact .frozen h λx=>c x
 |getObj h _ c=>exact .getObj h λo q d=>c o q d
 |setObj h d l _ c=>exact .setObj h d l c
 |choose q _ c=>exact .choose q λn=>c n
 |program _ c=>exact .program c
 |qH _ c=>exact .qH c
 |noRoom _ c=>exact .noRoom c
 |aE q h=>exact .aE _ h.bind
def aD.bind'{α β:Type}{R:α->β->Prop}{S:γ->δ->Prop}{p:Sem α}{q:Sem β}{f:α->Sem γ}{g:β->Sem δ}(h:aD P G L C τ k₀ R p q)(c:∀a b,R a b->aD P G L C τ k₀ S (f a) (g b)):aD P G L C τ k₀ S (p >>=f) (q >>=g):=aD.bind h c
theorem aD.mono{α β:Type}{R S:α->β->Prop}{p:Sem α}{q:Sem β}(h:aD P G L C τ k₀ R p q)(k:∀a b,R a b->S a b):aD P G L C τ k₀ S p q:=by
 induction h with
 |pure h=>exact .pure (k _ _ h)
 |load h _ c=>exact .load h λv w hv=>c v w hv
 |qk h _ c=>exact .qk h λv w hv=>c v w hv
 |store h hv _ c=>exact .store h hv c
 |qY h hv _ c=>exact .qY h hv c
 |new i h _ c=>exact .new i h λr s j=>c r s j
 |rh e f i h _ c=>exact .rh e f i h λr s j=>c r s j
 |qP i h _ c=>exact .qP i h λr s j=>c r s j
 |qe h _ c=>exact .qe h λo q d=>c o q d
 |qw h d _ c=>exact .qw h d c
 |shape h _ c=>exact .shape h λx=>c x
 |freeze n h _ c=>exact .freeze n h c
 |frozen h _ c=>exact .frozen h λx=>c x
 |getObj h _ c=>exact .getObj h λo q d=>c o q d
 |setObj h d l _ c=>exact .setObj h d l c
 |choose q _ c=>exact .choose q λn=>c n
 |program _ c=>exact .program c
 |qH _ c=>exact .qH c
 |noRoom _ c=>exact .noRoom c
 |aE q h=>exact .aE _ h
theorem VR.mono(i:∀r s,π r s->ρ r s){v w:ag}(h:VR L π v w):VR L ρ v w:=by
 induction h with
 |bL s a b c=>exact .bL s a b c
 |bool b=>exact .bool b
 |int k n=>exact .int k n
 |string s=>exact .string s
 |bZ=>exact .bZ
 |ptr h=>exact .ptr ⟨i _ _ h.1,h.2⟩
 |jx n c=>exact .jx n c
 |slice n c h=>exact .slice n c ⟨i _ _ h.1,h.2⟩
 |mD=>exact .mD
 |sE=>exact .sE
 |map h=>exact .map (i _ _ h)
 |func xs ys m _ _ j l=>exact .func xs ys m j l
 |nilFunc=>exact .nilFunc
 |iface t _ d=>exact .iface t d
 |nilIface=>exact .nilIface
 |agg xs _ d=>exact .agg xs d
 |tuple xs _ d=>exact .tuple xs d
theorem XR.imp{α β:Type}{R S:α->β->Prop}(c:∀a b,R a b->S a b){xs:Array α}{ys:Array β}(h:XR R xs ys):XR S xs ys:=
 let ⟨zs,h1,h2,h3⟩:=h;⟨zs,h1,h2,λz d=>c _ _ (h3 z d)⟩
def AR.mono(c:∀r s,π r s->ρ r s){a:Addr}(h:AR π a b):AR ρ a b:=⟨c _ _ h.1,h.2⟩
def ER.mono(c:∀r s,π r s->ρ r s){a b:aw}(h:ER L π a b):ER L ρ a b:=⟨h.1.mono c,h.2.1.mono c,h.2.2⟩
def NR.mono(c:∀r s,π r s->ρ r s):∀{a b:Option Nat},NR π a b->NR ρ a b
 |none,none,_=>trivial
 |some _,some _,h=>c _ _ h
structure hY(τ υ:aJ):Prop where
 all:∀r s,τ.all r s->υ.all r s
 own:∀r s,τ.own r s->υ.own r s
 box:∀r s,τ.box r s->υ.box r s
 lp:∀r s,τ.lp r s->υ.lp r s
theorem CR.mono(a:hY τ υ){c:cy}{v w:ag}(h:CR L τ c v w):CR L υ c v w:=by
 cases c with
 |any=>exact VR.mono a.all h
 |own=>exact VR.mono a.own h
 |box=>exact VR.mono a.box h
 |kF=>exact h.imp id λ⟨l,m,d,i,j⟩=>⟨l,m,d,i,a.lp _ _ j⟩
 |eT=>exact h.imp id (Or.imp id λ⟨f,xs,ys,d,i,j,k,n⟩=>⟨f,xs,ys,d,i,j,k.imp λ_ _=>VR.mono a.all,n⟩)
 |loc=>exact h.imp id (Or.imp id λ⟨f,xs,ys,d,i,j,k,n⟩=>⟨f,xs,ys,d,i,j,k.imp λ_ _=>VR.mono a.all,n⟩)
def TR.mono(a:hY τ υ){f:au}{xs ys:aa}(h:TR L τ f xs ys):TR L υ f xs ys:=⟨h.1,λi x y c d=>(h.2 i x y c d).mono a⟩
theorem OR.mono(d:hY τ υ){q:Obj}(h:OR L τ o q):OR L υ o q:=by
 cases h with
 |cells e f h=>exact .cells e f (h.imp λ_ _=>VR.mono d.all)
 |map c h=>exact .map c (h.imp λ_ _=>ER.mono d.all)
 |stringIter s p=>exact .stringIter s p
 |mapIter a b c h=>exact .mapIter a b c (h.mono d.all)
 |number l h=>exact .number l (h.mono d.all)
theorem gR.mono(j:hY τ υ){q:Obj}(h:gR L C τ o q):gR L C υ o q:=by
 cases h with
 |loop k l m n p r s u z a c d i=>exact .loop k l m (n.mono j) p r s (j.lp _ _ u) z a c d i
 |deferred h=>exact .deferred h
theorem AR.add{a:Addr}(h:AR π a b)(n:Nat):AR π (a.add n) (b.add n):=by
 unfold Addr.add;split
 .exact h
 .exact⟨h.1,by simp[h.2.1],rfl⟩
section rows
variable {α β:Type}{R:α->β->Prop}{xs:Array α}{ys:Array β}
theorem XR.size(h:XR R xs ys):ys.size=xs.size:=by obtain⟨zs,rfl,rfl,_⟩:=h;simp
theorem XR.get?(h:XR R xs ys)(i:Nat):(xs[i]?=none/\ys[i]?=none)\/∃x y,xs[i]?=some x/\ys[i]?=some y/\R x y:=by
 obtain⟨zs,rfl,rfl,a⟩:=h;grind
theorem XR.Co(hs:ys.size=xs.size)(h:∀(i:Nat) (x:α) (y:β),xs[i]?=some x->ys[i]?=some y->R x y):XR R xs ys:=by
 refine⟨xs.zip ys,?_,?_,?_⟩
 .apply acm
  .simp[hs]
  .intro i d j;simp
 .apply acm
  .simp[hs]
  .intro i d j;simp
 .intro z k;obtain⟨i,hi,rfl⟩:=adj.1 k;have a:i<xs.size:=by simp at hi;omega
  have c:i<ys.size:=zo;exact h i _ _ (by simp[a]) (by simp[c])
theorem XR.nil:XR R #[] #[]:=⟨#[],zp,zp,zp⟩
theorem XR.push{x:α}{y:β}(h:XR R xs ys)(a:R x y):XR R (xs.push x) (ys.push y):=by
 obtain⟨zs,rfl,rfl,c⟩:=h;refine⟨zs.push (x,y),zp,zp,λz d=>?_⟩;grind
theorem XR.append{d:Array α}{vs:Array β}(h:XR R xs ys)(i:XR R d vs):XR R (xs++d) (ys++vs):=by
 obtain⟨zs,rfl,rfl,j⟩:=h;obtain⟨a,rfl,rfl,c⟩:=i;exact⟨zs++a,zp,zp,λz k=>(Array.mem_append.1 k).elim (j z) (c z)⟩
theorem XR.extract(h:XR R xs ys)(i j:Nat):XR R (xs.extract i j) (ys.extract i j):=by
 obtain⟨zs,rfl,rfl,c⟩:=h;exact⟨zs.extract i j,zp,zp,λz a=>by
  obtain⟨k,d,rfl⟩:=adj.1 a;grind⟩
theorem XR.set{x:α}{y:β}(h:XR R xs ys)(k:R x y)(i:Nat):XR R (xs.setIfInBounds i x) (ys.setIfInBounds i y):=by
 refine XR.Co (by simp[h.size]) λj a b c hb=>?_;rw[acz]at c hb;by_cases e:i=j
 .grind
 .simp only[e,abd]at c hb;rcases h.get? j with⟨d,_⟩|⟨u,v,d,l,m⟩
  .rw[d]at c;cases c
  grind
theorem XR.modify{f:α->α}{g:β->β}(h:XR R xs ys)(k:∀a b,R a b->R (f a) (g b))(i:Nat):XR R (xs.modify i f) (ys.modify i g):=by
 refine XR.Co (by simp[h.size]) λj a b c hb=>?_;rw[abR]at c hb;rcases h.get? j with⟨d,_⟩|⟨u,v,d,l,m⟩
 .grind
 grind
theorem XR.map{γ δ:Type}{S:γ->δ->Prop}{f:α->γ}{g:β->δ}(h:XR R xs ys)(c:∀a b,R a b->S (f a) (g b)):XR S (xs.map f) (ys.map g):=by
 obtain⟨zs,rfl,rfl,d⟩:=h;refine⟨zs.map λz=>(f z.1,g z.2),zp,zp,λz i=>?_⟩;grind
theorem XR.self{S:α->α->Prop}(xs:Array α)(h:∀x∈xs,S x x):XR S xs xs:=
 ⟨xs.map λx=>(x,x),zg,zg,λz a=>zg⟩
theorem XR.list(h:XR R xs ys): ∃l:List (α×β),xs.toList=l.map (·.1)/\ys.toList=l.map (·.2)/\∀z∈l,R z.1 z.2:=by
 obtain⟨zs,rfl,rfl,a⟩:=h;exact⟨zs.toList,zp,zp,λz c=>a z (by simpa using c)⟩
theorem XR.isEmpty(h:XR R xs ys):ys.isEmpty=xs.isEmpty:=by
 have:=h.size;simp only[Array.isEmpty,this]
end rows
theorem VR.cells{v w:ag}(h:VR L π v w):XR (VR L π) v.cells w.cells:=by
 have a:=h;cases h with
 |agg xs h=>exact⟨xs,rfl,rfl,h⟩
 |bL s c=>
  have e:(L.bL s).cells=#[L.bL s]:=by cases hj:L.bL s<;>first|rfl|exact absurd hj (c _)
  rw[e];exact XR.push (xs:=#[]) (ys:=#[]) XR.nil a
 |_=>exact XR.push (xs:=#[]) (ys:=#[]) XR.nil a
end
end
section
def aJ.mine(τ:aJ)(r s:Nat):Prop:=τ.own r s\/τ.box r s\/τ.lp r s
inductive oH (τ:aJ):Event->Event->Prop
 |cell {a b:Addr}:AR τ.un a b->oH τ ⟨.cell a,false,false⟩ ⟨.cell b,false,false⟩
 |write {a b:Addr}:AR τ.mine a b->oH τ ⟨.cell a,true,false⟩ ⟨.cell b,true,false⟩
 |obj {r s:Nat}:τ.un r s->oH τ ⟨.obj r,false,false⟩ ⟨.obj s,false,false⟩
 |set {r s:Nat}:τ.mine r s->oH τ ⟨.obj r,true,false⟩ ⟨.obj s,true,false⟩
 |noRoom:oH τ ⟨.mark .noRoom,false,true⟩ ⟨.mark .noRoom,false,true⟩
structure nN(π:Nat->Nat->Prop):Prop where
 fn:∀r s t,π r s->π r t->s=t
 inj:∀r s t,π r t->π s t->r=s
structure Fit(τ:aJ):Prop extends gU τ,nN τ.un
structure KR(L:aR)(C:au->Code->Prop)(τ:aJ)(r s:Nat)(o q:Obj):Prop where
 all:τ.all r s->OR L τ o q
 box:τ.box r s->∃xs ys e f,o=.cells xs e f/\q=.cells ys e f/\XR (VR L τ.own) xs ys
 lp:τ.lp r s->gR L C τ o q
structure Sync(L:aR)(C:au->Code->Prop)(τ:aJ)(k₀:Kd)(N:Nat)(w v:af):Prop where
 held:∀r s,τ.un r s->r<w->∃o q,w.heap[r]?=some o/\v.heap[s]?=some q/\KR L C τ r s o q
 oM:∀i,w.heap.size+i<N->τ.kd k₀ (w.heap.size+i) (v.heap.size+i)
structure dN(L:aR)(C:au->Code->Prop)(τ:aJ)(k₀:Kd)(N:Nat)(w v w1 v1:af)(es fs es1 fs1:Array Event):Prop where
 sync:Sync L C τ k₀ N w1 v1
 size:v1.heap.size+w.heap.size=v.heap.size+w1.heap.size
 grow:w<=w1.heap.size
 drawn:v1.drawn+w.drawn=v.drawn+w1.drawn
 draw:w.drawn<=w1.drawn
 tape:v1.tape=v.tape
 os:v1.os=v.os
 output:v1.output=v.output
 wV:w1.tape=w.tape
 Ae:w1.os=w.os
 y9:w1.output=w.output
 ix:∀s,s<v.heap.size->(∀r,¬τ.mine r s)->v1.heap[s]?=v.heap[s]?
 pS:∀r,r<w.heap.size->(∀s,¬τ.mine r s)->w1.heap[r]?=w.heap[r]?
 events: ∃zs:Array (Event×Event),es1=es++zs.map (·.1)/\fs1=fs++zs.map (·.2)/\∀z∈zs,oH τ z.1 z.2
section
variable {P:aj}{G:Array Func}{L:aR}{C:au->Code->Prop}{τ:aJ}{k₀:Kd}{N:Nat}
def Fit.mine(hb:Fit τ){r s:Nat}(h:τ.mine r s):τ.un r s:=h.imp (hb.own _ _) id
def aJ.vT{r s:Nat}(h:τ.box r s):τ.un r s:=.inr (.inl h)
def aJ.tz{r s:Nat}(h:τ.lp r s):τ.un r s:=.inr (.inr h)
def Fit.JU(hb:Fit τ):nN τ.all:=⟨λ_ _ _ h k=>hb.fn _ _ _ (.inl h) (.inl k),λ_ _ _ h k=>hb.inj _ _ _ (.inl h) (.inl k)⟩
theorem Fit.kd(hb:Fit τ){r s:Nat}(h:τ.kd k₀ r s):τ.un r s:=by
 cases k₀ with
 |own=>exact .inl (hb.own _ _ h)
 |box=>exact aJ.vT h
 |lp=>exact aJ.tz h
def Sync.obj(h:Sync L C τ k₀ N w v):∀r s,τ.all r s->r<w->∃o q,w.heap[r]?=some o/\v.heap[s]?=some q/\OR L τ o q:=λr s a hl=>
 let ⟨o,q,h1,h2,h3⟩:=h.held r s (.inl a) hl;⟨o,q,h1,h2,h3.all a⟩
theorem Sync.boxes(h:Sync L C τ k₀ N w v):∀r s,τ.box r s->r<w->∃xs ys e f,w.heap[r]?=some (.cells xs e f)/\v.heap[s]?=some (.cells ys e f)/\XR (VR L τ.own) xs ys:=λr s a hl=>by
 obtain⟨o,q,d,i,c⟩:=h.held r s (.inr (.inl a)) hl;obtain⟨xs,ys,e,f,rfl,rfl,j⟩:=c.box a;grind
def Sync.loops(h:Sync L C τ k₀ N w v):∀r s,τ.lp r s->r<w->∃o q,w.heap[r]?=some o/\v.heap[s]?=some q/\gR L C τ o q:=λr s a hl=>
 let ⟨o,q,h1,h2,h3⟩:=h.held r s (.inr (.inr a)) hl;⟨o,q,h1,h2,h3.lp a⟩
def KR.oW(hb:Fit τ){r s:Nat}(c:τ.all r s){q:Obj}(h:OR L τ o q):KR L C τ r s o q:=
 ⟨λ_=>h,λa=>(hb.two _ _ _ c a).elim,λa=>(hb.oZ _ _ _ c a).elim⟩
def KR.xN(hb:Fit τ){r s:Nat}(c:τ.box r s){xs ys:aa}(h:XR (VR L τ.own) xs ys):KR L C τ r s (.cells xs e f) (.cells ys e f):=
 ⟨λa=>(hb.two _ _ _ a c).elim,λ_=>⟨xs,ys,e,f,rfl,rfl,h⟩,λa=>(hb.pP _ _ _ c a).elim⟩
def KR.uX(hb:Fit τ){r s:Nat}(c:τ.lp r s){q:Obj}(h:gR L C τ o q):KR L C τ r s o q:=
 ⟨λa=>(hb.oZ _ _ _ a c).elim,λa=>(hb.pP _ _ _ a c).elim,λ_=>h⟩
theorem Sync.later(h:Sync L C τ k₀ N w v)(hb:Fit τ){r s:Nat}(a:τ.un r s)(hl: ¬r<w.heap.size)(c:r<N):v<=s:=by
 obtain⟨i,rfl⟩: ∃i,r=w+i:=⟨r-w.heap.size,zo⟩
 obtain rfl:=hb.fn _ _ _ (hb.kd (h.oM i c)) a;omega
theorem dN.refl(h:Sync L C τ k₀ N w v):dN L C τ k₀ N w v w v es fs es fs:=
 ⟨h,rfl,zf,rfl,zf,rfl,rfl,rfl,rfl,rfl,rfl,λ_ _ _=>rfl,λ_ _ _=>rfl,#[],zp,zp,zp⟩
theorem dN.ev{e f:Event}(h:Sync L C τ k₀ N w v)(a:oH τ e f):dN L C τ k₀ N w v w v es fs (es.push e) (fs.push f):=
 ⟨h,rfl,zf,rfl,zf,rfl,rfl,rfl,rfl,rfl,rfl,λ_ _ _=>rfl,λ_ _ _=>rfl,#[(e,f)],zp,zp,by simpa using a⟩
theorem dN.trans{v2:af}{es1 fs1 a c:Array Event}(h:dN L C τ k₀ N w v w1 v1 es fs es1 fs1)(k:dN L C τ k₀ N w1 v1 w2 v2 es1 fs1 a c):
  dN L C τ k₀ N w v w2 v2 es fs a c:=by
 have u:=h.size;have A:=k.size;have B:=h.drawn;have D:=k.drawn;have E:=h.grow;have F:=h.draw;have H:=k.grow;have I:=k.draw;refine⟨k.sync,by omega,by omega,by omega,by omega,k.tape.trans h.tape,k.os.trans h.os,k.output.trans h.output,k.wV.trans h.wV,k.Ae.trans h.Ae,k.y9.trans h.y9,λs hl d=>?_,λr hl d=>?_,?_⟩
 .rw[k.ix s (by omega) d,h.ix s hl d]
 .rw[k.pS r (by omega) d,h.pS r hl d]
 .obtain⟨zs,i,j,l⟩:=h.events;obtain⟨ys,m,n,p⟩:=k.events;exact⟨zs++ys,by rw[m,i];simp,by rw[n,j];simp,λz q=>(Array.mem_append.1 q).elim (l z) (p z)⟩
theorem dN.front(h:dN L C τ k₀ N w v w1 v1 #[] #[] es fs)(a c:Array Event):dN L C τ k₀ N w v w1 v1 a c (a++es) (c++fs):=by
 obtain⟨a1,a2,l,m,n,p,q,r,s,d,i,j,k,zs,u,z,A⟩:=h;exact⟨a1,a2,l,m,n,p,q,r,s,d,i,j,k,zs,by rw[u];simp,by rw[z];simp,A⟩
theorem FF{a:Addr}{c:aa}(h:w.heap[a.block]?=some (.cells c e f)):w.cell? a=if a.spot.isSome then none else c[a.off]? :=by
 unfold World.cell?;rw[h]
theorem vw{a:Addr}{v:ag}(h:w.cell? a=some v):a.spot=none/\∃c e f,w.heap[a.block]?=some (.cells c e f)/\c[a.off]?=some v:=by
 unfold World.cell? at h;split at h
 .simp_all
 .cases h
theorem Sync.cell(h:Sync L C τ k₀ N w v){a:Addr}(d:AR τ.all a b)(n:w.cell? a=some x): ∃y,v.cell? b=some y/\VR L τ.all x y:=by
 obtain⟨hs,c,e,f,l,i⟩:=vw n;obtain⟨o,q,m,p,r⟩:=h.obj _ _ d.1 (IN.1 l).1;rw[l]at m;cases m;cases r with
 |cells e f j=>
  rcases j.get? a.off with⟨k,_⟩|⟨A,s,k,u,z⟩
  .rw[k]at i;cases i
  .rw[k]at i;cases i;refine⟨s,?_,z⟩;rw[FF p,d.2.2,hs,d.2.1];simpa using u
theorem Sync.yq(h:Sync L C τ k₀ N w v){a:Addr}(d:AR τ.box a b)(m:w.cell? a=some x): ∃y,v.cell? b=some y/\VR L τ.own x y:=by
 obtain⟨hs,c,e,f,k,i⟩:=vw m;obtain⟨xs,ys,u,z,l,n,p⟩:=h.boxes _ _ d.1 (IN.1 k).1;rw[k]at l;cases l;rcases p.get? a.off with⟨j,_⟩|⟨A,q,j,r,s⟩
 .rw[j]at i;cases i
 .rw[j]at i;cases i;refine⟨q,?_,s⟩;rw[FF n,d.2.2,hs,d.2.1];simpa using r
def fj(L:aR)(τ:aJ)(o:Obj):Prop:=(∃q,OR L τ o q)\/∃xs e f,o=.cells xs e f
theorem Sync.known(h:Sync L C τ k₀ N w v){r s:Nat}(a:τ.all r s\/τ.box r s):∀o,w.heap[r]?=some o->fj L τ o:=λo d=>by
 rcases a with a|a
 .obtain⟨j,q,c,_,i⟩:=h.obj r s a (IN.1 d).1;rw[d]at c;cases c;exact .inl ⟨q,i⟩
 .obtain⟨xs,ys,e,f,c,_,_⟩:=h.boxes r s a (IN.1 d).1;rw[d]at c;cases c;exact .inr ⟨_,_,_,rfl⟩
theorem J2{a:Addr}(d:∀o,w.heap[a.block]?=some o->fj L τ o)(b:Bool): ∃h,w.farLoad P a b=.error h:=by
 unfold World.farLoad;split
 .rename_i i;rcases d _ i with⟨q,c⟩|⟨_,_,_,c⟩<;>cases c
 .exact⟨_,rfl⟩
theorem L5{a:Addr}(d:∀o,w.heap[a.block]?=some o->fj L τ o)(b:Bool): ∃h,w.farStore P a x b=.error h:=by
 unfold World.farStore;split
 .rename_i i;rcases d _ i with⟨q,c⟩|⟨_,_,_,c⟩<;>cases c
 .exact⟨_,rfl⟩
theorem Sync.shape{w v:af}(h:Sync L C τ k₀ N w v){r s:Nat}(a:τ.all r s)(hl:r<w):v.shape? s=w.shape? r:=by
 obtain⟨o,q,c,d,i⟩:=h.obj r s a hl;unfold World.shape?;rw[c,d];cases i<;>simp;rename_i j;exact j.size
theorem Sync.frozen{w v:af}(h:Sync L C τ k₀ N w v){a b:Addr}(c:AR τ.all a b\/AR τ.box a b)(hl:a.block<w):v.frozen? b=w.frozen? a:=by
 rcases c with c|c
 .obtain⟨o,q,d,i,j⟩:=h.obj _ _ c.1 hl;unfold World.frozen?;rw[d,i];cases j<;>simp[c.2.1]
 .obtain⟨xs,ys,e,f,d,i,j⟩:=h.boxes _ _ c.1 hl;unfold World.frozen?;rw[d,i];simp[c.2.1]
theorem Sync.turn(h:Sync L C τ k₀ N w v)(hb:Fit τ){r s:Nat}(c:τ.un r s){f:Obj->Obj}(k:∀o q,KR L C τ r s o q->KR L C τ r s (f o) (g q)):
  Sync L C τ k₀ N {w with heap:=w.heap.modify r f} {v with heap:=v.heap.modify s g}:=by
 refine⟨λd j a hl=>?_,λi hi=>?_⟩
 .simp only[Array.size_modify]at hl;obtain⟨o,q,l,m,n⟩:=h.held d j a hl;by_cases e:r=d
  .subst e;obtain rfl:=hb.fn _ _ _ c a;grind
  .have p:s≠j:=λx=>e (hb.inj _ _ _ c (x▸a));grind
 .simp only[Array.size_modify]at hi ⊢;exact h.oM i hi
theorem Sync.boxed(hb:Fit τ)(h:Sync L C τ k₀ N w v){a:Addr}(c:AR τ.box a b)(d:a.spot=none)(j:VR L τ.own x y):Sync L C τ k₀ N (w.setCell a x) (v.setCell b y):=by
 have i:=c.2.2.trans d;refine h.turn hb (aJ.vT c.1) λo q k=>?_;obtain⟨xs,ys,e,f,rfl,rfl,l⟩:=k.box c.1;simp only[d,i,c.2.1];exact KR.xN hb c.1 (l.set j _)
theorem yd{s:Nat}{r:Nat}(a:τ.mine r s)(c:∀r,¬τ.mine r t):(v.heap.modify s g)[t]?=v.heap[t]? :=by
 grind
theorem wX{s:Nat}{r:Nat}(a:τ.mine r s)(c:∀s,¬τ.mine t s):(w.heap.modify r g)[t]?=w.heap[t]? :=by
 grind
theorem qa(h:Array Obj)(r:Nat)(o:Obj):h.setIfInBounds r o=h.modify r λ_=>o:=by
 grind
theorem Cx{p:aj}{a k:Addr}{u:ak}{b:Bool}{l:List Addr}(h:w.viewStore p a u k x b=.ok (w1,l)):w1=w.heap.size/\w1.drawn=w.drawn:=by
 unfold World.viewStore at h;simp only[bind,Except.bind,pure,Except.pure]at h;repeat' split at h
 all_goals first
  |(cases h;done)
  |grind
theorem ask_size{α:Type}:∀(k:Ask α) (w:af),(w.ask k).2.heap=w.heap/\w.drawn<=(w.ask k).2.drawn
 |.done a,w=>⟨rfl,zf⟩
 |.ask c range k,w=>by
  unfold World.ask;dsimp only;split
  .exact ask_size (k 0) w
  .obtain⟨h1,d⟩:=ask_size (k ((Question.extern c range).cut (w.tape w.drawn (Question.extern c range)))) {w with drawn:=w.drawn+1};grind
theorem yN(w:af)(c:Sys):(w.sys c).2.heap=w.heap/\w.drawn<=(w.sys c).2.drawn:=by
 have h:=ask_size (Kernel.perform c w.os) w;unfold World.sys;grind
theorem bD.sys{P:aj}(c:Sys):bD P (Go.sys c):=λw es=>.inl ⟨_,(w.sys c).2,_,rfl,λr d h=>by rw[(yN w c).1]at h;exact h⟩
theorem _root_.Go.Sem.rO{α:Type}(P:aj):∀(p:Sem α) (w:af) (es:Array Event) {a:α} {w1:af} {es1:Array Event},p.runT P w es=(.ok a w1,es1)->w<=w1.heap.size/\w.drawn<=w1.drawn:=by
 intro p;induction p with
 |pure a=>
  simp_all
 |load m a k i=>
  intro w es x w1 es1 d;rw[Sem.runT]at d;grind
 |store m a x k i=>
  intro w es y w1 es1 d;by_cases u: ∃c,x=.agg c
  .obtain⟨c,rfl⟩:=u;simp[Sem.runT]at d
  by_cases s: ∃c,x=.tuple c
  .obtain⟨c,rfl⟩:=s;simp[Sem.runT]at d
  rw[Sem.runT.eq_5 _ _ _ _ _ _ _ (λc e=>u ⟨c,e⟩) (λc e=>s ⟨c,e⟩)]at d;split at d
  .split at d
   .cases d
   .have:=i _ _ d;simpa[World.setCell] using this
  .split at d
   .rename_i w' l j;unfold World.farStore at j;split at j
    .split at j
     .rename_i r z;cases j;have A:=Cx z;grind
     .cases j
    .cases j
   .cases d
 |new o k i=>
  intro w es x w1 es1 d
  have:=i _ _ _ d;grind
 |shape r k i=>intro w es x w1 es1 d;exact i _ _ _ d
 |freeze a n k i=>
  intro w es x w1 es1 d
  have:=i _ _ d;have s:(w.freeze a n).heap.size=w.heap.size/\(w.freeze a n).drawn=w.drawn:=by unfold World.freeze;split<;>simp
  omega
 |frozen a k i=>intro w es x w1 es1 d;exact i _ _ _ d
 |getObj r k i=>
  intro w es x w1 es1 d;rw[Sem.runT]at d;grind
 |setObj r o k i=>
  intro w es x w1 es1 d;rw[Sem.runT]at d;grind
 |choose q k i=>
  intro w es x w1 es1 d;rw[Sem.runT]at d;grind
 |sys c k i=>
  intro w es x w1 es1 d
  have:=i _ _ _ d;have s:=yN w c;grind
 |program k i=>intro w es x w1 es1 d;exact i _ _ _ d
 |mark m k i=>intro w es x w1 es1 d;exact i _ _ d
 |halt h=>simp_all
theorem Sync.push(hb:Fit τ)(hs:Sync L C τ k₀ N w v)(c:w<N){q:Obj}(l:KR L C τ w v o q):Sync L C τ k₀ N {w with heap:=w.heap.push o} {v with heap:=v.heap.push q}:=by
 have j:τ.kd k₀ w v.heap.size:=by simpa using hs.oM 0 (by simpa using c)
 refine⟨λd k a hl=>?_,λi hi=>?_⟩
 .simp only[Array.size_push]at hl;by_cases e:d=w
  .subst e;obtain rfl:=hb.fn _ _ _ (hb.kd j) a;grind
  .obtain⟨m,n,p,r,s⟩:=hs.held d k a zo;grind
 .simp only[Array.size_push]at hi ⊢
  have:=hs.oM (i+1) zo;grind
theorem Sync.next(hs:Sync L C τ k₀ N w v)(a:w<N):τ.kd k₀ w v.heap.size:=by simpa using hs.oM 0 (by simpa using a)
theorem Sync.stored(hb:Fit τ)(hs:Sync L C τ k₀ N w v){a:Addr}(d:AR τ.own a b)(j:a.spot=none)(m:VR L τ.all x y):Sync L C τ k₀ N (w.setCell a x) (v.setCell b y):=by
 have k:=d.2.2.trans j;have i:=hb.own _ _ d.1;refine hs.turn hb (.inl i) λo q n=>KR.oW hb i ?_;cases n.all i with
 |cells e f r=>
  refine .cells e f ?_;rw[j,k,d.2.1];exact r.set m _
 |map c h=>exact .map c h
 |stringIter s p=>exact .stringIter s p
 |mapIter a b c h=>exact .mapIter a b c h
 |number l h=>exact .number l h
theorem Sync.froze(hb:Fit τ)(hs:Sync L C τ k₀ N w v){a:Addr}(i:AR τ.own a b)(n:Nat):Sync L C τ k₀ N (w.freeze a n) (v.freeze b n):=by
 have d:=hb.own _ _ i.1;unfold World.freeze;split
 .exact hs
 .refine hs.turn hb (.inl d) λo q j=>KR.oW hb d ?_;cases j.all d with
  |cells e f k=>obtain⟨m,hi⟩:=f;simp only[i.2.1];exact .cells e _ k
  |map c h=>exact .map c h
  |stringIter s p=>exact .stringIter s p
  |mapIter a b c h=>exact .mapIter a b c h
  |number l h=>exact .number l h
theorem aD.vh(hb:Fit τ){α β:Type}{R:α->β->Prop}{p:Sem α}{q:Sem β}(h:aD P G L C τ k₀ R p q):
  ∀(w v:af) (es fs:Array Event) (a:α) (w1:af) (es1:Array Event),Sync L C τ k₀ N w v->p.runT (gp P G) w es=(.ok a w1,es1)->w1.heap.size<=N->
   (∀j q,w.drawn+j<w1.drawn->v.tape (v.drawn+j) q=w.tape (w.drawn+j) q)->(∀r s,τ.un r s->r<N)->
   ∃b v1 fs1,q.runT P v fs=(.ok b v1,fs1)/\R a b/\dN L C τ k₀ N w v w1 v1 es fs es1 fs1:=by
 have O:∀{a b:Addr} {x y:ag},(AR τ.own a b/\VR L τ.all x y\/AR τ.box a b/\VR L τ.own x y)->∀{k:Sem α} {l:Sem β},
   (∀(w v:af) (es fs:Array Event) (a:α) (w1:af) (es1:Array Event),Sync L C τ k₀ N w v->k.runT (gp P G) w es=(.ok a w1,es1)->w1.heap.size<=N->
    (∀j q,w.drawn+j<w1.drawn->v.tape (v.drawn+j) q=w.tape (w.drawn+j) q)->(∀r s,τ.un r s->r<N)->∃b v1 fs1,l.runT P v fs=(.ok b v1,fs1)/\R a b/\dN L C τ k₀ N w v w1 v1 es fs es1 fs1)->
   ∀(w v:af) (es fs:Array Event) (r:α) (w1:af) (es1:Array Event),Sync L C τ k₀ N w v->(Sem.store .plain a x k).runT (gp P G) w es=(.ok r w1,es1)->w1.heap.size<=N->
    (∀j q,w.drawn+j<w1.drawn->v.tape (v.drawn+j) q=w.tape (w.drawn+j) q)->(∀r s,τ.un r s->r<N)->∃A v1 fs1,(Sem.store .plain b y l).runT P v fs=(.ok A v1,fs1)/\R r A/\dN L C τ k₀ N w v w1 v1 es fs es1 fs1:=by
  intro a b x y Q k l B w v es fs r w1 es1 hs d D F E;have i:=Q.imp (λh=>h.1.mono hb.own) (λh=>h.1);have T:=Q.elim (λh=>h.2) (λh=>h.2.mono hb.own);have X:(∀c,x≠.agg c)/\∀c,x≠.tuple c:=by
   constructor
   .rintro c rfl;simp[Sem.runT]at d
   .rintro c rfl;simp[Sem.runT]at d
  have ab:(∀c,y≠.agg c)/\∀c,y≠.tuple c:=by
   cases T<;>first|exact absurd rfl (X.2 _)|exact absurd rfl (X.1 _)|exact⟨by assumption,by assumption⟩|exact⟨by simp,by simp⟩
  rw[Sem.runT.eq_5 _ _ _ _ _ _ _ X.1 X.2]at d;cases K:w.cell? a with
  |none=>
   obtain⟨hh,he⟩:=L5 (P:=gp P G) (L:=L) (τ:=τ) (x:=x) (hs.known (i.imp (·.1) (·.1))) (Mode.plain==.atomic);grind
  |some y0=>
   rw[K]at d;obtain⟨ao,cc,ee,ff,hblk,az⟩:=vw K;have ar:=(IN.1 hblk).1;by_cases aq:w.frozen? a=true
   .grind
   simp only[aq,abf,abd]at d;obtain⟨z,Y⟩: ∃z,v.cell? b=some z:=i.elim (λh=>let ⟨z,Y,_⟩:=hs.cell h K;⟨z,Y⟩) (λh=>let ⟨z,Y,_⟩:=hs.yq h K;⟨z,Y⟩);have m:=Q.elim (λh=>hs.stored hb h.1 ao h.2) (λh=>hs.boxed hb h.1 ao h.2);obtain⟨A,v1,fs1,J,H,I⟩:=B (w.setCell a x) (v.setCell b y) (es.push ⟨.cell a,true,false⟩) (fs.push ⟨.cell b,true,false⟩) r w1 es1 m d D F E;refine⟨A,v1,fs1,?_,H,?_⟩
   .rw[Sem.runT.eq_5 _ _ _ _ _ _ _ ab.1 ab.2,Y];simp only[hs.frozen i ar,aq,abf,abd];exact J
   .refine dN.trans ?_ I;exact⟨m,by simp[World.setCell],by simp[World.setCell],by simp[World.setCell],by simp[World.setCell],rfl,rfl,rfl,rfl,rfl,rfl,λs hl M=>yd (Q.elim (λh=>.inl h.1.1) (λh=>.inr (.inl h.1.1))) M,λt hl M=>wX (Q.elim (λh=>.inl h.1.1) (λh=>.inr (.inl h.1.1))) M,⟨#[(⟨.cell a,true,false⟩,⟨.cell b,true,false⟩)],by simp,by simp,by simp;exact .write (Q.elim (λh=>⟨.inl h.1.1,h.1.2⟩) (λh=>⟨.inr (.inl h.1.1),h.1.2⟩))⟩⟩
 induction h with
 |pure hR=>
  intro w v es fs a w1 es1 hs d _ _ _;simp only[Sem.runT,abx,Result.ok.injEq]at d;obtain⟨⟨rfl,rfl⟩,rfl⟩:=d;exact⟨_,v,fs,rfl,hR,.refl hs⟩
 |@load a b k l i _ B=>
  intro w v es fs x w1 es1 hs d D F E;rw[Sem.runT]at d;cases K:w.cell? a with
  |none=>
   obtain⟨hh,he⟩:=J2 (P:=gp P G) (L:=L) (τ:=τ) (hs.known (.inl i.1)) (Mode.plain==.atomic);grind
  |some y=>
   rw[K]at d;obtain⟨z,Y,ad⟩:=hs.cell i K;obtain⟨A,v1,fs1,J,H,I⟩:=B y z ad w v (es.push ⟨.cell a,false,false⟩) (fs.push ⟨.cell b,false,false⟩) x w1 es1 hs d D F E;refine⟨A,v1,fs1,?_,H,?_⟩
   .rw[Sem.runT,Y];exact J
   .refine dN.trans ?_ I;exact dN.ev hs (.cell ⟨.inl i.1,i.2⟩)
 |@qk a b k l i _ B=>
  intro w v es fs x w1 es1 hs d D F E;rw[Sem.runT]at d;cases K:w.cell? a with
  |none=>
   obtain⟨hh,he⟩:=J2 (P:=gp P G) (L:=L) (τ:=τ) (hs.known (.inr i.1)) (Mode.plain==.atomic);grind
  |some y=>
   rw[K]at d;obtain⟨z,Y,ad⟩:=hs.yq i K;obtain⟨A,v1,fs1,J,H,I⟩:=B y z ad w v (es.push ⟨.cell a,false,false⟩) (fs.push ⟨.cell b,false,false⟩) x w1 es1 hs d D F E;refine⟨A,v1,fs1,?_,H,?_⟩
   .rw[Sem.runT,Y];exact J
   .refine dN.trans ?_ I;exact dN.ev hs (.cell ⟨.inr (.inl i.1),i.2⟩)
 |@store a b x y k l i T _ B=>exact O (.inl ⟨i,T⟩) B
 |@qY a b x y k l i T _ B=>exact O (.inr ⟨i,T⟩) B
 |@new o q k l hk U _ B=>
  intro w v es fs x w1 es1 hs d D F E;rw[Sem.runT]at d;have hsz:w.heap.size<N:=by
   refine abc ?_ D
   have:=(Sem.rO (gp P G) _ _ _ d).1;grind
  have hp:τ.own w.heap.size v.heap.size:=by have:=hs.next hsz;rw[hk]at this;exact this
  have m:=hs.push hb hsz (KR.oW hb (hb.own _ _ hp) U);obtain⟨A,v1,fs1,J,H,I⟩:=B w.heap.size v.heap.size hp _ _ es fs x w1 es1 m d D F E;refine⟨A,v1,fs1,by rw[Sem.runT];exact J,H,dN.trans ?_ I⟩;refine⟨m,by simp;omega,by simp,rfl,aba _,rfl,rfl,rfl,rfl,rfl,rfl,λs hl M=>by grind,λs hl M=>by grind,#[],by simp,by simp,by simp⟩
 |@rh xs ys e f k l hk U _ B=>
  intro w v es fs x w1 es1 hs d D F E;rw[Sem.runT]at d;have hsz:w.heap.size<N:=by
   refine abc ?_ D
   have:=(Sem.rO (gp P G) _ _ _ d).1;grind
  have hp:τ.box w.heap.size v.heap.size:=by have:=hs.next hsz;rw[hk]at this;exact this
  have m:=hs.push hb hsz (KR.xN (e:=e) (f:=f) hb hp U);obtain⟨A,v1,fs1,J,H,I⟩:=B w.heap.size v.heap.size hp _ _ es fs x w1 es1 m d D F E;refine⟨A,v1,fs1,by rw[Sem.runT];exact J,H,dN.trans ?_ I⟩;refine⟨m,by simp;omega,by simp,rfl,aba _,rfl,rfl,rfl,rfl,rfl,rfl,λs hl M=>by grind,λs hl M=>by grind,#[],by simp,by simp,by simp⟩
 |@qP o q k l hk U _ B=>
  intro w v es fs x w1 es1 hs d D F E;rw[Sem.runT]at d;have hsz:w.heap.size<N:=by
   refine abc ?_ D
   have:=(Sem.rO (gp P G) _ _ _ d).1;grind
  have hp:τ.lp w.heap.size v.heap.size:=by have:=hs.next hsz;rw[hk]at this;exact this
  have m:=hs.push hb hsz (KR.uX hb hp U);obtain⟨A,v1,fs1,J,H,I⟩:=B w.heap.size v.heap.size hp _ _ es fs x w1 es1 m d D F E;refine⟨A,v1,fs1,by rw[Sem.runT];exact J,H,dN.trans ?_ I⟩;refine⟨m,by simp;omega,by simp,rfl,aba _,rfl,rfl,rfl,rfl,rfl,rfl,λs hl M=>by grind,λs hl M=>by grind,#[],by simp,by simp,by simp⟩
 |@qe r s k l u _ B=>
  intro w v es fs x w1 es1 hs d D F E;rw[Sem.runT]at d;cases K:w.heap[r]? with
  |none=>rw[K]at d;cases d
  |some o=>
   obtain⟨o',q,V,h2,W⟩:=hs.loops r s u (IN.1 K).1;rw[K]at V;cases V;rw[K]at d;have an:=W;cases W with
   |_=>
    obtain⟨A,v1,fs1,J,H,I⟩:=B _ _ an w v (es.push ⟨.obj r,false,false⟩) (fs.push ⟨.obj s,false,false⟩) x w1 es1 hs d D F E;refine⟨A,v1,fs1,by rw[Sem.runT,h2];exact J,H,dN.trans ?_ I⟩;exact dN.ev hs (.obj (aJ.tz u))
 |@qw r s o q k l u U _ B=>
  intro w v es fs x w1 es1 hs d D F E;rw[Sem.runT]at d;cases K:w.heap[r]? with
  |none=>rw[K]at d;cases d
  |some o0=>
   obtain⟨o',q0,V,h2,W⟩:=hs.loops r s u (IN.1 K).1;rw[K]at V;cases V;rw[K]at d;have S:o.isChan=false/\q.isChan=false:=by cases U<;>exact⟨rfl,rfl⟩
   rw[qa,S.1]at d;have m:=hs.turn hb (aJ.tz u) λ_ _ _=>KR.uX hb u U;cases W with
   |_=>
    obtain⟨A,v1,fs1,J,H,I⟩:=B _ _ (es.push ⟨.obj r,true,false⟩) (fs.push ⟨.obj s,true,false⟩) x w1 es1 m d D F E;refine⟨A,v1,fs1,by rw[Sem.runT,h2,qa,S.2];exact J,H,dN.trans ?_ I⟩;exact⟨m,by simp,by simp,rfl,aba _,rfl,rfl,rfl,rfl,rfl,rfl,λt hl M=>yd (.inr (.inr u)) M,λt hl M=>wX (.inr (.inr u)) M,⟨#[(⟨.obj r,true,false⟩,⟨.obj s,true,false⟩)],by simp,by simp,by simp;exact .set (.inr (.inr u))⟩⟩
 |@shape r s k l u _ B=>
  intro w v es fs x w1 es1 hs d D F E;rw[Sem.runT]at d;by_cases hl:r<w.heap.size
  .obtain⟨A,v1,fs1,J,H,I⟩:=B _ w v es fs x w1 es1 hs d D F E;exact⟨A,v1,fs1,by rw[Sem.runT,hs.shape u hl];exact J,H,I⟩
  ·
   have hn:w.shape? r=none:=by unfold World.shape?;grind
   have hv:v.shape? s=none:=by
    have:=hs.later hb (.inl u) hl (E _ _ (.inl u));unfold World.shape?;grind
   rw[hn]at d;obtain⟨A,v1,fs1,J,H,I⟩:=B _ w v es fs x w1 es1 hs d D F E;exact⟨A,v1,fs1,by rw[Sem.runT,hv];exact J,H,I⟩
 |@freeze a b n k l i _ B=>
  intro w v es fs x w1 es1 hs d D F E;rw[Sem.runT]at d;have m:=hs.froze hb i n;have Z:∀(w:af) (a:Addr),(w.freeze a n).heap.size=w.heap.size/\(w.freeze a n).drawn=w.drawn/\(w.freeze a n).tape=w.tape/\(w.freeze a n).os=w.os/\(w.freeze a n).output=w.output:=λw a=>by
   unfold World.freeze;split<;>simp
  obtain⟨A,v1,fs1,J,H,I⟩:=B _ _ es fs x w1 es1 m d D (by simp_all) E;refine⟨A,v1,fs1,by rw[Sem.runT];exact J,H,dN.trans ?_ I⟩;refine⟨m,by grind,by grind,by grind,by grind,(Z v b).2.2.1,(Z v b).2.2.2.1,(Z v b).2.2.2.2,(Z w a).2.2.1,(Z w a).2.2.2.1,(Z w a).2.2.2.2,λs hl M=>?_,λs hl M=>?_,#[],by simp,by simp,by simp⟩
  .unfold World.freeze;split
   .rfl
   .exact yd (.inl i.1) M
  .unfold World.freeze;split
   .rfl
   .exact wX (.inl i.1) M
 |@frozen a b k l i _ B=>
  intro w v es fs x w1 es1 hs d D F E;rw[Sem.runT]at d;by_cases hl:a.block<w.heap.size
  .obtain⟨A,v1,fs1,J,H,I⟩:=B _ w v es fs x w1 es1 hs d D F E;exact⟨A,v1,fs1,by rw[Sem.runT,hs.frozen (.inl i) hl];exact J,H,I⟩
  .have hn:w.frozen? a=false:=by unfold World.frozen?;grind
   have hv:v.frozen? b=false:=by
    have:=hs.later hb (.inl i.1) hl (E _ _ (.inl i.1));unfold World.frozen?;grind
   rw[hn]at d;obtain⟨A,v1,fs1,J,H,I⟩:=B _ w v es fs x w1 es1 hs d D F E;exact⟨A,v1,fs1,by rw[Sem.runT,hv];exact J,H,I⟩
 |@getObj r s k l u _ B=>
  intro w v es fs x w1 es1 hs d D F E;rw[Sem.runT]at d;cases K:w.heap[r]? with
  |none=>rw[K]at d;cases d
  |some o=>
   obtain⟨o',q,V,h2,W⟩:=hs.obj r s u (IN.1 K).1;rw[K]at V;cases V;rw[K]at d;have S:o.isChan=false/\q.isChan=false:=by cases W<;>exact⟨rfl,rfl⟩
   have an:=W;cases W with
   |cells e f hx=>cases d
   |_=>
    obtain⟨A,v1,fs1,J,H,I⟩:=B _ _ an w v (es.push ⟨.obj r,false,false⟩) (fs.push ⟨.obj s,false,false⟩) x w1 es1 hs d D F E;refine⟨A,v1,fs1,by rw[Sem.runT,h2];exact J,H,dN.trans ?_ I⟩;exact dN.ev hs (.obj (.inl u))
 |@setObj r s o q k l u U aA _ B=>
  intro w v es fs x w1 es1 hs d D F E;rw[Sem.runT]at d;cases K:w.heap[r]? with
  |none=>rw[K]at d;cases d
  |some o0=>
   obtain⟨o',q0,V,h2,W⟩:=hs.obj r s (hb.own _ _ u) (IN.1 K).1;rw[K]at V;cases V;rw[K]at d;have S:o.isChan=false/\q.isChan=false:=by cases U<;>exact⟨rfl,rfl⟩
   rw[qa,S.1]at d;have m:=hs.turn hb (.inl (hb.own _ _ u)) λ_ _ _=>KR.oW hb (hb.own _ _ u) U;cases W with
   |cells e f hx=>cases d
   |_=>
    obtain⟨A,v1,fs1,J,H,I⟩:=B _ _ (es.push ⟨.obj r,true,false⟩) (fs.push ⟨.obj s,true,false⟩) x w1 es1 m d D F E;refine⟨A,v1,fs1,by rw[Sem.runT,h2,qa,S.2];exact J,H,dN.trans ?_ I⟩;exact⟨m,by simp,by simp,rfl,aba _,rfl,rfl,rfl,rfl,rfl,rfl,λt hl M=>yd (.inl u) M,λt hl M=>wX (.inl u) M,⟨#[(⟨.obj r,true,false⟩,⟨.obj s,true,false⟩)],by simp,by simp,by simp;exact .set (.inl u)⟩⟩
 |@choose qq k l _ B=>
  intro w v es fs x w1 es1 hs d D F E;rw[Sem.runT]at d;by_cases Z:qq.forced=true
  .simp only[Z,abj]at d;obtain⟨A,v1,fs1,J,H,I⟩:=B 0 w v es fs x w1 es1 hs d D F E;exact⟨A,v1,fs1,by rw[Sem.runT];grind,H,I⟩
  .simp only[Z,abf,abd]at d;have av:=(Sem.rO (gp P G) _ _ _ d).2;simp only at av;have ay:v.tape v.drawn qq=w.tape w.drawn qq:=by simpa using F 0 qq (by omega)
   have m:Sync L C τ k₀ N {w with drawn:=w.drawn+1} {v with drawn:=v.drawn+1}:=⟨hs.held,hs.oM⟩
   obtain⟨A,v1,fs1,J,H,I⟩:=B _ _ _ es fs x w1 es1 m d D (λj q hj=>by
    have:=F (j+1) q (by simp only at hj;omega);grind) E
   refine⟨A,v1,fs1,by rw[Sem.runT];grind,H,dN.trans ?_ I⟩;exact⟨m,rfl,aba _,by simp;omega,by simp,rfl,rfl,rfl,rfl,rfl,rfl,λ_ _ _=>rfl,λ_ _ _=>rfl,#[],by simp,by simp,by simp⟩
 |program _ B=>
  intro w v es fs x w1 es1 hs d D F E;rw[Sem.runT]at d;obtain⟨A,v1,fs1,J,H,I⟩:=B w v es fs x w1 es1 hs d D F E;exact⟨A,v1,fs1,by rw[Sem.runT];exact J,H,I⟩
 |qH _ B=>
  intro w v es fs x w1 es1 hs d D F E;rw[Sem.runT]at d;exact B w v es fs x w1 es1 hs d D F E
 |noRoom _ B=>
  intro w v es fs x w1 es1 hs d D F E;rw[Sem.runT]at d;obtain⟨A,v1,fs1,J,H,I⟩:=B w v _ (fs.push ⟨.mark .noRoom,false,true⟩) x w1 es1 hs d D F E;refine⟨A,v1,fs1,by rw[Sem.runT];exact J,H,dN.trans ?_ I⟩;exact dN.ev hs (.noRoom)
 |aE qq hh=>
  intro w v es fs x w1 es1 hs d D F E;obtain⟨_,_,_,e,_,_⟩:=hh w es;grind
end
end
end Go.Proofs.YtldmcdeibiclkaaGreat.U
