/-
  Toward summed_holds: append, SIDE BY SIDE.
-/
import Derived.Test.YtldmcdeibiclkaaGreatC03
import Derived.Conc.Listed
set_option linter.unusedVariables false
set_option linter.unusedSimpArgs false
set_option maxRecDepth 100000
set_option maxHeartbeats 20000000
namespace Go.Proofs.YtldmcdeibiclkaaGreat.U
variable {v w:Value}{xs ys:Array Value}{fl:Bool}{gr:Frame}{cs:List Frame}{α β:Type}{l m r s:Nat}{es es0:Array Event}{Q:Program}{w1:World}{g1:Goroutine}{d:bh}{g:FuncId}{k:List Item}
section
section
variable {P:Program}{G:Array Func}{L:au}{C:FuncId->Code->Prop}{τ:ah}
theorem mild_holds(a:Addr)(n:Nat):aP (gp P G) (Builtin.holdsCells a n):=by
 unfold Builtin.holdsCells;refine aP.bind (.shape _) λx=>?_;split<;>exact .pure _
theorem qB(size sl n:Nat)(base:Option Addr)(x:Value):aP (gp P G) (Builtin.mayShare size sl n base x):=by
 have rest:∀b:Bool,aP (gp P G) (if (!b)=true then pure true else (match x with
   |.slice (some b) _ _=>do pure (!(← Builtin.holdsCells b (n*size))||base.any (·.block==b.block))
   |_=>pure false)):=λb=>by
  refine aP.ite (.pure _) ?_;split
  ·exact aP.bind (mild_holds _ _) λ_=>.pure _
  ·exact .pure _
 unfold Builtin.mayShare;cases base with
 |none=>exact aP.bind (p:=pure true) (.pure _) λb=>rest b
 |some a=>exact aP.bind (mild_holds _ _) λ_=>aP.bind (.frozen _) λ_=>aP.bind (p:=pure _) (.pure _) λb=>rest b
theorem KH(E:Env P L τ){st xt:TypeId}(t:TypeId)(hz:∀d,P.underlying xt=some d->(d matches .int _)=false){x y:Value}(hv:VR L τ.own v w)(hx:VR L τ.all x y):
  ae P G L C τ .own (VR L τ.own) (Builtin.append_ #[st,xt] t #[v,x]) (Builtin.append_ #[st,xt] t #[w,y]):=by
 have hv':=hv.mono E.bi.own;unfold Builtin.append_;show ae P G L C τ .own (VR L τ.own) (underlying st >>=_) (underlying st >>=_);refine ae.bind' (bP st) ?_;rintro d _ ⟨rfl,_⟩;cases d with
 |slice elem=>
  cases hv with
  |fX sl sc=>
   refine ae.bind' (dD elem) ?_;rintro size _ rfl;refine ae.bind' (p:=underlying xt) (q:=underlying xt) (bP xt) ?_;rintro d _ ⟨rfl,hd⟩;refine ae.bind' (.pure (R:=λa b=>a=false/\b=false) ⟨hz d hd,hz d hd⟩) ?_;rintro _ _ ⟨rfl,rfl⟩;refine ae.bind' (p:=Builtin.lenOf x) (q:=Builtin.lenOf y) (pk hx) ?_;rintro n _ rfl;try dsimp only
   split
   ·refine ae.bind' (p:=Builtin.firstCells size n x) (q:=Builtin.firstCells size n y) (kI size n hx) λxs ys hxs=>?_;exact .pure (.fX _ _)
   ·refine ae.bind' (hU elem) ?_;rintro i _ ⟨rfl,_⟩;try dsimp only
    split
    ·exact .af _ (ai.bind' (.runtimePanic _))
    ·refine ae.bind' (hU elem) ?_;rintro i _ ⟨rfl,_⟩;try dsimp only
     split
     ·refine .af _ ?_;first
      |(refine ai.bind' ?_
        refine ai.then (p:=Builtin.mayShare size sl n _ _) (qB _ _ _ _ _) λb=>?_;cases b<;>first|exact ai.unsupported _|exact ai.then (.mark _) λ_=>ai.unsupported _)
      |(refine ai.then (p:=Builtin.mayShare size sl n _ _) (qB _ _ _ _ _) λb=>?_
        cases b<;>first|exact ai.bind' (.unsupported _)|exact ai.then (.mark _) λ_=>ai.bind' (.unsupported _))
     ·refine ae.bind' (pg _) ?_;rintro cap _ rfl;refine ae.bind' (hU elem) ?_;rintro i _ ⟨rfl,_⟩;refine ae.bind' (rD _) λ_ _ _=>?_;refine ae.bind' (kI size _ hv') λus vs hus=>?_;refine ae.bind' (p:=Builtin.firstCells size n x) (q:=Builtin.firstCells size n y) (kI size n hx) λxs ys hxs=>?_;refine ae.bind' (kP E elem) λz z' hzz=>?_;exact ae.bind' (lK elem ((hus.append hxs).append (hzz.cells.zeroCells _))) λa b hab=>.pure (.slice _ _ hab)
  |@slice a b sl sc hab=>
   refine ae.bind' (dD elem) ?_;rintro size _ rfl;refine ae.bind' (p:=underlying xt) (q:=underlying xt) (bP xt) ?_;rintro d _ ⟨rfl,hd⟩;refine ae.bind' (.pure (R:=λa b=>a=false/\b=false) ⟨hz d hd,hz d hd⟩) ?_;rintro _ _ ⟨rfl,rfl⟩;refine ae.bind' (p:=Builtin.lenOf x) (q:=Builtin.lenOf y) (pk hx) ?_;rintro n _ rfl;try dsimp only
   split
   ·refine ae.bind' (p:=Builtin.firstCells size n x) (q:=Builtin.firstCells size n y) (kI size n hx) λxs ys hxs=>?_;exact ae.bind' (sJ (hab.add _) hxs) λ_ _ _=>.pure (.slice _ _ hab)
   ·refine ae.bind' (hU elem) ?_;rintro i _ ⟨rfl,_⟩;try dsimp only
    split
    ·exact .af _ (ai.bind' (.runtimePanic _))
    ·refine ae.bind' (hU elem) ?_;rintro i _ ⟨rfl,_⟩;try dsimp only
     split
     ·refine .af _ ?_;first
      |(refine ai.bind' ?_
        refine ai.then (p:=Builtin.mayShare size sl n _ _) (qB _ _ _ _ _) λb=>?_;cases b<;>first|exact ai.unsupported _|exact ai.then (.mark _) λ_=>ai.unsupported _)
      |(refine ai.then (p:=Builtin.mayShare size sl n _ _) (qB _ _ _ _ _) λb=>?_
        cases b<;>first|exact ai.bind' (.unsupported _)|exact ai.then (.mark _) λ_=>ai.bind' (.unsupported _))
     ·refine ae.bind' (pg _) ?_;rintro cap _ rfl;refine ae.bind' (hU elem) ?_;rintro i _ ⟨rfl,_⟩;refine ae.bind' (rD _) λ_ _ _=>?_;refine ae.bind' (kI size _ hv') λus vs hus=>?_;refine ae.bind' (p:=Builtin.firstCells size n x) (q:=Builtin.firstCells size n y) (kI size n hx) λxs ys hxs=>?_;refine ae.bind' (kP E elem) λz z' hzz=>?_;exact ae.bind' (lK elem ((hus.append hxs).append (hzz.cells.zeroCells _))) λa b hab=>.pure (.slice _ _ hab)
  |_=>exact .am
 |_=>exact .am
end
end
section
def aU(fl:Bool)(c d:bh):Bool:=decide (c=d)||(decide (c=.own)&&decide (d=.any))||(fl&&decide (c=.any)&&decide (d=.own))
def pS:bh->Bool
 |.any|.own|.box=>true
 |_=>false
def CK:bh->Bool
 |.cO|.loc=>true
 |_=>false
structure aO where
 fl:Bool
 fb:FuncId->Bool
 cb:FuncId->Bool
 ib:FuncId->Bool
 lb:FuncId->Bool
 bj:FuncId
 ng:Nat
structure lZ(L:au)(T:aO):Prop where
 fb:∀f,T.fb f=true->L.fn f
 cb:∀f,T.cb f=true->L.eA f
 ib:∀f,T.ib f=true->L.cO f
 lb:∀f,T.lb f=true->L.loc f
 eA:∀f,L.eA f->L.fn f/\(∀i,L.bO f i=.any)/\L.res f=.any
 loc:∀f,L.loc f->L.fn f/\(∀i,L.bO f i=.any)/\L.res f=.any
 ar:∀f,L.eA f\/L.cO f\/L.loc f->L.ar f=none
 cO:∀f,L.cO f->L.fn f/\L.bO f 0=.gL/\(∀i,i≠0->aU T.fl .any (L.bO f i)=true\/2<=i)/\L.res f=.any
inductive cf (L:au) (C:FuncId->Code->Prop) (τ:ah) (fl:Bool) (c:bh):Next->Next->Prop
 |value {v w:Value}:CR L τ c v w->cf L C τ fl c (.value v) (.value w)
 |skip:cf L C τ fl c .skip .skip
 |enter {f:FuncId} {xs ys:Array Value}:L.fn f->TR L τ f xs ys->aU fl (L.res f) c=true->(∀k,L.ar f=some k->xs.size=k)->cf L C τ fl c (.enter f xs) (.enter f ys)
 |round {l m:Nat} {f:FuncId} {xs ys:Array Value} {a b:Code}:τ.lp l m->L.fn f->TR L τ f xs ys->C f a->C f b->aU fl .any c=true->cf L C τ fl c (.round l f xs a b) (.round m f ys a b)
def lJ(P:Program)(G:Array Func)(L:au):Prop:=∀f,L.fn f->(∃fn,P.funcs[f]?=some fn/\(fn.name== "runtime.NumGoroutine")=false/\fn.body.isNone=false)/\(∃fn,G[f]?=some fn/\(fn.name== "runtime.NumGoroutine")=false/\fn.body.isNone=false)
def vG:Value->Bool
 |.bool _|.int .. |.string _|.pointer none|.slice none _ _|.map none|.nilFunc|.nilIface=>true
 |_=>false
def fits(L:au)(T:aO)(f:FuncId)(c:bh):Operand->Bool
 |.tmp i=>aU T.fl (L.bO f i) c
 |.const v=>(vG v&&pS c)||(CK c&&(match v with|.nilFunc=>true|_=>false))
 |.func g=>T.cb g&&pS c
 |.global g=>decide (g<T.ng)&&aU T.fl .any c
def vZ(P:Program)(s d:TypeId):Bool:=
 match P.underlying s,P.underlying d with
 |some (.int _),some (.int _)=>true
 |some (.slice e),some .string=>(match P.underlying e with|some (.int .u8)=>true|_=>false)
 |_,_=>false
section
variable {P:Program}{G:Array Func}{L:au}{C:FuncId->Code->Prop}{τ:ah}{T:aO}{π:Nat->Nat->Prop}{k₀:Kd}
theorem VR.ofConst(h:vG v=true):VR L π v v:=by
 cases v with
 |pointer p=>cases p<;>first|exact .bc|cases h
 |slice p n c=>cases p<;>first|exact .fX _ _|cases h
 |map p=>cases p<;>first|exact .iV|cases h
 |bool b=>exact .bool b
 |int k n=>exact .int k n
 |string s=>exact .string s
 |nilFunc=>exact .nilFunc
 |nilIface=>exact .nilIface
 |_=>cases h
theorem VR.Gi{f:FuncId}(h:L.eA f):VR L π (.func (.func f) #[] #[]) (.func (.func f) #[] #[]):=by
 simpa using VR.func (L:=L) (π:=π) #[] #[] h (by simp) (by simp)
theorem VR.undef:VR L π Go.undef Go.undef:=by
 simpa[Go.undef] using VR.tuple (L:=L) (π:=π) #[] (by simp)
theorem CR.undef(c:bh):CR L τ c Go.undef Go.undef:=by
 cases c with
 |any=>exact VR.undef
 |own=>exact VR.undef
 |box=>exact VR.undef
 |gL=>exact .inl ⟨rfl,rfl⟩
 |cO=>exact .inl ⟨rfl,rfl⟩
 |loc=>exact .inl ⟨rfl,rfl⟩
def Flat(T:aO)(τ:ah):Prop:=(T.fl=true->∀r s,τ.all r s->τ.own r s)/\∀g,g<T.ng->τ.all g g
theorem CR.fit(hb:eh τ)(hf:Flat T τ){c:bh}(h:aU T.fl c d=true)(hv:CR L τ c v w):CR L τ d v w:=by
 unfold aU at h;simp only[Q8,No,QS]at h;rcases h with (rfl|⟨rfl,rfl⟩)|⟨⟨hx,rfl⟩,rfl⟩
 ·exact hv
 ·exact VR.mono hb.own hv
 ·exact VR.mono (hf.1 hx) hv
theorem CR.own{c:bh}(hb:eh τ)(hf:Flat T τ)(h:aU T.fl .own c=true)(hv:VR L τ.own v w):CR L τ c v w:=CR.fit (c:=.own) hb hf h hv
theorem CR.any{c:bh}(hb:eh τ)(hf:Flat T τ)(h:aU T.fl .any c=true)(hv:VR L τ.all v w):CR L τ c v w:=CR.fit (c:=.any) hb hf h hv
theorem CR.vH{c:bh}(h:pS c=true)(hv:∀π,VR L π v w):CR L τ c v w:=by
 cases c with
 |any=>exact hv _
 |own=>exact hv _
 |box=>exact hv _
 |_=>cases h
theorem TR.size{f:FuncId}(h:TR L τ f xs ys):ys.size=xs.size:=h.1
theorem TR.getD{f:FuncId}(h:TR L τ f xs ys)(i:Nat):CR L τ (L.bO f i) (xs.getD i Go.undef) (ys.getD i Go.undef):=by
 rw[Array.getD_eq_getD_getElem?,Array.getD_eq_getD_getElem?];by_cases hi:i<xs.size
 ·have hj:i<ys.size:=by rw[h.1];exact hi
  rw[Array.getElem?_eq_getElem hi,Array.getElem?_eq_getElem hj];exact h.2 i _ _ (Array.getElem?_eq_getElem hi) (Array.getElem?_eq_getElem hj)
 ·rw[Array.getElem?_eq_none (by omega),Array.getElem?_eq_none (by rw[h.1];omega)];exact CR.undef _
theorem TR.set{f:FuncId}(h:TR L τ f xs ys){d:Nat}(hv:CR L τ (L.bO f d) v w):TR L τ f (xs.setIfInBounds d v) (ys.setIfInBounds d w):=by
 refine⟨by simp[h.1],λi x y hx hy=>?_⟩;rw[Array.getElem?_setIfInBounds]at hx hy;by_cases e:d=i
 ·subst e;simp only[QD]at hx hy;split at hx
  ·split at hy
   ·cases hx;cases hy;exact hv
   ·cases hy
  ·cases hx
 ·simp only[e,QC]at hx hy;exact h.2 i x y hx hy
theorem TR.uS{f:FuncId}(hc:∀i,L.bO f i=.any)(h:XR (VR L τ.all) xs ys):TR L τ f xs ys:=
 ⟨h.size,λi x y hx hy=>by
  rw[hc i];rcases h.get? i with⟨h1,_⟩|⟨u,v,h1,h2,h3⟩
  ·rw[h1]at hx;cases hx
  ·rw[h1]at hx;rw[h2]at hy;cases hx;cases hy;exact h3⟩
theorem TR.pad{f:FuncId}(h:TR L τ f xs ys)(n:Nat):TR L τ f (xs++Array.replicate n Go.undef) (ys++Array.replicate n Go.undef):=by
 refine⟨by simp[h.1],λi x y hx hy=>?_⟩;rw[Array.getElem?_append]at hx hy;rw[h.1]at hy;split at hx
 ·rename_i hi;rw[IN hi]at hy;exact h.2 i x y hx hy
 ·rename_i hi;rw[By hi]at hy;rw[Array.eq_of_mem_replicate (Array.mem_of_getElem? hx),Array.eq_of_mem_replicate (Array.mem_of_getElem? hy)];exact CR.undef _
theorem TR.Bq{f:FuncId}:∀(ps:List Nat) (l:List (Value×Value)) {cs ds:Array Value},(∀p∈ps,L.bO f p=.any)->(∀z∈l,VR L τ.all z.1 z.2)->TR L τ f cs ds->
  TR L τ f ((ps.zip (l.map (·.1))).foldl (λc (x:Nat×Value)=>c.setIfInBounds x.1 x.2) cs) ((ps.zip (l.map (·.2))).foldl (λc (x:Nat×Value)=>c.setIfInBounds x.1 x.2) ds)
 |[],_,_,_,_,_,h=>h
 |_::_,[],_,_,_,_,h=>h
 |p::ps,z::l,cs,ds,hp,hz,h=>by
  simp only[QU,List.zip_cons_cons,List.foldl_cons];exact TR.Bq ps l (λq hq=>hp q (by simp[hq])) (λy hy=>hz y (by simp[hy])) (h.set (by rw[hp p (by simp)];exact hz z (by simp)))
theorem DD{R:α->β->Prop}{f:Program->Sem α}{g:Program->Sem β}(h:ae P G L C τ k₀ R (f (gp P G)) (g P)):ae P G L C τ k₀ R (program >>=f) (program >>=g):=.program h
theorem Ak(h:τ.lp r s):ae P G L C τ k₀ (ed L C τ) (getObj r) (getObj s):=.lz h λ_ _ ho=>.pure ho
theorem pM{o q:Obj}(h:τ.lp r s)(ho:ed L C τ o q):ae P G L C τ k₀ (λ_ _=>True) (setObj r o) (setObj s q):=.lh h ho (.pure trivial)
theorem pP(F:lJ P G L){c:bh}{f:FuncId}(hf:L.fn f)(h:TR L τ f xs ys)(hr:aU fl (L.res f) c=true)(ha:∀k,L.ar f=some k->xs.size=k):ae P G L C τ k₀ (cf L C τ fl c) (callFunc f xs) (callFunc f ys):=by
 obtain⟨⟨fn,h1,h2,h3⟩,⟨gn,g1,g2,g3⟩⟩:=F f hf;unfold callFunc;refine DD ?_;have e:(gp P G).funcs=G:=rfl;rw[e,h1,g1];dsimp only;rw[h2,h3,g2,g3];exact .pure (.enter hf h hr ha)
theorem o9(h:τ.lp l m):ae P G L C τ k₀ (λa b=>ed L C τ (.loop a) (.loop b)) (Instr.getLoop l) (Instr.getLoop m):=by
 unfold Instr.getLoop;refine ae.bind' (Ak h) λo q ho=>?_;have ho':=ho;cases ho with
 |loop=>exact .pure ho'
 |_=>exact .am
theorem KB{c:bh}(hc:aU fl .any c=true)(h:τ.lp l m)(hx:XR (VR L τ.all) xs ys):ae P G L C τ k₀ (cf L C τ fl c) (Instr.yield l xs) (Instr.yield m ys):=by
 unfold Instr.yield;refine ae.bind' (o9 h) λa b hab=>?_;cases hab with
 |loop h1 h2 h3 h4 h5 h6 h7 h8 h9 h10 h11 h12 h13=>
  try dsimp only
  rw[hx.size,h5];split
  ·exact .af _ (ai.bind' (.stuck _))
  ·refine .pure ?_;rw[h3,h6,h7];refine .round h h12 ?_ h9 h10 hc;obtain⟨l',e1,e2,e3⟩:=hx.list;rw[<-Array.foldl_toList,<-Array.foldl_toList,Array.toList_zip,Array.toList_zip,e1,e2];exact TR.Bq _ l' (λp hp=>h13 p (by simpa using hp)) e3 h4
theorem Fb(F:lJ P G L)(K:lZ L T){c:bh}(hc:aU fl .any c=true)(hv:VR L τ.all v w)(hx:XR (VR L τ.all) xs ys):
  ae P G L C τ k₀ (cf L C τ fl c) (do let d ←Deferred.ofValue v xs;invoke d.target d.args) (do let d ←Deferred.ofValue w ys;invoke d.target d.args):=by
 cases hv with
 |func us vs hf hu hv'=>
  show ae P G L C τ k₀ (cf L C τ fl c) (callFunc _ _) (callFunc _ _);obtain⟨h1,h2,h3⟩:=K.eA _ hf;exact pP F h1 (TR.uS h2 (XR.append (XR.append ⟨us,rfl,rfl,hu⟩ hx) ⟨vs,rfl,rfl,hv'⟩)) (by rw[h3];exact hc) (λk hk=>by rw[K.ar _ (.inl hf)]at hk;cases hk)
 |nilFunc=>exact .af _ (show ai (gp P G) (runtimePanic .nilDeref:Sem Next) from .runtimePanic _)
 |aW s h1 h2 h3=>
  refine .af _ ?_;show ai (gp P G) (match (#[Value.nilIface]++xs)[0]? with|some recv=>callMethod recv s ((#[Value.nilIface]++xs).extract 1 (#[Value.nilIface]++xs).size)|_=>stuck "call: a method without a receiver");have e:(#[Value.nilIface]++xs)[0]?=some .nilIface:=by rw[Array.getElem?_append_left (by decide)];rfl
  rw[e];exact show ai (gp P G) (runtimePanic .nilDeref:Sem Next) from .runtimePanic _
 |_=>exact .af _ (ai.bind' (.stuck _))
theorem E9(F:lJ P G L)(K:lZ L T){c:bh}(hc:aU fl .any c=true)(hv:CR L τ .loc v w)(hx:XR (VR L τ.all) xs ys):
  ae P G L C τ k₀ (cf L C τ fl c) (do let d ←Deferred.ofValue v xs;invoke d.target d.args) (do let d ←Deferred.ofValue w ys;invoke d.target d.args):=by
 rcases hv with⟨rfl,rfl⟩|⟨rfl,rfl⟩|⟨f,us,vs,rfl,rfl,hf,hu,h5⟩
 ·exact .af _ (ai.bind' (.stuck _))
 ·exact .af _ (show ai (gp P G) (runtimePanic .nilDeref:Sem Next) from .runtimePanic _)
 ·show ae P G L C τ k₀ (cf L C τ fl c) (callFunc _ _) (callFunc _ _);obtain⟨h1,h2,h3⟩:=K.loc _ hf;exact pP F h1 (TR.uS h2 (XR.append (XR.append .nil hx) hu)) (by rw[h3];exact hc) (λk hk=>by rw[K.ar _ (.inr (.inr hf))]at hk;cases hk)
theorem JO{c:bh}(hc:aU fl .any c=true)(hv:CR L τ .gL v w)(hx:XR (VR L τ.all) xs ys):
  ae P G L C τ k₀ (cf L C τ fl c) (do let d ←Deferred.ofValue v xs;invoke d.target d.args) (do let d ←Deferred.ofValue w ys;invoke d.target d.args):=by
 rcases hv with⟨rfl,rfl⟩|⟨l,m,rfl,rfl,h⟩
 ·exact .af _ (ai.bind' (.stuck _))
 ·show ae P G L C τ k₀ (cf L C τ fl c) (Instr.yield _ _) (Instr.yield _ _);exact KB hc h (XR.append .nil hx)
theorem yy(hb:eh τ)(hfl:Flat T τ)(F:lJ P G L)(K:lZ L T){c:bh}(hc:aU fl .any c=true)(hv:CR L τ .cO v w)(hl:τ.lp l m):
  ae P G L C τ k₀ (cf L C τ fl c) (do let d ←Deferred.ofValue v #[.func (.yield l) #[] #[]];invoke d.target d.args) (do let d ←Deferred.ofValue w #[.func (.yield m) #[] #[]];invoke d.target d.args):=by
 rcases hv with⟨rfl,rfl⟩|⟨rfl,rfl⟩|⟨f,us,vs,rfl,rfl,hf,hu,h5⟩
 ·exact .af _ (ai.bind' (.stuck _))
 ·exact .af _ (show ai (gp P G) (runtimePanic .nilDeref:Sem Next) from .runtimePanic _)
 ·show ae P G L C τ k₀ (cf L C τ fl c) (callFunc f (#[]++#[.func (.yield l) #[] #[]]++us)) (callFunc f (#[]++#[.func (.yield m) #[] #[]]++vs));obtain⟨h1,h2,h3,h4⟩:=K.cO _ hf;refine pP F h1 ⟨by simp[hu.size],λi x y hx hy=>?_⟩ (by rw[h4];exact hc) (λk hk=>by rw[K.ar _ (.inr (.inl hf))]at hk;cases hk);cases i with
  |zero=>
   rw[h2];simp[Array.getElem?_append]at hx hy;exact .inr ⟨l,m,hx.symm,hy.symm,hl⟩
  |succ i=>
   simp[Array.getElem?_append]at hx hy;rcases hu.get? i with⟨g1,_⟩|⟨u,v,g1,g2,g3⟩
   ·rw[g1]at hx;cases hx
   ·rw[g1]at hx;rw[g2]at hy;cases hx;cases hy;have hi:i<us.size:=(Array.getElem?_eq_some_iff.1 g1).1;rcases h3 (i+1) (by omega) with h6|h6
    ·exact CR.any hb hfl h6 g3
    ·omega
end
end
section
def sf(P:Program)(L:au)(T:aO)(f:FuncId)(c:bh)(b:Builtin)(ts:Array TypeId)(xs:Array Operand):Bool:=
 match b,ts.toList,xs.toList with
 |.append,[_,xt],[a,d]=>fits L T f .own a&&fits L T f .any d&&aU T.fl .own c&&(match P.underlying xt with|some (.int _)=>false|_=>true)
 |.copy,[_,_],[a,d]=>fits L T f .own a&&fits L T f .any d&&aU T.fl .any c
 |.len,[t],[a]=>fits L T f .any a&&aU T.fl .any c&&(match P.underlying t with|some .string|some (.slice _)=>true|_=>false)
 |.min,_,[a,d]|.max,_,[a,d]=>fits L T f .any a&&fits L T f .any d&&aU T.fl .any c
 |.unsafeString,_,[a,d]=>fits L T f .own a&&fits L T f .any d&&aU T.fl .any c
 |_,_,_=>false
def AM(L:au)(T:aO)(f g:FuncId)(xs:Array Operand):Bool:=(List.range xs.size).all λi=>match xs[i]? with|some x=>fits L T f (L.bO g i) x|none=>false
def rK(L:au)(T:aO)(f:FuncId)(c:bh)(xs:Array Operand):Operand->Bool
 |.func g=>T.fb g&&AM L T f g xs&&aU T.fl (L.res g) c&&(match L.ar g with|some k=>xs.size==k|none=>true)
 |.tmp i=>(aU T.fl (L.bO f i) .any||decide (L.bO f i=.loc)||decide (L.bO f i=.gL))&&xs.all (fits L T f .any)&&aU T.fl .any c
 |_=>false
def cj(P:Program)(L:au)(T:aO)(f:FuncId)(c:bh):Op->Bool
 |.move x|.assign x=>fits L T f c x
 |.nilCheck x=>pS c&&fits L T f c x
 |.unOp _ _ x|.makeInterface _ x|.field _ x _|.entry x|.typeAssert x _ _ _|.extract x _=>fits L T f .any x&&aU T.fl .any c
 |.panic _=>true
 |.box _ x=>(decide (c=.box)&&fits L T f .own x)||(aU T.fl .own c&&!decide (c=.box)&&fits L T f .any x)
 |.load _ x=>(fits L T f .any x&&aU T.fl .any c)||(fits L T f .box x&&aU T.fl .own c)
 |.fieldAddr _ x _=>(fits L T f .any x&&aU T.fl .any c)||(fits L T f .own x&&aU T.fl .own c)
 |.range _ x=>fits L T f .any x&&aU T.fl .own c
 |.next x s=>!s&&fits L T f .own x&&aU T.fl .any c
 |.pick b x y=>fits L T f .any b&&fits L T f c x&&fits L T f c y
 |.alloc _=>aU T.fl .own c
 |.build _ ps=>(ps.all λp=>fits L T f .any p.2)&&aU T.fl .any c
 |.buildSlice _ _ ps=>(ps.all λp=>fits L T f .any p.2)&&aU T.fl .own c
 |.store _ a v=>(fits L T f .own a&&fits L T f .any v)||(fits L T f .box a&&fits L T f .own v)
 |.makeSlice _ a v=>fits L T f .any a&&fits L T f .any v&&aU T.fl .own c
 |.indexAddr _ a v=>fits L T f .any v&&((fits L T f .any a&&aU T.fl .any c)||(fits L T f .own a&&aU T.fl .own c))
 |.index _ a v=>fits L T f .any a&&fits L T f .any v&&aU T.fl .any c
 |.binOp op t x y _=>fits L T f .any x&&fits L T f .any y&&aU T.fl .any c&&(match op with|.eql|.neq=>eR P 10 t&&!P.eqGuardType P.depth t|_=>true)
 |.convert s d x=>fits L T f .any x&&aU T.fl .any c&&vZ P s d
 |.makeFunc (.func g) a b=>(T.cb g&&a.all (fits L T f .any)&&b.all (fits L T f .any)&&aU T.fl .any c)||(a.isEmpty&&b.all (fits L T f .any)&&((T.ib g&&decide (c=.cO)&&decide (b.size<=1))||(T.lb g&&decide (c=.loc)&&decide (b.size<=2))))
 |.makeMap _ none=>aU T.fl .own c
 |.slice _ x l h m=>l.all (fits L T f .any)&&h.all (fits L T f .any)&&m.all (fits L T f .any)&&((fits L T f .any x&&aU T.fl .any c)||(fits L T f .own x&&aU T.fl .own c))
 |.lookup t x i _=>fits L T f .any x&&fits L T f .any i&&aU T.fl .any c&&(match P.underlying t with|some (.map k _)=>eR P 10 k|_=>false)
 |.mapUpdate t m k v=>fits L T f .own m&&fits L T f .any k&&fits L T f .any v&&(match P.underlying t with|some (.map k _)=>(match P.underlying k with|some .string=>true|_=>false)|_=>false)
 |.call d=>(match d.callee with|.value g=>rK L T f c d.args g|.builtin b=>sf P L T f c b d.argTypes d.args|.invoke .. =>false)
 |_=>false
def nQ(c:bh):Op->Kd
 |.box _ _=>if c=.box then .box else .own
 |_=>.own
section
variable {P:Program}{G:Array Func}{L:au}{C:FuncId->Code->Prop}{τ:ah}{T:aO}{f:FuncId}{c:bh}{ρ σ:Operand->Value}
theorem Pd(e:TypeId)(h:VR L τ.own v w):ae P G L C τ .box (VR L τ.box) (Instr.box e v) (Instr.box e w):=by
 unfold Instr.box newVar newRow;exact ae.bind' (R:=AR τ.box) (ae.bind' (R:=τ.box) (.lR e (0,0) rfl h.cells λr s hr=>.pure hr) λr s hr=>.pure ⟨hr,rfl,rfl⟩) λa b h=>.pure (.ptr h)
theorem lr{k₀:Kd}{p q:Sem Value}(h:ae P G L C τ k₀ (CR L τ c) p q):ae P G L C τ k₀ (cf L C τ T.fl c) (do pure (.value (← p))) (do pure (.value (← q))):=ae.bind' h λ_ _ hv=>.pure (.value hv)
theorem q7{p q:Sem Unit}(h:ae P G L C τ .own (λ_ _=>True) p q):ae P G L C τ .own (cf L C τ T.fl c) (do p;pure .skip) (do q;pure .skip):=ae.bind' h λ_ _ _=>.pure .skip
theorem XR.args(hρ:∀c x,fits L T f c x=true->CR L τ c (ρ x) (σ x)){xs:Array Operand}(h:xs.all (fits L T f .any)=true):XR (VR L τ.all) (xs.map ρ) (xs.map σ):=
 XR.map (R:=λa b=>a=b/\fits L T f .any a=true) (XR.self xs λx hx=>⟨rfl,Array.all_eq_true'.1 h x hx⟩) (by rintro a _ ⟨rfl,ha⟩;exact hρ .any a ha)
theorem XR.parts(hρ:∀c x,fits L T f c x=true->CR L τ c (ρ x) (σ x)){xs:Array (Nat×Operand)}(h:(xs.all λp=>fits L T f .any p.2)=true):XR (PR L τ.all) (xs.map λ(i,x)=>(i,ρ x)) (xs.map λ(i,x)=>(i,σ x)):=
 XR.map (R:=λa b=>a=b/\fits L T f .any a.2=true) (XR.self xs λx hx=>⟨rfl,Array.all_eq_true'.1 h x hx⟩) (by rintro⟨i,a⟩ _ ⟨rfl,ha⟩;exact⟨rfl,hρ .any a ha⟩)
theorem QR.opt(hρ:∀c x,fits L T f c x=true->CR L τ c (ρ x) (σ x)){o:Option Operand}(h:o.all (fits L T f .any)=true):QR L τ.all (o.map ρ) (o.map σ):=by
 cases o with
 |none=>exact .none
 |some x=>exact .some (hρ .any x h)
theorem TR.args(hρ:∀c x,fits L T f c x=true->CR L τ c (ρ x) (σ x)){xs:Array Operand}(h:AM L T f g xs=true):TR L τ g (xs.map ρ) (xs.map σ):=by
 refine⟨by simp,λi x y hx hy=>?_⟩;rw[Array.getElem?_map]at hx hy;obtain⟨a,ha,rfl⟩:=Rp.1 hx;rw[ha]at hy;cases hy
 have:=List.all_eq_true.1 h i (List.mem_range.2 (Array.getElem?_eq_some_iff.1 ha).1);rw[ha]at this;exact hρ _ a this
theorem pd{xs:Array α}{a b:α}(h:xs.toList= [a,b]):xs=#[a,b]:=by
 obtain⟨l⟩:=xs;simp only at h;subst h;rfl
theorem yl{xs:Array α}{a:α}(h:xs.toList= [a]):xs=#[a]:=by
 obtain⟨l⟩:=xs;simp only at h;subst h;rfl
theorem iR(h:Operand->Value)(a b:Operand):(#[a,b]:Array Operand).map h=#[h a,h b]:=by simp
theorem og(h:Operand->Value)(a:Operand):(#[a]:Array Operand).map h=#[h a]:=by simp
theorem FB(E:Env P L τ)(hfl:Flat T τ)(hρ:∀c x,fits L T f c x=true->CR L τ c (ρ x) (σ x))(b:Builtin){ts:Array TypeId}(t:TypeId)(cs:Array Bool){xs:Array Operand}(hok:sf P L T f c b ts xs=true):
  ae P G L C τ .own (cf L C τ T.fl c) (builtin b ts t cs (xs.map ρ)) (builtin b ts t cs (xs.map σ)):=by
 have hb:=E.bi.toeh;have vown:∀{p q:Sem Value},aU T.fl .own c=true->ae P G L C τ .own (VR L τ.own) p q->ae P G L C τ .own (cf L C τ T.fl c) (do pure (.value (← p))) (do pure (.value (← q))):=λhc h=>lr (h.mono λ_ _ hv=>CR.own hb hfl hc hv);have vany:∀{p q:Sem Value},aU T.fl .any c=true->ae P G L C τ .own (VR L τ.all) p q->ae P G L C τ .own (cf L C τ T.fl c) (do pure (.value (← p))) (do pure (.value (← q))):=λhc h=>lr (h.mono λ_ _ hv=>CR.any hb hfl hc hv);obtain⟨ts⟩:=ts;unfold sf at hok;split at hok
 ·rename_i st xt a d hts hn;obtain rfl:=pd hn;rw[iR ρ,iR σ];simp only[No]at hok;obtain⟨⟨⟨h1,h2⟩,h3⟩,hok⟩:=hok;simp only at hts;subst hts;refine vown h3 (KH E t (λd hd=>?_) (hρ .own a h1) (hρ .any d h2));rw[hd]at hok;cases d<;>first|rfl|cases hok
 ·rename_i st xt a d hts hn;obtain rfl:=pd hn;rw[iR ρ,iR σ];simp only[No]at hok;simp only at hts;subst hts;exact vany hok.2 (GU t (hρ .own a hok.1.1) (hρ .any d hok.1.2))
 ·rename_i xt a hts hn;obtain rfl:=yl hn;rw[og ρ,og σ];simp only[No]at hok;obtain⟨⟨h1,h2⟩,hok⟩:=hok;simp only at hts;subst hts;refine vany h2 (DO t (λd hd=>?_) (hρ .any a h1));rw[hd]at hok;cases d<;>first|exact .inl rfl|exact .inr ⟨_,rfl⟩|cases hok
 ·rename_i a d hn;obtain rfl:=pd hn;rw[iR ρ,iR σ];simp only[No]at hok;exact vany hok.2 (Lm _ _ (hρ .any a hok.1.1) (hρ .any d hok.1.2))
 ·rename_i a d hn;obtain rfl:=pd hn;rw[iR ρ,iR σ];simp only[No]at hok;exact vany hok.2 (EW _ _ (hρ .any a hok.1.1) (hρ .any d hok.1.2))
 ·rename_i a d hn;obtain rfl:=pd hn;rw[iR ρ,iR σ];simp only[No]at hok;exact vany hok.2 (Hm hb _ _ (hρ .own a hok.1.1) (hρ .any d hok.1.2))
 ·cases hok
theorem FX(F:lJ P G L){k₀:Kd}(hf:L.fn g)(hv:v=.func (.func g) #[] #[])(hw:w=.func (.func g) #[] #[])(hx:TR L τ g xs ys)(hr:aU fl (L.res g) c=true)(ha:∀k,L.ar g=some k->xs.size=k):
  ae P G L C τ k₀ (cf L C τ fl c) (do let d ←Deferred.ofValue v xs;invoke d.target d.args) (do let d ←Deferred.ofValue w ys;invoke d.target d.args):=by
 subst hv hw;show ae P G L C τ k₀ (cf L C τ fl c) (callFunc g (#[]++xs++#[])) (callFunc g (#[]++ys++#[]));simp only[Rn,QV];exact pP F hf hx hr ha
theorem yM(E:Env P L τ)(F:lJ P G L)(K:lZ L T)(hfl:Flat T τ)(hg:(∀g,ρ (.func g)=.func (.func g) #[] #[])/\∀g,σ (.func g)=.func (.func g) #[] #[])(hρ:∀c x,fits L T f c x=true->CR L τ c (ρ x) (σ x))(o:Oper)(ho:cj P L T f c o.op=true):
  ae P G L C τ (nQ c o.op) (cf L C τ T.fl c) (execOp ρ o) (execOp σ o):=by
 have hb:=E.bi.toeh;have vown:∀{p q:Sem Value},aU T.fl .own c=true->ae P G L C τ .own (VR L τ.own) p q->ae P G L C τ .own (cf L C τ T.fl c) (do pure (.value (← p))) (do pure (.value (← q))):=λhc h=>lr (h.mono λ_ _ hv=>CR.own hb hfl hc hv);have vany:∀{p q:Sem Value},aU T.fl .any c=true->ae P G L C τ .own (VR L τ.all) p q->ae P G L C τ .own (cf L C τ T.fl c) (do pure (.value (← p))) (do pure (.value (← q))):=λhc h=>lr (h.mono λ_ _ hv=>CR.any hb hfl hc hv);have hA:∀x,fits L T f .any x=true->VR L τ.all (ρ x) (σ x):=λx hx=>hρ .any x hx;have hO:∀x,fits L T f .own x=true->VR L τ.own (ρ x) (σ x):=λx hx=>hρ .own x hx;have hX:∀x,fits L T f .box x=true->VR L τ.box (ρ x) (σ x):=λx hx=>hρ .box x hx;unfold execOp;cases hop:o.op with
 |move x=>rw[hop]at ho;exact .pure (.value (hρ c x ho))
 |assign x=>rw[hop]at ho;exact .pure (.value (hρ c x ho))
 |pick b x y=>
  rw[hop]at ho;simp only[cj,No]at ho;refine ae.bind' (NS (hA b ho.1.1)) ?_;rintro x _ rfl;refine .pure (.value ?_);split
  ·exact hρ c _ ho.1.2
  ·exact hρ c _ ho.2
 |alloc e=>rw[hop]at ho;exact vown ho (IY E e)
 |box e x=>
  rw[hop]at ho;simp only[cj,Q8,No,QS,Bool.not_eq_true',decide_eq_false_iff_not]at ho;rcases ho with⟨rfl,h⟩|⟨⟨hc,hn⟩,h⟩
  ·exact lr (c:=.box) (Pd e (hO x h))
  ·have e1:nQ c (.box e x)=.own:=by simp[nQ,hn]
   rw[e1];exact vown hc (DY e (hA x h))
 |build t ps=>rw[hop]at ho;simp only[cj,No]at ho;exact vany ho.2 (Hl E t (XR.parts hρ ho.1))
 |buildSlice t n ps=>rw[hop]at ho;simp only[cj,No]at ho;exact vown ho.2 (M7 E t n (XR.parts hρ ho.1))
 |load t a=>
  rw[hop]at ho;simp only[cj,Q8,No]at ho;rcases ho with⟨h1,h2⟩|⟨h1,h2⟩
  ·exact vany h2 (DV t (hA a h1))
  ·exact vown h2 (DS t (hX a h1))
 |store t a x=>
  rw[hop]at ho;simp only[cj,Q8,No]at ho;rcases ho with⟨h1,h2⟩|⟨h1,h2⟩
  ·exact q7 (FI t (hO a h1) (hA x h2))
  ·exact q7 (Ei t (hX a h1) (hO x h2))
 |nilCheck x=>
  rw[hop]at ho;simp only[cj,No]at ho;have h:=hρ c x ho.2;dsimp only;revert h
  generalize ρ x=v;generalize σ x=w;intro h;have h':=h;obtain⟨π,hv⟩: ∃π,VR L π v w:=by
   cases c with
   |any=>exact⟨_,h⟩
   |own=>exact⟨_,h⟩
   |box=>exact⟨_,h⟩
   |_=>cases ho.1
  clear h;cases hv with
  |bc=>exact .af _ (.runtimePanic _)
  |nilIface=>exact .af _ (.runtimePanic _)
  |nilFunc=>exact .af _ (.runtimePanic _)
  |aW s=>exact .af _ (show ai (gp P G) (runtimePanic .nilDeref:Sem Next) from .runtimePanic _)
  |_=>exact .pure (.value h')
 |binOp op t x y yt=>
  rw[hop]at ho;simp only[cj,No]at ho;obtain⟨⟨⟨hx,hy⟩,hc⟩,hop2⟩:=ho;have vx:=hA x hx;have vy:=hA y hy;cases op with
  |eql=>
   simp only[No,Bool.not_eq_true']at hop2;exact vany hc (KT E hop2.1 hop2.2 x y vx vy)
  |neq=>
   simp only[No,Bool.not_eq_true']at hop2;exact vany hc (L0 E hop2.1 hop2.2 x y vx vy)
  |add=>exact vany hc (LB E t vx vy)
  |sub=>exact vany hc (Hb E t vx vy)
  |mul=>exact vany hc (Jk E t vx vy)
  |quo=>exact vany hc (PX E t vx vy)
  |rem=>exact vany hc (Mm E t vx vy)
  |and=>exact vany hc (N0 E t vx vy)
  |or=>exact vany hc (Cq E t vx vy)
  |xor=>exact vany hc (EA E t vx vy)
  |shl=>exact vany hc (Om E t vx vy)
  |shr=>exact vany hc (Ga E t vx vy)
  |andNot=>exact vany hc (Ld E t vx vy)
  |lss=>exact vany hc (My E t vx vy)
  |leq=>exact vany hc (Hx E t vx vy)
  |gtr=>exact vany hc (GW E t vx vy)
  |geq=>exact vany hc (LX E t vx vy)
 |unOp op t x=>rw[hop]at ho;simp only[cj,No]at ho;exact vany ho.2 (Lu op (hA x ho.1))
 |convert s d x=>
  rw[hop]at ho;simp only[cj,No]at ho;obtain⟨⟨hx,hcc⟩,hc⟩:=ho;unfold vZ at hc;split at hc
  ·rename_i h1 h2;exact vany hcc (O5 h1 h2 (hA x hx))
  ·rename_i e h1 h2;split at hc
   ·rename_i h3;exact vany hcc (PK h1 h3 h2 (hA x hx))
   ·cases hc
  ·cases hc
 |makeInterface t x=>rw[hop]at ho;simp only[cj,No]at ho;exact vany ho.2 (L7 t (hA x ho.1))
 |makeFunc g a b=>
  rw[hop]at ho;cases g with
  |func g=>
   simp only[cj,Q8,No,QS]at ho;rcases ho with⟨⟨⟨h1,h2⟩,h3⟩,h4⟩|⟨⟨h1,h2⟩,h3⟩
   ·exact vany h4 (NT (K.cb g h1) (XR.args hρ h2) (XR.args hρ h3))
   ·have ea:a=#[]:=by simpa using h1
    subst ea;have hx:=XR.args hρ h2;rcases h3 with⟨⟨h3,rfl⟩,h4⟩|⟨⟨h3,rfl⟩,h4⟩
    ·refine lr (c:=.cO) (.pure (.inr (.inr ⟨g,_,_,by simp,by simp,K.ib g h3,hx,by simpa using h4⟩)))
    ·refine lr (c:=.loc) (.pure (.inr (.inr ⟨g,_,_,by simp,by simp,K.lb g h3,hx,by simpa using h4⟩)))
  |_=>cases ho
 |makeMap t r=>
  rw[hop]at ho;cases r with
  |none=>exact vown ho (O4 t)
  |some x=>cases ho
 |makeSlice t l d=>
  rw[hop]at ho;simp only[cj,No]at ho;exact vown ho.2 (CL E t (hA l ho.1.1) (hA d ho.1.2))
 |slice t x l h m=>
  rw[hop]at ho;simp only[cj,Q8,No]at ho;obtain⟨⟨⟨h1,h2⟩,h3⟩,⟨h4,h5⟩|⟨h4,h5⟩⟩:=ho
  ·exact vany h5 (yP t (hA x h4) (QR.opt hρ h1) (QR.opt hρ h2) (QR.opt hρ h3))
  ·exact vown h5 (yP t (hO x h4) (QR.opt hρ h1) (QR.opt hρ h2) (QR.opt hρ h3))
 |fieldAddr s x i=>
  rw[hop]at ho;simp only[cj,Q8,No]at ho;rcases ho with⟨h1,h2⟩|⟨h1,h2⟩
  ·exact vany h2 (xV (λ_ _ h=>h) s (hA x h1) i)
  ·exact vown h2 (xV hb.own s (hO x h1) i)
 |field t x i=>rw[hop]at ho;simp only[cj,No]at ho;exact vany ho.2 (PW t (hA x ho.1) i)
 |indexAddr t x i=>
  rw[hop]at ho;simp only[cj,Q8,No]at ho;obtain⟨hi,⟨h1,h2⟩|⟨h1,h2⟩⟩:=ho
  ·exact vany h2 (zI t (hA x h1) (hA i hi))
  ·exact vown h2 (zI t (hO x h1) (hA i hi))
 |index t x i=>
  rw[hop]at ho;simp only[cj,No]at ho;exact vany ho.2 (JA t (hA x ho.1.1) (hA i ho.1.2))
 |lookup t x i ok=>
  rw[hop]at ho;simp only[cj,No]at ho;obtain⟨⟨⟨h1,h3⟩,hc⟩,h2⟩:=ho;refine vany hc (Hn E (m:=10) (λk e hk=>?_) (hA x h1) (hA i h3) ok);rw[hk]at h2;exact h2
 |mapUpdate t m k v=>
  rw[hop]at ho;simp only[cj,No]at ho;obtain⟨⟨⟨hm,hk⟩,hv⟩,ht⟩:=ho;split at ht
  ·rename_i h1;split at ht
   ·rename_i h2;exact q7 (Jb hb h1 h2 (hO m hm) (hA k hk) (hA v hv))
   ·cases ht
  ·cases ht
 |range t x=>rw[hop]at ho;simp only[cj,No]at ho;exact vown ho.2 (L5 t (hA x ho.1))
 |next x s=>
  rw[hop]at ho;simp only[cj,No,Bool.not_eq_true']at ho;obtain⟨⟨rfl,hx⟩,hc⟩:=ho;exact vany hc (H9 hb (hO x hx) _)
 |entry x=>rw[hop]at ho;simp only[cj,No]at ho;exact vany ho.2 (F7 (hA x ho.1))
 |typeAssert x a b ok=>rw[hop]at ho;simp only[cj,No]at ho;exact vany ho.2 (Gt E (hA x ho.1) a b ok)
 |extract x i=>rw[hop]at ho;simp only[cj,No]at ho;exact vany ho.2 (OJ (hA x ho.1) i)
 |panic x=>
  refine .af _ (ai.bind' ?_);unfold Instr.panic;split
  ·exact .goPanic _
  ·refine ai.then ?_ λ_=>Bm (.goPanic _) (.runtimePanic _);unfold Instr.panicnil;refine aP.bind (.sys _) λr=>?_;split
   ·exact aP.bind .program λ_=>.pure _
   ·exact (ai.stuck _).iE
  ·exact .stuck _
 |call d=>
  rw[hop]at ho;obtain⟨cal,args,ats⟩:=d;simp only[cj]at ho;cases cal with
  |builtin b=>
   show ae P G L C τ .own (cf L C τ T.fl c) (builtin b ats o.type _ (args.map ρ)) (builtin b ats o.type _ (args.map σ));exact FB E hfl hρ b o.type _ ho
  |value g=>
   cases g with
   |func g=>
    simp only[rK,No]at ho;obtain⟨⟨⟨h1,h2⟩,h3⟩,h4⟩:=ho;exact FX F (K.fb g h1) (hg.1 g) (hg.2 g) (TR.args hρ h2) h3 (λk hk=>by rw[hk]at h4;simpa using h4)
   |tmp i=>
    simp only[rK,No,Q8,QS]at ho;obtain⟨⟨h1,h2⟩,h3⟩:=ho;have ha:=XR.args hρ h2;rcases h1 with (h1|h1)|h1
    ·exact Fb F K h3 (hA (.tmp i) h1) ha
    ·exact E9 F K h3 (hρ .loc (.tmp i) (by simp[fits,aU,h1])) ha
    ·exact JO h3 (hρ .gL (.tmp i) (by simp[fits,aU,h1])) ha
   |_=>cases ho
  |invoke r n=>cases ho
 |_=>rw[hop]at ho;cases ho
end
end
section
open Go.Conc
inductive L2 {α β:Type} (R:α->β->Prop):List α->List β->Prop
 |nil:L2 R [] []
 |cons {a:α} {b:β} {Qw:List α} {bs:List β}:R a b->L2 R Qw bs->L2 R (a::Qw) (b::bs)
def l6(L:au)(f:FuncId)(o:Oper):bh:=(o.dst.map (L.bO f)).getD .any
def xT(P:Program)(L:au)(T:aO)(f:FuncId)(ops:Array Oper):Bool:=ops.all λo=>cj P L T f (l6 L f o) o.op
def cL(P:Program)(L:au)(T:aO)(f:FuncId):Code->Bool
 |.skip|.ret|.exit _|.refuse _=>true
 |.region _ ops _=>xT P L T f ops
 |.seq a b=>cL P L T f a&&cL P L T f b
 |.cond c a b=>fits L T f .any c&&cL P L T f a&&cL P L T f b
 |.block _ c|.loop c=>cL P L T f c
 |.rangeFunc x ps a c=>fits L T f .cO x&&ps.all (λp=>decide (L.bO f p=.any))&&cL P L T f a&&cL P L T f c
 |_=>false
def iH(L:au)(T:aO)(f:FuncId)(fn:Func):Bool:=
 match fn.results.toList with
 |[.tmp t]=>aU T.fl (L.bO f t) (L.res f)
 |rs=>aU T.fl .any (L.res f)&&rs.all λr=>match r with|.tmp t=>aU T.fl (L.bO f t) .any|.cell a _=>aU T.fl (L.bO f a) .any
section
variable (P:Program) (G:Array Func) (L:au) (T:aO) (τ:ah)
abbrev CC:FuncId->Code->Prop:=λf c=>cL P L T f c=true/\f≠T.bj
inductive dO (f:FuncId):Item->Item->Prop
 |code {c:Code}:cL P L T f c=true->dO f (.code c) (.code c)
 |inBlock (id:Nat):dO f (.inBlock id) (.inBlock id)
 |inLoop {c:Code}:cL P L T f c=true->dO f (.inLoop c) (.inLoop c)
 |inRegion {ops:Array Oper} (todo:List Nat):xT P L T f ops=true->dO f (.inRegion ops todo) (.inRegion ops todo)
 |inRangeFunc {l m:Nat}:τ.lp l m->dO f (.inRangeFunc l) (.inRangeFunc m)
 |endRangeFunc {l m:Nat}:τ.lp l m->dO f (.endRangeFunc l) (.endRangeFunc m)
 |beginRound:dO f .beginRound .beginRound
inductive gm:Deferred->Deferred->Prop
 |collected {r s:Nat}:τ.lp r s->gm {target:=.collected r,args:=#[]} {target:=.collected s,args:=#[]}
structure bl(fr gr:Frame):Prop where
 fn:gr.fn=fr.fn
 br:L.fn fr.fn
 np:fr.fn≠T.bj
 tmps:TR L τ fr.fn fr.tmps gr.tmps
 todo:L2 (dO P L T τ fr.fn) fr.todo gr.todo
 defers:L2 (gm τ) fr.defers gr.defers
 mode:gr.mode=fr.mode
 run:fr.mode=.run\/(fr.mode=.returning/\fr.roundOf=none)
 kind:fr.kind=.normal/\gr.kind=.normal
 round:NR τ.lp fr.roundOf gr.roundOf
inductive fM:Frame->Frame->Prop
 |run {fr gr:Frame}:bl P L T τ fr gr->fM fr gr
 |bj {xs ys:Array Value}:L.fn T.bj->TR L τ T.bj xs ys->(∀k,L.ar T.bj=some k->xs.size=k)->fM (Frame.enter (gp P G) T.bj xs .normal) (Frame.enter P T.bj ys .normal)
def fw(L:au)(fr:Frame):bh:=if fr.roundOf.isSome then .any else L.res fr.fn
def rl(c:bh)(fr:Frame):Prop:=∀ops i rest k d,fr.todo=.inRegion ops (i::rest)::k->(ops[i]?).bind (·.dst)=some d->aU T.fl c (L.bO fr.fn d)=true
inductive fe:bh->List Frame->List Frame->Prop
 |nil (c:bh):fe c [] []
 |cons {c:bh} {fr gr:Frame} {cs ds:List Frame}:bl P L T τ fr gr->rl L T c fr->fe (fw L fr) cs ds->fe c (fr::cs) (gr::ds)
def gJ:Frame->List Frame->Prop
 |fr,[]=>fr.roundOf=none
 |_,c::cs=>gJ c cs
structure GR(B D:List Frame)(g h:Goroutine):Prop where
 frame:fM P G L T τ g.frame h.frame
 status:g.status=.running/\h.status=.running
 dying:g.dying=none/\h.dying=none
 offers:g.offers=none/\h.offers=none
 callers: ∃cs ds,g.callers=cs++B/\h.callers=ds++D/\fe P L T τ (fw L g.frame) cs ds/\gJ g.frame cs
structure Let:Prop where
 body:∀f,L.fn f->f≠T.bj->∃fn c,P.funcs[f]?=some fn/\G[f]?=some fn/\fn.body=some c/\cL P L T f c=true/\iH L T f fn=true
 plain:∀f,L.fn f->(∃fn,P.funcs[f]?=some fn/\(fn.name== "runtime.NumGoroutine")=false/\fn.body.isNone=false/\fn.norace=false)/\(∃fn,G[f]?=some fn/\(fn.name== "runtime.NumGoroutine")=false/\fn.body.isNone=false/\fn.norace=false)
 mW:lZ L T
 ahead:P.follows .staticDataAhead=true
 qy:∀g,(gp P G).stepOf g=none
end
section
variable {P:Program}{G:Array Func}{L:au}{T:aO}{τ:ah}{k₀:Kd}{N:Nat}{B D:List Frame}
theorem Let.nj(K:Let P G L T):lJ P G L:=λf hf=>by
 obtain⟨⟨fn,h1,h2,h3,_⟩,⟨gn,g1,g2,g3,_⟩⟩:=K.plain f hf;exact⟨⟨fn,h1,h2,h3⟩,⟨gn,g1,g2,g3⟩⟩
theorem Let.norace(K:Let P G L T){f:FuncId}(hf:L.fn f):(P.funcs[f]?).any (·.norace)=false/\((gp P G).funcs[f]?).any (·.norace)=false:=by
 obtain⟨⟨fn,h1,_,_,h4⟩,⟨gn,g1,_,_,g4⟩⟩:=K.plain f hf;exact⟨by rw[h1];exact h4,by rw[wK,g1];exact g4⟩
structure fF(g:Goroutine):Prop where
 status:g.status=.running
 dying:g.dying=none
 mode:∀c,g.frame.mode≠.panicking c
 kind:g.frame.kind=.normal
def cH(P:Program)(G:Array Func)(L:au)(T:aO)(τ:ah)(k₀:Kd)(N:Nat)(B D:List Frame)(w v:World)(s t:GStep):Prop:=
 ∀g1 w1 es,s=.go g1 w1 es->fF g1->w1.heap.size<=N->(∀j q,w.drawn+j<w1.drawn->v.tape (v.drawn+j) q=w.tape (w.drawn+j) q)->
  ∃h1 v1 fs,t=.go h1 v1 fs/\GR P G L T τ B D g1 h1/\bV L (CC P L T) τ k₀ N w v w1 v1 #[] #[] es fs
theorem cH.go{w v:World}{g h:Goroutine}(hs:Sync L (CC P L T) τ k₀ N w v)(hg:GR P G L T τ B D g h):cH P G L T τ k₀ N B D w v (.go g w) (.go h v):=by
 intro g1 w1 es e _ _ _;cases e;exact⟨h,v,#[],rfl,hg,.refl hs⟩
theorem cH.ended{w v:World}{o:Outcome}{x:World}{t:GStep}:cH P G L T τ k₀ N B D w v (.ended o x es) t:=by
 intro g1 w1 es e;cases e
theorem qO{zs:Array (Event×Event)}(h:∀z∈zs,gQ τ z.1 z.2):(∀e∈zs.map (·.1),∀f,e.loc≠.mark (.extern f))/\∀e∈zs.map (·.2),∀f,e.loc≠.mark (.extern f):=by
 constructor
 ·intro e he f;obtain⟨⟨z1,z2⟩,hz,rfl⟩:=Array.mem_map.1 he;have hx:gQ τ z1 z2:=h _ hz;cases hx<;>simp
 ·intro e he f;obtain⟨⟨z1,z2⟩,hz,rfl⟩:=Array.mem_map.1 he;have hx:gQ τ z1 z2:=h _ hz;cases hx<;>simp
theorem cH.dh(K:Let P G L T)(hb:Fit τ)(hd:∀r s,τ.un r s->r<N){w v:World}(hs:Sync L (CC P L T) τ k₀ N w v){R:α->β->Prop}{p:Sem α}{q:Sem β}(h:ae P G L (CC P L T) τ k₀ R p q){f f':FuncId}(hf:L.fn f)(hf':L.fn f'){k:Result α->GStep}{l:Result β->GStep}(hh:∀hh w',∀g1 w1 es,k (.halt hh w')=.go g1 w1 es->¬fF g1)(hw:∀a w1 g1 w2 es,k (.ok a w1)=.go g1 w2 es->w2=w1/\es=#[])(hk:∀a b w1 v1,R a b->∀g1,k (.ok a w1)=.go g1 w1 #[]->fF g1->∃h1,l (.ok b v1)=.go h1 v1/\GR P G L T τ B D g1 h1):
  cH P G L T τ k₀ N B D w v (GStep.after (seen (gp P G) f (p.runT (gp P G) w #[]).2) (k (p.runT (gp P G) w #[]).1)) (GStep.after (seen P f' (q.runT P v #[]).2) (l (q.runT P v #[]).1)):=by
 intro g1 w1 es e hfi hN ht;cases hr:p.runT (gp P G) w #[] with
 |mk r es0=>
  rw[hr]at e;cases r with
  |halt hx w'=>
   exfalso;simp only at e;cases hkk:k (.halt hx w') with
   |go g' w'' es'=>
    rw[hkk]at e;simp only[GStep.after,GStep.go.injEq]at e;obtain⟨rfl,rfl,_⟩:=e;exact hh hx w' _ _ _ hkk hfi
   |_=>rw[hkk]at e;cases e
  |ok a w'=>
   simp only at e;cases hkk:k (.ok a w') with
   |go g' w'' es'=>
    rw[hkk]at e;simp only[GStep.after,GStep.go.injEq]at e;obtain⟨rfl,rfl,rfl⟩:=e;obtain⟨rfl,rfl⟩:=hw _ _ _ _ _ hkk;obtain⟨b,v1,fs1,e1,hR,hB⟩:=h.oJ hb w v #[] #[] a w'' es0 hs hr hN ht hd;obtain⟨h1,e2,hG⟩:=hk a b w'' v1 hR _ hkk hfi;obtain⟨zs,z1,z2,z3⟩:=hB.events;have hne:=qO z3;have q1:seen (gp P G) f es0=es0:=seen_eq (K.norace hf).2 (by rw[z1];simpa using hne.1);have q2:seen P f' fs1=fs1:=seen_eq (K.norace hf').1 (by rw[z2];simpa using hne.2);refine⟨h1,v1,fs1,?_,hG,?_⟩
    ·rw[e1];simp only[e2,GStep.after,q2,QV]
    ·rw[q1,QV];exact hB
   |_=>rw[hkk]at e;cases e
end
end
section
open Go.Conc
section
variable {P:Program}{G:Array Func}{L:au}{T:aO}{τ:ah}{k₀:Kd}{N:Nat}{B D:List Frame}
theorem bl.eval(K:Let P G L T)(hb:eh τ)(hfl:Flat T τ){fr:Frame}(h:bl P L T τ fr gr)(c:bh)(x:Operand)(hx:fits L T fr.fn c x=true):CR L τ c (fr.eval x) (gr.eval x):=by
 cases x with
 |tmp t=>exact CR.fit hb hfl hx (h.tmps.getD t)
 |const v=>
  simp only[fits,Q8,No]at hx;rcases hx with⟨h1,h2⟩|⟨h1,h2⟩
  ·exact CR.vH h2 λπ=>.ofConst h1
  ·cases v<;>first|(cases h2;done)|skip
   cases c with
   |cO=>exact .inr (.inl ⟨rfl,rfl⟩)
   |loc=>exact .inr (.inl ⟨rfl,rfl⟩)
   |_=>cases h1
 |func f=>
  simp only[fits,No]at hx;exact CR.vH hx.2 λπ=>.Gi (K.mW.cb f hx.1)
 |global g=>
  simp only[fits,No,QS]at hx;exact CR.any hb hfl hx.2 (.ptr ⟨hfl.2 g hx.1,rfl,rfl⟩)
theorem bl.to{fr:Frame}(h:bl P L T τ fr gr){l:List Item}(hk:L2 (dO P L T τ fr.fn) k l):bl P L T τ {fr with todo:=k} {gr with todo:=l}:=
 ⟨h.fn,h.br,h.np,h.tmps,hk,h.defers,h.mode,h.run,h.kind,h.round⟩
theorem bl.leave{fr:Frame}(h:bl P L T τ fr gr)(hr:fr.roundOf=none):bl P L T τ {fr with mode:=.returning} {gr with mode:=.returning}:=
 ⟨h.fn,h.br,h.np,h.tmps,h.todo,h.defers,rfl,.inr ⟨rfl,hr⟩,h.kind,h.round⟩
theorem bl.finish(hb:eh τ)(hfl:Flat T τ){fr:Frame}(h:bl P L T τ fr gr){c:bh}(hc:rl L T c fr)(hv:CR L τ c v w):bl P L T τ (fr.finish v) (gr.finish w):=by
 have ht:=h.todo;have ht':=h.tmps;unfold Frame.finish;generalize e1:fr.todo=k at ht;generalize e2:gr.todo=l at ht;cases ht with
 |nil=>exact h
 |cons hi hk=>
  cases hi with
  |@inRegion ops todo hops=>
   cases todo with
   |nil=>exact h
   |cons i rest=>
    dsimp only;refine⟨h.fn,h.br,h.np,?_,.cons (.inRegion rest hops) hk,h.defers,h.mode,h.run,h.kind,h.round⟩;cases hd:(ops[i]?).bind (·.dst) with
    |none=>exact ht'
    |some d=>exact ht'.set (CR.fit hb hfl (hc ops i rest _ d e1 hd) hv)
  |inRangeFunc hl=>exact⟨h.fn,h.br,h.np,ht',.cons (.endRangeFunc hl) hk,h.defers,h.mode,h.run,h.kind,h.round⟩
  |beginRound=>exact⟨h.fn,h.br,h.np,ht',hk,h.defers,h.mode,h.run,h.kind,h.round⟩
  |_=>exact h
theorem bl.vk{fr:Frame}(h:bl P L T τ fr gr):bl P L T τ (fr.finish undef) (gr.finish undef):=by
 have ht:=h.todo;have ht':=h.tmps;unfold Frame.finish;generalize e1:fr.todo=k at ht;generalize e2:gr.todo=l at ht;cases ht with
 |nil=>exact h
 |cons hi hk=>
  cases hi with
  |@inRegion ops todo hops=>
   cases todo with
   |nil=>exact h
   |cons i rest=>
    dsimp only;refine⟨h.fn,h.br,h.np,?_,.cons (.inRegion rest hops) hk,h.defers,h.mode,h.run,h.kind,h.round⟩;cases hd:(ops[i]?).bind (·.dst) with
    |none=>exact ht'
    |some d=>exact ht'.set (CR.undef _)
  |inRangeFunc hl=>exact⟨h.fn,h.br,h.np,ht',.cons (.endRangeFunc hl) hk,h.defers,h.mode,h.run,h.kind,h.round⟩
  |beginRound=>exact⟨h.fn,h.br,h.np,ht',hk,h.defers,h.mode,h.run,h.kind,h.round⟩
  |_=>exact h
theorem nG(fr:Frame)(v:Value):(fr.finish v).roundOf=fr.roundOf:=by
 unfold Frame.finish;split<;>rfl
theorem Mu(fr:Frame)(v:Value):(fr.finish v).fn=fr.fn:=by
 unfold Frame.finish;split<;>rfl
theorem o6(fr:Frame)(v:Value):fw L (fr.finish v)=fw L fr:=by
 unfold fw;rw[nG,Mu]
theorem qp(fr:Frame)(v:Value):(fr.finish v).mode=fr.mode:=by
 unfold Frame.finish;split<;>rfl
theorem gJ.same{fr:Frame}(h:gJ fr cs)(e:gr.roundOf=fr.roundOf):gJ gr cs:=by
 cases cs with
 |nil=>exact e.trans h
 |cons c cs=>exact h
theorem Cz{f:FuncId}{ops:Array Oper}(h:TR L τ f xs ys)(j:Nat):yielded ops ys j=yielded ops xs j:=by
 unfold yielded;cases (ops[j]?).bind (·.dst) with
 |none=>rfl
 |some d=>
  simp only[RU];by_cases hi:d<xs.size
  ·have hj:d<ys.size:=by rw[h.1];exact hi
   rw[Array.getElem?_eq_getElem hi,Array.getElem?_eq_getElem hj];have hc:=h.2 d _ _ (Array.getElem?_eq_getElem hi) (Array.getElem?_eq_getElem hj);revert hc
   generalize xs[d]=x;generalize ys[d]=y;generalize L.bO f d=c;intro hc;have fun_:∀{p n},la L p n τ x y->(match some y with|some (.bool b)=>some b|_=>none)=(match some x with|some (.bool b)=>some b|_=>none):=by
    rintro p n (⟨rfl,rfl⟩|⟨rfl,rfl⟩|⟨_,_,_,rfl,rfl,_⟩)<;>rfl
   have vr:∀{π},VR L π x y->(match some y with|some (.bool b)=>some b|_=>none)=(match some x with|some (.bool b)=>some b|_=>none):=λhv=>by
    cases hv with
    |aW s a b c=>
     dsimp only;cases hj:L.aW s<;>first|rfl|exact absurd hj (c _)
    |_=>rfl
   cases c with
   |any=>exact vr hc
   |own=>exact vr hc
   |box=>exact vr hc
   |gL=>rcases hc with⟨rfl,rfl⟩|⟨_,_,rfl,rfl,_⟩<;>rfl
   |cO=>exact fun_ hc
   |loc=>exact fun_ hc
  ·have h1:xs.size<=d:=Nat.le_of_not_lt hi;have h2:ys.size<=d:=by rw[h.1];exact h1
   rw[Array.getElem?_eq_none h1,Array.getElem?_eq_none h2]
theorem bl.enter(K:Let P G L T){f:FuncId}(hf:L.fn f)(hn:f≠T.bj){xs ys:Array Value}(h:TR L τ f xs ys):bl P L T τ (Frame.enter (gp P G) f xs .normal) (Frame.enter P f ys .normal):=by
 obtain⟨fn,c,h1,g1,h2,h3,_⟩:=K.body f hf hn;unfold Frame.enter;rw[wK,h1,g1];simp only[Q7,RM,RU,h2];refine⟨rfl,hf,hn,?_,.cons (.code h3) .nil,.nil,rfl,.inl rfl,⟨rfl,rfl⟩,trivial⟩;rw[h.size];exact h.pad _
theorem fM.enter(K:Let P G L T){f:FuncId}(hf:L.fn f){xs ys:Array Value}(h:TR L τ f xs ys)(ha:∀k,L.ar f=some k->xs.size=k):fM P G L T τ (Frame.enter (gp P G) f xs .normal) (Frame.enter P f ys .normal):=by
 by_cases hn:f=T.bj
 ·subst hn;exact .bj hf h ha
 ·exact .run (bl.enter K hf hn h)
theorem bl.FL(hl:τ.lp l m){f:FuncId}(hf:L.fn f)(hn:f≠T.bj)(h:TR L τ f xs ys){a b:Code}(ha:cL P L T f a=true)(hb:cL P L T f b=true):
  bl P L T τ (Frame.round l f xs a b .normal) (Frame.round m f ys a b .normal):=
 ⟨rfl,hf,hn,h,.cons (.code ha) (.cons .beginRound (.cons (.code hb) .nil)),.nil,rfl,.inl rfl,⟨rfl,rfl⟩,hl⟩
theorem zl{f:FuncId}{l:List Item}(h:L2 (dO P L T τ f) k l):(match k with|.call _ true _ _::_=>CallKind.wrapped|_=>CallKind.normal)=.normal/\(match l with|.call _ true _ _::_=>CallKind.wrapped|_=>CallKind.normal)=.normal:=by
 cases h with
 |nil=>exact⟨rfl,rfl⟩
 |cons hi _=>cases hi<;>exact⟨rfl,rfl⟩
theorem JJ{fr:Frame}{m:String}{w:World}(h:GStep.after es0 (endFatal Q fr cs none m w)=.go g1 w1 es):g1.dying≠none:=by
 unfold endFatal at h;dsimp only at h;split at h
 ·simp only[dieOf,GStep.after,GStep.go.injEq]at h;obtain⟨rfl,_⟩:=h;simp
 ·cases h
 ·cases h
theorem Po(hah:Q.follows .staticDataAhead=true)(hns:∀g,Q.stepOf g=none){fr:Frame}{g:Nat}{w':World}(h:GStep.after es0 (early Q fr cs none g w')=.go g1 w1 es):False:=by
 unfold early at h;simp only[hah,hns]at h;cases h
theorem sI(hah:Q.follows .staticDataAhead=true)(hns:∀g,Q.stepOf g=none){fr:Frame}(hk:fr.kind=.normal){p:Sem Next}{w:World}(e:stepG.apply Q true fr cs none p w=.go g1 w1 es)(hfi:fF g1):
  ∃a es0,p.runT Q w #[]=(.ok a w1,es0):=by
 have hst:=hfi.status;have hmd:=hfi.mode;have hke:(fr.kind==CallKind.early)=false:=by rw[hk];rfl
 cases hr:p.runT Q w #[] with
 |mk r es0=>
  cases r with
  |halt hx w'=>
   exfalso;simp only[stepG.apply,QD,hr,hke,QF,QC]at e;cases hx with
   |panic x=>
    simp only[GStep.after,GStep.go.injEq]at e;obtain⟨rfl,_⟩:=e;unfold Frame.raise at hmd;split at hmd<;>exact hmd _ rfl
   |goexit=>
    simp only[GStep.after,GStep.go.injEq]at e;obtain⟨rfl,_⟩:=e;unfold Frame.raise at hmd;split at hmd<;>exact hmd _ rfl
   |blocked=>
    simp only[GStep.after,GStep.go.injEq]at e;obtain⟨rfl,_⟩:=e;cases hst
   |waiting=>
    simp only[GStep.after,GStep.go.injEq]at e;obtain⟨rfl,_⟩:=e;cases hst
   |exit c=>cases e
   |fatal m=>exact absurd hfi.dying (JJ e)
   |throw m=>
    simp only[endThrow,dieOf,GStep.after,GStep.go.injEq]at e;obtain⟨rfl,_⟩:=e;cases hfi.dying
   |stuck m=>cases e
   |unsupported u=>
    cases u with
    |initOrder g=>exact Po hah hns e
    |_=>cases e
  |ok a w'=>
   have hw:w1=w':=by
    simp only[stepG.apply,QD,hr,hke,QF,QC]at e;cases a<;>dsimp only at e<;>first
     |(simp only[GStep.after,GStep.go.injEq]at e;exact e.2.1.symm)
     |(cases e;done)
     |(split at e<;>(try split at e)<;>first|(simp only[GStep.after,GStep.go.injEq]at e;exact e.2.1.symm)|(simp only[endThrow,dieOf,GStep.after,GStep.go.injEq]at e;exact e.2.1.symm)|(cases e;done))
   subst hw;exact⟨a,es0,rfl⟩
def sE(L:au)(c:bh)(fr:Frame):Prop:=∀ops i rest k d,fr.todo=.inRegion ops (i::rest)::k->(ops[i]?).bind (·.dst)=some d->L.bO fr.fn d=c
theorem sE.fin{c:bh}{fr:Frame}(h:sE L c fr)(hf:aU T.fl d c=true):rl L T d fr:=λops i rest k e h1 h2=>by rw[h ops i rest k e h1 h2];exact hf
theorem uh(fl:Bool)(c:bh):aU fl c c=true:=by simp[aU]
theorem cH.apply(K:Let P G L T)(hb:Fit τ)(hfl:Flat T τ)(hd:∀r s,τ.un r s->r<N){w v:World}(hs:Sync L (CC P L T) τ k₀ N w v){fr:Frame}(hfr:bl P L T τ fr gr){ds:List Frame}(hcs:fe P L T τ (fw L fr) cs ds)(hbot:gJ fr cs){c:bh}(hc:sE L c fr){p q:Sem Next}(h:ae P G L (CC P L T) τ k₀ (cf L (CC P L T) τ T.fl c) p q):
  cH P G L T τ k₀ N B D w v (stepG.apply (gp P G) true fr (cs++B) none p w) (stepG.apply P true gr (ds++D) none q v):=by
 intro g1 w1 es e hfi hN ht;have hke:(fr.kind==CallKind.early)=false/\(gr.kind==CallKind.early)=false:=by rw[hfr.kind.1,hfr.kind.2];exact⟨rfl,rfl⟩
 have hkn:=zl hfr.todo;obtain⟨a,es0,hr⟩:=sI (Q:=gp P G) K.ahead K.qy hfr.kind.1 e hfi;obtain⟨b,v1,fs1,e1,hR,hB⟩:=h.oJ hb w v #[] #[] a w1 es0 hs hr hN ht hd;obtain⟨zs,z1,z2,z3⟩:=hB.events;have hne:=qO z3;have q1:seen (gp P G) fr.fn es0=es0:=seen_eq (K.norace hfr.br).2 (by rw[z1];simpa using hne.1);have q2:seen P gr.fn fs1=fs1:=seen_eq (K.norace (by rw[hfr.fn];exact hfr.br)).1 (by rw[z2];simpa using hne.2);simp only[stepG.apply,QD,hr,hke.1,QF,QC,q1]at e;cases hR with
 |@value x y hv=>
  simp only[GStep.after,GStep.go.injEq,QV]at e;obtain⟨rfl,_,rfl⟩:=e;refine⟨{frame:=gr.finish y,callers:=ds++D,status:=.running,dying:=none},v1,fs1,?_,?_,hB⟩
  ·simp only[stepG.apply,QD,e1,hke.2,QF,QC,q2,GStep.after,QV]
  ·exact⟨.run (hfr.finish hb.toeh hfl (hc.fin (uh _ _)) hv),⟨rfl,rfl⟩,⟨rfl,rfl⟩,⟨rfl,rfl⟩,cs,ds,rfl,rfl,by rw[o6];exact hcs,hbot.same (nG _ _)⟩
 |skip=>
  simp only[GStep.after,GStep.go.injEq,QV]at e;obtain⟨rfl,_,rfl⟩:=e;refine⟨{frame:=gr.finish undef,callers:=ds++D,status:=.running,dying:=none},v1,fs1,?_,?_,hB⟩
  ·simp only[stepG.apply,QD,e1,hke.2,QF,QC,q2,GStep.after,QV]
  ·exact⟨.run hfr.vk,⟨rfl,rfl⟩,⟨rfl,rfl⟩,⟨rfl,rfl⟩,cs,ds,rfl,rfl,by rw[o6];exact hcs,hbot.same (nG _ _)⟩
 |@enter f xs ys hf hx hres har=>
  simp only[GStep.after,GStep.go.injEq,QV]at e;obtain⟨rfl,_,rfl⟩:=e;refine⟨{frame:=Frame.enter P f ys .normal,callers:=gr::(ds++D),status:=.running,dying:=none},v1,fs1,?_,?_,hB⟩
  ·simp only[stepG.apply,QD,e1,hke.2,QF,QC,q2,GStep.after,QV];exact congrArg (λk=>GStep.go {frame:=Frame.enter P f ys k,callers:=gr::(ds++D),status:=.running,dying:=none} v1 fs1) hkn.2
  ·refine⟨?_,⟨rfl,rfl⟩,⟨rfl,rfl⟩,⟨rfl,rfl⟩,fr::cs,gr::ds,rfl,rfl,.cons hfr (hc.fin hres) hcs,hbot⟩;exact cast (congrArg (λk=>fM P G L T τ (Frame.enter (gp P G) f xs k) (Frame.enter P f ys .normal)) hkn.1.symm) (fM.enter K hf hx har)
 |@round l m f xs ys a b hl hf hx ha hbd hres=>
  simp only[GStep.after,GStep.go.injEq,QV]at e;obtain⟨rfl,_,rfl⟩:=e;refine⟨{frame:=Frame.round m f ys a b .normal,callers:=gr::(ds++D),status:=.running,dying:=none},v1,fs1,?_,?_,hB⟩
  ·simp only[stepG.apply,QD,e1,hke.2,QF,QC,q2,GStep.after,QV]
  ·exact⟨.run (bl.FL hl hf ha.2 hx ha.1 hbd.1),⟨rfl,rfl⟩,⟨rfl,rfl⟩,⟨rfl,rfl⟩,fr::cs,gr::ds,rfl,rfl,.cons hfr (hc.fin hres) hcs,hbot⟩
end
end
end Go.Proofs.YtldmcdeibiclkaaGreat.U
