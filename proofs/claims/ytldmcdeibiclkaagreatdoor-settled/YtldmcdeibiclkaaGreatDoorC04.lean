/-
  Toward settled_holds: append, SIDE BY SIDE.
-/
import Derived.Test.YtldmcdeibiclkaaGreatDoorC03
import Derived.Conc.Listed
set_option linter.unusedVariables false
set_option linter.unusedSimpArgs false
set_option maxRecDepth 100000
set_option maxHeartbeats 20000000
namespace Go.Proofs.YtldmcdeibiclkaaGreatDoor.U
variable {v w:Value}{xs ys:Array Value}{fl:Bool}{gr:Frame}{cs:List Frame}{α β:Type}{l m r s:Nat}{es es0:Array Event}{Q:Program}{w1:World}{g1:Goroutine}{d:bO}{g:FuncId}{k:List Item}
section
section
variable {P:Program}{G:Array Func}{L:aA}{C:FuncId->Code->Prop}{τ:ai}
theorem mild_holds(a:Addr)(n:Nat):aT (gp P G) (Builtin.holdsCells a n):=by
 unfold Builtin.holdsCells;refine aT.bind (.shape _) λx=>?_;split<;>exact .pure _
theorem sY(size sl n:Nat)(base:Option Addr)(x:Value):aT (gp P G) (Builtin.mayShare size sl n base x):=by
 have rest:∀b:Bool,aT (gp P G) (if (!b)=true then pure true else (match x with
   |.slice (some b) _ _=>do pure (!(← Builtin.holdsCells b (n*size))||base.any (·.block==b.block))
   |_=>pure false)):=λb=>by
  refine aT.ite (.pure _) ?_;split
  ·exact aT.bind (mild_holds _ _) λ_=>.pure _
  ·exact .pure _
 unfold Builtin.mayShare;cases base with
 |none=>exact aT.bind (p:=pure true) (.pure _) λb=>rest b
 |some a=>exact aT.bind (mild_holds _ _) λ_=>aT.bind (.frozen _) λ_=>aT.bind (p:=pure _) (.pure _) λb=>rest b
theorem Lr(E:Env P L τ){st xt:TypeId}(t:TypeId)(hz:∀d,P.underlying xt=some d->(d matches .int _)=false){x y:Value}(hv:VR L τ.own v w)(hx:VR L τ.all x y):
  ae P G L C τ .own (VR L τ.own) (Builtin.append_ #[st,xt] t #[v,x]) (Builtin.append_ #[st,xt] t #[w,y]):=by
 have hv':=hv.mono E.bi.own;unfold Builtin.append_;show ae P G L C τ .own (VR L τ.own) (underlying st >>=_) (underlying st >>=_);refine ae.bind' (cT st) ?_;rintro d _ ⟨rfl,_⟩;cases d with
 |slice elem=>
  cases hv with
  |iE sl sc=>
   refine ae.bind' (eR elem) ?_;rintro size _ rfl;refine ae.bind' (p:=underlying xt) (q:=underlying xt) (cT xt) ?_;rintro d _ ⟨rfl,hd⟩;refine ae.bind' (.pure (R:=λa b=>a=false/\b=false) ⟨hz d hd,hz d hd⟩) ?_;rintro _ _ ⟨rfl,rfl⟩;refine ae.bind' (p:=Builtin.lenOf x) (q:=Builtin.lenOf y) (tV hx) ?_;rintro n _ rfl;try dsimp only
   split
   ·refine ae.bind' (p:=Builtin.firstCells size n x) (q:=Builtin.firstCells size n y) (mE size n hx) λxs ys hxs=>?_;exact .pure (.iE _ _)
   ·refine ae.bind' (kp elem) ?_;rintro i _ ⟨rfl,_⟩;try dsimp only
    split
    ·exact .af _ (ak.bind' (.runtimePanic _))
    ·refine ae.bind' (kp elem) ?_;rintro i _ ⟨rfl,_⟩;try dsimp only
     split
     ·refine .af _ ?_;first
      |(refine ak.bind' ?_
        refine ak.then (p:=Builtin.mayShare size sl n _ _) (sY _ _ _ _ _) λb=>?_;cases b<;>first|exact ak.unsupported _|exact ak.then (.mark _) λ_=>ak.unsupported _)
      |(refine ak.then (p:=Builtin.mayShare size sl n _ _) (sY _ _ _ _ _) λb=>?_
        cases b<;>first|exact ak.bind' (.unsupported _)|exact ak.then (.mark _) λ_=>ak.bind' (.unsupported _))
     ·refine ae.bind' (sD _) ?_;rintro cap _ rfl;refine ae.bind' (kp elem) ?_;rintro i _ ⟨rfl,_⟩;refine ae.bind' (yf _) λ_ _ _=>?_;refine ae.bind' (mE size _ hv') λus vs hus=>?_;refine ae.bind' (p:=Builtin.firstCells size n x) (q:=Builtin.firstCells size n y) (mE size n hx) λxs ys hxs=>?_;refine ae.bind' (ni E elem) λz z' hzz=>?_;exact ae.bind' (oF elem ((hus.append hxs).append (hzz.cells.zeroCells _))) λa b hab=>.pure (.slice _ _ hab)
  |@slice a b sl sc hab=>
   refine ae.bind' (eR elem) ?_;rintro size _ rfl;refine ae.bind' (p:=underlying xt) (q:=underlying xt) (cT xt) ?_;rintro d _ ⟨rfl,hd⟩;refine ae.bind' (.pure (R:=λa b=>a=false/\b=false) ⟨hz d hd,hz d hd⟩) ?_;rintro _ _ ⟨rfl,rfl⟩;refine ae.bind' (p:=Builtin.lenOf x) (q:=Builtin.lenOf y) (tV hx) ?_;rintro n _ rfl;try dsimp only
   split
   ·refine ae.bind' (p:=Builtin.firstCells size n x) (q:=Builtin.firstCells size n y) (mE size n hx) λxs ys hxs=>?_;exact ae.bind' (zB (hab.add _) hxs) λ_ _ _=>.pure (.slice _ _ hab)
   ·refine ae.bind' (kp elem) ?_;rintro i _ ⟨rfl,_⟩;try dsimp only
    split
    ·exact .af _ (ak.bind' (.runtimePanic _))
    ·refine ae.bind' (kp elem) ?_;rintro i _ ⟨rfl,_⟩;try dsimp only
     split
     ·refine .af _ ?_;first
      |(refine ak.bind' ?_
        refine ak.then (p:=Builtin.mayShare size sl n _ _) (sY _ _ _ _ _) λb=>?_;cases b<;>first|exact ak.unsupported _|exact ak.then (.mark _) λ_=>ak.unsupported _)
      |(refine ak.then (p:=Builtin.mayShare size sl n _ _) (sY _ _ _ _ _) λb=>?_
        cases b<;>first|exact ak.bind' (.unsupported _)|exact ak.then (.mark _) λ_=>ak.bind' (.unsupported _))
     ·refine ae.bind' (sD _) ?_;rintro cap _ rfl;refine ae.bind' (kp elem) ?_;rintro i _ ⟨rfl,_⟩;refine ae.bind' (yf _) λ_ _ _=>?_;refine ae.bind' (mE size _ hv') λus vs hus=>?_;refine ae.bind' (p:=Builtin.firstCells size n x) (q:=Builtin.firstCells size n y) (mE size n hx) λxs ys hxs=>?_;refine ae.bind' (ni E elem) λz z' hzz=>?_;exact ae.bind' (oF elem ((hus.append hxs).append (hzz.cells.zeroCells _))) λa b hab=>.pure (.slice _ _ hab)
  |_=>exact .am
 |_=>exact .am
end
end
section
def bh(fl:Bool)(c d:bO):Bool:=decide (c=d)||(decide (c=.own)&&decide (d=.any))||(fl&&decide (c=.any)&&decide (d=.own))
def tF:bO->Bool
 |.any|.own|.box=>true
 |_=>false
def T0:bO->Bool
 |.dV|.loc=>true
 |_=>false
structure aN where
 fl:Bool
 fb:FuncId->Bool
 cb:FuncId->Bool
 ib:FuncId->Bool
 lb:FuncId->Bool
 bU:FuncId
 ng:Nat
structure nX(L:aA)(T:aN):Prop where
 fb:∀f,T.fb f=true->L.fn f
 cb:∀f,T.cb f=true->L.fG f
 ib:∀f,T.ib f=true->L.dV f
 lb:∀f,T.lb f=true->L.loc f
 fG:∀f,L.fG f->L.fn f/\(∀i,L.cY f i=.any)/\L.res f=.any
 loc:∀f,L.loc f->L.fn f/\(∀i,L.cY f i=.any)/\L.res f=.any
 ar:∀f,L.fG f\/L.dV f\/L.loc f->L.ar f=none
 dV:∀f,L.dV f->L.fn f/\L.cY f 0=.jo/\(∀i,i≠0->bh T.fl .any (L.cY f i)=true\/2<=i)/\L.res f=.any
inductive dr (L:aA) (C:FuncId->Code->Prop) (τ:ai) (fl:Bool) (c:bO):Next->Next->Prop
 |value {v w:Value}:CR L τ c v w->dr L C τ fl c (.value v) (.value w)
 |skip:dr L C τ fl c .skip .skip
 |enter {f:FuncId} {xs ys:Array Value}:L.fn f->TR L τ f xs ys->bh fl (L.res f) c=true->(∀k,L.ar f=some k->xs.size=k)->dr L C τ fl c (.enter f xs) (.enter f ys)
 |round {l m:Nat} {f:FuncId} {xs ys:Array Value} {a b:Code}:τ.lp l m->L.fn f->TR L τ f xs ys->C f a->C f b->bh fl .any c=true->dr L C τ fl c (.round l f xs a b) (.round m f ys a b)
def nZ(P:Program)(G:Array Func)(L:aA):Prop:=∀f,L.fn f->(∃fn,P.funcs[f]?=some fn/\(fn.name== "runtime.NumGoroutine")=false/\fn.body.isNone=false)/\(∃fn,G[f]?=some fn/\(fn.name== "runtime.NumGoroutine")=false/\fn.body.isNone=false)
def CS:Value->Bool
 |.bool _|.int .. |.string _|.pointer none|.slice none _ _|.map none|.nilFunc|.nilIface=>true
 |_=>false
def fits(L:aA)(T:aN)(f:FuncId)(c:bO):Operand->Bool
 |.tmp i=>bh T.fl (L.cY f i) c
 |.const v=>(CS v&&tF c)||(T0 c&&(match v with|.nilFunc=>true|_=>false))
 |.func g=>T.cb g&&tF c
 |.global g=>decide (g<T.ng)&&bh T.fl .any c
def Cq(P:Program)(s d:TypeId):Bool:=
 match P.underlying s,P.underlying d with
 |some (.int _),some (.int _)=>true
 |some (.slice e),some .string=>(match P.underlying e with|some (.int .u8)=>true|_=>false)
 |_,_=>false
section
variable {P:Program}{G:Array Func}{L:aA}{C:FuncId->Code->Prop}{τ:ai}{T:aN}{π:Nat->Nat->Prop}{k₀:Kd}
theorem VR.ofConst(h:CS v=true):VR L π v v:=by
 cases v with
 |pointer p=>cases p<;>first|exact .bG|cases h
 |slice p n c=>cases p<;>first|exact .iE _ _|cases h
 |map p=>cases p<;>first|exact .kQ|cases h
 |bool b=>exact .bool b
 |int k n=>exact .int k n
 |string s=>exact .string s
 |nilFunc=>exact .nilFunc
 |nilIface=>exact .nilIface
 |_=>cases h
theorem VR.NU{f:FuncId}(h:L.fG f):VR L π (.func (.func f) #[] #[]) (.func (.func f) #[] #[]):=by
 simpa using VR.func (L:=L) (π:=π) #[] #[] h (by simp) (by simp)
theorem VR.undef:VR L π Go.undef Go.undef:=by
 simpa[Go.undef] using VR.tuple (L:=L) (π:=π) #[] (by simp)
theorem CR.undef(c:bO):CR L τ c Go.undef Go.undef:=by
 cases c with
 |any=>exact VR.undef
 |own=>exact VR.undef
 |box=>exact VR.undef
 |jo=>exact .inl ⟨rfl,rfl⟩
 |dV=>exact .inl ⟨rfl,rfl⟩
 |loc=>exact .inl ⟨rfl,rfl⟩
def Flat(T:aN)(τ:ai):Prop:=(T.fl=true->∀r s,τ.all r s->τ.own r s)/\∀g,g<T.ng->τ.all g g
theorem CR.fit(hb:fC τ)(hf:Flat T τ){c:bO}(h:bh T.fl c d=true)(hv:CR L τ c v w):CR L τ d v w:=by
 unfold bh at h;simp only[Xw,IN,Xs]at h;rcases h with (rfl|⟨rfl,rfl⟩)|⟨⟨hx,rfl⟩,rfl⟩
 ·exact hv
 ·exact VR.mono hb.own hv
 ·exact VR.mono (hf.1 hx) hv
theorem CR.own{c:bO}(hb:fC τ)(hf:Flat T τ)(h:bh T.fl .own c=true)(hv:VR L τ.own v w):CR L τ c v w:=CR.fit (c:=.own) hb hf h hv
theorem CR.any{c:bO}(hb:fC τ)(hf:Flat T τ)(h:bh T.fl .any c=true)(hv:VR L τ.all v w):CR L τ c v w:=CR.fit (c:=.any) hb hf h hv
theorem CR.Fo{c:bO}(h:tF c=true)(hv:∀π,VR L π v w):CR L τ c v w:=by
 cases c with
 |any=>exact hv _
 |own=>exact hv _
 |box=>exact hv _
 |_=>cases h
theorem TR.size{f:FuncId}(h:TR L τ f xs ys):ys.size=xs.size:=h.1
theorem TR.getD{f:FuncId}(h:TR L τ f xs ys)(i:Nat):CR L τ (L.cY f i) (xs.getD i Go.undef) (ys.getD i Go.undef):=by
 rw[Array.getD_eq_getD_getElem?,Array.getD_eq_getD_getElem?];by_cases hi:i<xs.size
 ·have hj:i<ys.size:=by rw[h.1];exact hi
  rw[Array.getElem?_eq_getElem hi,Array.getElem?_eq_getElem hj];exact h.2 i _ _ (Array.getElem?_eq_getElem hi) (Array.getElem?_eq_getElem hj)
 ·rw[Array.getElem?_eq_none (by omega),Array.getElem?_eq_none (by rw[h.1];omega)];exact CR.undef _
theorem TR.set{f:FuncId}(h:TR L τ f xs ys){d:Nat}(hv:CR L τ (L.cY f d) v w):TR L τ f (xs.setIfInBounds d v) (ys.setIfInBounds d w):=by
 refine⟨by simp[h.1],λi x y hx hy=>?_⟩;rw[Array.getElem?_setIfInBounds]at hx hy;by_cases e:d=i
 ·subst e;simp only[No]at hx hy;split at hx
  ·split at hy
   ·cases hx;cases hy;exact hv
   ·cases hy
  ·cases hx
 ·simp only[e,Xd]at hx hy;exact h.2 i x y hx hy
theorem TR.wY{f:FuncId}(hc:∀i,L.cY f i=.any)(h:XR (VR L τ.all) xs ys):TR L τ f xs ys:=
 ⟨h.size,λi x y hx hy=>by
  rw[hc i];rcases h.get? i with⟨h1,_⟩|⟨u,v,h1,h2,h3⟩
  ·rw[h1]at hx;cases hx
  ·rw[h1]at hx;rw[h2]at hy;cases hx;cases hy;exact h3⟩
theorem TR.pad{f:FuncId}(h:TR L τ f xs ys)(n:Nat):TR L τ f (xs++Array.replicate n Go.undef) (ys++Array.replicate n Go.undef):=by
 refine⟨by simp[h.1],λi x y hx hy=>?_⟩;rw[Array.getElem?_append]at hx hy;rw[h.1]at hy;split at hx
 ·rename_i hi;rw[AS hi]at hy;exact h.2 i x y hx hy
 ·rename_i hi;rw[AI hi]at hy;rw[Array.eq_of_mem_replicate (Array.mem_of_getElem? hx),Array.eq_of_mem_replicate (Array.mem_of_getElem? hy)];exact CR.undef _
theorem TR.Dq{f:FuncId}:∀(ps:List Nat) (l:List (Value×Value)) {cs ds:Array Value},(∀p∈ps,L.cY f p=.any)->(∀z∈l,VR L τ.all z.1 z.2)->TR L τ f cs ds->
  TR L τ f ((ps.zip (l.map (·.1))).foldl (λc (x:Nat×Value)=>c.setIfInBounds x.1 x.2) cs) ((ps.zip (l.map (·.2))).foldl (λc (x:Nat×Value)=>c.setIfInBounds x.1 x.2) ds)
 |[],_,_,_,_,_,h=>h
 |_::_,[],_,_,_,_,h=>h
 |p::ps,z::l,cs,ds,hp,hz,h=>by
  simp only[XE,List.zip_cons_cons,Yl];exact TR.Dq ps l (λq hq=>hp q (by simp[hq])) (λy hy=>hz y (by simp[hy])) (h.set (by rw[hp p (by simp)];exact hz z (by simp)))
theorem V0{R:α->β->Prop}{f:Program->Sem α}{g:Program->Sem β}(h:ae P G L C τ k₀ R (f (gp P G)) (g P)):ae P G L C τ k₀ R (program >>=f) (program >>=g):=.program h
theorem C6(h:τ.lp r s):ae P G L C τ k₀ (fD L C τ) (getObj r) (getObj s):=.oN h λ_ _ ho=>.pure ho
theorem vi{o q:Obj}(h:τ.lp r s)(ho:fD L C τ o q):ae P G L C τ k₀ (λ_ _=>True) (setObj r o) (setObj s q):=.og h ho (.pure trivial)
theorem ub(F:nZ P G L){c:bO}{f:FuncId}(hf:L.fn f)(h:TR L τ f xs ys)(hr:bh fl (L.res f) c=true)(ha:∀k,L.ar f=some k->xs.size=k):ae P G L C τ k₀ (dr L C τ fl c) (callFunc f xs) (callFunc f ys):=by
 obtain⟨⟨fn,h1,h2,h3⟩,⟨gn,g1,g2,g3⟩⟩:=F f hf;unfold callFunc;refine V0 ?_;have e:(gp P G).funcs=G:=rfl;rw[e,h1,g1];dsimp only;rw[h2,h3,g2,g3];exact .pure (.enter hf h hr ha)
theorem qW(h:τ.lp l m):ae P G L C τ k₀ (λa b=>fD L C τ (.loop a) (.loop b)) (Instr.getLoop l) (Instr.getLoop m):=by
 unfold Instr.getLoop;refine ae.bind' (C6 h) λo q ho=>?_;have ho':=ho;cases ho with
 |loop=>exact .pure ho'
 |_=>exact .am
theorem VM{c:bO}(hc:bh fl .any c=true)(h:τ.lp l m)(hx:XR (VR L τ.all) xs ys):ae P G L C τ k₀ (dr L C τ fl c) (Instr.yield l xs) (Instr.yield m ys):=by
 unfold Instr.yield;refine ae.bind' (qW h) λa b hab=>?_;cases hab with
 |loop h1 h2 h3 h4 h5 h6 h7 h8 h9 h10 h11 h12 h13=>
  try dsimp only
  rw[hx.size,h5];split
  ·exact .af _ (ak.bind' (.stuck _))
  ·refine .pure ?_;rw[h3,h6,h7];refine .round h h12 ?_ h9 h10 hc;obtain⟨l',e1,e2,e3⟩:=hx.list;rw[<-YS,<-YS,Array.toList_zip,Array.toList_zip,e1,e2];exact TR.Dq _ l' (λp hp=>h13 p (by simpa using hp)) e3 h4
theorem Ue(F:nZ P G L)(K:nX L T){c:bO}(hc:bh fl .any c=true)(hv:VR L τ.all v w)(hx:XR (VR L τ.all) xs ys):
  ae P G L C τ k₀ (dr L C τ fl c) (do let d ←Deferred.ofValue v xs;invoke d.target d.args) (do let d ←Deferred.ofValue w ys;invoke d.target d.args):=by
 cases hv with
 |func us vs hf hu hv'=>
  show ae P G L C τ k₀ (dr L C τ fl c) (callFunc _ _) (callFunc _ _);obtain⟨h1,h2,h3⟩:=K.fG _ hf;exact ub F h1 (TR.wY h2 (XR.append (XR.append ⟨us,rfl,rfl,hu⟩ hx) ⟨vs,rfl,rfl,hv'⟩)) (by rw[h3];exact hc) (λk hk=>by rw[K.ar _ (.inl hf)]at hk;cases hk)
 |nilFunc=>exact .af _ (show ak (gp P G) (runtimePanic .nilDeref:Sem Next) from .runtimePanic _)
 |bl s h1 h2 h3=>
  refine .af _ ?_;show ak (gp P G) (match (#[Value.nilIface]++xs)[0]? with|some recv=>callMethod recv s ((#[Value.nilIface]++xs).extract 1 (#[Value.nilIface]++xs).size)|_=>stuck "call: a method without a receiver");have e:(#[Value.nilIface]++xs)[0]?=some .nilIface:=by rw[Array.getElem?_append_left (by decide)];rfl
  rw[e];exact show ak (gp P G) (runtimePanic .nilDeref:Sem Next) from .runtimePanic _
 |_=>exact .af _ (ak.bind' (.stuck _))
theorem P6(F:nZ P G L)(K:nX L T){c:bO}(hc:bh fl .any c=true)(hv:CR L τ .loc v w)(hx:XR (VR L τ.all) xs ys):
  ae P G L C τ k₀ (dr L C τ fl c) (do let d ←Deferred.ofValue v xs;invoke d.target d.args) (do let d ←Deferred.ofValue w ys;invoke d.target d.args):=by
 rcases hv with⟨rfl,rfl⟩|⟨rfl,rfl⟩|⟨f,us,vs,rfl,rfl,hf,hu,h5⟩
 ·exact .af _ (ak.bind' (.stuck _))
 ·exact .af _ (show ak (gp P G) (runtimePanic .nilDeref:Sem Next) from .runtimePanic _)
 ·show ae P G L C τ k₀ (dr L C τ fl c) (callFunc _ _) (callFunc _ _);obtain⟨h1,h2,h3⟩:=K.loc _ hf;exact ub F h1 (TR.wY h2 (XR.append (XR.append .nil hx) hu)) (by rw[h3];exact hc) (λk hk=>by rw[K.ar _ (.inr (.inr hf))]at hk;cases hk)
theorem Sr{c:bO}(hc:bh fl .any c=true)(hv:CR L τ .jo v w)(hx:XR (VR L τ.all) xs ys):
  ae P G L C τ k₀ (dr L C τ fl c) (do let d ←Deferred.ofValue v xs;invoke d.target d.args) (do let d ←Deferred.ofValue w ys;invoke d.target d.args):=by
 rcases hv with⟨rfl,rfl⟩|⟨l,m,rfl,rfl,h⟩
 ·exact .af _ (ak.bind' (.stuck _))
 ·show ae P G L C τ k₀ (dr L C τ fl c) (Instr.yield _ _) (Instr.yield _ _);exact VM hc h (XR.append .nil hx)
theorem AE(hb:fC τ)(hfl:Flat T τ)(F:nZ P G L)(K:nX L T){c:bO}(hc:bh fl .any c=true)(hv:CR L τ .dV v w)(hl:τ.lp l m):
  ae P G L C τ k₀ (dr L C τ fl c) (do let d ←Deferred.ofValue v #[.func (.yield l) #[] #[]];invoke d.target d.args) (do let d ←Deferred.ofValue w #[.func (.yield m) #[] #[]];invoke d.target d.args):=by
 rcases hv with⟨rfl,rfl⟩|⟨rfl,rfl⟩|⟨f,us,vs,rfl,rfl,hf,hu,h5⟩
 ·exact .af _ (ak.bind' (.stuck _))
 ·exact .af _ (show ak (gp P G) (runtimePanic .nilDeref:Sem Next) from .runtimePanic _)
 ·show ae P G L C τ k₀ (dr L C τ fl c) (callFunc f (#[]++#[.func (.yield l) #[] #[]]++us)) (callFunc f (#[]++#[.func (.yield m) #[] #[]]++vs));obtain⟨h1,h2,h3,h4⟩:=K.dV _ hf;refine ub F h1 ⟨by simp[hu.size],λi x y hx hy=>?_⟩ (by rw[h4];exact hc) (λk hk=>by rw[K.ar _ (.inr (.inl hf))]at hk;cases hk);cases i with
  |zero=>
   rw[h2];simp[Array.getElem?_append]at hx hy;exact .inr ⟨l,m,hx.symm,hy.symm,hl⟩
  |succ i=>
   simp[Array.getElem?_append]at hx hy;rcases hu.get? i with⟨g1,_⟩|⟨u,v,g1,g2,g3⟩
   ·rw[g1]at hx;cases hx
   ·rw[g1]at hx;rw[g2]at hy;cases hx;cases hy;have hi:i<us.size:=(Array.getElem?_eq_some_iff.1 g1).1;rcases h3 (i+1) (by omega) with h6|h6
    ·exact CR.any hb hfl h6 g3
    ·omega
end
end
section
def xe(P:Program)(L:aA)(T:aN)(f:FuncId)(c:bO)(b:Builtin)(ts:Array TypeId)(xs:Array Operand):Bool:=
 match b,ts.toList,xs.toList with
 |.append,[_,xt],[a,d]=>fits L T f .own a&&fits L T f .any d&&bh T.fl .own c&&(match P.underlying xt with|some (.int _)=>false|_=>true)
 |.copy,[_,_],[a,d]=>fits L T f .own a&&fits L T f .any d&&bh T.fl .any c
 |.len,[t],[a]=>fits L T f .any a&&bh T.fl .any c&&(match P.underlying t with|some .string|some (.slice _)=>true|_=>false)
 |.min,_,[a,d]|.max,_,[a,d]=>fits L T f .any a&&fits L T f .any d&&bh T.fl .any c
 |.unsafeString,_,[a,d]=>fits L T f .own a&&fits L T f .any d&&bh T.fl .any c
 |_,_,_=>false
def Gk(L:aA)(T:aN)(f g:FuncId)(xs:Array Operand):Bool:=(List.range xs.size).all λi=>match xs[i]? with|some x=>fits L T f (L.cY g i) x|none=>false
def wM(L:aA)(T:aN)(f:FuncId)(c:bO)(xs:Array Operand):Operand->Bool
 |.func g=>T.fb g&&Gk L T f g xs&&bh T.fl (L.res g) c&&(match L.ar g with|some k=>xs.size==k|none=>true)
 |.tmp i=>(bh T.fl (L.cY f i) .any||decide (L.cY f i=.loc)||decide (L.cY f i=.jo))&&xs.all (fits L T f .any)&&bh T.fl .any c
 |_=>false
def dw(P:Program)(L:aA)(T:aN)(f:FuncId)(c:bO):Op->Bool
 |.move x|.assign x=>fits L T f c x
 |.nilCheck x=>tF c&&fits L T f c x
 |.unOp _ _ x|.makeInterface _ x|.field _ x _|.entry x|.typeAssert x _ _ _|.extract x _=>fits L T f .any x&&bh T.fl .any c
 |.panic _=>true
 |.box _ x=>(decide (c=.box)&&fits L T f .own x)||(bh T.fl .own c&&!decide (c=.box)&&fits L T f .any x)
 |.load _ x=>(fits L T f .any x&&bh T.fl .any c)||(fits L T f .box x&&bh T.fl .own c)
 |.fieldAddr _ x _=>(fits L T f .any x&&bh T.fl .any c)||(fits L T f .own x&&bh T.fl .own c)
 |.range _ x=>fits L T f .any x&&bh T.fl .own c
 |.next x s=>!s&&fits L T f .own x&&bh T.fl .any c
 |.pick b x y=>fits L T f .any b&&fits L T f c x&&fits L T f c y
 |.alloc _=>bh T.fl .own c
 |.build _ ps=>(ps.all λp=>fits L T f .any p.2)&&bh T.fl .any c
 |.buildSlice _ _ ps=>(ps.all λp=>fits L T f .any p.2)&&bh T.fl .own c
 |.store _ a v=>(fits L T f .own a&&fits L T f .any v)||(fits L T f .box a&&fits L T f .own v)
 |.makeSlice _ a v=>fits L T f .any a&&fits L T f .any v&&bh T.fl .own c
 |.indexAddr _ a v=>fits L T f .any v&&((fits L T f .any a&&bh T.fl .any c)||(fits L T f .own a&&bh T.fl .own c))
 |.index _ a v=>fits L T f .any a&&fits L T f .any v&&bh T.fl .any c
 |.binOp op t x y _=>fits L T f .any x&&fits L T f .any y&&bh T.fl .any c&&(match op with|.eql|.neq=>gu P 10 t&&!P.eqGuardType P.depth t|_=>true)
 |.convert s d x=>fits L T f .any x&&bh T.fl .any c&&Cq P s d
 |.makeFunc (.func g) a b=>(T.cb g&&a.all (fits L T f .any)&&b.all (fits L T f .any)&&bh T.fl .any c)||(a.isEmpty&&b.all (fits L T f .any)&&((T.ib g&&decide (c=.dV)&&decide (b.size<=1))||(T.lb g&&decide (c=.loc)&&decide (b.size<=2))))
 |.makeMap _ none=>bh T.fl .own c
 |.slice _ x l h m=>l.all (fits L T f .any)&&h.all (fits L T f .any)&&m.all (fits L T f .any)&&((fits L T f .any x&&bh T.fl .any c)||(fits L T f .own x&&bh T.fl .own c))
 |.lookup t x i _=>fits L T f .any x&&fits L T f .any i&&bh T.fl .any c&&(match P.underlying t with|some (.map k _)=>gu P 10 k|_=>false)
 |.mapUpdate t m k v=>fits L T f .own m&&fits L T f .any k&&fits L T f .any v&&(match P.underlying t with|some (.map k _)=>(match P.underlying k with|some .string=>true|_=>false)|_=>false)
 |.call d=>(match d.callee with|.value g=>wM L T f c d.args g|.builtin b=>xe P L T f c b d.argTypes d.args|.invoke .. =>false)
 |_=>false
def rV(c:bO):Op->Kd
 |.box _ _=>if c=.box then .box else .own
 |_=>.own
section
variable {P:Program}{G:Array Func}{L:aA}{C:FuncId->Code->Prop}{τ:ai}{T:aN}{f:FuncId}{c:bO}{ρ σ:Operand->Value}
theorem MN(e:TypeId)(h:VR L τ.own v w):ae P G L C τ .box (VR L τ.box) (Instr.box e v) (Instr.box e w):=by
 unfold Instr.box newVar newRow;exact ae.bind' (R:=AR τ.box) (ae.bind' (R:=τ.box) (.oV e (0,0) rfl h.cells λr s hr=>.pure hr) λr s hr=>.pure ⟨hr,rfl,rfl⟩) λa b h=>.pure (.ptr h)
theorem oC{k₀:Kd}{p q:Sem Value}(h:ae P G L C τ k₀ (CR L τ c) p q):ae P G L C τ k₀ (dr L C τ T.fl c) (do pure (.value (← p))) (do pure (.value (← q))):=ae.bind' h λ_ _ hv=>.pure (.value hv)
theorem vZ{p q:Sem Unit}(h:ae P G L C τ .own (λ_ _=>True) p q):ae P G L C τ .own (dr L C τ T.fl c) (do p;pure .skip) (do q;pure .skip):=ae.bind' h λ_ _ _=>.pure .skip
theorem XR.args(hρ:∀c x,fits L T f c x=true->CR L τ c (ρ x) (σ x)){xs:Array Operand}(h:xs.all (fits L T f .any)=true):XR (VR L τ.all) (xs.map ρ) (xs.map σ):=
 XR.map (R:=λa b=>a=b/\fits L T f .any a=true) (XR.self xs λx hx=>⟨rfl,Array.all_eq_true'.1 h x hx⟩) (by rintro a _ ⟨rfl,ha⟩;exact hρ .any a ha)
theorem XR.parts(hρ:∀c x,fits L T f c x=true->CR L τ c (ρ x) (σ x)){xs:Array (Nat×Operand)}(h:(xs.all λp=>fits L T f .any p.2)=true):XR (PR L τ.all) (xs.map λ(i,x)=>(i,ρ x)) (xs.map λ(i,x)=>(i,σ x)):=
 XR.map (R:=λa b=>a=b/\fits L T f .any a.2=true) (XR.self xs λx hx=>⟨rfl,Array.all_eq_true'.1 h x hx⟩) (by rintro⟨i,a⟩ _ ⟨rfl,ha⟩;exact⟨rfl,hρ .any a ha⟩)
theorem QR.opt(hρ:∀c x,fits L T f c x=true->CR L τ c (ρ x) (σ x)){o:Option Operand}(h:o.all (fits L T f .any)=true):QR L τ.all (o.map ρ) (o.map σ):=by
 cases o with
 |none=>exact .none
 |some x=>exact .some (hρ .any x h)
theorem TR.args(hρ:∀c x,fits L T f c x=true->CR L τ c (ρ x) (σ x)){xs:Array Operand}(h:Gk L T f g xs=true):TR L τ g (xs.map ρ) (xs.map σ):=by
 refine⟨by simp,λi x y hx hy=>?_⟩;rw[Array.getElem?_map]at hx hy;obtain⟨a,ha,rfl⟩:=Yf.1 hx;rw[ha]at hy;cases hy
 have:=List.all_eq_true.1 h i (List.mem_range.2 (Array.getElem?_eq_some_iff.1 ha).1);rw[ha]at this;exact hρ _ a this
theorem rW{xs:Array α}{a b:α}(h:xs.toList= [a,b]):xs=#[a,b]:=by
 obtain⟨l⟩:=xs;simp only at h;subst h;rfl
theorem Bi{xs:Array α}{a:α}(h:xs.toList= [a]):xs=#[a]:=by
 obtain⟨l⟩:=xs;simp only at h;subst h;rfl
theorem kP(h:Operand->Value)(a b:Operand):(#[a,b]:Array Operand).map h=#[h a,h b]:=by simp
theorem q7(h:Operand->Value)(a:Operand):(#[a]:Array Operand).map h=#[h a]:=by simp
theorem UF(E:Env P L τ)(hfl:Flat T τ)(hρ:∀c x,fits L T f c x=true->CR L τ c (ρ x) (σ x))(b:Builtin){ts:Array TypeId}(t:TypeId)(cs:Array Bool){xs:Array Operand}(hok:xe P L T f c b ts xs=true):
  ae P G L C τ .own (dr L C τ T.fl c) (builtin b ts t cs (xs.map ρ)) (builtin b ts t cs (xs.map σ)):=by
 have hb:=E.bi.tofC;have vown:∀{p q:Sem Value},bh T.fl .own c=true->ae P G L C τ .own (VR L τ.own) p q->ae P G L C τ .own (dr L C τ T.fl c) (do pure (.value (← p))) (do pure (.value (← q))):=λhc h=>oC (h.mono λ_ _ hv=>CR.own hb hfl hc hv);have vany:∀{p q:Sem Value},bh T.fl .any c=true->ae P G L C τ .own (VR L τ.all) p q->ae P G L C τ .own (dr L C τ T.fl c) (do pure (.value (← p))) (do pure (.value (← q))):=λhc h=>oC (h.mono λ_ _ hv=>CR.any hb hfl hc hv);obtain⟨ts⟩:=ts;unfold xe at hok;split at hok
 ·rename_i st xt a d hts hn;obtain rfl:=rW hn;rw[kP ρ,kP σ];simp only[IN]at hok;obtain⟨⟨⟨h1,h2⟩,h3⟩,hok⟩:=hok;simp only at hts;subst hts;refine vown h3 (Lr E t (λd hd=>?_) (hρ .own a h1) (hρ .any d h2));rw[hd]at hok;cases d<;>first|rfl|cases hok
 ·rename_i st xt a d hts hn;obtain rfl:=rW hn;rw[kP ρ,kP σ];simp only[IN]at hok;simp only at hts;subst hts;exact vany hok.2 (J8 t (hρ .own a hok.1.1) (hρ .any d hok.1.2))
 ·rename_i xt a hts hn;obtain rfl:=Bi hn;rw[q7 ρ,q7 σ];simp only[IN]at hok;obtain⟨⟨h1,h2⟩,hok⟩:=hok;simp only at hts;subst hts;refine vany h2 (Lz t (λd hd=>?_) (hρ .any a h1));rw[hd]at hok;cases d<;>first|exact .inl rfl|exact .inr ⟨_,rfl⟩|cases hok
 ·rename_i a d hn;obtain rfl:=rW hn;rw[kP ρ,kP σ];simp only[IN]at hok;exact vany hok.2 (I4 _ _ (hρ .any a hok.1.1) (hρ .any d hok.1.2))
 ·rename_i a d hn;obtain rfl:=rW hn;rw[kP ρ,kP σ];simp only[IN]at hok;exact vany hok.2 (I1 _ _ (hρ .any a hok.1.1) (hρ .any d hok.1.2))
 ·rename_i a d hn;obtain rfl:=rW hn;rw[kP ρ,kP σ];simp only[IN]at hok;exact vany hok.2 (WQ hb _ _ (hρ .own a hok.1.1) (hρ .any d hok.1.2))
 ·cases hok
theorem TW(F:nZ P G L){k₀:Kd}(hf:L.fn g)(hv:v=.func (.func g) #[] #[])(hw:w=.func (.func g) #[] #[])(hx:TR L τ g xs ys)(hr:bh fl (L.res g) c=true)(ha:∀k,L.ar g=some k->xs.size=k):
  ae P G L C τ k₀ (dr L C τ fl c) (do let d ←Deferred.ofValue v xs;invoke d.target d.args) (do let d ←Deferred.ofValue w ys;invoke d.target d.args):=by
 subst hv hw;show ae P G L C τ k₀ (dr L C τ fl c) (callFunc g (#[]++xs++#[])) (callFunc g (#[]++ys++#[]));simp only[Yc,XG];exact ub F hf hx hr ha
theorem DN(E:Env P L τ)(F:nZ P G L)(K:nX L T)(hfl:Flat T τ)(hg:(∀g,ρ (.func g)=.func (.func g) #[] #[])/\∀g,σ (.func g)=.func (.func g) #[] #[])(hρ:∀c x,fits L T f c x=true->CR L τ c (ρ x) (σ x))(o:Oper)(ho:dw P L T f c o.op=true):
  ae P G L C τ (rV c o.op) (dr L C τ T.fl c) (execOp ρ o) (execOp σ o):=by
 have hb:=E.bi.tofC;have vown:∀{p q:Sem Value},bh T.fl .own c=true->ae P G L C τ .own (VR L τ.own) p q->ae P G L C τ .own (dr L C τ T.fl c) (do pure (.value (← p))) (do pure (.value (← q))):=λhc h=>oC (h.mono λ_ _ hv=>CR.own hb hfl hc hv);have vany:∀{p q:Sem Value},bh T.fl .any c=true->ae P G L C τ .own (VR L τ.all) p q->ae P G L C τ .own (dr L C τ T.fl c) (do pure (.value (← p))) (do pure (.value (← q))):=λhc h=>oC (h.mono λ_ _ hv=>CR.any hb hfl hc hv);have hA:∀x,fits L T f .any x=true->VR L τ.all (ρ x) (σ x):=λx hx=>hρ .any x hx;have hO:∀x,fits L T f .own x=true->VR L τ.own (ρ x) (σ x):=λx hx=>hρ .own x hx;have hX:∀x,fits L T f .box x=true->VR L τ.box (ρ x) (σ x):=λx hx=>hρ .box x hx;unfold execOp;cases ag:o.op with
 |move x=>rw[ag]at ho;exact .pure (.value (hρ c x ho))
 |assign x=>rw[ag]at ho;exact .pure (.value (hρ c x ho))
 |pick b x y=>
  rw[ag]at ho;simp only[dw,IN]at ho;refine ae.bind' (Rf (hA b ho.1.1)) ?_;rintro x _ rfl;refine .pure (.value ?_);split
  ·exact hρ c _ ho.1.2
  ·exact hρ c _ ho.2
 |alloc e=>rw[ag]at ho;exact vown ho (PQ E e)
 |box e x=>
  rw[ag]at ho;simp only[dw,Xw,IN,Xs,Bool.not_eq_true',Yz]at ho;rcases ho with⟨rfl,h⟩|⟨⟨hc,hn⟩,h⟩
  ·exact oC (c:=.box) (MN e (hO x h))
  ·have e1:rV c (.box e x)=.own:=by simp[rV,hn]
   rw[e1];exact vown hc (Tz e (hA x h))
 |build t ps=>rw[ag]at ho;simp only[dw,IN]at ho;exact vany ho.2 (Kx E t (XR.parts hρ ho.1))
 |buildSlice t n ps=>rw[ag]at ho;simp only[dw,IN]at ho;exact vown ho.2 (M1 E t n (XR.parts hρ ho.1))
 |load t a=>
  rw[ag]at ho;simp only[dw,Xw,IN]at ho;rcases ho with⟨h1,h2⟩|⟨h1,h2⟩
  ·exact vany h2 (OK t (hA a h1))
  ·exact vown h2 (SY t (hX a h1))
 |store t a x=>
  rw[ag]at ho;simp only[dw,Xw,IN]at ho;rcases ho with⟨h1,h2⟩|⟨h1,h2⟩
  ·exact vZ (QQ t (hO a h1) (hA x h2))
  ·exact vZ (WU t (hX a h1) (hO x h2))
 |nilCheck x=>
  rw[ag]at ho;simp only[dw,IN]at ho;have h:=hρ c x ho.2;dsimp only;revert h
  generalize ρ x=v;generalize σ x=w;intro h;have h':=h;obtain⟨π,hv⟩: ∃π,VR L π v w:=by
   cases c with
   |any=>exact⟨_,h⟩
   |own=>exact⟨_,h⟩
   |box=>exact⟨_,h⟩
   |_=>cases ho.1
  clear h;cases hv with
  |bG=>exact .af _ (.runtimePanic _)
  |nilIface=>exact .af _ (.runtimePanic _)
  |nilFunc=>exact .af _ (.runtimePanic _)
  |bl s=>exact .af _ (show ak (gp P G) (runtimePanic .nilDeref:Sem Next) from .runtimePanic _)
  |_=>exact .pure (.value h')
 |binOp op t x y yt=>
  rw[ag]at ho;simp only[dw,IN]at ho;obtain⟨⟨⟨hx,hy⟩,hc⟩,hop2⟩:=ho;have vx:=hA x hx;have vy:=hA y hy;cases op with
  |eql=>
   simp only[IN,Bool.not_eq_true']at hop2;exact vany hc (Pv E hop2.1 hop2.2 x y vx vy)
  |neq=>
   simp only[IN,Bool.not_eq_true']at hop2;exact vany hc (Ju E hop2.1 hop2.2 x y vx vy)
  |add=>exact vany hc (PY E t vx vy)
  |sub=>exact vany hc (Vg E t vx vy)
  |mul=>exact vany hc (Na E t vx vy)
  |quo=>exact vany hc (VH E t vx vy)
  |rem=>exact vany hc (Tx E t vx vy)
  |and=>exact vany hc (Uk E t vx vy)
  |or=>exact vany hc (RX E t vx vy)
  |xor=>exact vany hc (PV E t vx vy)
  |shl=>exact vany hc (KU E t vx vy)
  |shr=>exact vany hc (Qv E t vx vy)
  |andNot=>exact vany hc (OB E t vx vy)
  |lss=>exact vany hc (SQ E t vx vy)
  |leq=>exact vany hc (QP E t vx vy)
  |gtr=>exact vany hc (Lc E t vx vy)
  |geq=>exact vany hc (Lg E t vx vy)
 |unOp op t x=>rw[ag]at ho;simp only[dw,IN]at ho;exact vany ho.2 (WX op (hA x ho.1))
 |convert s d x=>
  rw[ag]at ho;simp only[dw,IN]at ho;obtain⟨⟨hx,hcc⟩,hc⟩:=ho;unfold Cq at hc;split at hc
  ·rename_i h1 h2;exact vany hcc (Ub h1 h2 (hA x hx))
  ·rename_i e h1 h2;split at hc
   ·rename_i h3;exact vany hcc (LK h1 h3 h2 (hA x hx))
   ·cases hc
  ·cases hc
 |makeInterface t x=>rw[ag]at ho;simp only[dw,IN]at ho;exact vany ho.2 (Rv t (hA x ho.1))
 |makeFunc g a b=>
  rw[ag]at ho;cases g with
  |func g=>
   simp only[dw,Xw,IN,Xs]at ho;rcases ho with⟨⟨⟨h1,h2⟩,h3⟩,h4⟩|⟨⟨h1,h2⟩,h3⟩
   ·exact vany h4 (NS (K.cb g h1) (XR.args hρ h2) (XR.args hρ h3))
   ·have ea:a=#[]:=by simpa using h1
    subst ea;have hx:=XR.args hρ h2;rcases h3 with⟨⟨h3,rfl⟩,h4⟩|⟨⟨h3,rfl⟩,h4⟩
    ·refine oC (c:=.dV) (.pure (.inr (.inr ⟨g,_,_,by simp,by simp,K.ib g h3,hx,by simpa using h4⟩)))
    ·refine oC (c:=.loc) (.pure (.inr (.inr ⟨g,_,_,by simp,by simp,K.lb g h3,hx,by simpa using h4⟩)))
  |_=>cases ho
 |makeMap t r=>
  rw[ag]at ho;cases r with
  |none=>exact vown ho (PN t)
  |some x=>cases ho
 |makeSlice t l d=>
  rw[ag]at ho;simp only[dw,IN]at ho;exact vown ho.2 (Vh E t (hA l ho.1.1) (hA d ho.1.2))
 |slice t x l h m=>
  rw[ag]at ho;simp only[dw,Xw,IN]at ho;obtain⟨⟨⟨h1,h2⟩,h3⟩,⟨h4,h5⟩|⟨h4,h5⟩⟩:=ho
  ·exact vany h5 (Hb t (hA x h4) (QR.opt hρ h1) (QR.opt hρ h2) (QR.opt hρ h3))
  ·exact vown h5 (Hb t (hO x h4) (QR.opt hρ h1) (QR.opt hρ h2) (QR.opt hρ h3))
 |fieldAddr s x i=>
  rw[ag]at ho;simp only[dw,Xw,IN]at ho;rcases ho with⟨h1,h2⟩|⟨h1,h2⟩
  ·exact vany h2 (DG (λ_ _ h=>h) s (hA x h1) i)
  ·exact vown h2 (DG hb.own s (hO x h1) i)
 |field t x i=>rw[ag]at ho;simp only[dw,IN]at ho;exact vany ho.2 (Po t (hA x ho.1) i)
 |indexAddr t x i=>
  rw[ag]at ho;simp only[dw,Xw,IN]at ho;obtain⟨hi,⟨h1,h2⟩|⟨h1,h2⟩⟩:=ho
  ·exact vany h2 (AW t (hA x h1) (hA i hi))
  ·exact vown h2 (AW t (hO x h1) (hA i hi))
 |index t x i=>
  rw[ag]at ho;simp only[dw,IN]at ho;exact vany ho.2 (Wh t (hA x ho.1.1) (hA i ho.1.2))
 |lookup t x i ok=>
  rw[ag]at ho;simp only[dw,IN]at ho;obtain⟨⟨⟨h1,h3⟩,hc⟩,h2⟩:=ho;refine vany hc (PD E (m:=10) (λk e hk=>?_) (hA x h1) (hA i h3) ok);rw[hk]at h2;exact h2
 |mapUpdate t m k v=>
  rw[ag]at ho;simp only[dw,IN]at ho;obtain⟨⟨⟨hm,hk⟩,hv⟩,ht⟩:=ho;split at ht
  ·rename_i h1;split at ht
   ·rename_i h2;exact vZ (Wu hb h1 h2 (hO m hm) (hA k hk) (hA v hv))
   ·cases ht
  ·cases ht
 |range t x=>rw[ag]at ho;simp only[dw,IN]at ho;exact vown ho.2 (Ki t (hA x ho.1))
 |next x s=>
  rw[ag]at ho;simp only[dw,IN,Bool.not_eq_true']at ho;obtain⟨⟨rfl,hx⟩,hc⟩:=ho;exact vany hc (LL hb (hO x hx) _)
 |entry x=>rw[ag]at ho;simp only[dw,IN]at ho;exact vany ho.2 (TN (hA x ho.1))
 |typeAssert x a b ok=>rw[ag]at ho;simp only[dw,IN]at ho;exact vany ho.2 (Jk E (hA x ho.1) a b ok)
 |extract x i=>rw[ag]at ho;simp only[dw,IN]at ho;exact vany ho.2 (Us (hA x ho.1) i)
 |panic x=>
  refine .af _ (ak.bind' ?_);unfold Instr.panic;split
  ·exact .goPanic _
  ·refine ak.then ?_ λ_=>FD (.goPanic _) (.runtimePanic _);unfold Instr.panicnil;refine aT.bind (.sys _) λr=>?_;split
   ·exact aT.bind .program λ_=>.pure _
   ·exact (ak.stuck _).ln
  ·exact .stuck _
 |call d=>
  rw[ag]at ho;obtain⟨cal,args,ats⟩:=d;simp only[dw]at ho;cases cal with
  |builtin b=>
   show ae P G L C τ .own (dr L C τ T.fl c) (builtin b ats o.type _ (args.map ρ)) (builtin b ats o.type _ (args.map σ));exact UF E hfl hρ b o.type _ ho
  |value g=>
   cases g with
   |func g=>
    simp only[wM,IN]at ho;obtain⟨⟨⟨h1,h2⟩,h3⟩,h4⟩:=ho;exact TW F (K.fb g h1) (hg.1 g) (hg.2 g) (TR.args hρ h2) h3 (λk hk=>by rw[hk]at h4;simpa using h4)
   |tmp i=>
    simp only[wM,IN,Xw,Xs]at ho;obtain⟨⟨h1,h2⟩,h3⟩:=ho;have ha:=XR.args hρ h2;rcases h1 with (h1|h1)|h1
    ·exact Ue F K h3 (hA (.tmp i) h1) ha
    ·exact P6 F K h3 (hρ .loc (.tmp i) (by simp[fits,bh,h1])) ha
    ·exact Sr h3 (hρ .jo (.tmp i) (by simp[fits,bh,h1])) ha
   |_=>cases ho
  |invoke r n=>cases ho
 |_=>rw[ag]at ho;cases ho
end
end
section
open Go.Conc
inductive L2 {α β:Type} (R:α->β->Prop):List α->List β->Prop
 |nil:L2 R [] []
 |cons {a:α} {b:β} {W8:List α} {bs:List β}:R a b->L2 R W8 bs->L2 R (a::W8) (b::bs)
def oS(L:aA)(f:FuncId)(o:Oper):bO:=(o.dst.map (L.cY f)).getD .any
def Df(P:Program)(L:aA)(T:aN)(f:FuncId)(ops:Array Oper):Bool:=ops.all λo=>dw P L T f (oS L f o) o.op
def dU(P:Program)(L:aA)(T:aN)(f:FuncId):Code->Bool
 |.skip|.ret|.exit _|.refuse _=>true
 |.region _ ops _=>Df P L T f ops
 |.seq a b=>dU P L T f a&&dU P L T f b
 |.cond c a b=>fits L T f .any c&&dU P L T f a&&dU P L T f b
 |.block _ c|.loop c=>dU P L T f c
 |.rangeFunc x ps a c=>fits L T f .dV x&&ps.all (λp=>decide (L.cY f p=.any))&&dU P L T f a&&dU P L T f c
 |_=>false
def lC(L:aA)(T:aN)(f:FuncId)(fn:Func):Bool:=
 match fn.results.toList with
 |[.tmp t]=>bh T.fl (L.cY f t) (L.res f)
 |rs=>bh T.fl .any (L.res f)&&rs.all λr=>match r with|.tmp t=>bh T.fl (L.cY f t) .any|.cell a _=>bh T.fl (L.cY f a) .any
section
variable (P:Program) (G:Array Func) (L:aA) (T:aN) (τ:ai)
abbrev CC:FuncId->Code->Prop:=λf c=>dU P L T f c=true/\f≠T.bU
inductive fu (f:FuncId):Item->Item->Prop
 |code {c:Code}:dU P L T f c=true->fu f (.code c) (.code c)
 |inBlock (id:Nat):fu f (.inBlock id) (.inBlock id)
 |inLoop {c:Code}:dU P L T f c=true->fu f (.inLoop c) (.inLoop c)
 |inRegion {ops:Array Oper} (todo:List Nat):Df P L T f ops=true->fu f (.inRegion ops todo) (.inRegion ops todo)
 |inRangeFunc {l m:Nat}:τ.lp l m->fu f (.inRangeFunc l) (.inRangeFunc m)
 |endRangeFunc {l m:Nat}:τ.lp l m->fu f (.endRangeFunc l) (.endRangeFunc m)
 |beginRound:fu f .beginRound .beginRound
inductive jj:Deferred->Deferred->Prop
 |collected {r s:Nat}:τ.lp r s->jj {target:=.collected r,args:=#[]} {target:=.collected s,args:=#[]}
structure bV(fr gr:Frame):Prop where
 fn:gr.fn=fr.fn
 cp:L.fn fr.fn
 np:fr.fn≠T.bU
 tmps:TR L τ fr.fn fr.tmps gr.tmps
 todo:L2 (fu P L T τ fr.fn) fr.todo gr.todo
 defers:L2 (jj τ) fr.defers gr.defers
 mode:gr.mode=fr.mode
 run:fr.mode=.run\/(fr.mode=.returning/\fr.roundOf=none)
 kind:fr.kind=.normal/\gr.kind=.normal
 round:NR τ.lp fr.roundOf gr.roundOf
inductive iK:Frame->Frame->Prop
 |run {fr gr:Frame}:bV P L T τ fr gr->iK fr gr
 |bU {xs ys:Array Value}:L.fn T.bU->TR L τ T.bU xs ys->(∀k,L.ar T.bU=some k->xs.size=k)->iK (Frame.enter (gp P G) T.bU xs .normal) (Frame.enter P T.bU ys .normal)
def iA(L:aA)(fr:Frame):bO:=if fr.roundOf.isSome then .any else L.res fr.fn
def zW(c:bO)(fr:Frame):Prop:=∀ops i rest k d,fr.todo=.inRegion ops (i::rest)::k->(ops[i]?).bind (·.dst)=some d->bh T.fl c (L.cY fr.fn d)=true
inductive gZ:bO->List Frame->List Frame->Prop
 |nil (c:bO):gZ c [] []
 |cons {c:bO} {fr gr:Frame} {cs ds:List Frame}:bV P L T τ fr gr->zW L T c fr->gZ (iA L fr) cs ds->gZ c (fr::cs) (gr::ds)
def jq:Frame->List Frame->Prop
 |fr,[]=>fr.roundOf=none
 |_,c::cs=>jq c cs
structure GR(B D:List Frame)(g h:Goroutine):Prop where
 frame:iK P G L T τ g.frame h.frame
 status:g.status=.running/\h.status=.running
 dying:g.dying=none/\h.dying=none
 offers:g.offers=none/\h.offers=none
 callers: ∃cs ds,g.callers=cs++B/\h.callers=ds++D/\gZ P L T τ (iA L g.frame) cs ds/\jq g.frame cs
structure Let:Prop where
 body:∀f,L.fn f->f≠T.bU->∃fn c,P.funcs[f]?=some fn/\G[f]?=some fn/\fn.body=some c/\dU P L T f c=true/\lC L T f fn=true
 plain:∀f,L.fn f->(∃fn,P.funcs[f]?=some fn/\(fn.name== "runtime.NumGoroutine")=false/\fn.body.isNone=false/\fn.norace=false)/\(∃fn,G[f]?=some fn/\(fn.name== "runtime.NumGoroutine")=false/\fn.body.isNone=false/\fn.norace=false)
 qm:nX L T
 ahead:P.follows .staticDataAhead=true
 tJ:∀g,(gp P G).stepOf g=none
end
section
variable {P:Program}{G:Array Func}{L:aA}{T:aN}{τ:ai}{k₀:Kd}{N:Nat}{B D:List Frame}
theorem Let.qg(K:Let P G L T):nZ P G L:=λf hf=>by
 obtain⟨⟨fn,h1,h2,h3,_⟩,⟨gn,g1,g2,g3,_⟩⟩:=K.plain f hf;exact⟨⟨fn,h1,h2,h3⟩,⟨gn,g1,g2,g3⟩⟩
theorem Let.norace(K:Let P G L T){f:FuncId}(hf:L.fn f):(P.funcs[f]?).any (·.norace)=false/\((gp P G).funcs[f]?).any (·.norace)=false:=by
 obtain⟨⟨fn,h1,_,_,h4⟩,⟨gn,g1,_,_,g4⟩⟩:=K.plain f hf;exact⟨by rw[h1];exact h4,by rw[Hy,g1];exact g4⟩
structure il(g:Goroutine):Prop where
 status:g.status=.running
 dying:g.dying=none
 mode:∀c,g.frame.mode≠.panicking c
 kind:g.frame.kind=.normal
def dN(P:Program)(G:Array Func)(L:aA)(T:aN)(τ:ai)(k₀:Kd)(N:Nat)(B D:List Frame)(w v:World)(s t:GStep):Prop:=
 ∀g1 w1 es,s=.go g1 w1 es->il g1->w1.heap.size<=N->(∀j q,w.drawn+j<w1.drawn->v.tape (v.drawn+j) q=w.tape (w.drawn+j) q)->
  ∃h1 v1 fs,t=.go h1 v1 fs/\GR P G L T τ B D g1 h1/\cZ L (CC P L T) τ k₀ N w v w1 v1 #[] #[] es fs
theorem dN.go{w v:World}{g h:Goroutine}(hs:Sync L (CC P L T) τ k₀ N w v)(hg:GR P G L T τ B D g h):dN P G L T τ k₀ N B D w v (.go g w) (.go h v):=by
 intro g1 w1 es e _ _ _;cases e;exact⟨h,v,#[],rfl,hg,.refl hs⟩
theorem dN.ended{w v:World}{o:Outcome}{x:World}{t:GStep}:dN P G L T τ k₀ N B D w v (.ended o x es) t:=by
 intro g1 w1 es e;cases e
theorem ug{zs:Array (Event×Event)}(h:∀z∈zs,jO τ z.1 z.2):(∀e∈zs.map (·.1),∀f,e.loc≠.mark (.extern f))/\∀e∈zs.map (·.2),∀f,e.loc≠.mark (.extern f):=by
 constructor
 ·intro e he f;obtain⟨⟨z1,z2⟩,hz,rfl⟩:=Array.mem_map.1 he;have hx:jO τ z1 z2:=h _ hz;cases hx<;>simp
 ·intro e he f;obtain⟨⟨z1,z2⟩,hz,rfl⟩:=Array.mem_map.1 he;have hx:jO τ z1 z2:=h _ hz;cases hx<;>simp
theorem dN.eC(K:Let P G L T)(hb:Fit τ)(hd:∀r s,τ.un r s->r<N){w v:World}(hs:Sync L (CC P L T) τ k₀ N w v){R:α->β->Prop}{p:Sem α}{q:Sem β}(h:ae P G L (CC P L T) τ k₀ R p q){f f':FuncId}(hf:L.fn f)(hf':L.fn f'){k:Result α->GStep}{l:Result β->GStep}(hh:∀hh w',∀g1 w1 es,k (.halt hh w')=.go g1 w1 es->¬il g1)(hw:∀a w1 g1 w2 es,k (.ok a w1)=.go g1 w2 es->w2=w1/\es=#[])(hk:∀a b w1 v1,R a b->∀g1,k (.ok a w1)=.go g1 w1 #[]->il g1->∃h1,l (.ok b v1)=.go h1 v1/\GR P G L T τ B D g1 h1):
  dN P G L T τ k₀ N B D w v (GStep.after (seen (gp P G) f (p.runT (gp P G) w #[]).2) (k (p.runT (gp P G) w #[]).1)) (GStep.after (seen P f' (q.runT P v #[]).2) (l (q.runT P v #[]).1)):=by
 intro g1 w1 es e hfi hN ht;cases hr:p.runT (gp P G) w #[] with
 |mk r es0=>
  rw[hr]at e;cases r with
  |halt hx w'=>
   exfalso;simp only at e;cases hkk:k (.halt hx w') with
   |go g' w'' es'=>
    rw[hkk]at e;simp only[GStep.after,GStep.go.injEq]at e;obtain⟨rfl,rfl,_⟩:=e;exact hh hx w' _ _ _ hkk hfi
   |_=>rw[hkk]at e;cases e
  |ok a w'=>
   simp only at e;cases hkk:k (.ok a w') with
   |go g' w'' es'=>
    rw[hkk]at e;simp only[GStep.after,GStep.go.injEq]at e;obtain⟨rfl,rfl,rfl⟩:=e;obtain⟨rfl,rfl⟩:=hw _ _ _ _ _ hkk;obtain⟨b,v1,fs1,e1,hR,hB⟩:=h.sn hb w v #[] #[] a w'' es0 hs hr hN ht hd;obtain⟨h1,e2,hG⟩:=hk a b w'' v1 hR _ hkk hfi;obtain⟨zs,z1,z2,z3⟩:=hB.events;have hne:=ug z3;have q1:seen (gp P G) f es0=es0:=seen_eq (K.norace hf).2 (by rw[z1];simpa using hne.1);have q2:seen P f' fs1=fs1:=seen_eq (K.norace hf').1 (by rw[z2];simpa using hne.2);refine⟨h1,v1,fs1,?_,hG,?_⟩
    ·rw[e1];simp only[e2,GStep.after,q2,XG]
    ·rw[q1,XG];exact hB
   |_=>rw[hkk]at e;cases e
end
end
section
open Go.Conc
section
variable {P:Program}{G:Array Func}{L:aA}{T:aN}{τ:ai}{k₀:Kd}{N:Nat}{B D:List Frame}
theorem bV.eval(K:Let P G L T)(hb:fC τ)(hfl:Flat T τ){fr:Frame}(h:bV P L T τ fr gr)(c:bO)(x:Operand)(hx:fits L T fr.fn c x=true):CR L τ c (fr.eval x) (gr.eval x):=by
 cases x with
 |tmp t=>exact CR.fit hb hfl hx (h.tmps.getD t)
 |const v=>
  simp only[fits,Xw,IN]at hx;rcases hx with⟨h1,h2⟩|⟨h1,h2⟩
  ·exact CR.Fo h2 λπ=>.ofConst h1
  ·cases v<;>first|(cases h2;done)|skip
   cases c with
   |dV=>exact .inr (.inl ⟨rfl,rfl⟩)
   |loc=>exact .inr (.inl ⟨rfl,rfl⟩)
   |_=>cases h1
 |func f=>
  simp only[fits,IN]at hx;exact CR.Fo hx.2 λπ=>.NU (K.qm.cb f hx.1)
 |global g=>
  simp only[fits,IN,Xs]at hx;exact CR.any hb hfl hx.2 (.ptr ⟨hfl.2 g hx.1,rfl,rfl⟩)
theorem bV.to{fr:Frame}(h:bV P L T τ fr gr){l:List Item}(hk:L2 (fu P L T τ fr.fn) k l):bV P L T τ {fr with todo:=k} {gr with todo:=l}:=
 ⟨h.fn,h.cp,h.np,h.tmps,hk,h.defers,h.mode,h.run,h.kind,h.round⟩
theorem bV.leave{fr:Frame}(h:bV P L T τ fr gr)(hr:fr.roundOf=none):bV P L T τ {fr with mode:=.returning} {gr with mode:=.returning}:=
 ⟨h.fn,h.cp,h.np,h.tmps,h.todo,h.defers,rfl,.inr ⟨rfl,hr⟩,h.kind,h.round⟩
theorem bV.finish(hb:fC τ)(hfl:Flat T τ){fr:Frame}(h:bV P L T τ fr gr){c:bO}(hc:zW L T c fr)(hv:CR L τ c v w):bV P L T τ (fr.finish v) (gr.finish w):=by
 have ht:=h.todo;have ht':=h.tmps;unfold Frame.finish;generalize e1:fr.todo=k at ht;generalize e2:gr.todo=l at ht;cases ht with
 |nil=>exact h
 |cons hi hk=>
  cases hi with
  |@inRegion ops todo hops=>
   cases todo with
   |nil=>exact h
   |cons i rest=>
    dsimp only;refine⟨h.fn,h.cp,h.np,?_,.cons (.inRegion rest hops) hk,h.defers,h.mode,h.run,h.kind,h.round⟩;cases hd:(ops[i]?).bind (·.dst) with
    |none=>exact ht'
    |some d=>exact ht'.set (CR.fit hb hfl (hc ops i rest _ d e1 hd) hv)
  |inRangeFunc hl=>exact⟨h.fn,h.cp,h.np,ht',.cons (.endRangeFunc hl) hk,h.defers,h.mode,h.run,h.kind,h.round⟩
  |beginRound=>exact⟨h.fn,h.cp,h.np,ht',hk,h.defers,h.mode,h.run,h.kind,h.round⟩
  |_=>exact h
theorem bV.FA{fr:Frame}(h:bV P L T τ fr gr):bV P L T τ (fr.finish undef) (gr.finish undef):=by
 have ht:=h.todo;have ht':=h.tmps;unfold Frame.finish;generalize e1:fr.todo=k at ht;generalize e2:gr.todo=l at ht;cases ht with
 |nil=>exact h
 |cons hi hk=>
  cases hi with
  |@inRegion ops todo hops=>
   cases todo with
   |nil=>exact h
   |cons i rest=>
    dsimp only;refine⟨h.fn,h.cp,h.np,?_,.cons (.inRegion rest hops) hk,h.defers,h.mode,h.run,h.kind,h.round⟩;cases hd:(ops[i]?).bind (·.dst) with
    |none=>exact ht'
    |some d=>exact ht'.set (CR.undef _)
  |inRangeFunc hl=>exact⟨h.fn,h.cp,h.np,ht',.cons (.endRangeFunc hl) hk,h.defers,h.mode,h.run,h.kind,h.round⟩
  |beginRound=>exact⟨h.fn,h.cp,h.np,ht',hk,h.defers,h.mode,h.run,h.kind,h.round⟩
  |_=>exact h
theorem qC(fr:Frame)(v:Value):(fr.finish v).roundOf=fr.roundOf:=by
 unfold Frame.finish;split<;>rfl
theorem My(fr:Frame)(v:Value):(fr.finish v).fn=fr.fn:=by
 unfold Frame.finish;split<;>rfl
theorem rG(fr:Frame)(v:Value):iA L (fr.finish v)=iA L fr:=by
 unfold iA;rw[qC,My]
theorem uI(fr:Frame)(v:Value):(fr.finish v).mode=fr.mode:=by
 unfold Frame.finish;split<;>rfl
theorem jq.same{fr:Frame}(h:jq fr cs)(e:gr.roundOf=fr.roundOf):jq gr cs:=by
 cases cs with
 |nil=>exact e.trans h
 |cons c cs=>exact h
theorem Ua{f:FuncId}{ops:Array Oper}(h:TR L τ f xs ys)(j:Nat):yielded ops ys j=yielded ops xs j:=by
 unfold yielded;cases (ops[j]?).bind (·.dst) with
 |none=>rfl
 |some d=>
  simp only[YG];by_cases hi:d<xs.size
  ·have hj:d<ys.size:=by rw[h.1];exact hi
   rw[Array.getElem?_eq_getElem hi,Array.getElem?_eq_getElem hj];have hc:=h.2 d _ _ (Array.getElem?_eq_getElem hi) (Array.getElem?_eq_getElem hj);revert hc
   generalize xs[d]=x;generalize ys[d]=y;generalize L.cY f d=c;intro hc;have fun_:∀{p n},oX L p n τ x y->(match some y with|some (.bool b)=>some b|_=>none)=(match some x with|some (.bool b)=>some b|_=>none):=by
    rintro p n (⟨rfl,rfl⟩|⟨rfl,rfl⟩|⟨_,_,_,rfl,rfl,_⟩)<;>rfl
   have vr:∀{π},VR L π x y->(match some y with|some (.bool b)=>some b|_=>none)=(match some x with|some (.bool b)=>some b|_=>none):=λhv=>by
    cases hv with
    |bl s a b c=>
     dsimp only;cases hj:L.bl s<;>first|rfl|exact absurd hj (c _)
    |_=>rfl
   cases c with
   |any=>exact vr hc
   |own=>exact vr hc
   |box=>exact vr hc
   |jo=>rcases hc with⟨rfl,rfl⟩|⟨_,_,rfl,rfl,_⟩<;>rfl
   |dV=>exact fun_ hc
   |loc=>exact fun_ hc
  ·have h1:xs.size<=d:=Nat.le_of_not_lt hi;have h2:ys.size<=d:=by rw[h.1];exact h1
   rw[Array.getElem?_eq_none h1,Array.getElem?_eq_none h2]
theorem bV.enter(K:Let P G L T){f:FuncId}(hf:L.fn f)(hn:f≠T.bU){xs ys:Array Value}(h:TR L τ f xs ys):bV P L T τ (Frame.enter (gp P G) f xs .normal) (Frame.enter P f ys .normal):=by
 obtain⟨fn,c,h1,g1,h2,h3,_⟩:=K.body f hf hn;unfold Frame.enter;rw[Hy,h1,g1];simp only[XL,Yj,YG,h2];refine⟨rfl,hf,hn,?_,.cons (.code h3) .nil,.nil,rfl,.inl rfl,⟨rfl,rfl⟩,trivial⟩;rw[h.size];exact h.pad _
theorem iK.enter(K:Let P G L T){f:FuncId}(hf:L.fn f){xs ys:Array Value}(h:TR L τ f xs ys)(ha:∀k,L.ar f=some k->xs.size=k):iK P G L T τ (Frame.enter (gp P G) f xs .normal) (Frame.enter P f ys .normal):=by
 by_cases hn:f=T.bU
 ·subst hn;exact .bU hf h ha
 ·exact .run (bV.enter K hf hn h)
theorem bV.IP(hl:τ.lp l m){f:FuncId}(hf:L.fn f)(hn:f≠T.bU)(h:TR L τ f xs ys){a b:Code}(ha:dU P L T f a=true)(hb:dU P L T f b=true):
  bV P L T τ (Frame.round l f xs a b .normal) (Frame.round m f ys a b .normal):=
 ⟨rfl,hf,hn,h,.cons (.code ha) (.cons .beginRound (.cons (.code hb) .nil)),.nil,rfl,.inl rfl,⟨rfl,rfl⟩,hl⟩
theorem DD{f:FuncId}{l:List Item}(h:L2 (fu P L T τ f) k l):(match k with|.call _ true _ _::_=>CallKind.wrapped|_=>CallKind.normal)=.normal/\(match l with|.call _ true _ _::_=>CallKind.wrapped|_=>CallKind.normal)=.normal:=by
 cases h with
 |nil=>exact⟨rfl,rfl⟩
 |cons hi _=>cases hi<;>exact⟨rfl,rfl⟩
theorem Rj{fr:Frame}{m:String}{w:World}(h:GStep.after es0 (endFatal Q fr cs none m w)=.go g1 w1 es):g1.dying≠none:=by
 unfold endFatal at h;dsimp only at h;split at h
 ·simp only[dieOf,GStep.after,GStep.go.injEq]at h;obtain⟨rfl,_⟩:=h;simp
 ·cases h
 ·cases h
theorem MR(hah:Q.follows .staticDataAhead=true)(hns:∀g,Q.stepOf g=none){fr:Frame}{g:Nat}{w':World}(h:GStep.after es0 (early Q fr cs none g w')=.go g1 w1 es):False:=by
 unfold early at h;simp only[hah,hns]at h;cases h
theorem wF(hah:Q.follows .staticDataAhead=true)(hns:∀g,Q.stepOf g=none){fr:Frame}(hk:fr.kind=.normal){p:Sem Next}{w:World}(e:stepG.apply Q true fr cs none p w=.go g1 w1 es)(hfi:il g1):
  ∃a es0,p.runT Q w #[]=(.ok a w1,es0):=by
 have hst:=hfi.status;have hmd:=hfi.mode;have hke:(fr.kind==CallKind.early)=false:=by rw[hk];rfl
 cases hr:p.runT Q w #[] with
 |mk r es0=>
  cases r with
  |halt hx w'=>
   exfalso;simp only[stepG.apply,No,hr,hke,Xf,Xd]at e;cases hx with
   |panic x=>
    simp only[GStep.after,GStep.go.injEq]at e;obtain⟨rfl,_⟩:=e;unfold Frame.raise at hmd;split at hmd<;>exact hmd _ rfl
   |goexit=>
    simp only[GStep.after,GStep.go.injEq]at e;obtain⟨rfl,_⟩:=e;unfold Frame.raise at hmd;split at hmd<;>exact hmd _ rfl
   |blocked=>
    simp only[GStep.after,GStep.go.injEq]at e;obtain⟨rfl,_⟩:=e;cases hst
   |waiting=>
    simp only[GStep.after,GStep.go.injEq]at e;obtain⟨rfl,_⟩:=e;cases hst
   |exit c=>cases e
   |fatal m=>exact absurd hfi.dying (Rj e)
   |throw m=>
    simp only[endThrow,dieOf,GStep.after,GStep.go.injEq]at e;obtain⟨rfl,_⟩:=e;cases hfi.dying
   |stuck m=>cases e
   |unsupported u=>
    cases u with
    |initOrder g=>exact MR hah hns e
    |_=>cases e
  |ok a w'=>
   have hw:w1=w':=by
    simp only[stepG.apply,No,hr,hke,Xf,Xd]at e;cases a<;>dsimp only at e<;>first
     |(simp only[GStep.after,GStep.go.injEq]at e;exact e.2.1.symm)
     |(cases e;done)
     |(split at e<;>(try split at e)<;>first|(simp only[GStep.after,GStep.go.injEq]at e;exact e.2.1.symm)|(simp only[endThrow,dieOf,GStep.after,GStep.go.injEq]at e;exact e.2.1.symm)|(cases e;done))
   subst hw;exact⟨a,es0,rfl⟩
def yj(L:aA)(c:bO)(fr:Frame):Prop:=∀ops i rest k d,fr.todo=.inRegion ops (i::rest)::k->(ops[i]?).bind (·.dst)=some d->L.cY fr.fn d=c
theorem yj.fin{c:bO}{fr:Frame}(h:yj L c fr)(hf:bh T.fl d c=true):zW L T d fr:=λops i rest k e h1 h2=>by rw[h ops i rest k e h1 h2];exact hf
theorem zk(fl:Bool)(c:bO):bh fl c c=true:=by simp[bh]
theorem dN.apply(K:Let P G L T)(hb:Fit τ)(hfl:Flat T τ)(hd:∀r s,τ.un r s->r<N){w v:World}(hs:Sync L (CC P L T) τ k₀ N w v){fr:Frame}(hfr:bV P L T τ fr gr){ds:List Frame}(hcs:gZ P L T τ (iA L fr) cs ds)(hbot:jq fr cs){c:bO}(hc:yj L c fr){p q:Sem Next}(h:ae P G L (CC P L T) τ k₀ (dr L (CC P L T) τ T.fl c) p q):
  dN P G L T τ k₀ N B D w v (stepG.apply (gp P G) true fr (cs++B) none p w) (stepG.apply P true gr (ds++D) none q v):=by
 intro g1 w1 es e hfi hN ht;have hke:(fr.kind==CallKind.early)=false/\(gr.kind==CallKind.early)=false:=by rw[hfr.kind.1,hfr.kind.2];exact⟨rfl,rfl⟩
 have aV:=DD hfr.todo;obtain⟨a,es0,hr⟩:=wF (Q:=gp P G) K.ahead K.tJ hfr.kind.1 e hfi;obtain⟨b,v1,fs1,e1,hR,hB⟩:=h.sn hb w v #[] #[] a w1 es0 hs hr hN ht hd;obtain⟨zs,z1,z2,z3⟩:=hB.events;have hne:=ug z3;have q1:seen (gp P G) fr.fn es0=es0:=seen_eq (K.norace hfr.cp).2 (by rw[z1];simpa using hne.1);have q2:seen P gr.fn fs1=fs1:=seen_eq (K.norace (by rw[hfr.fn];exact hfr.cp)).1 (by rw[z2];simpa using hne.2);simp only[stepG.apply,No,hr,hke.1,Xf,Xd,q1]at e;cases hR with
 |@value x y hv=>
  simp only[GStep.after,GStep.go.injEq,XG]at e;obtain⟨rfl,_,rfl⟩:=e;refine⟨{frame:=gr.finish y,callers:=ds++D,status:=.running,dying:=none},v1,fs1,?_,?_,hB⟩
  ·simp only[stepG.apply,No,e1,hke.2,Xf,Xd,q2,GStep.after,XG]
  ·exact⟨.run (hfr.finish hb.tofC hfl (hc.fin (zk _ _)) hv),⟨rfl,rfl⟩,⟨rfl,rfl⟩,⟨rfl,rfl⟩,cs,ds,rfl,rfl,by rw[rG];exact hcs,hbot.same (qC _ _)⟩
 |skip=>
  simp only[GStep.after,GStep.go.injEq,XG]at e;obtain⟨rfl,_,rfl⟩:=e;refine⟨{frame:=gr.finish undef,callers:=ds++D,status:=.running,dying:=none},v1,fs1,?_,?_,hB⟩
  ·simp only[stepG.apply,No,e1,hke.2,Xf,Xd,q2,GStep.after,XG]
  ·exact⟨.run hfr.FA,⟨rfl,rfl⟩,⟨rfl,rfl⟩,⟨rfl,rfl⟩,cs,ds,rfl,rfl,by rw[rG];exact hcs,hbot.same (qC _ _)⟩
 |@enter f xs ys hf hx hres har=>
  simp only[GStep.after,GStep.go.injEq,XG]at e;obtain⟨rfl,_,rfl⟩:=e;refine⟨{frame:=Frame.enter P f ys .normal,callers:=gr::(ds++D),status:=.running,dying:=none},v1,fs1,?_,?_,hB⟩
  ·simp only[stepG.apply,No,e1,hke.2,Xf,Xd,q2,GStep.after,XG];exact congrArg (λk=>GStep.go {frame:=Frame.enter P f ys k,callers:=gr::(ds++D),status:=.running,dying:=none} v1 fs1) aV.2
  ·refine⟨?_,⟨rfl,rfl⟩,⟨rfl,rfl⟩,⟨rfl,rfl⟩,fr::cs,gr::ds,rfl,rfl,.cons hfr (hc.fin hres) hcs,hbot⟩;exact cast (congrArg (λk=>iK P G L T τ (Frame.enter (gp P G) f xs k) (Frame.enter P f ys .normal)) aV.1.symm) (iK.enter K hf hx har)
 |@round l m f xs ys a b hl hf hx ha hbd hres=>
  simp only[GStep.after,GStep.go.injEq,XG]at e;obtain⟨rfl,_,rfl⟩:=e;refine⟨{frame:=Frame.round m f ys a b .normal,callers:=gr::(ds++D),status:=.running,dying:=none},v1,fs1,?_,?_,hB⟩
  ·simp only[stepG.apply,No,e1,hke.2,Xf,Xd,q2,GStep.after,XG]
  ·exact⟨.run (bV.IP hl hf ha.2 hx ha.1 hbd.1),⟨rfl,rfl⟩,⟨rfl,rfl⟩,⟨rfl,rfl⟩,fr::cs,gr::ds,rfl,rfl,.cons hfr (hc.fin hres) hcs,hbot⟩
end
end
end Go.Proofs.YtldmcdeibiclkaaGreatDoor.U
