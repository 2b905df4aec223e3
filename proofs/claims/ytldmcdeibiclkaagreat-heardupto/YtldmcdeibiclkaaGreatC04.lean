/-
  Toward all_holds
-/
import Derived.Test.YtldmcdeibiclkaaGreatC03
import Derived.Test.YtldmcdeibiclkaaGreatC01
import Derived.Conc.Listed
set_option linter.all false
noncomputable section
set_option maxRecDepth 100000
set_option maxHeartbeats 20000000
namespace Go.Proofs.YtldmcdeibiclkaaGreat.U
variable {v w:ag}{xs ys:aa}{fl:Bool}{gr:al}{cs:List al}{α β:Type}{m:Nat}{es es0:Array Event}{Q:aj}{w1:af}{g1:ai}{d:cy}{g:au}
section
section
variable {P:aj}{G:Array Func}{L:aR}{C:au->Code->Prop}{τ:aJ}
theorem mild_holds(a:Addr)(n:Nat):bD (gp P G) (Builtin.holdsCells a n):=by
 unfold Builtin.holdsCells;refine bD.bind (.shape _) λx=>?_;split<;>exact .pure _
theorem wL(size sl n:Nat)(base:Option Addr)(x:ag):bD (gp P G) (Builtin.mayShare size sl n base x):=by
 have rest:∀b:Bool,bD (gp P G) (if (!b)=true then pure true else (match x with
   |.slice (some b) _ _=>do pure (!(← Builtin.holdsCells b (n*size))||base.any (·.block==b.block))
   |_=>pure false)):=λb=>by
  refine bD.ite (.pure _) ?_;split
  .exact bD.bind (mild_holds _ _) λ_=>.pure _
  .exact .pure _
 unfold Builtin.mayShare;cases base with
 |none=>grind
 |some a=>exact bD.bind (mild_holds _ _) λ_=>bD.bind (.frozen _) λ_=>bD.bind (p:=pure _) (.pure _) λb=>rest b
theorem XJ(E:Env P L τ){st j:ak}(t:ak)(u:∀d,P.underlying j=some d->(d matches .int _)=false){x y:ag}(hv:VR L τ.own v w)(o:VR L τ.all x y):
  aD P G L C τ .own (VR L τ.own) (Builtin.append_ #[st,j] t #[v,x]) (Builtin.append_ #[st,j] t #[w,y]):=by
 have r:=hv.mono E.bi.own;unfold Builtin.append_;show aD P G L C τ .own (VR L τ.own) (underlying st >>=_) (underlying st >>=_);refine aD.bind' (dG st) ?_;rintro d _ ⟨rfl,_⟩;cases d with
 |slice elem=>
  cases hv with
  |jx sl A=>
   refine aD.bind' (fV elem) ?_;rintro size _ rfl;refine aD.bind' (p:=underlying j) (q:=underlying j) (dG j) ?_;rintro d _ ⟨rfl,s⟩;refine aD.bind' (.pure (R:=λa b=>a=false/\b=false) ⟨u d s,u d s⟩) ?_;rintro _ _ ⟨rfl,rfl⟩;refine aD.bind' (p:=Builtin.lenOf x) (q:=Builtin.lenOf y) (wP o) ?_;rintro n _ rfl;try dsimp only
   split
   .refine aD.bind' (p:=Builtin.firstCells size n x) (q:=Builtin.firstCells size n y) (pG size n o) λxs ys e=>?_;exact .pure (.jx _ _)
   .refine aD.bind' (kX elem) ?_;rintro i _ ⟨rfl,_⟩;try dsimp only
    split
    .exact .aE _ (aM.bind' (.runtimePanic _))
    .refine aD.bind' (kX elem) ?_;rintro i _ ⟨rfl,_⟩;try dsimp only
     split
     .refine .aE _ ?_;first
      |(refine aM.bind' ?_
        refine aM.then (p:=Builtin.mayShare size sl n _ _) (wL _ _ _ _ _) λb=>?_;cases b<;>first|exact aM.unsupported _|exact aM.then (.mark _) λ_=>aM.unsupported _)
      |(refine aM.then (p:=Builtin.mayShare size sl n _ _) (wL _ _ _ _ _) λb=>?_
        cases b<;>first|exact aM.bind' (.unsupported _)|exact aM.then (.mark _) λ_=>aM.bind' (.unsupported _))
     .refine aD.bind' (ui _) ?_;rintro cap _ rfl;refine aD.bind' (kX elem) ?_;rintro i _ ⟨rfl,_⟩;refine aD.bind' (Cm _) λ_ _ _=>?_;refine aD.bind' (pG size _ r) λF vs k=>?_;refine aD.bind' (p:=Builtin.firstCells size n x) (q:=Builtin.firstCells size n y) (pG size n o) λxs ys e=>?_;refine aD.bind' (pM E elem) λz H l=>?_;exact aD.bind' (ql elem ((k.append e).append (l.cells.zeroCells _))) λa b h=>.pure (.slice _ _ h)
  |@slice a b sl A h=>
   refine aD.bind' (fV elem) ?_;rintro size _ rfl;refine aD.bind' (p:=underlying j) (q:=underlying j) (dG j) ?_;rintro d _ ⟨rfl,s⟩;refine aD.bind' (.pure (R:=λa b=>a=false/\b=false) ⟨u d s,u d s⟩) ?_;rintro _ _ ⟨rfl,rfl⟩;refine aD.bind' (p:=Builtin.lenOf x) (q:=Builtin.lenOf y) (wP o) ?_;rintro n _ rfl;try dsimp only
   split
   .refine aD.bind' (p:=Builtin.firstCells size n x) (q:=Builtin.firstCells size n y) (pG size n o) λxs ys e=>?_;exact aD.bind' (BX (h.add _) e) λ_ _ _=>.pure (.slice _ _ h)
   .refine aD.bind' (kX elem) ?_;rintro i _ ⟨rfl,_⟩;try dsimp only
    split
    .exact .aE _ (aM.bind' (.runtimePanic _))
    .refine aD.bind' (kX elem) ?_;rintro i _ ⟨rfl,_⟩;try dsimp only
     split
     .refine .aE _ ?_;first
      |(refine aM.bind' ?_
        refine aM.then (p:=Builtin.mayShare size sl n _ _) (wL _ _ _ _ _) λb=>?_;cases b<;>first|exact aM.unsupported _|exact aM.then (.mark _) λ_=>aM.unsupported _)
      |(refine aM.then (p:=Builtin.mayShare size sl n _ _) (wL _ _ _ _ _) λb=>?_
        cases b<;>first|exact aM.bind' (.unsupported _)|exact aM.then (.mark _) λ_=>aM.bind' (.unsupported _))
     .refine aD.bind' (ui _) ?_;rintro cap _ rfl;refine aD.bind' (kX elem) ?_;rintro i _ ⟨rfl,_⟩;refine aD.bind' (Cm _) λ_ _ _=>?_;refine aD.bind' (pG size _ r) λF vs k=>?_;refine aD.bind' (p:=Builtin.firstCells size n x) (q:=Builtin.firstCells size n y) (pG size n o) λxs ys e=>?_;refine aD.bind' (pM E elem) λz H l=>?_;exact aD.bind' (ql elem ((k.append e).append (l.cells.zeroCells _))) λa b h=>.pure (.slice _ _ h)
  |_=>exact .aa
 |_=>exact .aa
end
end
section
def bK(fl:Bool)(c d:cy):Bool:=decide (c=d)||(decide (c=.own)&&decide (d=.any))||(fl&&decide (c=.any)&&decide (d=.own))
def xZ:cy->Bool
 |.any|.own|.box=>true
 |_=>false
def T8:cy->Bool
 |.eT|.loc=>true
 |_=>false
structure bw where
 fl:Bool
 fb:au->Bool
 cb:au->Bool
 ib:au->Bool
 lb:au->Bool
 cA:au
 ng:Nat
structure qv(L:aR)(T:bw):Prop where
 fb:∀f,T.fb f=true->L.fn f
 cb:∀f,T.cb f=true->L.gH f
 ib:∀f,T.ib f=true->L.eT f
 lb:∀f,T.lb f=true->L.loc f
 gH:∀f,L.gH f->L.fn f/\(∀i,L.dC f i=.any)/\L.res f=.any
 loc:∀f,L.loc f->L.fn f/\(∀i,L.dC f i=.any)/\L.res f=.any
 ar:∀f,L.gH f\/L.eT f\/L.loc f->L.ar f=none
 eT:∀f,L.eT f->L.fn f/\L.dC f 0=.kF/\(∀i,i≠0->bK T.fl .any (L.dC f i)=true\/2<=i)/\L.res f=.any
inductive dX (L:aR) (C:au->Code->Prop) (τ:aJ) (fl:Bool) (c:cy):Next->Next->Prop
 |value {v w:ag}:CR L τ c v w->dX L C τ fl c (.value v) (.value w)
 |skip:dX L C τ fl c .skip .skip
 |enter {f:au} {xs ys:aa}:L.fn f->TR L τ f xs ys->bK fl (L.res f) c=true->(∀k,L.ar f=some k->xs.size=k)->dX L C τ fl c (.enter f xs) (.enter f ys)
 |round {l m:Nat} {f:au} {xs ys:aa} {a b:Code}:τ.lp l m->L.fn f->TR L τ f xs ys->C f a->C f b->bK fl .any c=true->dX L C τ fl c (.round l f xs a b) (.round m f ys a b)
def qp(P:aj)(G:Array Func)(L:aR):Prop:=∀f,L.fn f->(∃fn,P.funcs[f]?=some fn/\(fn.name== "runtime.NumGoroutine")=false/\fn.body.isNone=false)/\(∃fn,G[f]?=some fn/\(fn.name== "runtime.NumGoroutine")=false/\fn.body.isNone=false)
def EX:ag->Bool
 |.bool _|.int .. |.string _|.pointer none|.slice none _ _|.map none|.nilFunc|.nilIface=>true
 |_=>false
def fits(L:aR)(T:bw)(f:au)(c:cy):ax->Bool
 |.tmp i=>bK T.fl (L.dC f i) c
 |.const v=>(EX v&&xZ c)||(T8 c&&(match v with|.nilFunc=>true|_=>false))
 |.func g=>T.cb g&&xZ c
 |.global g=>decide (g<T.ng)&&bK T.fl .any c
def FD(P:aj)(s d:ak):Bool:=
 match P.underlying s,P.underlying d with
 |some (.int _),some (.int _)=>true
 |some (.slice e),some .string=>(match P.underlying e with|some (.int .u8)=>true|_=>false)
 |_,_=>false
section
variable {P:aj}{G:Array Func}{L:aR}{C:au->Code->Prop}{τ:aJ}{T:bw}{π:Nat->Nat->Prop}{k₀:Kd}
theorem VR.ofConst(h:EX v=true):VR L π v v:=by
 cases v with
 |pointer p=>cases p<;>first|exact .bZ|cases h
 |slice p n c=>cases p<;>first|exact .jx _ _|cases h
 |map p=>cases p<;>first|exact .mD|cases h
 |bool b=>exact .bool b
 |int k n=>exact .int k n
 |string s=>exact .string s
 |nilFunc=>exact .nilFunc
 |nilIface=>exact .nilIface
 |_=>cases h
theorem VR.LJ{f:au}(h:L.gH f):VR L π (.func (.func f) #[] #[]) (.func (.func f) #[] #[]):=by
 simpa using VR.func (L:=L) (π:=π) #[] #[] h zp zp
theorem VR.undef:VR L π Go.undef Go.undef:=by
 simpa[Go.undef] using VR.tuple (L:=L) (π:=π) #[] zp
theorem CR.undef(c:cy):CR L τ c Go.undef Go.undef:=by
 cases c with
 |any=>exact VR.undef
 |own=>exact VR.undef
 |box=>exact VR.undef
 |kF=>exact .inl ⟨rfl,rfl⟩
 |eT=>exact .inl ⟨rfl,rfl⟩
 |loc=>exact .inl ⟨rfl,rfl⟩
def Flat(T:bw)(τ:aJ):Prop:=(T.fl=true->∀r s,τ.all r s->τ.own r s)/\∀g,g<T.ng->τ.all g g
theorem CR.fit(hb:gU τ)(a:Flat T τ){c:cy}(h:bK T.fl c d=true)(hv:CR L τ c v w):CR L τ d v w:=by
 unfold bK at h;simp only[abS,No,abb]at h;rcases h with (rfl|⟨rfl,rfl⟩)|⟨⟨b,rfl⟩,rfl⟩
 .exact hv
 .exact VR.mono hb.own hv
 .exact VR.mono (a.1 b) hv
def CR.own{c:cy}(hb:gU τ)(a:Flat T τ)(h:bK T.fl .own c=true)(hv:VR L τ.own v w):CR L τ c v w:=CR.fit (c:=.own) hb a h hv
def CR.any{c:cy}(hb:gU τ)(a:Flat T τ)(h:bK T.fl .any c=true)(hv:VR L τ.all v w):CR L τ c v w:=CR.fit (c:=.any) hb a h hv
theorem CR.G4{c:cy}(h:xZ c=true)(hv:∀π,VR L π v w):CR L τ c v w:=by
 cases c with
 |any=>exact hv _
 |own=>exact hv _
 |box=>exact hv _
 |_=>cases h
def TR.size{f:au}(h:TR L τ f xs ys):ys.size=xs.size:=h.1
theorem TR.getD{f:au}(h:TR L τ f xs ys)(i:Nat):CR L τ (L.dC f i) (xs.getD i Go.undef) (ys.getD i Go.undef):=by
 rw[acd,acd];by_cases hi:i<xs.size
 .have hj:i<ys.size:=by rw[h.1];exact hi
  rw[abI hi,abI hj];exact h.2 i _ _ (abI hi) (abI hj)
 .rw[Array.getElem?_eq_none zo,Array.getElem?_eq_none (by rw[h.1];omega)];exact CR.undef _
theorem TR.set{f:au}(h:TR L τ f xs ys){d:Nat}(hv:CR L τ (L.dC f d) v w):TR L τ f (xs.setIfInBounds d v) (ys.setIfInBounds d w):=by
 refine⟨by simp[h.1],λi x y a b=>?_⟩;rw[acz]at a b;by_cases e:d=i
 .grind
 .simp only[e,abd]at a b;exact h.2 i x y a b
theorem TR.BJ{f:au}(j:∀i,L.dC f i=.any)(h:XR (VR L τ.all) xs ys):TR L τ f xs ys:=
 ⟨h.size,λi x y a e=>by
  rw[j i];rcases h.get? i with⟨b,_⟩|⟨u,v,b,k,l⟩
  .rw[b]at a;cases a
  .rw[b]at a;rw[k]at e;cases a;cases e;exact l⟩
theorem TR.pad{f:au}(h:TR L τ f xs ys)(n:Nat):TR L τ f (xs++Array.replicate n Go.undef) (ys++Array.replicate n Go.undef):=by
 refine⟨by simp[h.1],λi x y b a=>?_⟩;rw[Array.getElem?_append]at b a;rw[h.1]at a;split at b
 .rename_i hi;rw[BY hi]at a;exact h.2 i x y b a
 .rename_i hi;rw[AT hi]at a;rw[Array.eq_of_mem_replicate (acx b),Array.eq_of_mem_replicate (acx a)];exact CR.undef _
theorem TR.JK{f:au}:∀(ps:List Nat) (l:List (ag×ag)) {cs ds:aa},(∀p∈ps,L.dC f p=.any)->(∀z∈l,VR L τ.all z.1 z.2)->TR L τ f cs ds->
  TR L τ f ((ps.zip (l.map (·.1))).foldl (λc (x:Nat×ag)=>c.setIfInBounds x.1 x.2) cs) ((ps.zip (l.map (·.2))).foldl (λc (x:Nat×ag)=>c.setIfInBounds x.1 x.2) ds)
 |[],_,_,_,_,_,h=>h
 |_::_,[],_,_,_,_,h=>h
 |p::ps,z::l,cs,ds,a,b,h=>by
  simp only[abv,List.zip_cons_cons,acJ];exact TR.JK ps l (λq e=>a q (by simp[e])) (λy i=>b y (by simp[i])) (h.set (by rw[a p zp];exact b z zp))
def QW{R:α->β->Prop}{f:aj->Sem α}{g:aj->Sem β}(h:aD P G L C τ k₀ R (f (gp P G)) (g P)):aD P G L C τ k₀ R (program >>=f) (program >>=g):=.program h
def GQ{r s:Nat}(h:τ.lp r s):aD P G L C τ k₀ (gR L C τ) (getObj r) (getObj s):=.qe h λ_ _ a=>.pure a
def wI{r s:Nat}{o q:Obj}(h:τ.lp r s)(a:gR L C τ o q):aD P G L C τ k₀ (λ_ _=>True) (setObj r o) (setObj s q):=.qw h a (.pure trivial)
theorem wZ(F:qp P G L){c:cy}{f:au}(a:L.fn f)(h:TR L τ f xs ys)(b:bK fl (L.res f) c=true)(i:∀k,L.ar f=some k->xs.size=k):aD P G L C τ k₀ (dX L C τ fl c) (callFunc f xs) (callFunc f ys):=by
 obtain⟨⟨fn,j,l,n⟩,⟨p,g1,g2,o⟩⟩:=F f a;unfold callFunc;refine QW ?_;have e:(gp P G).funcs=G:=rfl;rw[e,j,g1];dsimp only;rw[l,n,g2,o];exact .pure (.enter a h b i)
theorem uo{l:Nat}(h:τ.lp l m):aD P G L C τ k₀ (λa b=>gR L C τ (.loop a) (.loop b)) (Instr.getLoop l) (Instr.getLoop m):=by
 unfold Instr.getLoop;refine aD.bind' (GQ h) λo q i=>?_;have e:=i;cases i with
 |loop=>exact .pure e
 |_=>exact .aa
theorem UH{c:cy}(o:bK fl .any c=true){l:Nat}(h:τ.lp l m)(n:XR (VR L τ.all) xs ys):aD P G L C τ k₀ (dX L C τ fl c) (Instr.yield l xs) (Instr.yield m ys):=by
 unfold Instr.yield;refine aD.bind' (uo h) λa b e=>?_;cases e with
 |loop I J q r s t u K x i y j k=>
  try dsimp only
  rw[n.size,s];split
  .exact .aE _ (aM.bind' (.stuck _))
  .refine .pure ?_;rw[q,t,u];refine .round h j ?_ x i o;obtain⟨z,A,E,F⟩:=n.list;rw[<-Array.foldl_toList,<-Array.foldl_toList,Array.toList_zip,Array.toList_zip,A,E];exact TR.JK _ z (λp H=>k p (by simpa using H)) F r
theorem Nn(F:qp P G L)(K:qv L T){c:cy}(o:bK fl .any c=true)(hv:VR L τ.all v w)(p:XR (VR L τ.all) xs ys):
  aD P G L C τ k₀ (dX L C τ fl c) (do let d ←Deferred.ofValue v xs;invoke d.target d.args) (do let d ←Deferred.ofValue w ys;invoke d.target d.args):=by
 cases hv with
 |func q vs h r b=>
  show aD P G L C τ k₀ (dX L C τ fl c) (callFunc _ _) (callFunc _ _);obtain⟨i,j,l⟩:=K.gH _ h;exact wZ F i (TR.BJ j (XR.append (XR.append ⟨q,rfl,rfl,r⟩ p) ⟨vs,rfl,rfl,b⟩)) (by rw[l];exact o) (λk n=>by rw[K.ar _ (.inl h)]at n;cases n)
 |nilFunc=>exact .aE _ (show aM (gp P G) (runtimePanic .nilDeref:Sem Next) from .runtimePanic _)
 |bL s i j l=>
  refine .aE _ ?_;show aM (gp P G) (match (#[Value.nilIface]++xs)[0]? with|some recv=>callMethod recv s ((#[Value.nilIface]++xs).extract 1 (#[Value.nilIface]++xs).size)|_=>stuck "call: a method without a receiver");have e:(#[Value.nilIface]++xs)[0]?=some .nilIface:=zg;rw[e];exact show aM (gp P G) (runtimePanic .nilDeref:Sem Next) from .runtimePanic _
 |_=>exact .aE _ (aM.bind' (.stuck _))
theorem X2(F:qp P G L)(K:qv L T){c:cy}(e:bK fl .any c=true)(hv:CR L τ .loc v w)(h:XR (VR L τ.all) xs ys):
  aD P G L C τ k₀ (dX L C τ fl c) (do let d ←Deferred.ofValue v xs;invoke d.target d.args) (do let d ←Deferred.ofValue w ys;invoke d.target d.args):=by
 rcases hv with⟨rfl,rfl⟩|⟨rfl,rfl⟩|⟨f,o,vs,rfl,rfl,a,i,p⟩
 .exact .aE _ (aM.bind' (.stuck _))
 .exact .aE _ (show aM (gp P G) (runtimePanic .nilDeref:Sem Next) from .runtimePanic _)
 .show aD P G L C τ k₀ (dX L C τ fl c) (callFunc _ _) (callFunc _ _);obtain⟨j,l,n⟩:=K.loc _ a;exact wZ F j (TR.BJ l (XR.append (XR.append .nil h) i)) (by rw[n];exact e) (λk b=>by rw[K.ar _ (.inr (.inr a))]at b;cases b)
theorem Vr{c:cy}(a:bK fl .any c=true)(hv:CR L τ .kF v w)(b:XR (VR L τ.all) xs ys):
  aD P G L C τ k₀ (dX L C τ fl c) (do let d ←Deferred.ofValue v xs;invoke d.target d.args) (do let d ←Deferred.ofValue w ys;invoke d.target d.args):=by
 rcases hv with⟨rfl,rfl⟩|⟨l,m,rfl,rfl,h⟩
 .exact .aE _ (aM.bind' (.stuck _))
 .show aD P G L C τ k₀ (dX L C τ fl c) (Instr.yield _ _) (Instr.yield _ _);exact UH a h (XR.append .nil b)
theorem IY(hb:gU τ)(e:Flat T τ)(F:qp P G L)(K:qv L T){c:cy}(p:bK fl .any c=true)(hv:CR L τ .eT v w){l:Nat}(hl:τ.lp l m):
  aD P G L C τ k₀ (dX L C τ fl c) (do let d ←Deferred.ofValue v #[.func (.yield l) #[] #[]];invoke d.target d.args) (do let d ←Deferred.ofValue w #[.func (.yield m) #[] #[]];invoke d.target d.args):=by
 rcases hv with⟨rfl,rfl⟩|⟨rfl,rfl⟩|⟨f,q,vs,rfl,rfl,h,j,E⟩
 .exact .aE _ (aM.bind' (.stuck _))
 .exact .aE _ (show aM (gp P G) (runtimePanic .nilDeref:Sem Next) from .runtimePanic _)
 .show aD P G L C τ k₀ (dX L C τ fl c) (callFunc f (#[]++#[.func (.yield l) #[] #[]]++q)) (callFunc f (#[]++#[.func (.yield m) #[] #[]]++vs));obtain⟨r,s,t,z⟩:=K.eT _ h;refine wZ F r ⟨by simp[j.size],λi x y a b=>?_⟩ (by rw[z];exact p) (λk n=>by rw[K.ar _ (.inr (.inl h))]at n;cases n);cases i with
  |zero=>
   rw[s];simp[Array.getElem?_append]at a b;exact .inr ⟨l,m,a.symm,b.symm,hl⟩
  |succ i=>
   simp[Array.getElem?_append]at a b;rcases j.get? i with⟨g1,_⟩|⟨u,v,g1,g2,A⟩
   .rw[g1]at a;cases a
   .rw[g1]at a;rw[g2]at b;cases a;cases b;have hi:=(IN.1 g1).1;rcases t (i+1) zo with o|o
    .exact CR.any hb e o A
    .omega
end
end
section
def Cv(P:aj)(L:aR)(T:bw)(f:au)(c:cy)(b:Builtin)(ts:Array ak)(xs:Array ax):Bool:=
 match b,ts.toList,xs.toList with
 |.append,[_,xt],[a,d]=>fits L T f .own a&&fits L T f .any d&&bK T.fl .own c&&(match P.underlying xt with|some (.int _)=>false|_=>true)
 |.copy,[_,_],[a,d]=>fits L T f .own a&&fits L T f .any d&&bK T.fl .any c
 |.len,[t],[a]=>fits L T f .any a&&bK T.fl .any c&&(match P.underlying t with|some .string|some (.slice _)=>true|_=>false)
 |.min,_,[a,d]|.max,_,[a,d]=>fits L T f .any a&&fits L T f .any d&&bK T.fl .any c
 |.unsafeString,_,[a,d]=>fits L T f .own a&&fits L T f .any d&&bK T.fl .any c
 |_,_,_=>false
def C9(L:aR)(T:bw)(f g:au)(xs:Array ax):Bool:=(List.range xs.size).all λi=>match xs[i]? with|some x=>fits L T f (L.dC g i) x|none=>false
def A6(L:aR)(T:bw)(f:au)(c:cy)(xs:Array ax):ax->Bool
 |.func g=>T.fb g&&C9 L T f g xs&&bK T.fl (L.res g) c&&(match L.ar g with|some k=>xs.size==k|none=>true)
 |.tmp i=>(bK T.fl (L.dC f i) .any||decide (L.dC f i=.loc)||decide (L.dC f i=.kF))&&xs.all (fits L T f .any)&&bK T.fl .any c
 |_=>false
def eC(P:aj)(L:aR)(T:bw)(f:au)(c:cy):Op->Bool
 |.move x|.assign x=>fits L T f c x
 |.nilCheck x=>xZ c&&fits L T f c x
 |.unOp _ _ x|.makeInterface _ x|.field _ x _|.entry x|.typeAssert x _ _ _|.extract x _=>fits L T f .any x&&bK T.fl .any c
 |.panic _=>true
 |.box _ x=>(decide (c=.box)&&fits L T f .own x)||(bK T.fl .own c&&!decide (c=.box)&&fits L T f .any x)
 |.load _ x=>(fits L T f .any x&&bK T.fl .any c)||(fits L T f .box x&&bK T.fl .own c)
 |.fieldAddr _ x _=>(fits L T f .any x&&bK T.fl .any c)||(fits L T f .own x&&bK T.fl .own c)
 |.range _ x=>fits L T f .any x&&bK T.fl .own c
 |.next x s=>!s&&fits L T f .own x&&bK T.fl .any c
 |.pick b x y=>fits L T f .any b&&fits L T f c x&&fits L T f c y
 |.alloc _=>bK T.fl .own c
 |.build _ ps=>(ps.all λp=>fits L T f .any p.2)&&bK T.fl .any c
 |.buildSlice _ _ ps=>(ps.all λp=>fits L T f .any p.2)&&bK T.fl .own c
 |.store _ a v=>(fits L T f .own a&&fits L T f .any v)||(fits L T f .box a&&fits L T f .own v)
 |.makeSlice _ a v=>fits L T f .any a&&fits L T f .any v&&bK T.fl .own c
 |.indexAddr _ a v=>fits L T f .any v&&((fits L T f .any a&&bK T.fl .any c)||(fits L T f .own a&&bK T.fl .own c))
 |.index _ a v=>fits L T f .any a&&fits L T f .any v&&bK T.fl .any c
 |.binOp op t x y _=>fits L T f .any x&&fits L T f .any y&&bK T.fl .any c&&(match op with|.eql|.neq=>iH P 10 t&&!P.eqGuardType P.depth t|_=>true)
 |.convert s d x=>fits L T f .any x&&bK T.fl .any c&&FD P s d
 |.makeFunc (.func g) a b=>(T.cb g&&a.all (fits L T f .any)&&b.all (fits L T f .any)&&bK T.fl .any c)||(a.isEmpty&&b.all (fits L T f .any)&&((T.ib g&&decide (c=.eT)&&decide (b.size<=1))||(T.lb g&&decide (c=.loc)&&decide (b.size<=2))))
 |.makeMap _ none=>bK T.fl .own c
 |.slice _ x l h m=>l.all (fits L T f .any)&&h.all (fits L T f .any)&&m.all (fits L T f .any)&&((fits L T f .any x&&bK T.fl .any c)||(fits L T f .own x&&bK T.fl .own c))
 |.lookup t x i _=>fits L T f .any x&&fits L T f .any i&&bK T.fl .any c&&(match P.underlying t with|some (.map k _)=>iH P 10 k|_=>false)
 |.mapUpdate t m k v=>fits L T f .own m&&fits L T f .any k&&fits L T f .any v&&(match P.underlying t with|some (.map k _)=>(match P.underlying k with|some .string=>true|_=>false)|_=>false)
 |.call d=>(match d.callee with|.value g=>A6 L T f c d.args g|.builtin b=>Cv P L T f c b d.argTypes d.args|.invoke .. =>false)
 |_=>false
def vC(c:cy):Op->Kd
 |.box _ _=>if c=.box then .box else .own
 |_=>.own
section
variable {P:aj}{G:Array Func}{L:aR}{C:au->Code->Prop}{τ:aJ}{T:bw}{f:au}{c:cy}{ρ σ:ax->ag}
theorem US(e:ak)(h:VR L τ.own v w):aD P G L C τ .box (VR L τ.box) (Instr.box e v) (Instr.box e w):=by
 unfold Instr.box newVar newRow;exact aD.bind' (R:=AR τ.box) (aD.bind' (R:=τ.box) (.rh e (0,0) rfl h.cells λr s i=>.pure i) λr s i=>.pure ⟨i,rfl,rfl⟩) λa b h=>.pure (.ptr h)
def qD{k₀:Kd}{p q:Sem ag}(h:aD P G L C τ k₀ (CR L τ c) p q):aD P G L C τ k₀ (dX L C τ T.fl c) (do pure (.value (← p))) (do pure (.value (← q))):=aD.bind' h λ_ _ hv=>.pure (.value hv)
def zP{p q:Sem Unit}(h:aD P G L C τ .own (λ_ _=>True) p q):aD P G L C τ .own (dX L C τ T.fl c) (do p;pure .skip) (do q;pure .skip):=aD.bind' h λ_ _ _=>.pure .skip
theorem XR.args(e:∀c x,fits L T f c x=true->CR L τ c (ρ x) (σ x)){xs:Array ax}(h:xs.all (fits L T f .any)=true):XR (VR L τ.all) (xs.map ρ) (xs.map σ):=
 XR.map (R:=λa b=>a=b/\fits L T f .any a=true) (XR.self xs λx i=>⟨rfl,acH.1 h x i⟩) (by rintro a _ ⟨rfl,j⟩;exact e .any a j)
theorem XR.parts(e:∀c x,fits L T f c x=true->CR L τ c (ρ x) (σ x)){xs:Array (Nat×ax)}(h:(xs.all λp=>fits L T f .any p.2)=true):XR (PR L τ.all) (xs.map λ(i,x)=>(i,ρ x)) (xs.map λ(i,x)=>(i,σ x)):=
 XR.map (R:=λa b=>a=b/\fits L T f .any a.2=true) (XR.self xs λx j=>⟨rfl,acH.1 h x j⟩) (by rintro⟨i,a⟩ _ ⟨rfl,k⟩;exact⟨rfl,e .any a k⟩)
theorem QR.opt(a:∀c x,fits L T f c x=true->CR L τ c (ρ x) (σ x)){o:Option ax}(h:o.all (fits L T f .any)=true):QR L τ.all (o.map ρ) (o.map σ):=by
 cases o with
 |none=>exact .none
 |some x=>exact .some (a .any x h)
theorem TR.args(k:∀c x,fits L T f c x=true->CR L τ c (ρ x) (σ x)){xs:Array ax}(h:C9 L T f g xs=true):TR L τ g (xs.map ρ) (xs.map σ):=by
 refine⟨zp,λi x y e b=>?_⟩;rw[abX]at e b;obtain⟨a,j,rfl⟩:=abD.1 e;rw[j]at b;cases b
 have:=abK.1 h i (ace.2 (IN.1 j).1);grind
theorem uI{xs:Array α}{a b:α}(h:xs.toList= [a,b]):xs=#[a,b]:=by
 grind
theorem IX{xs:Array α}{a:α}(h:xs.toList= [a]):xs=#[a]:=by
 grind
theorem nj(h:ax->ag)(a b:ax):(#[a,b]:Array ax).map h=#[h a,h b]:=zp
theorem ve(h:ax->ag)(a:ax):(#[a]:Array ax).map h=#[h a]:=zp
theorem Nb(E:Env P L τ)(n:Flat T τ)(i:∀c x,fits L T f c x=true->CR L τ c (ρ x) (σ x))(b:Builtin){o:Array ak}(t:ak)(cs:Array Bool){xs:Array ax}(e:Cv P L T f c b o xs=true):
  aD P G L C τ .own (dX L C τ T.fl c) (builtin b o t cs (xs.map ρ)) (builtin b o t cs (xs.map σ)):=by
 have hb:=E.bi.togU;have r:∀{p q:Sem ag},bK T.fl .own c=true->aD P G L C τ .own (VR L τ.own) p q->aD P G L C τ .own (dX L C τ T.fl c) (do pure (.value (← p))) (do pure (.value (← q))):=λs h=>qD (h.mono λ_ _ hv=>CR.own hb n s hv);have j:∀{p q:Sem ag},bK T.fl .any c=true->aD P G L C τ .own (VR L τ.all) p q->aD P G L C τ .own (dX L C τ T.fl c) (do pure (.value (← p))) (do pure (.value (← q))):=λs h=>qD (h.mono λ_ _ hv=>CR.any hb n s hv);obtain⟨o⟩:=o;unfold Cv at e;split at e
 .rename_i st z a d k l;obtain rfl:=uI l;rw[nj ρ,nj σ];simp only[No]at e;obtain⟨⟨⟨u,y⟩,A⟩,e⟩:=e;simp only at k;subst k;refine r A (XJ E t (λd F=>?_) (i .own a u) (i .any d y));grind
 .rename_i st z a d k l;obtain rfl:=uI l;rw[nj ρ,nj σ];simp only[No]at e;simp only at k;subst k;exact j e.2 (XO t (i .own a e.1.1) (i .any d e.1.2))
 .rename_i z a k l;obtain rfl:=IX l;rw[ve ρ,ve σ];simp only[No]at e;obtain⟨⟨u,y⟩,e⟩:=e;simp only at k;subst k;refine j y (Pk t (λd F=>?_) (i .any a u));grind
 .rename_i a d l;obtain rfl:=uI l;rw[nj ρ,nj σ];simp only[No]at e;exact j e.2 (P1 _ _ (i .any a e.1.1) (i .any d e.1.2))
 .rename_i a d l;obtain rfl:=uI l;rw[nj ρ,nj σ];simp only[No]at e;exact j e.2 (YM _ _ (i .any a e.1.1) (i .any d e.1.2))
 .rename_i a d l;obtain rfl:=uI l;rw[nj ρ,nj σ];simp only[No]at e;exact j e.2 (LM hb _ _ (i .own a e.1.1) (i .any d e.1.2))
 .cases e
theorem OO(F:qp P G L){k₀:Kd}(a:L.fn g)(hv:v=.func (.func g) #[] #[])(b:w=.func (.func g) #[] #[])(e:TR L τ g xs ys)(h:bK fl (L.res g) c=true)(i:∀k,L.ar g=some k->xs.size=k):
  aD P G L C τ k₀ (dX L C τ fl c) (do let d ←Deferred.ofValue v xs;invoke d.target d.args) (do let d ←Deferred.ofValue w ys;invoke d.target d.args):=by
 subst hv b;show aD P G L C τ k₀ (dX L C τ fl c) (callFunc g (#[]++xs++#[])) (callFunc g (#[]++ys++#[]));simp only[acp,abL];exact wZ F a e h i
theorem GF(E:Env P L τ)(F:qp P G L)(K:qv L T)(Z:Flat T τ)(hg:(∀g,ρ (.func g)=.func (.func g) #[] #[])/\∀g,σ (.func g)=.func (.func g) #[] #[])(A:∀c x,fits L T f c x=true->CR L τ c (ρ x) (σ x))(o:Oper)(j:eC P L T f c o.op=true):
  aD P G L C τ (vC c o.op) (dX L C τ T.fl c) (execOp ρ o) (execOp σ o):=by
 have hb:=E.bi.togU;have M:∀{p q:Sem ag},bK T.fl .own c=true->aD P G L C τ .own (VR L τ.own) p q->aD P G L C τ .own (dX L C τ T.fl c) (do pure (.value (← p))) (do pure (.value (← q))):=λI h=>qD (h.mono λ_ _ hv=>CR.own hb Z I hv);have u:∀{p q:Sem ag},bK T.fl .any c=true->aD P G L C τ .own (VR L τ.all) p q->aD P G L C τ .own (dX L C τ T.fl c) (do pure (.value (← p))) (do pure (.value (← q))):=λI h=>qD (h.mono λ_ _ hv=>CR.any hb Z I hv);have O:∀x,fits L T f .any x=true->VR L τ.all (ρ x) (σ x):=λx W=>A .any x W;have Y:∀x,fits L T f .own x=true->VR L τ.own (ρ x) (σ x):=λx W=>A .own x W;have hX:∀x,fits L T f .box x=true->VR L τ.box (ρ x) (σ x):=λx W=>A .box x W;unfold execOp;cases z:o.op with
 |move x=>rw[z]at j;exact .pure (.value (A c x j))
 |assign x=>rw[z]at j;exact .pure (.value (A c x j))
 |pick b x y=>
  rw[z]at j;simp only[eC,No]at j;refine aD.bind' (Oh (O b j.1.1)) ?_;rintro x _ rfl;refine .pure (.value ?_);grind
 |alloc e=>rw[z]at j;exact M j (Pc E e)
 |box e x=>
  rw[z]at j;simp only[eC,abS,No,abb,Bool.not_eq_true',acA]at j;rcases j with⟨rfl,h⟩|⟨⟨I,hn⟩,h⟩
  .exact qD (c:=.box) (US e (Y x h))
  .have e1:vC c (.box e x)=.own:=by simp[vC,hn]
   rw[e1];exact M I (VF e (O x h))
 |build t ps=>rw[z]at j;simp only[eC,No]at j;exact u j.2 (P9 E t (XR.parts A j.1))
 |buildSlice t n ps=>rw[z]at j;simp only[eC,No]at j;exact M j.2 (PB E t n (XR.parts A j.1))
 |load t a=>
  rw[z]at j;simp only[eC,abS,No]at j;rcases j with⟨H,J⟩|⟨H,J⟩
  .exact u J (Zw t (O a H))
  .exact M J (K0 t (hX a H))
 |store t a x=>
  rw[z]at j;simp only[eC,abS,No]at j;rcases j with⟨H,J⟩|⟨H,J⟩
  .exact zP (Ww t (Y a H) (O x J))
  .exact zP (Te t (hX a H) (Y x J))
 |nilCheck x=>
  rw[z]at j;simp only[eC,No]at j;have h:=A c x j.2;dsimp only;revert h
  generalize ρ x=v;generalize σ x=w;intro h;have h':=h;obtain⟨π,hv⟩: ∃π,VR L π v w:=by
   cases c with
   |any=>exact⟨_,h⟩
   |own=>exact⟨_,h⟩
   |box=>exact⟨_,h⟩
   |_=>cases j.1
  clear h;cases hv with
  |bZ=>exact .aE _ (.runtimePanic _)
  |nilIface=>exact .aE _ (.runtimePanic _)
  |nilFunc=>exact .aE _ (.runtimePanic _)
  |bL s=>exact .aE _ (show aM (gp P G) (runtimePanic .nilDeref:Sem Next) from .runtimePanic _)
  |_=>exact .pure (.value h')
 |binOp op t x y yt=>
  rw[z]at j;simp only[eC,No]at j;obtain⟨⟨⟨W,hy⟩,I⟩,R⟩:=j;have U:=O x W;have V:=O y hy;cases op with
  |eql=>
   simp only[No,Bool.not_eq_true']at R;exact u I (P5 E R.1 R.2 x y U V)
  |neq=>
   simp only[No,Bool.not_eq_true']at R;exact u I (Zs E R.1 R.2 x y U V)
  |add=>exact u I (Ph E t U V)
  |sub=>exact u I (NK E t U V)
  |mul=>exact u I (RG E t U V)
  |quo=>exact u I (Sa E t U V)
  |rem=>exact u I (TX E t U V)
  |and=>exact u I (Qo E t U V)
  |or=>exact u I (OC E t U V)
  |xor=>exact u I (S4 E t U V)
  |shl=>exact u I (YO E t U V)
  |shr=>exact u I (PY E t U V)
  |andNot=>exact u I (Q8 E t U V)
  |lss=>exact u I (RP E t U V)
  |leq=>exact u I (OX E t U V)
  |gtr=>exact u I (S0 E t U V)
  |geq=>exact u I (NU E t U V)
 |unOp op t x=>rw[z]at j;simp only[eC,No]at j;exact u j.2 (TV op (O x j.1))
 |convert s d x=>
  rw[z]at j;simp only[eC,No]at j;obtain⟨⟨W,ab⟩,I⟩:=j;unfold FD at I;split at I
  .rename_i H J;exact u ab (Z9 H J (O x W))
  .rename_i e H J;split at I
   .rename_i S;exact u ab (X0 H S J (O x W))
   .cases I
  .cases I
 |makeInterface t x=>rw[z]at j;simp only[eC,No]at j;exact u j.2 (ME t (O x j.1))
 |makeFunc g a b=>
  rw[z]at j;cases g with
  |func g=>
   simp only[eC,abS,No,abb]at j;rcases j with⟨⟨⟨H,J⟩,S⟩,X⟩|⟨⟨H,J⟩,S⟩
   .exact u X (Od (K.cb g H) (XR.args A J) (XR.args A S))
   .have ea:a=#[]:=by simpa using H
    subst ea;have W:=XR.args A J;rcases S with⟨⟨S,rfl⟩,X⟩|⟨⟨S,rfl⟩,X⟩
    .refine qD (c:=.eT) (.pure (.inr (.inr ⟨g,_,_,zp,zp,K.ib g S,W,by simpa using X⟩)))
    .refine qD (c:=.loc) (.pure (.inr (.inr ⟨g,_,_,zp,zp,K.lb g S,W,by simpa using X⟩)))
  |_=>cases j
 |makeMap t r=>
  rw[z]at j;cases r with
  |none=>exact M j (Qz t)
  |some x=>cases j
 |makeSlice t l d=>
  rw[z]at j;simp only[eC,No]at j;exact M j.2 (RZ E t (O l j.1.1) (O d j.1.2))
 |slice t x l h m=>
  rw[z]at j;simp only[eC,abS,No]at j;obtain⟨⟨⟨H,J⟩,S⟩,⟨X,h5⟩|⟨X,h5⟩⟩:=j
  .exact u h5 (JJ t (O x X) (QR.opt A H) (QR.opt A J) (QR.opt A S))
  .exact M h5 (JJ t (Y x X) (QR.opt A H) (QR.opt A J) (QR.opt A S))
 |fieldAddr s x i=>
  rw[z]at j;simp only[eC,abS,No]at j;rcases j with⟨H,J⟩|⟨H,J⟩
  .exact u J (KA (λ_ _ h=>h) s (O x H) i)
  .exact M J (KA hb.own s (Y x H) i)
 |field t x i=>rw[z]at j;simp only[eC,No]at j;exact u j.2 (ZK t (O x j.1) i)
 |indexAddr t x i=>
  rw[z]at j;simp only[eC,abS,No]at j;obtain⟨hi,⟨H,J⟩|⟨H,J⟩⟩:=j
  .exact u J (DK t (O x H) (O i hi))
  .exact M J (DK t (Y x H) (O i hi))
 |index t x i=>
  rw[z]at j;simp only[eC,No]at j;exact u j.2 (VL t (O x j.1.1) (O i j.1.2))
 |lookup t x i ok=>
  rw[z]at j;simp only[eC,No]at j;obtain⟨⟨⟨H,S⟩,I⟩,J⟩:=j;refine u I (M8 E (m:=10) (λk e hk=>?_) (O x H) (O i S) ok);grind
 |mapUpdate t m k v=>
  rw[z]at j;simp only[eC,No]at j;obtain⟨⟨⟨hm,hk⟩,hv⟩,ht⟩:=j;split at ht
  .rename_i H;split at ht
   .rename_i J;exact zP (OZ hb H J (Y m hm) (O k hk) (O v hv))
   .cases ht
  .cases ht
 |range t x=>rw[z]at j;simp only[eC,No]at j;exact M j.2 (Ug t (O x j.1))
 |next x s=>
  rw[z]at j;simp only[eC,No,Bool.not_eq_true']at j;obtain⟨⟨rfl,W⟩,I⟩:=j;exact u I (Xr hb (Y x W) _)
 |entry x=>rw[z]at j;simp only[eC,No]at j;exact u j.2 (QD (O x j.1))
 |typeAssert x a b ok=>rw[z]at j;simp only[eC,No]at j;exact u j.2 (aaa E (O x j.1) a b ok)
 |extract x i=>rw[z]at j;simp only[eC,No]at j;exact u j.2 (Wt (O x j.1) i)
 |panic x=>
  refine .aE _ (aM.bind' ?_);unfold Instr.panic;split
  .exact .goPanic _
  .refine aM.then ?_ λ_=>C8 (.goPanic _) (.runtimePanic _);unfold Instr.panicnil;refine bD.bind (.sys _) λr=>?_;split
   .exact bD.bind .program λ_=>.pure _
   .exact (aM.stuck _).mN
  .exact .stuck _
 |call d=>
  rw[z]at j;obtain⟨an,args,ad⟩:=d;simp only[eC]at j;cases an with
  |builtin b=>
   show aD P G L C τ .own (dX L C τ T.fl c) (builtin b ad o.type _ (args.map ρ)) (builtin b ad o.type _ (args.map σ));exact Nb E Z A b o.type _ j
  |value g=>
   cases g with
   |func g=>
    simp only[A6,No]at j;obtain⟨⟨⟨H,J⟩,S⟩,X⟩:=j;exact OO F (K.fb g H) (hg.1 g) (hg.2 g) (TR.args A J) S (λk hk=>zg)
   |tmp i=>
    simp only[A6,No,abS,abb]at j;obtain⟨⟨H,J⟩,S⟩:=j;have ha:=XR.args A J;rcases H with (H|H)|H
    .exact Nn F K S (O (.tmp i) H) ha
    .exact X2 F K S (A .loc (.tmp i) (by simp[fits,bK,H])) ha
    .exact Vr S (A .kF (.tmp i) (by simp[fits,bK,H])) ha
   |_=>cases j
  |invoke r n=>cases j
 |_=>rw[z]at j;cases j
end
end
section
open Go.Conc
inductive L2 {α β:Type} (R:α->β->Prop):List α->List β->Prop
 |nil:L2 R [] []
 |cons {a:α} {b:β} {aaN:List α} {bs:List β}:R a b->L2 R aaN bs->L2 R (a::aaN) (b::bs)
def vB(L:aR)(f:au)(o:Oper):cy:=(o.dst.map (L.dC f)).getD .any
def GS(P:aj)(L:aR)(T:bw)(f:au)(ops:Array Oper):Bool:=ops.all λo=>eC P L T f (vB L f o) o.op
def eN(P:aj)(L:aR)(T:bw)(f:au):Code->Bool
 |.skip|.ret|.exit _|.refuse _=>true
 |.region _ ops _=>GS P L T f ops
 |.seq a b=>eN P L T f a&&eN P L T f b
 |.cond c a b=>fits L T f .any c&&eN P L T f a&&eN P L T f b
 |.block _ c|.loop c=>eN P L T f c
 |.rangeFunc x ps a c=>fits L T f .eT x&&ps.all (λp=>decide (L.dC f p=.any))&&eN P L T f a&&eN P L T f c
 |_=>false
def mE(L:aR)(T:bw)(f:au)(fn:Func):Bool:=
 match fn.results.toList with
 |[.tmp t]=>bK T.fl (L.dC f t) (L.res f)
 |rs=>bK T.fl .any (L.res f)&&rs.all λr=>match r with|.tmp t=>bK T.fl (L.dC f t) .any|.cell a _=>bK T.fl (L.dC f a) .any
section
variable (P:aj) (G:Array Func) (L:aR) (T:bw) (τ:aJ)
abbrev CC:au->Code->Prop:=λf c=>eN P L T f c=true/\f≠T.cA
inductive gE (f:au):Item->Item->Prop
 |code {c:Code}:eN P L T f c=true->gE f (.code c) (.code c)
 |inBlock (id:Nat):gE f (.inBlock id) (.inBlock id)
 |inLoop {c:Code}:eN P L T f c=true->gE f (.inLoop c) (.inLoop c)
 |inRegion {ops:Array Oper} (todo:List Nat):GS P L T f ops=true->gE f (.inRegion ops todo) (.inRegion ops todo)
 |inRangeFunc {l m:Nat}:τ.lp l m->gE f (.inRangeFunc l) (.inRangeFunc m)
 |endRangeFunc {l m:Nat}:τ.lp l m->gE f (.endRangeFunc l) (.endRangeFunc m)
 |beginRound:gE f .beginRound .beginRound
inductive j7:Deferred->Deferred->Prop
 |collected {r s:Nat}:τ.lp r s->j7 {target:=.collected r,args:=#[]} {target:=.collected s,args:=#[]}
structure cL(fr gr:al):Prop where
 fn:gr.fn=fr.fn
 cY:L.fn fr.fn
 np:fr.fn≠T.cA
 tmps:TR L τ fr.fn fr.tmps gr.tmps
 todo:L2 (gE P L T τ fr.fn) fr.todo gr.todo
 defers:L2 (j7 τ) fr.defers gr.defers
 mode:gr.mode=fr.mode
 run:fr.mode=.run\/(fr.mode=.returning/\fr.roundOf=none)
 kind:fr.kind=.normal/\gr.kind=.normal
 round:NR τ.lp fr.roundOf gr.roundOf
inductive jC:al->al->Prop
 |run {fr gr:al}:cL P L T τ fr gr->jC fr gr
 |cA {xs ys:aa}:L.fn T.cA->TR L τ T.cA xs ys->(∀k,L.ar T.cA=some k->xs.size=k)->jC (Frame.enter (gp P G) T.cA xs .normal) (Frame.enter P T.cA ys .normal)
def iX(L:aR)(fr:al):cy:=if fr.roundOf.isSome then .any else L.res fr.fn
def Bd(c:cy)(fr:al):Prop:=∀ops i rest k d,fr.todo=.inRegion ops (i::rest)::k->(ops[i]?).bind (·.dst)=some d->bK T.fl c (L.dC fr.fn d)=true
inductive iD:cy->List al->List al->Prop
 |nil (c:cy):iD c [] []
 |cons {c:cy} {fr gr:al} {cs ds:List al}:cL P L T τ fr gr->Bd L T c fr->iD (iX L fr) cs ds->iD c (fr::cs) (gr::ds)
def ko:al->List al->Prop
 |fr,[]=>fr.roundOf=none
 |_,c::cs=>ko c cs
structure GR(B D:List al)(g h:ai):Prop where
 frame:jC P G L T τ g.frame h.frame
 status:g.status=.running/\h.status=.running
 dying:g.dying=none/\h.dying=none
 offers:g.offers=none/\h.offers=none
 callers: ∃cs ds,g.callers=cs++B/\h.callers=ds++D/\iD P L T τ (iX L g.frame) cs ds/\ko g.frame cs
structure Let:Prop where
 body:∀f,L.fn f->f≠T.cA->∃fn c,P.funcs[f]?=some fn/\G[f]?=some fn/\fn.body=some c/\eN P L T f c=true/\mE L T f fn=true
 plain:∀f,L.fn f->(∃fn,P.funcs[f]?=some fn/\(fn.name== "runtime.NumGoroutine")=false/\fn.body.isNone=false/\fn.norace=false)/\(∃fn,G[f]?=some fn/\(fn.name== "runtime.NumGoroutine")=false/\fn.body.isNone=false/\fn.norace=false)
 rT:qv L T
 ahead:P.follows .staticDataAhead=true
 vI:∀g,(gp P G).stepOf g=none
end
section
variable {P:aj}{G:Array Func}{L:aR}{T:bw}{τ:aJ}{k₀:Kd}{N:Nat}{B D:List al}
theorem Let.tw(K:Let P G L T):qp P G L:=λf a=>by
 obtain⟨⟨fn,b,e,h,_⟩,⟨i,g1,g2,j,_⟩⟩:=K.plain f a;grind
theorem Let.norace(K:Let P G L T){f:au}(a:L.fn f):(P.funcs[f]?).any (·.norace)=false/\((gp P G).funcs[f]?).any (·.norace)=false:=by
 obtain⟨⟨fn,b,_,_,e⟩,⟨i,g1,_,_,h⟩⟩:=K.plain f a;exact⟨by rw[b];exact e,by rw[IP,g1];exact h⟩
structure jw(g:ai):Prop where
 status:g.status=.running
 dying:g.dying=none
 mode:∀c,g.frame.mode≠.panicking c
 kind:g.frame.kind=.normal
def eH(P:aj)(G:Array Func)(L:aR)(T:bw)(τ:aJ)(k₀:Kd)(N:Nat)(B D:List al)(w v:af)(s t:GStep):Prop:=
 ∀g1 w1 es,s=.go g1 w1 es->jw g1->w1<=N->(∀j q,w.drawn+j<w1.drawn->v.tape (v.drawn+j) q=w.tape (w.drawn+j) q)->
  ∃h1 v1 fs,t=.go h1 v1 fs/\GR P G L T τ B D g1 h1/\dN L (CC P L T) τ k₀ N w v w1 v1 #[] #[] es fs
theorem eH.go{w v:af}{g h:ai}(hs:Sync L (CC P L T) τ k₀ N w v)(a:GR P G L T τ B D g h):eH P G L T τ k₀ N B D w v (.go g w) (.go h v):=by
 intro g1 w1 es e _ _ _;cases e;exact⟨h,v,#[],rfl,a,.refl hs⟩
theorem eH.ended{w v:af}{o:Outcome}{x:af}{t:GStep}:eH P G L T τ k₀ N B D w v (.ended o x es) t:=by
 intro g1 w1 es e;cases e
theorem yb{zs:Array (Event×Event)}(h:∀z∈zs,oH τ z.1 z.2):(∀e∈zs.map (·.1),∀f,e.loc≠.mark (.extern f))/\∀e∈zs.map (·.2),∀f,e.loc≠.mark (.extern f):=by
 constructor
 .intro e a f;obtain⟨⟨j,k⟩,b,rfl⟩:=acF.1 a;have i:=h _ b;cases i<;>simp
 .intro e a f;obtain⟨⟨j,k⟩,b,rfl⟩:=acF.1 a;have i:=h _ b;cases i<;>simp
theorem eH.fG(K:Let P G L T)(hb:Fit τ)(z:∀r s,τ.un r s->r<N){w v:af}(hs:Sync L (CC P L T) τ k₀ N w v){R:α->β->Prop}{p:Sem α}{q:Sem β}(h:aD P G L (CC P L T) τ k₀ R p q){f n:au}(A:L.fn f)(o:L.fn n){k:Result α->GStep}{l:Result β->GStep}(x:∀x w',∀g1 w1 es,k (.halt x w')=.go g1 w1 es->¬jw g1)(E:∀a w1 g1 w2 es,k (.ok a w1)=.go g1 w2 es->w2=w1/\es=#[])(F:∀a b w1 v1,R a b->∀g1,k (.ok a w1)=.go g1 w1 #[]->jw g1->∃h1,l (.ok b v1)=.go h1 v1/\GR P G L T τ B D g1 h1):
  eH P G L T τ k₀ N B D w v (GStep.after (seen (gp P G) f (p.runT (gp P G) w #[]).2) (k (p.runT (gp P G) w #[]).1)) (GStep.after (seen P n (q.runT P v #[]).2) (l (q.runT P v #[]).1)):=by
 intro g1 w1 es e t H I;cases y:p.runT (gp P G) w #[] with
 |mk r es0=>
  rw[y]at e;cases r with
  |halt J w'=>
   exfalso;simp only at e;cases i:k (.halt J w') with
   |go M j u=>
    rw[i]at e;simp only[GStep.after,GStep.go.injEq]at e;grind
   |_=>rw[i]at e;cases e
  |ok a w'=>
   simp only at e;cases i:k (.ok a w') with
   |go M j u=>
    rw[i]at e;simp only[GStep.after,GStep.go.injEq]at e;obtain⟨rfl,rfl,rfl⟩:=e;obtain⟨rfl,rfl⟩:=E _ _ _ _ _ i;obtain⟨b,v1,fs1,O,S,U⟩:=h.vh hb w v #[] #[] a j es0 hs y H I z;obtain⟨h1,V,W⟩:=F a b j v1 S _ i t;obtain⟨zs,z1,z2,X⟩:=U.events;have Y:=yb X;have q1:seen (gp P G) f es0=es0:=seen_eq (K.norace A).2 zg;have Z:seen P n fs1=fs1:=seen_eq (K.norace o).1 zg;refine⟨h1,v1,fs1,?_,W,?_⟩
    .rw[O];simp only[V,GStep.after,Z,abL]
    grind
   |_=>rw[i]at e;cases e
end
end
section
open Go.Conc
section
variable {P:aj}{G:Array Func}{L:aR}{T:bw}{τ:aJ}{k₀:Kd}{N:Nat}{B D:List al}
theorem cL.eval(K:Let P G L T)(hb:gU τ)(b:Flat T τ){fr:al}(h:cL P L T τ fr gr)(c:cy)(x:ax)(a:fits L T fr.fn c x=true):CR L τ c (fr.eval x) (gr.eval x):=by
 cases x with
 |tmp t=>exact CR.fit hb b a (h.tmps.getD t)
 |const v=>
  simp only[fits,abS,No]at a;rcases a with⟨e,i⟩|⟨e,i⟩
  .exact CR.G4 i λπ=>.ofConst e
  .cases v<;>first|(cases i;done)|skip
   cases c with
   |eT=>exact .inr (.inl ⟨rfl,rfl⟩)
   |loc=>exact .inr (.inl ⟨rfl,rfl⟩)
   |_=>cases e
 |func f=>
  simp only[fits,No]at a;exact CR.G4 a.2 λπ=>.LJ (K.rT.cb f a.1)
 |global g=>
  simp only[fits,No,abb]at a;exact CR.any hb b a.2 (.ptr ⟨b.2 g a.1,rfl,rfl⟩)
def cL.to{fr:al}(h:cL P L T τ fr gr){k l:List Item}(a:L2 (gE P L T τ fr.fn) k l):cL P L T τ {fr with todo:=k} {gr with todo:=l}:=
 ⟨h.fn,h.cY,h.np,h.tmps,a,h.defers,h.mode,h.run,h.kind,h.round⟩
def cL.leave{fr:al}(h:cL P L T τ fr gr)(a:fr.roundOf=none):cL P L T τ {fr with mode:=.returning} {gr with mode:=.returning}:=
 ⟨h.fn,h.cY,h.np,h.tmps,h.todo,h.defers,rfl,.inr ⟨rfl,a⟩,h.kind,h.round⟩
theorem cL.finish(hb:gU τ)(e:Flat T τ){fr:al}(h:cL P L T τ fr gr){c:cy}(o:Bd L T c fr)(hv:CR L τ c v w):cL P L T τ (fr.finish v) (gr.finish w):=by
 have j:=h.todo;have a:=h.tmps;unfold Frame.finish;generalize p:fr.todo=k at j;generalize r:gr.todo=l at j;cases j with
 |nil=>exact h
 |cons hi n=>
  cases hi with
  |@inRegion ops todo b=>
   cases todo with
   |nil=>exact h
   |cons i rest=>
    dsimp only;refine⟨h.fn,h.cY,h.np,?_,.cons (.inRegion rest b) n,h.defers,h.mode,h.run,h.kind,h.round⟩;cases q:(ops[i]?).bind (·.dst) with
    |none=>exact a
    |some d=>exact a.set (CR.fit hb e (o ops i rest _ d p q) hv)
  |inRangeFunc hl=>exact⟨h.fn,h.cY,h.np,a,.cons (.endRangeFunc hl) n,h.defers,h.mode,h.run,h.kind,h.round⟩
  |beginRound=>exact⟨h.fn,h.cY,h.np,a,n,h.defers,h.mode,h.run,h.kind,h.round⟩
  |_=>exact h
theorem cL.Ie{fr:al}(h:cL P L T τ fr gr):cL P L T τ (fr.finish undef) (gr.finish undef):=by
 have e:=h.todo;have a:=h.tmps;unfold Frame.finish;generalize n:fr.todo=k at e;generalize o:gr.todo=l at e;cases e with
 |nil=>exact h
 |cons hi j=>
  cases hi with
  |@inRegion ops todo b=>
   cases todo with
   |nil=>exact h
   |cons i rest=>
    dsimp only;refine⟨h.fn,h.cY,h.np,?_,.cons (.inRegion rest b) j,h.defers,h.mode,h.run,h.kind,h.round⟩;cases p:(ops[i]?).bind (·.dst) with
    |none=>exact a
    |some d=>exact a.set (CR.undef _)
  |inRangeFunc hl=>exact⟨h.fn,h.cY,h.np,a,.cons (.endRangeFunc hl) j,h.defers,h.mode,h.run,h.kind,h.round⟩
  |beginRound=>exact⟨h.fn,h.cY,h.np,a,j,h.defers,h.mode,h.run,h.kind,h.round⟩
  |_=>exact h
theorem tG(fr:al)(v:ag):(fr.finish v).roundOf=fr.roundOf:=by
 unfold Frame.finish;split<;>rfl
theorem KQ(fr:al)(v:ag):(fr.finish v).fn=fr.fn:=by
 unfold Frame.finish;split<;>rfl
theorem ub(fr:al)(v:ag):iX L (fr.finish v)=iX L fr:=by
 unfold iX;rw[tG,KQ]
theorem xK(fr:al)(v:ag):(fr.finish v).mode=fr.mode:=by
 unfold Frame.finish;split<;>rfl
theorem ko.same{fr:al}(h:ko fr cs)(e:gr.roundOf=fr.roundOf):ko gr cs:=by
 cases cs with
 |nil=>exact e.trans h
 |cons c cs=>exact h
theorem TZ{f:au}{ops:Array Oper}(h:TR L τ f xs ys)(j:Nat):yielded ops ys j=yielded ops xs j:=by
 unfold yielded;cases (ops[j]?).bind (·.dst) with
 |none=>rfl
 |some d=>
  simp only[adf];by_cases hi:d<xs.size
  .have hj:d<ys.size:=by rw[h.1];exact hi
   rw[abI hi,abI hj];have e:=h.2 d _ _ (abI hi) (abI hj);revert e
   generalize xs[d]=x;generalize ys[d]=y;generalize L.dC f d=c;intro e;have i:∀{p n},qt L p n τ x y->(match some y with|some (.bool b)=>some b|_=>none)=(match some x with|some (.bool b)=>some b|_=>none):=by
    rintro p n (⟨rfl,rfl⟩|⟨rfl,rfl⟩|⟨_,_,_,rfl,rfl,_⟩)<;>rfl
   have vr:∀{π},VR L π x y->(match some y with|some (.bool b)=>some b|_=>none)=(match some x with|some (.bool b)=>some b|_=>none):=λhv=>by
    cases hv with
    |bL s a b c=>
     grind
    |_=>rfl
   cases c with
   |any=>exact vr e
   |own=>exact vr e
   |box=>exact vr e
   |kF=>rcases e with⟨rfl,rfl⟩|⟨_,_,rfl,rfl,_⟩<;>rfl
   |eT=>exact i e
   |loc=>exact i e
  .have k:=Nat.le_of_not_lt hi;have l:ys.size<=d:=by rw[h.1];exact k
   grind
theorem cL.enter(K:Let P G L T){f:au}(a:L.fn f)(b:f≠T.cA){xs ys:aa}(h:TR L τ f xs ys):cL P L T τ (Frame.enter (gp P G) f xs .normal) (Frame.enter P f ys .normal):=by
 obtain⟨fn,c,e,g1,i,j,_⟩:=K.body f a b;unfold Frame.enter;rw[IP,e,g1];simp only[aca,Option.getD_some,adf,i];refine⟨rfl,a,b,?_,.cons (.code j) .nil,.nil,rfl,.inl rfl,⟨rfl,rfl⟩,trivial⟩;rw[h.size];exact h.pad _
theorem jC.enter(K:Let P G L T){f:au}(a:L.fn f){xs ys:aa}(h:TR L τ f xs ys)(e:∀k,L.ar f=some k->xs.size=k):jC P G L T τ (Frame.enter (gp P G) f xs .normal) (Frame.enter P f ys .normal):=by
 by_cases b:f=T.cA
 .subst b;exact .cA a h e
 .exact .run (cL.enter K a b h)
def cL.Vt{l:Nat}(hl:τ.lp l m){f:au}(e:L.fn f)(i:f≠T.cA)(h:TR L τ f xs ys){a b:Code}(j:eN P L T f a=true)(hb:eN P L T f b=true):
  cL P L T τ (Frame.round l f xs a b .normal) (Frame.round m f ys a b .normal):=
 ⟨rfl,e,i,h,.cons (.code j) (.cons .beginRound (.cons (.code hb) .nil)),.nil,rfl,.inl rfl,⟨rfl,rfl⟩,hl⟩
theorem Jh{f:au}{k l:List Item}(h:L2 (gE P L T τ f) k l):(match k with|.call _ true _ _::_=>CallKind.wrapped|_=>CallKind.normal)=.normal/\(match l with|.call _ true _ _::_=>CallKind.wrapped|_=>CallKind.normal)=.normal:=by
 cases h with
 |nil=>exact⟨rfl,rfl⟩
 |cons hi _=>cases hi<;>exact⟨rfl,rfl⟩
theorem Sz{fr:al}{m:String}{w:af}(h:GStep.after es0 (endFatal Q fr cs none m w)=.go g1 w1 es):g1.dying≠none:=by
 unfold endFatal at h;dsimp only at h;split at h
 .simp only[dieOf,GStep.after,GStep.go.injEq]at h;grind
 .cases h
 .cases h
theorem Ni(a:Q.follows .staticDataAhead=true)(b:∀g,Q.stepOf g=none){fr:al}{g:Nat}{w':af}(h:GStep.after es0 (early Q fr cs none g w')=.go g1 w1 es):False:=by
 unfold early at h;simp only[a,b]at h;cases h
theorem Bx(j:Q.follows .staticDataAhead=true)(k:∀g,Q.stepOf g=none){fr:al}(n:fr.kind=.normal){p:Sem Next}{w:af}(e:stepG.apply Q true fr cs none p w=.go g1 w1 es)(b:jw g1):
  ∃a es0,p.runT Q w #[]=(.ok a w1,es0):=by
 have o:=b.status;have h:=b.mode;have i:(fr.kind==CallKind.early)=false:=by rw[n];rfl
 cases l:p.runT Q w #[] with
 |mk r es0=>
  cases r with
  |halt q w'=>
   exfalso;simp only[stepG.apply,abj,l,i,abf,abd]at e;cases q with
   |panic x=>
    simp only[GStep.after,GStep.go.injEq]at e;obtain⟨rfl,_⟩:=e;unfold Frame.raise at h;grind
   |goexit=>
    simp only[GStep.after,GStep.go.injEq]at e;obtain⟨rfl,_⟩:=e;unfold Frame.raise at h;grind
   |blocked=>
    simp only[GStep.after,GStep.go.injEq]at e;grind
   |waiting=>
    simp only[GStep.after,GStep.go.injEq]at e;grind
   |exit c=>cases e
   |fatal m=>exact absurd b.dying (Sz e)
   |throw m=>
    simp only[endThrow,dieOf,GStep.after,GStep.go.injEq]at e;obtain⟨rfl,_⟩:=e;cases b.dying
   |stuck m=>cases e
   |unsupported u=>
    cases u with
    |initOrder g=>exact Ni j k e
    |_=>cases e
  |ok a w'=>
   have s:w1=w':=by
    simp only[stepG.apply,abj,l,i,abf,abd]at e;cases a<;>dsimp only at e<;>first
     |(simp only[GStep.after,GStep.go.injEq]at e;exact e.2.1.symm)
     |(cases e;done)
     |(split at e<;>(try split at e)<;>first|(simp only[GStep.after,GStep.go.injEq]at e;exact e.2.1.symm)|(simp only[endThrow,dieOf,GStep.after,GStep.go.injEq]at e;exact e.2.1.symm)|(cases e;done))
   grind
def AD(L:aR)(c:cy)(fr:al):Prop:=∀ops i rest k d,fr.todo=.inRegion ops (i::rest)::k->(ops[i]?).bind (·.dst)=some d->L.dC fr.fn d=c
theorem AD.fin{c:cy}{fr:al}(h:AD L c fr)(a:bK T.fl d c=true):Bd L T d fr:=λops i rest k e b j=>by rw[h ops i rest k e b j];exact a
theorem BD(fl:Bool)(c:cy):bK fl c c=true:=by simp[bK]
theorem eH.apply(K:Let P G L T)(hb:Fit τ)(E:Flat T τ)(V:∀r s,τ.un r s->r<N){w v:af}(hs:Sync L (CC P L T) τ k₀ N w v){fr:al}(i:cL P L T τ fr gr){ds:List al}(t:iD P L T τ (iX L fr) cs ds)(j:ko fr cs){c:cy}(F:AD L c fr){p q:Sem Next}(h:aD P G L (CC P L T) τ k₀ (dX L (CC P L T) τ T.fl c) p q):
  eH P G L T τ k₀ N B D w v (stepG.apply (gp P G) true fr (cs++B) none p w) (stepG.apply P true gr (ds++D) none q v):=by
 intro g1 w1 es e H W X;have n:(fr.kind==CallKind.early)=false/\(gr.kind==CallKind.early)=false:=by rw[i.kind.1,i.kind.2];exact⟨rfl,rfl⟩
 have I:=Jh i.todo;obtain⟨a,es0,S⟩:=Bx (Q:=gp P G) K.ahead K.vI i.kind.1 e H;obtain⟨b,v1,fs1,z,Y,u⟩:=h.vh hb w v #[] #[] a w1 es0 hs S W X V;obtain⟨zs,z1,z2,Z⟩:=u.events;have ab:=yb Z;have q1:seen (gp P G) fr.fn es0=es0:=seen_eq (K.norace i.cY).2 (by grind);have A:seen P gr.fn fs1=fs1:=seen_eq (K.norace (by rw[i.fn];exact i.cY)).1 (by grind);simp only[stepG.apply,abj,S,n.1,abf,abd,q1]at e;cases Y with
 |@value x y hv=>
  simp only[GStep.after,GStep.go.injEq,abL]at e;obtain⟨rfl,_,rfl⟩:=e;refine⟨{frame:=gr.finish y,callers:=ds++D,status:=.running,dying:=none},v1,fs1,?_,?_,u⟩
  .simp only[stepG.apply,abj,z,n.2,abf,abd,A,GStep.after,abL]
  .exact⟨.run (i.finish hb.togU E (F.fin (BD _ _)) hv),⟨rfl,rfl⟩,⟨rfl,rfl⟩,⟨rfl,rfl⟩,cs,ds,rfl,rfl,by rw[ub];exact t,j.same (tG _ _)⟩
 |skip=>
  simp only[GStep.after,GStep.go.injEq,abL]at e;obtain⟨rfl,_,rfl⟩:=e;refine⟨{frame:=gr.finish undef,callers:=ds++D,status:=.running,dying:=none},v1,fs1,?_,?_,u⟩
  .simp only[stepG.apply,abj,z,n.2,abf,abd,A,GStep.after,abL]
  .exact⟨.run i.Ie,⟨rfl,rfl⟩,⟨rfl,rfl⟩,⟨rfl,rfl⟩,cs,ds,rfl,rfl,by rw[ub];exact t,j.same (tG _ _)⟩
 |@enter f xs ys J M o O=>
  simp only[GStep.after,GStep.go.injEq,abL]at e;obtain⟨rfl,_,rfl⟩:=e;refine⟨{frame:=Frame.enter P f ys .normal,callers:=gr::(ds++D),status:=.running,dying:=none},v1,fs1,?_,?_,u⟩
  .simp only[stepG.apply,abj,z,n.2,abf,abd,A,GStep.after,abL];grind
  .refine⟨?_,⟨rfl,rfl⟩,⟨rfl,rfl⟩,⟨rfl,rfl⟩,fr::cs,gr::ds,rfl,rfl,.cons i (F.fin o) t,j⟩;exact cast (congrArg (λk=>jC P G L T τ (Frame.enter (gp P G) f xs k) (Frame.enter P f ys .normal)) I.1.symm) (jC.enter K J M O)
 |@round l m f xs ys a b hl J M U R o=>
  simp only[GStep.after,GStep.go.injEq,abL]at e;obtain⟨rfl,_,rfl⟩:=e;refine⟨{frame:=Frame.round m f ys a b .normal,callers:=gr::(ds++D),status:=.running,dying:=none},v1,fs1,?_,?_,u⟩
  .simp only[stepG.apply,abj,z,n.2,abf,abd,A,GStep.after,abL]
  .exact⟨.run (cL.Vt hl J U.2 M U.1 R.1),⟨rfl,rfl⟩,⟨rfl,rfl⟩,⟨rfl,rfl⟩,fr::cs,gr::ds,rfl,rfl,.cons i (F.fin o) t,j⟩
end
end
end Go.Proofs.YtldmcdeibiclkaaGreat.U
