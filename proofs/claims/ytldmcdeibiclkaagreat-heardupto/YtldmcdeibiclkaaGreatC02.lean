/-
  Toward all_holds
-/
import Derived.Test.YtldmcdeibiclkaaGreatC01
set_option linter.all false
noncomputable section
set_option maxRecDepth 100000
set_option maxHeartbeats 20000000
namespace Go.Proofs.YtldmcdeibiclkaaGreat.U
variable {v w x y u:ag}{b d:Addr}{α β σ ω γ δ:Type}{xs ys:aa}{κ:Nat->Nat->Prop}{t:ak}{m:Nat}{h l' h' m':Option ag}{o:Obj}
section
structure Env(P:aj)(L:aR)(τ:aJ):Prop where
 bi:Fit τ
 high:∀r s,τ.all r s->(r<P.globals.size↔s<P.globals.size)
 zX:∀t i n u,P.info? t=some i->i.desc=.named n u->n≠ "sync.copyChecker"
 zero:∀t i v,P.info? t=some i->i.zero=some v->∀π,VR L π v v
section
variable {P:aj}{G:Array Func}{L:aR}{C:au->Code->Prop}{τ:aJ}
abbrev dM:α->α->Prop:=λa b=>a=b
def Am{a:Addr}(h:AR τ.all a b):aD P G L C τ .own (VR L τ.all) (load a) (load b):=.load h λ_ _ hv=>.pure hv
def Rq{a:Addr}(h:AR τ.own a b)(hv:VR L τ.all v w):aD P G L C τ .own (λ_ _=>True) (store a v) (store b w):=.store h hv (.pure trivial)
def xf{q:Obj}(h:OR L τ o q):aD P G L C τ .own τ.own (newObj o) (newObj q):=.new rfl h λ_ _ a=>.pure a
def pZ{r s:Nat}(h:τ.all r s):aD P G L C τ .own dM (shape r) (shape s):=.shape h λ_=>.pure rfl
def Yy{a:Addr}(h:AR τ.own a b)(n:Nat):aD P G L C τ .own (λ_ _=>True) (freeze a n) (freeze b n):=.freeze n h (.pure trivial)
def sa{a:Addr}(h:AR τ.all a b):aD P G L C τ .own dM (frozen a) (frozen b):=.frozen h λ_=>.pure rfl
def oc{r s:Nat}(h:τ.all r s):aD P G L C τ .own (OR L τ) (getObj r) (getObj s):=.getObj h λ_ _ a=>.pure a
def yx{r s:Nat}{q:Obj}(h:τ.own r s)(a:OR L τ o q)(c:J9 o):aD P G L C τ .own (λ_ _=>True) (setObj r o) (setObj s q):=.setObj h a c (.pure trivial)
def ui(q:Question):aD P G L C τ .own dM (choose q) (choose q):=.choose q λ_=>.pure rfl
def oV{R:α->β->Prop}{f:aj->Sem α}{g:aj->Sem β}(h:aD P G L C τ .own R (f (gp P G)) (g P)):aD P G L C τ .own R (program >>=f) (program >>=g):=.program h
theorem Cm(n:Nat):aD P G L C τ .own (λ_ _=>True) (askRoom n) (askRoom n):=by
 unfold askRoom;split
 .exact .noRoom (.pure trivial)
 .exact .pure trivial
theorem kX(t:ak):aD P G L C τ .own (λa b=>a=b/\P.info? t=some a) (typeInfo t) (typeInfo t):=by
 unfold typeInfo;refine oV ?_;rw[ED];cases h:P.info? t with
 |none=>exact .aa
 |some i=>exact .pure ⟨rfl,rfl⟩
theorem dG(t:ak):aD P G L C τ .own (λa b=>a=b/\P.underlying t=some a) (underlying t) (underlying t):=by
 unfold underlying;refine oV ?_;rw[Js];cases h:P.underlying t with
 |none=>exact .aa
 |some i=>exact .pure ⟨rfl,rfl⟩
theorem fV(t:ak):aD P G L C τ .own dM (sizeOf t) (sizeOf t):=by
 unfold sizeOf;refine aD.bind' (kX t) ?_;rintro _ _ ⟨rfl,_⟩;exact .pure rfl
theorem AJ(t:ak):aD P G L C τ .own dM (isAgg t) (isAgg t):=by
 unfold isAgg;refine aD.bind' (dG t) ?_;rintro d _ ⟨rfl,_⟩;cases d<;>exact .pure rfl
theorem pM(E:Env P L τ)(t:ak):aD P G L C τ .own (VR L τ.all) (zeroValue t) (zeroValue t):=by
 unfold zeroValue;refine aD.bind' (kX t) ?_;rintro i _ ⟨rfl,hi⟩;cases h:i.zero with
 |none=>exact .aa
 |some v=>exact .pure (E.zero t i v hi h _)
theorem Oq(t:ak):aD P G L C τ .own dM (elemOf t) (elemOf t):=by
 unfold elemOf;refine aD.bind' (dG t) ?_;rintro d _ ⟨rfl,_⟩;cases d<;>first|exact .pure rfl|exact .aa
theorem DU{a:Addr}(h:AR τ.all a b):∀(n i:Nat) {xs ys:aa},XR (VR L τ.all) xs ys->aD P G L C τ .own (XR (VR L τ.all)) (loadCellsFrom a i n xs) (loadCellsFrom b i n ys)
 |0,_,_,_,c=>.pure c
 |n+1,i,_,_,c=>by
  unfold loadCellsFrom;exact aD.bind' (Am (h.add i)) λv w hv=>DU h n (i+1) (c.push hv)
def yM{a:Addr}(h:AR τ.all a b)(n:Nat):aD P G L C τ .own (XR (VR L τ.all)) (loadCells a n) (loadCells b n):=DU h n 0 .nil
theorem Kq{a:Addr}(h:AR τ.own a b):∀(l:List (ag×ag)) (i:Nat),(∀z∈l,VR L τ.all z.1 z.2)->aD P G L C τ .own (λ_ _=>True) (storeCells a (l.map (·.1)) i) (storeCells b (l.map (·.2)) i)
 |[],_,_=>.pure trivial
 |z::l,i,c=>by
  simp only[abv,storeCells];exact aD.bind' (Rq (h.add i) (c z zp)) λ_ _ _=>Kq h l (i+1) λy e=>c y (by simp[e])
theorem BX{a:Addr}(h:AR τ.own a b)(c:XR (VR L τ.all) xs ys):aD P G L C τ .own (λ_ _=>True) (storeCells a xs.toList) (storeCells b ys.toList):=by
 obtain⟨l,e,f,g⟩:=c.list;rw[e,f];exact Kq h l 0 g
theorem VR.ofRow(h:XR (VR L τ.all) xs ys):VR L τ.all (.agg xs) (.agg ys):=by
 obtain⟨zs,rfl,rfl,a⟩:=h;exact .agg zs a
theorem VR.we(h:XR (VR L τ.all) xs ys):VR L τ.all (.tuple xs) (.tuple ys):=by
 obtain⟨zs,rfl,rfl,a⟩:=h;exact .tuple zs a
def VR.pair{a b c d:ag}(h:VR L τ.all a b)(k:VR L τ.all c d):VR L τ.all (.tuple #[a,c]) (.tuple #[b,d]):=.we ((XR.nil.push h).push k)
def VR.three{a b c d e f:ag}(h:VR L τ.all a b)(k:VR L τ.all c d)(l:VR L τ.all e f):VR L τ.all (.tuple #[a,c,e]) (.tuple #[b,d,f]):=.we (((XR.nil.push h).push k).push l)
def VR.one{a b:ag}(h:VR L τ.all a b):VR L τ.all (.tuple #[a]) (.tuple #[b]):=.we (XR.nil.push h)
theorem DZ(t:ak){a:Addr}(h:AR τ.all a b):aD P G L C τ .own (VR L τ.all) (loadVar t a) (loadVar t b):=by
 unfold loadVar;refine aD.bind' (AJ t) ?_;rintro x _ rfl;try dsimp only
 split
 .refine aD.bind' (fV t) ?_;rintro n _ rfl;refine aD.bind' (yM h n) λxs ys c=>.pure (.ofRow c)
 .exact Am h
theorem Na(t:ak){a:Addr}(h:AR τ.own a b)(hv:VR L τ.all v w):aD P G L C τ .own (λ_ _=>True) (storeVar t a v) (storeVar t b w):=by
 unfold storeVar;refine aD.bind' (fV t) ?_;rintro n _ rfl;try dsimp only
 have c:=hv.cells;rw[c.size];split
 .exact .aE _ (aM.bind' (.stuck _))
 .exact BX h c
theorem ql(e:ak)(h:XR (VR L τ.all) xs ys):aD P G L C τ .own (AR τ.own) (newRow e xs) (newRow e ys):=by
 unfold newRow;exact aD.bind' (xf (.cells e (0,0) h)) λr s a=>.pure ⟨a,rfl,rfl⟩
def F8(t:ak)(h:VR L τ.all v w):aD P G L C τ .own (AR τ.own) (newVar t v) (newVar t w):=ql t h.cells
theorem oR(t:ak)(h:XR (VR L τ.all) xs ys)(a:Nat):aD P G L C τ .own (VR L τ.all) (part t xs a) (part t ys a):=by
 unfold part;refine aD.bind' (AJ t) ?_;rintro x _ rfl;try dsimp only
 split
 .refine aD.bind' (fV t) ?_;rintro n _ rfl;exact .pure (.ofRow (h.extract _ _))
 .rcases h.get? a with⟨c,e⟩|⟨x,y,c,e,f⟩
  .rw[c];exact .aa
  .rw[c,e];exact .pure f
theorem xD(h:VR L τ.all v w):aD P G L C τ .own (λa b=>a=b/\v=.int a.1 a.2) (asIntOf v) (asIntOf w):=by
 cases h<;>first|exact .pure ⟨rfl,rfl⟩|exact .aa
theorem ua(h:VR L τ.all v w):aD P G L C τ .own dM (asInt v) (asInt w):=by
 unfold asInt;refine aD.bind' (xD h) ?_;rintro x _ ⟨rfl,_⟩;exact .pure rfl
theorem Oh(h:VR L τ.all v w):aD P G L C τ .own dM (asBool v) (asBool w):=by
 cases h<;>first|exact .pure rfl|exact .aa
theorem XB(h:VR L τ.all v w):aD P G L C τ .own (XR (VR L τ.all)) (asAgg v) (asAgg w):=by
 cases h with
 |agg xs h=>exact .pure ⟨xs,rfl,rfl,h⟩
 |_=>exact .aa
theorem SH(h:VR L τ.all v w):aD P G L C τ .own (AR τ.all) (asAddr v) (asAddr w):=by
 cases h with
 |ptr h=>exact .pure h
 |bZ=>exact .aE _ (show aM (gp P G) (runtimePanic .nilDeref:Sem Addr) from .runtimePanic _)
 |_=>exact .aa
theorem Pf(h:VR L τ.all v w):aD P G L C τ .own (AR τ.all) (Instr.sureAddr v) (Instr.sureAddr w):=by
 cases h with
 |ptr h=>exact .pure h
 |_=>exact .aa
theorem Ju{r s:Nat}(h:τ.all r s):aD P G L C τ .own (λa b=>a=none/\b=none) (viewAt r) (viewAt s):=by
 unfold viewAt;refine aD.bind' (pZ h) ?_;rintro x _ rfl;try dsimp only
 split
 .exact .pure ⟨rfl,rfl⟩
 .refine aD.bind' (oc h) λo q c=>?_;cases c<;>exact .pure ⟨rfl,rfl⟩
theorem A0{a:Addr}(h:AR τ.all a b):aD P G L C τ .own (λ_ _=>True) (noView a) (noView b):=by
 unfold noView;refine aD.bind' (Ju h.1) ?_;rintro _ _ ⟨rfl,rfl⟩;exact .pure trivial
theorem CM{r s:Nat}(h:τ.all r s):aD P G L C τ .own (λa b=>(a=none/\b=none)\/∃x y l,a=some (x,l)/\b=some (y,l)/\AR τ.all x y) (numberAt r) (numberAt s):=by
 unfold numberAt;refine aD.bind' (pZ h) ?_;rintro x _ rfl;try dsimp only
 split
 .exact .pure (.inl ⟨rfl,rfl⟩)
 .refine aD.bind' (oc h) λo q c=>?_;cases c with
  |number l h=>exact .pure (.inr ⟨_,_,l,rfl,rfl,h⟩)
  |_=>exact .pure (.inl ⟨rfl,rfl⟩)
theorem jk{a:Addr}(h:AR τ.all a b):aD P G L C τ .own (λx y=>AR τ.all x.1 y.1/\y.2=x.2) (behindNumber a) (behindNumber b):=by
 unfold behindNumber;refine aD.bind' (CM h.1) ?_;rintro x y (⟨rfl,rfl⟩|⟨u,v,l,rfl,rfl,c⟩)
 .exact .pure ⟨h,rfl⟩
 .exact .pure ⟨c,rfl⟩
theorem YV(hb:gU τ){a:Addr}(h:AR τ.all a b)(l:Bool):aD P G L C τ .own (VR L τ.all) (asNumber a l) (asNumber b l):=by
 unfold asNumber;exact aD.bind' (xf (.number l h)) λr s c=>.pure (.ptr ⟨hb.own _ _ c,rfl,rfl⟩)
theorem FU{a:Addr}(h:AR τ.all a b):aD P G L C τ .own dM (stringish a) (stringish b):=by
 unfold stringish;refine aD.bind' (sa h) ?_;rintro x _ rfl;try dsimp only
 split
 .exact .pure rfl
 .refine aD.bind' (pZ h.1) ?_;rintro x _ rfl;cases x with
  |none=>exact .pure rfl
  |some x=>first|exact sa ⟨h.1,rfl,rfl⟩|exact sa ⟨h.1,rfl,h.2.2⟩|exact sa (a:={block:=a.block,off:=x.2}) (b:={block:=b.block,off:=x.2}) ⟨h.1,rfl,rfl⟩
theorem AR.eq_iff(hb:nN τ.all){a c:Addr}(h:AR τ.all a b)(k:AR τ.all c d):(a==c)=(b==d):=by
 obtain⟨n,r,aaN⟩:=a;obtain⟨bb,bo,bs⟩:=b;obtain⟨cb,s,cs⟩:=c;obtain⟨p,q,ds⟩:=d;obtain⟨f,g,i⟩:=h;obtain⟨k1,j,l⟩:=k;simp only at f g i k1 j l;subst g i j l;have:n=cb↔bb=p:=⟨λe=>hb.fn _ _ _ f (e▸k1),λe=>hb.inj _ _ _ f (e▸k1)⟩
 grind
theorem YK(hb:nN τ.all){r s t u:Nat}(h:τ.all r s)(k:τ.all t u):(r==t)=(s==u):=by
 rw[acU];simp only[abt];exact⟨λe=>hb.fn _ _ _ h (e▸k),λe=>hb.inj _ _ _ h (e▸k)⟩
theorem Ot{a c:Addr}(h:AR τ.all a b)(k:AR τ.all c d):aD P G L C τ .own dM (mayBeOne a c) (mayBeOne b d):=by
 unfold mayBeOne;try dsimp only
 refine aD.bind' (FU h) ?_;rintro x _ rfl;refine aD.bind' (FU k) ?_;rintro y _ rfl;have f:∀{u v:Addr},AR τ.all u v->aD P G L C τ .own dM (do pure ((← shape u.block) matches some (_,0)):Sem Bool) (do pure ((← shape v.block) matches some (_,0)):Sem Bool):=λe=>by
  refine aD.bind' (pZ e.1) ?_;rintro x _ rfl;exact .pure rfl
 refine aD.bind' (f h) ?_;rintro z _ rfl;refine aD.bind' (f k) ?_;rintro u _ rfl;exact .pure rfl
theorem aai(hb:nN τ.all){a c:Addr}(h:AR τ.all a b)(k:AR τ.all c d):aD P G L C τ .own dM (sameAddr a c) (sameAddr b d):=by
 unfold sameAddr;try dsimp only
 rw[<-YK hb h.1 k.1,<-h.eq_iff hb k];split
 .exact .pure rfl
 .refine aD.bind' (sa h) ?_;rintro x _ rfl;refine aD.bind' (sa k) ?_;rintro y _ rfl;try dsimp only
  split
  .exact .aE _ (aM.bind' (.unsupported _))
  .refine aD.bind' (A0 h) λ_ _ _=>?_;refine aD.bind' (A0 k) λ_ _ _=>?_;refine aD.bind' (Ot h k) ?_;rintro z _ rfl;try dsimp only
   split
   .refine aD.bind' (ui _) ?_;rintro n _ rfl;exact .pure rfl
   .exact .pure rfl
theorem qW{a:Addr}(h:AR τ.all a b):aD P G L C τ .own dM (byteOf a) (byteOf b):=by
 unfold byteOf;rw[h.2.2];cases a.spot with
 |some s=>exact .pure rfl
 |none=>
  try dsimp only
  refine oV ?_;rw[A8];refine aD.bind' (A0 h) λ_ _ _=>?_;refine aD.bind' (pZ h.1) ?_;rintro x _ rfl;cases x with
  |none=>exact .aa
  |some x=>
   simp only[h.2.1,DI,VX,Bo,A8];split
   .exact .pure rfl
   .split
    .exact .pure rfl
    .exact .aa
theorem Tv{a:Addr}(h:AR τ.all a b)(u:ak)(n:Nat):aD P G L C τ .own dM (variablesAt a u n) (variablesAt b u n):=by
 unfold variablesAt;refine oV ?_;refine aD.bind' (pZ h.1) ?_;rintro x _ rfl;cases x with
 |none=>exact .pure rfl
 |some x=>exact .pure (by rw[h.2.1,I2];rfl)
theorem Iv:∀(n:Nat) {a b:Addr} (_:AR τ.all a b) (acc:ah),aD P G L C τ .own dM (loadBytes a acc n) (loadBytes b acc n)
 |0,_,_,_,_=>.pure rfl
 |n+1,a,b,h,acc=>by
  unfold loadBytes;refine aD.bind' (Am h) λv w hv=>?_;cases hv with
  |int k m=>
   cases k<;>first|exact Iv n (h.add 1) _|exact .aa
  |_=>exact .aa
end
end
section
section
variable {P:aj}{G:Array Func}{L:aR}{C:au->Code->Prop}{τ:aJ}
theorem C8{c:Prop}[Decidable c]{p q:Sem α}(h:aM (gp P G) p)(k:aM (gp P G) q):aM (gp P G) (if c then p else q):=by split<;>assumption
theorem xi{R:α->β->Prop}{S:σ->ω->Prop}{f:α->σ->Sem (ForInStep σ)}{g:β->ω->Sem (ForInStep ω)}(e:∀a b,R a b->∀s t,S s t->aD P G L C τ .own (λx y=>(∃s t,x=.done s/\y=.done t/\S s t)\/(∃s t,x=.yield s/\y=.yield t/\S s t)) (f a s) (g b t)):
  ∀(l:List (α×β)) (_:∀z∈l,R z.1 z.2) (s:σ) (t:ω),S s t->aD P G L C τ .own S (forIn (l.map (·.1)) s f) (forIn (l.map (·.2)) t g)
 |[],_,s,t,h=>.pure h
 |z::l,i,s,t,h=>by
  simp only[abv,List.forIn_cons];refine aD.bind' (e _ _ (i z zp) s t h) ?_;rintro x y (⟨u,v,rfl,rfl,c⟩|⟨u,v,rfl,rfl,c⟩)
  .exact .pure c
  .exact xi e l (λy j=>i y (by simp[j])) u v c
theorem sK(h:VR L κ v w):aD P G L C τ .own (AR κ) (Instr.sureAddr v) (Instr.sureAddr w):=by
 cases h with
 |ptr h=>exact .pure h
 |_=>exact .aa
theorem Tw(e:∀r s,κ r s->τ.all r s){a:Addr}(h:AR κ a b)(c n:Nat):aD P G L C τ .own (AR κ) (partAt a c n) (partAt b c n):=by
 unfold partAt;refine aD.bind' (qW (h.mono e)) ?_;rintro x _ rfl;have f:AR κ {block:=a.block,off:=a.off+c} {block:=b.block,off:=b.off+c}:=⟨h.1,by simp[h.2.1],rfl⟩
 refine aD.bind' (qW (f.mono e)) ?_;rintro y _ rfl;refine .pure ?_;split
 .exact f
 .exact⟨h.1,by simp[h.2.1],rfl⟩
theorem WU(c:∀r s,κ r s->τ.all r s){a:Addr}(h:AR κ a b)(f:Field):aD P G L C τ .own (AR κ) (fieldPlace a f) (fieldPlace b f):=by
 unfold fieldPlace;refine aD.bind' (fV _) ?_;rintro x _ rfl;try dsimp only
 split
 .exact Tw c h _ _
 .exact .pure (h.add _)
def Hx{a:Addr}(h:AR τ.box a b):aD P G L C τ .own (VR L τ.own) (load a) (load b):=.qk h λ_ _ hv=>.pure hv
def Zo{a:Addr}(h:AR τ.box a b)(hv:VR L τ.own v w):aD P G L C τ .own (λ_ _=>True) (store a v) (store b w):=.qY h hv (.pure trivial)
theorem JD{a:Addr}(h:AR τ.box a b):∀(n i:Nat) {xs ys:aa},XR (VR L τ.own) xs ys->aD P G L C τ .own (XR (VR L τ.own)) (loadCellsFrom a i n xs) (loadCellsFrom b i n ys)
 |0,_,_,_,c=>.pure c
 |n+1,i,_,_,c=>by
  unfold loadCellsFrom;exact aD.bind' (Hx (h.add i)) λv w hv=>JD h n (i+1) (c.push hv)
theorem VR.TS(h:XR (VR L κ) xs ys):VR L κ (.agg xs) (.agg ys):=by
 obtain⟨zs,rfl,rfl,a⟩:=h;exact .agg zs a
theorem K0(t:ak)(h:VR L τ.box v w):aD P G L C τ .own (VR L τ.own) (Instr.loadAt t v) (Instr.loadAt t w):=by
 unfold Instr.loadAt;refine aD.bind' (sK h) λa b h=>?_;unfold loadVar;refine aD.bind' (AJ t) ?_;rintro x _ rfl;try dsimp only
 split
 .refine aD.bind' (fV t) ?_;rintro n _ rfl;refine aD.bind' (JD h n 0 .nil) λxs ys c=>.pure (.TS c)
 .exact Hx h
theorem Fj{a:Addr}(h:AR τ.box a b):∀(l:List (ag×ag)) (i:Nat),(∀z∈l,VR L τ.own z.1 z.2)->aD P G L C τ .own (λ_ _=>True) (storeCells a (l.map (·.1)) i) (storeCells b (l.map (·.2)) i)
 |[],_,_=>.pure trivial
 |z::l,i,c=>by
  simp only[abv,storeCells];exact aD.bind' (Zo (h.add i) (c z zp)) λ_ _ _=>Fj h l (i+1) λy e=>c y (by simp[e])
theorem Te(t:ak)(h:VR L τ.box v w)(e:VR L τ.own x y):aD P G L C τ .own (λ_ _=>True) (Instr.storeAt t v x) (Instr.storeAt t w y):=by
 unfold Instr.storeAt;refine aD.bind' (sK h) λa b h=>?_;unfold storeVar;refine aD.bind' (fV t) ?_;rintro n _ rfl;try dsimp only
 have c:=e.cells;rw[c.size];split
 .exact .aE _ (aM.bind' (.stuck _))
 .obtain⟨l,f,g,i⟩:=c.list;rw[f,g];exact Fj h l 0 i
theorem Pc(E:Env P L τ)(e:ak):aD P G L C τ .own (VR L τ.own) (Instr.alloc e true (.tuple #[])) (Instr.alloc e true (.tuple #[])):=by
 unfold Instr.alloc;refine aD.bind' (pM E e) λv w hv=>?_;refine aD.bind' (F8 e hv) λa b h=>.pure (.ptr h)
theorem VF(e:ak)(h:VR L τ.all v w):aD P G L C τ .own (VR L τ.own) (Instr.box e v) (Instr.box e w):=by
 unfold Instr.box;exact aD.bind' (F8 e h) λa b h=>.pure (.ptr h)
theorem Zw(t:ak)(h:VR L τ.all v w):aD P G L C τ .own (VR L τ.all) (Instr.loadAt t v) (Instr.loadAt t w):=by
 unfold Instr.loadAt;exact aD.bind' (Pf h) λa b h=>DZ t h
theorem Ww(t:ak)(h:VR L τ.own v w)(c:VR L τ.all x y):aD P G L C τ .own (λ_ _=>True) (Instr.storeAt t v x) (Instr.storeAt t w y):=by
 unfold Instr.storeAt;exact aD.bind' (sK h) λa b h=>Na t h c
theorem KA(c:∀r s,κ r s->τ.all r s)(s:ak)(h:VR L κ v w)(i:Nat):aD P G L C τ .own (VR L κ) (Instr.fieldAt s v i) (Instr.fieldAt s w i):=by
 unfold Instr.fieldAt;refine aD.bind' (dG s) ?_;rintro d _ ⟨rfl,_⟩;cases d with
 |struct fs=>
  dsimp only;cases e:fs[i]? with
  |none=>exact .aa
  |some f=>
   dsimp only;exact aD.bind' (sK h) λa b h=>aD.bind' (WU c h f) λa b h=>.pure (.ptr h)
 |_=>exact .aa
theorem DK(t:ak)(h:VR L κ v w)(g:VR L τ.all x y):aD P G L C τ .own (VR L κ) (Instr.indexAt t v x) (Instr.indexAt t w y):=by
 unfold Instr.indexAt;refine aD.bind' (xD g) ?_;rintro⟨k,i⟩ _ ⟨rfl,_⟩;dsimp only;refine aD.bind' (dG t) ?_;rintro d _ ⟨rfl,j⟩;have fin:∀{base base':Option Addr} (len:Nat) (elem:ak),(∀a,base=some a->∃b,base'=some b/\AR κ a b)->(base=none->base'=none)->
   aD P G L C τ .own (VR L κ)
    (do
     let __do_lift ←underlying t
     match base with
      |some a=>
       if 0<=i/\i<(len:Int) then do pure (.pointer (some (a.add (i.toNat*(← sizeOf elem)))))
       else if (decide (len<=1)&&(match __do_lift with|.array .. =>true|_=>false))=true then unsupported (.noEntry "op/indexAddr.an index out of range at an array of length 0 or 1 (ledger 616)") else boundsPanic k i len .index
      |none=>boundsPanic k i 0 .index)
    (do
     let __do_lift ←underlying t
     match base' with
      |some a=>
       if 0<=i/\i<(len:Int) then do pure (.pointer (some (a.add (i.toNat*(← sizeOf elem)))))
       else if (decide (len<=1)&&(match __do_lift with|.array .. =>true|_=>false))=true then unsupported (.noEntry "op/indexAddr.an index out of range at an array of length 0 or 1 (ledger 616)") else boundsPanic k i len .index
      |none=>boundsPanic k i 0 .index):=by
  intro base base' len elem l p;refine aD.bind' (dG t) ?_;rintro d _ ⟨rfl,j⟩;cases base with
  |none=>exact .aE _ (.boundsPanic _ _ _ _)
  |some a=>
   obtain⟨b,rfl,f⟩:=l a rfl;dsimp only;split
   .refine aD.bind' (fV elem) ?_;rintro n _ rfl;exact .pure (.ptr (f.add _))
   .exact .aE _ (C8 (.unsupported _) (.boundsPanic _ _ _ _))
 cases d with
 |array len elem=>
  dsimp only;refine aD.bind' (sK h) λa b f=>?_;exact fin (base:=some a) (base':=some b) len elem (λ_ e=>zg) zc
 |slice elem=>
  cases h with
  |@slice a b n c f=>exact fin (base:=some a) (base':=some b) n elem (λ_ e=>zg) zc
  |jx n c=>exact fin (base:=none) (base':=none) n elem zc (λ_=>rfl)
  |_=>exact .aE _ (aM.bind' (.stuck _))
 |_=>exact .aE _ (aM.bind' (.stuck _))
theorem Wt(h:VR L τ.all v w)(i:Nat):aD P G L C τ .own (VR L τ.all) (Instr.extract v i) (Instr.extract w i):=by
 cases h with
 |tuple xs e=>
  unfold Instr.extract;dsimp only;rcases XR.get? (R:=VR L τ.all) ⟨xs,rfl,rfl,e⟩ i with⟨a,c⟩|⟨x,y,a,c,f⟩
  .rw[a];exact .aa
  .rw[a,c];exact .pure f
 |_=>exact .aa
theorem ZK(t:ak)(h:VR L τ.all v w)(i:Nat):aD P G L C τ .own (VR L τ.all) (Instr.field t v i) (Instr.field t w i):=by
 unfold Instr.field;refine aD.bind' (dG t) ?_;rintro d _ ⟨rfl,_⟩;cases d with
 |struct fs=>
  dsimp only;cases c:fs[i]? with
  |none=>exact .aa
  |some f=>exact aD.bind' (XB h) λxs ys a=>oR f.type a f.offset
 |_=>exact .aa
theorem VL(t:ak)(h:VR L τ.all v w)(a:VR L τ.all x y):aD P G L C τ .own (VR L τ.all) (Instr.index t v x) (Instr.index t w y):=by
 unfold Instr.index;refine aD.bind' (xD a) ?_;rintro⟨k,i⟩ _ ⟨rfl,_⟩;dsimp only;refine aD.bind' (dG t) ?_;rintro d _ ⟨rfl,c⟩;cases d with
 |array len elem=>
  cases h with
  |agg xs a=>
   dsimp only;split
   .refine aD.bind' (fV elem) ?_;rintro n _ rfl;exact oR elem ⟨xs,rfl,rfl,a⟩ _
   .exact .aE _ (.boundsPanic _ _ _ _)
  |_=>exact .aa
 |string=>
  cases h with
  |string s=>
   dsimp only;split
   .exact .pure (.int _ _)
   .exact .aE _ (.boundsPanic _ _ _ _)
  |_=>exact .aa
 |_=>cases h<;>exact .aa
theorem ME(t:ak)(h:VR L τ.all v w):aD P G L C τ .own (VR L τ.all) (Instr.makeInterface t v) (Instr.makeInterface t w):=by
 unfold Instr.makeInterface;refine aD.bind' (dG t) ?_;rintro d _ ⟨rfl,_⟩;cases d<;>first|exact .pure (.iface t h)|exact .aa
theorem Od{f:au}(g:L.gH f){e vs:aa}(h:XR (VR L τ.all) xs ys)(k:XR (VR L τ.all) e vs):aD P G L C τ .own (VR L τ.all) (Instr.makeFunc (.func f) xs e) (Instr.makeFunc (.func f) ys vs):=by
 obtain⟨zs,rfl,rfl,i⟩:=h;obtain⟨a,rfl,rfl,c⟩:=k;exact .pure (.func zs a g i c)
theorem Qz(t:ak):aD P G L C τ .own (VR L τ.own) (Instr.makeMap t none) (Instr.makeMap t none):=by
 unfold Instr.makeMap;exact aD.bind' (xf (.map 0 .nil)) λr s a=>.pure (.map a)
theorem XR.range{f g:Nat->ag}(n:Nat)(h:∀i,i<n->VR L τ.all (f i) (g i)):XR (VR L τ.all) ((Array.range n).map f) ((Array.range n).map g):=by
 refine XR.Co zp λi x y a c=>?_;grind
theorem XR.zO(h:XR (VR L τ.all) xs ys)(i:Nat):VR L τ.all (xs[i]!) (ys[i]!):=by
 rcases h.get? i with⟨a,c⟩|⟨x,y,a,c,e⟩
 .simp only[getElem!_def,a,c];exact .bool false
 grind
theorem RZ(E:Env P L τ)(t:ak)(h:VR L τ.all v w)(f:VR L τ.all x y):aD P G L C τ .own (VR L τ.own) (Instr.makeSlice t v x) (Instr.makeSlice t w y):=by
 unfold Instr.makeSlice;refine aD.bind' (dG t) ?_;rintro d _ ⟨rfl,_⟩;cases d with
 |slice elem=>
  refine aD.bind' (ua h) ?_;rintro len _ rfl;refine aD.bind' (ua f) ?_;rintro cap _ rfl;refine aD.bind' (kX elem) ?_;rintro i _ ⟨rfl,hi⟩;dsimp only;split
  .refine .aE _ ?_;split
   .exact aM.bind' (.runtimePanic _)
   .split
    .exact aM.bind' (.runtimePanic _)
    .exact aM.then (.choose _) λ_=>aM.bind' (.runtimePanic _)
  .refine aD.bind' (Cm _) λ_ _ _=>?_;refine aD.bind' (fV elem) ?_;rintro n _ rfl;split
   .rename_i g;refine aD.bind' (.pure (R:=λa b=>a=#[]/\b=#[]) ⟨rfl,rfl⟩) ?_;rintro _ _ ⟨rfl,rfl⟩;rw[g];exact aD.bind' (ql elem (XR.range 0 λi hi=>absurd hi (acf i))) λa b c=>.pure (.slice _ _ c)
   .refine aD.bind' (pM E elem) λu v hv=>?_;refine aD.bind' (R:=XR (VR L τ.all)) (.pure hv.cells) ?_
    .intro j vs e;refine aD.bind' (ql elem ?_) λa b c=>.pure (.slice _ _ c);rw[e.size];exact XR.range _ λi _=>e.zO _
 |_=>exact .aa
end
end
section
section
variable {P:aj}{G:Array Func}{L:aR}{C:au->Code->Prop}{τ:aJ}
theorem XR.Ku(a:Nat):∀(l:List ((ag×ag)×Nat)) {cs ds:aa},(∀z∈l,VR L τ.all z.1.1 z.1.2)->XR (VR L τ.all) cs ds->
  XR (VR L τ.all) (l.foldl (λc z=>c.setIfInBounds (a+z.2) z.1.1) cs) (l.foldl (λc z=>c.setIfInBounds (a+z.2) z.1.2) ds)
 |[],_,_,_,h=>h
 |z::l,cs,ds,e,h=>by
  simp only[acJ];exact XR.Ku a l (λy f=>e y (by simp[f])) (h.set (e z zp) _)
theorem XR.WM{cs ds:aa}(a:Nat)(h:XR (VR L τ.all) xs ys)(k:XR (VR L τ.all) cs ds):
  XR (VR L τ.all) (xs.zipIdx.foldl (λc (x:ag×Nat)=>c.setIfInBounds (a+x.2) x.1) cs) (ys.zipIdx.foldl (λc (x:ag×Nat)=>c.setIfInBounds (a+x.2) x.1) ds):=by
 obtain⟨zs,rfl,rfl,g⟩:=h;have e:(zs.map (·.1)).zipIdx.foldl (λc (x:ag×Nat)=>c.setIfInBounds (a+x.2) x.1) cs=zs.zipIdx.toList.foldl (λc z=>c.setIfInBounds (a+z.2) z.1.1) cs:=by
  rw[Array.zipIdx_map,Array.foldl_map,<-Array.foldl_toList];rfl
 have f:(zs.map (·.2)).zipIdx.foldl (λc (x:ag×Nat)=>c.setIfInBounds (a+x.2) x.1) ds=zs.zipIdx.toList.foldl (λc z=>c.setIfInBounds (a+z.2) z.1.2) ds:=by
  rw[Array.zipIdx_map,Array.foldl_map,<-Array.foldl_toList];rfl
 rw[e,f];refine XR.Ku a _ (λz i=>?_) k;grind
def PR(L:aR)(π:Nat->Nat->Prop)(x y:Nat×ag):Prop:=y.1=x.1/\VR L π x.2 y.2
theorem XR.fill(place:Nat->Option (Nat×Nat)):∀(l:List ((Nat×ag)×(Nat×ag))) {cs ds:aa},(∀z∈l,PR L τ.all z.1 z.2)->XR (VR L τ.all) cs ds->
  (Instr.fill place cs (l.map (·.1))=none)\/∃c e,Instr.fill place cs (l.map (·.1))=some c/\Instr.fill place ds (l.map (·.2))=some e/\XR (VR L τ.all) c e
 |[],cs,ds,_,h=>.inr ⟨cs,ds,rfl,rfl,h⟩
 |((i,v),(j,w))::l,cs,ds,k,h=>by
  obtain⟨f,hv⟩:=k ((i,v),(j,w)) zp;simp only at f hv;subst f;simp only[abv,Instr.fill];cases place j with
  |none=>exact .inl rfl
  |some p=>
   obtain⟨g,size⟩:=p;have n:=hv.cells;simp only[n.size,h.size];by_cases a:(decide (v.cells.size≠size)||decide (g+v.cells.size > cs.size))=true
   .grind
   .simp only[a,abf,abd];exact XR.fill place l (λy q=>k y (by simp[q])) (n.WM g h)
theorem GN{R:α->β->Prop}{S:γ->δ->Prop}{f:α->Sem γ}{g:β->Sem δ}(c:∀a b,R a b->aD P G L C τ .own S (f a) (g b)):∀(l:List (α×β)),(∀z∈l,R z.1 z.2)->
  aD P G L C τ .own (λxs ys=>∃l':List (γ×δ),xs=l'.map (·.1)/\ys=l'.map (·.2)/\∀z∈l',S z.1 z.2) ((l.map (·.1)).mapM f) ((l.map (·.2)).mapM g)
 |[],_=>by
  simp only[List.map_nil,List.mapM_nil];exact .pure ⟨[],rfl,rfl,zp⟩
 |z::l,e=>by
  simp only[abv,List.mapM_cons];refine aD.bind' (c _ _ (e z zp)) λx y i=>?_;refine aD.bind' (GN c l λy j=>e y (by simp[j])) ?_;rintro _ _ ⟨l',rfl,rfl,hl⟩;exact .pure ⟨(x,y)::l',rfl,rfl,zg⟩
theorem Gq{R:α->β->Prop}{S:γ->δ->Prop}{f:α->Sem γ}{g:β->Sem δ}(c:∀a b,R a b->aD P G L C τ .own S (f a) (g b)){xs:Array α}{ys:Array β}(h:XR R xs ys):
  aD P G L C τ .own (XR S) (xs.mapM f) (ys.mapM g):=by
 obtain⟨l,e,i,j⟩:=h.list;rw[<-Array.toArray_toList (xs:=xs),<-Array.toArray_toList (xs:=ys),e,i,List.mapM_toArray,List.mapM_toArray];refine aD.bind' (p:=(l.map (·.1)).mapM f) (q:=(l.map (·.2)).mapM g) (GN c l j) ?_;rintro _ _ ⟨l',rfl,rfl,hl⟩;exact .pure ⟨l'.toArray,zp,zp,zg⟩
theorem P9(E:Env P L τ)(t:ak){xs ys:Array (Nat×ag)}(h:XR (PR L τ.all) xs ys):aD P G L C τ .own (VR L τ.all) (Instr.build t xs) (Instr.build t ys):=by
 unfold Instr.build;refine aD.bind' (pM E t) λu v hv=>?_;refine aD.bind' (dG t) ?_;rintro d _ ⟨rfl,_⟩;obtain⟨l,k,p,q⟩:=h.list;cases d with
 |struct fs=>
  refine aD.bind' (Gq (R:=dM) (S:=dM) (xs:=fs) (ys:=fs) ?_ (XR.self fs λ_ _=>rfl)) ?_
  .rintro f _ rfl;refine aD.bind' (fV f.type) ?_;rintro n _ rfl;exact .pure rfl
  .intro ps r c;have e:ps=r:=by
    obtain⟨zs,rfl,rfl,s⟩:=c;grind
   subst e;rw[k,p];rcases XR.fill (λi=>ps[i]?) l q hv.cells with e|⟨cs,ds,g,j,a⟩
   .simp only[e];exact .aa
   .simp only[g,j];exact .pure (.ofRow a)
 |array n elem=>
  refine aD.bind' (fV elem) ?_;rintro n _ rfl;rw[k,p];try dsimp only
  rcases XR.fill (λi=>some (i*n,n)) l q hv.cells with e|⟨cs,ds,g,j,a⟩
  .simp only[e];exact .aa
  .simp only[g,j];exact .pure (.ofRow a)
 |_=>exact .aa
theorem PB(E:Env P L τ)(t:ak)(len:Nat){xs ys:Array (Nat×ag)}(h:XR (PR L τ.all) xs ys):aD P G L C τ .own (VR L τ.own) (Instr.buildSlice t len xs) (Instr.buildSlice t len ys):=by
 unfold Instr.buildSlice;refine aD.bind' (dG t) ?_;rintro d _ ⟨rfl,_⟩;obtain⟨l,z,A,s⟩:=h.list;cases d with
 |slice elem=>
  refine aD.bind' (fV elem) ?_;rintro n _ rfl;rw[z,A];try dsimp only
  split
  .exact .aE _ (aM.bind' (.unsupported _))
  .split
   .rename_i B;refine aD.bind' (.pure (R:=λa b=>a=#[]/\b=#[]) ⟨rfl,rfl⟩) ?_;rintro _ _ ⟨rfl,rfl⟩;rw[B];rcases XR.fill (λi=>some (i*n,n)) l s (cs:=(Array.range 0).map λi=>(#[]:aa)[i%(#[]:aa).size]!) (ds:=(Array.range 0).map λi=>(#[]:aa)[i%(#[]:aa).size]!) (XR.range 0 λi hi=>absurd hi (acf i)) with e|⟨cs,ds,p,q,c⟩
    .simp only[e];exact .aa
    .simp only[p,q];exact aD.bind' (ql elem c) λa b j=>.pure (.slice _ _ j)
   .refine aD.bind' (pM E elem) λu v hv=>?_;refine aD.bind' (R:=XR (VR L τ.all)) (.pure hv.cells) λr vs k=>?_;try dsimp only
    rw[k.size];rcases XR.fill (λi=>some (i*n,n)) l s (XR.range (f:=λi=>r[i%r.size]!) (g:=λi=>vs[i%r.size]!) (len*n) λi _=>k.zO _) with e|⟨cs,ds,p,q,c⟩
    .simp only[e];exact .aa
    .simp only[p,q];exact aD.bind' (ql elem c) λa b j=>.pure (.slice _ _ j)
 |_=>exact .aa
theorem Wf(h:VR L τ.all v w)(y:Nat)(c:BoundsCode):aD P G L C τ .own dM (Instr.sliceBound v y c) (Instr.sliceBound w y c):=by
 unfold Instr.sliceBound;refine aD.bind' (xD h) ?_;rintro⟨k,i⟩ _ ⟨rfl,_⟩;try dsimp only
 split
 .exact .pure rfl
 .exact .aE _ (.boundsPanic _ _ _ _)
inductive QR (L:aR) (π:Nat->Nat->Prop):Option ag->Option ag->Prop
 |none:QR L π none none
 |some {v w:ag}:VR L π v w->QR L π (some v) (some w)
theorem vk(b:Bool)(len cap:Nat){l m:Option ag}(hl:QR L τ.all l l')(e:QR L τ.all h h')(g:QR L τ.all m m'):aD P G L C τ .own dM (Instr.sliceBounds b len cap l h m) (Instr.sliceBounds b len cap l' h' m'):=by
 have st:∀{v w:ag} (_:VR L τ.all v w) (y:Nat) (c:BoundsCode) {k l:Nat->Sem (Nat×Nat×Nat)},(∀n,aD P G L C τ .own dM (k n) (l n))->aD P G L C τ .own dM (Instr.sliceBound v y c >>=k) (Instr.sliceBound w y c >>=l):=by
  intro v w hv y c k l i;refine aD.bind' (Wf hv y c) ?_;grind
 unfold Instr.sliceBounds;cases g with
 |none=>
  cases e with
  |none=>
   cases hl with
   |none=>exact .pure rfl
   |some hv=>exact st hv _ _ λn=>.pure rfl
  |some a=>
   cases hl with
   |none=>exact st a _ _ λn=>.pure rfl
   |some hv=>
    refine st a _ _ λn=>?_;refine st hv _ _ λn=>?_;exact .pure rfl
 |some f=>
  cases e with
  |none=>exact .aE _ (aM.then (.sliceBound _ _ _) λ_=>aM.bind' (.stuck _))
  |some a=>
   cases hl with
   |none=>
    refine st f _ _ λn=>?_;refine st a _ _ λn=>?_;exact .pure rfl
   |some hv=>
    refine st f _ _ λn=>?_;refine st a _ _ λn=>?_;refine st hv _ _ λn=>?_;exact .pure rfl
theorem Ty(h:VR L κ v w):aD P G L C τ .own (AR κ) (asAddr v) (asAddr w):=by
 cases h with
 |ptr h=>exact .pure h
 |bZ=>exact .aE _ (show aM (gp P G) (runtimePanic .nilDeref:Sem Addr) from .runtimePanic _)
 |_=>exact .aa
theorem SV(t:ak)(hv:VR L κ v w){l m:Option ag}(hl:QR L τ.all l l')(f:QR L τ.all h h')(g:QR L τ.all m m'):aD P G L C τ .own (VR L κ) (Instr.slice t v l h m) (Instr.slice t w l' h' m'):=by
 unfold Instr.slice;refine aD.bind' (dG t) ?_;rintro d _ ⟨rfl,_⟩;cases d with
 |string=>
  cases hv with
  |string s=>
   have j:m'.isSome=m.isSome:=by cases g<;>rfl
   try dsimp only
   rw[j];split
   .exact .aE _ (aM.bind' (.stuck _))
   .refine aD.bind' (vk false s.size s.size hl f .none) ?_;rintro⟨x,y,z⟩ _ rfl;exact .pure (.string _)
  |_=>exact .aa
 |slice elem=>
  cases hv with
  |jx n c=>
   refine aD.bind' (vk true n c hl f g) ?_;rintro⟨x,y,z⟩ _ rfl;refine aD.bind' (fV elem) ?_;rintro k _ rfl;refine .pure ?_;try dsimp only
   split<;>exact .jx _ _
  |slice n c e=>
   refine aD.bind' (vk true n c hl f g) ?_;rintro⟨x,y,z⟩ _ rfl;refine aD.bind' (fV elem) ?_;rintro k _ rfl;refine .pure ?_;try dsimp only
   split
   .exact .slice _ _ e
   .exact .slice _ _ (e.add _)
  |_=>exact .aa
 |pointer i=>
  try dsimp only
  refine aD.bind' (Ty hv) λa b e=>?_;refine aD.bind' (dG i) ?_;rintro d _ ⟨rfl,_⟩;cases d with
  |array n elem=>
   refine aD.bind' (vk false n n hl f g) ?_;rintro⟨x,y,z⟩ _ rfl;refine aD.bind' (fV elem) ?_;rintro k _ rfl;refine .pure ?_;try dsimp only
   split
   .exact .slice _ _ e
   .exact .slice _ _ (e.add _)
  |_=>exact .aa
 |_=>cases hv<;>exact .aa
theorem JJ(t:ak)(hv:VR L κ v w){l m:Option ag}(hl:QR L τ.all l l')(e:QR L τ.all h h')(f:QR L τ.all m m'):aD P G L C τ .own (VR L κ) (Instr.sliceAt t v l h m) (Instr.sliceAt t w l' h' m'):=by
 unfold Instr.sliceAt;refine aD.bind' (dG t) ?_;rintro d _ ⟨rfl,_⟩;cases d with
 |array n elem=>
  refine aD.bind' (sK hv) λa b c=>?_;refine aD.bind' (vk false n n hl e f) ?_;rintro⟨x,y,z⟩ _ rfl;refine aD.bind' (fV elem) ?_;rintro k _ rfl;refine .pure ?_;try dsimp only
  split
  .exact .slice _ _ c
  .exact .slice _ _ (c.add _)
 |_=>exact SV t hv hl e f
end
end
section
section
variable {P:aj}{G:Array Func}{L:aR}{C:au->Code->Prop}{τ:aJ}
def xr(S:σ->ω->Prop)(x:ForInStep σ)(y:ForInStep ω):Prop:=(∃s t,x=.done s/\y=.done t/\S s t)\/(∃s t,x=.yield s/\y=.yield t/\S s t)
theorem xr.same(x:ForInStep σ):xr dM x x:=by
 cases x with
 |done s=>exact .inl ⟨s,s,rfl,rfl,rfl⟩
 |yield s=>exact .inr ⟨s,s,rfl,rfl,rfl⟩
theorem Cw(xs:Array α){f g:α->σ->Sem (ForInStep σ)}(c:∀a s,a∈xs->aD P G L C τ .own (xr dM) (f a s) (g a s))(s:σ):aD P G L C τ .own dM (forIn xs s f) (forIn xs s g):=by
 rw[<-Array.forIn_toList,<-Array.forIn_toList]
 have:=xi (P:=P) (G:=G) (L:=L) (C:=C) (τ:=τ) (R:=λa b=>a=b/\a∈xs) (S:=dM) (f:=f) (g:=g) (by rintro a _ ⟨rfl,e⟩ s _ rfl;exact c a s e) (xs.toList.map λx=>(x,x)) zp s s rfl;grind
theorem C5(n:Nat){f g:Nat->σ->Sem (ForInStep σ)}(c:∀a s,aD P G L C τ .own (xr dM) (f a s) (g a s))(s:σ):aD P G L C τ .own dM (forIn [0:n] s f) (forIn [0:n] s g):=by
 rw[Std.Legacy.Range.forIn_eq_forIn_range',Std.Legacy.Range.forIn_eq_forIn_range']
 have:=xi (P:=P) (G:=G) (L:=L) (C:=C) (τ:=τ) (R:=dM) (S:=dM) (f:=f) (g:=g) (by rintro a _ rfl s _ rfl;exact c a s) ((List.range' 0 n 1).map λx=>(x,x)) zp s s rfl;simp_all
theorem XU{f:TypeInfo->Sem α}(h:∀i,P.info? t=some i->aM (gp P G) (f i)):aM (gp P G) (typeInfo t >>=f):=λw es=>by
 cases hi:P.info? t with
 |none=>
  refine⟨.stuck "no such type",w,es,?_,trivial,.refl w⟩;show((match P.info? t with|some i=>Sem.pure i|none=>(stuck "no such type" :Sem TypeInfo)).bind f).runT (gp P G) w es=_;rw[hi];rfl
 |some i=>
  obtain⟨x,y,z,e,a,c⟩:=h i hi w es;refine⟨x,y,z,?_,a,c⟩;rw[<-e];show((match P.info? t with|some i=>Sem.pure i|none=>(stuck "no such type" :Sem TypeInfo)).bind f).runT (gp P G) w es=_;rw[hi];rfl
def iH(P:aj):Nat->ak->Bool
 |0,_=>false
 |m+1,t=>match P.underlying t with
  |some .bool|some (.int _)|some .string|some (.pointer _)=>true
  |some (.struct fs)=>fs.all λf=>iH P m f.type
  |some (.array _ e)=>iH P m e
  |_=>false
theorem Bc(E:Env P L τ):∀(n m:Nat) (t:ak) {x y u v:ag},iH P m t=true->VR L τ.all x u->VR L τ.all y v->aD P G L C τ .own dM (Op.equalIn n t x y) (Op.equalIn n t u v)
 |0,_,_,_,_,_,_,_,_,_=>.aa
 |n+1,0,_,_,_,_,_,e,_,_=>by cases e
 |n+1,m+1,t,x,y,u,v,e,B,j=>by
  unfold Op.equalIn;refine aD.bind' (dG t) ?_;rintro d _ ⟨rfl,M⟩;simp only[iH,M]at e;cases d with
  |bool=>
   cases B with
   |bool a=>cases j<;>first|exact .pure rfl|exact .aa
   |_=>first|exact .aa|(cases j<;>exact .aa)
  |string=>
   cases B with
   |string a=>cases j<;>first|exact .pure rfl|exact .aa
   |_=>first|exact .aa|(cases j<;>exact .aa)
  |int O=>
   cases B with
   |int k a=>
    cases j with
    |int k' b=>
     try dsimp only
     split
     .exact .pure rfl
     .exact .aa
    |ptr h=>
     by_cases H:a=0
     .subst H;exact .pure rfl
     .refine .aE _ ?_;split<;>first|exact aM.unsupported _|exact aM.stuck _|(exfalso;simp_all;done)
    |_=>first|exact .aa|exact .aa
   |ptr h=>
    cases j with
    |int k' b=>
     by_cases H:b=0
     .subst H;exact .pure rfl
     .refine .aE _ ?_;split<;>first|exact aM.unsupported _|exact aM.stuck _|(exfalso;simp_all;done)
    |ptr k=>
     try dsimp only
     refine aD.bind' (jk h) ?_;rintro⟨a,l⟩ ⟨b,l'⟩ ⟨g,_⟩;refine aD.bind' (jk k) ?_;rintro⟨c,m⟩ ⟨d,m'⟩ ⟨p,_⟩;refine oV ?_;try dsimp only
     rw[JV];by_cases q:(a.block==c.block&&decide (a.block<P.globals.size))=true
     .have D:(b.block==d.block&&decide (b.block<P.globals.size))=true:=by
       simp only[No,abt,abb]at q ⊢;obtain⟨I,J⟩:=q;exact⟨E.bi.fn _ _ _ (.inl g.1) (.inl (I▸p.1)),(E.high _ _ g.1).1 J⟩
      rw[BY q,BY D];refine aD.bind' (qW g) ?_;rintro x _ rfl;refine aD.bind' (qW p) ?_;rintro y _ rfl;exact .pure rfl
     refine .aE _ ?_;rw[AT q];refine XU λi hi=>?_;split
     .rename_i K;exact absurd rfl (E.zX _ _ _ _ hi K)
     .exact .unsupported _
    |_=>first|exact .aa|exact .aa
   |_=>cases j<;>first|exact .aa|exact .aa
  |unsafePointer=>cases e
  |pointer elem=>
   cases B with
   |bZ=>cases j<;>first|exact .pure rfl|exact .aa
   |ptr h=>
    cases j with
    |bZ=>exact .pure rfl
    |ptr k=>
     try dsimp only
     refine aD.bind' (fV elem) ?_;rintro m _ rfl;rw[<-h.eq_iff E.bi.JU k];split
     .exact aai E.bi.JU h k
     .split
      .exact .pure rfl
      .refine aD.bind' (ui _) ?_;rintro m _ rfl;exact .pure rfl
    |_=>exact .aa
   |_=>first|exact .aa|(cases j<;>exact .aa)
  |interface Q=>cases e
  |struct fs=>
   cases B with
   |agg xs z=>
    cases j with
    |agg ys A=>
     try dsimp only
     refine oV ?_;rw[BM];split
     .exact .aE _ (aM.bind' (.unsupported _))
     .refine aD.bind' (Cw fs (λf s F=>?_) _) ?_
      .split
       .have N:=acH.1 e f F;refine aD.bind' (oR f.type ⟨xs,rfl,rfl,z⟩ _) λa b g=>?_;refine aD.bind' (oR f.type ⟨ys,rfl,rfl,A⟩ _) λc d p=>?_;refine aD.bind' (Bc E n m f.type N g p) ?_;rintro r _ rfl;try dsimp only
        split<;>exact .pure (.same _)
       .exact .pure (.same _)
      .rintro r _ rfl;try dsimp only
       split<;>exact .pure rfl
    |_=>exact .aa
   |_=>first|exact .aa|(cases j<;>exact .aa)
  |array len elem=>
   cases B with
   |agg xs z=>
    cases j with
    |agg ys A=>
     try dsimp only
     refine aD.bind' (fV elem) ?_;rintro R _ rfl;refine aD.bind' (C5 len (λi s=>?_) _) ?_
     .refine aD.bind' (oR elem ⟨xs,rfl,rfl,z⟩ _) λa b g=>?_;refine aD.bind' (oR elem ⟨ys,rfl,rfl,A⟩ _) λc d p=>?_;refine aD.bind' (Bc E n m elem e g p) ?_;rintro r _ rfl;try dsimp only
      split<;>exact .pure (.same _)
     .rintro r _ rfl;try dsimp only
      split<;>exact .pure rfl
    |_=>exact .aa
   |_=>first|exact .aa|(cases j<;>exact .aa)
  |_=>cases e
def BT(E:Env P L τ)(a:iH P m t=true)(c:VR L τ.all x u)(e:VR L τ.all y v):aD P G L C τ .own dM (Op.equal t x y) (Op.equal t u v):=Bc E _ m t a c e
end
end
section
section
variable {P:aj}{G:Array Func}{L:aR}{C:au->Code->Prop}{τ:aJ}
theorem tQ(b:Bool):∀(n:Nat) (t:ak) {x u:ag},VR L τ.all x u->aD P G L C τ .own (λ_ _=>True) (Instr.checkKey b n t x) (Instr.checkKey b n t u)
 |0,_,_,_,_=>.aa
 |n+1,t,x,u,g=>by
  unfold Instr.checkKey;refine aD.bind' (dG t) ?_;rintro d _ ⟨rfl,_⟩;cases d with
  |interface k=>
   cases g with
   |iface j h=>
    try dsimp only
    refine aD.bind' (kX j) ?_;rintro i _ ⟨rfl,_⟩;try dsimp only
    split
    .refine .aE _ ?_;split
     .exact aM.bind' (.runtimePanic _)
     .exact aM.then (.typeStr _) λ_=>aM.bind' (.runtimePanic _)
    .exact tQ b n j h
   |nilIface=>exact .pure trivial
   |_=>exact .aa
  |array len elem=>
   cases g with
   |agg xs c=>
    try dsimp only
    refine aD.bind' (C5 len (λi s=>?_) _) λ_ _ _=>.pure trivial;refine aD.bind' (fV elem) ?_;rintro m _ rfl;refine aD.bind' (oR elem ⟨xs,rfl,rfl,c⟩ _) λa b e=>?_;exact aD.bind' (tQ _ n elem e) λ_ _ _=>.pure (.same _)
   |_=>exact .aa
  |struct fs=>
   cases g with
   |agg xs c=>
    try dsimp only
    refine aD.bind' (Cw fs (λf s _=>?_) _) λ_ _ _=>.pure trivial;split
    .refine aD.bind' (oR f.type ⟨xs,rfl,rfl,c⟩ _) λa b e=>?_;exact aD.bind' (tQ _ n f.type e) λ_ _ _=>.pure (.same _)
    .exact .pure (.same _)
   |_=>exact .aa
  |_=>exact .pure trivial
def FR(L:aR)(π:Nat->Nat->Prop)(_:Nat):Option (Nat×ag)->Option (Nat×ag)->Prop
 |none,none=>True
 |some (i,v),some (j,w)=>j=i/\VR L π v w
 |_,_=>False
theorem JZ(E:Env P L τ)(a:iH P m t=true)(e:VR L τ.all x u):∀(l:List (aw×aw)) (i:Nat),(∀z∈l,ER L τ.all z.1 z.2)->
  aD P G L C τ .own (FR L τ.all 0) (Instr.findAsking t x (l.map (·.1)) i) (Instr.findAsking t u (l.map (·.2)) i)
 |[],_,_=>.pure trivial
 |z::l,i,c=>by
  simp only[abv,Instr.findAsking];refine aD.bind' (BT E a e (c z zp).1) ?_;rintro r _ rfl;try dsimp only
  split
  .exact .pure ⟨rfl,(c z zp).2.1⟩
  .exact JZ E a e l (i+1) λy f=>c y (by simp[f])
theorem Yg{d:TypeDesc}(l:P.underlying t=some d)(e:VR L τ.all x u)(c:VR L τ.all y v){b:Bool}(h:Instr.sameNow d u v=some b){R:α->β->Prop}{k:Bool->Sem α}{q:Sem β}(n:aD P G L C τ .own R (k b) q):aD P G L C τ .own R (Op.equal t x y >>=k) q:=by
 have go:∀{f:TypeDesc->Sem Bool},(Op.equalIn 10000 t x y=underlying t >>=f)->(aM (gp P G) (f d)\/f d=pure b)->aD P G L C τ .own R (Op.equal t x y >>=k) q:=by
  intro f p g;show aD P G L C τ .own R (Op.equalIn 10000 t x y >>=k) q;rw[p];refine .qH ?_;show aD P G L C τ .own R ((((match P.underlying t with|some d=>Sem.pure d|none=>(stuck "no such type" :Sem TypeDesc)).bind f)).bind k) q;rw[l];rcases g with i|r
  .exact .aE _ (aM.bind i)
  .show aD P G L C τ .own R ((f d).bind k) q;rw[r];exact n
 refine go (f:=λd=>_) (by unfold Op.equalIn;rfl) ?_;cases d with
 |int s=>
  cases e with
  |int k a=>
   cases c with
   |int k' j=>
    simp only[Instr.sameNow]at h;grind
   |bL=>exact .inl (.stuck _)
   |_=>cases h
  |bL=>cases c<;>first|exact .inl (.stuck _)|exact .inl (.unsupported _)
  |_=>cases c<;>first|(cases h;done)|(simp[Instr.sameNow]at h;done)
 |string=>
  cases e with
  |string a=>
   cases c with
   |string j=>cases h;exact .inr rfl
   |bL=>exact .inl (.stuck _)
   |_=>cases h
  |bL=>exact .inl (.stuck _)
  |_=>cases c<;>first|(cases h;done)|(simp[Instr.sameNow]at h;done)
 |bool=>
  cases e with
  |bool a=>
   cases c with
   |bool j=>cases h;exact .inr rfl
   |bL=>exact .inl (.stuck _)
   |_=>cases h
  |bL=>exact .inl (.stuck _)
  |_=>cases c<;>first|(cases h;done)|(simp[Instr.sameNow]at h;done)
 |_=>cases u<;>cases v<;>cases h
theorem Tf(d:TypeDesc)(a:VR L τ.all x u)(c:VR L τ.all y v):Instr.sameNow d x y=none\/Instr.sameNow d u v=Instr.sameNow d x y:=by
 cases d with
 |int k=>
  cases a with
  |int=>cases c with
   |int=>exact .inr rfl
   |_=>exact .inl rfl
  |_=>exact .inl rfl
 |string=>
  cases a with
  |string=>cases c with
   |string=>exact .inr rfl
   |_=>exact .inl rfl
  |_=>exact .inl rfl
 |bool=>
  cases a with
  |bool=>cases c with
   |bool=>exact .inr rfl
   |_=>exact .inl rfl
  |_=>exact .inl rfl
 |_=>exact .inl rfl
theorem yo(d:TypeDesc)(f:VR L τ.all x u):∀(l:List (aw×aw)) (i:Nat),(∀z∈l,ER L τ.all z.1 z.2)->
  Instr.findNow d x (l.map (·.1)) i=none\/∃a b,Instr.findNow d x (l.map (·.1)) i=some a/\Instr.findNow d u (l.map (·.2)) i=some b/\FR L τ.all 0 a b
 |[],_,_=>.inr ⟨none,none,rfl,rfl,trivial⟩
 |z::l,i,c=>by
  simp only[abv,Instr.findNow];rcases Tf d f (c z zp).1 with e|e
  .rw[e];exact .inl rfl
  .rw[e];cases Instr.sameNow d x z.1.key with
   |none=>exact .inl rfl
   |some b=>
    cases b with
    |true=>exact .inr ⟨_,_,rfl,rfl,rfl,(c z zp).2.1⟩
    |false=>exact yo d f l (i+1) λy g=>c y (by simp[g])
theorem EN{d:TypeDesc}(c:P.underlying t=some d)(f:VR L τ.all x u):∀(l:List (aw×aw)) (i:Nat),(∀z∈l,ER L τ.all z.1 z.2)->∀r,Instr.findNow d u (l.map (·.2)) i=some r->
  aD P G L C τ .own (FR L τ.all 0) (Instr.findAsking t x (l.map (·.1)) i) (pure r)
 |[],_,_,r,a=>by
  simp only[List.map_nil,Instr.findNow,aaX]at a;subst a;exact .pure trivial
 |z::l,i,g,r,a=>by
  have j:=g z zp;simp only[abv,Instr.findNow]at a;cases e:Instr.sameNow d u z.2.key with
  |none=>rw[e]at a;cases a
  |some b=>
   rw[e]at a;simp only[abv,Instr.findAsking];refine Yg c f j.1 e ?_;cases b with
   |true=>
    simp only[aaX]at a;subst a;exact .pure ⟨rfl,j.2.1⟩
   |false=>exact EN c f l (i+1) (λy k=>g y (by simp[k])) r a
theorem XD(E:Env P L τ)(c:iH P m t=true)(f:VR L τ.all x u){es fs:Array aw}(h:XR (ER L τ.all) es fs):aD P G L C τ .own (FR L τ.all 0) (Instr.findKey t x es.toList) (Instr.findKey t u fs.toList):=by
 obtain⟨l,j,k,g⟩:=h.list;rw[j,k];unfold Instr.findKey;refine aD.bind' (dG t) ?_;rintro d _ ⟨rfl,n⟩;try dsimp only
 rcases yo d f l 0 g with e|⟨a,b,p,q,i⟩
 .rw[e];cases s:Instr.findNow d u (l.map (·.2)) 0 with
  |none=>exact JZ E c f l 0 g
  |some r=>exact EN n f l 0 g r s
 .rw[p,q];exact .pure i
theorem M8(E:Env P L τ)(n:∀k e,P.underlying t=some (.map k e)->iH P m k=true)(h:VR L τ.all v w)(s:VR L τ.all x y)(ok:Bool):aD P G L C τ .own (VR L τ.all) (Instr.lookup t v x ok) (Instr.lookup t w y ok):=by
 have rest:∀(key elem:TypeId) {es fs:Array MapEntry},iH P m key=true->XR (ER L τ.all) es fs->aD P G L C τ .own (VR L τ.all)
   (do
    Instr.checkKey es.isEmpty 10000 key x
    let (v,k) ←match ←Instr.findKey key x es.toList with
     |some (_,v)=>pure (v,true)
     |none=>do pure (← zeroValue elem,false)
    pure (if ok then .tuple #[v,.bool k] else v))
   (do
    Instr.checkKey fs.isEmpty 10000 key y
    let (v,k) ←match ←Instr.findKey key y fs.toList with
     |some (_,v)=>pure (v,true)
     |none=>do pure (← zeroValue elem,false)
    pure (if ok then .tuple #[v,.bool k] else v)):=by
  intro key elem es fs l g;rw[g.isEmpty];refine aD.bind' (tQ _ _ key s) λ_ _ _=>?_;refine aD.bind' (XD E l s g) λa b p=>?_;match a,b,p with
  |none,none,_=>
   refine aD.bind' (pM E elem) λu v f=>?_;refine .pure ?_;try dsimp only
   split
   .exact .pair f (.bool _)
   .exact f
  |some (i,u),some (j,v),⟨_,f⟩=>
   refine .pure ?_;try dsimp only
   split
   .exact .pair f (.bool _)
   .exact f
 unfold Instr.lookup;refine aD.bind' (dG t) ?_;rintro d _ ⟨rfl,z⟩;cases d with
 |map key elem=>
  have l:=n key elem z;cases h with
  |mD=>exact rest key elem l .nil
  |map r=>
   refine aD.bind' (oc r) λo q A=>?_;cases A with
   |map c g=>exact rest key elem l g
   |_=>exact .aE _ (aM.bind' (.stuck _))
  |_=>exact .aE _ (aM.bind' (.stuck _))
 |_=>exact .aa
end
end
end Go.Proofs.YtldmcdeibiclkaaGreat.U
