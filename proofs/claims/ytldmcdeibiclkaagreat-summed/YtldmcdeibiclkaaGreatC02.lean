/-
  Toward summed_holds: THE MODEL's LIBRARY, SIDE BY SIDE: loads, stores, rows, types.
-/
import Derived.Test.YtldmcdeibiclkaaGreatC01
set_option linter.unusedVariables false
set_option linter.unusedSimpArgs false
set_option maxRecDepth 100000
set_option maxHeartbeats 20000000
namespace Go.Proofs.YtldmcdeibiclkaaGreat.U
variable {v w x y u:Value}{a b d:Addr}{α β σ ω γ δ:Type}{xs ys:Array Value}{κ:Nat->Nat->Prop}{t:TypeId}{r s m:Nat}{l h l' h' m':Option Value}{o q:Obj}
section
structure Env(P:Program)(L:au)(τ:ah):Prop where
 bi:Fit τ
 high:∀r s,τ.all r s->(r<P.globals.size↔s<P.globals.size)
 sO:∀t i n u,P.info? t=some i->i.desc=.named n u->n≠ "sync.copyChecker"
 zero:∀t i v,P.info? t=some i->i.zero=some v->∀π,VR L π v v
section
variable {P:Program}{G:Array Func}{L:au}{C:FuncId->Code->Prop}{τ:ah}
abbrev bS:α->α->Prop:=λa b=>a=b
theorem sW(h:AR τ.all a b):ae P G L C τ .own (VR L τ.all) (load a) (load b):=.load h λ_ _ hv=>.pure hv
theorem FM(h:AR τ.own a b)(hv:VR L τ.all v w):ae P G L C τ .own (λ_ _=>True) (store a v) (store b w):=.store h hv (.pure trivial)
theorem pU(h:OR L τ o q):ae P G L C τ .own τ.own (newObj o) (newObj q):=.new rfl h λ_ _ hr=>.pure hr
theorem kx(h:τ.all r s):ae P G L C τ .own bS (shape r) (shape s):=.shape h λ_=>.pure rfl
theorem IQ(h:AR τ.own a b)(n:Nat):ae P G L C τ .own (λ_ _=>True) (freeze a n) (freeze b n):=.freeze n h (.pure trivial)
theorem mC(h:AR τ.all a b):ae P G L C τ .own bS (frozen a) (frozen b):=.frozen h λ_=>.pure rfl
theorem jf(h:τ.all r s):ae P G L C τ .own (OR L τ) (getObj r) (getObj s):=.getObj h λ_ _ ho=>.pure ho
theorem uN(h:τ.own r s)(ho:OR L τ o q)(hn:yz o):ae P G L C τ .own (λ_ _=>True) (setObj r o) (setObj s q):=.setObj h ho hn (.pure trivial)
theorem pg(q:Question):ae P G L C τ .own bS (choose q) (choose q):=.choose q λ_=>.pure rfl
theorem jT{R:α->β->Prop}{f:Program->Sem α}{g:Program->Sem β}(h:ae P G L C τ .own R (f (gp P G)) (g P)):ae P G L C τ .own R (program >>=f) (program >>=g):=.program h
theorem rD(n:Nat):ae P G L C τ .own (λ_ _=>True) (askRoom n) (askRoom n):=by
 unfold askRoom;split
 ·exact .noRoom (.pure trivial)
 ·exact .pure trivial
theorem hU(t:TypeId):ae P G L C τ .own (λa b=>a=b/\P.info? t=some a) (typeInfo t) (typeInfo t):=by
 unfold typeInfo;refine jT ?_;rw[wN];cases h:P.info? t with
 |none=>exact .am
 |some i=>exact .pure ⟨rfl,rfl⟩
theorem bP(t:TypeId):ae P G L C τ .own (λa b=>a=b/\P.underlying t=some a) (underlying t) (underlying t):=by
 unfold underlying;refine jT ?_;rw[A9];cases h:P.underlying t with
 |none=>exact .am
 |some i=>exact .pure ⟨rfl,rfl⟩
theorem dD(t:TypeId):ae P G L C τ .own bS (sizeOf t) (sizeOf t):=by
 unfold sizeOf;refine ae.bind' (hU t) ?_;rintro _ _ ⟨rfl,_⟩;exact .pure rfl
theorem ui(t:TypeId):ae P G L C τ .own bS (isAgg t) (isAgg t):=by
 unfold isAgg;refine ae.bind' (bP t) ?_;rintro d _ ⟨rfl,_⟩;cases d<;>exact .pure rfl
theorem kP(E:Env P L τ)(t:TypeId):ae P G L C τ .own (VR L τ.all) (zeroValue t) (zeroValue t):=by
 unfold zeroValue;refine ae.bind' (hU t) ?_;rintro i _ ⟨rfl,hi⟩;cases h:i.zero with
 |none=>exact .am
 |some v=>exact .pure (E.zero t i v hi h _)
theorem Fo(t:TypeId):ae P G L C τ .own bS (elemOf t) (elemOf t):=by
 unfold elemOf;refine ae.bind' (bP t) ?_;rintro d _ ⟨rfl,_⟩;cases d<;>first|exact .pure rfl|exact .am
theorem BQ(h:AR τ.all a b):∀(n i:Nat) {xs ys:Array Value},XR (VR L τ.all) xs ys->ae P G L C τ .own (XR (VR L τ.all)) (loadCellsFrom a i n xs) (loadCellsFrom b i n ys)
 |0,_,_,_,hx=>.pure hx
 |n+1,i,_,_,hx=>by
  unfold loadCellsFrom;exact ae.bind' (sW (h.add i)) λv w hv=>BQ h n (i+1) (hx.push hv)
theorem rC(h:AR τ.all a b)(n:Nat):ae P G L C τ .own (XR (VR L τ.all)) (loadCells a n) (loadCells b n):=BQ h n 0 .nil
theorem xZ(h:AR τ.own a b):∀(l:List (Value×Value)) (i:Nat),(∀z∈l,VR L τ.all z.1 z.2)->ae P G L C τ .own (λ_ _=>True) (storeCells a (l.map (·.1)) i) (storeCells b (l.map (·.2)) i)
 |[],_,_=>.pure trivial
 |z::l,i,hz=>by
  simp only[QU,storeCells];exact ae.bind' (FM (h.add i) (hz z (by simp))) λ_ _ _=>xZ h l (i+1) λy hy=>hz y (by simp[hy])
theorem sJ(h:AR τ.own a b)(hx:XR (VR L τ.all) xs ys):ae P G L C τ .own (λ_ _=>True) (storeCells a xs.toList) (storeCells b ys.toList):=by
 obtain⟨l,h1,h2,h3⟩:=hx.list;rw[h1,h2];exact xZ h l 0 h3
theorem VR.ofRow(h:XR (VR L τ.all) xs ys):VR L τ.all (.agg xs) (.agg ys):=by
 obtain⟨zs,rfl,rfl,hz⟩:=h;exact .agg zs hz
theorem VR.pH(h:XR (VR L τ.all) xs ys):VR L τ.all (.tuple xs) (.tuple ys):=by
 obtain⟨zs,rfl,rfl,hz⟩:=h;exact .tuple zs hz
theorem VR.pair{a b c d:Value}(h:VR L τ.all a b)(k:VR L τ.all c d):VR L τ.all (.tuple #[a,c]) (.tuple #[b,d]):=.pH ((XR.nil.push h).push k)
theorem VR.three{a b c d e f:Value}(h:VR L τ.all a b)(k:VR L τ.all c d)(l:VR L τ.all e f):VR L τ.all (.tuple #[a,c,e]) (.tuple #[b,d,f]):=.pH (((XR.nil.push h).push k).push l)
theorem VR.one{a b:Value}(h:VR L τ.all a b):VR L τ.all (.tuple #[a]) (.tuple #[b]):=.pH (XR.nil.push h)
theorem B7(t:TypeId)(h:AR τ.all a b):ae P G L C τ .own (VR L τ.all) (loadVar t a) (loadVar t b):=by
 unfold loadVar;refine ae.bind' (ui t) ?_;rintro x _ rfl;try dsimp only
 split
 ·refine ae.bind' (dD t) ?_;rintro n _ rfl;refine ae.bind' (rC h n) λxs ys hx=>.pure (.ofRow hx)
 ·exact sW h
theorem LC(t:TypeId)(h:AR τ.own a b)(hv:VR L τ.all v w):ae P G L C τ .own (λ_ _=>True) (storeVar t a v) (storeVar t b w):=by
 unfold storeVar;refine ae.bind' (dD t) ?_;rintro n _ rfl;try dsimp only
 have hc:=hv.cells;rw[hc.size];split
 ·exact .af _ (ai.bind' (.stuck _))
 ·exact sJ h hc
theorem lK(e:TypeId)(h:XR (VR L τ.all) xs ys):ae P G L C τ .own (AR τ.own) (newRow e xs) (newRow e ys):=by
 unfold newRow;exact ae.bind' (pU (.cells e (0,0) h)) λr s hr=>.pure ⟨hr,rfl,rfl⟩
theorem wu(t:TypeId)(h:VR L τ.all v w):ae P G L C τ .own (AR τ.own) (newVar t v) (newVar t w):=lK t h.cells
theorem kH(t:TypeId)(h:XR (VR L τ.all) xs ys)(off:Nat):ae P G L C τ .own (VR L τ.all) (part t xs off) (part t ys off):=by
 unfold part;refine ae.bind' (ui t) ?_;rintro x _ rfl;try dsimp only
 split
 ·refine ae.bind' (dD t) ?_;rintro n _ rfl;exact .pure (.ofRow (h.extract _ _))
 ·rcases h.get? off with⟨h1,h2⟩|⟨x,y,h1,h2,h3⟩
  ·rw[h1];exact .am
  ·rw[h1,h2];exact .pure h3
theorem pF(h:VR L τ.all v w):ae P G L C τ .own (λa b=>a=b/\v=.int a.1 a.2) (asIntOf v) (asIntOf w):=by
 cases h<;>first|exact .pure ⟨rfl,rfl⟩|exact .am
theorem oK(h:VR L τ.all v w):ae P G L C τ .own bS (asInt v) (asInt w):=by
 unfold asInt;refine ae.bind' (pF h) ?_;rintro x _ ⟨rfl,_⟩;exact .pure rfl
theorem NS(h:VR L τ.all v w):ae P G L C τ .own bS (asBool v) (asBool w):=by
 cases h<;>first|exact .pure rfl|exact .am
theorem MI(h:VR L τ.all v w):ae P G L C τ .own (XR (VR L τ.all)) (asAgg v) (asAgg w):=by
 cases h with
 |agg xs h=>exact .pure ⟨xs,rfl,rfl,h⟩
 |_=>exact .am
theorem KY(h:VR L τ.all v w):ae P G L C τ .own (AR τ.all) (asAddr v) (asAddr w):=by
 cases h with
 |ptr h=>exact .pure h
 |bc=>exact .af _ (show ai (gp P G) (runtimePanic .nilDeref:Sem Addr) from .runtimePanic _)
 |_=>exact .am
theorem Ko(h:VR L τ.all v w):ae P G L C τ .own (AR τ.all) (Instr.sureAddr v) (Instr.sureAddr w):=by
 cases h with
 |ptr h=>exact .pure h
 |_=>exact .am
theorem Bw(h:τ.all r s):ae P G L C τ .own (λa b=>a=none/\b=none) (viewAt r) (viewAt s):=by
 unfold viewAt;refine ae.bind' (kx h) ?_;rintro x _ rfl;try dsimp only
 split
 ·exact .pure ⟨rfl,rfl⟩
 ·refine ae.bind' (jf h) λo q ho=>?_;cases ho<;>exact .pure ⟨rfl,rfl⟩
theorem rO(h:AR τ.all a b):ae P G L C τ .own (λ_ _=>True) (noView a) (noView b):=by
 unfold noView;refine ae.bind' (Bw h.1) ?_;rintro _ _ ⟨rfl,rfl⟩;exact .pure trivial
theorem zK(h:τ.all r s):ae P G L C τ .own (λa b=>(a=none/\b=none)\/∃x y l,a=some (x,l)/\b=some (y,l)/\AR τ.all x y) (numberAt r) (numberAt s):=by
 unfold numberAt;refine ae.bind' (kx h) ?_;rintro x _ rfl;try dsimp only
 split
 ·exact .pure (.inl ⟨rfl,rfl⟩)
 ·refine ae.bind' (jf h) λo q ho=>?_;cases ho with
  |number l h=>exact .pure (.inr ⟨_,_,l,rfl,rfl,h⟩)
  |_=>exact .pure (.inl ⟨rfl,rfl⟩)
theorem fu(h:AR τ.all a b):ae P G L C τ .own (λx y=>AR τ.all x.1 y.1/\y.2=x.2) (behindNumber a) (behindNumber b):=by
 unfold behindNumber;refine ae.bind' (zK h.1) ?_;rintro x y (⟨rfl,rfl⟩|⟨u,v,l,rfl,rfl,huv⟩)
 ·exact .pure ⟨h,rfl⟩
 ·exact .pure ⟨huv,rfl⟩
theorem Ka(hb:eh τ)(h:AR τ.all a b)(l:Bool):ae P G L C τ .own (VR L τ.all) (asNumber a l) (asNumber b l):=by
 unfold asNumber;exact ae.bind' (pU (.number l h)) λr s hr=>.pure (.ptr ⟨hb.own _ _ hr,rfl,rfl⟩)
theorem AF(h:AR τ.all a b):ae P G L C τ .own bS (stringish a) (stringish b):=by
 unfold stringish;refine ae.bind' (mC h) ?_;rintro x _ rfl;try dsimp only
 split
 ·exact .pure rfl
 ·refine ae.bind' (kx h.1) ?_;rintro x _ rfl;cases x with
  |none=>exact .pure rfl
  |some x=>first|exact mC ⟨h.1,rfl,rfl⟩|exact mC ⟨h.1,rfl,h.2.2⟩|exact mC (a:={block:=a.block,off:=x.2}) (b:={block:=b.block,off:=x.2}) ⟨h.1,rfl,rfl⟩
theorem AR.eq_iff(hb:jF τ.all){c:Addr}(h:AR τ.all a b)(k:AR τ.all c d):(a==c)=(b==d):=by
 obtain⟨ab,ao,Qw⟩:=a;obtain⟨bb,bo,bs⟩:=b;obtain⟨cb,co,cs⟩:=c;obtain⟨db,d_o,ds⟩:=d;obtain⟨h1,h2,h3⟩:=h;obtain⟨k1,k2,k3⟩:=k;simp only at h1 h2 h3 k1 k2 k3;subst h2 h3 k2 k3;have:ab=cb↔bb=db:=⟨λe=>hb.fn _ _ _ h1 (e▸k1),λe=>hb.inj _ _ _ h1 (e▸k1)⟩
 rw[Bool.eq_iff_iff];simp only[Rw,Addr.mk.injEq,this]
theorem FY(hb:jF τ.all){t u:Nat}(h:τ.all r s)(k:τ.all t u):(r==t)=(s==u):=by
 rw[Bool.eq_iff_iff];simp only[Rw];exact⟨λe=>hb.fn _ _ _ h (e▸k),λe=>hb.inj _ _ _ h (e▸k)⟩
theorem Hk{c:Addr}(h:AR τ.all a b)(k:AR τ.all c d):ae P G L C τ .own bS (mayBeOne a c) (mayBeOne b d):=by
 unfold mayBeOne;try dsimp only
 refine ae.bind' (AF h) ?_;rintro x _ rfl;refine ae.bind' (AF k) ?_;rintro y _ rfl;have hn:∀{u v:Addr},AR τ.all u v->ae P G L C τ .own bS (do pure ((← shape u.block) matches some (_,0)):Sem Bool) (do pure ((← shape v.block) matches some (_,0)):Sem Bool):=λhuv=>by
  refine ae.bind' (kx huv.1) ?_;rintro x _ rfl;exact .pure rfl
 refine ae.bind' (hn h) ?_;rintro z _ rfl;refine ae.bind' (hn k) ?_;rintro u _ rfl;exact .pure rfl
theorem De(hb:jF τ.all){c:Addr}(h:AR τ.all a b)(k:AR τ.all c d):ae P G L C τ .own bS (sameAddr a c) (sameAddr b d):=by
 unfold sameAddr;try dsimp only
 rw[<-FY hb h.1 k.1,<-h.eq_iff hb k];split
 ·exact .pure rfl
 ·refine ae.bind' (mC h) ?_;rintro x _ rfl;refine ae.bind' (mC k) ?_;rintro y _ rfl;try dsimp only
  split
  ·exact .af _ (ai.bind' (.unsupported _))
  ·refine ae.bind' (rO h) λ_ _ _=>?_;refine ae.bind' (rO k) λ_ _ _=>?_;refine ae.bind' (Hk h k) ?_;rintro z _ rfl;try dsimp only
   split
   ·refine ae.bind' (pg _) ?_;rintro n _ rfl;exact .pure rfl
   ·exact .pure rfl
theorem lA(h:AR τ.all a b):ae P G L C τ .own bS (byteOf a) (byteOf b):=by
 unfold byteOf;rw[h.2.2];cases a.spot with
 |some s=>exact .pure rfl
 |none=>
  try dsimp only
  refine jT ?_;rw[tR];refine ae.bind' (rO h) λ_ _ _=>?_;refine ae.bind' (kx h.1) ?_;rintro x _ rfl;cases x with
  |none=>exact .am
  |some x=>
   simp only[h.2.1,yb,IG,ri,tR];split
   ·exact .pure rfl
   ·split
    ·exact .pure rfl
    ·exact .am
theorem Ge(h:AR τ.all a b)(u:TypeId)(n:Nat):ae P G L C τ .own bS (variablesAt a u n) (variablesAt b u n):=by
 unfold variablesAt;refine jT ?_;refine ae.bind' (kx h.1) ?_;rintro x _ rfl;cases x with
 |none=>exact .pure rfl
 |some x=>exact .pure (by rw[h.2.1,xH];rfl)
theorem wq:∀(n:Nat) {a b:Addr} (_:AR τ.all a b) (acc:ByteArray),ae P G L C τ .own bS (loadBytes a acc n) (loadBytes b acc n)
 |0,_,_,_,_=>.pure rfl
 |n+1,a,b,h,acc=>by
  unfold loadBytes;refine ae.bind' (sW h) λv w hv=>?_;cases hv with
  |int k m=>
   cases k<;>first|exact wq n (h.add 1) _|exact .am
  |_=>exact .am
end
end
section
section
variable {P:Program}{G:Array Func}{L:au}{C:FuncId->Code->Prop}{τ:ah}
theorem Bm{c:Prop}[Decidable c]{p q:Sem α}(h:ai (gp P G) p)(k:ai (gp P G) q):ai (gp P G) (if c then p else q):=by split<;>assumption
theorem pK{R:α->β->Prop}{S:σ->ω->Prop}{f:α->σ->Sem (ForInStep σ)}{g:β->ω->Sem (ForInStep ω)}(hf:∀a b,R a b->∀s t,S s t->ae P G L C τ .own (λx y=>(∃s t,x=.done s/\y=.done t/\S s t)\/(∃s t,x=.yield s/\y=.yield t/\S s t)) (f a s) (g b t)):
  ∀(l:List (α×β)) (_:∀z∈l,R z.1 z.2) (s:σ) (t:ω),S s t->ae P G L C τ .own S (forIn (l.map (·.1)) s f) (forIn (l.map (·.2)) t g)
 |[],_,s,t,h=>.pure h
 |z::l,hz,s,t,h=>by
  simp only[QU,List.forIn_cons];refine ae.bind' (hf _ _ (hz z (by simp)) s t h) ?_;rintro x y (⟨u,v,rfl,rfl,hu⟩|⟨u,v,rfl,rfl,hu⟩)
  ·exact .pure hu
  ·exact pK hf l (λy hy=>hz y (by simp[hy])) u v hu
theorem nu(h:VR L κ v w):ae P G L C τ .own (AR κ) (Instr.sureAddr v) (Instr.sureAddr w):=by
 cases h with
 |ptr h=>exact .pure h
 |_=>exact .am
theorem Ek(hκ:∀r s,κ r s->τ.all r s)(h:AR κ a b)(c n:Nat):ae P G L C τ .own (AR κ) (partAt a c n) (partAt b c n):=by
 unfold partAt;refine ae.bind' (lA (h.mono hκ)) ?_;rintro x _ rfl;have h2:AR κ {block:=a.block,off:=a.off+c} {block:=b.block,off:=b.off+c}:=⟨h.1,by simp[h.2.1],rfl⟩
 refine ae.bind' (lA (h2.mono hκ)) ?_;rintro y _ rfl;refine .pure ?_;split
 ·exact h2
 ·exact⟨h.1,by simp[h.2.1],rfl⟩
theorem Ku(hκ:∀r s,κ r s->τ.all r s)(h:AR κ a b)(f:Field):ae P G L C τ .own (AR κ) (fieldPlace a f) (fieldPlace b f):=by
 unfold fieldPlace;refine ae.bind' (dD _) ?_;rintro x _ rfl;try dsimp only
 split
 ·exact Ek hκ h _ _
 ·exact .pure (h.add _)
theorem yR(h:AR τ.box a b):ae P G L C τ .own (VR L τ.own) (load a) (load b):=.l7 h λ_ _ hv=>.pure hv
theorem PU(h:AR τ.box a b)(hv:VR L τ.own v w):ae P G L C τ .own (λ_ _=>True) (store a v) (store b w):=.lS h hv (.pure trivial)
theorem vF(h:AR τ.box a b):∀(n i:Nat) {xs ys:Array Value},XR (VR L τ.own) xs ys->ae P G L C τ .own (XR (VR L τ.own)) (loadCellsFrom a i n xs) (loadCellsFrom b i n ys)
 |0,_,_,_,hx=>.pure hx
 |n+1,i,_,_,hx=>by
  unfold loadCellsFrom;exact ae.bind' (yR (h.add i)) λv w hv=>vF h n (i+1) (hx.push hv)
theorem VR.P5(h:XR (VR L κ) xs ys):VR L κ (.agg xs) (.agg ys):=by
 obtain⟨zs,rfl,rfl,hz⟩:=h;exact .agg zs hz
theorem DS(t:TypeId)(h:VR L τ.box v w):ae P G L C τ .own (VR L τ.own) (Instr.loadAt t v) (Instr.loadAt t w):=by
 unfold Instr.loadAt;refine ae.bind' (nu h) λa b h=>?_;unfold loadVar;refine ae.bind' (ui t) ?_;rintro x _ rfl;try dsimp only
 split
 ·refine ae.bind' (dD t) ?_;rintro n _ rfl;refine ae.bind' (vF h n 0 .nil) λxs ys hx=>.pure (.P5 hx)
 ·exact yR h
theorem uV(h:AR τ.box a b):∀(l:List (Value×Value)) (i:Nat),(∀z∈l,VR L τ.own z.1 z.2)->ae P G L C τ .own (λ_ _=>True) (storeCells a (l.map (·.1)) i) (storeCells b (l.map (·.2)) i)
 |[],_,_=>.pure trivial
 |z::l,i,hz=>by
  simp only[QU,storeCells];exact ae.bind' (PU (h.add i) (hz z (by simp))) λ_ _ _=>uV h l (i+1) λy hy=>hz y (by simp[hy])
theorem Ei(t:TypeId)(h:VR L τ.box v w)(hx:VR L τ.own x y):ae P G L C τ .own (λ_ _=>True) (Instr.storeAt t v x) (Instr.storeAt t w y):=by
 unfold Instr.storeAt;refine ae.bind' (nu h) λa b h=>?_;unfold storeVar;refine ae.bind' (dD t) ?_;rintro n _ rfl;try dsimp only
 have hc:=hx.cells;rw[hc.size];split
 ·exact .af _ (ai.bind' (.stuck _))
 ·obtain⟨l,h1,h2,h3⟩:=hc.list;rw[h1,h2];exact uV h l 0 h3
theorem IY(E:Env P L τ)(e:TypeId):ae P G L C τ .own (VR L τ.own) (Instr.alloc e true (.tuple #[])) (Instr.alloc e true (.tuple #[])):=by
 unfold Instr.alloc;refine ae.bind' (kP E e) λv w hv=>?_;refine ae.bind' (wu e hv) λa b h=>.pure (.ptr h)
theorem DY(e:TypeId)(h:VR L τ.all v w):ae P G L C τ .own (VR L τ.own) (Instr.box e v) (Instr.box e w):=by
 unfold Instr.box;exact ae.bind' (wu e h) λa b h=>.pure (.ptr h)
theorem DV(t:TypeId)(h:VR L τ.all v w):ae P G L C τ .own (VR L τ.all) (Instr.loadAt t v) (Instr.loadAt t w):=by
 unfold Instr.loadAt;exact ae.bind' (Ko h) λa b h=>B7 t h
theorem FI(t:TypeId)(h:VR L τ.own v w)(hx:VR L τ.all x y):ae P G L C τ .own (λ_ _=>True) (Instr.storeAt t v x) (Instr.storeAt t w y):=by
 unfold Instr.storeAt;exact ae.bind' (nu h) λa b h=>LC t h hx
theorem xV(hκ:∀r s,κ r s->τ.all r s)(s:TypeId)(h:VR L κ v w)(i:Nat):ae P G L C τ .own (VR L κ) (Instr.fieldAt s v i) (Instr.fieldAt s w i):=by
 unfold Instr.fieldAt;refine ae.bind' (bP s) ?_;rintro d _ ⟨rfl,_⟩;cases d with
 |struct fs=>
  dsimp only;cases hf:fs[i]? with
  |none=>exact .am
  |some f=>
   dsimp only;exact ae.bind' (nu h) λa b h=>ae.bind' (Ku hκ h f) λa b h=>.pure (.ptr h)
 |_=>exact .am
theorem zI(t:TypeId)(h:VR L κ v w)(hx:VR L τ.all x y):ae P G L C τ .own (VR L κ) (Instr.indexAt t v x) (Instr.indexAt t w y):=by
 unfold Instr.indexAt;refine ae.bind' (pF hx) ?_;rintro⟨k,i⟩ _ ⟨rfl,_⟩;dsimp only;refine ae.bind' (bP t) ?_;rintro d _ ⟨rfl,hd⟩;have fin:∀{base base':Option Addr} (len:Nat) (elem:TypeId),(∀a,base=some a->∃b,base'=some b/\AR κ a b)->(base=none->base'=none)->
   ae P G L C τ .own (VR L κ)
    (do
     let __do_lift ←underlying t
     match base with
      |some a=>
       if 0<=i/\i<(len:Int) then do pure (.pointer (some (a.add (i.toNat*(← sizeOf elem)))))
       else if (decide (len<=1)&&(match __do_lift with|.array .. =>true|_=>false))=true then unsupported (.noEntry "op/indexAddr.an index out of range at an array of length 0 or 1 (ledger 616)") else boundsPanic k i len .index
      |none=>boundsPanic k i 0 .index)
    (do
     let __do_lift ←underlying t
     match base' with
      |some a=>
       if 0<=i/\i<(len:Int) then do pure (.pointer (some (a.add (i.toNat*(← sizeOf elem)))))
       else if (decide (len<=1)&&(match __do_lift with|.array .. =>true|_=>false))=true then unsupported (.noEntry "op/indexAddr.an index out of range at an array of length 0 or 1 (ledger 616)") else boundsPanic k i len .index
      |none=>boundsPanic k i 0 .index):=by
  intro base base' len elem h1 h2;refine ae.bind' (bP t) ?_;rintro d _ ⟨rfl,hd⟩;cases base with
  |none=>exact .af _ (.boundsPanic _ _ _ _)
  |some a=>
   obtain⟨b,rfl,hab⟩:=h1 a rfl;dsimp only;split
   ·refine ae.bind' (dD elem) ?_;rintro n _ rfl;exact .pure (.ptr (hab.add _))
   ·exact .af _ (Bm (.unsupported _) (.boundsPanic _ _ _ _))
 cases d with
 |array len elem=>
  dsimp only;refine ae.bind' (nu h) λa b hab=>?_;exact fin (base:=some a) (base':=some b) len elem (λ_ e=>by cases e;exact⟨b,rfl,hab⟩) (λe=>by cases e)
 |slice elem=>
  cases h with
  |@slice a b n c hab=>exact fin (base:=some a) (base':=some b) n elem (λ_ e=>by cases e;exact⟨_,rfl,hab⟩) (λe=>by cases e)
  |fX n c=>exact fin (base:=none) (base':=none) n elem (λ_ e=>by cases e) (λ_=>rfl)
  |_=>exact .af _ (ai.bind' (.stuck _))
 |_=>exact .af _ (ai.bind' (.stuck _))
theorem OJ(h:VR L τ.all v w)(i:Nat):ae P G L C τ .own (VR L τ.all) (Instr.extract v i) (Instr.extract w i):=by
 cases h with
 |tuple xs hx=>
  unfold Instr.extract;dsimp only;rcases XR.get? (R:=VR L τ.all) ⟨xs,rfl,rfl,hx⟩ i with⟨h1,h2⟩|⟨x,y,h1,h2,h3⟩
  ·rw[h1];exact .am
  ·rw[h1,h2];exact .pure h3
 |_=>exact .am
theorem PW(t:TypeId)(h:VR L τ.all v w)(i:Nat):ae P G L C τ .own (VR L τ.all) (Instr.field t v i) (Instr.field t w i):=by
 unfold Instr.field;refine ae.bind' (bP t) ?_;rintro d _ ⟨rfl,_⟩;cases d with
 |struct fs=>
  dsimp only;cases hf:fs[i]? with
  |none=>exact .am
  |some f=>exact ae.bind' (MI h) λxs ys hx=>kH f.type hx f.offset
 |_=>exact .am
theorem JA(t:TypeId)(h:VR L τ.all v w)(hx:VR L τ.all x y):ae P G L C τ .own (VR L τ.all) (Instr.index t v x) (Instr.index t w y):=by
 unfold Instr.index;refine ae.bind' (pF hx) ?_;rintro⟨k,i⟩ _ ⟨rfl,_⟩;dsimp only;refine ae.bind' (bP t) ?_;rintro d _ ⟨rfl,hd⟩;cases d with
 |array len elem=>
  cases h with
  |agg xs hx=>
   dsimp only;split
   ·refine ae.bind' (dD elem) ?_;rintro n _ rfl;exact kH elem ⟨xs,rfl,rfl,hx⟩ _
   ·exact .af _ (.boundsPanic _ _ _ _)
  |_=>exact .am
 |string=>
  cases h with
  |string s=>
   dsimp only;split
   ·exact .pure (.int _ _)
   ·exact .af _ (.boundsPanic _ _ _ _)
  |_=>exact .am
 |_=>cases h<;>exact .am
theorem L7(t:TypeId)(h:VR L τ.all v w):ae P G L C τ .own (VR L τ.all) (Instr.makeInterface t v) (Instr.makeInterface t w):=by
 unfold Instr.makeInterface;refine ae.bind' (bP t) ?_;rintro d _ ⟨rfl,_⟩;cases d<;>first|exact .pure (.iface t h)|exact .am
theorem NT{f:FuncId}(hf:L.eA f){us vs:Array Value}(h:XR (VR L τ.all) xs ys)(k:XR (VR L τ.all) us vs):ae P G L C τ .own (VR L τ.all) (Instr.makeFunc (.func f) xs us) (Instr.makeFunc (.func f) ys vs):=by
 obtain⟨zs,rfl,rfl,hz⟩:=h;obtain⟨zs',rfl,rfl,hz'⟩:=k;exact .pure (.func zs zs' hf hz hz')
theorem O4(t:TypeId):ae P G L C τ .own (VR L τ.own) (Instr.makeMap t none) (Instr.makeMap t none):=by
 unfold Instr.makeMap;exact ae.bind' (pU (.map 0 .nil)) λr s hr=>.pure (.map hr)
theorem XR.range{f g:Nat->Value}(n:Nat)(h:∀i,i<n->VR L τ.all (f i) (g i)):XR (VR L τ.all) ((Array.range n).map f) ((Array.range n).map g):=by
 refine XR.rV (by simp) λi x y hx hy=>?_;simp only[Array.getElem?_map,Array.getElem?_range]at hx hy;split at hx<;>simp_all;subst hx;subst hy;exact h i (by assumption)
theorem XR.tQ(h:XR (VR L τ.all) xs ys)(i:Nat):VR L τ.all (xs[i]!) (ys[i]!):=by
 rcases h.get? i with⟨h1,h2⟩|⟨x,y,h1,h2,h3⟩
 ·simp only[getElem!_def,h1,h2];exact .bool false
 ·simpa[getElem!_def,h1,h2] using h3
theorem CL(E:Env P L τ)(t:TypeId)(h:VR L τ.all v w)(hx:VR L τ.all x y):ae P G L C τ .own (VR L τ.own) (Instr.makeSlice t v x) (Instr.makeSlice t w y):=by
 unfold Instr.makeSlice;refine ae.bind' (bP t) ?_;rintro d _ ⟨rfl,_⟩;cases d with
 |slice elem=>
  refine ae.bind' (oK h) ?_;rintro len _ rfl;refine ae.bind' (oK hx) ?_;rintro cap _ rfl;refine ae.bind' (hU elem) ?_;rintro i _ ⟨rfl,hi⟩;dsimp only;split
  ·refine .af _ ?_;split
   ·exact ai.bind' (.runtimePanic _)
   ·split
    ·exact ai.bind' (.runtimePanic _)
    ·exact ai.then (.choose _) λ_=>ai.bind' (.runtimePanic _)
  ·refine ae.bind' (rD _) λ_ _ _=>?_;refine ae.bind' (dD elem) ?_;rintro n _ rfl;split
   ·rename_i h0;refine ae.bind' (.pure (R:=λa b=>a=#[]/\b=#[]) ⟨rfl,rfl⟩) ?_;rintro _ _ ⟨rfl,rfl⟩;rw[h0];exact ae.bind' (lK elem (XR.range 0 λi hi=>absurd hi (Rh i))) λa b hab=>.pure (.slice _ _ hab)
   ·refine ae.bind' (kP E elem) λu v hv=>?_;refine ae.bind' (R:=XR (VR L τ.all)) (.pure hv.cells) ?_
    ·intro us vs huv;refine ae.bind' (lK elem ?_) λa b hab=>.pure (.slice _ _ hab);rw[huv.size];exact XR.range _ λi _=>huv.tQ _
 |_=>exact .am
end
end
section
section
variable {P:Program}{G:Array Func}{L:au}{C:FuncId->Code->Prop}{τ:ah}
theorem XR.A2(off:Nat):∀(l:List ((Value×Value)×Nat)) {cs ds:Array Value},(∀z∈l,VR L τ.all z.1.1 z.1.2)->XR (VR L τ.all) cs ds->
  XR (VR L τ.all) (l.foldl (λc z=>c.setIfInBounds (off+z.2) z.1.1) cs) (l.foldl (λc z=>c.setIfInBounds (off+z.2) z.1.2) ds)
 |[],_,_,_,h=>h
 |z::l,cs,ds,hz,h=>by
  simp only[List.foldl_cons];exact XR.A2 off l (λy hy=>hz y (by simp[hy])) (h.set (hz z (by simp)) _)
theorem XR.Qm{cs ds:Array Value}(off:Nat)(h:XR (VR L τ.all) xs ys)(k:XR (VR L τ.all) cs ds):
  XR (VR L τ.all) (xs.zipIdx.foldl (λc (x:Value×Nat)=>c.setIfInBounds (off+x.2) x.1) cs) (ys.zipIdx.foldl (λc (x:Value×Nat)=>c.setIfInBounds (off+x.2) x.1) ds):=by
 obtain⟨zs,rfl,rfl,hz⟩:=h;have e1:(zs.map (·.1)).zipIdx.foldl (λc (x:Value×Nat)=>c.setIfInBounds (off+x.2) x.1) cs=zs.zipIdx.toList.foldl (λc z=>c.setIfInBounds (off+z.2) z.1.1) cs:=by
  rw[Array.zipIdx_map,Array.foldl_map,<-Array.foldl_toList];rfl
 have e2:(zs.map (·.2)).zipIdx.foldl (λc (x:Value×Nat)=>c.setIfInBounds (off+x.2) x.1) ds=zs.zipIdx.toList.foldl (λc z=>c.setIfInBounds (off+z.2) z.1.2) ds:=by
  rw[Array.zipIdx_map,Array.foldl_map,<-Array.foldl_toList];rfl
 rw[e1,e2];refine XR.A2 off _ (λz hm=>?_) k;have hm':(z.1,z.2)∈zs.zipIdx:=Array.mem_toList_iff.1 hm;obtain⟨_,_,e⟩:=Array.mem_zipIdx hm';exact hz _ (by rw[e];exact Array.getElem_mem _)
def PR(L:au)(π:Nat->Nat->Prop)(x y:Nat×Value):Prop:=y.1=x.1/\VR L π x.2 y.2
theorem XR.fill(place:Nat->Option (Nat×Nat)):∀(l:List ((Nat×Value)×(Nat×Value))) {cs ds:Array Value},(∀z∈l,PR L τ.all z.1 z.2)->XR (VR L τ.all) cs ds->
  (Instr.fill place cs (l.map (·.1))=none)\/∃cs' ds',Instr.fill place cs (l.map (·.1))=some cs'/\Instr.fill place ds (l.map (·.2))=some ds'/\XR (VR L τ.all) cs' ds'
 |[],cs,ds,_,h=>.inr ⟨cs,ds,rfl,rfl,h⟩
 |((i,v),(j,w))::l,cs,ds,hz,h=>by
  obtain⟨hij,hv⟩:=hz ((i,v),(j,w)) (by simp);simp only at hij hv;subst hij;simp only[QU,Instr.fill];cases place j with
  |none=>exact .inl rfl
  |some p=>
   obtain⟨off,size⟩:=p;have hc:=hv.cells;simp only[hc.size,h.size];by_cases hcond:(decide (v.cells.size≠size)||decide (off+v.cells.size > cs.size))=true
   ·simp only[hcond,QD];exact .inl trivial
   ·simp only[hcond,QF,QC];exact XR.fill place l (λy hy=>hz y (by simp[hy])) (hc.Qm off h)
theorem zL{R:α->β->Prop}{S:γ->δ->Prop}{f:α->Sem γ}{g:β->Sem δ}(hf:∀a b,R a b->ae P G L C τ .own S (f a) (g b)):∀(l:List (α×β)),(∀z∈l,R z.1 z.2)->
  ae P G L C τ .own (λxs ys=>∃l':List (γ×δ),xs=l'.map (·.1)/\ys=l'.map (·.2)/\∀z∈l',S z.1 z.2) ((l.map (·.1)).mapM f) ((l.map (·.2)).mapM g)
 |[],_=>by
  simp only[List.map_nil,List.mapM_nil];exact .pure ⟨[],rfl,rfl,by simp⟩
 |z::l,hz=>by
  simp only[QU,List.mapM_cons];refine ae.bind' (hf _ _ (hz z (by simp))) λx y hxy=>?_;refine ae.bind' (zL hf l λy hy=>hz y (by simp[hy])) ?_;rintro _ _ ⟨l',rfl,rfl,hl⟩;exact .pure ⟨(x,y)::l',rfl,rfl,by simp;exact⟨hxy,λa b h=>hl _ h⟩⟩
theorem yj{R:α->β->Prop}{S:γ->δ->Prop}{f:α->Sem γ}{g:β->Sem δ}(hf:∀a b,R a b->ae P G L C τ .own S (f a) (g b)){xs:Array α}{ys:Array β}(h:XR R xs ys):
  ae P G L C τ .own (XR S) (xs.mapM f) (ys.mapM g):=by
 obtain⟨l,h1,h2,h3⟩:=h.list;rw[<-Array.toArray_toList (xs:=xs),<-Array.toArray_toList (xs:=ys),h1,h2,List.mapM_toArray,List.mapM_toArray];refine ae.bind' (p:=(l.map (·.1)).mapM f) (q:=(l.map (·.2)).mapM g) (zL hf l h3) ?_;rintro _ _ ⟨l',rfl,rfl,hl⟩;exact .pure ⟨l'.toArray,by simp,by simp,by simpa using λa b h=>hl _ h⟩
theorem Hl(E:Env P L τ)(t:TypeId){xs ys:Array (Nat×Value)}(h:XR (PR L τ.all) xs ys):ae P G L C τ .own (VR L τ.all) (Instr.build t xs) (Instr.build t ys):=by
 unfold Instr.build;refine ae.bind' (kP E t) λu v hv=>?_;refine ae.bind' (bP t) ?_;rintro d _ ⟨rfl,_⟩;obtain⟨l,h1,h2,h3⟩:=h.list;cases d with
 |struct fs=>
  refine ae.bind' (yj (R:=bS) (S:=bS) (xs:=fs) (ys:=fs) ?_ (XR.self fs λ_ _=>rfl)) ?_
  ·rintro f _ rfl;refine ae.bind' (dD f.type) ?_;rintro n _ rfl;exact .pure rfl
  ·intro ps qs hpq;have e:ps=qs:=by
    obtain⟨zs,rfl,rfl,hz⟩:=hpq;refine Array.map_congr_left λz hz'=>hz z hz'
   subst e;rw[h1,h2];rcases XR.fill (λi=>ps[i]?) l h3 hv.cells with e|⟨cs,ds,e1,e2,hcd⟩
   ·simp only[e];exact .am
   ·simp only[e1,e2];exact .pure (.ofRow hcd)
 |array n elem=>
  refine ae.bind' (dD elem) ?_;rintro n _ rfl;rw[h1,h2];try dsimp only
  rcases XR.fill (λi=>some (i*n,n)) l h3 hv.cells with e|⟨cs,ds,e1,e2,hcd⟩
  ·simp only[e];exact .am
  ·simp only[e1,e2];exact .pure (.ofRow hcd)
 |_=>exact .am
theorem M7(E:Env P L τ)(t:TypeId)(len:Nat){xs ys:Array (Nat×Value)}(h:XR (PR L τ.all) xs ys):ae P G L C τ .own (VR L τ.own) (Instr.buildSlice t len xs) (Instr.buildSlice t len ys):=by
 unfold Instr.buildSlice;refine ae.bind' (bP t) ?_;rintro d _ ⟨rfl,_⟩;obtain⟨l,h1,h2,h3⟩:=h.list;cases d with
 |slice elem=>
  refine ae.bind' (dD elem) ?_;rintro n _ rfl;rw[h1,h2];try dsimp only
  split
  ·exact .af _ (ai.bind' (.unsupported _))
  ·split
   ·rename_i h0;refine ae.bind' (.pure (R:=λa b=>a=#[]/\b=#[]) ⟨rfl,rfl⟩) ?_;rintro _ _ ⟨rfl,rfl⟩;rw[h0];rcases XR.fill (λi=>some (i*n,n)) l h3 (cs:=(Array.range 0).map λi=>(#[]:Array Value)[i%(#[]:Array Value).size]!) (ds:=(Array.range 0).map λi=>(#[]:Array Value)[i%(#[]:Array Value).size]!) (XR.range 0 λi hi=>absurd hi (Rh i)) with e|⟨cs,ds,e1,e2,hcd⟩
    ·simp only[e];exact .am
    ·simp only[e1,e2];exact ae.bind' (lK elem hcd) λa b hab=>.pure (.slice _ _ hab)
   ·refine ae.bind' (kP E elem) λu v hv=>?_;refine ae.bind' (R:=XR (VR L τ.all)) (.pure hv.cells) λus vs huv=>?_;try dsimp only
    rw[huv.size];rcases XR.fill (λi=>some (i*n,n)) l h3 (XR.range (f:=λi=>us[i%us.size]!) (g:=λi=>vs[i%us.size]!) (len*n) λi _=>huv.tQ _) with e|⟨cs,ds,e1,e2,hcd⟩
    ·simp only[e];exact .am
    ·simp only[e1,e2];exact ae.bind' (lK elem hcd) λa b hab=>.pure (.slice _ _ hab)
 |_=>exact .am
theorem DE(h:VR L τ.all v w)(y:Nat)(c:BoundsCode):ae P G L C τ .own bS (Instr.sliceBound v y c) (Instr.sliceBound w y c):=by
 unfold Instr.sliceBound;refine ae.bind' (pF h) ?_;rintro⟨k,i⟩ _ ⟨rfl,_⟩;try dsimp only
 split
 ·exact .pure rfl
 ·exact .af _ (.boundsPanic _ _ _ _)
inductive QR (L:au) (π:Nat->Nat->Prop):Option Value->Option Value->Prop
 |none:QR L π none none
 |some {v w:Value}:VR L π v w->QR L π (some v) (some w)
theorem nM(b:Bool)(len cap:Nat){m:Option Value}(hl:QR L τ.all l l')(hh:QR L τ.all h h')(hm:QR L τ.all m m'):ae P G L C τ .own bS (Instr.sliceBounds b len cap l h m) (Instr.sliceBounds b len cap l' h' m'):=by
 have st:∀{v w:Value} (_:VR L τ.all v w) (y:Nat) (c:BoundsCode) {k l:Nat->Sem (Nat×Nat×Nat)},(∀n,ae P G L C τ .own bS (k n) (l n))->ae P G L C τ .own bS (Instr.sliceBound v y c >>=k) (Instr.sliceBound w y c >>=l):=by
  intro v w hv y c k l hk;refine ae.bind' (DE hv y c) ?_;rintro n _ rfl;exact hk n
 unfold Instr.sliceBounds;cases hm with
 |none=>
  cases hh with
  |none=>
   cases hl with
   |none=>exact .pure rfl
   |some hv=>exact st hv _ _ λn=>.pure rfl
  |some hu=>
   cases hl with
   |none=>exact st hu _ _ λn=>.pure rfl
   |some hv=>
    refine st hu _ _ λn=>?_;refine st hv _ _ λn=>?_;exact .pure rfl
 |some hx=>
  cases hh with
  |none=>exact .af _ (ai.then (.sliceBound _ _ _) λ_=>ai.bind' (.stuck _))
  |some hu=>
   cases hl with
   |none=>
    refine st hx _ _ λn=>?_;refine st hu _ _ λn=>?_;exact .pure rfl
   |some hv=>
    refine st hx _ _ λn=>?_;refine st hu _ _ λn=>?_;refine st hv _ _ λn=>?_;exact .pure rfl
theorem Mw(h:VR L κ v w):ae P G L C τ .own (AR κ) (asAddr v) (asAddr w):=by
 cases h with
 |ptr h=>exact .pure h
 |bc=>exact .af _ (show ai (gp P G) (runtimePanic .nilDeref:Sem Addr) from .runtimePanic _)
 |_=>exact .am
theorem I6(t:TypeId)(hv:VR L κ v w){m:Option Value}(hl:QR L τ.all l l')(hh:QR L τ.all h h')(hm:QR L τ.all m m'):ae P G L C τ .own (VR L κ) (Instr.slice t v l h m) (Instr.slice t w l' h' m'):=by
 unfold Instr.slice;refine ae.bind' (bP t) ?_;rintro d _ ⟨rfl,_⟩;cases d with
 |string=>
  cases hv with
  |string s=>
   have em:m'.isSome=m.isSome:=by cases hm<;>rfl
   try dsimp only
   rw[em];split
   ·exact .af _ (ai.bind' (.stuck _))
   ·refine ae.bind' (nM false s.size s.size hl hh .none) ?_;rintro⟨x,y,z⟩ _ rfl;exact .pure (.string _)
  |_=>exact .am
 |slice elem=>
  cases hv with
  |fX n c=>
   refine ae.bind' (nM true n c hl hh hm) ?_;rintro⟨x,y,z⟩ _ rfl;refine ae.bind' (dD elem) ?_;rintro k _ rfl;refine .pure ?_;try dsimp only
   split<;>exact .fX _ _
  |slice n c hab=>
   refine ae.bind' (nM true n c hl hh hm) ?_;rintro⟨x,y,z⟩ _ rfl;refine ae.bind' (dD elem) ?_;rintro k _ rfl;refine .pure ?_;try dsimp only
   split
   ·exact .slice _ _ hab
   ·exact .slice _ _ (hab.add _)
  |_=>exact .am
 |pointer arr=>
  try dsimp only
  refine ae.bind' (Mw hv) λa b hab=>?_;refine ae.bind' (bP arr) ?_;rintro d _ ⟨rfl,_⟩;cases d with
  |array n elem=>
   refine ae.bind' (nM false n n hl hh hm) ?_;rintro⟨x,y,z⟩ _ rfl;refine ae.bind' (dD elem) ?_;rintro k _ rfl;refine .pure ?_;try dsimp only
   split
   ·exact .slice _ _ hab
   ·exact .slice _ _ (hab.add _)
  |_=>exact .am
 |_=>cases hv<;>exact .am
theorem yP(t:TypeId)(hv:VR L κ v w){m:Option Value}(hl:QR L τ.all l l')(hh:QR L τ.all h h')(hm:QR L τ.all m m'):ae P G L C τ .own (VR L κ) (Instr.sliceAt t v l h m) (Instr.sliceAt t w l' h' m'):=by
 unfold Instr.sliceAt;refine ae.bind' (bP t) ?_;rintro d _ ⟨rfl,_⟩;cases d with
 |array n elem=>
  refine ae.bind' (nu hv) λa b hab=>?_;refine ae.bind' (nM false n n hl hh hm) ?_;rintro⟨x,y,z⟩ _ rfl;refine ae.bind' (dD elem) ?_;rintro k _ rfl;refine .pure ?_;try dsimp only
  split
  ·exact .slice _ _ hab
  ·exact .slice _ _ (hab.add _)
 |_=>exact I6 t hv hl hh hm
end
end
section
section
variable {P:Program}{G:Array Func}{L:au}{C:FuncId->Code->Prop}{τ:ah}
def pQ(S:σ->ω->Prop)(x:ForInStep σ)(y:ForInStep ω):Prop:=(∃s t,x=.done s/\y=.done t/\S s t)\/(∃s t,x=.yield s/\y=.yield t/\S s t)
theorem pQ.same(x:ForInStep σ):pQ bS x x:=by
 cases x with
 |done s=>exact .inl ⟨s,s,rfl,rfl,rfl⟩
 |yield s=>exact .inr ⟨s,s,rfl,rfl,rfl⟩
theorem B2(xs:Array α){f g:α->σ->Sem (ForInStep σ)}(hf:∀a s,a∈xs->ae P G L C τ .own (pQ bS) (f a s) (g a s))(s:σ):ae P G L C τ .own bS (forIn xs s f) (forIn xs s g):=by
 rw[<-Array.forIn_toList,<-Array.forIn_toList]
 have:=pK (P:=P) (G:=G) (L:=L) (C:=C) (τ:=τ) (R:=λa b=>a=b/\a∈xs) (S:=bS) (f:=f) (g:=g) (by rintro a _ ⟨rfl,ha⟩ s _ rfl;exact hf a s ha) (xs.toList.map λx=>(x,x)) (by simp) s s rfl;simpa[Rl] using this
theorem AA(n:Nat){f g:Nat->σ->Sem (ForInStep σ)}(hf:∀a s,ae P G L C τ .own (pQ bS) (f a s) (g a s))(s:σ):ae P G L C τ .own bS (forIn [0:n] s f) (forIn [0:n] s g):=by
 rw[Std.Legacy.Range.forIn_eq_forIn_range',Std.Legacy.Range.forIn_eq_forIn_range']
 have:=pK (P:=P) (G:=G) (L:=L) (C:=C) (τ:=τ) (R:=bS) (S:=bS) (f:=f) (g:=g) (by rintro a _ rfl s _ rfl;exact hf a s) ((List.range' 0 n 1).map λx=>(x,x)) (by simp) s s rfl;simpa[Rl,Std.Legacy.Range.size] using this
theorem OY{f:TypeInfo->Sem α}(h:∀i,P.info? t=some i->ai (gp P G) (f i)):ai (gp P G) (typeInfo t >>=f):=λw es=>by
 cases hi:P.info? t with
 |none=>
  refine⟨.stuck "no such type",w,es,?_,trivial,.refl w⟩;show ((match P.info? t with|some i=>Sem.pure i|none=>(stuck "no such type" :Sem TypeInfo)).bind f).runT (gp P G) w es=_;rw[hi];rfl
 |some i=>
  obtain⟨x,y,z,e,ht,hk⟩:=h i hi w es;refine⟨x,y,z,?_,ht,hk⟩;rw[<-e];show ((match P.info? t with|some i=>Sem.pure i|none=>(stuck "no such type" :Sem TypeInfo)).bind f).runT (gp P G) w es=_;rw[hi];rfl
def eR(P:Program):Nat->TypeId->Bool
 |0,_=>false
 |m+1,t=>match P.underlying t with
  |some .bool|some (.int _)|some .string|some (.pointer _)=>true
  |some (.struct fs)=>fs.all λf=>eR P m f.type
  |some (.array _ e)=>eR P m e
  |_=>false
theorem qX(E:Env P L τ):∀(n m:Nat) (t:TypeId) {x y u v:Value},eR P m t=true->VR L τ.all x u->VR L τ.all y v->ae P G L C τ .own bS (Op.equalIn n t x y) (Op.equalIn n t u v)
 |0,_,_,_,_,_,_,_,_,_=>.am
 |n+1,0,_,_,_,_,_,hok,_,_=>by cases hok
 |n+1,m+1,t,x,y,u,v,hok,hx,hy=>by
  unfold Op.equalIn;refine ae.bind' (bP t) ?_;rintro d _ ⟨rfl,hd⟩;simp only[eR,hd]at hok;cases d with
  |bool=>
   cases hx with
   |bool a=>cases hy<;>first|exact .pure rfl|exact .am
   |_=>first|exact .am|(cases hy<;>exact .am)
  |string=>
   cases hx with
   |string a=>cases hy<;>first|exact .pure rfl|exact .am
   |_=>first|exact .am|(cases hy<;>exact .am)
  |int kk=>
   cases hx with
   |int k a=>
    cases hy with
    |int k' b=>
     try dsimp only
     split
     ·exact .pure rfl
     ·exact .am
    |ptr h=>
     by_cases ha:a=0
     ·subst ha;exact .pure rfl
     ·refine .af _ ?_;split<;>first|exact ai.unsupported _|exact ai.stuck _|(exfalso;simp_all;done)
    |_=>first|exact .am|exact .am
   |ptr h=>
    cases hy with
    |int k' b=>
     by_cases ha:b=0
     ·subst ha;exact .pure rfl
     ·refine .af _ ?_;split<;>first|exact ai.unsupported _|exact ai.stuck _|(exfalso;simp_all;done)
    |ptr k=>
     try dsimp only
     refine ae.bind' (fu h) ?_;rintro⟨a,l⟩ ⟨b,l'⟩ ⟨hab,_⟩;refine ae.bind' (fu k) ?_;rintro⟨c,m⟩ ⟨d,m'⟩ ⟨hcd,_⟩;refine jT ?_;try dsimp only
     rw[Bp];by_cases hlo:(a.block==c.block&&decide (a.block<P.globals.size))=true
     ·have hlo':(b.block==d.block&&decide (b.block<P.globals.size))=true:=by
       simp only[No,Rw,QS]at hlo ⊢;obtain⟨hbc,hlt⟩:=hlo;exact⟨E.bi.fn _ _ _ (.inl hab.1) (.inl (hbc▸hcd.1)),(E.high _ _ hab.1).1 hlt⟩
      rw[IN hlo,IN hlo'];refine ae.bind' (lA hab) ?_;rintro x _ rfl;refine ae.bind' (lA hcd) ?_;rintro y _ rfl;exact .pure rfl
     refine .af _ ?_;rw[By hlo];refine OY λi hi=>?_;split
     ·rename_i heq;exact absurd rfl (E.sO _ _ _ _ hi heq)
     ·exact .unsupported _
    |_=>first|exact .am|exact .am
   |_=>cases hy<;>first|exact .am|exact .am
  |unsafePointer=>cases hok
  |pointer elem=>
   cases hx with
   |bc=>cases hy<;>first|exact .pure rfl|exact .am
   |ptr h=>
    cases hy with
    |bc=>exact .pure rfl
    |ptr k=>
     try dsimp only
     refine ae.bind' (dD elem) ?_;rintro m _ rfl;rw[<-h.eq_iff E.bi.Bv k];split
     ·exact De E.bi.Bv h k
     ·split
      ·exact .pure rfl
      ·refine ae.bind' (pg _) ?_;rintro m _ rfl;exact .pure rfl
    |_=>exact .am
   |_=>first|exact .am|(cases hy<;>exact .am)
  |interface ms=>cases hok
  |struct fs=>
   cases hx with
   |agg xs hxs=>
    cases hy with
    |agg ys hys=>
     try dsimp only
     refine jT ?_;rw[uH];split
     ·exact .af _ (ai.bind' (.unsupported _))
     ·refine ae.bind' (B2 fs (λf s hmem=>?_) _) ?_
      ·split
       ·have hf:eR P m f.type=true:=Array.all_eq_true'.1 hok f hmem;refine ae.bind' (kH f.type ⟨xs,rfl,rfl,hxs⟩ _) λa b hab=>?_;refine ae.bind' (kH f.type ⟨ys,rfl,rfl,hys⟩ _) λc d hcd=>?_;refine ae.bind' (qX E n m f.type hf hab hcd) ?_;rintro r _ rfl;try dsimp only
        split<;>exact .pure (.same _)
       ·exact .pure (.same _)
      ·rintro r _ rfl;try dsimp only
       split<;>exact .pure rfl
    |_=>exact .am
   |_=>first|exact .am|(cases hy<;>exact .am)
  |array len elem=>
   cases hx with
   |agg xs hxs=>
    cases hy with
    |agg ys hys=>
     try dsimp only
     refine ae.bind' (dD elem) ?_;rintro sz _ rfl;refine ae.bind' (AA len (λi s=>?_) _) ?_
     ·refine ae.bind' (kH elem ⟨xs,rfl,rfl,hxs⟩ _) λa b hab=>?_;refine ae.bind' (kH elem ⟨ys,rfl,rfl,hys⟩ _) λc d hcd=>?_;refine ae.bind' (qX E n m elem hok hab hcd) ?_;rintro r _ rfl;try dsimp only
      split<;>exact .pure (.same _)
     ·rintro r _ rfl;try dsimp only
      split<;>exact .pure rfl
    |_=>exact .am
   |_=>first|exact .am|(cases hy<;>exact .am)
  |_=>cases hok
theorem sw(E:Env P L τ)(hok:eR P m t=true)(hx:VR L τ.all x u)(hy:VR L τ.all y v):ae P G L C τ .own bS (Op.equal t x y) (Op.equal t u v):=qX E _ m t hok hx hy
end
end
section
section
variable {P:Program}{G:Array Func}{L:au}{C:FuncId->Code->Prop}{τ:ah}
theorem oe(b:Bool):∀(n:Nat) (t:TypeId) {x u:Value},VR L τ.all x u->ae P G L C τ .own (λ_ _=>True) (Instr.checkKey b n t x) (Instr.checkKey b n t u)
 |0,_,_,_,_=>.am
 |n+1,t,x,u,hx=>by
  unfold Instr.checkKey;refine ae.bind' (bP t) ?_;rintro d _ ⟨rfl,_⟩;cases d with
  |interface ms=>
   cases hx with
   |iface tx h=>
    try dsimp only
    refine ae.bind' (hU tx) ?_;rintro i _ ⟨rfl,_⟩;try dsimp only
    split
    ·refine .af _ ?_;split
     ·exact ai.bind' (.runtimePanic _)
     ·exact ai.then (.typeStr _) λ_=>ai.bind' (.runtimePanic _)
    ·exact oe b n tx h
   |nilIface=>exact .pure trivial
   |_=>exact .am
  |array len elem=>
   cases hx with
   |agg xs hxs=>
    try dsimp only
    refine ae.bind' (AA len (λi s=>?_) _) λ_ _ _=>.pure trivial;refine ae.bind' (dD elem) ?_;rintro m _ rfl;refine ae.bind' (kH elem ⟨xs,rfl,rfl,hxs⟩ _) λa b hab=>?_;exact ae.bind' (oe _ n elem hab) λ_ _ _=>.pure (.same _)
   |_=>exact .am
  |struct fs=>
   cases hx with
   |agg xs hxs=>
    try dsimp only
    refine ae.bind' (B2 fs (λf s _=>?_) _) λ_ _ _=>.pure trivial;split
    ·refine ae.bind' (kH f.type ⟨xs,rfl,rfl,hxs⟩ _) λa b hab=>?_;exact ae.bind' (oe _ n f.type hab) λ_ _ _=>.pure (.same _)
    ·exact .pure (.same _)
   |_=>exact .am
  |_=>exact .pure trivial
def FR(L:au)(π:Nat->Nat->Prop)(_:Nat):Option (Nat×Value)->Option (Nat×Value)->Prop
 |none,none=>True
 |some (i,v),some (j,w)=>j=i/\VR L π v w
 |_,_=>False
theorem BU(E:Env P L τ)(hok:eR P m t=true)(hx:VR L τ.all x u):∀(l:List (MapEntry×MapEntry)) (i:Nat),(∀z∈l,ER L τ.all z.1 z.2)->
  ae P G L C τ .own (FR L τ.all 0) (Instr.findAsking t x (l.map (·.1)) i) (Instr.findAsking t u (l.map (·.2)) i)
 |[],_,_=>.pure trivial
 |z::l,i,hz=>by
  simp only[QU,Instr.findAsking];refine ae.bind' (sw E hok hx (hz z (by simp)).1) ?_;rintro r _ rfl;try dsimp only
  split
  ·exact .pure ⟨rfl,(hz z (by simp)).2.1⟩
  ·exact BU E hok hx l (i+1) λy hy=>hz y (by simp[hy])
theorem JM{d:TypeDesc}(hd:P.underlying t=some d)(hx:VR L τ.all x u)(hy:VR L τ.all y v){b:Bool}(h:Instr.sameNow d u v=some b){R:α->β->Prop}{k:Bool->Sem α}{q:Sem β}(hk:ae P G L C τ .own R (k b) q):ae P G L C τ .own R (Op.equal t x y >>=k) q:=by
 have go:∀{f:TypeDesc->Sem Bool},(Op.equalIn 10000 t x y=underlying t >>=f)->(ai (gp P G) (f d)\/f d=pure b)->ae P G L C τ .own R (Op.equal t x y >>=k) q:=by
  intro f hf hor;show ae P G L C τ .own R (Op.equalIn 10000 t x y >>=k) q;rw[hf];refine .l5 ?_;show ae P G L C τ .own R ((((match P.underlying t with|some d=>Sem.pure d|none=>(stuck "no such type" :Sem TypeDesc)).bind f)).bind k) q;rw[hd];rcases hor with hdm|he
  ·exact .af _ (ai.bind hdm)
  ·show ae P G L C τ .own R ((f d).bind k) q;rw[he];exact hk
 refine go (f:=λd=>_) (by unfold Op.equalIn;rfl) ?_;cases d with
 |int kk=>
  cases hx with
  |int k a=>
   cases hy with
   |int k' a'=>
    simp only[Instr.sameNow]at h;split at h
    ·rename_i e;subst e;cases h;exact .inr (by simp)
    ·cases h
   |aW=>exact .inl (.stuck _)
   |_=>cases h
  |aW=>cases hy<;>first|exact .inl (.stuck _)|exact .inl (.unsupported _)
  |_=>cases hy<;>first|(cases h;done)|(simp[Instr.sameNow]at h;done)
 |string=>
  cases hx with
  |string a=>
   cases hy with
   |string a'=>cases h;exact .inr rfl
   |aW=>exact .inl (.stuck _)
   |_=>cases h
  |aW=>exact .inl (.stuck _)
  |_=>cases hy<;>first|(cases h;done)|(simp[Instr.sameNow]at h;done)
 |bool=>
  cases hx with
  |bool a=>
   cases hy with
   |bool a'=>cases h;exact .inr rfl
   |aW=>exact .inl (.stuck _)
   |_=>cases h
  |aW=>exact .inl (.stuck _)
  |_=>cases hy<;>first|(cases h;done)|(simp[Instr.sameNow]at h;done)
 |_=>cases u<;>cases v<;>cases h
theorem E7(d:TypeDesc)(hx:VR L τ.all x u)(hy:VR L τ.all y v):Instr.sameNow d x y=none\/Instr.sameNow d u v=Instr.sameNow d x y:=by
 cases d with
 |int k=>
  cases hx with
  |int=>cases hy with
   |int=>exact .inr rfl
   |_=>exact .inl rfl
  |_=>exact .inl rfl
 |string=>
  cases hx with
  |string=>cases hy with
   |string=>exact .inr rfl
   |_=>exact .inl rfl
  |_=>exact .inl rfl
 |bool=>
  cases hx with
  |bool=>cases hy with
   |bool=>exact .inr rfl
   |_=>exact .inl rfl
  |_=>exact .inl rfl
 |_=>exact .inl rfl
theorem uE(d:TypeDesc)(hx:VR L τ.all x u):∀(l:List (MapEntry×MapEntry)) (i:Nat),(∀z∈l,ER L τ.all z.1 z.2)->
  Instr.findNow d x (l.map (·.1)) i=none\/∃a b,Instr.findNow d x (l.map (·.1)) i=some a/\Instr.findNow d u (l.map (·.2)) i=some b/\FR L τ.all 0 a b
 |[],_,_=>.inr ⟨none,none,rfl,rfl,trivial⟩
 |z::l,i,hz=>by
  simp only[QU,Instr.findNow];rcases E7 d hx (hz z (by simp)).1 with e|e
  ·rw[e];exact .inl rfl
  ·rw[e];cases Instr.sameNow d x z.1.key with
   |none=>exact .inl rfl
   |some b=>
    cases b with
    |true=>exact .inr ⟨_,_,rfl,rfl,rfl,(hz z (by simp)).2.1⟩
    |false=>exact uE d hx l (i+1) λy hy=>hz y (by simp[hy])
theorem A1{d:TypeDesc}(hd:P.underlying t=some d)(hx:VR L τ.all x u):∀(l:List (MapEntry×MapEntry)) (i:Nat),(∀z∈l,ER L τ.all z.1 z.2)->∀r,Instr.findNow d u (l.map (·.2)) i=some r->
  ae P G L C τ .own (FR L τ.all 0) (Instr.findAsking t x (l.map (·.1)) i) (pure r)
 |[],_,_,r,hr=>by
  simp only[List.map_nil,Instr.findNow,QA]at hr;subst hr;exact .pure trivial
 |z::l,i,hz,r,hr=>by
  have h0:=hz z (by simp);simp only[QU,Instr.findNow]at hr;cases e:Instr.sameNow d u z.2.key with
  |none=>rw[e]at hr;cases hr
  |some b=>
   rw[e]at hr;simp only[QU,Instr.findAsking];refine JM hd hx h0.1 e ?_;cases b with
   |true=>
    simp only[QA]at hr;subst hr;exact .pure ⟨rfl,h0.2.1⟩
   |false=>exact A1 hd hx l (i+1) (λy hy=>hz y (by simp[hy])) r hr
theorem Jz(E:Env P L τ)(hok:eR P m t=true)(hx:VR L τ.all x u){es fs:Array MapEntry}(h:XR (ER L τ.all) es fs):ae P G L C τ .own (FR L τ.all 0) (Instr.findKey t x es.toList) (Instr.findKey t u fs.toList):=by
 obtain⟨l,h1,h2,h3⟩:=h.list;rw[h1,h2];unfold Instr.findKey;refine ae.bind' (bP t) ?_;rintro d _ ⟨rfl,hd⟩;try dsimp only
 rcases uE d hx l 0 h3 with e|⟨a,b,e1,e2,hab⟩
 ·rw[e];cases e':Instr.findNow d u (l.map (·.2)) 0 with
  |none=>exact BU E hok hx l 0 h3
  |some r=>exact A1 hd hx l 0 h3 r e'
 ·rw[e1,e2];exact .pure hab
theorem Hn(E:Env P L τ)(hok:∀k e,P.underlying t=some (.map k e)->eR P m k=true)(h:VR L τ.all v w)(hx:VR L τ.all x y)(ok:Bool):ae P G L C τ .own (VR L τ.all) (Instr.lookup t v x ok) (Instr.lookup t w y ok):=by
 have rest:∀(key elem:TypeId) {es fs:Array MapEntry},eR P m key=true->XR (ER L τ.all) es fs->ae P G L C τ .own (VR L τ.all)
   (do
    Instr.checkKey es.isEmpty 10000 key x
    let (v,k) ←match ←Instr.findKey key x es.toList with
     |some (_,v)=>pure (v,true)
     |none=>do pure (← zeroValue elem,false)
    pure (if ok then .tuple #[v,.bool k] else v))
   (do
    Instr.checkKey fs.isEmpty 10000 key y
    let (v,k) ←match ←Instr.findKey key y fs.toList with
     |some (_,v)=>pure (v,true)
     |none=>do pure (← zeroValue elem,false)
    pure (if ok then .tuple #[v,.bool k] else v)):=by
  intro key elem es fs hk hes;rw[hes.isEmpty];refine ae.bind' (oe _ _ key hx) λ_ _ _=>?_;refine ae.bind' (Jz E hk hx hes) λa b hab=>?_;match a,b,hab with
  |none,none,_=>
   refine ae.bind' (kP E elem) λu v huv=>?_;refine .pure ?_;try dsimp only
   split
   ·exact .pair huv (.bool _)
   ·exact huv
  |some (i,u),some (j,v),⟨_,huv⟩=>
   refine .pure ?_;try dsimp only
   split
   ·exact .pair huv (.bool _)
   ·exact huv
 unfold Instr.lookup;refine ae.bind' (bP t) ?_;rintro d _ ⟨rfl,hd⟩;cases d with
 |map key elem=>
  have hk:=hok key elem hd;cases h with
  |iV=>exact rest key elem hk .nil
  |map hrs=>
   refine ae.bind' (jf hrs) λo q ho=>?_;cases ho with
   |map c hes=>exact rest key elem hk hes
   |_=>exact .af _ (ai.bind' (.stuck _))
  |_=>exact .af _ (ai.bind' (.stuck _))
 |_=>exact .am
end
end
end Go.Proofs.YtldmcdeibiclkaaGreat.U
