/-
  Toward converged_holds: THE MODEL's LIBRARY, SIDE BY SIDE: loads, stores, rows, types.
-/
import Derived.Test.YtldmcdeibiclkaaGreatDoorC01
set_option linter.unusedVariables false
set_option linter.unusedSimpArgs false
set_option maxRecDepth 100000
set_option maxHeartbeats 20000000
namespace Go.Proofs.YtldmcdeibiclkaaGreatDoor.U
variable {v w x y u:Value}{a b d:Addr}{α β σ ω γ δ:Type}{xs ys:Array Value}{κ:Nat->Nat->Prop}{t:TypeId}{r s m:Nat}{l h l' h' m':Option Value}{o q:Obj}
section
structure Env(P:Program)(L:ax)(τ:ai):Prop where
 bi:Fit τ
 high:∀r s,τ.all r s->(r<P.globals.size↔s<P.globals.size)
 yu:∀t i n u,P.info? t=some i->i.desc=.named n u->n≠ "sync.copyChecker"
 zero:∀t i v,P.info? t=some i->i.zero=some v->∀π,VR L π v v
section
variable {P:Program}{G:Array Func}{L:ax}{C:FuncId->Code->Prop}{τ:ai}
abbrev cQ:α->α->Prop:=λa b=>a=b
theorem xQ(h:AR τ.all a b):ae P G L C τ .own (VR L τ.all) (load a) (load b):=.load h λ_ _ hv=>.pure hv
theorem Rj(h:AR τ.own a b)(hv:VR L τ.all v w):ae P G L C τ .own (λ_ _=>True) (store a v) (store b w):=.store h hv (.pure trivial)
theorem tA(h:OR L τ o q):ae P G L C τ .own τ.own (newObj o) (newObj q):=.new rfl h λ_ _ hr=>.pure hr
theorem mF(h:τ.all r s):ae P G L C τ .own cQ (shape r) (shape s):=.shape h λ_=>.pure rfl
theorem Rm(h:AR τ.own a b)(n:Nat):ae P G L C τ .own (λ_ _=>True) (freeze a n) (freeze b n):=.freeze n h (.pure trivial)
theorem pg(h:AR τ.all a b):ae P G L C τ .own cQ (frozen a) (frozen b):=.frozen h λ_=>.pure rfl
theorem lk(h:τ.all r s):ae P G L C τ .own (OR L τ) (getObj r) (getObj s):=.getObj h λ_ _ ho=>.pure ho
theorem ya(h:τ.own r s)(ho:OR L τ o q)(hn:AP o):ae P G L C τ .own (λ_ _=>True) (setObj r o) (setObj s q):=.setObj h ho hn (.pure trivial)
theorem qM(q:Question):ae P G L C τ .own cQ (choose q) (choose q):=.choose q λ_=>.pure rfl
theorem mw{R:α->β->Prop}{f:Program->Sem α}{g:Program->Sem β}(h:ae P G L C τ .own R (f (gp P G)) (g P)):ae P G L C τ .own R (program >>=f) (program >>=g):=.program h
theorem xR(n:Nat):ae P G L C τ .own (λ_ _=>True) (askRoom n) (askRoom n):=by
 unfold askRoom;split
 ·exact .noRoom (.pure trivial)
 ·exact .pure trivial
theorem jM(t:TypeId):ae P G L C τ .own (λa b=>a=b/\P.info? t=some a) (typeInfo t) (typeInfo t):=by
 unfold typeInfo;refine mw ?_;rw[Dw];cases h:P.info? t with
 |none=>exact .am
 |some i=>exact .pure ⟨rfl,rfl⟩
theorem cO(t:TypeId):ae P G L C τ .own (λa b=>a=b/\P.underlying t=some a) (underlying t) (underlying t):=by
 unfold underlying;refine mw ?_;rw[CD];cases h:P.underlying t with
 |none=>exact .am
 |some i=>exact .pure ⟨rfl,rfl⟩
theorem eG(t:TypeId):ae P G L C τ .own cQ (sizeOf t) (sizeOf t):=by
 unfold sizeOf;refine ae.bind' (jM t) ?_;rintro _ _ ⟨rfl,_⟩;exact .pure rfl
theorem vd(t:TypeId):ae P G L C τ .own cQ (isAgg t) (isAgg t):=by
 unfold isAgg;refine ae.bind' (cO t) ?_;rintro d _ ⟨rfl,_⟩;cases d<;>exact .pure rfl
theorem mS(E:Env P L τ)(t:TypeId):ae P G L C τ .own (VR L τ.all) (zeroValue t) (zeroValue t):=by
 unfold zeroValue;refine ae.bind' (jM t) ?_;rintro i _ ⟨rfl,hi⟩;cases h:i.zero with
 |none=>exact .am
 |some v=>exact .pure (E.zero t i v hi h _)
theorem KH(t:TypeId):ae P G L C τ .own cQ (elemOf t) (elemOf t):=by
 unfold elemOf;refine ae.bind' (cO t) ?_;rintro d _ ⟨rfl,_⟩;cases d<;>first|exact .pure rfl|exact .am
theorem EW(h:AR τ.all a b):∀(n i:Nat) {xs ys:Array Value},XR (VR L τ.all) xs ys->ae P G L C τ .own (XR (VR L τ.all)) (loadCellsFrom a i n xs) (loadCellsFrom b i n ys)
 |0,_,_,_,hx=>.pure hx
 |n+1,i,_,_,hx=>by
  unfold loadCellsFrom;exact ae.bind' (xQ (h.add i)) λv w hv=>EW h n (i+1) (hx.push hv)
theorem vH(h:AR τ.all a b)(n:Nat):ae P G L C τ .own (XR (VR L τ.all)) (loadCells a n) (loadCells b n):=EW h n 0 .nil
theorem Ca(h:AR τ.own a b):∀(l:List (Value×Value)) (i:Nat),(∀z∈l,VR L τ.all z.1 z.2)->ae P G L C τ .own (λ_ _=>True) (storeCells a (l.map (·.1)) i) (storeCells b (l.map (·.2)) i)
 |[],_,_=>.pure trivial
 |z::l,i,hz=>by
  simp only[VY,storeCells];exact ae.bind' (Rj (h.add i) (hz z (by simp))) λ_ _ _=>Ca h l (i+1) λy hy=>hz y (by simp[hy])
theorem wS(h:AR τ.own a b)(hx:XR (VR L τ.all) xs ys):ae P G L C τ .own (λ_ _=>True) (storeCells a xs.toList) (storeCells b ys.toList):=by
 obtain⟨l,h1,h2,h3⟩:=hx.list;rw[h1,h2];exact Ca h l 0 h3
theorem VR.ofRow(h:XR (VR L τ.all) xs ys):VR L τ.all (.agg xs) (.agg ys):=by
 obtain⟨zs,rfl,rfl,hz⟩:=h;exact .agg zs hz
theorem VR.uK(h:XR (VR L τ.all) xs ys):VR L τ.all (.tuple xs) (.tuple ys):=by
 obtain⟨zs,rfl,rfl,hz⟩:=h;exact .tuple zs hz
theorem VR.pair{a b c d:Value}(h:VR L τ.all a b)(k:VR L τ.all c d):VR L τ.all (.tuple #[a,c]) (.tuple #[b,d]):=.uK ((XR.nil.push h).push k)
theorem VR.three{a b c d e f:Value}(h:VR L τ.all a b)(k:VR L τ.all c d)(l:VR L τ.all e f):VR L τ.all (.tuple #[a,c,e]) (.tuple #[b,d,f]):=.uK (((XR.nil.push h).push k).push l)
theorem VR.one{a b:Value}(h:VR L τ.all a b):VR L τ.all (.tuple #[a]) (.tuple #[b]):=.uK (XR.nil.push h)
theorem Dd(t:TypeId)(h:AR τ.all a b):ae P G L C τ .own (VR L τ.all) (loadVar t a) (loadVar t b):=by
 unfold loadVar;refine ae.bind' (vd t) ?_;rintro x _ rfl;try dsimp only
 split
 ·refine ae.bind' (eG t) ?_;rintro n _ rfl;refine ae.bind' (vH h n) λxs ys hx=>.pure (.ofRow hx)
 ·exact xQ h
theorem Nj(t:TypeId)(h:AR τ.own a b)(hv:VR L τ.all v w):ae P G L C τ .own (λ_ _=>True) (storeVar t a v) (storeVar t b w):=by
 unfold storeVar;refine ae.bind' (eG t) ?_;rintro n _ rfl;try dsimp only
 have hc:=hv.cells;rw[hc.size];split
 ·exact .af _ (ak.bind' (.stuck _))
 ·exact wS h hc
theorem nN(e:TypeId)(h:XR (VR L τ.all) xs ys):ae P G L C τ .own (AR τ.own) (newRow e xs) (newRow e ys):=by
 unfold newRow;exact ae.bind' (tA (.cells e (0,0) h)) λr s hr=>.pure ⟨hr,rfl,rfl⟩
theorem DH(t:TypeId)(h:VR L τ.all v w):ae P G L C τ .own (AR τ.own) (newVar t v) (newVar t w):=nN t h.cells
theorem mR(t:TypeId)(h:XR (VR L τ.all) xs ys)(off:Nat):ae P G L C τ .own (VR L τ.all) (part t xs off) (part t ys off):=by
 unfold part;refine ae.bind' (vd t) ?_;rintro x _ rfl;try dsimp only
 split
 ·refine ae.bind' (eG t) ?_;rintro n _ rfl;exact .pure (.ofRow (h.extract _ _))
 ·rcases h.get? off with⟨h1,h2⟩|⟨x,y,h1,h2,h3⟩
  ·rw[h1];exact .am
  ·rw[h1,h2];exact .pure h3
theorem uR(h:VR L τ.all v w):ae P G L C τ .own (λa b=>a=b/\v=.int a.1 a.2) (asIntOf v) (asIntOf w):=by
 cases h<;>first|exact .pure ⟨rfl,rfl⟩|exact .am
theorem ri(h:VR L τ.all v w):ae P G L C τ .own cQ (asInt v) (asInt w):=by
 unfold asInt;refine ae.bind' (uR h) ?_;rintro x _ ⟨rfl,_⟩;exact .pure rfl
theorem IV(h:VR L τ.all v w):ae P G L C τ .own cQ (asBool v) (asBool w):=by
 cases h<;>first|exact .pure rfl|exact .am
theorem Gy(h:VR L τ.all v w):ae P G L C τ .own (XR (VR L τ.all)) (asAgg v) (asAgg w):=by
 cases h with
 |agg xs h=>exact .pure ⟨xs,rfl,rfl,h⟩
 |_=>exact .am
theorem OW(h:VR L τ.all v w):ae P G L C τ .own (AR τ.all) (asAddr v) (asAddr w):=by
 cases h with
 |ptr h=>exact .pure h
 |bw=>exact .af _ (show ak (gp P G) (runtimePanic .nilDeref:Sem Addr) from .runtimePanic _)
 |_=>exact .am
theorem KF(h:VR L τ.all v w):ae P G L C τ .own (AR τ.all) (Instr.sureAddr v) (Instr.sureAddr w):=by
 cases h with
 |ptr h=>exact .pure h
 |_=>exact .am
theorem Fy(h:τ.all r s):ae P G L C τ .own (λa b=>a=none/\b=none) (viewAt r) (viewAt s):=by
 unfold viewAt;refine ae.bind' (mF h) ?_;rintro x _ rfl;try dsimp only
 split
 ·exact .pure ⟨rfl,rfl⟩
 ·refine ae.bind' (lk h) λo q ho=>?_;cases ho<;>exact .pure ⟨rfl,rfl⟩
theorem xa(h:AR τ.all a b):ae P G L C τ .own (λ_ _=>True) (noView a) (noView b):=by
 unfold noView;refine ae.bind' (Fy h.1) ?_;rintro _ _ ⟨rfl,rfl⟩;exact .pure trivial
theorem Av(h:τ.all r s):ae P G L C τ .own (λa b=>(a=none/\b=none)\/∃x y l,a=some (x,l)/\b=some (y,l)/\AR τ.all x y) (numberAt r) (numberAt s):=by
 unfold numberAt;refine ae.bind' (mF h) ?_;rintro x _ rfl;try dsimp only
 split
 ·exact .pure (.inl ⟨rfl,rfl⟩)
 ·refine ae.bind' (lk h) λo q ho=>?_;cases ho with
  |number l h=>exact .pure (.inr ⟨_,_,l,rfl,rfl,h⟩)
  |_=>exact .pure (.inl ⟨rfl,rfl⟩)
theorem ig(h:AR τ.all a b):ae P G L C τ .own (λx y=>AR τ.all x.1 y.1/\y.2=x.2) (behindNumber a) (behindNumber b):=by
 unfold behindNumber;refine ae.bind' (Av h.1) ?_;rintro x y (⟨rfl,rfl⟩|⟨u,v,l,rfl,rfl,huv⟩)
 ·exact .pure ⟨h,rfl⟩
 ·exact .pure ⟨huv,rfl⟩
theorem NK(hb:fo τ)(h:AR τ.all a b)(l:Bool):ae P G L C τ .own (VR L τ.all) (asNumber a l) (asNumber b l):=by
 unfold asNumber;exact ae.bind' (tA (.number l h)) λr s hr=>.pure (.ptr ⟨hb.own _ _ hr,rfl,rfl⟩)
theorem FU(h:AR τ.all a b):ae P G L C τ .own cQ (stringish a) (stringish b):=by
 unfold stringish;refine ae.bind' (pg h) ?_;rintro x _ rfl;try dsimp only
 split
 ·exact .pure rfl
 ·refine ae.bind' (mF h.1) ?_;rintro x _ rfl;cases x with
  |none=>exact .pure rfl
  |some x=>first|exact pg ⟨h.1,rfl,rfl⟩|exact pg ⟨h.1,rfl,h.2.2⟩|exact pg (a:={block:=a.block,off:=x.2}) (b:={block:=b.block,off:=x.2}) ⟨h.1,rfl,rfl⟩
theorem AR.eq_iff(hb:lV τ.all){c:Addr}(h:AR τ.all a b)(k:AR τ.all c d):(a==c)=(b==d):=by
 obtain⟨ab,ao,Vu⟩:=a;obtain⟨bb,bo,bs⟩:=b;obtain⟨cb,co,cs⟩:=c;obtain⟨db,d_o,ds⟩:=d;obtain⟨h1,h2,h3⟩:=h;obtain⟨k1,k2,k3⟩:=k;simp only at h1 h2 h3 k1 k2 k3;subst h2 h3 k2 k3;have:ab=cb↔bb=db:=⟨λe=>hb.fn _ _ _ h1 (e▸k1),λe=>hb.inj _ _ _ h1 (e▸k1)⟩
 rw[Bool.eq_iff_iff];simp only[beq_iff_eq,Addr.mk.injEq,this]
theorem Q5(hb:lV τ.all){t u:Nat}(h:τ.all r s)(k:τ.all t u):(r==t)=(s==u):=by
 rw[Bool.eq_iff_iff];simp only[beq_iff_eq];exact⟨λe=>hb.fn _ _ _ h (e▸k),λe=>hb.inj _ _ _ h (e▸k)⟩
theorem GK{c:Addr}(h:AR τ.all a b)(k:AR τ.all c d):ae P G L C τ .own cQ (mayBeOne a c) (mayBeOne b d):=by
 unfold mayBeOne;try dsimp only
 refine ae.bind' (FU h) ?_;rintro x _ rfl;refine ae.bind' (FU k) ?_;rintro y _ rfl;have hn:∀{u v:Addr},AR τ.all u v->ae P G L C τ .own cQ (do pure ((← shape u.block) matches some (_,0)):Sem Bool) (do pure ((← shape v.block) matches some (_,0)):Sem Bool):=λhuv=>by
  refine ae.bind' (mF huv.1) ?_;rintro x _ rfl;exact .pure rfl
 refine ae.bind' (hn h) ?_;rintro z _ rfl;refine ae.bind' (hn k) ?_;rintro u _ rfl;exact .pure rfl
theorem QF(hb:lV τ.all){c:Addr}(h:AR τ.all a b)(k:AR τ.all c d):ae P G L C τ .own cQ (sameAddr a c) (sameAddr b d):=by
 unfold sameAddr;try dsimp only
 rw[<-Q5 hb h.1 k.1,<-h.eq_iff hb k];split
 ·exact .pure rfl
 ·refine ae.bind' (pg h) ?_;rintro x _ rfl;refine ae.bind' (pg k) ?_;rintro y _ rfl;try dsimp only
  split
  ·exact .af _ (ak.bind' (.unsupported _))
  ·refine ae.bind' (xa h) λ_ _ _=>?_;refine ae.bind' (xa k) λ_ _ _=>?_;refine ae.bind' (GK h k) ?_;rintro z _ rfl;try dsimp only
   split
   ·refine ae.bind' (qM _) ?_;rintro n _ rfl;exact .pure rfl
   ·exact .pure rfl
theorem om(h:AR τ.all a b):ae P G L C τ .own cQ (byteOf a) (byteOf b):=by
 unfold byteOf;rw[h.2.2];cases a.spot with
 |some s=>exact .pure rfl
 |none=>
  try dsimp only
  refine mw ?_;rw[vo];refine ae.bind' (xa h) λ_ _ _=>?_;refine ae.bind' (mF h.1) ?_;rintro x _ rfl;cases x with
  |none=>exact .am
  |some x=>
   simp only[h.2.1,Fb,Ql,wB,vo];split
   ·exact .pure rfl
   ·split
    ·exact .pure rfl
    ·exact .am
theorem K4(h:AR τ.all a b)(u:TypeId)(n:Nat):ae P G L C τ .own cQ (variablesAt a u n) (variablesAt b u n):=by
 unfold variablesAt;refine mw ?_;refine ae.bind' (mF h.1) ?_;rintro x _ rfl;cases x with
 |none=>exact .pure rfl
 |some x=>exact .pure (by rw[h.2.1,CU];rfl)
theorem F4:∀(n:Nat) {a b:Addr} (_:AR τ.all a b) (acc:ByteArray),ae P G L C τ .own cQ (loadBytes a acc n) (loadBytes b acc n)
 |0,_,_,_,_=>.pure rfl
 |n+1,a,b,h,acc=>by
  unfold loadBytes;refine ae.bind' (xQ h) λv w hv=>?_;cases hv with
  |int k m=>
   cases k<;>first|exact F4 n (h.add 1) _|exact .am
  |_=>exact .am
end
end
section
section
variable {P:Program}{G:Array Func}{L:ax}{C:FuncId->Code->Prop}{τ:ai}
theorem AA{c:Prop}[Decidable c]{p q:Sem α}(h:ak (gp P G) p)(k:ak (gp P G) q):ak (gp P G) (if c then p else q):=by split<;>assumption
theorem tX{R:α->β->Prop}{S:σ->ω->Prop}{f:α->σ->Sem (ForInStep σ)}{g:β->ω->Sem (ForInStep ω)}(hf:∀a b,R a b->∀s t,S s t->ae P G L C τ .own (λx y=>(∃s t,x=.done s/\y=.done t/\S s t)\/(∃s t,x=.yield s/\y=.yield t/\S s t)) (f a s) (g b t)):
  ∀(l:List (α×β)) (_:∀z∈l,R z.1 z.2) (s:σ) (t:ω),S s t->ae P G L C τ .own S (forIn (l.map (·.1)) s f) (forIn (l.map (·.2)) t g)
 |[],_,s,t,h=>.pure h
 |z::l,hz,s,t,h=>by
  simp only[VY,List.forIn_cons];refine ae.bind' (hf _ _ (hz z (by simp)) s t h) ?_;rintro x y (⟨u,v,rfl,rfl,hu⟩|⟨u,v,rfl,rfl,hu⟩)
  ·exact .pure hu
  ·exact tX hf l (λy hy=>hz y (by simp[hy])) u v hu
theorem oU(h:VR L κ v w):ae P G L C τ .own (AR κ) (Instr.sureAddr v) (Instr.sureAddr w):=by
 cases h with
 |ptr h=>exact .pure h
 |_=>exact .am
theorem Ss(hκ:∀r s,κ r s->τ.all r s)(h:AR κ a b)(c n:Nat):ae P G L C τ .own (AR κ) (partAt a c n) (partAt b c n):=by
 unfold partAt;refine ae.bind' (om (h.mono hκ)) ?_;rintro x _ rfl;have h2:AR κ {block:=a.block,off:=a.off+c} {block:=b.block,off:=b.off+c}:=⟨h.1,by simp[h.2.1],rfl⟩
 refine ae.bind' (om (h2.mono hκ)) ?_;rintro y _ rfl;refine .pure ?_;split
 ·exact h2
 ·exact⟨h.1,by simp[h.2.1],rfl⟩
theorem IC(hκ:∀r s,κ r s->τ.all r s)(h:AR κ a b)(f:Field):ae P G L C τ .own (AR κ) (fieldPlace a f) (fieldPlace b f):=by
 unfold fieldPlace;refine ae.bind' (eG _) ?_;rintro x _ rfl;try dsimp only
 split
 ·exact Ss hκ h _ _
 ·exact .pure (h.add _)
theorem Dv(h:AR τ.box a b):ae P G L C τ .own (VR L τ.own) (load a) (load b):=.nK h λ_ _ hv=>.pure hv
theorem Ny(h:AR τ.box a b)(hv:VR L τ.own v w):ae P G L C τ .own (λ_ _=>True) (store a v) (store b w):=.nV h hv (.pure trivial)
theorem An(h:AR τ.box a b):∀(n i:Nat) {xs ys:Array Value},XR (VR L τ.own) xs ys->ae P G L C τ .own (XR (VR L τ.own)) (loadCellsFrom a i n xs) (loadCellsFrom b i n ys)
 |0,_,_,_,hx=>.pure hx
 |n+1,i,_,_,hx=>by
  unfold loadCellsFrom;exact ae.bind' (Dv (h.add i)) λv w hv=>An h n (i+1) (hx.push hv)
theorem VR.Pw(h:XR (VR L κ) xs ys):VR L κ (.agg xs) (.agg ys):=by
 obtain⟨zs,rfl,rfl,hz⟩:=h;exact .agg zs hz
theorem Ik(t:TypeId)(h:VR L τ.box v w):ae P G L C τ .own (VR L τ.own) (Instr.loadAt t v) (Instr.loadAt t w):=by
 unfold Instr.loadAt;refine ae.bind' (oU h) λa b h=>?_;unfold loadVar;refine ae.bind' (vd t) ?_;rintro x _ rfl;try dsimp only
 split
 ·refine ae.bind' (eG t) ?_;rintro n _ rfl;refine ae.bind' (An h n 0 .nil) λxs ys hx=>.pure (.Pw hx)
 ·exact Dv h
theorem En(h:AR τ.box a b):∀(l:List (Value×Value)) (i:Nat),(∀z∈l,VR L τ.own z.1 z.2)->ae P G L C τ .own (λ_ _=>True) (storeCells a (l.map (·.1)) i) (storeCells b (l.map (·.2)) i)
 |[],_,_=>.pure trivial
 |z::l,i,hz=>by
  simp only[VY,storeCells];exact ae.bind' (Ny (h.add i) (hz z (by simp))) λ_ _ _=>En h l (i+1) λy hy=>hz y (by simp[hy])
theorem Re(t:TypeId)(h:VR L τ.box v w)(hx:VR L τ.own x y):ae P G L C τ .own (λ_ _=>True) (Instr.storeAt t v x) (Instr.storeAt t w y):=by
 unfold Instr.storeAt;refine ae.bind' (oU h) λa b h=>?_;unfold storeVar;refine ae.bind' (eG t) ?_;rintro n _ rfl;try dsimp only
 have hc:=hx.cells;rw[hc.size];split
 ·exact .af _ (ak.bind' (.stuck _))
 ·obtain⟨l,h1,h2,h3⟩:=hc.list;rw[h1,h2];exact En h l 0 h3
theorem QG(E:Env P L τ)(e:TypeId):ae P G L C τ .own (VR L τ.own) (Instr.alloc e true (.tuple #[])) (Instr.alloc e true (.tuple #[])):=by
 unfold Instr.alloc;refine ae.bind' (mS E e) λv w hv=>?_;refine ae.bind' (DH e hv) λa b h=>.pure (.ptr h)
theorem MC(e:TypeId)(h:VR L τ.all v w):ae P G L C τ .own (VR L τ.own) (Instr.box e v) (Instr.box e w):=by
 unfold Instr.box;exact ae.bind' (DH e h) λa b h=>.pure (.ptr h)
theorem PJ(t:TypeId)(h:VR L τ.all v w):ae P G L C τ .own (VR L τ.all) (Instr.loadAt t v) (Instr.loadAt t w):=by
 unfold Instr.loadAt;exact ae.bind' (KF h) λa b h=>Dd t h
theorem TK(t:TypeId)(h:VR L τ.own v w)(hx:VR L τ.all x y):ae P G L C τ .own (λ_ _=>True) (Instr.storeAt t v x) (Instr.storeAt t w y):=by
 unfold Instr.storeAt;exact ae.bind' (oU h) λa b h=>Nj t h hx
theorem D6(hκ:∀r s,κ r s->τ.all r s)(s:TypeId)(h:VR L κ v w)(i:Nat):ae P G L C τ .own (VR L κ) (Instr.fieldAt s v i) (Instr.fieldAt s w i):=by
 unfold Instr.fieldAt;refine ae.bind' (cO s) ?_;rintro d _ ⟨rfl,_⟩;cases d with
 |struct fs=>
  dsimp only;cases hf:fs[i]? with
  |none=>exact .am
  |some f=>
   dsimp only;exact ae.bind' (oU h) λa b h=>ae.bind' (IC hκ h f) λa b h=>.pure (.ptr h)
 |_=>exact .am
theorem Fg(t:TypeId)(h:VR L κ v w)(hx:VR L τ.all x y):ae P G L C τ .own (VR L κ) (Instr.indexAt t v x) (Instr.indexAt t w y):=by
 unfold Instr.indexAt;refine ae.bind' (uR hx) ?_;rintro⟨k,i⟩ _ ⟨rfl,_⟩;dsimp only;refine ae.bind' (cO t) ?_;rintro d _ ⟨rfl,hd⟩;have fin:∀{base base':Option Addr} (len:Nat) (elem:TypeId),(∀a,base=some a->∃b,base'=some b/\AR κ a b)->(base=none->base'=none)->
   ae P G L C τ .own (VR L κ)
    (do
     let __do_lift ←underlying t
     match base with
      |some a=>
       if 0<=i/\i<(len:Int) then do pure (.pointer (some (a.add (i.toNat*(← sizeOf elem)))))
       else if (decide (len<=1)&&(match __do_lift with|.array .. =>true|_=>false))=true then unsupported (.noEntry "op/indexAddr.an index out of range at an array of length 0 or 1 (ledger 616)") else boundsPanic k i len .index
      |none=>boundsPanic k i 0 .index)
    (do
     let __do_lift ←underlying t
     match base' with
      |some a=>
       if 0<=i/\i<(len:Int) then do pure (.pointer (some (a.add (i.toNat*(← sizeOf elem)))))
       else if (decide (len<=1)&&(match __do_lift with|.array .. =>true|_=>false))=true then unsupported (.noEntry "op/indexAddr.an index out of range at an array of length 0 or 1 (ledger 616)") else boundsPanic k i len .index
      |none=>boundsPanic k i 0 .index):=by
  intro base base' len elem h1 h2;refine ae.bind' (cO t) ?_;rintro d _ ⟨rfl,hd⟩;cases base with
  |none=>exact .af _ (.boundsPanic _ _ _ _)
  |some a=>
   obtain⟨b,rfl,hab⟩:=h1 a rfl;dsimp only;split
   ·refine ae.bind' (eG elem) ?_;rintro n _ rfl;exact .pure (.ptr (hab.add _))
   ·exact .af _ (AA (.unsupported _) (.boundsPanic _ _ _ _))
 cases d with
 |array len elem=>
  dsimp only;refine ae.bind' (oU h) λa b hab=>?_;exact fin (base:=some a) (base':=some b) len elem (λ_ e=>by cases e;exact⟨b,rfl,hab⟩) (λe=>by cases e)
 |slice elem=>
  cases h with
  |@slice a b n c hab=>exact fin (base:=some a) (base':=some b) n elem (λ_ e=>by cases e;exact⟨_,rfl,hab⟩) (λe=>by cases e)
  |iw n c=>exact fin (base:=none) (base':=none) n elem (λ_ e=>by cases e) (λ_=>rfl)
  |_=>exact .af _ (ak.bind' (.stuck _))
 |_=>exact .af _ (ak.bind' (.stuck _))
theorem IZ(h:VR L τ.all v w)(i:Nat):ae P G L C τ .own (VR L τ.all) (Instr.extract v i) (Instr.extract w i):=by
 cases h with
 |tuple xs hx=>
  unfold Instr.extract;dsimp only;rcases XR.get? (R:=VR L τ.all) ⟨xs,rfl,rfl,hx⟩ i with⟨h1,h2⟩|⟨x,y,h1,h2,h3⟩
  ·rw[h1];exact .am
  ·rw[h1,h2];exact .pure h3
 |_=>exact .am
theorem KW(t:TypeId)(h:VR L τ.all v w)(i:Nat):ae P G L C τ .own (VR L τ.all) (Instr.field t v i) (Instr.field t w i):=by
 unfold Instr.field;refine ae.bind' (cO t) ?_;rintro d _ ⟨rfl,_⟩;cases d with
 |struct fs=>
  dsimp only;cases hf:fs[i]? with
  |none=>exact .am
  |some f=>exact ae.bind' (Gy h) λxs ys hx=>mR f.type hx f.offset
 |_=>exact .am
theorem TV(t:TypeId)(h:VR L τ.all v w)(hx:VR L τ.all x y):ae P G L C τ .own (VR L τ.all) (Instr.index t v x) (Instr.index t w y):=by
 unfold Instr.index;refine ae.bind' (uR hx) ?_;rintro⟨k,i⟩ _ ⟨rfl,_⟩;dsimp only;refine ae.bind' (cO t) ?_;rintro d _ ⟨rfl,hd⟩;cases d with
 |array len elem=>
  cases h with
  |agg xs hx=>
   dsimp only;split
   ·refine ae.bind' (eG elem) ?_;rintro n _ rfl;exact mR elem ⟨xs,rfl,rfl,hx⟩ _
   ·exact .af _ (.boundsPanic _ _ _ _)
  |_=>exact .am
 |string=>
  cases h with
  |string s=>
   dsimp only;split
   ·exact .pure (.int _ _)
   ·exact .af _ (.boundsPanic _ _ _ _)
  |_=>exact .am
 |_=>cases h<;>exact .am
theorem MT(t:TypeId)(h:VR L τ.all v w):ae P G L C τ .own (VR L τ.all) (Instr.makeInterface t v) (Instr.makeInterface t w):=by
 unfold Instr.makeInterface;refine ae.bind' (cO t) ?_;rintro d _ ⟨rfl,_⟩;cases d<;>first|exact .pure (.iface t h)|exact .am
theorem UM{f:FuncId}(hf:L.fj f){us vs:Array Value}(h:XR (VR L τ.all) xs ys)(k:XR (VR L τ.all) us vs):ae P G L C τ .own (VR L τ.all) (Instr.makeFunc (.func f) xs us) (Instr.makeFunc (.func f) ys vs):=by
 obtain⟨zs,rfl,rfl,hz⟩:=h;obtain⟨zs',rfl,rfl,hz'⟩:=k;exact .pure (.func zs zs' hf hz hz')
theorem Vq(t:TypeId):ae P G L C τ .own (VR L τ.own) (Instr.makeMap t none) (Instr.makeMap t none):=by
 unfold Instr.makeMap;exact ae.bind' (tA (.map 0 .nil)) λr s hr=>.pure (.map hr)
theorem XR.range{f g:Nat->Value}(n:Nat)(h:∀i,i<n->VR L τ.all (f i) (g i)):XR (VR L τ.all) ((Array.range n).map f) ((Array.range n).map g):=by
 refine XR.wN (by simp) λi x y hx hy=>?_;simp only[Array.getElem?_map,Array.getElem?_range]at hx hy;split at hx<;>simp_all;subst hx;subst hy;exact h i (by assumption)
theorem XR.vu(h:XR (VR L τ.all) xs ys)(i:Nat):VR L τ.all (xs[i]!) (ys[i]!):=by
 rcases h.get? i with⟨h1,h2⟩|⟨x,y,h1,h2,h3⟩
 ·simp only[getElem!_def,h1,h2];exact .bool false
 ·simpa[getElem!_def,h1,h2] using h3
theorem Rl(E:Env P L τ)(t:TypeId)(h:VR L τ.all v w)(hx:VR L τ.all x y):ae P G L C τ .own (VR L τ.own) (Instr.makeSlice t v x) (Instr.makeSlice t w y):=by
 unfold Instr.makeSlice;refine ae.bind' (cO t) ?_;rintro d _ ⟨rfl,_⟩;cases d with
 |slice elem=>
  refine ae.bind' (ri h) ?_;rintro len _ rfl;refine ae.bind' (ri hx) ?_;rintro cap _ rfl;refine ae.bind' (jM elem) ?_;rintro i _ ⟨rfl,hi⟩;dsimp only;split
  ·refine .af _ ?_;split
   ·exact ak.bind' (.runtimePanic _)
   ·split
    ·exact ak.bind' (.runtimePanic _)
    ·exact ak.then (.choose _) λ_=>ak.bind' (.runtimePanic _)
  ·refine ae.bind' (xR _) λ_ _ _=>?_;refine ae.bind' (eG elem) ?_;rintro n _ rfl;split
   ·rename_i h0;refine ae.bind' (.pure (R:=λa b=>a=#[]/\b=#[]) ⟨rfl,rfl⟩) ?_;rintro _ _ ⟨rfl,rfl⟩;rw[h0];exact ae.bind' (nN elem (XR.range 0 λi hi=>absurd hi (Wy i))) λa b hab=>.pure (.slice _ _ hab)
   ·refine ae.bind' (mS E elem) λu v hv=>?_;refine ae.bind' (R:=XR (VR L τ.all)) (.pure hv.cells) ?_
    ·intro us vs huv;refine ae.bind' (nN elem ?_) λa b hab=>.pure (.slice _ _ hab);rw[huv.size];exact XR.range _ λi _=>huv.vu _
 |_=>exact .am
end
end
section
section
variable {P:Program}{G:Array Func}{L:ax}{C:FuncId->Code->Prop}{τ:ai}
theorem XR.DQ(off:Nat):∀(l:List ((Value×Value)×Nat)) {cs ds:Array Value},(∀z∈l,VR L τ.all z.1.1 z.1.2)->XR (VR L τ.all) cs ds->
  XR (VR L τ.all) (l.foldl (λc z=>c.setIfInBounds (off+z.2) z.1.1) cs) (l.foldl (λc z=>c.setIfInBounds (off+z.2) z.1.2) ds)
 |[],_,_,_,h=>h
 |z::l,cs,ds,hz,h=>by
  simp only[WM];exact XR.DQ off l (λy hy=>hz y (by simp[hy])) (h.set (hz z (by simp)) _)
theorem XR.MF{cs ds:Array Value}(off:Nat)(h:XR (VR L τ.all) xs ys)(k:XR (VR L τ.all) cs ds):
  XR (VR L τ.all) (xs.zipIdx.foldl (λc (x:Value×Nat)=>c.setIfInBounds (off+x.2) x.1) cs) (ys.zipIdx.foldl (λc (x:Value×Nat)=>c.setIfInBounds (off+x.2) x.1) ds):=by
 obtain⟨zs,rfl,rfl,hz⟩:=h;have e1:(zs.map (·.1)).zipIdx.foldl (λc (x:Value×Nat)=>c.setIfInBounds (off+x.2) x.1) cs=zs.zipIdx.toList.foldl (λc z=>c.setIfInBounds (off+z.2) z.1.1) cs:=by
  rw[Array.zipIdx_map,Array.foldl_map,<-Xp];rfl
 have e2:(zs.map (·.2)).zipIdx.foldl (λc (x:Value×Nat)=>c.setIfInBounds (off+x.2) x.1) ds=zs.zipIdx.toList.foldl (λc z=>c.setIfInBounds (off+z.2) z.1.2) ds:=by
  rw[Array.zipIdx_map,Array.foldl_map,<-Xp];rfl
 rw[e1,e2];refine XR.DQ off _ (λz hm=>?_) k;have hm':(z.1,z.2)∈zs.zipIdx:=Array.mem_toList_iff.1 hm;obtain⟨_,_,e⟩:=Array.mem_zipIdx hm';exact hz _ (by rw[e];exact Array.getElem_mem _)
def PR(L:ax)(π:Nat->Nat->Prop)(x y:Nat×Value):Prop:=y.1=x.1/\VR L π x.2 y.2
theorem XR.fill(place:Nat->Option (Nat×Nat)):∀(l:List ((Nat×Value)×(Nat×Value))) {cs ds:Array Value},(∀z∈l,PR L τ.all z.1 z.2)->XR (VR L τ.all) cs ds->
  (Instr.fill place cs (l.map (·.1))=none)\/∃cs' ds',Instr.fill place cs (l.map (·.1))=some cs'/\Instr.fill place ds (l.map (·.2))=some ds'/\XR (VR L τ.all) cs' ds'
 |[],cs,ds,_,h=>.inr ⟨cs,ds,rfl,rfl,h⟩
 |((i,v),(j,w))::l,cs,ds,hz,h=>by
  obtain⟨hij,hv⟩:=hz ((i,v),(j,w)) (by simp);simp only at hij hv;subst hij;simp only[VY,Instr.fill];cases place j with
  |none=>exact .inl rfl
  |some p=>
   obtain⟨off,size⟩:=p;have hc:=hv.cells;simp only[hc.size,h.size];by_cases hcond:(decide (v.cells.size≠size)||decide (off+v.cells.size > cs.size))=true
   ·simp only[hcond,IS];exact .inl trivial
   ·simp only[hcond,Vz,Vy];exact XR.fill place l (λy hy=>hz y (by simp[hy])) (hc.MF off h)
theorem EI{R:α->β->Prop}{S:γ->δ->Prop}{f:α->Sem γ}{g:β->Sem δ}(hf:∀a b,R a b->ae P G L C τ .own S (f a) (g b)):∀(l:List (α×β)),(∀z∈l,R z.1 z.2)->
  ae P G L C τ .own (λxs ys=>∃l':List (γ×δ),xs=l'.map (·.1)/\ys=l'.map (·.2)/\∀z∈l',S z.1 z.2) ((l.map (·.1)).mapM f) ((l.map (·.2)).mapM g)
 |[],_=>by
  simp only[List.map_nil,List.mapM_nil];exact .pure ⟨[],rfl,rfl,by simp⟩
 |z::l,hz=>by
  simp only[VY,List.mapM_cons];refine ae.bind' (hf _ _ (hz z (by simp))) λx y hxy=>?_;refine ae.bind' (EI hf l λy hy=>hz y (by simp[hy])) ?_;rintro _ _ ⟨l',rfl,rfl,hl⟩;exact .pure ⟨(x,y)::l',rfl,rfl,by simp;exact⟨hxy,λa b h=>hl _ h⟩⟩
theorem F9{R:α->β->Prop}{S:γ->δ->Prop}{f:α->Sem γ}{g:β->Sem δ}(hf:∀a b,R a b->ae P G L C τ .own S (f a) (g b)){xs:Array α}{ys:Array β}(h:XR R xs ys):
  ae P G L C τ .own (XR S) (xs.mapM f) (ys.mapM g):=by
 obtain⟨l,h1,h2,h3⟩:=h.list;rw[<-Xn (xs:=xs),<-Xn (xs:=ys),h1,h2,List.mapM_toArray,List.mapM_toArray];refine ae.bind' (p:=(l.map (·.1)).mapM f) (q:=(l.map (·.2)).mapM g) (EI hf l h3) ?_;rintro _ _ ⟨l',rfl,rfl,hl⟩;exact .pure ⟨l'.toArray,by simp,by simp,by simpa using λa b h=>hl _ h⟩
theorem Le(E:Env P L τ)(t:TypeId){xs ys:Array (Nat×Value)}(h:XR (PR L τ.all) xs ys):ae P G L C τ .own (VR L τ.all) (Instr.build t xs) (Instr.build t ys):=by
 unfold Instr.build;refine ae.bind' (mS E t) λu v hv=>?_;refine ae.bind' (cO t) ?_;rintro d _ ⟨rfl,_⟩;obtain⟨l,h1,h2,h3⟩:=h.list;cases d with
 |struct fs=>
  refine ae.bind' (F9 (R:=cQ) (S:=cQ) (xs:=fs) (ys:=fs) ?_ (XR.self fs λ_ _=>rfl)) ?_
  ·rintro f _ rfl;refine ae.bind' (eG f.type) ?_;rintro n _ rfl;exact .pure rfl
  ·intro ps qs hpq;have e:ps=qs:=by
    obtain⟨zs,rfl,rfl,hz⟩:=hpq;refine Array.map_congr_left λz hz'=>hz z hz'
   subst e;rw[h1,h2];rcases XR.fill (λi=>ps[i]?) l h3 hv.cells with e|⟨cs,ds,e1,e2,hcd⟩
   ·simp only[e];exact .am
   ·simp only[e1,e2];exact .pure (.ofRow hcd)
 |array n elem=>
  refine ae.bind' (eG elem) ?_;rintro n _ rfl;rw[h1,h2];try dsimp only
  rcases XR.fill (λi=>some (i*n,n)) l h3 hv.cells with e|⟨cs,ds,e1,e2,hcd⟩
  ·simp only[e];exact .am
  ·simp only[e1,e2];exact .pure (.ofRow hcd)
 |_=>exact .am
theorem R1(E:Env P L τ)(t:TypeId)(len:Nat){xs ys:Array (Nat×Value)}(h:XR (PR L τ.all) xs ys):ae P G L C τ .own (VR L τ.own) (Instr.buildSlice t len xs) (Instr.buildSlice t len ys):=by
 unfold Instr.buildSlice;refine ae.bind' (cO t) ?_;rintro d _ ⟨rfl,_⟩;obtain⟨l,h1,h2,h3⟩:=h.list;cases d with
 |slice elem=>
  refine ae.bind' (eG elem) ?_;rintro n _ rfl;rw[h1,h2];try dsimp only
  split
  ·exact .af _ (ak.bind' (.unsupported _))
  ·split
   ·rename_i h0;refine ae.bind' (.pure (R:=λa b=>a=#[]/\b=#[]) ⟨rfl,rfl⟩) ?_;rintro _ _ ⟨rfl,rfl⟩;rw[h0];rcases XR.fill (λi=>some (i*n,n)) l h3 (cs:=(Array.range 0).map λi=>(#[]:Array Value)[i%(#[]:Array Value).size]!) (ds:=(Array.range 0).map λi=>(#[]:Array Value)[i%(#[]:Array Value).size]!) (XR.range 0 λi hi=>absurd hi (Wy i)) with e|⟨cs,ds,e1,e2,hcd⟩
    ·simp only[e];exact .am
    ·simp only[e1,e2];exact ae.bind' (nN elem hcd) λa b hab=>.pure (.slice _ _ hab)
   ·refine ae.bind' (mS E elem) λu v hv=>?_;refine ae.bind' (R:=XR (VR L τ.all)) (.pure hv.cells) λus vs huv=>?_;try dsimp only
    rw[huv.size];rcases XR.fill (λi=>some (i*n,n)) l h3 (XR.range (f:=λi=>us[i%us.size]!) (g:=λi=>vs[i%us.size]!) (len*n) λi _=>huv.vu _) with e|⟨cs,ds,e1,e2,hcd⟩
    ·simp only[e];exact .am
    ·simp only[e1,e2];exact ae.bind' (nN elem hcd) λa b hab=>.pure (.slice _ _ hab)
 |_=>exact .am
theorem UE(h:VR L τ.all v w)(y:Nat)(c:BoundsCode):ae P G L C τ .own cQ (Instr.sliceBound v y c) (Instr.sliceBound w y c):=by
 unfold Instr.sliceBound;refine ae.bind' (uR h) ?_;rintro⟨k,i⟩ _ ⟨rfl,_⟩;try dsimp only
 split
 ·exact .pure rfl
 ·exact .af _ (.boundsPanic _ _ _ _)
inductive QR (L:ax) (π:Nat->Nat->Prop):Option Value->Option Value->Prop
 |none:QR L π none none
 |some {v w:Value}:VR L π v w->QR L π (some v) (some w)
theorem rR(b:Bool)(len cap:Nat){m:Option Value}(hl:QR L τ.all l l')(hh:QR L τ.all h h')(hm:QR L τ.all m m'):ae P G L C τ .own cQ (Instr.sliceBounds b len cap l h m) (Instr.sliceBounds b len cap l' h' m'):=by
 have st:∀{v w:Value} (_:VR L τ.all v w) (y:Nat) (c:BoundsCode) {k l:Nat->Sem (Nat×Nat×Nat)},(∀n,ae P G L C τ .own cQ (k n) (l n))->ae P G L C τ .own cQ (Instr.sliceBound v y c >>=k) (Instr.sliceBound w y c >>=l):=by
  intro v w hv y c k l hk;refine ae.bind' (UE hv y c) ?_;rintro n _ rfl;exact hk n
 unfold Instr.sliceBounds;cases hm with
 |none=>
  cases hh with
  |none=>
   cases hl with
   |none=>exact .pure rfl
   |some hv=>exact st hv _ _ λn=>.pure rfl
  |some hu=>
   cases hl with
   |none=>exact st hu _ _ λn=>.pure rfl
   |some hv=>
    refine st hu _ _ λn=>?_;refine st hv _ _ λn=>?_;exact .pure rfl
 |some hx=>
  cases hh with
  |none=>exact .af _ (ak.then (.sliceBound _ _ _) λ_=>ak.bind' (.stuck _))
  |some hu=>
   cases hl with
   |none=>
    refine st hx _ _ λn=>?_;refine st hu _ _ λn=>?_;exact .pure rfl
   |some hv=>
    refine st hx _ _ λn=>?_;refine st hu _ _ λn=>?_;refine st hv _ _ λn=>?_;exact .pure rfl
theorem Pq(h:VR L κ v w):ae P G L C τ .own (AR κ) (asAddr v) (asAddr w):=by
 cases h with
 |ptr h=>exact .pure h
 |bw=>exact .af _ (show ak (gp P G) (runtimePanic .nilDeref:Sem Addr) from .runtimePanic _)
 |_=>exact .am
theorem Lu(t:TypeId)(hv:VR L κ v w){m:Option Value}(hl:QR L τ.all l l')(hh:QR L τ.all h h')(hm:QR L τ.all m m'):ae P G L C τ .own (VR L κ) (Instr.slice t v l h m) (Instr.slice t w l' h' m'):=by
 unfold Instr.slice;refine ae.bind' (cO t) ?_;rintro d _ ⟨rfl,_⟩;cases d with
 |string=>
  cases hv with
  |string s=>
   have em:m'.isSome=m.isSome:=by cases hm<;>rfl
   try dsimp only
   rw[em];split
   ·exact .af _ (ak.bind' (.stuck _))
   ·refine ae.bind' (rR false s.size s.size hl hh .none) ?_;rintro⟨x,y,z⟩ _ rfl;exact .pure (.string _)
  |_=>exact .am
 |slice elem=>
  cases hv with
  |iw n c=>
   refine ae.bind' (rR true n c hl hh hm) ?_;rintro⟨x,y,z⟩ _ rfl;refine ae.bind' (eG elem) ?_;rintro k _ rfl;refine .pure ?_;try dsimp only
   split<;>exact .iw _ _
  |slice n c hab=>
   refine ae.bind' (rR true n c hl hh hm) ?_;rintro⟨x,y,z⟩ _ rfl;refine ae.bind' (eG elem) ?_;rintro k _ rfl;refine .pure ?_;try dsimp only
   split
   ·exact .slice _ _ hab
   ·exact .slice _ _ (hab.add _)
  |_=>exact .am
 |pointer arr=>
  try dsimp only
  refine ae.bind' (Pq hv) λa b hab=>?_;refine ae.bind' (cO arr) ?_;rintro d _ ⟨rfl,_⟩;cases d with
  |array n elem=>
   refine ae.bind' (rR false n n hl hh hm) ?_;rintro⟨x,y,z⟩ _ rfl;refine ae.bind' (eG elem) ?_;rintro k _ rfl;refine .pure ?_;try dsimp only
   split
   ·exact .slice _ _ hab
   ·exact .slice _ _ (hab.add _)
  |_=>exact .am
 |_=>cases hv<;>exact .am
theorem Ci(t:TypeId)(hv:VR L κ v w){m:Option Value}(hl:QR L τ.all l l')(hh:QR L τ.all h h')(hm:QR L τ.all m m'):ae P G L C τ .own (VR L κ) (Instr.sliceAt t v l h m) (Instr.sliceAt t w l' h' m'):=by
 unfold Instr.sliceAt;refine ae.bind' (cO t) ?_;rintro d _ ⟨rfl,_⟩;cases d with
 |array n elem=>
  refine ae.bind' (oU hv) λa b hab=>?_;refine ae.bind' (rR false n n hl hh hm) ?_;rintro⟨x,y,z⟩ _ rfl;refine ae.bind' (eG elem) ?_;rintro k _ rfl;refine .pure ?_;try dsimp only
  split
  ·exact .slice _ _ hab
  ·exact .slice _ _ (hab.add _)
 |_=>exact Lu t hv hl hh hm
end
end
section
section
variable {P:Program}{G:Array Func}{L:ax}{C:FuncId->Code->Prop}{τ:ai}
def te(S:σ->ω->Prop)(x:ForInStep σ)(y:ForInStep ω):Prop:=(∃s t,x=.done s/\y=.done t/\S s t)\/(∃s t,x=.yield s/\y=.yield t/\S s t)
theorem te.same(x:ForInStep σ):te cQ x x:=by
 cases x with
 |done s=>exact .inl ⟨s,s,rfl,rfl,rfl⟩
 |yield s=>exact .inr ⟨s,s,rfl,rfl,rfl⟩
theorem BS(xs:Array α){f g:α->σ->Sem (ForInStep σ)}(hf:∀a s,a∈xs->ae P G L C τ .own (te cQ) (f a s) (g a s))(s:σ):ae P G L C τ .own cQ (forIn xs s f) (forIn xs s g):=by
 rw[<-Array.forIn_toList,<-Array.forIn_toList]
 have:=tX (P:=P) (G:=G) (L:=L) (C:=C) (τ:=τ) (R:=λa b=>a=b/\a∈xs) (S:=cQ) (f:=f) (g:=g) (by rintro a _ ⟨rfl,ha⟩ s _ rfl;exact hf a s ha) (xs.toList.map λx=>(x,x)) (by simp) s s rfl;simpa[Wv] using this
theorem Bp(n:Nat){f g:Nat->σ->Sem (ForInStep σ)}(hf:∀a s,ae P G L C τ .own (te cQ) (f a s) (g a s))(s:σ):ae P G L C τ .own cQ (forIn [0:n] s f) (forIn [0:n] s g):=by
 rw[Std.Legacy.Range.forIn_eq_forIn_range',Std.Legacy.Range.forIn_eq_forIn_range']
 have:=tX (P:=P) (G:=G) (L:=L) (C:=C) (τ:=τ) (R:=cQ) (S:=cQ) (f:=f) (g:=g) (by rintro a _ rfl s _ rfl;exact hf a s) ((List.range' 0 n 1).map λx=>(x,x)) (by simp) s s rfl;simpa[Wv,Std.Legacy.Range.size] using this
theorem Hl{f:TypeInfo->Sem α}(h:∀i,P.info? t=some i->ak (gp P G) (f i)):ak (gp P G) (typeInfo t >>=f):=λw es=>by
 cases hi:P.info? t with
 |none=>
  refine⟨.stuck "no such type",w,es,?_,trivial,.refl w⟩;show ((match P.info? t with|some i=>Sem.pure i|none=>(stuck "no such type" :Sem TypeInfo)).bind f).runT (gp P G) w es=_;rw[hi];rfl
 |some i=>
  obtain⟨x,y,z,e,ht,hk⟩:=h i hi w es;refine⟨x,y,z,?_,ht,hk⟩;rw[<-e];show ((match P.info? t with|some i=>Sem.pure i|none=>(stuck "no such type" :Sem TypeInfo)).bind f).runT (gp P G) w es=_;rw[hi];rfl
def gi(P:Program):Nat->TypeId->Bool
 |0,_=>false
 |m+1,t=>match P.underlying t with
  |some .bool|some (.int _)|some .string|some (.pointer _)=>true
  |some (.struct fs)=>fs.all λf=>gi P m f.type
  |some (.array _ e)=>gi P m e
  |_=>false
theorem yG(E:Env P L τ):∀(n m:Nat) (t:TypeId) {x y u v:Value},gi P m t=true->VR L τ.all x u->VR L τ.all y v->ae P G L C τ .own cQ (Op.equalIn n t x y) (Op.equalIn n t u v)
 |0,_,_,_,_,_,_,_,_,_=>.am
 |n+1,0,_,_,_,_,_,hok,_,_=>by cases hok
 |n+1,m+1,t,x,y,u,v,hok,hx,hy=>by
  unfold Op.equalIn;refine ae.bind' (cO t) ?_;rintro d _ ⟨rfl,hd⟩;simp only[gi,hd]at hok;cases d with
  |bool=>
   cases hx with
   |bool a=>cases hy<;>first|exact .pure rfl|exact .am
   |_=>first|exact .am|(cases hy<;>exact .am)
  |string=>
   cases hx with
   |string a=>cases hy<;>first|exact .pure rfl|exact .am
   |_=>first|exact .am|(cases hy<;>exact .am)
  |int kk=>
   cases hx with
   |int k a=>
    cases hy with
    |int k' b=>
     try dsimp only
     split
     ·exact .pure rfl
     ·exact .am
    |ptr h=>
     by_cases ha:a=0
     ·subst ha;exact .pure rfl
     ·refine .af _ ?_;split<;>first|exact ak.unsupported _|exact ak.stuck _|(exfalso;simp_all;done)
    |_=>first|exact .am|exact .am
   |ptr h=>
    cases hy with
    |int k' b=>
     by_cases ha:b=0
     ·subst ha;exact .pure rfl
     ·refine .af _ ?_;split<;>first|exact ak.unsupported _|exact ak.stuck _|(exfalso;simp_all;done)
    |ptr k=>
     try dsimp only
     refine ae.bind' (ig h) ?_;rintro⟨a,l⟩ ⟨b,l'⟩ ⟨hab,_⟩;refine ae.bind' (ig k) ?_;rintro⟨c,m⟩ ⟨d,m'⟩ ⟨hcd,_⟩;refine mw ?_;try dsimp only
     rw[Dq];by_cases hlo:(a.block==c.block&&decide (a.block<P.globals.size))=true
     ·have hlo':(b.block==d.block&&decide (b.block<P.globals.size))=true:=by
       simp only[IN,beq_iff_eq,VN]at hlo ⊢;obtain⟨hbc,hlt⟩:=hlo;exact⟨E.bi.fn _ _ _ (.inl hab.1) (.inl (hbc▸hcd.1)),(E.high _ _ hab.1).1 hlt⟩
      rw[AS hlo,AS hlo'];refine ae.bind' (om hab) ?_;rintro x _ rfl;refine ae.bind' (om hcd) ?_;rintro y _ rfl;exact .pure rfl
     refine .af _ ?_;rw[AI hlo];refine Hl λi hi=>?_;split
     ·rename_i heq;exact absurd rfl (E.yu _ _ _ _ hi heq)
     ·exact .unsupported _
    |_=>first|exact .am|exact .am
   |_=>cases hy<;>first|exact .am|exact .am
  |unsafePointer=>cases hok
  |pointer elem=>
   cases hx with
   |bw=>cases hy<;>first|exact .pure rfl|exact .am
   |ptr h=>
    cases hy with
    |bw=>exact .pure rfl
    |ptr k=>
     try dsimp only
     refine ae.bind' (eG elem) ?_;rintro m _ rfl;rw[<-h.eq_iff E.bi.Bb k];split
     ·exact QF E.bi.Bb h k
     ·split
      ·exact .pure rfl
      ·refine ae.bind' (qM _) ?_;rintro m _ rfl;exact .pure rfl
    |_=>exact .am
   |_=>first|exact .am|(cases hy<;>exact .am)
  |interface ms=>cases hok
  |struct fs=>
   cases hx with
   |agg xs hxs=>
    cases hy with
    |agg ys hys=>
     try dsimp only
     refine mw ?_;rw[zg];split
     ·exact .af _ (ak.bind' (.unsupported _))
     ·refine ae.bind' (BS fs (λf s cG=>?_) _) ?_
      ·split
       ·have hf:gi P m f.type=true:=Array.all_eq_true'.1 hok f cG;refine ae.bind' (mR f.type ⟨xs,rfl,rfl,hxs⟩ _) λa b hab=>?_;refine ae.bind' (mR f.type ⟨ys,rfl,rfl,hys⟩ _) λc d hcd=>?_;refine ae.bind' (yG E n m f.type hf hab hcd) ?_;rintro r _ rfl;try dsimp only
        split<;>exact .pure (.same _)
       ·exact .pure (.same _)
      ·rintro r _ rfl;try dsimp only
       split<;>exact .pure rfl
    |_=>exact .am
   |_=>first|exact .am|(cases hy<;>exact .am)
  |array len elem=>
   cases hx with
   |agg xs hxs=>
    cases hy with
    |agg ys hys=>
     try dsimp only
     refine ae.bind' (eG elem) ?_;rintro sz _ rfl;refine ae.bind' (Bp len (λi s=>?_) _) ?_
     ·refine ae.bind' (mR elem ⟨xs,rfl,rfl,hxs⟩ _) λa b hab=>?_;refine ae.bind' (mR elem ⟨ys,rfl,rfl,hys⟩ _) λc d hcd=>?_;refine ae.bind' (yG E n m elem hok hab hcd) ?_;rintro r _ rfl;try dsimp only
      split<;>exact .pure (.same _)
     ·rintro r _ rfl;try dsimp only
      split<;>exact .pure rfl
    |_=>exact .am
   |_=>first|exact .am|(cases hy<;>exact .am)
  |_=>cases hok
theorem wL(E:Env P L τ)(hok:gi P m t=true)(hx:VR L τ.all x u)(hy:VR L τ.all y v):ae P G L C τ .own cQ (Op.equal t x y) (Op.equal t u v):=yG E _ m t hok hx hy
end
end
section
section
variable {P:Program}{G:Array Func}{L:ax}{C:FuncId->Code->Prop}{τ:ai}
theorem qP(b:Bool):∀(n:Nat) (t:TypeId) {x u:Value},VR L τ.all x u->ae P G L C τ .own (λ_ _=>True) (Instr.checkKey b n t x) (Instr.checkKey b n t u)
 |0,_,_,_,_=>.am
 |n+1,t,x,u,hx=>by
  unfold Instr.checkKey;refine ae.bind' (cO t) ?_;rintro d _ ⟨rfl,_⟩;cases d with
  |interface ms=>
   cases hx with
   |iface tx h=>
    try dsimp only
    refine ae.bind' (jM tx) ?_;rintro i _ ⟨rfl,_⟩;try dsimp only
    split
    ·refine .af _ ?_;split
     ·exact ak.bind' (.runtimePanic _)
     ·exact ak.then (.typeStr _) λ_=>ak.bind' (.runtimePanic _)
    ·exact qP b n tx h
   |nilIface=>exact .pure trivial
   |_=>exact .am
  |array len elem=>
   cases hx with
   |agg xs hxs=>
    try dsimp only
    refine ae.bind' (Bp len (λi s=>?_) _) λ_ _ _=>.pure trivial;refine ae.bind' (eG elem) ?_;rintro m _ rfl;refine ae.bind' (mR elem ⟨xs,rfl,rfl,hxs⟩ _) λa b hab=>?_;exact ae.bind' (qP _ n elem hab) λ_ _ _=>.pure (.same _)
   |_=>exact .am
  |struct fs=>
   cases hx with
   |agg xs hxs=>
    try dsimp only
    refine ae.bind' (BS fs (λf s _=>?_) _) λ_ _ _=>.pure trivial;split
    ·refine ae.bind' (mR f.type ⟨xs,rfl,rfl,hxs⟩ _) λa b hab=>?_;exact ae.bind' (qP _ n f.type hab) λ_ _ _=>.pure (.same _)
    ·exact .pure (.same _)
   |_=>exact .am
  |_=>exact .pure trivial
def FR(L:ax)(π:Nat->Nat->Prop)(_:Nat):Option (Nat×Value)->Option (Nat×Value)->Prop
 |none,none=>True
 |some (i,v),some (j,w)=>j=i/\VR L π v w
 |_,_=>False
theorem D7(E:Env P L τ)(hok:gi P m t=true)(hx:VR L τ.all x u):∀(l:List (MapEntry×MapEntry)) (i:Nat),(∀z∈l,ER L τ.all z.1 z.2)->
  ae P G L C τ .own (FR L τ.all 0) (Instr.findAsking t x (l.map (·.1)) i) (Instr.findAsking t u (l.map (·.2)) i)
 |[],_,_=>.pure trivial
 |z::l,i,hz=>by
  simp only[VY,Instr.findAsking];refine ae.bind' (wL E hok hx (hz z (by simp)).1) ?_;rintro r _ rfl;try dsimp only
  split
  ·exact .pure ⟨rfl,(hz z (by simp)).2.1⟩
  ·exact D7 E hok hx l (i+1) λy hy=>hz y (by simp[hy])
theorem T4{d:TypeDesc}(hd:P.underlying t=some d)(hx:VR L τ.all x u)(hy:VR L τ.all y v){b:Bool}(h:Instr.sameNow d u v=some b){R:α->β->Prop}{k:Bool->Sem α}{q:Sem β}(hk:ae P G L C τ .own R (k b) q):ae P G L C τ .own R (Op.equal t x y >>=k) q:=by
 have go:∀{f:TypeDesc->Sem Bool},(Op.equalIn 10000 t x y=underlying t >>=f)->(ak (gp P G) (f d)\/f d=pure b)->ae P G L C τ .own R (Op.equal t x y >>=k) q:=by
  intro f hf hor;show ae P G L C τ .own R (Op.equalIn 10000 t x y >>=k) q;rw[hf];refine .oj ?_;show ae P G L C τ .own R ((((match P.underlying t with|some d=>Sem.pure d|none=>(stuck "no such type" :Sem TypeDesc)).bind f)).bind k) q;rw[hd];rcases hor with hdm|he
  ·exact .af _ (ak.bind hdm)
  ·show ae P G L C τ .own R ((f d).bind k) q;rw[he];exact hk
 refine go (f:=λd=>_) (by unfold Op.equalIn;rfl) ?_;cases d with
 |int kk=>
  cases hx with
  |int k a=>
   cases hy with
   |int k' a'=>
    simp only[Instr.sameNow]at h;split at h
    ·rename_i e;subst e;cases h;exact .inr (by simp)
    ·cases h
   |bc=>exact .inl (.stuck _)
   |_=>cases h
  |bc=>cases hy<;>first|exact .inl (.stuck _)|exact .inl (.unsupported _)
  |_=>cases hy<;>first|(cases h;done)|(simp[Instr.sameNow]at h;done)
 |string=>
  cases hx with
  |string a=>
   cases hy with
   |string a'=>cases h;exact .inr rfl
   |bc=>exact .inl (.stuck _)
   |_=>cases h
  |bc=>exact .inl (.stuck _)
  |_=>cases hy<;>first|(cases h;done)|(simp[Instr.sameNow]at h;done)
 |bool=>
  cases hx with
  |bool a=>
   cases hy with
   |bool a'=>cases h;exact .inr rfl
   |bc=>exact .inl (.stuck _)
   |_=>cases h
  |bc=>exact .inl (.stuck _)
  |_=>cases hy<;>first|(cases h;done)|(simp[Instr.sameNow]at h;done)
 |_=>cases u<;>cases v<;>cases h
theorem Hg(d:TypeDesc)(hx:VR L τ.all x u)(hy:VR L τ.all y v):Instr.sameNow d x y=none\/Instr.sameNow d u v=Instr.sameNow d x y:=by
 cases d with
 |int k=>
  cases hx with
  |int=>cases hy with
   |int=>exact .inr rfl
   |_=>exact .inl rfl
  |_=>exact .inl rfl
 |string=>
  cases hx with
  |string=>cases hy with
   |string=>exact .inr rfl
   |_=>exact .inl rfl
  |_=>exact .inl rfl
 |bool=>
  cases hx with
  |bool=>cases hy with
   |bool=>exact .inr rfl
   |_=>exact .inl rfl
  |_=>exact .inl rfl
 |_=>exact .inl rfl
theorem xX(d:TypeDesc)(hx:VR L τ.all x u):∀(l:List (MapEntry×MapEntry)) (i:Nat),(∀z∈l,ER L τ.all z.1 z.2)->
  Instr.findNow d x (l.map (·.1)) i=none\/∃a b,Instr.findNow d x (l.map (·.1)) i=some a/\Instr.findNow d u (l.map (·.2)) i=some b/\FR L τ.all 0 a b
 |[],_,_=>.inr ⟨none,none,rfl,rfl,trivial⟩
 |z::l,i,hz=>by
  simp only[VY,Instr.findNow];rcases Hg d hx (hz z (by simp)).1 with e|e
  ·rw[e];exact .inl rfl
  ·rw[e];cases Instr.sameNow d x z.1.key with
   |none=>exact .inl rfl
   |some b=>
    cases b with
    |true=>exact .inr ⟨_,_,rfl,rfl,rfl,(hz z (by simp)).2.1⟩
    |false=>exact xX d hx l (i+1) λy hy=>hz y (by simp[hy])
theorem BZ{d:TypeDesc}(hd:P.underlying t=some d)(hx:VR L τ.all x u):∀(l:List (MapEntry×MapEntry)) (i:Nat),(∀z∈l,ER L τ.all z.1 z.2)->∀r,Instr.findNow d u (l.map (·.2)) i=some r->
  ae P G L C τ .own (FR L τ.all 0) (Instr.findAsking t x (l.map (·.1)) i) (pure r)
 |[],_,_,r,hr=>by
  simp only[List.map_nil,Instr.findNow,Vv]at hr;subst hr;exact .pure trivial
 |z::l,i,hz,r,hr=>by
  have h0:=hz z (by simp);simp only[VY,Instr.findNow]at hr;cases e:Instr.sameNow d u z.2.key with
  |none=>rw[e]at hr;cases hr
  |some b=>
   rw[e]at hr;simp only[VY,Instr.findAsking];refine T4 hd hx h0.1 e ?_;cases b with
   |true=>
    simp only[Vv]at hr;subst hr;exact .pure ⟨rfl,h0.2.1⟩
   |false=>exact BZ hd hx l (i+1) (λy hy=>hz y (by simp[hy])) r hr
theorem Ij(E:Env P L τ)(hok:gi P m t=true)(hx:VR L τ.all x u){es fs:Array MapEntry}(h:XR (ER L τ.all) es fs):ae P G L C τ .own (FR L τ.all 0) (Instr.findKey t x es.toList) (Instr.findKey t u fs.toList):=by
 obtain⟨l,h1,h2,h3⟩:=h.list;rw[h1,h2];unfold Instr.findKey;refine ae.bind' (cO t) ?_;rintro d _ ⟨rfl,hd⟩;try dsimp only
 rcases xX d hx l 0 h3 with e|⟨a,b,e1,e2,hab⟩
 ·rw[e];cases e':Instr.findNow d u (l.map (·.2)) 0 with
  |none=>exact D7 E hok hx l 0 h3
  |some r=>exact BZ hd hx l 0 h3 r e'
 ·rw[e1,e2];exact .pure hab
theorem Iz(E:Env P L τ)(hok:∀k e,P.underlying t=some (.map k e)->gi P m k=true)(h:VR L τ.all v w)(hx:VR L τ.all x y)(ok:Bool):ae P G L C τ .own (VR L τ.all) (Instr.lookup t v x ok) (Instr.lookup t w y ok):=by
 have rest:∀(key elem:TypeId) {es fs:Array MapEntry},gi P m key=true->XR (ER L τ.all) es fs->ae P G L C τ .own (VR L τ.all)
   (do
    Instr.checkKey es.isEmpty 10000 key x
    let (v,k) ←match ←Instr.findKey key x es.toList with
     |some (_,v)=>pure (v,true)
     |none=>do pure (← zeroValue elem,false)
    pure (if ok then .tuple #[v,.bool k] else v))
   (do
    Instr.checkKey fs.isEmpty 10000 key y
    let (v,k) ←match ←Instr.findKey key y fs.toList with
     |some (_,v)=>pure (v,true)
     |none=>do pure (← zeroValue elem,false)
    pure (if ok then .tuple #[v,.bool k] else v)):=by
  intro key elem es fs hk hes;rw[hes.isEmpty];refine ae.bind' (qP _ _ key hx) λ_ _ _=>?_;refine ae.bind' (Ij E hk hx hes) λa b hab=>?_;match a,b,hab with
  |none,none,_=>
   refine ae.bind' (mS E elem) λu v huv=>?_;refine .pure ?_;try dsimp only
   split
   ·exact .pair huv (.bool _)
   ·exact huv
  |some (i,u),some (j,v),⟨_,huv⟩=>
   refine .pure ?_;try dsimp only
   split
   ·exact .pair huv (.bool _)
   ·exact huv
 unfold Instr.lookup;refine ae.bind' (cO t) ?_;rintro d _ ⟨rfl,hd⟩;cases d with
 |map key elem=>
  have hk:=hok key elem hd;cases h with
  |kH=>exact rest key elem hk .nil
  |map hrs=>
   refine ae.bind' (lk hrs) λo q ho=>?_;cases ho with
   |map c hes=>exact rest key elem hk hes
   |_=>exact .af _ (ak.bind' (.stuck _))
  |_=>exact .af _ (ak.bind' (.stuck _))
 |_=>exact .am
end
end
end Go.Proofs.YtldmcdeibiclkaaGreatDoor.U
