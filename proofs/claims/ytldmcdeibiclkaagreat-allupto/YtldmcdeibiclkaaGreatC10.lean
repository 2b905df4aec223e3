/-
  Toward all_holds
-/
import Derived.Test.YtldmcdeibiclkaaGreatC09
import Derived.Test.YtldmcdeibiclkaaGreatC01
set_option linter.all false
noncomputable section
set_option maxRecDepth 100000
set_option maxHeartbeats 20000000
namespace Go.Proofs.YtldmcdeibiclkaaGreat.U
variable {v v1:af}{t:Trace}{gs:Array ai}{xs:Nat->ag}{s':PS}{g h h1:ai}{N j:Nat}{mt':Mt}
section
open Go.Conc
open Go.ConcN (upd upd_same upd_ne sumTo sumTo_upd sumTo_congr sumTo_le le_sumTo RelBy)
theorem PO(p:Pl)(xs:Nat->ag)(wg:Nat)(h:N<=3):less ((N+1)*bM:Nat)=(N*bM:Nat)/\QuitsD Pg 94 1 (pe (cD p xs::ic p xs) wg (N*bM:Nat)):=by
 rcases (show N=0\/N=1\/N=2\/N=3 by omega) with rfl|rfl|rfl|rfl<;>exact⟨zk,Jn _ _ wg (λw=>zk) zk (λw=>zk) zk (λw=>zk) (Bg p xs)⟩
theorem Lw(p:Pl)(xs:Nat->ag)(wg:Nat)(h1:1<=N)(h:N<=3):less ((N+1)*bM+1:Nat)=(N*bM+1:Nat)/\QuitsD Pg 94 1 (pe (cD p xs::ic p xs) wg (N*bM+1:Nat)):=by
 rcases (show N=1\/N=2\/N=3 by omega) with rfl|rfl|rfl<;>exact⟨zk,Jn _ _ wg (λw=>zk) zk (λw=>zk) zk (λw=>zk) (Bg p xs)⟩
section
variable {L:aR}{T:bw}{Goal:al->List al->af->Prop}{X:PC L}
theorem Wk.BH(σ:Wk):σ.cnt<=1:=by cases σ<;>simp[Wk.cnt]
theorem Wk.A2(σ:Wk):(σ.cnt=1↔4<=σ.aI):=by cases σ<;>simp[Wk.cnt,Wk.aI]<;>omega
theorem Mt.aaG(mt:Mt)(c a:Nat):mt.aI a<=mt.aI c+11:=by
 cases mt<;>simp only[Mt.aI]<;>(try omega);grind
theorem H9(O:bl T Goal X){s:PS}(H:PI T Goal X s gs v t):s.c+s.mt.gm<=4:=by
 have h1:s.c<=1*s.j:=sumTo_le λi _=>Wk.BH _;have d:=EY O H.ac H.gs;have a:=H.ac.on;have e:=O.nw;obtain⟨h,_,b⟩:=H.gs.main;cases hmt:s.mt<;>rw[hmt]at a b<;>simp only[Mt.on,cZ,Mt.gm]at a b ⊢ <;>omega
theorem KB{f:Nat->Nat}:∀{j k:Nat},k<j->sumTo j f=f k->∀i,i<j->i≠k->f i=0
 |j+1,k,d,h,i,hi,c=>by
  simp only[sumTo]at h;rcases abw k j with a|a
  .have h1:=le_sumTo (f:=f) a;rcases abw i j with b|b
   .exact KB a zo i b c
   grind
  .obtain rfl:k=j:=zo;have e:=le_sumTo (f:=f) (show i<k by omega);omega
def OQ(d:Nat)(a:Addr):deafBehind d #[⟨.cell a,false,true⟩,⟨.cell a,true,true⟩]=d:=rfl
theorem VO(O:bl T Goal X){s:PS}{sl:Option (Nat×Nat)}(H:PI T Goal X s gs v t)(F:∀n xs,s.mt=.fin n xs->False){k:Nat}(m:k<s.j)(hσ:s.ws k=.add 0 xs):ct T Goal X s gs v sl t (X.n0+k):=by
 obtain⟨g,hg,V⟩:=H.gs.work k m;rw[hσ]at V;obtain⟨K,W⟩:=V;cases K;have hr:(s.ws k).aI=4:=zx;have ab:(s.ws k).cnt=1:=zx;have ad:1<=s.c:=by have:=le_sumTo (f:=λi=>(s.ws i).cnt) m;unfold PS.c;omega
 have an:=H9 O H;have z:=H.ac.gone k m zo;obtain⟨r,hrel⟩:=H.tr.rel k m zx;have Y: ¬s.ow k X.M.wg:=λh=>by have:=(H.tr.own k _ m h).1;omega
 have Z:=nz v X.M.wg 0;have key:∀(d:Nat) (σ:Wk),less s.st=d->σ.cnt=0->σ.dr=none->σ.parked=false->σ.rel=true->σ.aI<=3->iQ T Goal X (s.ow k) 1 (pe (cD X.p xs::ic X.p xs) X.M.wg d) (v.setCell (.a X.M.wg 0) (.int .u64 d)) σ->
   (∀mt',jP s.mt mt'->Wg {s.wk mt' k σ (s.ow k) with st:=d,sm:=s.sm})->ct T Goal X s gs v sl t (X.n0+k):=by
  intro d σ P h1 h2 h3 h4 h5 Q R;have e:=bg.value (yH (cD X.p xs::ic X.p xs) X.M.wg) (ZP _ _ s.st) (w:=v) (w':=v.setCell (.a X.M.wg 0) (.int .u64 (less s.st))) (es:=#[bt (.extern 189),⟨.cell (cO X),false,true⟩,⟨.cell (cO X),true,true⟩])
   ⟨H.wd.cell0,zp,zp,⟨_,H.wd.cell0⟩,H.wd.frozen 0,rfl,rfl⟩
  rw[Uj,P]at e;have A:=sH (X:=X) (s':=s.wk s.mt k σ (s.ow k)) (g:=X.n0+k) (B:=(v.setCell (.a X.M.wg 0) (.int .u64 d)).heap.size) (by rw[(Z _).1];exact H.wd.size) (es:=#[⟨.cell (cO X),false,true⟩,⟨.cell (cO X),true,true⟩]) (λe he=>zg);refine gO O H m hg e σ (s.ow k) d s.sm (by rw[OQ,W];exact Q) zg (λb _ _ hb=>(Z _).2 b hb) (λb hb=>.inl hb) (H.wd.yJ d) ⟨rfl,rfl,rfl⟩ (H.ac.wk _ (by rw[hσ];exact h2) (λh=>by rw[h3]at h;cases h) (λ_=>z)) (λmt' u _=>R mt' u) A.1 A.2.1 (λ_=>⟨r,?_⟩) A.2.2 F (λmt' u=>.inl ?_)
  .refine RelBy.appOwn hrel _ _ _ λj e he=>.inr ⟨?_,?_⟩
   .grind
   .rw[W];have:j=0\/j=1:=by
     grind
    rcases this with rfl|rfl<;>simp[deafBehind]
  .have a1:=s.qd mt' m σ (s.ow k) Wk.aI;have a2:=s.oX mt' m σ (s.ow k);have x:=(u.facts (X:=X)).1 s.c;have y:=mt'.aaG s.c (s.wk mt' k σ (s.ow k)).c;show mt'.aI (s.wk mt' k σ (s.ow k)).c+sumTo s.j (λi=>((s.wk mt' k σ (s.ow k)).ws i).aI)+12*(s.wk mt' k σ (s.ow k)).c+60*(X.E.n-s.rN)<s.mt.aI s.c+sumTo s.j (λi=>(s.ws i).aI)+12*s.c+60*(X.E.n-s.rN);omega
 have G:∀mt' σ,σ.cnt=0->(s.wk mt' k σ (s.ow k)).c+1=s.c:=λmt' σ h=>by have:=s.oX mt' m σ (s.ow k);omega
 have I:∀mt' σ,σ.aI=0->rK s->∀i,i<s.j->((s.wk mt' k σ (s.ow k)).ws i).aI=0\/4<=((s.wk mt' k σ (s.ow k)).ws i).aI:=λmt' σ h0 hn i hi=>by
  by_cases o:i=k
  .subst o;rw[(s.gw mt' i σ (s.ow i)).1];exact .inl h0
  .rw[(s.iO mt' σ (s.ow k) o).1];exact hn i hi
 cases ao:H.wg with
 |opn a1 a2 x y C=>
  have hl:=PO X.p xs X.M.wg (N:=s.c+s.mt.gm-1) zo;rw[show s.c+s.mt.gm-1+1=s.c+s.mt.gm by omega,<-x]at hl;refine key _ (.quit 94) hl.1 rfl rfl rfl rfl (by simp[Wk.aI]) hl.2 λmt' u=>?_;obtain⟨_,_,_,_,S,_,U,J,f9,_,D,_⟩:=u.facts (X:=X)
  have:=G mt' (.quit 94) rfl;refine .opn (U.trans a1) (I mt' _ rfl a2) ?_ y (λq n xs ys e=>?_)
  .show (s.c+s.mt.gm-1)*bM=((s.wk mt' k (.quit 94) (s.ow k)).c+mt'.gm)*bM;rw[S];congr 1;omega
  .show (s.wk mt' k (.quit 94) (s.ow k)).c<=q
   have:=C q n xs ys (D q n xs ys e);omega
 |eX a1 a2 x y C=>
  by_cases h1:s.c=1
  .refine key 1 (.iI 103 xs) (by rw[y,h1];kernel_rfl) rfl rfl rfl rfl (by simp[Wk.aI]) ⟨(QC _ _ _).bu,rfl⟩ λmt' u=>?_;obtain⟨_,_,_,_,S,_,U,J,f9,_,D,_⟩:=u.facts (X:=X);have l:=(s.gw mt' k (.iI 103 xs) (s.ow k)).1;refine .last k (J.trans a1) m ?_ ?_ (λi hi o=>?_) ?_ C
   .show 1<=((s.wk mt' k (.iI 103 xs) (s.ow k)).ws k).aI;rw[l];simp[Wk.aI]
   .show ((s.wk mt' k (.iI 103 xs) (s.ow k)).ws k).aI<=3;rw[l];simp[Wk.aI]
   .show ((s.wk mt' k (.iI 103 xs) (s.ow k)).ws i).aI=0;rw[(s.iO mt' (.iI 103 xs) (s.ow k) o).1];have hz:=KB (f:=λi=>(s.ws i).cnt) m (by show s.c=(s.ws k).cnt;omega) i hi o;rcases a2 i hi with h|h
    .exact h
    .have:=(Wk.A2 (s.ws i)).2 h;omega
   .show (1:Nat)=if ((s.wk mt' k (.iI 103 xs) (s.ow k)).ws k).aI=1 then 0 else 1
    rw[l];simp[Wk.aI]
  .have hl:=Lw X.p xs X.M.wg (N:=s.c-1) zo zo;rw[show s.c-1+1=s.c by omega,<-y]at hl;refine key _ (.quit 94) hl.1 rfl rfl rfl rfl (by simp[Wk.aI]) hl.2 λmt' u=>?_;obtain⟨_,_,_,_,S,_,U,J,f9,_,D,_⟩:=u.facts (X:=X)
   have:=G mt' (.quit 94) rfl;refine .eX (J.trans a1) (I mt' _ rfl a2) (by show 1<=(s.wk mt' k (.quit 94) (s.ow k)).c;omega) ?_ C;show(s.c-1)*bM+1=(s.wk mt' k (.quit 94) (s.ow k)).c*bM+1;congr 2;omega
 |last q a1 a2 x y C a6 a7=>
  grind
 |gZ a1 a2 x y C=>have:=x k m;omega
 |done a1 a2 x y C=>have:=x k m;omega
theorem BW{s:PS}(H:Wg s){k:Nat}(b:k<s.j)(h1:1<=(s.ws k).aI)(e:(s.ws k).aI<=3):kH s.mt=true/\(∀i,i<s.j->i≠k->(s.ws i).aI=0)/\s.st=(if (s.ws k).aI=1 then 0 else 1)/\s.sm=0:=by
 cases H with
 |opn a1 a2 a c d=>have:=a2 k b;omega
 |eX a1 a2 a c d=>have:=a2 k b;omega
 |last q a1 a2 a c d f l=>
  grind
 |gZ a1 a2 a c d=>have:=a k b;omega
 |done a1 a2 a c d=>have:=a k b;omega
theorem Wa(O:bl T Goal X){s:PS}{sl:Option (Nat×Nat)}(H:PI T Goal X s gs v t)(f:∀n xs,s.mt=.fin n xs->False){k:Nat}(c:k<s.j)(hσ:s.ws k=.iI 0 xs):ct T Goal X s gs v sl t (X.n0+k):=by
 obtain⟨g,A,u⟩:=H.gs.work k c;rw[hσ]at u;obtain⟨o,x⟩:=u;cases o;have B:(s.ws k).aI=3:=zx;obtain⟨C,l2,y,D⟩:=BW H.wg c zo zo;rw[B]at y;have l:s.st=1:=by simpa using y
 have z:=H.wd.cell0;rw[l]at z;have e:=bg.value (zQ (cD X.p xs) (ic X.p xs) X.M.wg) (Se _ _ _) (w:=v) (w':=v) (es:=#[bt (.extern 190),⟨.cell (cO X),false,true⟩]) ⟨z,rfl,rfl⟩;rw[VG]at e;have d:=sH (X:=X) (s':=s.wk s.mt k (.ft 20 xs) (s.ow k)) (g:=X.n0+k) H.wd.size (es:=#[⟨.cell (cO X),false,true⟩]) (λe E=>zg);obtain⟨r,hrel⟩:=H.tr.rel k c zx;refine gO O H c A e (.ft 20 xs) (s.ow k) s.st s.sm ⟨(Tu _ _ _).bu,by rw[show deafBehind (Deaf t (X.n0+k)) _=Deaf t (X.n0+k) from rfl];exact x⟩ zf (λ_ _ _ _=>rfl) (λb hb=>.inl hb) H.wd.wg ⟨rfl,rfl,rfl⟩ (H.ac.wk _ zx zc (λ_=>H.ac.gone k c zo)) (λmt' q _=>?_) d.1 d.2.1 (λ_=>⟨r,?_⟩) d.2.2 f (λmt' q=>jB c (by rw[hσ];simp[Wk.aI]) zx mt' q _ _ _)
 .have F:=(q.facts (X:=X)).2.2.2.2.2.2.2.1;have a:=(s.gw mt' k (.ft 20 xs) (s.ow k)).1;refine .last k (F.trans C) c ?_ ?_ (λi hi m=>?_) ?_ D
  .show 1<=((s.wk mt' k (.ft 20 xs) (s.ow k)).ws k).aI;rw[a];simp[Wk.aI]
  .show ((s.wk mt' k (.ft 20 xs) (s.ow k)).ws k).aI<=3;rw[a];simp[Wk.aI]
  .show ((s.wk mt' k (.ft 20 xs) (s.ow k)).ws i).aI=0;rw[(s.iO mt' (.ft 20 xs) (s.ow k) m).1];exact l2 i hi m
  .show s.st=if ((s.wk mt' k (.ft 20 xs) (s.ow k)).ws k).aI=1 then 0 else 1
   rw[a,l];simp[Wk.aI]
 .refine RelBy.appOwn hrel _ _ _ λj e E=>.inr ⟨?_,?_⟩
  .grind
  .rw[x];have:j=0:=by
    grind
   subst this;simp[deafBehind]
theorem Ss(O:bl T Goal X){s:PS}{sl:Option (Nat×Nat)}(H:PI T Goal X s gs v t)(l:∀n xs,s.mt=.fin n xs->False){k:Nat}(d:k<s.j)(hσ:s.ws k=.ft 0 xs):ct T Goal X s gs v sl t (X.n0+k):=by
 obtain⟨g,z,u⟩:=H.gs.work k d;rw[hσ]at u;obtain⟨o,x⟩:=u;cases o;have F:(s.ws k).aI=2:=zx;obtain⟨A,l2,G,C⟩:=BW H.wg d zo zo;have y:=nz v X.M.wg 0;have e:=bg.value (BU (cD X.p xs) (ic X.p xs) X.M.wg) (Xf _ _ _) (w:=v) (w':=v.setCell (.a X.M.wg 0) (.int .u64 0)) (es:=#[bt (.extern 191),⟨.cell (cO X),true,true⟩]) ⟨zp,zp,⟨_,H.wd.cell0⟩,H.wd.frozen 0,rfl,rfl⟩;rw[WS]at e;have f:=sH (X:=X) (s':=s.wk s.mt k (.iu 27 xs) (s.ow k)) (g:=X.n0+k) (B:=(v.setCell (.a X.M.wg 0) (.int .u64 0)).heap.size) (by rw[(y _).1];exact H.wd.size) (es:=#[⟨.cell (cO X),true,true⟩]) (λe D=>zg);obtain⟨r,hrel⟩:=H.tr.rel k d zx;refine gO O H d z e (.iu 27 xs) (s.ow k) 0 s.sm ⟨(Ro _ _ _).bu,by rw[show deafBehind (Deaf t (X.n0+k)) _=Deaf t (X.n0+k) from rfl];exact x⟩ zg (λb _ _ hb=>(y _).2 b hb) (λb hb=>.inl hb) (H.wd.yJ 0) ⟨rfl,rfl,rfl⟩ (H.ac.wk _ zx zc (λ_=>H.ac.gone k d zo)) (λmt' q _=>?_) f.1 f.2.1 (λ_=>⟨r,?_⟩) f.2.2 l (λmt' q=>jB d (by rw[hσ];simp[Wk.aI]) zx mt' q _ _ _)
 .have E:=(q.facts (X:=X)).2.2.2.2.2.2.2.1;have c:=(s.gw mt' k (.iu 27 xs) (s.ow k)).1;refine .last k (E.trans A) d ?_ ?_ (λi hi m=>?_) ?_ C
  .show 1<=((s.wk mt' k (.iu 27 xs) (s.ow k)).ws k).aI;rw[c];simp[Wk.aI]
  .show ((s.wk mt' k (.iu 27 xs) (s.ow k)).ws k).aI<=3;rw[c];simp[Wk.aI]
  .show ((s.wk mt' k (.iu 27 xs) (s.ow k)).ws i).aI=0;rw[(s.iO mt' (.iu 27 xs) (s.ow k) m).1];exact l2 i hi m
  .show (0:Nat)=if ((s.wk mt' k (.iu 27 xs) (s.ow k)).ws k).aI=1 then 0 else 1
   rw[c];simp[Wk.aI]
 .refine RelBy.appOwn hrel _ _ _ λj e D=>.inr ⟨?_,?_⟩
  .grind
  .rw[x];have:j=0:=by
    grind
   subst this;simp[deafBehind]
theorem Sw(O:bl T Goal X){s:PS}{sl:Option (Nat×Nat)}(H:PI T Goal X s gs v t)(m:∀n xs,s.mt=.fin n xs->False){k:Nat}(l:k<s.j)(hσ:s.ws k=.iu 0 xs):ct T Goal X s gs v sl t (X.n0+k):=by
 obtain⟨g,D,y⟩:=H.gs.work k l;rw[hσ]at y;obtain⟨o,z⟩:=y;cases o;have E:(s.ws k).aI=1:=zx;obtain⟨F,l2,A,G⟩:=BW H.wg l zo zo;rw[E]at A;have q:s.st=0:=by simpa using A
 have C:=nz v X.M.wg 1;have u:=H.wd.Fv;rw[G]at u;have e:=bg.value (AH (cD X.p xs) (ic X.p xs) X.M.wg) (XQ _ _ _) (w:=v) (w':=v.setCell (.a X.M.wg 1) (.int .u32 1)) (es:=#[bt (.extern 168),bt .disable,⟨.cell (.a X.M.wg 1),false,true⟩,⟨.cell (.a X.M.wg 1),true,true⟩,bt .enable]) ⟨u,zp,zp,⟨_,u⟩,H.wd.frozen 1,rfl,rfl⟩;rw[Rs]at e;have d:=sH (X:=X) (s':=s.wk s.mt k (.quit 24) (s.ow k)) (g:=X.n0+k) (B:=(v.setCell (.a X.M.wg 1) (.int .u32 1)).heap.size) (by rw[(C _).1];exact H.wd.size) (es:=#[bt .disable,⟨.cell (.a X.M.wg 1),false,true⟩,⟨.cell (.a X.M.wg 1),true,true⟩,bt .enable]) (λe c=>by
  simp at c;grind)
 obtain⟨r,hrel⟩:=H.tr.rel k l zx;refine gO O H l D e (.quit 24) (s.ow k) s.st 1 (by rw[z];exact TT _ _ _ (Bg X.p xs)) zg (λb _ _ hb=>(C _).2 b hb) (λb hb=>.inl hb) (H.wd.Gj 1) ⟨rfl,rfl,rfl⟩ (H.ac.wk _ zx zc (λ_=>H.ac.gone k l zo)) (λmt' x hb=>?_) d.1 d.2.1 (λ_=>⟨r,?_⟩) d.2.2 m (λmt' x=>jB l (by rw[hσ];simp[Wk.aI]) zx mt' x _ _ _)
 .have I:=(x.facts (X:=X)).2.2.2.2.2.2.2.1;refine .gZ (I.trans F) (hb (Qf _ _ _) rfl) (λi hi=>?_) q rfl;show((s.wk mt' k (.quit 24) (s.ow k)).ws i).aI=0;by_cases f:i=k
  .subst f;rw[(s.gw mt' i (.quit 24) (s.ow i)).1];rfl
  .rw[(s.iO mt' (.quit 24) (s.ow k) f).1];exact l2 i hi f
 .refine RelBy.appOwn hrel _ _ _ λj e c=>?_;have hj:j=0\/j=1\/j=2\/j=3:=by
   grind
  rw[z];rcases hj with rfl|rfl|rfl|rfl
  .simp at c;subst c;exact .inl rfl
  .simp at c;subst c;exact .inr ⟨⟨_,_,rfl⟩,by simp[deafBehind,bt]⟩
  .simp at c;subst c;exact .inr ⟨⟨_,_,rfl⟩,by simp[deafBehind,bt]⟩
  .simp at c;subst c;exact .inl rfl
end
end
section
open Go.Conc
open Go.ConcN (upd upd_same upd_ne sumTo sumTo_upd sumTo_congr sumTo_le le_sumTo RelBy)
theorem O2(p:Pl)(xs:Nat->ag):gP (iV p xs) (iV p xs).frame=iV p xs:=zk
theorem RO(p:Pl)(xs:Nat->ag):({iV p xs with status:=.running}:ai)=iV p xs:=zk
theorem Rn(p:Pl)(xs:Nat->ag)(l:List Nat):gP (bO p xs l) (bO p xs l).frame=bO p xs l:=zk
theorem Yl(p:Pl)(xs:Nat->ag)(cs:Array CommCase):(bO p xs [7]).finishComm Pg cs .send 0 undef false=bO p xs []:=zk
section
variable {L:aR}{T:bw}{Goal:al->List al->af->Prop}{X:PC L}
theorem yI(O:bl T Goal X){s:PS}(H:Gs T Goal X s gs v t)(d:gs[j]?=some g):(∃k xs,k<s.j/\j=X.n0+k/\s.ws k=.eB xs/\g=kg X xs)\/∀r b,offersAt g r b= []:=by
 have e:=(IN.1 d).1;rw[H.size]at e;rcases acL j with rfl|a
 .obtain⟨h,f,i⟩:=H.main;rw[d]at f;cases f;refine .inr λr b=>?_;rcases i.status O with⟨_,hs⟩|⟨xs,ys,_,rfl⟩
  .exact offersAt_of_not_blocked (by rw[hs];simp) r b
  .rfl
 .rcases abw j X.n0 with hj|hj
  .have:=(H.lN j g a hj d).status;exact .inr λr b=>offersAt_of_not_blocked zg r b
  .obtain⟨k,rfl⟩: ∃k,j=X.n0+k:=⟨j-X.n0,zo⟩
   have l:k<s.j:=zo;obtain⟨n,c,m⟩:=H.work k l;rw[d]at c;cases c;rcases m.status with⟨_,hs⟩|⟨xs,h1,o⟩
   .exact .inr λr b=>offersAt_of_not_blocked zg r b
   grind
theorem G3(O:bl T Goal X){s:PS}(H:Gs T Goal X s gs v t)(i r:Nat)(b:Bool)(h:b=true\/r≠X.M.cN):partners (gs.setIfInBounds i ph) r b= []:=by
 refine partners_nil λj g a=>?_;rcases getElem?_stand gs i j g a with⟨_,rfl⟩|⟨_,a⟩
 .rfl
 .rcases yI O H a with⟨k,xs,_,_,_,rfl⟩|c
  .unfold kg;rw[uS];rcases h with rfl|h
   .exact offersAt_parked_recv' _ _ _ _ _
   .cases b with
    |true=>exact offersAt_parked_recv' _ _ _ _ _
    |false=>rw[offersAt_parked_recv,AT (Ne.symm h)]
  .exact c r b
theorem Tr.still{s:PS}(H:Tr X s v t)(c:s'.j=s.j)(d:s'.ow=s.ow)(m:∀k,k<s.j->(s'.ws k).rel=true->(s.ws k).rel=true)(o:s'.mt.deaf=s.mt.deaf)(l:v1=v.heap.size)(p:∀n xs,s'.mt=.fin n xs->False){u:List MemOp}(h1:∀op∈u,op.act.touch?=none)(q:∀op∈u,op.act.low v)(w:∀op∈u,sf op.act)(x:∀op∈u,op.act≠.mark (.release (cO X))):Tr X s' v1 (t++u.toArray):=by
 have a:jF X s'=jF X s:=by unfold jF;rw[c,d]
 have e:gS X s'=gS X s:=by funext k;simp only[gS,c]
 refine⟨?_,?_,?_,λk f i=>?_,H.norel.app (λop b=>x op (by simpa using b)),by rw[oQ t 0 u w,H.d0,o],λn xs h=>(p n xs h).elim⟩
 .rw[a,e,l];exact H.tp.still u h1 q
 .rw[c,d,l];exact H.own
 .rw[c,d];exact H.apart
 .rw[c]at f;obtain⟨r,i⟩:=H.rel k f (m k f i);exact⟨r,RelBy.still i λop b=>h1 op (by simpa using b)⟩
theorem Gs.comm{s:PS}(O:bl T Goal X)(H:Gs T Goal X s gs v t){k:Nat}(C:k<s.j){g1:ai}(d:s'.j=s.j)(f:∀i,i≠k->s'.ws i=s.ws i)(l:s'.ow=s.ow)(m:s'.mt=s.mt)(n:s'.q=s.q){u:List MemOp}(o:∀op∈u,sf op.act)(p:iQ T Goal X (s.ow k) (Deaf t (X.n0+k)) g1 v1 (s'.ws k))(hs:v<=v1.heap.size)(w:∀b,((∃r,X.E.ρ r b)\/∃i,i<s.j/\s.ow i b)->v1.heap[b]?=v.heap[b]?):Gs T Goal X s' (gs.setIfInBounds (X.n0+k) g1) v1 (t++u.toArray):=by
 have y:=O.n0;have a:=λi=>oQ t i u o;obtain⟨h,D,z⟩:=H.main;refine⟨by simp[H.size,d],⟨h,zg,by rw[m];exact z⟩,λi hi=>?_,λi x hi A e=>?_,λi hi=>?_⟩
 .rw[d]at hi;rw[a,l];by_cases c:i=k
  .subst c;exact⟨g1,by rw[acB (by rw[H.size];omega)],p⟩
  .obtain⟨x,F,B⟩:=H.work i hi;refine⟨x,zg,?_⟩;rw[f i c];exact B.nM hs λb hb=>w b (hb.imp id λx=>⟨i,hi,x⟩)
 .rw[abA zo]at e;rw[a,n];exact H.lN i x hi A e
 .rw[a];exact H.above i (by simpa using hi)
theorem vf(v:af)(c cap:Nat)(a:aa)(cl:Bool)(s r:Nat)(d:Bool)(e:c<v):(v.setChan c cap a cl s r d).heap.size=v.heap.size/\(v.setChan c cap a cl s r d).heap[c]?=some (.chan cap a cl s r d)/\(∀b,b≠c->(v.setChan c cap a cl s r d).heap[b]?=v.heap[b]?)/\(v.setChan c cap a cl s r d).tape=v.tape/\(v.setChan c cap a cl s r d).os=v.os/\(v.setChan c cap a cl s r d).output=v.output:=by
 refine⟨by simp[World.setChan],by simp[World.setChan,e],λb hb=>by simp[World.setChan,abA (Ne.symm hb)],rfl,rfl,rfl⟩
def Ko{s:PS}{k:Nat}(a:k<s.j)(σ:Wk):sumTo s.j (λi=>if ((upd s.ws k σ) i).dr.isSome then 1 else 0)+(if (s.ws k).dr.isSome then 1 else 0)=sumTo s.j (λi=>if (s.ws i).dr.isSome then 1 else 0)+(if σ.dr.isSome then 1 else 0):=
 sumTo_upd s.ws σ (λx=>if x.dr.isSome then 1 else 0) a
theorem J4(O:bl T Goal X){s:PS}{sl:Option (Nat×Nat)}(H:PI T Goal X s gs v t)(F:∀n xs,s.mt=.fin n xs->False){k:Nat}(C:k<s.j)(hσ:s.ws k=.recv 0 xs\/s.ws k=.woken xs):ct T Goal X s gs v sl t (X.n0+k):=by
 obtain⟨g,hg,W⟩:=H.gs.work k C;have ay:=O.n0;have e2:=O.cN;have e6:=O.wg;have e4:=O.cB;have e1:=O.bT;have e3:=O.bN;have e5:=O.bB;have Y:(X.n0+k==0)=false:=zt;have hd:Deaf t (X.n0+k)=0:=by
  rcases hσ with hσ|hσ<;>rw[hσ]at W<;>exact W.2
 have D:(s.ws k).aI=9/\(s.ws k).dr=none/\(s.ws k).cnt=1/\(s.ws k).tree=none:=by rcases hσ with hσ|hσ<;>rw[hσ]<;>exact⟨rfl,rfl,rfl,rfl⟩
 have e:stepG Pg (X.n0+k==0) g v=.comm (iV X.p xs) #[rcase X.M.cN (.i 0)] true (.recv true) v #[]:=by
  have hc:=bg.comm (Bq X.p xs) (T4 X.p xs) (w:=v) (w':=v) (es:=#[]) ⟨rfl,rfl⟩;rw[fY,O2]at hc;rw[Y];rcases hσ with hσ|hσ
  .rw[hσ]at W;have an:=W.1;cases an;exact hc
  .rw[hσ]at W;rw[W.1];unfold kg;rw[stepG_tries,RO];exact hc
 have hz:∀fn pos,MemOp.ofEvents (X.n0+k) fn pos #[]=#[]:=λfn pos=>by simp[ofEvents_eq]
 have o:=H.wd.cN;have U:X.M.cN<v:=zg;have V:=G3 O H.gs (X.n0+k) X.M.cN true (.inl rfl);have av:∀i b,i<s.j->s.ow i b->b≠X.M.cN:=λi b hi hb h=>by have:=(H.tr.own i b hi hb).1;omega
 cases hb:s.dW with
 |cons i rest=>
  rw[hb]at o;have d:=crowd_recv_buf (P:=Pg) (sl:=sl) hg e o zp V;obtain⟨c1,c2,c3,c4,c5,c6⟩:=vf v X.M.cN X.E.n (rest.map X.num).toArray s.mt.shut (s.mt.dh X) (s.rN+1) false U;have ex:((i::rest).map X.num).toArray.extract 1 ((i::rest).map X.num).toArray.size=(rest.map X.num).toArray:=zg;have eg:((i::rest).map X.num).toArray.getD 0 undef=X.num i:=zp;rw[ex,eg,hz,acp]at d;have S:=H.ac.nf;have ao:=H.ac.dh;rw[hb]at S;simp only[abi]at S;have aq:=H.ac.gC i (by rw[hb];simp);let s':PS:={s with ws:=upd s.ws k (.draw 11 i (kY xs (IntKind.i64.wrap (X.E.first+i)))),dW:=rest,rN:=s.rN+1}
  have z:∀m,m≠k->s'.ws m=s.ws m:=λm y=>upd_ne _ _ y;have f:s'.ws k=.draw 11 i (kY xs (IntKind.i64.wrap (X.E.first+i))):=upd_same _ _ _;refine⟨s',_,_,_,d,⟨?_,?_,?_,?_,?_⟩,.inl ?_⟩
  .refine H.gs.comm O C (s':=s') rfl z rfl rfl rfl (u:=[_,_]) ?_ ?_ zo ?_
   .intro op a;simp at a;rcases a with rfl|rfl<;>exact⟨zp,zp⟩
   .rw[f];refine⟨?_,hd,aq,rfl⟩;have Z:=(GG X.p xs (IntKind.i64.wrap (X.E.first+i))).bu;rw[IK]at Z;exact Z
   .rintro b (⟨r,D⟩|⟨m,y,ab⟩)
    .exact c3 b (by have:=(O.K.dq r b D).2;omega)
    grind
  .refine⟨⟨zo,λb ab=>by rw[c3 b zo];exact H.wd.old.2 b ab⟩,by rw[c1];exact H.wd.size,?_,?_,?_,c2,?_,?_,H.wd.tape,H.wd.os,H.wd.output⟩
   .rw[c3 _ zo];exact H.wd.bT
   .rw[c3 _ zo];exact H.wd.bN
   .rw[c3 _ zo];exact H.wd.bB
   .obtain⟨sB,h⟩:=H.wd.cB;grind
   .rw[c3 _ zo];exact H.wd.wg
  .have ar:=Ko C (.draw 11 i (kY xs (IntKind.i64.wrap (X.E.first+i))));have B:=H.ac.count;rw[hb]at B;simp only[abi]at B;rw[D.2.1]at ar;refine⟨H.ac.on,H.ac.dh,zg,λm y=>?_,?_,λm y=>H.ac.gC m zg,H.ac.okB,λm y hp=>?_,λm y G=>?_⟩
   .rcases H.ac.cover m y with h|h|⟨k',h1,h2⟩
    .rw[hb]at h;rcases abk.1 h with rfl|h
     .exact .inr (.inr ⟨k,C,by rw[f];rfl⟩)
     .exact .inl h
    .exact .inr (.inl h)
    grind
   .grind
   .by_cases l:m=k
    .subst l;rw[f]at hp;cases hp
    .rw[z m l]at hp
     have:=(H.ac.eB m y hp).1;grind
   .by_cases l:m=k
    .subst l;rw[f]at G;simp[Wk.aI]at G
    .rw[z m l]at G
     have:=(H.ac.gone m y G).2;grind
  .have:=H.wg.iW X C (σ:=.draw 11 i (kY xs (IntKind.i64.wrap (X.E.first+i)))) (s.ow k) zo (by simp[Wk.aI]) (by rw[D.2.2.1];rfl) s.mt (.inl rfl);cases this with
   |opn a1 a2 I J Q=>exact .opn a1 a2 I J Q
   |eX a1 a2 I J Q=>exact .eX a1 a2 I J Q
   |last q a1 a2 I J Q a6 a7=>exact .last q a1 a2 I J Q a6 a7
   |gZ a1 a2 I J Q=>exact .gZ a1 a2 I J Q
   |done a1 a2 I J Q=>exact .done a1 a2 I J Q
  .refine H.tr.still (s':=s') rfl rfl (λm y x=>?_) rfl c1 (λn xs h=>F n xs h) (u:=[_,_]) ?_ ?_ ?_ ?_
   .by_cases l:m=k
    .subst l;rw[f]at x;cases x
    grind
   .intro op a;simp at a;rcases a with rfl|rfl<;>rfl
   .intro op a;simp at a;rcases a with rfl|rfl<;>exact U
   .intro op a;simp at a;rcases a with rfl|rfl<;>exact⟨zp,zp⟩
   grind
  .have h1:=sumTo_upd s.ws (.draw 11 i (kY xs (IntKind.i64.wrap (X.E.first+i)))) Wk.aI C;have h2:=sumTo_upd s.ws (.draw 11 i (kY xs (IntKind.i64.wrap (X.E.first+i)))) Wk.cnt C;have h3:s'.c=s.c:=by show sumTo s.j (λm=>((upd s.ws k (.draw 11 i (kY xs (IntKind.i64.wrap (X.E.first+i))))) m).cnt)=_;unfold PS.c;have az:sumTo s.j (λm=>((upd s.ws k (.draw 11 i (kY xs (IntKind.i64.wrap (X.E.first+i))))) m).cnt)+(s.ws k).cnt=sumTo s.j (λm=>(s.ws m).cnt)+1:=h2;omega
   show s.mt.aI s'.c+sumTo s.j (λm=>((upd s.ws k (.draw 11 i (kY xs (IntKind.i64.wrap (X.E.first+i))))) m).aI)+12*s'.c+60*(X.E.n-(s.rN+1))<s.mt.aI s.c+sumTo s.j (λm=>(s.ws m).aI)+12*s.c+60*(X.E.n-s.rN);rw[h3];have aA:sumTo s.j (λm=>((upd s.ws k (.draw 11 i (kY xs (IntKind.i64.wrap (X.E.first+i))))) m).aI)+(s.ws k).aI=sumTo s.j (λm=>(s.ws m).aI)+60:=h1;omega
 |nil=>
  rw[hb]at o;simp only[List.map_nil]at o;cases R:s.mt.shut with
  |true=>
   rw[R]at o;have d:=crowd_recv_closed (P:=Pg) (sl:=sl) hg e o V;rw[hz,acp]at d;let s':PS:={s with ws:=upd s.ws k (.conv 21 xs)}
   have z:∀m,m≠k->s'.ws m=s.ws m:=λm y=>upd_ne _ _ y;have f:s'.ws k=.conv 21 xs:=upd_same _ _ _;have A:s'=s.wk s.mt k (.conv 21 xs) (s.ow k):=by
    show _=({s with mt:=s.mt,ws:=upd s.ws k (.conv 21 xs),ow:=upd s.ow k (s.ow k)}:PS)
    rw[show upd s.ow k (s.ow k)=s.ow from funext λb=>by unfold upd;split<;>simp_all]
   refine⟨s',_,_,_,d,⟨?_,H.wd.same rfl rfl rfl rfl rfl rfl rfl,?_,?_,?_⟩,?_⟩
   .refine H.gs.comm O C (s':=s') rfl z rfl rfl rfl (u:=[_]) ?_ ?_ zf (λ_ _=>rfl)
    .intro op a;simp at a;subst a;exact⟨zp,zp⟩
    .rw[f];refine⟨?_,hd⟩;have h1:=(Q1 X.p xs).bu;rw[Vq]at h1;exact h1.trans (Z7 _ _).bu
   .rw[A];exact H.ac.wk _ (by rw[D.2.1];rfl) zc (λ_=>⟨R,hb⟩) s.mt (.inl rfl)
   .rw[A];exact H.wg.iW X C _ zo (by simp[Wk.aI]) (by rw[D.2.2.1];rfl) s.mt (.inl rfl)
   .refine H.tr.still (s':=s') rfl rfl (λm y x=>?_) rfl rfl (λn xs h=>F n xs h) (u:=[_]) ?_ ?_ ?_ ?_
    .by_cases l:m=k
     .subst l;rw[f]at x;cases x
     grind
    .intro op a;simp at a;subst a;rfl
    .intro op a;simp at a;subst a;exact U
    .intro op a;simp at a;subst a;exact⟨zp,zp⟩
    grind
   .rw[A];exact jB C (by rw[D.1];simp[Wk.aI]) (by rw[D.2.2.1];rfl) s.mt (.inl rfl) _ s.st s.sm
  |false=>
   rw[R]at o;have d:=crowd_waits (P:=Pg) (sl:=sl) hg e (λcc ad=>by simp at ad;subst ad;exact ways_recv_none o V);rw[hz]at d;let s':PS:={s with ws:=upd s.ws k (.eB xs)}
   have z:∀m,m≠k->s'.ws m=s.ws m:=λm y=>upd_ne _ _ y;have f:s'.ws k=.eB xs:=upd_same _ _ _;have A:s'=s.wk s.mt k (.eB xs) (s.ow k):=by
    show _=({s with mt:=s.mt,ws:=upd s.ws k (.eB xs),ow:=upd s.ow k (s.ow k)}:PS)
    rw[show upd s.ow k (s.ow k)=s.ow from funext λb=>by unfold upd;split<;>simp_all]
   refine⟨s',_,_,_,d,⟨?_,H.wd.same rfl rfl rfl rfl rfl rfl rfl,?_,?_,?_⟩,?_⟩
   .refine H.gs.comm O C (s':=s') rfl z rfl rfl rfl (u:=[]) zc ?_ zf (λ_ _=>rfl);rw[f];exact⟨rfl,hd⟩
   .rw[A];exact H.ac.wk _ (by rw[D.2.1];rfl) (λ_=>⟨hb,R⟩) (λh=>by simp[Wk.aI]at h) s.mt (.inl rfl)
   .rw[A];exact H.wg.iW X C _ zo (by simp[Wk.aI]) (by rw[D.2.2.1];rfl) s.mt (.inl rfl)
   .refine H.tr.still (s':=s') rfl rfl (λm y x=>?_) rfl rfl (λn xs h=>F n xs h) (u:=[]) zc zc zc zc;by_cases l:m=k
    .subst l;rw[f]at x;cases x
    grind
   .rw[A];exact jB C (by rw[D.1];simp[Wk.aI]) (by rw[D.2.2.1];rfl) s.mt (.inl rfl) _ s.st s.sm
end
end
section
open Go.Conc
open Go.ConcN (upd upd_same upd_ne sumTo sumTo_upd sumTo_congr sumTo_le le_sumTo RelBy)
section
variable {L:aR}{T:bw}{Goal:al->List al->af->Prop}{X:PC L}
theorem Wg.copy{s:PS}(H:Wg s)(e:s'.mt=s.mt)(m:s'.j=s.j)(b:s'.ws=s.ws)(p:s'.st=s.st)(o:s'.sm=s.sm):Wg s':=by
 have r:s'.c=s.c:=by unfold PS.c;rw[m,b]
 cases H with
 |opn a1 a2 d a f=>exact .opn (by rw[e];exact a1) (λk l=>by rw[b];exact a2 k (m▸l)) (by simp_all) (o.trans a) (λk n xs ys h=>zg)
 |eX a1 a2 d a f=>exact .eX (by rw[e];exact a1) (λk l=>by rw[b];exact a2 k (m▸l)) (by rw[r];exact d) (by rw[p,r];exact a) (o.trans f)
 |last q a1 a2 d a f u w=>exact .last q (by rw[e];exact a1) (by rw[m];exact a2) (by rw[b];exact d) (by rw[b];exact a) (λi hi x=>zg) (by rw[p,b];exact u) (o.trans w)
 |gZ a1 a2 d a f=>exact .gZ (by rw[e];exact a1) (by rw[e];exact a2) (λk l=>by rw[b];exact d k (m▸l)) (p.trans a) (o.trans f)
 |done a1 a2 d a f=>exact .done (by rw[e];exact a1) (by rw[e];exact a2) (λk l=>by rw[b];exact d k (m▸l)) (p.trans a) (o.trans f)
theorem Ll(O:bl T Goal X){s:PS}{sl:Option (Nat×Nat)}(H:PI T Goal X s gs v t)(B:∀n xs,s.mt=.fin n xs->False){k:Nat}(A:k<s.j){i:Nat}{l:List Nat}(hσ:s.ws k=.ops i (7::l) xs):ct T Goal X s gs v sl t (X.n0+k):=by
 obtain⟨g,hg,hW⟩:=H.gs.work k A;rw[hσ]at hW;obtain⟨rfl,hd,_,R⟩:=hW;obtain⟨hh,_⟩:=sr R.kh;simp only[pR,List.isEmpty_iff]at hh;subst hh;have an:=O.n0;have e2:=O.cN;have e6:=O.wg;have e4:=O.cB;have e1:=O.bT;have e3:=O.bN;have e5:=O.bB;have C:(X.n0+k==0)=false:=by simp;omega
 have x9:=R.d0 (by decide);have W:=R.d6 (by decide);have S:(s.ws k).aI=23/\(s.ws k).dr=some i/\(s.ws k).cnt=1:=by rw[hσ];exact⟨rfl,rfl,rfl⟩
 have e:stepG Pg (X.n0+k==0) (bO X.p xs [7]) v=.comm (bO X.p xs [7]) #[scase X.M.cB (X.iK i) (.tuple #[])] true .send v #[]:=by
  have hc:=bg.comm (Zf X.p xs []) (YY X.p xs []) (w:=v) (w':=v) (es:=#[]) ⟨rfl,rfl⟩;rw[fY,Rn,x9,W]at hc;rw[C];exact hc
 have hz:∀fn pos,MemOp.ofEvents (X.n0+k) fn pos #[]=#[]:=λfn pos=>by simp[ofEvents_eq]
 obtain⟨sB,Y⟩:=H.wd.cB;have D:X.M.cB<v:=by grind
 have F:=Ko A (.recv 5 xs);have U:=H.ac.count;have Z:=H.ac.dh;rw[S.2.1]at F;have ab:sumTo s.j (λm=>if ((upd s.ws k (.recv 5 xs)) m).dr.isSome then 1 else 0)+1=sumTo s.j (λm=>if (s.ws m).dr.isSome then 1 else 0)+0:=F;have y:(s.fA.map X.iK).toArray.size<X.E.n:=by simp;omega
 have f:=crowd_send_room (P:=Pg) (sl:=sl) hg e Y y (G3 O H.gs (X.n0+k) X.M.cB false (.inr (by omega)));rw[hz,acp,Yl]at f;have ep:(s.fA.map X.iK).toArray.push (X.iK i)=((s.fA++ [i]).map X.iK).toArray:=by simp
 rw[ep]at f;obtain⟨c1,c2,c3,c4,c5,c6⟩:=vf v X.M.cB X.E.n ((s.fA++ [i]).map X.iK).toArray false (sB+1) 0 false D;have ad:∀i b,i<s.j->s.ow i b->b≠X.M.cB:=λi b hi hb h=>by have:=(H.tr.own i b hi hb).1;omega
 let s':PS:={s with ws:=upd s.ws k (.recv 5 xs),fA:=s.fA++ [i]}
 have z:∀m,m≠k->s'.ws m=s.ws m:=λm o=>upd_ne _ _ o;have q:s'.ws k=.recv 5 xs:=upd_same _ _ _;refine⟨s',_,_,_,f,⟨?_,?_,?_,?_,?_⟩,.inl ?_⟩
 .refine H.gs.comm O A (s':=s') rfl z rfl rfl rfl (u:=[_,_]) ?_ ?_ (by omega) ?_
  .intro op a;simp at a;rcases a with rfl|rfl<;>exact⟨by simp,by simp⟩
  .rw[q];refine⟨?_,hd⟩;have G:=(Uh X.p xs).bu;rw[PU]at G;exact G
  .rintro b (⟨r,S⟩|⟨m,o,I⟩)
   .exact c3 b (by have:=(O.K.dq r b S).2;omega)
   grind
 .refine⟨⟨by omega,λb I=>by rw[c3 b (by omega)];exact H.wd.old.2 b I⟩,by rw[c1];exact H.wd.size,?_,?_,?_,?_,⟨sB+1,c2⟩,?_,H.wd.tape,H.wd.os,H.wd.output⟩
  .rw[c3 _ (by omega)];exact H.wd.bT
  .rw[c3 _ (by omega)];exact H.wd.bN
  .rw[c3 _ (by omega)];exact H.wd.bB
  .rw[c3 _ (by omega)];exact H.wd.cN
  .rw[c3 _ (by omega)];exact H.wd.wg
 .refine⟨H.ac.on,H.ac.dh,H.ac.nf,λm o=>?_,?_,H.ac.gC,λm o=>?_,λm o V=>?_,λm o x=>?_⟩
  .rcases H.ac.cover m o with h|h|⟨k',h1,h2⟩
   .exact .inl h
   .grind
   grind
  .grind
  .have J:m∈s.fA++ [i]:=o;simp at J;rcases J with h|rfl
   .exact H.ac.okB m h
   .exact R.lt
  .by_cases d:m=k
   .subst d;rw[q]at V;cases V
   .rw[z m d]at V;exact H.ac.eB m o V
  .by_cases d:m=k
   .subst d;rw[q]at x;simp[Wk.aI]at x
   .rw[z m d]at x;exact H.ac.gone m o x
 .have:=H.wg.iW X A (σ:=.recv 5 xs) (s.ow k) (by omega) (by simp[Wk.aI]) (by rw[S.2.2];rfl) s.mt (.inl rfl);exact this.copy rfl rfl rfl rfl rfl
 .refine H.tr.still (s':=s') rfl rfl (λm o Q=>?_) rfl c1 (λn xs h=>B n xs h) (u:=[_,_]) ?_ ?_ ?_ ?_
  .by_cases d:m=k
   .subst d;rw[q]at Q;cases Q
   grind
  .intro op a;simp at a;rcases a with rfl|rfl<;>rfl
  .intro op a;simp at a;rcases a with rfl|rfl<;>exact D
  .intro op a;simp at a;rcases a with rfl|rfl<;>exact⟨by simp,by simp⟩
  grind
 .have h1:=sumTo_upd s.ws (.recv 5 xs) Wk.aI A;have h2:=sumTo_upd s.ws (.recv 5 xs) Wk.cnt A;have ao:sumTo s.j (λm=>((upd s.ws k (.recv 5 xs)) m).aI)+(s.ws k).aI=sumTo s.j (λm=>(s.ws m).aI)+9:=h1;have aq:sumTo s.j (λm=>((upd s.ws k (.recv 5 xs)) m).cnt)+(s.ws k).cnt=sumTo s.j (λm=>(s.ws m).cnt)+1:=h2;have h3:s'.c=s.c:=by show sumTo s.j (λm=>((upd s.ws k (.recv 5 xs)) m).cnt)=_;unfold PS.c;omega
  show s.mt.aI s'.c+sumTo s.j (λm=>((upd s.ws k (.recv 5 xs)) m).aI)+12*s'.c+60*(X.E.n-s.rN)<s.mt.aI s.c+sumTo s.j (λm=>(s.ws m).aI)+12*s.c+60*(X.E.n-s.rN);rw[h3];omega
theorem To(O:bl T Goal X){s:PS}{sl:Option (Nat×Nat)}(H:PI T Goal X s gs v t)(a:∀n xs,s.mt=.fin n xs->False){k:Nat}(e:k<s.j)(f:gs[X.n0+k]?=some g)(o:g.status=.running):ct T Goal X s gs v sl t (X.n0+k):=by
 obtain⟨u,p,d⟩:=H.gs.work k e;rw[f]at p;cases p;cases hσ:s.ws k with
 |load n=>
  cases n with
  |zero=>exact MU O H a e hσ
  |succ n=>
   rw[hσ]at d;rcases d.1.eJ with⟨h,_⟩|⟨m,g1,h,b,c⟩
   .cases h
   .cases h;exact oL O H a e f b (σ:=.load n) (by rw[hσ];exact⟨rfl,rfl,rfl,rfl,rfl,rfl⟩) zx ⟨c,d.2⟩
 |recv n xs=>
  cases n with
  |zero=>exact J4 O H a e (.inl hσ)
  |succ n=>
   rw[hσ]at d;rcases d.1.eJ with⟨h,_⟩|⟨m,g1,h,b,c⟩
   .cases h
   .cases h;exact oL O H a e f b (σ:=.recv n xs) (by rw[hσ];exact⟨rfl,rfl,rfl,rfl,rfl,rfl⟩) zx ⟨c,d.2⟩
 |eB xs=>rw[hσ]at d;rw[d.1]at o;cases o
 |woken xs=>exact J4 O H a e (.inr hσ)
 |draw n i xs=>
  cases n with
  |zero=>exact SB O H a e hσ
  |succ n=>
   rw[hσ]at d;rcases d.1.eJ with⟨h,_⟩|⟨m,g1,h,b,c⟩
   .cases h
   .cases h;exact oL O H a e f b (σ:=.draw n i xs) (by rw[hσ];exact⟨rfl,rfl,rfl,rfl,rfl,rfl⟩) zx ⟨c,d.2⟩
 |ops i l xs=>
  cases l with
  |nil=>rw[hσ]at d;exact absurd rfl d.2.2.1
  |cons j l=>
   rw[hσ]at d;have r:=(sr d.2.2.2.kh).1;match j,r with
   |0,_=>exact uh O H a e hσ (.inl rfl)
   |1,_=>exact uh O H a e hσ (.inr (.inl rfl))
   |2,_=>exact uh O H a e hσ (.inr (.inr (.inl rfl)))
   |3,_=>exact uh O H a e hσ (.inr (.inr (.inr (.inl rfl))))
   |4,_=>exact Fs O H a e hσ (.inl rfl)
   |5,_=>exact Fs O H a e hσ (.inr rfl)
   |6,_=>exact uh O H a e hσ (.inr (.inr (.inr (.inr rfl))))
   |7,_=>exact Ll O H a e hσ
 |text i l xs x=>exact Db O H a e (.inl hσ)
 |lz i l xs x=>exact Db O H a e (.inr hσ)
 |conv n xs=>
  cases n with
  |zero=>exact Qw O H a e hσ
  |succ n=>
   rw[hσ]at d;rcases d.1.eJ with⟨h,_⟩|⟨m,g1,h,b,c⟩
   .cases h
   .cases h;exact oL O H a e f b (σ:=.conv n xs) (by rw[hσ];exact⟨rfl,rfl,rfl,rfl,rfl,rfl⟩) zx ⟨c,d.2⟩
 |rz xs=>exact SF O H a e hσ
 |fC n xs=>
  cases n with
  |zero=>exact WI O H a e hσ
  |succ n=>
   rw[hσ]at d;rcases d.1.eJ with⟨h,_⟩|⟨m,g1,h,b,c⟩
   .cases h
   .cases h;exact oL O H a e f b (σ:=.fC n xs) (by rw[hσ];exact⟨rfl,rfl,rfl,rfl,rfl,rfl⟩) zx ⟨c,d.2⟩
 |add n xs=>
  cases n with
  |zero=>exact VO O H a e hσ
  |succ n=>
   rw[hσ]at d;rcases d.1.eJ with⟨h,_⟩|⟨m,g1,h,b,c⟩
   .cases h
   .cases h;exact oL O H a e f b (σ:=.add n xs) (by rw[hσ];exact⟨rfl,rfl,rfl,rfl,rfl,rfl⟩) zx ⟨c,d.2⟩
 |iI n xs=>
  cases n with
  |zero=>exact Wa O H a e hσ
  |succ n=>
   rw[hσ]at d;rcases d.1.eJ with⟨h,_⟩|⟨m,g1,h,b,c⟩
   .cases h
   .cases h;exact oL O H a e f b (σ:=.iI n xs) (by rw[hσ];exact⟨rfl,rfl,rfl,rfl,rfl,rfl⟩) zx ⟨c,d.2⟩
 |ft n xs=>
  cases n with
  |zero=>exact Ss O H a e hσ
  |succ n=>
   rw[hσ]at d;rcases d.1.eJ with⟨h,_⟩|⟨m,g1,h,b,c⟩
   .cases h
   .cases h;exact oL O H a e f b (σ:=.ft n xs) (by rw[hσ];exact⟨rfl,rfl,rfl,rfl,rfl,rfl⟩) zx ⟨c,d.2⟩
 |iu n xs=>
  cases n with
  |zero=>exact Sw O H a e hσ
  |succ n=>
   rw[hσ]at d;rcases d.1.eJ with⟨h,_⟩|⟨m,g1,h,b,c⟩
   .cases h
   .cases h;exact oL O H a e f b (σ:=.iu n xs) (by rw[hσ];exact⟨rfl,rfl,rfl,rfl,rfl,rfl⟩) zx ⟨c,d.2⟩
 |quit q=>exact aae O H a e hσ f o
theorem L6(O:bl T Goal X){s:PS}{sl:Option (Nat×Nat)}(H:PI T Goal X s gs v t)(F:∀n xs,s.mt=.fin n xs->False){i:Nat}(hi:0<i)(G:i<X.n0)(U:gs[i]?=some g)(u:g.status=.running):ct T Goal X s gs v sl t i:=by
 have B:=H.gs.lN i g hi G U;cases w:s.q i with
 |zero=>rw[w]at B;rw[B.1]at u;cases u
 |succ q=>
  rw[w]at B;rcases B with⟨hf,_⟩|⟨_,g1,es,d,V,B⟩
  .grind
  have I:(i==0)=false:=zt;have z:=runT_crowd_go (P:=Pg) (sl:=sl) (i:=i) U (by rw[I];exact V v);obtain⟨h,h0,hM⟩:=H.gs.main;obtain⟨mt',W,Y,_⟩:=hM.woken O g g1 v;have a:=jP.facts (X:=X) Y;have Z:=(IN.1 U).1;have A:∀j,j≠i->Deaf (t++MemOp.ofEvents i g.frame.fn g.frame.place es) j=Deaf t j:=λj hj=>Deaf_other t (Ne.symm hj) _ λop b=>ofEvents_g b;have J:∀op∈MemOp.ofEvents i g.frame.fn g.frame.place es,op.act.touch?=none:=λop b=>by obtain⟨e,K,rfl⟩:=Go.Conc.mem_ofEvents b;exact touch_mute (d e K)
  let s':PS:={s with mt:=mt',q:=upd s.q i q}
  have ao:sumTo X.n0 (upd s.q i q)+(q+1)=sumTo X.n0 s.q+q:=by
   have:=sumTo_upd s.q q id G;simpa[w] using this
  refine⟨s',_,v,_,z,⟨?_,H.wd.same rfl a.2.2.2.1 a.2.1 rfl rfl rfl rfl,?_,?_,?_⟩,.inr (.inr ⟨?_,rfl,?_⟩)⟩
  .refine⟨by simp[H.gs.size,s'],⟨_,zg,W⟩,λk Q=>?_,λj x hj ab C=>?_,λj hj=>?_⟩
   .obtain⟨x,C,hw⟩:=H.gs.work k Q;refine⟨x,?_,zg⟩;rw[abA zo,abX,C];simp only[aca];rw[hw.woken g g1 (λR=>?_)];have ad:=H.wd.cN;rw[(H.ac.eB k Q R).2]at ad;grind
   .by_cases f:i=j
    .subst f;rw[acB (by simpa using Z)]at C;obtain rfl:=acy C;show QuitsD Pg (upd s.q i q i) _ g1;rw[upd_same,Deaf_own];exact B
    .rw[abA f,abX]at C;obtain⟨y,hy,rfl⟩:=abD.1 C;have M:=H.gs.lN j y hj ab hy;show QuitsD Pg (upd s.q i q j) _ _;rw[woken_quitsD M,upd_ne _ _ (Ne.symm f),A _ (Ne.symm f)];exact M
   .simp only[acW,Array.size_map]at hj;rw[A j zo];exact H.gs.above j hj
  .exact⟨H.ac.on.trans a.2.2.1.symm,a.2.1▸H.ac.dh,H.ac.nf.trans a.2.1.symm,λm d=>H.ac.cover m (a.2.1▸d),by show _<=mt'.dh X;rw[a.2.1];exact H.ac.count,H.ac.gC,H.ac.okB,λm d R=>⟨(H.ac.eB m d R).1,a.2.2.2.1.trans (H.ac.eB m d R).2⟩,λm d D=>⟨a.2.2.2.1.trans (H.ac.gone m d D).1,(H.ac.gone m d D).2⟩⟩
  .obtain⟨_,_,_,_,f5,_,f7,S,f9,_,an,_⟩:=a;cases H.wg with
   |opn a1 a2 l o p=>exact .opn (f7.trans a1) a2 (by show s.st=(s.c+mt'.gm)*bM;rw[f5];exact l) o (λk n xs ys h=>p k n xs ys (an k n xs ys h))
   |eX a1 a2 l o p=>exact .eX (S.trans a1) a2 l o p
   |last q a1 a2 l o p a6 a7=>exact .last q (S.trans a1) a2 l o p a6 a7
   |gZ a1 a2 l o p=>exact .gZ (S.trans a1) (f9 a2) l o p
   |done a1 a2 l o p=>exact .done (f7.trans a1) (S.trans a2) l o p
  .refine⟨?_,H.tr.own,H.tr.apart,λk Q D=>?_,?_,?_,λn xs h=>(F n xs (a.2.2.2.2.2.2.2.2.2.2.2 n xs h)).elim⟩
   .exact H.tr.tp.mute (k:=i) (λop b=>ofEvents_g b) J (λop b=>by obtain⟨e,K,rfl⟩:=Go.Conc.mem_ofEvents b;exact low_mute (d e K) _)
   .obtain⟨r,D⟩:=H.tr.rel k Q D;exact⟨r,RelBy.still D J⟩
   .refine H.tr.norel.app λop b=>?_;obtain⟨e,K,rfl⟩:=Go.Conc.mem_ofEvents b
    have:=d e K;obtain⟨loc,wr,sy⟩:=e;cases loc with
    |mark m=>cases m<;>simp_all[Event.mute,MemAct.ofEvent]
    |_=>simp[Event.mute]at this
   .rw[A 0 zo,H.tr.d0];grind
  .show mt'.aI s.c+sumTo s.j (λk=>(s.ws k).aI)+12*s.c+60*(X.E.n-s.rN)=s.mt.aI s.c+sumTo s.j (λk=>(s.ws k).aI)+12*s.c+60*(X.E.n-s.rN);rw[a.1]
  .show mt'.idle+2*sumTo s.j (λk=>(s.ws k).idle)+2*sumTo X.n0 (upd s.q i q)<s.mt.idle+2*sumTo s.j (λk=>(s.ws k).idle)+2*sumTo X.n0 s.q;omega
end
end
section
open Go.Conc
open Go.ConcN (upd upd_same upd_ne sumTo sumTo_upd sumTo_congr sumTo_le le_sumTo RelBy)
section
variable {L:aR}{T:bw}{Goal:al->List al->af->Prop}{X:PC L}
def J0(O:bl T Goal X)(xs:Nat->ag){i:Nat}(hi:i<X.nW):bh Pg true 22 (jH X.M xs X.ds X.nW i) (oK (X.mc i xs) X.ds X.M.wg):=
 (RF X.M xs X.ds ⟨O.nW,hi⟩).trans (Uz _ _ _).bu
def J8(O:bl T Goal X)(xs:Nat->ag){i:Nat}(hi:i<X.nW):bh Pg true 3 (pz (X.mc i xs) X.ds) (lW X.M xs X.ds X.nW i):=Mp X.M xs X.ds ⟨O.nW,hi⟩
def RE(O:bl T Goal X)(xs:Nat->ag){i:Nat}(hi:i<X.nW):(∀w,stepG Pg true (lW X.M xs X.ds X.nW i) w=.spawn (fin (lW X.M xs X.ds X.nW i) unit) (pQ X.p) w #[])/\∃a,bh Pg true 9 (fin (lW X.M xs X.ds X.nW i) unit) (jH X.M a X.ds X.nW ((i+1:Nat):Int)):=
 ⟨Pe X.M xs X.ds ⟨O.nW,hi⟩,UE X.M xs X.ds ⟨O.nW,hi⟩⟩
theorem EU(O:bl T Goal X)(xs:Nat->ag)(hj:j<=X.E.n):(j<X.E.n->bh Pg true 13 (oY X.M xs X.ds j) (pV X.M xs X.ds j))/\(j=X.E.n->bh Pg true 7 (oY X.M xs X.ds j) (rD X.M xs X.ds X.E.n)):=by
 have _:=hj;have h1:=(Nz X.M xs X.ds j).bu;rw[QE,O.count]at h1;constructor
 .intro h;rw[show decide ((j:Int)<(X.E.n:Int))=true by simp;omega]at h1;exact h1.trans (Qu X.M xs X.ds j).bu
 .intro h;subst h;rw[show decide ((X.E.n:Int)<(X.E.n:Int))=false by simp]at h1;exact h1.trans (XP X.M xs X.ds X.E.n).bu
theorem CU(O:bl T Goal X)(xs:Nat->ag){i:Nat}(hi:i<=X.nW):(i<X.nW->bh Pg true 22 (jH X.M xs X.ds X.nW i) (oK (X.mc i xs) X.ds X.M.wg))/\(i=X.nW->∃a,bh Pg true 28 (jH X.M xs X.ds X.nW i) (pV X.M a X.ds (0:Nat))):=by
 have _:=hi;refine⟨λh=>J0 O xs h,λh=>?_⟩;subst h;have b:0<X.E.n:=by have:=O.nn;omega
 have key: ∃a,bh Pg true 15 (jH X.M xs X.ds X.nW X.nW) (oY X.M a X.ds (0:Nat)):=by
  rcases O.nW with h|h<;>rw[h]
  .have:=(WO X.M xs X.ds).bu;rw[Xy]at this;exact⟨_,this⟩
  .have:=(Yj X.M xs X.ds).bu;rw[Wn]at this;exact⟨_,this⟩
 obtain⟨a,h1⟩:=key;exact⟨a,h1.trans ((EU O a (aaZ _)).1 b)⟩
theorem Fo(O:bl T Goal X){s:PS}{sl:Option (Nat×Nat)}(H:PI T Goal X s gs v t)(Y:gs[0]?=some h){es:Array Event}(e:stepG Pg true h v=.go h1 v1 es)(Z:cZ X h1 s'.mt)(f:s'.j=s.j)(p:s'.ws=s.ws)(U:s'.ow=s.ow)(e4:s'.q=s.q)(l:s'.dW=s.dW)(V:s'.rN=s.rN)(C:s'.fA=s.fA)(u:s'.mt.dh X=s.mt.dh X)(D:s'.mt.shut=s.mt.shut)(E:s'.mt.on X=s.mt.on X)(hs:v1=v.heap.size)(d:∀b,b≠X.M.wg->v1.heap[b]?=v.heap[b]?)(w:v1.heap[X.M.wg]?=.c #[.int .u64 s'.st,.int .u32 s'.sm] 206)(F:v1.tape=v.tape/\v1.os=v.os/\v1.output=v.output)(G:Wg s')(I:∀e∈es,∀a,(MemAct.ofEvent e).touch?=some a->a.loc.isMemory=true/\pg (jF X s') 0 a)(W:∀e∈es,(MemAct.ofEvent e).low v)(J:∀e∈es,e.loc≠.mark (.release (cO X)))(hd:deafBehind s.mt.deaf es=s'.mt.deaf)(x:∀n xs,s'.mt=.fin n xs->∃q,(t++MemOp.ofEvents 0 h.frame.fn h.frame.place es).act? q=some (.mark (.acquire (cO X)))/\(t++MemOp.ofEvents 0 h.frame.fn h.frame.place es).g? q=some 0/\(t++MemOp.ofEvents 0 h.frame.fn h.frame.place es).heard q/\∀k,k<s.j->∃r,RelBy (cO X) (t++MemOp.ofEvents 0 h.frame.fn h.frame.place es) (X.n0+k) r/\r<q)(y:tB Goal X s' s):ct T Goal X s gs v sl t 0:=by
 have ab:=O.n0;have b1:=O.bT;have b2:=O.cN;have b3:=O.bN;have b4:=O.cB;have b5:=O.bB;have b6:=O.wg;have z:=runT_crowd_go (P:=Pg) (sl:=sl) (i:=0) Y (show stepG Pg (0==0) h v=_ from e);refine⟨s',_,v1,_,z,⟨?_,?_,?_,G,?_⟩,y⟩
 .refine H.gs.Pu O Z zo ?_ ?_ f p U e4 _ _
  .rintro b (⟨r,o⟩|⟨k,Q,hb⟩)
   .exact d b (by have:=(O.K.dq r b o).2;omega)
   .exact d b (by have:=(H.tr.own k b Q hb).1;omega)
  .intro i hi B;have R:=H.wd.cN;rw[(H.ac.eB i hi B).2,<-d _ zo]at R;grind
 .refine⟨⟨zg,λb hb=>by rw[d b zo];exact H.wd.old.2 b hb⟩,zg,?_,?_,?_,?_,?_,w,F.1.trans H.wd.tape,F.2.1.trans H.wd.os,F.2.2.trans H.wd.output⟩
  .rw[d _ zo];exact H.wd.bT
  .rw[d _ zo];exact H.wd.bN
  .rw[d _ zo];exact H.wd.bB
  .rw[d _ zo,l,V,u,D];exact H.wd.cN
  .obtain⟨sB,h⟩:=H.wd.cB;grind
 .refine⟨f.trans (H.ac.on.trans E.symm),u▸H.ac.dh,by rw[l,V,u];exact H.ac.nf,λm A=>?_,?_,by rw[l];exact H.ac.gC,by rw[C];exact H.ac.okB,λm A B=>?_,λm A o=>?_⟩
  .rw[l,C,f,p];exact H.ac.cover m (u▸A)
  .rw[l,C,u,f,p];exact H.ac.count
  .rw[p]at B;rw[l,D];exact H.ac.eB m (f▸A) B
  .rw[p]at o;rw[l,D];exact H.ac.gone m (f▸A) o
 .refine H.tr.step O (s':=s') (.inl rfl) f zo (λi b hi hb=>.inl (by rw[<-U];exact hb)) H.wd.size I (λe he=>zg) (λk Q o=>?_) J (by simp only[abj];rw[H.tr.d0];exact hd) x;rw[p]at o;exact yC H.tr (λop S=>ofEvents_g S) Q zo o
structure D6(X:PC L)(mt mt':Mt):Prop where
 aI:∀c,mt'.aI c=mt.aI c
 dh:mt'.dh X=mt.dh X
 on:mt'.on X=mt.on X
 shut:mt'.shut=mt.shut
 gm:mt'.gm=mt.gm
 deaf:mt'.deaf=mt.deaf
 opn:lV mt'=lV mt
 eX:kH mt'=kH mt
 blk:oG mt'=oG mt
 gV:∀k n xs ys,mt'=.gV k n xs ys->∃n',mt=.gV k n' xs ys
 MW:∀n xs,mt'≠.fin n xs
theorem Wg.OH{s:PS}(H:Wg s)(a:D6 X s.mt mt'):Wg {s with mt:=mt'}:=by
 cases H with
 |opn a1 a2 b d e=>exact .opn (a.opn.trans a1) a2 (by show s.st=(s.c+mt'.gm)*bM;rw[a.gm];exact b) d (λk n xs ys h=>by obtain⟨n',f⟩:=a.gV k n xs ys h;exact e k n' xs ys f)
 |eX a1 a2 b d e=>exact .eX (a.eX.trans a1) a2 b d e
 |last q a1 a2 b d e i l=>exact .last q (a.eX.trans a1) a2 b d e i l
 |gZ a1 a2 b d e=>exact .gZ (a.eX.trans a1) (a.blk.trans a2) b d e
 |done a1 a2 b d e=>exact .done (a.opn.trans a1) (a.eX.trans a2) b d e
theorem ik(O:bl T Goal X){s:PS}{sl:Option (Nat×Nat)}(H:PI T Goal X s gs v t)(d:gs[0]?=some h)(e:∀w,stepG Pg true h w=.go h1 w #[])(f:cZ X h1 mt')(a:D6 X s.mt mt')(hi:mt'.idle+1=s.mt.idle):ct T Goal X s gs v sl t 0:=by
 refine Fo O H (s':={s with mt:=mt'}) d (e v) f rfl rfl rfl rfl rfl rfl rfl a.dh a.shut a.on rfl (λ_ _=>rfl) H.wd.wg ⟨rfl,rfl,rfl⟩ (H.wg.OH a) (λe b=>by simp at b) (λe b=>by simp at b) (λe b=>by simp at b) a.deaf.symm (λn xs h=>absurd h (a.MW n xs)) (.inr (.inr ⟨?_,rfl,?_⟩))
 .show mt'.aI s.c+sumTo s.j (λk=>(s.ws k).aI)+12*s.c+60*(X.E.n-s.rN)=s.mt.aI s.c+sumTo s.j (λk=>(s.ws k).aI)+12*s.c+60*(X.E.n-s.rN);rw[a.aI]
 .show mt'.idle+2*sumTo s.j (λk=>(s.ws k).idle)+2*sumTo X.n0 s.q<s.mt.idle+2*sumTo s.j (λk=>(s.ws k).idle)+2*sumTo X.n0 s.q;omega
theorem NB{s:PS}(a:s'.j=s.j)(b:s'.ws=s.ws)(d:s'.rN=s.rN)(h:s'.mt.aI s.c<s.mt.aI s.c):tB Goal X s' s:=by
 refine .inl ?_;have e:s'.c=s.c:=by unfold PS.c;rw[a,b]
 unfold PS.phi;grind
end
end
end Go.Proofs.YtldmcdeibiclkaaGreat.U
