/-
  Toward all_holds
-/
import Derived.Test.YtldmcdeibiclkaaGreatC10
import Derived.Test.YtldmcdeibiclkaaGreatC01
set_option linter.all false
noncomputable section
set_option maxRecDepth 100000
set_option maxHeartbeats 20000000
namespace Go.Proofs.YtldmcdeibiclkaaGreat.U
variable {xs:Nat->ag}{h1:ai}{j:Nat}{s':PS}{es:Array Event}{v1:af}{mt':Mt}
section
open Go.Conc
open Go.ConcN (upd upd_same upd_ne sumTo sumTo_upd sumTo_congr sumTo_le le_sumTo RelBy)
theorem KP{c:Nat}(h:c<=3):more (c*bM:Nat)=((c+1)*bM:Nat):=by
 rcases (show c=0\/c=1\/c=2\/c=3 by omega) with rfl|rfl|rfl|rfl<;>kernel_rfl
section
variable (c:al) (cs:List al) (wg:Nat) (ys:Nat->ag){k:Nat}
theorem PQ(h:2<=k/\k<=4):bJ Pg true 87 (wH c cs wg (k*bM:Nat)):=by
 rcases (show k=2\/k=3\/k=4 by omega) with rfl|rfl|rfl<;>(intro w;kernel_rfl)
theorem OB(h:2<=k/\k<=4)(w:af):stepG Pg true (tX c cs wg (k*bM:Nat)) w=.go (yi (tX c cs wg (k*bM:Nat))) w #[bt .enable]:=by
 rcases (show k=2\/k=3\/k=4 by omega) with rfl|rfl|rfl<;>kernel_rfl
theorem RM(h:2<=k/\k<=4):bh Pg true 1 (yi (tX c cs wg (k*bM:Nat))) (pz c cs):=by
 rcases (show k=2\/k=3\/k=4 by omega) with rfl|rfl|rfl<;>exact bh.one zk λw=>zk
theorem UU(h:1<=k/\k<=4):bJ Pg true 48 (xj c cs wg ys (k*bM:Nat)):=by
 rcases (show k=1\/k=2\/k=3\/k=4 by omega) with rfl|rfl|rfl|rfl<;>(intro w;kernel_rfl)
theorem Ix(h:1<=k/\k<=4):(ry c cs wg ys (k*bM:Nat)).frame.fn=171:=by
 rcases (show k=1\/k=2\/k=3\/k=4 by omega) with rfl|rfl|rfl|rfl<;>kernel_rfl
theorem LR(h:1<=k/\k<=4):feed Pg (bG (ry c cs wg ys (k*bM:Nat))) [lr,.fz false,.val (.int .u64 (k*bM:Nat))]=some ([.mk (.extern 192),.shp wg,.fz (.a wg 0),.ld .atomic (.a wg 0),.st .atomic (.a wg 0) (.int .u64 (k*bM+1:Nat))],.inl (.value (.bool true))):=by
 rcases (show k=1\/k=2\/k=3\/k=4 by omega) with rfl|rfl|rfl|rfl<;>kernel_rfl
theorem PK{d:Nat}(h:1<=k/\k<=4)(b:d<k):feed Pg (bG (ry c cs wg ys (k*bM:Nat))) [lr,.fz false,.val (.int .u64 (d*bM:Nat))]=some ([.mk (.extern 192),.shp wg,.fz (.a wg 0),.ld .atomic (.a wg 0)],.inl (.value (.bool false))):=by
 rcases (show(k=1/\d=0)\/(k=2/\d=0)\/(k=2/\d=1)\/(k=3/\d=0)\/(k=3/\d=1)\/(k=3/\d=2)\/(k=4/\d=0)\/(k=4/\d=1)\/(k=4/\d=2)\/(k=4/\d=3) by omega) with⟨rfl,rfl⟩|⟨rfl,rfl⟩|⟨rfl,rfl⟩|⟨rfl,rfl⟩|⟨rfl,rfl⟩|⟨rfl,rfl⟩|⟨rfl,rfl⟩|⟨rfl,rfl⟩|⟨rfl,rfl⟩|⟨rfl,rfl⟩<;>kernel_rfl
theorem P3(h:1<=k/\k<=4): ∃a,bh Pg true (9+16) (E4 c cs wg ys (k*bM:Nat)) (rY c cs wg a):=by
 refine⟨yu (aW Pg true 9 (E4 c cs wg ys (k*bM:Nat))),?_⟩;rcases (show k=1\/k=2\/k=3\/k=4 by omega) with rfl|rfl|rfl|rfl<;>exact(tH (λw=>zk) zk).trans (Dt _ _ _ _).bu
theorem VP(h:1<=k/\k<=4):bJ Pg true 19 (Df c cs wg ys (k*bM:Nat)):=by
 rcases (show k=1\/k=2\/k=3\/k=4 by omega) with rfl|rfl|rfl|rfl<;>(intro w;kernel_rfl)
theorem aag(h:1<=k/\k<=4):feed Pg (bG (xR c cs wg ys (k*bM:Nat))) [lr,lr]=some ([.shp wg,.shp wg],.inl (.value (mX wg))):=by
 rcases (show k=1\/k=2\/k=3\/k=4 by omega) with rfl|rfl|rfl|rfl<;>kernel_rfl
theorem NW(h:1<=k/\k<=4)(w:af):stepG Pg true (tC c cs wg ys (k*bM:Nat)) w=.go (fin (tC c cs wg ys (k*bM:Nat)) unit) w #[bt (.write (.a wg 1))]:=by
 rcases (show k=1\/k=2\/k=3\/k=4 by omega) with rfl|rfl|rfl|rfl<;>kernel_rfl
theorem TG(h:1<=k/\k<=4): ∃a,bh Pg true 23 (fin (tC c cs wg ys (k*bM:Nat)) unit) (lI c cs wg a):=by
 refine⟨yu (aW Pg true 23 (fin (tC c cs wg ys (k*bM:Nat)) unit)),?_⟩;rcases (show k=1\/k=2\/k=3\/k=4 by omega) with rfl|rfl|rfl|rfl<;>exact(tH (λw=>zk) zk)
end
section
variable {L:aR}{T:bw}{Goal:al->List al->af->Prop}{X:PC L}
def sU(X:PC L)(e:Event):Prop:=(∃o wr,e=⟨.cell (.a X.M.wg o),wr,true⟩)\/e=bt .disable\/e=bt .enable\/(∃o,e=bt (.read (.a X.M.wg o)))\/(∃o,e=bt (.write (.a X.M.wg o)))\/e=bt (.acquire (cO X))\/e=⟨.cell (.a X.M.bN 0),false,false⟩
theorem S5(O:bl T Goal X){B:Nat}(g:X.M.wg<B)(h:∀e∈es,sU X e):
  (∀e∈es,∀a,(MemAct.ofEvent e).touch?=some a->a.loc.isMemory=true/\pg (jF X s') 0 a)/\(∀e∈es,(MemAct.ofEvent e).low B)/\∀e∈es,e.loc≠.mark (.release (cO X)):=by
 have b3:=O.bN;have i:=O.wg;refine⟨λe f a d=>?_,λe f=>?_,λe f=>?_⟩
 .rcases h e f with⟨o,wr,rfl⟩|rfl|rfl|⟨o,rfl⟩|⟨o,rfl⟩|rfl|rfl
  .simp only[MemAct.ofEvent,MemAct.touch?,aaX]at d;subst d;refine⟨rfl,λb hb=>?_⟩;simp only[blk,aaX]at hb;subst hb;exact .inr (.inr ⟨.inl rfl,zp,zp⟩)
  .simp[bt,MemAct.ofEvent,MemAct.touch?]at d
  .simp[bt,MemAct.ofEvent,MemAct.touch?]at d
  .simp only[bt,MemAct.ofEvent,MemAct.touch?,aaX]at d;subst d;refine⟨rfl,λb hb=>?_⟩;simp only[blk,aaX]at hb;subst hb;exact .inr (.inr ⟨.inl rfl,zp,λ_=>rfl⟩)
  .simp only[bt,MemAct.ofEvent,MemAct.touch?,aaX]at d;subst d;refine⟨rfl,λb hb=>?_⟩;simp only[blk,aaX]at hb;subst hb;exact .inr (.inr ⟨.inl rfl,zp,λ_=>rfl⟩)
  .simp[bt,MemAct.ofEvent,MemAct.touch?]at d
  .exact Ck O s' 0 X.M.bN (.inr (.inl rfl)) _ zp a d
 .rcases h e f with⟨o,wr,rfl⟩|rfl|rfl|⟨o,rfl⟩|⟨o,rfl⟩|rfl|rfl
  .exact qg g _ _
  .trivial
  .trivial
  .exact g
  .exact g
  .exact g
  .exact qg (show X.M.bN<B by omega) _ _
 .rcases h e f with⟨o,wr,rfl⟩|rfl|rfl|⟨o,rfl⟩|⟨o,rfl⟩|rfl|rfl<;>simp[bt]
theorem fJ(O:bl T Goal X){s:PS}{gs:Array ai}{v:af}{sl:Option (Nat×Nat)}{t:Trace}(H:PI T Goal X s gs v t){h:ai}(y:gs[0]?=some h)(e:stepG Pg true h v=.go h1 v1 es)(mt':Mt)(st sm:Nat)(z:cZ X h1 mt')(same:mt'.dh X=s.mt.dh X/\mt'.shut=s.mt.shut/\mt'.on X=s.mt.on X)(hv:(v1=v/\st=s.st/\sm=s.sm)\/(v1=v.setCell (.a X.M.wg 0) (.int .u64 st)/\sm=s.sm)\/(v1=v.setCell (.a X.M.wg 1) (.int .u32 sm)/\st=s.st))(m:Wg {s with mt:=mt',st:=st,sm:=sm})(o:∀e∈es,sU X e)(A:deafBehind s.mt.deaf es=mt'.deaf)(d:(∀n xs,mt'≠.fin n xs)\/(sQ s/\s.mt.deaf=0/\es=#[bt (.acquire (cO X))]))(f:mt'.aI s.c<s.mt.aI s.c\/(mt'.aI s.c=s.mt.aI s.c/\mt'.idle<s.mt.idle)):ct T Goal X s gs v sl t 0:=by
 obtain⟨B,p2,p3⟩:=S5 O (s':={s with mt:=mt',st:=st,sm:=sm}) H.wd.size o;have l:v1=v.heap.size/\(∀b,b≠X.M.wg->v1.heap[b]?=v.heap[b]?)/\v1.heap[X.M.wg]?=.c #[.int .u64 st,.int .u32 sm] 206/\(v1.tape=v.tape/\v1.os=v.os/\v1.output=v.output):=by
  rcases hv with⟨rfl,rfl,rfl⟩|⟨rfl,rfl⟩|⟨rfl,rfl⟩
  .exact⟨rfl,λ_ _=>rfl,H.wd.wg,rfl,rfl,rfl⟩
  .exact⟨(nz v X.M.wg 0 _).1,(nz v X.M.wg 0 _).2,H.wd.yJ st,rfl,rfl,rfl⟩
  .exact⟨(nz v X.M.wg 1 _).1,(nz v X.M.wg 1 _).2,H.wd.Gj sm,rfl,rfl,rfl⟩
 refine Fo O H (s':={s with mt:=mt',st:=st,sm:=sm}) y e z rfl rfl rfl rfl rfl rfl rfl same.1 same.2.1 same.2.2 l.1 l.2.1 l.2.2.1 l.2.2.2 m B p2 p3 A (λn xs F=>?_) ?_
 .rcases d with G|⟨C,p,rfl⟩
  .grind
  .have D:MemOp.ofEvents 0 h.frame.fn h.frame.place #[bt (.acquire (cO X))]=#[{g:=0,fn:=h.frame.fn,pos:=h.frame.place,act:=.mark (.acquire (cO X))}]:=by simp[ofEvents_eq,bt,MemAct.ofEvent]
   rw[D];refine⟨t.size,by simp[Trace.act?],by simp[Trace.g?],⟨0,by simp[Trace.g?],by rw[deaf_old zf];exact H.tr.d0.trans p⟩,λk w=>?_⟩;obtain⟨r,x⟩:=H.tr.rel k w (by
    have:=C k w;cases hσ:s.ws k<;>rw[hσ]at this<;>simp[Wk.aI]at this<;>rfl)
   have u:r<t.size:=by
    have:=x.g;unfold Trace.g? at this;grind
   exact⟨r,RelBy.still x λop i=>by simp at i;rw[i];rfl,u⟩
 .rcases f with h|⟨h,I⟩
  .exact NB rfl rfl rfl h
  .refine .inr (.inr ⟨?_,rfl,?_⟩)
   .show mt'.aI s.c+sumTo s.j (λk=>(s.ws k).aI)+12*s.c+60*(X.E.n-s.rN)=s.mt.aI s.c+sumTo s.j (λk=>(s.ws k).aI)+12*s.c+60*(X.E.n-s.rN);rw[h]
   .show mt'.idle+2*sumTo s.j (λk=>(s.ws k).idle)+2*sumTo X.n0 s.q<s.mt.idle+2*sumTo s.j (λk=>(s.ws k).idle)+2*sumTo X.n0 s.q;omega
end
end
section
open Go.Conc
open Go.ConcN (upd upd_same upd_ne sumTo sumTo_upd sumTo_congr sumTo_le le_sumTo RelBy)
section
variable {L:aR}{T:bw}{Goal:al->List al->af->Prop}{X:PC L}
theorem Wd.Kt{s:PS}{v:af}(H:Wd X s v):v.cell? (.a X.M.bN 0)=some (.chan (some X.M.cN)):=by simp[World.cell?,H.bN]
theorem IQ{mt:Mt}(h:lV mt=true):kH mt=false:=by cases mt<;>first|rfl|cases h
theorem jU{s:PS}(H:Wg s)(h:lV s.mt=true):rK s/\s.st=(s.c+s.mt.gm)*bM/\s.sm=0/\∀k n xs ys,s.mt=.gV k n xs ys->s.c<=k:=by
 have e:=IQ h;cases H with
 |opn a1 a2 a b d=>grind
 |eX a1 a2 a b d=>rw[e]at a1;cases a1
 |last q a1 a2 a b d f g=>rw[e]at a1;cases a1
 |gZ a1 a2 a b d=>rw[e]at a1;cases a1
 |done a1 a2 a b d=>rw[h]at a1;cases a1
theorem oS{s:PS}(H:Wg s)(h:lV s.mt=false)(e:kH s.mt=false):sQ s/\s.st=0/\s.sm=0:=by
 cases H with
 |opn a1 a2 a b d=>rw[h]at a1;cases a1
 |eX a1 a2 a b d=>rw[e]at a1;cases a1
 |last q a1 a2 a b d f g=>rw[e]at a1;cases a1
 |gZ a1 a2 a b d=>rw[e]at a1;cases a1
 |done a1 a2 a b d=>exact⟨a,b,d⟩
theorem Wg.yG{s:PS}(H:Wg s)(h:kH s.mt=true)(e:kH mt'=true)(hb:s.sm=1->oG mt'=false):Wg {s with mt:=mt',st:=s.st,sm:=s.sm}:=by
 cases H with
 |opn a1 a2 b d a=>rw[IQ a1]at h;cases h
 |eX a1 a2 b d a=>exact .eX e a2 b d a
 |last q a1 a2 b d a f g=>exact .last q e a2 b d a f g
 |gZ a1 a2 b d a=>exact .gZ e (hb a) b d a
 |done a1 a2 b d a=>rw[h]at a2;cases a2
theorem Zy{s:PS}(h1:rK s)(d:s.c=0):sQ s:=λk a=>by
 rcases h1 k a with h|h
 .exact h
 .have:=(Wk.A2 (s.ws k)).2 h;have b:(s.ws k).cnt<=s.c:=le_sumTo (f:=λi=>(s.ws i).cnt) a;omega
section
variable {s:PS}{gs:Array ai}{v:af}{sl:Option (Nat×Nat)}{t:Trace}{h:ai}
theorem Qe(O:bl T Goal X)(H:PI T Goal X s gs v t)(f:gs[0]?=some h)(b:cZ X h s.mt){i:Nat}(hmt:s.mt=.fC i 0 xs):ct T Goal X s gs v sl t 0:=by
 rw[hmt]at b;obtain⟨a,hi⟩:=b;cases a;obtain⟨a1,a2,g,l⟩:=jU H.wg zh;rw[hmt]at a2;exact fJ O H f (aaq _ _ _ v) (.add i 34 xs) s.st s.sm ⟨T0 _ _ _,hi⟩ zy (.inl ⟨rfl,rfl,rfl⟩) (.opn rfl a1 a2 g zc) (λe d=>by simp at d;exact .inr (.inl d)) zh (.inl zc) (.inl (by rw[hmt];simp[Mt.aI]))
theorem SG(O:bl T Goal X)(H:PI T Goal X s gs v t)(l:gs[0]?=some h)(m:cZ X h s.mt){i:Nat}(hmt:s.mt=.add i 0 xs):ct T Goal X s gs v sl t 0:=by
 rw[hmt]at m;obtain⟨d,hi⟩:=m;cases d;obtain⟨a1,a2,o,x⟩:=jU H.wg (by rw[hmt];rfl);rw[hmt]at a2;have q:s.c<=1*s.j:=sumTo_le λi _=>Wk.BH _;have hj:s.j=i:=by rw[H.ac.on,hmt];rfl
 have r:=O.nW;have f:s.st=s.c*bM:=a2;have g:more s.st=((s.c+1)*bM:Nat):=by rw[f];exact KP (by omega)
 have e:=bg.value (FJ (X.mc i xs) X.ds X.M.wg) (QO _ _ _ s.st) (w:=v) (w':=v.setCell (.a X.M.wg 0) (.int .u64 (more s.st))) (es:=#[bt (.extern 189),⟨.cell (cO X),false,true⟩,⟨.cell (cO X),true,true⟩])
   ⟨H.wd.cell0,by simp,by simp,⟨_,H.wd.cell0⟩,H.wd.frozen 0,rfl,rfl⟩
 rw[Xu,g]at e;have b:∀e∈(#[⟨.cell (cO X),false,true⟩,⟨.cell (cO X),true,true⟩]:Array Event),sU X e:=λe p=>by simp at p;rcases p with rfl|rfl<;>exact .inl ⟨0,_,rfl⟩
 by_cases u:s.c=0
 .refine fJ O H l e (.cv i 52 xs) ((s.c+1)*bM) s.sm ⟨?_,hi⟩ (by rw[hmt];exact⟨rfl,rfl,rfl⟩) (.inr (.inl ⟨rfl,rfl⟩)) (.opn rfl a1 rfl o (λk n xs ys h=>by cases h)) b (by rw[hmt];rfl) (.inl (λn xs h=>by cases h)) (.inl (by rw[hmt];simp[Mt.aI]))
  have:=(YR (X.mc i xs) X.ds X.M.wg).bu;rw[u];exact this
 .refine fJ O H l e (.en i 87 (s.c+1) xs) ((s.c+1)*bM) s.sm ⟨(PQ (X.mc i xs) X.ds X.M.wg ⟨by omega,by omega⟩).bu,hi,by omega,by omega⟩ (by rw[hmt];exact⟨rfl,rfl,rfl⟩) (.inr (.inl ⟨rfl,rfl⟩)) (.opn rfl a1 rfl o (λk n xs ys h=>by cases h)) b (by rw[hmt];rfl) (.inl (λn xs h=>by cases h)) (.inl (by rw[hmt];simp[Mt.aI]))
theorem TD(O:bl T Goal X)(H:PI T Goal X s gs v t)(d:gs[0]?=some h)(b:cZ X h s.mt){i:Nat}(hmt:s.mt=.cv i 0 xs):ct T Goal X s gs v sl t 0:=by
 rw[hmt]at b;obtain⟨a,hi⟩:=b;cases a;obtain⟨a1,a2,f,l⟩:=jU H.wg zh;rw[hmt]at a2;have e:=bg.value (KH (X.mc i xs) X.ds X.M.wg) (QI _ _ _) (w:=v) (w':=v) (es:=#[]) ⟨H.wd.shape,H.wd.shape,rfl,rfl⟩;rw[fY]at e;exact fJ O H d e (.rd i xs) s.st s.sm ⟨rfl,hi⟩ zy (.inl ⟨rfl,rfl,rfl⟩) (.opn rfl a1 a2 f zc) (λe g=>by simp at g) zh (.inl zc) (.inl (by rw[hmt];simp[Mt.aI]))
theorem YN(O:bl T Goal X)(H:PI T Goal X s gs v t)(d:gs[0]?=some h)(a:cZ X h s.mt){i:Nat}(hmt:s.mt=.rd i xs):ct T Goal X s gs v sl t 0:=by
 rw[hmt]at a;obtain⟨rfl,hi⟩:=a;obtain⟨a1,a2,f,g⟩:=jU H.wg zh;rw[hmt]at a2;exact fJ O H d (Tb _ _ _ v) (.en1 i 39 xs) s.st s.sm ⟨(UG _ _ _).bu,hi⟩ zy (.inl ⟨rfl,rfl,rfl⟩) (.opn rfl a1 a2 f zc) (λe b=>by simp at b;exact .inr (.inr (.inr (.inl ⟨1,b⟩)))) zh (.inl zc) (.inl (by rw[hmt];simp[Mt.aI]))
theorem aac(O:bl T Goal X)(H:PI T Goal X s gs v t)(f:gs[0]?=some h)(b:cZ X h s.mt){i:Nat}(hmt:s.mt=.en1 i 0 xs):ct T Goal X s gs v sl t 0:=by
 rw[hmt]at b;obtain⟨a,hi⟩:=b;cases a;obtain⟨a1,a2,g,l⟩:=jU H.wg zh;rw[hmt]at a2;exact fJ O H f (UI _ _ _ v) (.go i 4 xs) s.st s.sm ⟨(Lq _ _ _).trans (J8 O xs hi),hi⟩ zy (.inl ⟨rfl,rfl,rfl⟩) (.opn rfl a1 a2 g zc) (λe d=>by simp at d;exact .inr (.inr (.inl d))) zh (.inl zc) (.inl (by rw[hmt];simp[Mt.aI]))
theorem aaJ(O:bl T Goal X)(H:PI T Goal X s gs v t)(g:gs[0]?=some h)(b:cZ X h s.mt){i k:Nat}(hmt:s.mt=.en i 0 k xs):ct T Goal X s gs v sl t 0:=by
 rw[hmt]at b;obtain⟨a,hi,d⟩:=b;cases a;obtain⟨a1,a2,l,m⟩:=jU H.wg zh;rw[hmt]at a2;exact fJ O H g (OB _ _ _ d v) (.go i 4 xs) s.st s.sm ⟨(RM _ _ _ d).trans (J8 O xs hi),hi⟩ zy (.inl ⟨rfl,rfl,rfl⟩) (.opn rfl a1 a2 l zc) (λe f=>by simp at f;exact .inr (.inr (.inl f))) zh (.inl zc) (.inl (by rw[hmt];simp[Mt.aI]))
theorem P6(O:bl T Goal X)(H:PI T Goal X s gs v t)(g:gs[0]?=some h)(d:cZ X h s.mt)(hmt:s.mt=.ld j 0 xs):ct T Goal X s gs v sl t 0:=by
 rw[hmt]at d;obtain⟨b,hi⟩:=d;cases b;obtain⟨a1,a2,i,l⟩:=jU H.wg zh;rw[hmt]at a2;have e:=bg.value (FI X.M xs X.ds j) (NY X.M xs X.ds j (.chan (some X.M.cN))) (w:=v) (w':=v) (es:=#[⟨.cell (.a X.M.bN 0),false,false⟩]) ⟨H.wd.Kt,rfl,rfl⟩;rw[UB,wW]at e;exact fJ O H g e (.sd j 3 xs) s.st s.sm ⟨(Yr _ _ _ _).bu,hi⟩ zy (.inl ⟨rfl,rfl,rfl⟩) (.opn rfl a1 a2 i zc) (λe f=>by simp at f;exact .inr (.inr (.inr (.inr (.inr (.inr f)))))) zh (.inl zc) (.inl (by rw[hmt];simp[Mt.aI]))
theorem Wu(O:bl T Goal X)(H:PI T Goal X s gs v t)(g:gs[0]?=some h)(d:cZ X h s.mt)(hmt:s.mt=.lc 0 xs):ct T Goal X s gs v sl t 0:=by
 rw[hmt]at d;have b:=d;cases b;obtain⟨a1,a2,i,l⟩:=jU H.wg zh;rw[hmt]at a2;have e:=bg.value (Kp X.M xs X.ds X.E.n) (PJ X.M xs X.ds X.E.n (.chan (some X.M.cN))) (w:=v) (w':=v) (es:=#[⟨.cell (.a X.M.bN 0),false,false⟩]) ⟨H.wd.Kt,rfl,rfl⟩;rw[Vb,wW]at e;exact fJ O H g e (.cl xs) s.st s.sm rfl zy (.inl ⟨rfl,rfl,rfl⟩) (.opn rfl a1 a2 i zc) (λe f=>by simp at f;exact .inr (.inr (.inr (.inr (.inr (.inr f)))))) zh (.inl zc) (.inl (by rw[hmt];simp[Mt.aI]))
theorem ZU(O:bl T Goal X)(H:PI T Goal X s gs v t)(f:gs[0]?=some h)(b:cZ X h s.mt)(hmt:s.mt=.wd 0 xs):ct T Goal X s gs v sl t 0:=by
 rw[hmt]at b;have a:=b;cases a;obtain⟨a1,a2,g,i⟩:=jU H.wg zh;rw[hmt]at a2;have h1:=(MN (X.wc xs) X.ds X.M.wg).bu;rw[Lo]at h1;exact fJ O H f (Mq _ _ _ v) (.wl 19 xs _) s.st s.sm (h1.trans (Dt _ _ _ _).bu) zy (.inl ⟨rfl,rfl,rfl⟩) (.opn rfl a1 a2 g zc) (λe d=>by simp at d;exact .inr (.inl d)) zh (.inl zc) (.inl (by rw[hmt];simp[Mt.aI]))
theorem Lp(O:bl T Goal X)(H:PI T Goal X s gs v t)(f:gs[0]?=some h)(g:cZ X h s.mt){ys:Nat->ag}(hmt:s.mt=.wl 0 xs ys):ct T Goal X s gs v sl t 0:=by
 rw[hmt]at g;have d:bh Pg true 0 h _:=g;cases d;obtain⟨a1,a2,i,p⟩:=jU H.wg (by rw[hmt];rfl);rw[hmt]at a2;have a:s.st=s.c*bM:=a2;have o:=H9 O H;have e:=bg.value (El (X.wc xs) X.ds X.M.wg ys) (aar _ _ _ _ s.st) (w:=v) (w':=v) (es:=#[bt (.extern 190),⟨.cell (cO X),false,true⟩]) ⟨H.wd.cell0,rfl,rfl⟩;rw[Ya]at e;have b:∀e∈(#[⟨.cell (cO X),false,true⟩]:Array Event),sU X e:=λe l=>by simp at l;subst l;exact .inl ⟨0,_,rfl⟩
 by_cases m:s.c=0
 .refine fJ O H f e (.zen 31 xs ys) s.st s.sm ?_ (by rw[hmt];exact⟨rfl,rfl,rfl⟩) (.inl ⟨rfl,rfl,rfl⟩) (.done rfl rfl (Zy a1 m) (by grind) i) b (by rw[hmt];rfl) (.inl (λn xs h=>by cases h)) (.inl (by rw[hmt];simp[Mt.aI]))
  have:=(Tn (X.wc xs) X.ds X.M.wg ys).bu;rw[a,m];exact this
 .refine fJ O H f e (.gV s.c 48 xs ys) s.st s.sm ⟨?_,by omega,by omega⟩ (by rw[hmt];exact⟨rfl,rfl,rfl⟩) (.inl ⟨rfl,rfl,rfl⟩) (.opn rfl a1 a i (λk n xs ys h=>by cases h;exact aba _)) b (by rw[hmt];rfl) (.inl (λn xs h=>by cases h)) (.inl (by rw[hmt];simp[Mt.aI]));rw[a];exact(UU (X.wc xs) X.ds X.M.wg ys ⟨by omega,by omega⟩).bu
theorem RY(O:bl T Goal X)(H:PI T Goal X s gs v t)(f:gs[0]?=some h)(b:cZ X h s.mt){ys:Nat->ag}(hmt:s.mt=.zen 0 xs ys):ct T Goal X s gs v sl t 0:=by
 rw[hmt]at b;have a:=b;cases a;obtain⟨a1,a2,g⟩:=oS H.wg zh zh;exact fJ O H f (X4 _ _ _ _ v) (.zc 3 xs ys) s.st s.sm (Yk _ _ _ _).bu zy (.inl ⟨rfl,rfl,rfl⟩) (.done rfl rfl a1 a2 g) (λe d=>by simp at d;exact .inr (.inr (.inl d))) zh (.inl zc) (.inl (by rw[hmt];simp[Mt.aI]))
theorem QF(O:bl T Goal X)(H:PI T Goal X s gs v t)(d:gs[0]?=some h)(b:cZ X h s.mt){ys:Nat->ag}(hmt:s.mt=.zc 0 xs ys):ct T Goal X s gs v sl t 0:=by
 rw[hmt]at b;have a:=b;cases a;obtain⟨a1,a2,f⟩:=oS H.wg zh zh;have e:=bg.value (Hs (X.wc xs) X.ds X.M.wg ys) (KZ _ _ _ _) (w:=v) (w':=v) (es:=#[]) ⟨H.wd.shape,H.wd.shape,rfl,rfl⟩;rw[fY]at e;exact fJ O H d e (.za xs ys) s.st s.sm rfl zy (.inl ⟨rfl,rfl,rfl⟩) (.done rfl rfl a1 a2 f) (λe g=>by simp at g) zh (.inl zc) (.inl (by rw[hmt];simp[Mt.aI]))
theorem YS(O:bl T Goal X)(H:PI T Goal X s gs v t)(f:gs[0]?=some h)(b:cZ X h s.mt){ys:Nat->ag}(hmt:s.mt=.za xs ys):ct T Goal X s gs v sl t 0:=by
 rw[hmt]at b;have a:=b;subst a;obtain⟨a1,a2,g⟩:=oS H.wg zh zh;have h1:=(WN (X.wc xs) X.ds X.M.wg ys).bu;rw[XY]at h1;exact fJ O H f (Yc _ _ _ _ v) (.fin 23 xs) s.st s.sm (h1.trans (G5 X.M xs X.ds X.E.n).bu) zy (.inl ⟨rfl,rfl,rfl⟩) (.done rfl rfl a1 a2 g) (λe d=>by simp at d;exact .inr (.inr (.inr (.inr (.inr (.inl d)))))) zh (.inr ⟨a1,zh,rfl⟩) (.inl (by rw[hmt];simp[Mt.aI]))
theorem QX(O:bl T Goal X)(H:PI T Goal X s gs v t)(o:gs[0]?=some h)(p:cZ X h s.mt){k:Nat}{ys:Nat->ag}(hmt:s.mt=.gV k 0 xs ys):ct T Goal X s gs v sl t 0:=by
 rw[hmt]at p;obtain⟨m,f⟩:=p;cases m;obtain⟨a1,a2,q,u⟩:=jU H.wg zh;rw[hmt]at a2;have g:=a2;have x:=u _ _ _ _ hmt;by_cases r:s.c=k
 .subst r;have b:=H.wd.cell0;rw[g]at b;have e:=bg.value (BR (X.wc xs) X.ds X.M.wg ys f) (LR _ _ _ _ f) (w:=v) (w':=v.setCell (.a X.M.wg 0) (.int .u64 (s.c*bM+1:Nat))) (es:=#[bt (.extern 192),⟨.cell (cO X),false,true⟩,⟨.cell (cO X),true,true⟩])
   ⟨H.wd.shape,H.wd.frozen 0,b,zp,zp,⟨_,H.wd.cell0⟩,H.wd.frozen 0,rfl,rfl⟩
  rw[Ix _ _ _ _ f,(GD _).1]at e;have i:∀e∈(#[⟨.cell (cO X),false,true⟩,⟨.cell (cO X),true,true⟩]:Array Event),sU X e:=λe l=>by simp at l;rcases l with rfl|rfl<;>exact .inl ⟨0,_,rfl⟩
  exact fJ O H o e (.hcv s.c 19 xs ys) (s.c*bM+1) s.sm ⟨(VP (X.wc xs) X.ds X.M.wg ys f).bu,f⟩ zy (.inr (.inl ⟨rfl,rfl⟩)) (.eX rfl a1 f.1 rfl q) i zh (.inl zc) (.inl (by rw[hmt];simp[Mt.aI]))
 .have b:=H.wd.cell0;rw[g]at b;have e:=bg.value (BR (X.wc xs) X.ds X.M.wg ys f) (PK _ _ _ _ f (d:=s.c) zo) (w:=v) (w':=v) (es:=#[bt (.extern 192),⟨.cell (cO X),false,true⟩])
   ⟨H.wd.shape,H.wd.frozen 0,b,rfl,rfl⟩
  rw[Ix _ _ _ _ f,(GD _).2]at e;have i:∀e∈(#[⟨.cell (cO X),false,true⟩]:Array Event),sU X e:=λe l=>by simp at l;subst l;exact .inl ⟨0,_,rfl⟩
  obtain⟨n,y⟩:=P3 (X.wc xs) X.ds X.M.wg ys f;exact fJ O H o e (.wl 25 xs n) s.st s.sm y zy (.inl ⟨rfl,rfl,rfl⟩) (.opn rfl a1 g q zc) i zh (.inl zc) (.inl (by rw[hmt];simp[Mt.aI,Ne.symm r]))
theorem YG(O:bl T Goal X)(H:PI T Goal X s gs v t)(f:gs[0]?=some h)(d:cZ X h s.mt){k:Nat}{ys:Nat->ag}(hmt:s.mt=.hcv k 0 xs ys):ct T Goal X s gs v sl t 0:=by
 rw[hmt]at d;obtain⟨a,b⟩:=d;cases a;have e:=bg.value (C2 (X.wc xs) X.ds X.M.wg ys b) (aag _ _ _ _ b) (w:=v) (w':=v) (es:=#[]) ⟨H.wd.shape,H.wd.shape,rfl,rfl⟩;rw[fY]at e;exact fJ O H f e (.hwr k xs ys) s.st s.sm ⟨rfl,b⟩ zy (.inl ⟨rfl,rfl,rfl⟩) (H.wg.yG zh rfl (λ_=>rfl)) (λe g=>by simp at g) zh (.inl zc) (.inl (by rw[hmt];simp[Mt.aI]))
theorem Qb(O:bl T Goal X)(H:PI T Goal X s gs v t)(g:gs[0]?=some h)(b:cZ X h s.mt){k:Nat}{ys:Nat->ag}(hmt:s.mt=.hwr k xs ys):ct T Goal X s gs v sl t 0:=by
 rw[hmt]at b;obtain⟨rfl,d⟩:=b;obtain⟨a,i⟩:=TG (X.wc xs) X.ds X.M.wg ys d;exact fJ O H g (NW _ _ _ _ d v) (.fG 23 xs a) s.st s.sm i zy (.inl ⟨rfl,rfl,rfl⟩) (H.wg.yG zh rfl (λ_=>rfl)) (λe f=>by simp at f;exact .inr (.inr (.inr (.inr (.inl ⟨1,f⟩))))) zh (.inl zc) (.inl (by rw[hmt];simp[Mt.aI]))
theorem MA(O:bl T Goal X)(H:PI T Goal X s gs v t)(p:gs[0]?=some h)(r:cZ X h s.mt){ys:Nat->ag}(hmt:s.mt=.fG 0 xs ys):ct T Goal X s gs v sl t 0:=by
 rw[hmt]at r;have m:=r;cases m;have b:s.sm=0\/(s.sm=1/\sQ s/\s.st=0):=by
  cases H.wg with
  |opn a1 a2 i g f=>exact .inl g
  |eX a1 a2 i g f=>exact .inl f
  |last q a1 a2 i g f y u=>exact .inl u
  |gZ a1 a2 i g f=>grind
  |done a1 a2 i g f=>exact .inl f
 have d:=H.wd.Fv;have n:(lI (X.wc xs) X.ds X.M.wg ys).frame.fn=130:=rfl;rcases b with b|⟨b,x,o⟩
 .rw[b]at d;have e:=bg.blocked (Bv (X.wc xs) X.ds X.M.wg ys) (Y5 _ _ _ _) (w:=v) (w':=v) (es:=#[bt (.extern 173),bt .disable,⟨.cell (.a X.M.wg 1),false,true⟩]) ⟨d,rfl,rfl⟩;rw[fY]at e;exact fJ O H p e (.blk xs ys) s.st s.sm rfl zy (.inl ⟨rfl,rfl,rfl⟩) (H.wg.yG zh rfl (λh=>by rw[b]at h;cases h)) (λe l=>by simp at l) zh (.inl zc) (.inr (by rw[hmt];exact⟨rfl,by simp[Mt.idle]⟩))
 .rw[b]at d;have e:=bg.value (Bv (X.wc xs) X.ds X.M.wg ys) (LU _ _ _ _) (w:=v) (w':=v.setCell (.a X.M.wg 1) (.int .u32 (0:Nat))) (es:=#[bt (.extern 173),bt .disable,⟨.cell (.a X.M.wg 1),false,true⟩,⟨.cell (.a X.M.wg 1),true,true⟩,bt .enable]) ⟨d,zp,zp,⟨_,d⟩,H.wd.frozen 1,rfl,rfl⟩;rw[n,(Ld _).1]at e;exact fJ O H p e (.l2 16 xs ys) s.st 0 (YJ _ _ _ _).bu zy (.inr (.inr ⟨rfl,rfl⟩)) (.done rfl rfl x o rfl) (λe l=>by
   simp at l;rcases l with rfl|rfl|rfl|rfl
   .exact .inr (.inl rfl)
   .exact .inl ⟨1,_,rfl⟩
   .exact .inl ⟨1,_,rfl⟩
   .exact .inr (.inr (.inl rfl))) zh (.inl zc) (.inl (by rw[hmt];simp[Mt.aI]))
theorem Ux(O:bl T Goal X)(H:PI T Goal X s gs v t)(g:gs[0]?=some h)(d:cZ X h s.mt){ys:Nat->ag}(hmt:s.mt=.l2 0 xs ys):ct T Goal X s gs v sl t 0:=by
 rw[hmt]at d;have b:=d;cases b;obtain⟨a1,a2,i⟩:=oS H.wg zh zh;have a:=H.wd.cell0;rw[a2]at a;have e:=bg.value (GY (X.wc xs) X.ds X.M.wg ys) (S3 _ _ _ _) (w:=v) (w':=v) (es:=#[bt (.extern 190),⟨.cell (cO X),false,true⟩]) ⟨a,rfl,rfl⟩;rw[OM]at e;exact fJ O H g e (.en2 11 xs ys) s.st s.sm (Sj _ _ _ _).bu zy (.inl ⟨rfl,rfl,rfl⟩) (.done rfl rfl a1 a2 i) (λe f=>by simp at f;subst f;exact .inl ⟨0,_,rfl⟩) zh (.inl zc) (.inl (by rw[hmt];simp[Mt.aI]))
theorem Ql(O:bl T Goal X)(H:PI T Goal X s gs v t)(f:gs[0]?=some h)(b:cZ X h s.mt){ys:Nat->ag}(hmt:s.mt=.en2 0 xs ys):ct T Goal X s gs v sl t 0:=by
 rw[hmt]at b;have a:=b;cases a;obtain⟨a1,a2,g⟩:=oS H.wg zh zh;exact fJ O H f (NO _ _ _ _ v) (.ac 3 xs ys) s.st s.sm (U8 _ _ _ _).bu zy (.inl ⟨rfl,rfl,rfl⟩) (.done rfl rfl a1 a2 g) (λe d=>by simp at d;exact .inr (.inr (.inl d))) zh (.inl zc) (.inl (by rw[hmt];simp[Mt.aI]))
theorem Py(O:bl T Goal X)(H:PI T Goal X s gs v t)(d:gs[0]?=some h)(b:cZ X h s.mt){ys:Nat->ag}(hmt:s.mt=.ac 0 xs ys):ct T Goal X s gs v sl t 0:=by
 rw[hmt]at b;have a:=b;cases a;obtain⟨a1,a2,f⟩:=oS H.wg zh zh;have e:=bg.value (Io (X.wc xs) X.ds X.M.wg ys) (MD _ _ _ _) (w:=v) (w':=v) (es:=#[]) ⟨H.wd.shape,H.wd.shape,rfl,rfl⟩;rw[fY]at e;exact fJ O H d e (.aq xs ys) s.st s.sm rfl zy (.inl ⟨rfl,rfl,rfl⟩) (.done rfl rfl a1 a2 f) (λe g=>by simp at g) zh (.inl zc) (.inl (by rw[hmt];simp[Mt.aI]))
theorem OD(O:bl T Goal X)(H:PI T Goal X s gs v t)(f:gs[0]?=some h)(b:cZ X h s.mt){ys:Nat->ag}(hmt:s.mt=.aq xs ys):ct T Goal X s gs v sl t 0:=by
 rw[hmt]at b;have a:=b;subst a;obtain⟨a1,a2,g⟩:=oS H.wg zh zh;have h1:=(XH (X.wc xs) X.ds X.M.wg ys).bu;rw[Pn]at h1;exact fJ O H f (N6 _ _ _ _ v) (.fin 13 xs) s.st s.sm (h1.trans (G5 X.M xs X.ds X.E.n).bu) zy (.inl ⟨rfl,rfl,rfl⟩) (.done rfl rfl a1 a2 g) (λe d=>by simp at d;exact .inr (.inr (.inr (.inr (.inr (.inl d)))))) zh (.inr ⟨a1,zh,rfl⟩) (.inl (by rw[hmt];simp[Mt.aI]))
end
end
end
section
open Go.Conc
open Go.ConcN (upd upd_same upd_ne sumTo sumTo_upd sumTo_congr sumTo_le le_sumTo RelBy)
theorem WE(M:Mn)(xs:Nat->ag)(cs:List al)(j:Int):gP (jY M xs cs j) (jY M xs cs j).frame=jY M xs cs j:=zk
section
variable {L:aR}{T:bw}{Goal:al->List al->af->Prop}{X:PC L}
theorem Fz(O:bl T Goal X){s:PS}{gs:Array ai}{v:af}{sl:Option (Nat×Nat)}{t:Trace}(H:PI T Goal X s gs v t){h:ai}(h0:gs[0]?=some h){i:Nat}(hmt:s.mt=.go i 0 xs)(e:stepG Pg true h v=.spawn h1 (pQ X.p) v #[])(hM:cZ X h1 mt')(Z:mt'.dh X=0)(e2:mt'.shut=false)(e3:mt'.on X=i+1)(e4:mt'.gm=0)(e5:mt'.deaf=0)(e6:lV mt'=true)(e7:∀k n xs ys,mt'≠.gV k n xs ys)(e8:∀n xs,mt'≠.fin n xs)(e9:∀c,mt'.aI c+22<s.mt.aI s.c):ct T Goal X s gs v sl t 0:=by
 have ad:=O.n0;obtain⟨a1,a2,a3,a4⟩:=jU H.wg zh;rw[hmt]at a2;have an:s.st=(s.c+1)*bM:=a2;have hj:s.j=i:=by rw[H.ac.on,hmt];rfl
 have M:=H.gs.size;have B:=runT_crowd_spawn (P:=Pg) (sl:=sl) (i:=0) h0 (show stepG Pg (0==0) h v=_ from e);have hz:∀fn pos,MemOp.ofEvents 0 fn pos #[]=#[]:=λfn pos=>by simp[ofEvents_eq]
 rw[hz]at B;let s':PS:={s with mt:=mt',j:=s.j+1,ws:=upd s.ws s.j (.load 7),ow:=upd s.ow s.j (λ_=>False)}
 have G:∀k,k<s.j->s'.ws k=s.ws k:=λk d=>upd_ne _ _ zo;have J:∀k,k<s.j->s'.ow k=s.ow k:=λk d=>upd_ne _ _ zo;have u:s'.ws s.j=.load 7:=upd_same _ _ _;have N:s'.ow s.j=λ_=>False:=upd_same _ _ _;have z:∀f:Wk->Nat,sumTo (s.j+1) (λk=>f (s'.ws k))=sumTo s.j (λk=>f (s.ws k))+f (.load 7):=λf=>by
  show sumTo s.j (λk=>f (s'.ws k))+f (s'.ws s.j)=_;rw[u,sumTo_congr λk d=>by rw[G k d]]
 have hc:s'.c=s.c+1:=z Wk.cnt;let x:MemOp:={g:=0,fn:=h.frame.fn,pos:=h.frame.place,act:=.go gs.size}
 let y:MemOp:={g:=gs.size,fn:=(pQ X.p).frame.fn,pos:=h.frame.place,act:=.start}
 have ao:((#[]:Trace).push x).push y=#[x,y]:=rfl;have D:runT Pg (crowd gs v sl) 0=(.next (crowd ((gs.setIfInBounds 0 h1).push (pQ X.p)) v sl),#[x,y]):=B;have l:=λk=>oQ t k [x,y] (by intro op w;simp at w;rcases w with rfl|rfl<;>exact⟨by simp[x,y],by simp[x,y]⟩);refine⟨s',_,_,_,D,⟨?_,?_,?_,?_,?_⟩,.inl ?_⟩
 .refine⟨by simp[M,s'];omega,⟨h1,?_,hM⟩,λk d=>?_,λk g d Q R=>?_,λk d=>?_⟩
  .grind
  .rw[l];have o:k<s.j+1:=d;rcases abw k s.j with a|q
   .obtain⟨g,R,hW⟩:=H.gs.work k a;grind
   .obtain rfl:k=s.j:=zo;refine⟨pQ X.p,zg,?_⟩;rw[u,N];exact⟨(YP X.p).bu,H.gs.above _ zo⟩
  .rw[l];rw[Array.getElem?_push,AT zt,abA zo]at R;exact H.gs.lN k g d Q R
  .rw[l];simp at d;exact H.gs.above k zo
 .exact H.wd.same rfl (by rw[e2,hmt];rfl) (by rw[Z,hmt];rfl) rfl rfl rfl rfl
 .have S:s.mt.dh X=0:=zh;refine⟨zg,zg,by show s.rN+s.dW.length=mt'.dh X;rw[Z,H.ac.nf,S],λm hm=>?_,?_,H.ac.gC,H.ac.okB,λk d K=>?_,λk d A=>?_⟩
  .grind
  .have this:sumTo (s.j+1) (λk=>if (s'.ws k).dr.isSome then 1 else 0)=sumTo s.j (λk=>if (s.ws k).dr.isSome then 1 else 0)+0:=z (λx=>if x.dr.isSome then 1 else 0);have h2:=H.ac.count;grind
  .have o:k<s.j+1:=d;rcases abw k s.j with a|q
   .rw[G k a]at K;exact⟨(H.ac.eB k a K).1,e2⟩
   .obtain rfl:k=s.j:=zo;rw[u]at K;cases K
  .have o:k<s.j+1:=d;rcases abw k s.j with a|q
   .rw[G k a]at A
    have:=(H.ac.gone k a A).1;rw[hmt]at this;cases this
   .obtain rfl:k=s.j:=by omega
    rw[u]at A;simp[Wk.aI]at A
 .refine .opn e6 (λk d=>?_) ?_ a3 (λk n xs ys h=>absurd h (e7 k n xs ys))
  .have o:k<s.j+1:=d;rcases abw k s.j with a|q
   .rw[G k a];exact a1 k a
   .obtain rfl:k=s.j:=by omega
    rw[u];exact .inr (by simp[Wk.aI])
  grind
 .have U:Deaf t 0=0:=by rw[H.tr.d0,hmt];rfl
  have hf:=H.tr.tp.fork (.inl rfl) (k:=gs.size) zo (λV=>by have:=V.2;omega) (λb hb=>by obtain⟨i,hi,he,_⟩:=hb;omega) (x:=x) (y:=y) ⟨rfl,rfl⟩ ⟨rfl,rfl⟩ U (H.gs.above _ zf);have l1:(λk=>(k=0\/gS X s k)\/k=gs.size)=(λk=>k=0\/gS X s' k):=by
   funext k;apply propext;show((k=0\/(X.n0<=k/\k<X.n0+s.j))\/k=gs.size)↔(k=0\/(X.n0<=k/\k<X.n0+(s.j+1)));omega
  have l2:(λk=>gS X s k\/k=gs.size)=gS X s':=by
   funext k;apply propext;show((X.n0<=k/\k<X.n0+s.j)\/k=gs.size)↔(X.n0<=k/\k<X.n0+(s.j+1));omega
  rw[l1,l2]at hf;have W:∀op∈(#[x,y]:Trace),op.act.touch?=none:=λop w=>by simp at w;rcases w with rfl|rfl<;>rfl
  refine⟨hf.grow zf (λk b=>?_) (λb hb=>.inl hb) (λb hb=>.inl hb) (λb hb=>hb),λk b d hb=>?_,λk k' b d o hb I=>?_,λk d A=>?_,H.tr.norel.app λop w=>?_,zg,λn xs V=>absurd V (e8 n xs)⟩
  .rintro⟨k',o,rfl,hb⟩;have F:k'<s.j+1:=o;rcases abw k' s.j with a|q
   .rw[J k' a]at hb;exact .inl ⟨k',a,rfl,hb⟩
   grind
  .have F:k<s.j+1:=d;rcases abw k s.j with a|q
   .rw[J k a]at hb;exact H.tr.own k b a hb
   grind
  .have F:k<s.j+1:=d;have aq:k'<s.j+1:=o;rcases abw k s.j with a|q
   .rcases abw k' s.j with C|ab
    .rw[J k a]at hb;rw[J k' C]at I;exact H.tr.apart k k' b a C hb I
    grind
   grind
  .have F:k<s.j+1:=d;rcases abw k s.j with a|q
   .rw[G k a]at A;obtain⟨r,Y⟩:=H.tr.rel k a A;exact⟨r,RelBy.still Y W⟩
   .obtain rfl:k=s.j:=by omega
    rw[u]at A;cases A
  grind
 .have h1:=z Wk.aI;have h2:=e9 s'.c;show mt'.aI s'.c+sumTo (s.j+1) (λk=>(s'.ws k).aI)+12*s'.c+60*(X.E.n-s.rN)<s.mt.aI s.c+sumTo s.j (λk=>(s.ws k).aI)+12*s.c+60*(X.E.n-s.rN);simp only[Wk.aI]at h1 ⊢;omega
theorem Xh(O:bl T Goal X){s:PS}{gs:Array ai}{v:af}{sl:Option (Nat×Nat)}{t:Trace}(H:PI T Goal X s gs v t){h:ai}(m:gs[0]?=some h)(n:cZ X h s.mt){i:Nat}(hmt:s.mt=.go i 0 xs):ct T Goal X s gs v sl t 0:=by
 rw[hmt]at n;obtain⟨f,hi⟩:=n;cases f;obtain⟨e,a,o⟩:=RE O xs hi;have p:=O.nW;rcases abw (i+1) X.nW with b|q
 .refine Fz O H m hmt (e v) (mt':=.fC (i+1) 31 a) ⟨o.trans ((CU O a (i:=i+1) zo).1 b),b⟩ rfl rfl rfl rfl rfl rfl zc zc (λc=>?_);rw[hmt];simp only[Mt.aI];omega
 .have d:i+1=X.nW:=zo;obtain⟨g,l⟩:=(CU O a (i:=i+1) zo).2 d;refine Fz O H m hmt (e v) (mt':=.ld 0 37 g) ⟨o.trans l,by have:=O.nn;omega⟩ rfl rfl d.symm rfl rfl rfl zc zc (λc=>?_);rw[hmt];simp only[Mt.aI];omega
theorem Gs.Dv{s:PS}{gs:Array ai}{v:af}{t:Trace}(O:bl T Goal X)(H:Gs T Goal X s gs v t)(f:cZ X h1 s'.mt)(d:s'.j=s.j)(g:s'.ws=s.ws)(l:s'.ow=s.ow)(m:s'.q=s.q){u:List MemOp}(n:∀op∈u,sf op.act)(hs:v<=v1.heap.size)(o:∀b,((∃r,X.E.ρ r b)\/∃i,i<s.j/\s.ow i b)->v1.heap[b]?=v.heap[b]?):Gs T Goal X s' (gs.setIfInBounds 0 h1) v1 (t++u.toArray):=by
 have p:=O.n0;have a:=λi=>oQ t i u n;refine⟨by simp[H.size,d],⟨h1,by rw[acB (by rw[H.size];omega)],f⟩,λi hi=>?_,λi x hi w e=>?_,λi hi=>?_⟩
 .rw[d]at hi;rw[a,g,l];obtain⟨x,z,y⟩:=H.work i hi;refine⟨x,zg,?_⟩;exact y.nM hs λb hb=>o b (hb.imp id λx=>⟨i,hi,x⟩)
 .rw[abA zo]at e;rw[a,m];exact H.lN i x hi w e
 .rw[a];exact H.above i (by simpa using hi)
theorem Vo(O:bl T Goal X)(xs:Nat->ag)(hj:j<X.E.n): ∃mt',cZ X (py X.M xs X.ds j) mt'/\mt'.dh X=j+1/\mt'.shut=false/\mt'.on X=X.nW/\mt'.gm=0/\mt'.deaf=0/\lV mt'=true/\(∀k n xs ys,mt'≠.gV k n xs ys)/\(∀n xs,mt'≠.fin n xs)/\∀c b n xs,mt'.aI c<(Mt.sd j n xs).aI b:=by
 have f:=O.nn;have h1:=(Yh X.M xs X.ds j).bu;rw[SU,wrap_small zo zo]at h1;have hl:=EU O (pW (aW Pg true 9 (py X.M xs X.ds j))) (j:=j+1) zo;rcases abw (j+1) X.E.n with a|e
 .refine⟨.ld (j+1) 22 _,⟨h1.trans (hl.1 a),a⟩,rfl,rfl,rfl,rfl,rfl,rfl,zc,zc,λc b n xs=>?_⟩;simp only[Mt.aI];omega
 .have d:j+1=X.E.n:=zo;refine⟨.lc 16 _,h1.trans (hl.2 d),d.symm,rfl,rfl,rfl,rfl,rfl,zc,zc,λc b n xs=>?_⟩;simp only[Mt.aI];omega
theorem TU(O:bl T Goal X){s:PS}{gs:Array ai}{v:af}{sl:Option (Nat×Nat)}{t:Trace}(H:PI T Goal X s gs v t){h:ai}(h0:gs[0]?=some h)(y:cZ X h s.mt)(hmt:s.mt=.sd j 0 xs):ct T Goal X s gs v sl t 0:=by
 rw[hmt]at y;obtain⟨aB,hj⟩:=y;cases aB;have bs:=O.n0;have b1:=O.bT;have b2:=O.cN;have b3:=O.bN;have b4:=O.cB;have b5:=O.bB;have b6:=O.wg;obtain⟨a1,a2,a3,a4⟩:=jU H.wg (by rw[hmt];rfl);rw[hmt]at a2;have aE:s.st=s.c*bM:=a2;have e:stepG Pg (0==0) (jY X.M xs X.ds j) v=.comm (jY X.M xs X.ds j) #[scase X.M.cN (X.num j) (.tuple #[])] true .send v #[]:=by
  have hc:=bg.comm (Ha X.M xs X.ds j) (Lv X.M xs X.ds j) (w:=v) (w':=v) (es:=#[]) ⟨rfl,rfl⟩;rw[fY,WE]at hc;unfold xF at hc;rw[O.first]at hc;exact hc
 have hz:∀fn pos,MemOp.ofEvents 0 fn pos #[]=#[]:=λfn pos=>by simp[ofEvents_eq]
 have U:=H.wd.cN;have aT:s.mt.shut=false:=by rw[hmt];rfl
 have V:s.mt.dh X=j:=by rw[hmt];rfl
 rw[aT,V]at U;have I:X.M.cN<v:=by grind
 have q:=H.ac.nf;rw[V]at q;have o:=H.ac.count;rw[V]at o;have bx:s.j=X.nW:=by rw[H.ac.on,hmt];rfl
 obtain⟨mt',an,f1,f2,f3,f4,f5,f6,f7,f8,f9⟩:=Vo O xs hj;have bp:∀i b,i<s.j->s.ow i b->b≠X.M.cN:=λi b hi hb h=>by have:=(H.tr.own i b hi hb).1;omega
 have C:(jY X.M xs X.ds j).finishComm Pg #[scase X.M.cN (X.num j) (.tuple #[])] .send 0 undef false=py X.M xs X.ds j:=by
  unfold py xF;rw[O.first];rfl
 by_cases hp:partners (gs.setIfInBounds 0 ph) X.M.cN false= []
 ·
  have W:(s.dW.map X.num).toArray.size<X.E.n:=by simp;omega
  have l:=crowd_send_room (P:=Pg) (sl:=sl) h0 e U W hp;rw[hz,acp,C]at l;have ep:(s.dW.map X.num).toArray.push (X.num j)=((s.dW++ [j]).map X.num).toArray:=by simp
  rw[ep]at l;obtain⟨c1,c2,c3,c4,c5,c6⟩:=vf v X.M.cN X.E.n ((s.dW++ [j]).map X.num).toArray false (j+1) s.rN false I;let s':PS:={s with mt:=mt',dW:=s.dW++ [j]}
  refine⟨s',_,_,_,l,⟨?_,?_,?_,?_,?_⟩,.inl ?_⟩
  .refine H.gs.Dv O (s':=s') an rfl rfl rfl rfl (u:=[_,_]) ?_ (by omega) ?_
   .intro op a;simp at a;rcases a with rfl|rfl<;>exact⟨by simp,by simp⟩
   .rintro b (⟨r,D⟩|⟨m,y,F⟩)
    .exact c3 b (by have:=(O.K.dq r b D).2;omega)
    grind
  .refine⟨⟨by omega,λb F=>by rw[c3 b (by omega)];exact H.wd.old.2 b F⟩,by rw[c1];exact H.wd.size,?_,?_,?_,?_,?_,?_,H.wd.tape,H.wd.os,H.wd.output⟩
   .rw[c3 _ (by omega)];exact H.wd.bT
   .rw[c3 _ (by omega)];exact H.wd.bN
   .rw[c3 _ (by omega)];exact H.wd.bB
   .grind
   .obtain⟨sB,hB⟩:=H.wd.cB;grind
   .rw[c3 _ (by omega)];exact H.wd.wg
  .refine⟨by grind,by grind,by grind,λm y=>?_,?_,λm y=>?_,H.ac.okB,λm y a6=>?_,λm y D=>?_⟩
   .have Y:m<mt'.dh X:=y;rcases abw m j with a7|a8
    .rcases H.ac.cover m (by omega) with h|h|h
     .grind
     .exact .inr (.inl h)
     .exact .inr (.inr h)
    grind
   .grind
   .have Y:m∈s.dW++ [j]:=y;simp at Y;rcases Y with h|rfl
    .exact H.ac.gC m h
    .exact hj
   ·
    exfalso;obtain⟨g,R,hW⟩:=H.gs.work m y;rcases hW.status with⟨hx,_⟩|⟨ys,hx,rfl⟩
    .grind
    .have:(X.n0+m,0)∈partners (gs.setIfInBounds 0 ph) X.M.cN false:=by
      refine mem_partners.2 ⟨_,by rw[abA (by omega)];exact R,?_⟩;unfold kg;rw[uS,offersAt_parked_recv];simp
     grind
   .have:=(H.ac.gone m y D).1;grind
  .refine .opn f6 a1 ?_ a3 (λk n xs ys h=>absurd h (f7 k n xs ys));show s.st=(s.c+mt'.gm)*bM;rw[f4];exact aE
  .refine H.tr.still (s':=s') rfl rfl (λm y Z=>Z) (by show mt'.deaf=_;rw[f5,hmt];rfl) c1 (λn xs h=>f8 n xs h) (u:=[_,_]) ?_ ?_ ?_ ?_
   .intro op a;simp at a;rcases a with rfl|rfl<;>rfl
   .intro op a;simp at a;rcases a with rfl|rfl<;>exact I
   .intro op a;simp at a;rcases a with rfl|rfl<;>exact⟨by simp,by simp⟩
   grind
  .have:=f9 s.c s.c 0 xs;rw[<-hmt]at this;show mt'.aI s.c+sumTo s.j (λm=>(s.ws m).aI)+12*s.c+60*(X.E.n-s.rN)<s.mt.aI s.c+sumTo s.j (λm=>(s.ws m).aI)+12*s.c+60*(X.E.n-s.rN);omega
 ·
  have ao:∀m k,(m,k)∈partners (gs.setIfInBounds 0 ph) X.M.cN false->k=0/\m≠0/\∃J zj B,gs[m]?=some (parked J #[rcase X.M.cN zj] B):=by
   intro m k bb;obtain⟨g,R,ho⟩:=mem_partners.1 bb;rcases getElem?_stand gs 0 m g R with⟨_,rfl⟩|⟨bc,R⟩
   .cases ho
   .rcases yI O H.gs R with⟨k',ys,_,_,_,rfl⟩|h'
    .unfold kg at ho R;rw[uS]at ho R;rw[offersAt_parked_recv,BY rfl]at ho;grind
    grind
  obtain⟨m,J,zj,B,d,bc,bd,l⟩:=crowd_send_meets_some (P:=Pg) (sl:=sl) h0 e U hp ao;obtain⟨k,ys,hk,rfl,hσ,aq⟩: ∃k ys,k<s.j/\m=X.n0+k/\s.ws k=.eB ys/\parked J #[rcase X.M.cN zj] B=kg X ys:=by
   rcases yI O H.gs bd with h|h'
   .exact h
   .have:=h' X.M.cN false;rw[offersAt_parked_recv,BY rfl]at this;cases this
  have ar:=congrArg Goroutine.offers aq;have bm:J.finishComm Pg #[rcase X.M.cN zj] B 0 (X.num j) true=(iV X.p ys).finishComm Pg #[rcase X.M.cN (.i 0)] (.recv true) 0 (X.num j) true:=by
   have z:some ((#[rcase X.M.cN zj]:Array CommCase),B)=some ((#[rcase X.M.cN (.i 0)]:Array CommCase),CommShape.recv true):=ar;simp only[aaX,abx]at z;rw[<-finishComm_parked Pg J _ #[rcase X.M.cN zj] _ B,aq,z.1,z.2];unfold kg;exact finishComm_parked Pg (iV X.p ys) _ _ _ _ _ _ _
  obtain⟨ab,_⟩:=H.ac.eB k hk (by rw[hσ];rfl);rw[hz,acp,C,bm,ab]at l;have av:X.M.cN<(v.at d).heap.size:=I;obtain⟨c1,c2,c3,c4,c5,c6⟩:=vf (v.at d) X.M.cN X.E.n (([]:List Nat).map X.num).toArray false (j+1) (s.rN+1) false av;have k1:(v.at d).heap=v.heap:=rfl;rw[k1]at c1 c3;have D:(s.ws k).aI=8/\(s.ws k).dr=none/\(s.ws k).cnt=1:=by rw[hσ];exact⟨rfl,rfl,rfl⟩
  let σ:Wk:=.draw 11 j (kY ys (IntKind.i64.wrap (X.E.first+j)))
  let s':PS:={s with mt:=mt',ws:=upd s.ws k σ,rN:=s.rN+1}
  let s1:PS:={s with ws:=upd s.ws k σ,rN:=s.rN+1}
  have ad:∀m,m≠k->upd s.ws k σ m=s.ws m:=λm y=>upd_ne _ _ y;have G:upd s.ws k σ k=σ:=upd_same _ _ _;have N:=λf=>sumTo_upd s.ws σ f hk;have ay:∀b,((∃r,X.E.ρ r b)\/∃i,i<s.j/\s.ow i b)->((v.at d).setChan X.M.cN X.E.n (([]:List Nat).map X.num).toArray false (j+1) (s.rN+1) false).heap[b]?=v.heap[b]? :=by
   rintro b (⟨r,D⟩|⟨m,y,F⟩)
   .exact c3 b (by have:=(O.K.dq r b D).2;omega)
   grind
  refine⟨s',_,_,_,l,⟨?_,?_,?_,?_,?_⟩,.inl ?_⟩
  .have bn:=H.gs.comm O hk (s':=s1) (g1:=(iV X.p ys).finishComm Pg #[rcase X.M.cN (.i 0)] (.recv true) 0 (X.num j) true) rfl ad rfl rfl rfl (u:=[{g:=0,fn:=(jY X.M xs X.ds j).frame.fn,pos:=(jY X.M xs X.ds j).frame.place,act:=.send X.M.cN j},{g:=X.n0+k,fn:=J.frame.fn,pos:=J.frame.place,act:=.recv X.M.cN s.rN X.E.n},{g:=0,fn:=(jY X.M xs X.ds j).frame.fn,pos:=(jY X.M xs X.ds j).frame.place,act:=.sendDone X.M.cN j},{g:=X.n0+k,fn:=J.frame.fn,pos:=J.frame.place,act:=.recvDone X.M.cN s.rN}])
    (v1:=(v.at d).setChan X.M.cN X.E.n (([]:List Nat).map X.num).toArray false (j+1) (s.rN+1) false) ?_ ?_ (by omega) ay
   .have bo:=bn.Dv O (s':=s') (h1:=py X.M xs X.ds j) an rfl rfl rfl rfl (u:=[]) (λop a=>by cases a) (aba _) (λ_ _=>rfl);simpa using bo
   .intro op a;simp at a;rcases a with rfl|rfl|rfl|rfl<;>exact⟨by simp,by simp⟩
   .show iQ T Goal X (s.ow k) _ _ _ (upd s.ws k σ k);rw[G];have hd:Deaf t (X.n0+k)=0:=by
     obtain⟨g,R,hW⟩:=H.gs.work k hk;rw[hσ]at hW;exact hW.2
    refine⟨?_,hd,hj,rfl⟩;have az:=(GG X.p ys (IntKind.i64.wrap (X.E.first+j))).bu;rw[IK]at az;exact az
  .refine⟨⟨by omega,λb F=>by rw[c3 b (by omega)];exact H.wd.old.2 b F⟩,by rw[c1];exact H.wd.size,?_,?_,?_,?_,?_,?_,H.wd.tape,H.wd.os,H.wd.output⟩
   .rw[c3 _ (by omega)];exact H.wd.bT
   .rw[c3 _ (by omega)];exact H.wd.bN
   .rw[c3 _ (by omega)];exact H.wd.bB
   .grind
   .obtain⟨sB,hB⟩:=H.wd.cB;grind
   .rw[c3 _ (by omega)];exact H.wd.wg
  .rw[ab]at q o;simp only[abM]at q o;refine⟨by grind,by grind,by grind,λi hi=>?_,?_,H.ac.gC,H.ac.okB,λi hi a6=>?_,λi hi D=>?_⟩
   .have bL:i<mt'.dh X:=hi;rcases abw i j with a7|a8
    .rcases H.ac.cover i (by omega) with h|h|⟨k',h1,h2⟩
     .exact .inl h
     .exact .inr (.inl h)
     grind
    .obtain rfl:i=j:=by omega
     exact .inr (.inr ⟨k,hk,by show(upd s.ws k σ k).dr=some i;rw[G];rfl⟩)
   .have:=N (λx=>if x.dr.isSome then 1 else 0);grind
   .grind
   .have Q:(upd s.ws k σ i).aI<=7:=D;by_cases A:i=k
    .subst A;rw[G]at Q;simp[σ,Wk.aI]at Q
    .rw[ad i A]at Q
     have:=(H.ac.gone i hi Q).1;grind
  .have aA:s'.c=s.c:=by
    have:=N Wk.cnt;rw[D.2.2]at this;have this:sumTo s.j (λm=>(upd s.ws k σ m).cnt)+1=sumTo s.j (λm=>(s.ws m).cnt)+1:=this;show sumTo s.j (λm=>(upd s.ws k σ m).cnt)=sumTo s.j (λm=>(s.ws m).cnt);omega
   refine .opn f6 (λi hi=>?_) ?_ a3 (λk n xs ys h=>absurd h (f7 k n xs ys))
   .show (upd s.ws k σ i).aI=0\/4<=(upd s.ws k σ i).aI;by_cases A:i=k
    .subst A;rw[G];exact .inr (by simp[σ,Wk.aI])
    .rw[ad i A];exact a1 i hi
   grind
  .refine H.tr.still (s':=s') rfl rfl (λi hi Z=>?_) (by show mt'.deaf=_;rw[f5,hmt];rfl) c1 (λn xs h=>f8 n xs h) (u:=[_,_,_,_]) ?_ ?_ ?_ ?_
   .have S:(upd s.ws k σ i).rel=true:=Z;by_cases A:i=k
    .subst A;rw[G]at S;cases S
    grind
   .intro op a;simp at a;rcases a with rfl|rfl|rfl|rfl<;>rfl
   .intro op a;simp at a;rcases a with rfl|rfl|rfl|rfl<;>exact I
   .intro op a;simp at a;rcases a with rfl|rfl|rfl|rfl<;>exact⟨by simp,by simp⟩
   grind
  .have aA:s'.c=s.c:=by
    have:=N Wk.cnt;rw[D.2.2]at this;have this:sumTo s.j (λm=>(upd s.ws k σ m).cnt)+1=sumTo s.j (λm=>(s.ws m).cnt)+1:=this;show sumTo s.j (λm=>(upd s.ws k σ m).cnt)=sumTo s.j (λm=>(s.ws m).cnt);omega
   have h1:=N Wk.aI;have h2:=f9 s.c s.c 0 xs;rw[<-hmt]at h2;rw[D.1]at h1;rw[ab]at q;simp only[abM]at q;show mt'.aI s'.c+sumTo s.j (λm=>(upd s.ws k σ m).aI)+12*s'.c+60*(X.E.n-(s.rN+1))<s.mt.aI s.c+sumTo s.j (λm=>(s.ws m).aI)+12*s.c+60*(X.E.n-s.rN);rw[aA];have br:σ.aI=60:=rfl;omega
end
end
end Go.Proofs.YtldmcdeibiclkaaGreat.U
