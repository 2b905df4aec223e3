/-
  Toward all_holds
-/
import Derived.Test.YtldmcdeibiclkaaGreatC11
import Derived.Test.YtldmcdeibiclkaaGreatC01
set_option linter.all false
noncomputable section
set_option maxRecDepth 100000
set_option maxHeartbeats 20000000
namespace Go.Proofs.YtldmcdeibiclkaaGreat.U
variable {gs:Array ai}{t:Trace}{d cap b N:Nat}{es es':Array Event}{g:ai}{bs:List ny}{x z:ag}
section
open Go.Conc
open Go.ConcN (upd upd_same upd_ne sumTo sumTo_upd sumTo_congr sumTo_le le_sumTo RelBy)
section
variable {L:aR}{T:bw}{Goal:al->List al->af->Prop}{X:PC L}
def lT:Wk->Wk
 |.eB xs=>.woken xs
 |σ=>σ
theorem pJ(σ:Wk):(lT σ).cnt=σ.cnt/\(lT σ).dr=σ.dr/\(lT σ).rel=σ.rel/\(lT σ).parked=false/\(lT σ).aI<=σ.aI+1/\((lT σ).aI<=7->σ.aI<=7)/\(σ.aI=0\/4<=σ.aI->(lT σ).aI=0\/4<=(lT σ).aI):=by
 cases σ<;>simp[lT,Wk.cnt,Wk.dr,Wk.rel,Wk.parked,Wk.aI]
theorem Fb{f g:Nat->Nat}:∀{j:Nat},(∀k,k<j->f k<=g k+1)->sumTo j f<=sumTo j g+j
 |0,_=>aba _
 |j+1,h=>by
  have h1:=Fb (f:=f) (g:=g) (j:=j) λk a=>h k zo;have h2:=h j zo;simp only[sumTo];omega
theorem Tz(O:bl T Goal X){s:PS}{v:af}{sl:Option (Nat×Nat)}(H:PI T Goal X s gs v t){h:ai}(h0:gs[0]?=some h)(S:cZ X h s.mt){xs:Nat->ag}(hmt:s.mt=.cl xs):ct T Goal X s gs v sl t 0:=by
 rw[hmt]at S;have U:h=_:=S;subst U;have aq:=O.n0;have b1:=O.bT;have b2:=O.cN;have b3:=O.bN;have b4:=O.cB;have b5:=O.bB;have b6:=O.wg;obtain⟨a1,a2,a3,a4⟩:=jU H.wg zh;rw[hmt]at a2;have V:s.st=s.c*bM:=a2;have q:=H.wd.cN;have W:s.mt.shut=false:=zh;have u:s.mt.dh X=X.E.n:=zh;rw[W,u]at q;have I:X.M.cN<v:=zg;have Y:s.j=X.nW:=by rw[H.ac.on,hmt];rfl
 have ar:=O.nW;let v1:World:={v with heap:=v.heap.setIfInBounds X.M.cN (.chan X.E.n (s.dW.map X.num).toArray true X.E.n s.rN false)}
 have c1:v1=v.heap.size:=by simp[v1]
 have c2:v1.heap[X.M.cN]?=some (.chan X.E.n (s.dW.map X.num).toArray true X.E.n s.rN false):=by simp[v1,I]
 have c3:∀b,b≠X.M.cN->v1.heap[b]?=v.heap[b]? :=λb hb=>zg;have e:=bg.value (DR X.M xs X.ds X.E.n) (ZQ X.M xs X.ds X.E.n X.E.n (s.dW.map X.num).toArray X.E.n s.rN false) (w:=v) (w':=v1) (es:=#[⟨.obj X.M.cN,false,true⟩,⟨.obj X.M.cN,true,true⟩]) ⟨q,rfl,⟨_,q,rfl⟩,rfl,rfl⟩;rw[Wy,Jl]at e;have J:=runT_crowd_go (P:=Pg) (sl:=sl) (i:=0) h0 (show stepG Pg (0==0) (kz X.M xs X.ds X.E.n) v=_ from e);have ao:∀i b,i<s.j->s.ow i b->b≠X.M.cN:=λi b hi hb h=>by have:=(H.tr.own i b hi hb).1;omega
 let s':PS:={s with mt:=.wd 7 xs,ws:=λk=>lT (s.ws k)}
 have A:∀k,s'.ws k=lT (s.ws k):=λ_=>rfl;have hc:s'.c=s.c:=sumTo_congr λk _=>(pJ (s.ws k)).1;have Z:=H.gs.size;have ab:cZ X (gP (kz X.M xs X.ds X.E.n) ((kz X.M xs X.ds X.E.n).frame.finish unit)) (.wd 7 xs):=by
  have h1:=(Uk X.M xs X.ds X.E.n).bu;rw[Q7]at h1;exact h1.trans (Qx _ _ _).bu
 have B:∀i,i≠0->Deaf (t++MemOp.ofEvents 0 (kz X.M xs X.ds X.E.n).frame.fn (kz X.M xs X.ds X.E.n).frame.place #[⟨.obj X.M.cN,false,true⟩,⟨.obj X.M.cN,true,true⟩]) i=Deaf t i:=λi hi=>Deaf_other t (Ne.symm hi) _ λop C=>ofEvents_g C;refine⟨s',_,v1,_,J,⟨?_,?_,?_,?_,?_⟩,.inl ?_⟩
 .refine⟨by simp[Z,s'],⟨_,zg,ab⟩,λk o=>?_,λk g o ad Q=>?_,λk o=>?_⟩
  .rw[B _ zo,A];obtain⟨g,Q,R⟩:=H.gs.work k o;have av:=R.nM (v2:=v1) zo (by
    rintro b (⟨r,D⟩|hb)
    .exact c3 b (by have:=(O.K.dq r b D).2;omega)
    grind)
   rcases R.status with⟨F,_⟩|⟨ys,hx,rfl⟩
   .refine⟨g,?_,?_⟩
    .rw[abA zo,abX,Q];simp only[aca];rw[R.woken _ _ (λh=>by rw[F]at h;cases h)]
    .have:lT (s.ws k)=s.ws k:=by cases hσ:s.ws k<;>first|rfl|(rw[hσ]at F;cases F)
     grind
   .refine⟨{kg X ys with status:=.running},?_,?_⟩
    .rw[abA zo,abX,Q];simp only[aca,aaX];unfold Go.Conc.woken;rw[VA,BY (by rfl)];unfold kg;rw[uS];exact again_recv_closed c2
    .rw[hx]at R ⊢;exact⟨rfl,R.2⟩
  .rw[B _ zo];rw[abA zo,abX]at Q;obtain⟨y,hy,rfl⟩:=abD.1 Q;have hq:=H.gs.lN k y o ad hy;rw[woken_quitsD hq];exact hq
  .simp at o;rw[B k zo];exact H.gs.above k o
 .refine⟨⟨zo,λb an=>by rw[c3 b zo];exact H.wd.old.2 b an⟩,by rw[c1];exact H.wd.size,?_,?_,?_,c2,?_,?_,H.wd.tape,H.wd.os,H.wd.output⟩
  .rw[c3 _ zo];exact H.wd.bT
  .rw[c3 _ zo];exact H.wd.bN
  .rw[c3 _ zo];exact H.wd.bB
  .obtain⟨sB,hB⟩:=H.wd.cB;grind
  .rw[c3 _ zo];exact H.wd.wg
 .have p:=H.ac.nf;have l:=H.ac.count;rw[u]at p l;refine⟨Y,zf,p,λm S=>?_,?_,H.ac.gC,H.ac.okB,λk o F=>?_,λk o D=>?_⟩
  .rcases H.ac.cover m (by rw[u];exact S) with h|h|⟨k',h1,h2⟩
   .exact .inl h
   .exact .inr (.inl h)
   .exact .inr (.inr ⟨k',h1,by rw[A,(pJ _).2.1];exact h2⟩)
  .show s.dW.length+sumTo s.j (λk=>if (s'.ws k).dr.isSome then 1 else 0)+s.fA.length<=X.E.n;rw[sumTo_congr (g:=λk=>if (s.ws k).dr.isSome then 1 else 0) λk _=>by rw[A,(pJ _).2.1]];exact l
  .rw[A,(pJ _).2.2.2.1]at F;cases F
  .rw[A]at D
   have:=(H.ac.gone k o ((pJ _).2.2.2.2.2.1 D)).1;grind
 .refine .opn rfl (λk o=>?_) ?_ a3 zc
  .rw[A];exact(pJ _).2.2.2.2.2.2 (a1 k o)
  .show s.st=(s'.c+0)*bM;rw[hc];exact V
 .refine H.tr.step O (s':=s') (.inl rfl) rfl zo (λi b hi hb=>.inl hb) H.wd.size (λe G a ha=>?_) (λe G=>?_) (λk o D=>?_) (λe G=>?_) (by simp only[abj];rw[H.tr.d0,hmt];rfl) zc
  .simp at G;rcases G with rfl|rfl
   .simp only[MemAct.ofEvent,MemAct.touch?,aaX]at ha;subst ha;refine⟨rfl,λb hb=>?_⟩;simp only[blk,aaX]at hb;subst hb;exact .inr (.inr ⟨.inr (.inl rfl),zp,zp⟩)
   .simp[MemAct.ofEvent,MemAct.touch?]at ha
  .simp at G;rw[c1];rcases G with rfl|rfl<;>exact I
  .rw[A,(pJ _).2.2.1]at D;exact yC H.tr (λop C=>ofEvents_g C) o zo D
  grind
 .have h1:=Fb (f:=λk=>(s'.ws k).aI) (g:=λk=>(s.ws k).aI) (j:=s.j) λk _=>(pJ (s.ws k)).2.2.2.2.1;show(Mt.wd 7 xs).aI s'.c+sumTo s.j (λk=>(s'.ws k).aI)+12*s'.c+60*(X.E.n-s.rN)<s.mt.aI s.c+sumTo s.j (λk=>(s.ws k).aI)+12*s.c+60*(X.E.n-s.rN);rw[hc,hmt];simp only[Mt.aI];omega
theorem ZB(O:bl T Goal X){s:PS}{v:af}{sl:Option (Nat×Nat)}(H:PI T Goal X s gs v t)(p:∀n xs,s.mt=.fin n xs->False){h:ai}(l:gs[0]?=some h)(q:h.status=.running):ct T Goal X s gs v sl t 0:=by
 obtain⟨r,o,f⟩:=H.gs.main;rw[l]at o;cases o;cases hmt:s.mt with
 |fC i n xs=>
  cases n with
  |zero=>exact Qe O H l f hmt
  |succ n=>
   rw[hmt]at f;rcases f.1.eJ with⟨a,_⟩|⟨m,g1,a,c,e⟩
   .cases a
   .cases a;exact ik O H l c (mt':=.fC i n xs) ⟨e,f.2⟩ (by rw[hmt];exact⟨λ_=>rfl,rfl,rfl,rfl,rfl,rfl,rfl,rfl,rfl,zc,zc⟩) zh
 |add i n xs=>
  cases n with
  |zero=>exact SG O H l f hmt
  |succ n=>
   rw[hmt]at f;rcases f.1.eJ with⟨a,_⟩|⟨m,g1,a,c,e⟩
   .cases a
   .cases a;exact ik O H l c (mt':=.add i n xs) ⟨e,f.2⟩ (by rw[hmt];exact⟨λ_=>rfl,rfl,rfl,rfl,rfl,rfl,rfl,rfl,rfl,zc,zc⟩) zh
 |cv i n xs=>
  cases n with
  |zero=>exact TD O H l f hmt
  |succ n=>
   rw[hmt]at f;rcases f.1.eJ with⟨a,_⟩|⟨m,g1,a,c,e⟩
   .cases a
   .cases a;exact ik O H l c (mt':=.cv i n xs) ⟨e,f.2⟩ (by rw[hmt];exact⟨λ_=>rfl,rfl,rfl,rfl,rfl,rfl,rfl,rfl,rfl,zc,zc⟩) zh
 |rd i xs=>exact YN O H l f hmt
 |en1 i n xs=>
  cases n with
  |zero=>exact aac O H l f hmt
  |succ n=>
   rw[hmt]at f;rcases f.1.eJ with⟨a,_⟩|⟨m,g1,a,c,e⟩
   .cases a
   .cases a;exact ik O H l c (mt':=.en1 i n xs) ⟨e,f.2⟩ (by rw[hmt];exact⟨λ_=>rfl,rfl,rfl,rfl,rfl,rfl,rfl,rfl,rfl,zc,zc⟩) zh
 |en i n k xs=>
  cases n with
  |zero=>exact aaJ O H l f hmt
  |succ n=>
   rw[hmt]at f;rcases f.1.eJ with⟨a,_⟩|⟨m,g1,a,c,e⟩
   .cases a
   .cases a;exact ik O H l c (mt':=.en i n k xs) ⟨e,f.2⟩ (by rw[hmt];exact⟨λ_=>rfl,rfl,rfl,rfl,rfl,rfl,rfl,rfl,rfl,zc,zc⟩) zh
 |go i n xs=>
  cases n with
  |zero=>exact Xh O H l f hmt
  |succ n=>
   rw[hmt]at f;rcases f.1.eJ with⟨a,_⟩|⟨m,g1,a,c,e⟩
   .cases a
   .cases a;exact ik O H l c (mt':=.go i n xs) ⟨e,f.2⟩ (by rw[hmt];exact⟨λ_=>rfl,rfl,rfl,rfl,rfl,rfl,rfl,rfl,rfl,zc,zc⟩) zh
 |ld j n xs=>
  cases n with
  |zero=>exact P6 O H l f hmt
  |succ n=>
   rw[hmt]at f;rcases f.1.eJ with⟨a,_⟩|⟨m,g1,a,c,e⟩
   .cases a
   .cases a;exact ik O H l c (mt':=.ld j n xs) ⟨e,f.2⟩ (by rw[hmt];exact⟨λ_=>rfl,rfl,rfl,rfl,rfl,rfl,rfl,rfl,rfl,zc,zc⟩) zh
 |sd j n xs=>
  cases n with
  |zero=>exact TU O H l f hmt
  |succ n=>
   rw[hmt]at f;rcases f.1.eJ with⟨a,_⟩|⟨m,g1,a,c,e⟩
   .cases a
   .cases a;exact ik O H l c (mt':=.sd j n xs) ⟨e,f.2⟩ (by rw[hmt];exact⟨λ_=>rfl,rfl,rfl,rfl,rfl,rfl,rfl,rfl,rfl,zc,zc⟩) zh
 |lc n xs=>
  cases n with
  |zero=>exact Wu O H l f hmt
  |succ n=>
   rw[hmt]at f;rcases bh.eJ f with⟨a,_⟩|⟨m,g1,a,c,e⟩
   .cases a
   .cases a;exact ik O H l c (mt':=.lc n xs) e (by rw[hmt];exact⟨λ_=>rfl,rfl,rfl,rfl,rfl,rfl,rfl,rfl,rfl,zc,zc⟩) zh
 |cl xs=>exact Tz O H l f hmt
 |wd n xs=>
  cases n with
  |zero=>exact ZU O H l f hmt
  |succ n=>
   rw[hmt]at f;rcases bh.eJ f with⟨a,_⟩|⟨m,g1,a,c,e⟩
   .cases a
   .cases a;exact ik O H l c (mt':=.wd n xs) e (by rw[hmt];exact⟨λ_=>rfl,rfl,rfl,rfl,rfl,rfl,rfl,rfl,rfl,zc,zc⟩) zh
 |wl n xs ys=>
  cases n with
  |zero=>exact Lp O H l f hmt
  |succ n=>
   rw[hmt]at f;rcases bh.eJ f with⟨a,_⟩|⟨m,g1,a,c,e⟩
   .cases a
   .cases a;exact ik O H l c (mt':=.wl n xs ys) e (by rw[hmt];exact⟨λ_=>rfl,rfl,rfl,rfl,rfl,rfl,rfl,rfl,rfl,zc,zc⟩) zh
 |zen n xs ys=>
  cases n with
  |zero=>exact RY O H l f hmt
  |succ n=>
   rw[hmt]at f;rcases bh.eJ f with⟨a,_⟩|⟨m,g1,a,c,e⟩
   .cases a
   .cases a;exact ik O H l c (mt':=.zen n xs ys) e (by rw[hmt];exact⟨λ_=>rfl,rfl,rfl,rfl,rfl,rfl,rfl,rfl,rfl,zc,zc⟩) zh
 |zc n xs ys=>
  cases n with
  |zero=>exact QF O H l f hmt
  |succ n=>
   rw[hmt]at f;rcases bh.eJ f with⟨a,_⟩|⟨m,g1,a,c,e⟩
   .cases a
   .cases a;exact ik O H l c (mt':=.zc n xs ys) e (by rw[hmt];exact⟨λ_=>rfl,rfl,rfl,rfl,rfl,rfl,rfl,rfl,rfl,zc,zc⟩) zh
 |za xs ys=>exact YS O H l f hmt
 |gV k n xs ys=>
  cases n with
  |zero=>exact QX O H l f hmt
  |succ n=>
   rw[hmt]at f;rcases f.1.eJ with⟨a,_⟩|⟨m,g1,a,c,e⟩
   .cases a
   .cases a;exact ik O H l c (mt':=.gV k n xs ys) ⟨e,f.2⟩ (by rw[hmt];exact⟨λ_=>rfl,rfl,rfl,rfl,rfl,rfl,rfl,rfl,rfl,(λ_ _ _ _ a=>zg),zc⟩) zh
 |hcv k n xs ys=>
  cases n with
  |zero=>exact YG O H l f hmt
  |succ n=>
   rw[hmt]at f;rcases f.1.eJ with⟨a,_⟩|⟨m,g1,a,c,e⟩
   .cases a
   .cases a;exact ik O H l c (mt':=.hcv k n xs ys) ⟨e,f.2⟩ (by rw[hmt];exact⟨λ_=>rfl,rfl,rfl,rfl,rfl,rfl,rfl,rfl,rfl,zc,zc⟩) zh
 |hwr k xs ys=>exact Qb O H l f hmt
 |fG n xs ys=>
  cases n with
  |zero=>exact MA O H l f hmt
  |succ n=>
   rw[hmt]at f;rcases bh.eJ f with⟨a,_⟩|⟨m,g1,a,c,e⟩
   .cases a
   .cases a;exact ik O H l c (mt':=.fG n xs ys) e (by rw[hmt];exact⟨λ_=>rfl,rfl,rfl,rfl,rfl,rfl,rfl,rfl,rfl,zc,zc⟩) zh
 |blk xs ys=>
  rw[hmt]at f;have:h=_:=f;grind
 |l2 n xs ys=>
  cases n with
  |zero=>exact Ux O H l f hmt
  |succ n=>
   rw[hmt]at f;rcases bh.eJ f with⟨a,_⟩|⟨m,g1,a,c,e⟩
   .cases a
   .cases a;exact ik O H l c (mt':=.l2 n xs ys) e (by rw[hmt];exact⟨λ_=>rfl,rfl,rfl,rfl,rfl,rfl,rfl,rfl,rfl,zc,zc⟩) zh
 |en2 n xs ys=>
  cases n with
  |zero=>exact Ql O H l f hmt
  |succ n=>
   rw[hmt]at f;rcases bh.eJ f with⟨a,_⟩|⟨m,g1,a,c,e⟩
   .cases a
   .cases a;exact ik O H l c (mt':=.en2 n xs ys) e (by rw[hmt];exact⟨λ_=>rfl,rfl,rfl,rfl,rfl,rfl,rfl,rfl,rfl,zc,zc⟩) zh
 |ac n xs ys=>
  cases n with
  |zero=>exact Py O H l f hmt
  |succ n=>
   rw[hmt]at f;rcases bh.eJ f with⟨a,_⟩|⟨m,g1,a,c,e⟩
   .cases a
   .cases a;exact ik O H l c (mt':=.ac n xs ys) e (by rw[hmt];exact⟨λ_=>rfl,rfl,rfl,rfl,rfl,rfl,rfl,rfl,rfl,zc,zc⟩) zh
 |aq xs ys=>exact OD O H l f hmt
 |fin n xs=>grind
theorem Vv(O:bl T Goal X){s:PS}{v:af}{sl:Option (Nat×Nat)}(H:PI T Goal X s gs v t)(a:∀n xs,s.mt=.fin n xs->False){i:Nat}(hi:gs[i]?=some g)(e:g.status=.running):ct T Goal X s gs v sl t i:=by
 have f:=(IN.1 hi).1;rw[H.gs.size]at f;rcases acL i with rfl|c
 .exact ZB O H a hi e
 .rcases abw i X.n0 with h|h
  .exact L6 O H a c h hi e
  .obtain⟨k,rfl⟩: ∃k,i=X.n0+k:=⟨i-X.n0,zo⟩
   exact To O H a zo hi e
theorem iQ.runs{ow:Nat->Prop}{v:af}{σ:Wk}(h:iQ T Goal X ow d g v σ)(c:σ.parked=false)(e:σ.aI≠0):g.status=.running:=by
 cases σ with
 |load n=>exact h.1.run (Bf _).2.1
 |recv n xs=>exact h.1.run (Bq _ _).2.1
 |eB xs=>cases c
 |woken xs=>rw[h.1]
 |draw n i xs=>exact h.1.run (FC _ _)
 |ops i l xs=>rw[h.1];exact GA _ _ _
 |text i l xs s=>obtain⟨_,_,Y,_,a⟩:=h;exact a.running
 |lz i l xs s=>obtain⟨_,_,Y,_,a⟩:=h;exact a.running
 |conv n xs=>exact h.1.run (zM _ _).2.1
 |rz xs=>rw[h.1];exact F4 _ _
 |fC n xs=>exact h.1.run (EV _ _)
 |add n xs=>exact h.1.run (yH _ _).2.1
 |iI n xs=>exact h.1.run (zQ _ _ _).2.1
 |ft n xs=>exact h.1.run (BU _ _ _).2.1
 |iu n xs=>exact h.1.run (AH _ _ _).2.1
 |quit q=>exact absurd rfl e
theorem Hf{f:Nat->Nat}:∀{j:Nat},1<=sumTo j f->∃k,k<j/\1<=f k
 |0,h=>absurd h (by simp[sumTo])
 |j+1,h=>by
  simp only[sumTo]at h;by_cases hj:1<=f j
  .grind
  .obtain⟨k,a,h1⟩:=Hf (f:=f) (j:=j) zo;grind
theorem ND(O:bl T Goal X){s:PS}{v:af}(H:PI T Goal X s gs v t): ∃(i:Nat) (g:ai),gs[i]?=some g/\g.status=.running:=by
 obtain⟨h,w,o⟩:=H.gs.main;rcases o.status O with⟨_,m⟩|⟨xs,ys,hmt,_⟩
 .grind
 .have key:∀k,k<s.j->(s.ws k).aI≠0->∃(i:Nat) (g:ai),gs[i]?=some g/\g.status=.running:=by
   intro k l m;obtain⟨g,p,r⟩:=H.gs.work k l;refine⟨_,g,p,r.runs ?_ m⟩;cases u:(s.ws k).parked with
   |false=>rfl
   |true=>
    have:=(H.ac.eB k l u).2;rw[hmt]at this;cases this
  cases H.wg with
  |opn a1 a2 a c e=>rw[hmt]at a1;cases a1
  |eX a1 a2 a c e=>
   obtain⟨k,l,h1⟩:=Hf (f:=λk=>(s.ws k).cnt) a;have h2:=Wk.BH (s.ws k);have y:=(Wk.A2 (s.ws k)).1 zo;grind
  |last q a1 a2 a c e A B=>grind
  |gZ a1 a2 a c e=>rw[hmt]at a2;cases a2
  |done a1 a2 a c e=>rw[hmt]at a2;cases a2
theorem O4(O:bl T Goal X){s:PS}{v:af}(H:PI T Goal X s gs v t):∀g∈gs,awake g:=by
 intro g e;obtain⟨i,hi,rfl⟩:=adj.1 e;have a:=abI hi;rw[H.gs.size]at hi;have j:∀{st:GoStatus},gs[i].status=st->(∀t,st≠.sleeping t)->awake gs[i]:=λh1 h2 t=>by rw[h1];exact h2 t
 rcases acL i with rfl|f
 .obtain⟨h,l,m⟩:=H.gs.main;rw[a]at l;have l:=acy l;rcases m.status O with⟨_,c⟩|⟨xs,ys,_,c⟩
  .grind
  grind
 .rcases abw i X.n0 with h|h
  .rcases (H.gs.lN i _ f h a).status with c|c
   .grind
   grind
  .obtain⟨k,rfl⟩: ∃k,i=X.n0+k:=⟨i-X.n0,zo⟩
   obtain⟨g,e,o⟩:=H.gs.work k zo;rw[a]at e;have e:=acy e;rcases o.status with⟨_,c|c⟩|⟨ys,_,c⟩
   .grind
   .grind
   .exact j (st:=.blocked) (by rw[e,c];rfl) (λt=>zp)
theorem PI.acc{s:PS}{v:af}(H:PI T Goal X s gs v t):Acc (pT (pd Qg Goal) 4) s.lB:=by
 refine AP 4 _ λk _ x a=>?_;unfold PS.lB at a;split at a
 .rename_i f;obtain⟨g,i,c⟩:=H.gs.work k f;cases hσ:s.ws k<;>rw[hσ]at a c<;>simp only[Wk.tree,aaX,reduceCtorEq]at a
  .subst a;obtain⟨_,_,Y,_,e⟩:=c;exact e.acc
  .subst a;obtain⟨_,_,Y,_,e⟩:=c;exact e.acc
 .cases a
def yy(T:bw)(Goal:al->List al->af->Prop)(X:PC L)(gs:Array ai)(v:af)(sl:Option (Nat×Nat))(t:Trace):Prop:=
 ∃N s' gs' v' sl' t',runNT Pg N (crowd gs v sl) t=(.next (crowd gs' v' sl'),t')/\PI T Goal X s' gs' v' t'/\∃n xs,s'.mt=.fin n xs
theorem ZA(O:bl T Goal X):∀(c:Nat) (s:PS) (gs:Array ai) (v:af) (sl:Option (Nat×Nat)) (t:Trace),PI T Goal X s gs v t->s.phi X=c->yy T Goal X gs v sl t:=by
 intro c;induction c using Nat.strongRecOn with
 |_ c q=>
  have key:∀j,Acc (pT (pd Qg Goal) 4) j->∀(k:Nat) (s:PS) (gs:Array ai) (v:af) (sl:Option (Nat×Nat)) (t:Trace),PI T Goal X s gs v t->s.phi X=c->s.lB=j->s.yl X=k->yy T Goal X gs v sl t:=by
   intro j A;induction A with
   |intro j _ r=>
    intro k;induction k using Nat.strongRecOn with
    |_ k u=>
     intro s gs v sl t H e B C;by_cases y: ∃n xs,s.mt=.fin n xs
     .exact⟨0,s,gs,v,sl,t,rfl,H,y⟩
     .obtain⟨i,g,d,f,hi,D,a⟩:=crowd_pick (P:=Pg) (w:=v) (sl:=sl) (O4 O H) (ND O H);obtain⟨R,m,v',ops,E,S,l⟩:=Vv (sl:=f) O (H.at d) (λn xs h=>y ⟨n,xs,h⟩) hi D;have F:yy T Goal X m v' f (t++ops):=by
       rcases l with l|⟨l,G⟩|⟨l,G,U⟩
       .grind
       .grind
       grind
      obtain⟨N,I,o,v2,p,J,K,M,Q⟩:=F;refine⟨N+1,I,o,v2,p,J,?_,M,Q⟩;simp only[runNT,a,E];exact K
  intro s gs v sl t H e;exact key s.lB H.acc (s.yl X) s gs v sl t H e rfl rfl
end
end
section
open Go.Conc
open Go.ConcN (upd upd_same upd_ne sumTo sumTo_upd sumTo_congr sumTo_le le_sumTo RelBy)
structure Kept(Θ:Nat->Trace->Prop)(Ok:Nat->Event->Prop)(c0:Nat):Prop where
 own:∀(B B':Nat) (t:Trace) (fn:au) (pos:String) (es:Array Event),Θ B t->B<=B'->(∀e∈es,Ok B' e)->Θ B' (t++MemOp.ofEvents 0 fn pos es)
 mute:∀(B i:Nat) (t:Trace) (fn:au) (pos:String) (es:Array Event),0<i->Θ B t->(∀e∈es,e.mute=true)->Θ B (t++MemOp.ofEvents i fn pos es)
 recv:∀(B:Nat) (t:Trace) (fn:au) (pos:String) (l:List MemAct),c0<B->Θ B t->(∀a∈l,(∃r cap,a=.recv c0 r cap)\/(∃r,a=.recvDone c0 r)\/a=.recvClosed c0)->Θ B (t++(l.map λa=>({g:=0,fn,pos,act:=a}:MemOp)).toArray)
section
variable (Θ:Nat->Trace->Prop) (n:Nat)
structure rP(h:ai)(v:af)(gs:Array ai)(u:af)(t:Trace)(q:Nat->Nat):Prop where
 main:gs[0]?=some h
 world: ∃d,u=v.at d
 iP:Leavers Pg t gs q
 trace:Θ v t
 size:gs.size=n
def bI(h:ai)(v:af)(h':ai)(v':af):Prop:=
 ∀gs u sl t q,rP Θ n h v gs u t q->∃N gs' u' sl' t' q',runNT Pg N (crowd gs u sl) t=(.next (crowd gs' u' sl'),t')/\rP Θ n h' v' gs' u' t' q'
end
section
variable {Θ:Nat->Trace->Prop}{Ok:Nat->Event->Prop}{n c0:Nat}{h h1 h2:ai}{v v1 v2:af}
def bI.refl(h:ai)(v:af):bI Θ n h v h v:=λgs u sl t q H=>⟨0,gs,u,sl,t,q,rfl,H⟩
theorem bI.trans(a:bI Θ n h v h1 v1)(b:bI Θ n h1 v1 h2 v2):bI Θ n h v h2 v2:=by
 intro gs u sl t q H;obtain⟨N,c,j,e,k,l,m,o⟩:=a gs u sl t q H;obtain⟨K,f,p,i,r,s,w,y⟩:=b c j e k l o;exact⟨N+K,f,p,i,r,s,by rw[runNT_add,m];exact w,y⟩
theorem bI.one(K:Kept Θ Ok c0)(hs:h.status=.running)(l:∀(gs:Array ai) (d:Nat) (sl:Option (Nat×Nat)) (t:Trace) (q:Nat->Nat),gs.size=n->gs[0]?=some h->Leavers Pg t gs q->Θ v t->∃a p ops,runT Pg (crowd gs (v.at d) sl) 0=(.next (crowd a (v1.at p) sl),ops)/\a[0]?=some h1/\a.size=gs.size/\Leavers Pg (t++ops) a q/\Θ v1 (t++ops)):bI Θ n h v h1 v1:=by
 have key:∀(M:Nat) gs u sl t q,sumTo gs.size q<=M->rP Θ n h v gs u t q->∃N a I c J O,runNT Pg N (crowd gs u sl) t=(.next (crowd a I c),J)/\rP Θ n h1 v1 a I J O:=by
  intro M;induction M with
  |zero=>
   intro gs u sl t q Q H;obtain⟨o,rfl⟩:=H.world;obtain⟨i,g,d,c,hi,C,e⟩:=crowd_pick (P:=Pg) (w:=v.at o) (sl:=sl) (AZ H.iP H.main hs) ⟨0,h,H.main,hs⟩;rcases acL i with rfl|f
   .obtain⟨a,p,ops,y,j,r,D,E⟩:=l gs d c t q H.size H.main H.iP H.trace;exact⟨1,a,v1.at p,c,t++ops,q,by simp only[runNT,e];rw[show(v.at o).at d=v.at d from rfl,y],⟨j,⟨p,rfl⟩,D,E,by rw[r];exact H.size⟩⟩
   .obtain⟨a,k,es,y,s,j,A,m,B⟩:=Bh H.iP H.main hs hi f C ((v.at o).at d) c;omega
  |succ M R=>
   intro gs u sl t q Q H;obtain⟨o,rfl⟩:=H.world;obtain⟨i,g,d,c,hi,C,e⟩:=crowd_pick (P:=Pg) (w:=v.at o) (sl:=sl) (AZ H.iP H.main hs) ⟨0,h,H.main,hs⟩;rcases acL i with rfl|f
   .obtain⟨a,p,ops,y,j,r,D,E⟩:=l gs d c t q H.size H.main H.iP H.trace;exact⟨1,a,v1.at p,c,t++ops,q,by simp only[runNT,e];rw[show(v.at o).at d=v.at d from rfl,y],⟨j,⟨p,rfl⟩,D,E,by rw[r];exact H.size⟩⟩
   .obtain⟨a,k,es,y,s,j,A,m,B⟩:=Bh H.iP H.main hs hi f C ((v.at o).at d) c;obtain⟨N,F,S,G,U,V,W,Y⟩:=R a ((v.at o).at d) c _ (upd q i k) (by rw[s];omega) ⟨j,⟨d,rfl⟩,A,K.mute _ i t _ _ es f H.trace m,by rw[s];exact H.size⟩;exact⟨N+1,F,S,G,U,V,by simp only[runNT,e,y];exact W,Y⟩
 exactλgs u sl t q H=>key _ gs u sl t q zf H
theorem bI.go(K:Kept Θ Ok c0)(o:0<n)(hs:h.status=.running)(e:∀d,stepG Pg true h (v.at d)=.go h1 (v1.at d) es)(hv:v<=v1.heap.size)(a:∀e∈es,Ok v1 e):bI Θ n h v h1 v1:=by
 refine bI.one K hs λgs d sl t q f j k l=>?_;have m:=runT_crowd_go (P:=Pg) (sl:=sl) (i:=0) j (show stepG Pg (0==0) h (v.at d)=_ from e d);have c:0<gs.size:=zo;exact⟨_,d,_,m,acB (by simpa using c),zp,KF k zo,K.own _ _ _ _ _ _ l hv a⟩
theorem bI.bu(K:Kept Θ Ok c0)(a:0<n){m:Nat}(c:bh Pg true m h h1):bI Θ n h v h1 v:=by
 induction c with
 |refl g=>exact .refl _ _
 |@step m g g1 g2 h1 h2 _ f=>exact(bI.go K a h1 (λd=>h2 _) zf (λe i=>by simp at i)).trans f
theorem bI.op(K:Kept Θ Ok c0)(i:0<n)(f:bg Pg true h){ds:List oF}(j:feed Pg (bG h) bs=some (ds,.inl (.value x)))(k:∀d,iw ds bs (v.at d) #[] (v1.at d) es)(hv:v<=v1.heap.size)(a:seen Pg h.frame.fn es=es')(c:∀e∈es',Ok v1 e):bI Θ n h v (fin h x) v1:=by
 refine bI.go K i f.2.1 (es:=es') (λd=>?_) hv c;rw[<-a];exact bg.value f j (k d)
theorem bI.skip(K:Kept Θ Ok c0)(i:0<n)(f:bg Pg true h){ds:List oF}(j:feed Pg (bG h) bs=some (ds,.inl .skip))(k:∀d,iw ds bs (v.at d) #[] (v1.at d) es)(hv:v<=v1.heap.size)(a:seen Pg h.frame.fn es=es')(c:∀e∈es',Ok v1 e):bI Θ n h v (fin h undef) v1:=by
 refine bI.go K i f.2.1 (es:=es') (λd=>?_) hv c;rw[<-a];exact bg.skip f j (k d)
theorem JF{q:Nat->Nat}{e:ai}{l:List MemOp}(a:Leavers Pg t gs q)(hl:∀op∈l,sf op.act):Leavers Pg (t++l.toArray) (gs.setIfInBounds 0 e) q:=by
 refine⟨λj x hj c=>?_,λj hj=>?_⟩
 .rw[abA zo]at c;rw[oQ t j l hl];exact a.old j x hj c
 .rw[oQ t j l hl];exact a.above j (by simpa using hj)
theorem Jr{q:Nat->Nat}(c:Leavers Pg t gs q)(r:Nat)(b:Bool):partners (gs.setIfInBounds 0 ph) r b= []:=by
 refine partners_nil λj g a=>?_;rcases getElem?_stand gs 0 j g a with⟨_,rfl⟩|⟨hj,a⟩
 .rfl
 .have:=(c.old j g zo a).status;exact offersAt_of_not_blocked zg r b
theorem bI.recv(K:Kept Θ Ok c0)(C:0<n)(hs:h.status=.running)(e:∀d,stepG Pg true h (v.at d)=.comm h #[rcase c0 z] true (.recv true) (v.at d) #[]){l:ae}{cl:Bool}{s r:Nat}(m:v.heap[c0]?=some (.chan cap (x::l).toArray cl s r false)):
  bI Θ n h v (h.finishComm Pg #[rcase c0 z] (.recv true) 0 x true) (v.setChan c0 cap l.toArray cl s (r+1) false):=by
 have j:=(IN.1 m).1;refine bI.one K hs λgs d sl t q p u o w=>?_;have c:=crowd_recv_buf (P:=Pg) (sl:=sl) (i:=0) u (show stepG Pg (0==0) h (v.at d)=_ from e d) (show(v.at d).heap[c0]?=_ from m) zp (Jr o c0 true);have y:(x::l).toArray.extract 1 (x::l).toArray.size=l.toArray:=zg;have A:(x::l).toArray.getD 0 undef=x:=zp;have B:∀fn pos,MemOp.ofEvents 0 fn pos #[]=#[]:=λfn pos=>by simp[ofEvents_eq]
 rw[y,A,B,acp]at c;have k:0<gs.size:=zo;refine⟨_,d,_,c,acB k,zp,JF o (l:=[_,_]) ?_,?_⟩
 .intro op f;simp at f;rcases f with rfl|rfl<;>exact⟨zp,zp⟩
 .have:=K.recv v t h.frame.fn h.frame.place [.recv c0 r cap,.recvDone c0 r] j w (λa D=>zg);rw[show(v.setChan c0 cap l.toArray cl s (r+1) false).heap.size=v.heap.size by simp[World.setChan]];exact this
theorem bI.UY(K:Kept Θ Ok c0)(A:0<n)(hs:h.status=.running)(e:∀d,stepG Pg true h (v.at d)=.comm h #[rcase c0 z] true (.recv true) (v.at d) #[]){s r:Nat}(m:v.heap[c0]?=some (.chan cap #[] true s r false)):
  bI Θ n h v (h.finishComm Pg #[rcase c0 z] (.recv true) 0 z false) v:=by
 have j:=(IN.1 m).1;refine bI.one K hs λgs d sl t q p u o w=>?_;have c:=crowd_recv_closed (P:=Pg) (sl:=sl) (i:=0) u (show stepG Pg (0==0) h (v.at d)=_ from e d) (show(v.at d).heap[c0]?=_ from m) (Jr o c0 true);have y:∀fn pos,MemOp.ofEvents 0 fn pos #[]=#[]:=λfn pos=>by simp[ofEvents_eq]
 rw[y,acp]at c;have k:0<gs.size:=zo;refine⟨_,d,_,c,acB k,zp,JF o (l:=[_]) ?_,?_⟩
 .intro op f;simp at f;subst f;exact⟨zp,zp⟩
 .exact K.recv v t h.frame.fn h.frame.place [.recvClosed c0] j w (λa B=>zg)
end
end
section
open Go.Conc
open Go.ConcN (upd upd_same upd_ne sumTo sumTo_upd sumTo_congr sumTo_le le_sumTo RelBy)
theorem aah(M:Mn)(c:al)(cs:List al):(om M c cs).frame.fn=95:=zk
theorem SA(M:Mn)(c:al)(cs:List al):(nC M c cs).frame.fn=95:=zk
theorem aaC(M:Mn){n:Nat}(a:n=1\/n=4\/n=16\/n=64)(h:M.count=n)(c:al)(cs:List al)(r:Nat):feed Pg (bG (vp M c cs)) [.ref r]=some ([.nw (.chan n #[] false 0 0 false)],.inl (.value (.chan (some r)))):=by
 obtain⟨p,f,m,fn,ca,cb⟩:=M;simp only at h;subst h;rcases a with rfl|rfl|rfl|rfl<;>kernel_rfl
theorem RD(M:Mn){n:Nat}(a:n=1\/n=4\/n=16\/n=64)(h:M.count=n)(c:al)(cs:List al)(r:Nat):feed Pg (bG (vd M c cs)) [.ref r]=some ([.nw (.chan n #[] false 0 0 false)],.inl (.value (.chan (some r)))):=by
 obtain⟨p,f,m,fn,ca,cb⟩:=M;simp only at h;subst h;rcases a with rfl|rfl|rfl|rfl<;>kernel_rfl
theorem Vd(M:Mn){n nW:Nat}(a:n=1\/n=4\/n=16\/n=64)(e:(n=1/\nW=1)\/(n≠1/\nW=4))(h:M.count=n)(c:al)(cs:List al): ∃xs,bh Pg true 12 (vz M c cs) (jH M xs (c::cs) nW (0:Nat)):=by
 refine⟨pW (aW Pg true 12 (vz M c cs)),?_⟩;obtain⟨p,f,m,fn,ca,cb⟩:=M;simp only at h;subst h;rcases (show(n=1/\nW=1)\/(n=4/\nW=4)\/(n=16/\nW=4)\/(n=64/\nW=4) by omega) with⟨rfl,rfl⟩|⟨rfl,rfl⟩|⟨rfl,rfl⟩|⟨rfl,rfl⟩<;>exact tH (λw=>zk) zk
def fg(v:af)(o:Obj):World:={v with heap:=v.heap.push o}
theorem hE(v:af)(o:Obj):(fg v o).heap.size=v.heap.size+1:=by simp[fg]
theorem iS(v:af)(o:Obj)(b:Nat):(fg v o).heap[b]?=if b=v.heap.size then some o else v.heap[b]? :=by
 show(v.heap.push o)[b]?=_;grind
theorem CY(v:af)(x y:ag)(τ:ak)(hb:b=v):(fg v (.cells #[x] τ)).setCell (.a b 0) y=fg v (.cells #[y] τ):=by
 subst hb;unfold fg World.setCell;simp only[World.mk.injEq,acb];grind
section
variable {L:aR}{T:bw}{Goal:al->List al->af->Prop}{X:PC L}
def J6(X:PC L):qS where
 ro b:=b<X.E.v0.heap.size/\¬X.Sh b
 ow k b:=k=0/\(b=X.M.bT\/b=X.M.bN\/b=X.M.bB)
 qu b:=b=X.M.wg\/b=X.M.cN\/b=X.M.cB
def ji(X:PC L)(B:Nat)(t:Trace):Prop:=TP (J6 X) X.Sh (λk=>k=0) (λ_=>False) B t/\Deaf t 0=0/\NoRelease (cO X) t
def Ok0(X:PC L)(B:Nat)(e:Event):Prop:=∃b,(b=X.M.bN\/b=X.M.bB)/\b<B/\e=⟨.cell (.a b 0),true,false⟩
theorem Q4(O:bl T Goal X):Cd (J6 X):=by
 have b1:=O.bT;have b2:=O.cN;have b3:=O.bN;have c:=O.cB;have e:=O.bB;have f:=O.wg;refine⟨λk k' b h a=>h.1.trans a.1.symm,λk b h a=>?_,λk b h a=>?_,λb h a=>?_⟩
 .have:=a.1;rcases h.2 with h|h|h<;>omega
 .rcases h.2 with h|h|h<;>rcases a with a|a|a<;>omega
 .have:=h.1;rcases a with a|a|a<;>omega
theorem MB(O:bl T Goal X)(c0:Nat):Kept (ji X) (Ok0 X) c0:=by
 refine⟨λB B' t fn pos es h w j=>⟨?_,?_,?_⟩,λB i t fn pos es hi h s=>⟨?_,?_,?_⟩,λB t fn pos l y h hl=>⟨?_,?_,?_⟩⟩
 .refine (h.1.grow w (λk b x=>.inl x) (λb x=>.inl x) (λb x=>.inl x) (λb x=>x)).app (Q4 O) rfl (.inl rfl) (λop c=>ofEvents_g c) (λop c a p=>?_) (λop c=>?_)
  .obtain⟨e,f,rfl⟩:=Go.Conc.mem_ofEvents c;obtain⟨b,hb,o,rfl⟩:=j e f;simp only[MemAct.ofEvent,MemAct.touch?,aaX]at p;subst p;refine⟨rfl,λA q=>?_⟩;simp only[blk,aaX]at q;subst q;exact .inl ⟨⟨rfl,.inr hb⟩,rfl⟩
  .obtain⟨e,f,rfl⟩:=Go.Conc.mem_ofEvents c;obtain⟨b,hb,o,rfl⟩:=j e f;exact qg o _ _
 .rw[Deaf_own,deafBehind_still (λe f=>by obtain⟨b,hb,o,rfl⟩:=j e f;grind)];exact h.2.1
 .refine h.2.2.app λop c=>?_;obtain⟨e,f,rfl⟩:=Go.Conc.mem_ofEvents c;obtain⟨b,hb,o,rfl⟩:=j e f;simp[MemAct.ofEvent]
 .exact h.1.mute (k:=i) (λop c=>ofEvents_g c) (λop c=>by obtain⟨e,f,rfl⟩:=Go.Conc.mem_ofEvents c;exact touch_mute (s e f)) (λop c=>by obtain⟨e,f,rfl⟩:=Go.Conc.mem_ofEvents c;exact low_mute (s e f) B)
 .rw[Deaf_other t (g':=i) zo _ λop c=>ofEvents_g c];exact h.2.1
 .refine h.2.2.app λop c=>?_;obtain⟨e,f,rfl⟩:=Go.Conc.mem_ofEvents c
  have:=s e f;obtain⟨loc,wr,C⟩:=e;intro u;cases loc with
  |mark m=>simp only[MemAct.ofEvent,MemAct.mark.injEq]at u;subst u;simp[Event.mute]at this
  |_=>simp[Event.mute]at this
 .refine h.1.still _ (λop c=>?_) (λop c=>?_)
  .simp only[aaW]at c;obtain⟨a,p,rfl⟩:=c;rcases hl a p with⟨r,cap,rfl⟩|⟨r,rfl⟩|rfl<;>rfl
  .simp only[aaW]at c;obtain⟨a,p,rfl⟩:=c;rcases hl a p with⟨r,cap,rfl⟩|⟨r,rfl⟩|rfl<;>exact y
 .rw[oQ t 0 _ λop c=>?_];exact h.2.1;simp only[aaW]at c;obtain⟨a,p,rfl⟩:=c;rcases hl a p with⟨r,cap,rfl⟩|⟨r,rfl⟩|rfl<;>exact⟨zp,zp⟩
 .refine h.2.2.app λop c=>?_;grind
def v8(X:PC L):World:=fg (fg (fg (fg (fg (fg X.E.v0 (.cells #[X.M.ja] 98)) (.chan X.E.n #[] false 0 0 false)) (.cells #[.chan (some X.M.cN)] 197)) (.chan X.E.n #[] false 0 0 false)) (.cells #[.chan (some X.M.cB)] 198)) (.cells #[.int .u64 0,.int .u32 0] 206)
theorem ZH(O:bl T Goal X):bI (ji X) X.n0 (m0 X.M X.c X.cs) X.E.v0 (vz X.M X.c X.cs) (v8 X):=by
 have b1:=O.bT;have b2:=O.cN;have b3:=O.bN;have Z:=O.cB;have b5:=O.bB;have b6:=O.wg;have K:=MB O 0;have i:=O.n0;let j:=fg X.E.v0 (.cells #[X.M.ja] 98)
 let k:=fg j (.chan X.E.n #[] false 0 0 false)
 let q:=fg k (.cells #[.chan none] 197)
 let l:=fg k (.cells #[.chan (some X.M.cN)] 197)
 let m:=fg l (.chan X.E.n #[] false 0 0 false)
 let r:=fg m (.cells #[.chan none] 198)
 let o:=fg m (.cells #[.chan (some X.M.cB)] 198)
 let y:=fg o (.cells #[.int .u64 0,.int .u32 0] 206)
 have G:j=X.E.v0.heap.size+1:=hE _ _;have A:k=X.E.v0.heap.size+2:=by rw[hE,G]
 have z3:q=X.E.v0.heap.size+3:=by rw[hE,A]
 have H:l=X.E.v0.heap.size+3:=by rw[hE,A]
 have C:m=X.E.v0.heap.size+4:=by rw[hE,H]
 have z6:r=X.E.v0.heap.size+5:=by rw[hE,C]
 have I:o=X.E.v0.heap.size+5:=by rw[hE,C]
 have z8:y=X.E.v0.heap.size+6:=by rw[hE,I]
 have f:∀B,∀e∈(#[]:Array Event),Ok0 X B e:=λB e p=>by simp at p
 have J:bI (ji X) X.n0 (m0 X.M X.c X.cs) X.E.v0 (pF X.M X.c X.cs) X.E.v0:=.bu K i (Xz X.M X.c X.cs).bu;have P:bI (ji X) X.n0 (pF X.M X.c X.cs) X.E.v0 (fin (pF X.M X.c X.cs) (ptr X.M.bT)) j:=.op K i (Yv _ _ _) (NM X.M X.c X.cs X.M.bT) (es:=#[]) (λd=>⟨b1,rfl,rfl⟩) (by omega) (fY _) (f _);have Q:bI (ji X) X.n0 (fin (pF X.M X.c X.cs) (ptr X.M.bT)) j (vp X.M X.c X.cs) j:=.bu K i (Pa X.M X.c X.cs).bu;have R:bI (ji X) X.n0 (vp X.M X.c X.cs) j (uK X.M X.c X.cs) k:=.op K i (Rb _ _ _) (aaC X.M O.nn O.count X.c X.cs X.M.cN) (es:=#[]) (λd=>⟨by show X.M.cN=j.heap.size;omega,rfl,rfl⟩) (by omega) (fY _) (f _);have S:bI (ji X) X.n0 (uK X.M X.c X.cs) k (om X.M X.c X.cs) q:=.op K i (QV _ _ _) (LQ X.M X.c X.cs X.M.bN) (es:=#[]) (λd=>⟨by show X.M.bN=k.heap.size;omega,rfl,rfl⟩) (by omega) (fY _) (f _);have D:q.heap[X.M.bN]?=.c #[.chan none] 197:=by rw[iS,BY (by omega)]
 have U:bI (ji X) X.n0 (om X.M X.c X.cs) q (fin (om X.M X.c X.cs) undef) l:=by
  refine .skip K i (M9 _ _ _) (Y9 X.M X.c X.cs) (es:=#[⟨.cell (.a X.M.bN 0),true,false⟩]) (es':=#[⟨.cell (.a X.M.bN 0),true,false⟩]) (λd=>⟨by simp,by simp,⟨.chan none,by simp[World.cell?,World.at,D]⟩,by simp[World.frozen?,World.at,D],?_,rfl⟩) (by omega) (by rw[aah];exact Bm _) (λe p=>?_)
  .rw[show(q.at d).setCell (.a X.M.bN 0) (.chan (some X.M.cN))=(q.setCell (.a X.M.bN 0) (.chan (some X.M.cN))).at d from rfl,CY k _ _ _ (by omega)]
  .simp at p;exact⟨X.M.bN,.inl rfl,by omega,p⟩
 have V:bI (ji X) X.n0 (fin (om X.M X.c X.cs) undef) l (vd X.M X.c X.cs) l:=.bu K i (Nj X.M X.c X.cs).bu;have W:bI (ji X) X.n0 (vd X.M X.c X.cs) l (uH X.M X.c X.cs) m:=.op K i (Zr _ _ _) (RD X.M O.nn O.count X.c X.cs X.M.cB) (es:=#[]) (λd=>⟨by show X.M.cB=l.heap.size;omega,rfl,rfl⟩) (by omega) (fY _) (f _);have Y:bI (ji X) X.n0 (uH X.M X.c X.cs) m (nC X.M X.c X.cs) r:=.op K i (Rm _ _ _) (T7 X.M X.c X.cs X.M.bB) (es:=#[]) (λd=>⟨by show X.M.bB=m.heap.size;omega,rfl,rfl⟩) (by omega) (fY _) (f _);have F:r.heap[X.M.bB]?=.c #[.chan none] 198:=by rw[iS,BY (by omega)]
 have s:bI (ji X) X.n0 (nC X.M X.c X.cs) r (fin (nC X.M X.c X.cs) undef) o:=by
  refine .skip K i (Rx _ _ _) (Lz X.M X.c X.cs) (es:=#[⟨.cell (.a X.M.bB 0),true,false⟩]) (es':=#[⟨.cell (.a X.M.bB 0),true,false⟩]) (λd=>⟨by simp,by simp,⟨.chan none,by simp[World.cell?,World.at,F]⟩,by simp[World.frozen?,World.at,F],?_,rfl⟩) (by omega) (by rw[SA];exact Bm _) (λe p=>?_)
  .rw[show(r.at d).setCell (.a X.M.bB 0) (.chan (some X.M.cB))=(r.setCell (.a X.M.bB 0) (.chan (some X.M.cB))).at d from rfl,CY m _ _ _ (by omega)]
  .simp at p;exact⟨X.M.bB,.inr rfl,by omega,p⟩
 have u:bI (ji X) X.n0 (fin (nC X.M X.c X.cs) undef) o (uN X.M X.c X.cs) o:=.bu K i (Ov X.M X.c X.cs).bu;have w:bI (ji X) X.n0 (uN X.M X.c X.cs) o (vz X.M X.c X.cs) y:=.op K i (MC _ _ _) (Y0 X.M X.c X.cs X.M.wg) (es:=#[]) (λd=>⟨by show X.M.wg=o.heap.size;omega,rfl,rfl⟩) (by omega) (fY _) (f _);exact J.trans (P.trans (Q.trans (R.trans (S.trans (U.trans (V.trans (W.trans (Y.trans (s.trans (u.trans w))))))))))
theorem Uq(O:bl T Goal X){u:af}{q:Nat->Nat}(H:rP (ji X) X.n0 (vz X.M X.c X.cs) (v8 X) gs u t q): ∃s,PI T Goal X s gs u t:=by
 have b1:=O.bT;have b2:=O.cN;have b3:=O.bN;have p:=O.cB;have r:=O.bB;have w:=O.wg;have l:=O.nW;obtain⟨xs,m⟩:=Vd X.M O.nn O.nw O.count X.c X.cs;obtain⟨d,rfl⟩:=H.world;let s:PS:={mt:=.fC 0 34 xs,j:=0,ws:=λ_=>.quit 0,ow:=λ_ _=>False,q:=q,dW:=[],rN:=0,fA:=[],st:=0,sm:=0}
 have y:(v8 X).heap.size=X.E.v0.heap.size+6:=by unfold v8;simp only[hE]
 have e:∀b,b<X.E.v0.heap.size->(v8 X).heap[b]?=X.E.v0.heap[b]? :=λb hb=>by
  unfold v8;simp only[iS,hE];grind
 refine⟨s,⟨H.size,⟨_,H.main,m.trans (J0 O xs zo),zo⟩,λk a=>absurd a (acf _),λi g hi _ f=>H.iP.old i g hi f,H.iP.above⟩,⟨⟨by show _<=(v8 X).heap.size;omega,λb hb=>e b hb⟩,by show _<(v8 X).heap.size;omega,?_,?_,?_,?_,⟨0,?_⟩,?_,rfl,rfl,rfl⟩,?_,?_,?_⟩
 .show (v8 X).heap[_]?=_;unfold v8;simp only[iS,hE];grind
 .show (v8 X).heap[_]?=_;unfold v8;simp only[iS,hE];grind
 .show (v8 X).heap[_]?=_;unfold v8;simp only[iS,hE];grind
 .show (v8 X).heap[_]?=_;unfold v8;simp only[iS,hE];rw[AT zo,AT zo,AT zo,AT zo,BY zo];rfl
 .show (v8 X).heap[_]?=_;unfold v8;simp only[iS,hE];grind
 .show (v8 X).heap[_]?=_;unfold v8;simp only[iS,hE];grind
 .exact⟨rfl,aaZ _,rfl,λi hi=>absurd hi (acf _),zf,λi hi=>(by cases hi),λi hi=>(by cases hi),λk a=>absurd a (acf _),λk a=>absurd a (acf _)⟩
 .exact .opn rfl (λk a=>absurd a (acf _)) (by show 0=(sumTo 0 _+0)*bM;simp[sumTo]) rfl zc
 .refine⟨?_,λi b hi=>absurd hi (acf _),λi i' b hi=>absurd hi (acf _),λk a=>absurd a (acf _),H.trace.2.2,H.trace.2.1,λ_ _ h=>by cases h⟩;have o:(λk=>k=0\/gS X s k)=(λk=>k=0):=by
   funext k;apply propext;show(k=0\/(X.n0<=k/\k<X.n0+0))↔k=0;omega
  have l2:gS X s=(λ_=>False):=by
   funext k;apply propext;exact⟨λh=>by have h1:=h.1;have h2:k<X.n0+0:=h.2;omega,False.elim⟩
  rw[o,l2];refine H.trace.1.share (λk a=>a) (λk b hb=>?_) (λb hb=>?_) (λb=>Iff.rfl)
  .obtain⟨i,hi,_⟩:=hb;grind
  .rcases hb with hb|hb
   .exact .inl hb
   .exact .inr ⟨rfl,hb⟩
end
end
section
open Go.Conc
open Go.ConcN (upd upd_same upd_ne sumTo sumTo_upd sumTo_congr sumTo_le le_sumTo RelBy)
theorem U6(M:Mn){n:Nat}(a:n=1\/n=4\/n=16\/n=64)(h:M.count=n)(xs:Nat->ag)(cs:List al)(j:Int)(r:Nat):feed Pg (bG (o9 M xs cs j)) [.ref r]=some ([.nw (.cells (Array.replicate n (.int .u64 0)) 55)],.inl (.value (lE r n))):=by
 obtain⟨p,f,m,fn,ca,cb⟩:=M;simp only at h;subst h;rcases a with rfl|rfl|rfl|rfl<;>kernel_rfl
theorem IC(M:Mn)(xs:Nat->ag)(cs:List al)(d n:Nat):gP (ij M xs cs d n) (ij M xs cs d n).frame=ij M xs cs d n:=zk
theorem YZ(f:Int){i:Nat}(hi:i<64):IntKind.i64.wrap (IntKind.i64.wrap (f+i)-f)=i:=by
 simp only[IntKind.wrap,IntKind.bits,IntKind.signed];simp;omega
theorem aau(v:af)(x y c e:ag)(τ:ak):((fg v (.cells #[x,y] τ)).setCell (.a v 0) c).setCell (.a v 1) e=fg v (.cells #[c,e] τ):=by
 unfold fg World.setCell;simp only[World.mk.injEq,acb];grind
section
variable {L:aR}{T:bw}{Goal:al->List al->af->Prop}{X:PC L}
def qn(X:PC L)(b:Nat):Prop:=X.Sh b\/(b=X.M.wg\/b=X.M.cN\/b=X.M.cB)
def fH(X:PC L)(B:Nat)(t:Trace):Prop:=Past (lJ (qn X)) B t
def Et(X:PC L)(B:Nat)(e:Event):Prop:=EvL (lJ (qn X)) B e
theorem FA(X:PC L)(c0:Nat):Kept (fH X) (Et X) c0:=by
 refine⟨λB B' t fn pos es h j f=>(Past.mono h j).own f,λB i t fn pos es hi h k=>Past.mute h zo k,λB t fn pos l m h hl=>?_⟩;refine Past.app0 h (λop c=>?_) (λop c b hb=>?_) ?_ (λop c=>?_)
 .grind
 .simp only[adp,aaW]at c;obtain⟨a,e,rfl⟩:=c;rcases hl a e with⟨r,cap,rfl⟩|⟨r,rfl⟩|rfl<;>cases hb
 .refine oQ t 0 _ λop c=>?_;simp only[aaW]at c;obtain⟨a,e,rfl⟩:=c;rcases hl a e with⟨r,cap,rfl⟩|⟨r,rfl⟩|rfl<;>exact⟨zp,zp⟩
 .simp only[adp,aaW]at c;obtain⟨a,e,rfl⟩:=c;rcases hl a e with⟨r,cap,rfl⟩|⟨r,rfl⟩|rfl<;>exact m
def rL(X:PC L){B o:Nat}(wr:Bool)(hb: ¬qn X b)(c:b<B):Et X B ⟨.cell (.a b o),wr,false⟩:=evL_cell _ wr hb c
structure ud(X:PC L)(rest:List Nat)(done:Nat->Prop)(d:Nat)(v:af):Prop where
 old:tS X.E v
 cB: ∃sB rB,v.heap[X.M.cB]?=some (.chan X.E.n (rest.map X.iK).toArray true sB rB false)
 low:X.M.wg<d/\d<v
 row: ∃C:aa,v.heap[d]?=.c C 55/\C.size=X.E.n/\∀i,done i->C[i]?=some (.int .u64 (X.a i))
 tape:v.tape=X.E.v0.tape
 os:v.os=X.E.v0.os
 output:v.output=X.E.v0.output
theorem Ln(O:bl T Goal X)(q:0<N){i:Nat}(hi:i<X.E.n){rest:List Nat}{done:Nat->Prop}{v:af}(xs:Nat->ag)(G:ud X (i::rest) done d v):
  ∃v' Q,bI (fH X) N (ij X.M xs X.ds d X.E.n) v (ij X.M Q X.ds d X.E.n) v'/\ud X rest (λk=>done k\/k=i) d v':=by
 have b1:=O.bT;have b2:=O.cN;have b3:=O.bN;have b4:=O.cB;have b5:=O.bB;have b6:=O.wg;have K:=FA X X.M.cB;have hn:=O.nn;obtain⟨sB,rB,B⟩:=G.cB;have u:=G.low;have f:∀b,X.M.wg<b->¬qn X b:=λb hb h=>by
  rcases h with h|h|h|h
  .have:=O.sh b h;omega
  all_goals omega
 let s:Int:=IntKind.i64.wrap (X.E.first+i)
 let p:=v.setChan X.M.cB X.E.n (rest.map X.iK).toArray true sB (rB+1) false
 have R:=(IN.1 B).1;obtain⟨c1,c2,c3,c4,c5,c6⟩:=vf v X.M.cB X.E.n (rest.map X.iK).toArray true sB (rB+1) false R;have W:p=v.heap.size:=c1;have Y:∀o,stepG Pg true (ij X.M xs X.ds d X.E.n) (v.at o)=.comm (ij X.M xs X.ds d X.E.n) #[rcase X.M.cB zF] true (.recv true) (v.at o) #[]:=λo=>by
  have U:=bg.comm (wM X.M xs X.ds d X.E.n) (Es X.M xs X.ds d X.E.n) (w:=v.at o) (w':=v.at o) (es:=#[]) ⟨rfl,rfl⟩;rw[fY,IC]at U;exact U
 have Z:bI (fH X) N (ij X.M xs X.ds d X.E.n) v (wC X.M xs X.ds d X.E.n s (X.a i)) p:=bI.recv K q (wM X.M xs X.ds d X.E.n).2.1 Y (x:=X.iK i) (l:=rest.map X.iK) B;have s1:bI (fH X) N (wC X.M xs X.ds d X.E.n s (X.a i)) p (ux X.M xs X.ds d X.E.n s (X.a i)) p:=.bu K q (Yu X.M xs X.ds d X.E.n s (X.a i)).bu;let r:=p.heap.size
 let D:=fg p (.cells #[.i 0,.int .u64 0] 209)
 let j:=fg p (.cells #[.i s,.int .u64 (X.a i)] 209)
 have z2:D=p.heap.size+1:=hE _ _;have z3:j=p.heap.size+1:=hE _ _;have y:X.M.wg<p:=by rw[c1];omega
 have s2:bI (fH X) N (ux X.M xs X.ds d X.E.n s (X.a i)) p (nT X.M xs X.ds d X.E.n s (X.a i) r) D:=.op K q (Nc X.M xs X.ds d X.E.n s (X.a i)) (ZO X.M xs X.ds d X.E.n s (X.a i) r) (es:=#[]) (λo=>⟨rfl,rfl,rfl⟩) zo (fY _) (λe m=>by simp at m);have g2:D.heap[r]?=.c #[.i 0,.int .u64 0] 209:=by rw[iS,BY rfl]
 have V:j.heap[r]?=.c #[.i s,.int .u64 (X.a i)] 209:=by rw[iS,BY rfl]
 have F:=aau p (.i 0) (.int .u64 0) (.i s) (.int .u64 (X.a i)) 209;have s3:bI (fH X) N (nT X.M xs X.ds d X.E.n s (X.a i) r) D (fin (nT X.M xs X.ds d X.E.n s (X.a i) r) undef) j:=by
  refine .skip K q (V9 X.M xs X.ds d X.E.n s (X.a i) r) (YQ X.M xs X.ds d X.E.n s (X.a i) r) (es:=#[⟨.cell (.a r 0),true,false⟩,⟨.cell (.a r 1),true,false⟩]) (es':=#[⟨.cell (.a r 0),true,false⟩,⟨.cell (.a r 1),true,false⟩]) (λo=>⟨zp,zp,⟨.i 0,by simp[World.cell?,World.at,g2]⟩,by simp[World.frozen?,World.at,g2],zp,zp,⟨.int .u64 0,?_⟩,?_,?_,rfl⟩) zo (by rw[Q6];exact Xm _ _) (λe m=>?_)
  .simp[World.cell?,World.setCell,World.at,abR,g2]
  .simp[World.frozen?,World.setCell,World.at,abR,g2]
  .show j.at o=((D.setCell (.a r 0) (.i s)).setCell (.a r 1) (.int .u64 (X.a i))).at o;rw[F]
  .simp at m;rcases m with rfl|rfl<;>exact rL X true (f _ y) zo
 have s4:bI (fH X) N (fin (nT X.M xs X.ds d X.E.n s (X.a i) r) undef) j (oz X.M xs X.ds d X.E.n s (X.a i) r) j:=.bu K q (Yz X.M xs X.ds d X.E.n s (X.a i) r).bu;have s5:bI (fH X) N (oz X.M xs X.ds d X.E.n s (X.a i) r) j (fin (oz X.M xs X.ds d X.E.n s (X.a i) r) (.i s)) j:=by
  refine .op K q (Lj X.M xs X.ds d X.E.n s (X.a i) r) (QB X.M xs X.ds d X.E.n s (X.a i) r (.i s)) (es:=#[⟨.cell (.a r 0),false,false⟩]) (es':=#[⟨.cell (.a r 0),false,false⟩]) (λo=>⟨by simp[World.cell?,World.at,V],rfl,rfl⟩) zf (by rw[K2];exact GK _) (λe m=>?_);simp at m;subst m;exact rL X false (f _ y) zo
 have s6:bI (fH X) N (fin (oz X.M xs X.ds d X.E.n s (X.a i) r) (.i s)) j (rX X.M xs X.ds d X.E.n s (X.a i) r) j:=.bu K q (UX X.M xs X.ds d X.E.n s (X.a i) r).bu;have s7:bI (fH X) N (rX X.M xs X.ds d X.E.n s (X.a i) r) j (sI X.M xs X.ds d X.E.n s (X.a i) r) j:=by
  refine .op K q (OY X.M xs X.ds d X.E.n s (X.a i) r) (TE X.M xs X.ds d X.E.n s (X.a i) r (.int .u64 (X.a i))) (es:=#[⟨.cell (.a r 1),false,false⟩]) (es':=#[⟨.cell (.a r 1),false,false⟩]) (λo=>⟨by simp[World.cell?,World.at,V],rfl,rfl⟩) zf (by rw[Qr];exact GK _) (λe m=>?_);simp at m;subst m;exact rL X false (f _ y) zo
 have S:feed Pg (bG (sI X.M xs X.ds d X.E.n s (X.a i) r)) []=some ([],.inl (.value (.pointer (.a d i)))):=by
  rw[Lt,O.first,YZ X.E.first zo];exact Ih Pg (.inr rfl) hi
 have s8:bI (fH X) N (sI X.M xs X.ds d X.E.n s (X.a i) r) j (oq X.M xs X.ds d X.E.n s (X.a i) r i) j:=.op K q (L9 X.M xs X.ds d X.E.n s (X.a i) r) S (es:=#[]) (λo=>⟨rfl,rfl⟩) zf (fY _) (λe m=>by simp at m);obtain⟨C,hC,H,ab⟩:=G.row;have A:j.heap[d]?=.c C 55:=by
  rw[iS,AT (by rw[c1];omega),c3 d zo];exact hC
 let I:=j.setCell (.a d i) (.int .u64 (X.a i))
 have z4:I=j.heap.size:=(nz j d i _).1;have s9:bI (fH X) N (oq X.M xs X.ds d X.E.n s (X.a i) r i) j (fin (oq X.M xs X.ds d X.E.n s (X.a i) r i) undef) I:=by
  refine .skip K q (Vj X.M xs X.ds d X.E.n s (X.a i) r i) (Ui X.M xs X.ds d X.E.n s (X.a i) r i) (es:=#[⟨.cell (.a d i),true,false⟩]) (es':=#[⟨.cell (.a d i),true,false⟩]) (λo=>⟨zp,zp,⟨C[i]'zo,?_⟩,by simp[World.frozen?,World.at,A],rfl,rfl⟩) zo (by rw[PZ];exact Bm _) (λe m=>?_)
  .simp[World.cell?,World.at,A,H,hi]
  .simp at m;subst m;exact rL X true (f _ u.1) zo
 have J:=bI.bu (Θ:=fH X) (n:=N) (v:=I) K q (TI X.M xs X.ds d X.E.n s (X.a i) r i).bu;rw[ZZ]at J;refine⟨I,_,Z.trans (s1.trans (s2.trans (s3.trans (s4.trans (s5.trans (s6.trans (s7.trans (s8.trans (s9.trans J))))))))),?_⟩;have P:∀b,b≠d->b<v->b≠X.M.cB->I.heap[b]?=v.heap[b]? :=λb h1 h2 h3=>by
  rw[(nz j d i _).2 b h1,iS,AT (by rw[c1];omega),c3 b h3]
 refine⟨⟨?_,λb hb=>?_⟩,⟨sB,rB+1,?_⟩,⟨u.1,zo⟩,⟨C.setIfInBounds i (.int .u64 (X.a i)),?_,by simp[H],λk hk=>?_⟩,G.tape,G.os,G.output⟩
 .have:=G.old.1;omega
 .have:=G.old.1;rw[P b zo zo zo];exact G.old.2 b hb
 .rw[(nz j d i _).2 _ zo,iS,AT (by rw[c1];omega)];exact c2
 .show (j.setCell (.a d i) (.int .u64 (X.a i))).heap[d]?=_;simp[World.setCell,abR,A]
 grind
theorem Ei(O:bl T Goal X)(j:0<N):∀(rest:List Nat) (done:Nat->Prop) (v:af) (xs:Nat->ag),(∀i∈rest,i<X.E.n)->ud X rest done d v->
  ∃v' c,bI (fH X) N (ij X.M xs X.ds d X.E.n) v (ij X.M c X.ds d X.E.n) v'/\ud X [] (λk=>done k\/k∈rest) d v'
 |[],done,v,xs,_,G=>⟨v,xs,.refl _ _,⟨G.old,G.cB,G.low,by obtain⟨C,h1,h2,m⟩:=G.row;grind,G.tape,G.os,G.output⟩⟩
 |i::rest,done,v,xs,l,G=>by
  obtain⟨v1,e,o,p⟩:=Ln O j (l i zp) xs G;obtain⟨v2,f,q,a⟩:=Ei O j rest _ v1 e (λk r=>l k (by simp[r])) p;refine⟨v2,f,o.trans q,⟨a.old,a.cB,a.low,?_,a.tape,a.os,a.output⟩⟩;obtain⟨C,h1,h2,m⟩:=a.row;grind
end
end
end Go.Proofs.YtldmcdeibiclkaaGreat.U
