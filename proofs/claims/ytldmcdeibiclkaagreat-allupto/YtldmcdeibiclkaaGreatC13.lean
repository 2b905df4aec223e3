/-
  Toward all_holds
-/
import Derived.Test.YtldmcdeibiclkaaGreatC12
import Derived.Test.YtldmcdeibiclkaaGreatC01
import Derived.Test.YtldmcdeibiclkaaGreatC05
set_option linter.all false
noncomputable section
set_option maxRecDepth 100000
set_option maxHeartbeats 20000000
namespace Go.Proofs.YtldmcdeibiclkaaGreat.U
variable {π:Nat->Nat->Prop}{v w:ag}{α β:Type}{o:Obj}{gs:Array ai}{t:Trace}{xs:Nat->ag}{cs:List al}{gr:al}{f:Nat}
section
open Go.Conc
open Go.ConcN (upd upd_same upd_ne sumTo sumTo_upd sumTo_congr sumTo_le le_sumTo RelBy)
section
variable {L:aR}{T:bw}{Goal:al->List al->af->Prop}{X:PC L}
structure Ke(X:PC L)(d:Nat)(gs:Array ai)(v:af)(t:Trace)(q:Nat->Nat):Prop where
 main:gs[0]?=some {frame:=X.c.finish (lE d X.E.n),callers:=X.cs,status:=.running,dying:=none}
 iP:Leavers Pg t gs q
 o7:Past (lJ (qn X)) v t
 old:tS X.E v
 low:X.M.wg<d/\d<v
 row: ∃C:aa,v.heap[d]?=.c C 55/\C.size=X.E.n/\∀i,i<X.E.n->C[i]?=some (.int .u64 (X.a i))
 tape:v.tape=X.E.v0.tape
 os:v.os=X.E.v0.os
 output:v.output=X.E.v0.output
theorem Cy{σ:Wk}(h:σ.aI=0):σ=.quit σ.idle:=by
 cases σ<;>simp[Wk.aI]at h;rfl
theorem LI(O:bl T Goal X){s:PS}{v:af}(H:PI T Goal X s gs v t){n:Nat}(hmt:s.mt=.fin n xs):
  ∃h q,rP (fH X) gs.size h v gs v t q/\bh Pg true n h (pf X.M xs X.ds X.E.n)/\(∀i,i<X.E.n->i∈s.fA)/\0<gs.size:=by
 have r:=O.n0;have u:=O.nW;obtain⟨a1,a2,R⟩:=oS H.wg zh zh;obtain⟨h,x,e⟩:=H.gs.main;rw[hmt]at e;have hj:s.j=X.nW:=by rw[H.ac.on,hmt];rfl
 have y:=H.gs.size;let q:Nat->Nat:=λi=>if i<X.n0 then s.q i else (s.ws (i-X.n0)).idle
 refine⟨h,q,⟨x,⟨v.drawn,rfl⟩,⟨λi g hi l=>?_,λi hi=>H.gs.above i hi⟩,?_,rfl⟩,e,λi hi=>?_,zo⟩
 .rcases abw i X.n0 with b|z
  .show QuitsD Pg (if i<X.n0 then s.q i else _) _ g;rw[BY b];exact H.gs.lN i g hi b l
  .obtain⟨k,rfl⟩: ∃k,i=X.n0+k:=⟨i-X.n0,zo⟩
   have a:k<s.j:=zg;obtain⟨S,c,m⟩:=H.gs.work k a;rw[l]at c;cases c;show QuitsD Pg (if X.n0+k<X.n0 then s.q (X.n0+k) else (s.ws (X.n0+k-X.n0)).idle) _ g;rw[AT zo,show X.n0+k-X.n0=k by omega];rw[Cy (a1 k a)]at m;exact m
 .obtain⟨p,A,B,D,F⟩:=H.tr.acq n xs hmt;have I:Deaf t 0=0:=by rw[H.tr.d0,hmt];rfl
  have:=H.tr.tp.o7 (ad:=cO X) (q:=p) (λk a=>?_) H.tr.norel A B D I
  .exact this
  .obtain⟨k',rfl⟩: ∃k',k=X.n0+k':=⟨k-X.n0,by have:=a.1;omega⟩
   exact F k' (by have:=a.2;omega)
 .have K:=H.ac.gone 0 zo (by rw[a1 0 zo];omega);rcases H.ac.cover i (by rw[hmt];exact hi) with d|d|⟨k,a,d⟩
  .grind
  .exact d
  .rw[Cy (a1 k a)]at d;cases d
theorem Mf(O:bl T Goal X){s:PS}{v:af}(sl:Option (Nat×Nat))(H:PI T Goal X s gs v t){n:Nat}(hmt:s.mt=.fin n xs):
  ∃N d p v' y F S,runNT Pg N (crowd gs v sl) t=(.next (crowd p v' y),F)/\Ke X d p v' F S:=by
 have b1:=O.bT;have b2:=O.cN;have b3:=O.bN;have b4:=O.cB;have b5:=O.bB;have b6:=O.wg;obtain⟨h,q,Z,hg,z,g⟩:=LI O H hmt;have K:=FA X X.M.cB;have ab:=H.wd.size;obtain⟨sB,A⟩:=H.wd.cB;have B: ¬qn X X.M.bB:=λh=>by
  rcases h with h|h|h|h
  .have:=O.sh _ h;omega
  all_goals omega
 have s1:bI (fH X) gs.size h v (pf X.M xs X.ds X.E.n) v:=.bu K g hg;have u:∀(w:af),w.heap[X.M.bB]?=v.heap[X.M.bB]? ->∀d,(w.at d).cell? ⟨X.M.bB,0,none⟩=some (.chan (some X.M.cB)):=λw hw d=>by
  have:(w.at d).heap[X.M.bB]?=v.heap[X.M.bB]? :=hw;simp[World.cell?,this,H.wd.bB]
 have s2:bI (fH X) gs.size (pf X.M xs X.ds X.E.n) v (ou X.M xs X.ds X.E.n) v:=by
  refine .op K g (Hv X.M xs X.ds X.E.n) (NA X.M xs X.ds X.E.n (.chan (some X.M.cB))) (es:=#[⟨.cell ⟨X.M.bB,0,none⟩,false,false⟩]) (es':=#[⟨.cell ⟨X.M.bB,0,none⟩,false,false⟩]) (λd=>⟨u v rfl d,rfl,rfl⟩) (aba _) (by rw[MT];exact wW _) (λe l=>?_);simp at l;subst l;exact rL X false B (by omega)
 let j:World:={v with heap:=v.heap.setIfInBounds X.M.cB (.chan X.E.n (s.fA.map X.iK).toArray true sB 0 false)}
 have z1:j.heap.size=v.heap.size:=by simp[j]
 have o1:∀b,b≠X.M.cB->j.heap[b]?=v.heap[b]? :=λb hb=>by grind
 have g1:j.heap[X.M.cB]?=some (.chan X.E.n (s.fA.map X.iK).toArray true sB 0 false):=by
  grind
 have s3:bI (fH X) gs.size (ou X.M xs X.ds X.E.n) v (fin (ou X.M xs X.ds X.E.n) unit) j:=by
  refine .op K g (Om X.M xs X.ds X.E.n) (LY X.M xs X.ds X.E.n X.E.n (s.fA.map X.iK).toArray sB 0 false) (es:=#[⟨.obj X.M.cB,false,true⟩,⟨.obj X.M.cB,true,true⟩]) (es':=#[⟨.obj X.M.cB,false,true⟩,⟨.obj X.M.cB,true,true⟩]) (λd=>⟨A,rfl,⟨_,A,rfl⟩,rfl,rfl⟩) (by omega) (by rw[QA];exact Jl _) (λe l=>?_);simp at l;rcases l with rfl|rfl
  .refine⟨λx I _=>?_,by simp,by simp,show X.M.cB<_ by omega⟩;simp only[MemAct.ofEvent,MemAct.touch?,aaX]at I;subst I;simp
  .refine⟨λx I _=>?_,by simp,by simp,show X.M.cB<_ by omega⟩;simp[MemAct.ofEvent,MemAct.touch?]at I
 have s4:bI (fH X) gs.size (fin (ou X.M xs X.ds X.E.n) unit) j (o9 X.M xs X.ds X.E.n) j:=.bu K g (Ym X.M xs X.ds X.E.n).bu;let d:=j.heap.size
 let k:=fg j (.cells (Array.replicate X.E.n (.int .u64 0)) 55)
 have z2:k.heap.size=j.heap.size+1:=hE _ _;have s5:bI (fH X) gs.size (o9 X.M xs X.ds X.E.n) j (fin (o9 X.M xs X.ds X.E.n) (lE d X.E.n)) k:=.op K g (Pq X.M xs X.ds X.E.n) (U6 X.M O.nn O.count xs X.ds X.E.n d) (es:=#[]) (λm=>⟨rfl,rfl,rfl⟩) (by omega) (fY _) (λe l=>by simp at l);have s6:bI (fH X) gs.size (fin (o9 X.M xs X.ds X.E.n) (lE d X.E.n)) k (oh X.M xs X.ds X.E.n d X.E.n) k:=.bu K g (Ng X.M xs X.ds X.E.n d X.E.n).bu;have W:∀b,b<v.heap.size->b≠X.M.cB->k.heap[b]?=v.heap[b]? :=λb hb R=>by rw[iS,AT (by omega),o1 b R]
 have s7:bI (fH X) gs.size (oh X.M xs X.ds X.E.n d X.E.n) k (fin (oh X.M xs X.ds X.E.n d X.E.n) (.chan (some X.M.cB))) k:=by
  refine .op K g (S6 X.M xs X.ds X.E.n d X.E.n) (Q9 X.M xs X.ds X.E.n d X.E.n (.chan (some X.M.cB))) (es:=#[⟨.cell ⟨X.M.bB,0,none⟩,false,false⟩]) (es':=#[⟨.cell ⟨X.M.bB,0,none⟩,false,false⟩]) (λm=>⟨u k (W _ (by omega) (by omega)) m,rfl,rfl⟩) (aba _) (by rw[Vu];exact wW _) (λe l=>?_);simp at l;subst l;exact rL X false B (by omega)
 have Y:=bI.bu (Θ:=fH X) (n:=gs.size) (v:=k) K g (M4 X.M xs X.ds X.E.n d X.E.n).bu;rw[LZ]at Y;have G0:ud X s.fA (λ_=>False) d k:=by
  refine⟨⟨by omega,λb hb=>by have:=H.wd.old.1;rw[W b (by omega) (by omega)];exact H.wd.old.2 b hb⟩,⟨sB,0,?_⟩,⟨by omega,by omega⟩,⟨Array.replicate X.E.n (.int .u64 0),by rw[iS,BY rfl],by simp,λi hi=>hi.elim⟩,H.wd.tape,H.wd.os,H.wd.output⟩;rw[iS,AT (by omega)];exact g1
 obtain⟨v',a,s9,G⟩:=Ei O g s.fA _ k _ H.ac.okB G0;obtain⟨ad,an,U⟩:=G.cB;have e0:∀m,stepG Pg true (ij X.M a X.ds d X.E.n) (v'.at m)=.comm (ij X.M a X.ds d X.E.n) #[rcase X.M.cB zF] true (.recv true) (v'.at m) #[]:=λm=>by
  have R:=bg.comm (wM X.M a X.ds d X.E.n) (Es X.M a X.ds d X.E.n) (w:=v'.at m) (w':=v'.at m) (es:=#[]) ⟨rfl,rfl⟩;rw[fY,IC]at R;exact R
 have V:bI (fH X) gs.size (ij X.M a X.ds d X.E.n) v' (mZ X.M a X.c X.cs d X.E.n) v':=bI.UY K g (wM X.M a X.ds d X.E.n).2.1 e0 U;have D:=bI.bu (Θ:=fH X) (n:=gs.size) (v:=v') K g (SY X.M a X.c X.cs d X.E.n).bu;rw[Ri]at D;have all:=s1.trans (s2.trans (s3.trans (s4.trans (s5.trans (s6.trans (s7.trans (Y.trans (s9.trans (V.trans D)))))))));obtain⟨N,p,u',y,F,S,hr,r⟩:=all gs v sl t q Z;obtain⟨m,rfl⟩:=r.world;obtain⟨C,r1,r2,r3⟩:=G.row;exact⟨N,d,p,v'.at m,y,F,S,hr,r.main,r.iP,r.trace,G.old,G.low,⟨C,r1,r2,λi hi=>r3 i (.inr (z i hi))⟩,G.tape,G.os,G.output⟩
theorem Mw(O:bl T Goal X)(sl:Option (Nat×Nat)){q:Nat->Nat}(F:gs[0]?=some (m0 X.M X.c X.cs))(H:Leavers Pg t gs q)(j:Past (lJ X.Sh) X.E.v0.heap.size t)(l:gs.size=X.n0):
  ∃N d a v' m y I,runNT Pg N (crowd gs X.E.v0 sl) t=(.next (crowd a v' m),y)/\Ke X d a v' y I:=by
 have b1:=O.bT;have b2:=O.cN;have b3:=O.bN;have b4:=O.cB;have b5:=O.bB;have b6:=O.wg;have K:ji X X.E.v0.heap.size t:=by
  refine⟨TP.begin j (λb hb=>hb.2) (λk b hb=>?_) (λb hb=>?_),j.hears,λi hi=>?_⟩
  .rcases hb.2 with h|h|h<;>omega
  .rcases hb with h|h|h<;>omega
  .unfold Trace.act? at hi;obtain⟨op,p,R⟩:=abD.1 hi;have hl:=j.seen op (acx p);rw[R]at hl;have:X.M.wg<X.E.v0:=hl;omega
 obtain⟨S,e,z,g,A,q1,U,V⟩:=ZH O gs X.E.v0 sl t q ⟨F,⟨X.E.v0.drawn,rfl⟩,H,K,l⟩;obtain⟨s,W⟩:=Uq O V;obtain⟨B,s2,Y,v2,r,t2,Z,H2,n,xs,hmt⟩:=ZA O _ s e z g A W rfl;obtain⟨D,d,u,v3,x,t3,q3,r3,H3⟩:=Mf O r H2 hmt;refine⟨S+(B+D),d,u,v3,x,t3,q3,?_,H3⟩;rw[runNT_add,U];show runNT Pg (B+D) (crowd e z g) A=_;rw[runNT_add,Z];exact r3
end
end
section
open Go.Conc
open Go.ConcN (upd upd_same upd_ne sumTo sumTo_upd sumTo_congr sumTo_le le_sumTo RelBy)
structure MO(L1:aR)(T1:bw)(L2:aR):Prop where
 cA:T1.cA=fQ
 fl:T1.fl=true
 ar:L1.ar fQ=some 3
 dC:∀i,i<3->L1.dC fQ i=.any
 res:L1.res fQ=.any
 gH:∀f,L1.gH f->L2.gH f
 bL:∀s,L1.bL s=L2.bL s
 ng:T1.ng=Pg.globals.size
section
variable {L1 L2:aR}
theorem VR.link(i:∀f,L1.gH f->L2.gH f)(hj:∀s,L1.bL s=L2.bL s)(h:VR L1 π v w):VR L2 π v w:=by
 induction h with
 |bL s a b c=>rw[hj s]at a b c ⊢;exact .bL s a b c
 |bool b=>exact .bool b
 |int k n=>exact .int k n
 |string s=>exact .string s
 |bZ=>exact .bZ
 |ptr h=>exact .ptr h
 |jx n c=>exact .jx n c
 |slice n c h=>exact .slice n c h
 |mD=>exact .mD
 |sE=>exact .sE
 |map h=>exact .map h
 |func xs ys j _ _ e g=>exact .func xs ys (i _ j) e g
 |nilFunc=>exact .nilFunc
 |iface t _ d=>exact .iface t d
 |nilIface=>exact .nilIface
 |agg xs _ d=>exact .agg xs d
 |tuple xs _ d=>exact .tuple xs d
theorem OR.link(i:∀f,L1.gH f->L2.gH f)(hj:∀s,L1.bL s=L2.bL s){τ:aJ}{q:Obj}(h:OR L1 τ o q):OR L2 (gW τ.all) o q:=by
 cases h with
 |cells e f h=>obtain⟨zs,a,b,c⟩:=h;exact .cells e f ⟨zs,a,b,λz g=>(c z g).link i hj⟩
 |map c h=>obtain⟨zs,a,b,d⟩:=h;exact .map c ⟨zs,a,b,λz g=>⟨(d z g).1.link i hj,(d z g).2.1.link i hj,(d z g).2.2⟩⟩
 |stringIter s p=>exact .stringIter s p
 |mapIter a b c h=>exact .mapIter a b c h
 |number l h=>exact .number l h
end
section
variable {Q:aj}{Goal:al->List al->af->Prop}
theorem eL.Nk{fr fr1 fr2:al}{cs1 cs2:List al}{w w1 w2:af}(h:eL Q Goal fr cs w fr1 cs1 w1)(b: ¬Goal fr1 cs1 w1){es:Array Event}(e:stepG Q true (lg fr1 cs1) w1=.go (lg fr2 cs2) w2 es):Below Q Goal fr cs w fr2 cs2 w2:=by
 induction h with
 |refl fr cs w=>exact .one w.tape es b e
 |step t a c hs _ d=>exact .more t a c hs (d b e)
end
theorem jC.QN{P:aj}{G:Array Func}{L:aR}{T:bw}{τ:aJ}{fr:al}(h:jC P G L T τ fr gr)(a:fr.fn=T.cA):
  ∃xs ys,TR L τ T.cA xs ys/\(∀k,L.ar T.cA=some k->xs.size=k)/\fr=Frame.enter (gp P G) T.cA xs .normal/\gr=Frame.enter P T.cA ys .normal:=by
 cases h with
 |run h=>exact absurd a h.np
 |cA b c d=>grind
def FH(P:aj)(f:au)(xs:aa):(Frame.enter P f xs .normal).roundOf=none/\(Frame.enter P f xs .normal).fn=f:=⟨rfl,rfl⟩
theorem Nu{L1 L2:aR}{T1 T2:bw}{Goal:al->List al->af->Prop}(A:gh L2 T2 Goal)(K:MO L1 T1 L2)(D:List al):AO Pg Gg L1 T1 D Goal:=by
 intro fr cs w a6 j gs v sl t q τ Sh hb;obtain⟨h,h0,b⟩:=hb.main;obtain⟨xs,ys,hT,av,rfl,an⟩:=b.g.frame.QN a6;obtain⟨a7,ds,a8,ay,az,Z⟩:=b.g.callers;obtain rfl:cs=a7:=acG a8;rw[K.cA]at j hT av an az Z;have h3:=av 3 K.ar;have b4:=hT.1.trans h3;have hv:∀(i:Nat) x y,xs[i]?=some x->ys[i]?=some y->VR L1 τ.all x y:=λi x y e hy=>by
  have hi:i<3:=by grind
  have:=hT.2 i x y e hy;rw[K.dC i hi]at this;exact this
 obtain⟨x0,x1,x2,rfl⟩: ∃x0 x1 x2,xs=#[x0,x1,x2]:=⟨xs[0],xs[1],xs[2],by
  grind⟩
 obtain⟨y0,y1,y2,rfl⟩: ∃y0 y1 y2,ys=#[y0,y1,y2]:=⟨ys[0],ys[1],ys[2],by
  grind⟩
 have v0:=hv 0 x0 y0 rfl rfl;have v1:=hv 1 x1 y1 rfl rfl;have v2:=hv 2 x2 y2 rfl rfl;obtain⟨first,n,rfl,rfl,hn,a,d,X,w',ab,KE,hD⟩:=Xc A (x0:=x0) (x1:=x1) (x2:=x2) (y2:=y2) (ρ:=τ.all) (w0:=w) (v0:=v) (cs:=cs) j ⟨λr s t h k=>b.bi.fn r s t (.inl h) (.inl k),λr s t h k=>b.bi.inj r s t (.inl h) (.inl k)⟩ (λr s h=>b.dq r s (.inl h))
  (λr s h=>by obtain⟨o,q,e1,e2,e3⟩:=b.obj r s (.inl h);exact⟨o,q,e1,e2,(e3.all h).link K.gH K.bL⟩) (v2.link K.gH K.bL) (λg hg=>b.flat.2 g (by rw[K.ng];exact hg))
 have aA:=RI (.i first) (.i n) x2 X cs;have aB:∀u,¬Goal (mR (.i first) (.i n) x2 X cs) cs u:=λu hg=>(A.goal _ _ _ hg).2 aA.2.2.1;cases bb:cs with
 |nil=>
  exfalso;have bc:=Safe.run j ab;cases bc with
  |goal hg=>exact aB _ hg
  |step f c u es h1 h2 h3 h4 h5=>grind
 |cons c1 cs1=>
 subst bb;have B:=S9 (.i first) (.i n) x2 X cs1 c1 w';rw[hD.row]at B;have U:=eL.Nk ab (aB _) B;cases az with
 |@cons _ _ gr _ z bd ad aE=>
 obtain rfl:y0=.i first:=by cases v0;rfl
 obtain rfl:y1=.i n:=by cases v1;rfl
 obtain⟨f,us,F,vs,H,e1,e2,_⟩: ∃f us F vs H,x2=.func (.func f) us vs/\y2=.func (.func f) F H/\True:=by
  obtain⟨X1,w1,s1,s2,s3,s4⟩:=hD.pC 0 (by show 0<n;omega);obtain⟨f,us,F,vs,H,e1,e2,_⟩:=AS A KE 5 (.inr rfl) s1 s2;grind
 let M:Mn:={wg:=v.heap.size+5,bN:=v.heap.size+2,bB:=v.heap.size+4,bT:=v.heap.size,cN:=v.heap.size+1,cB:=v.heap.size+3,first:=first,count:=n,fn:=.func f,ca:=F,cb:=H}
 let Y:PC L2:={E:=⟨first,n,x2,y2,τ.all,w,v,c1::cs1⟩,M:=M,c:=gr,cs:=z++D,n0:=gs.size,nW:=if n=1 then 1 else 4,a:=a,Sh:=Sh,g0:=gs}
 have bm:=(IN.1 h0).1;have O:bl T2 Goal Y:=by
  refine {A:=A,K:=KE,pC:=hD.pC,first:=rfl,count:=rfl,ja:=e2.symm,nn:=hn,nw:=?_,bT:=rfl,cN:=rfl,bN:=rfl,cB:=rfl,bB:=rfl,wg:=rfl,n0:=bm,sh:=hb.old,E9:=λr s e=>hb.apart r s (.inl e)};grind
 have hh:h=m0 Y.M Y.c Y.cs:=by
  have g1:=b.g.status.2;have g2:=b.g.dying.2;have g3:=b.g.offers.2;obtain⟨hf,b5,b6,b7,b8⟩:=h;simp only at g1 g2 g3 an ay;subst g1 g2 g3 an ay;show Goroutine.mk _ _ _ _ _=uP 95 #[.i first,.i n,.func (.func f) F H] (gr::(z++D));rw[<-e2];rfl
 subst hh;obtain⟨N,S,bn,v',bo,t',q',hr,V⟩:=Mw O sl h0 hb.iP hb.o7 rfl;obtain⟨C,hC,b9,cc⟩:=hD.blk;obtain⟨C',bp,b1,aT⟩:=V.row;have cd:=(IN.1 hC).1;have b2:w<=d:=hD.new;have b3:v.heap.size+5<S/\S<v':=V.low;have br:w.heap.size<=w'.heap.size/\∀r,r<w.heap.size->w'.heap[r]?=w.heap[r]? :=hD.keeps;have hold:v.heap.size<=v'.heap.size/\∀s,s<v.heap.size->v'.heap[s]?=v.heap[s]? :=V.old;let τ':aJ:=⟨λr s=>τ.all r s\/(r=d/\s=S),λr s=>τ.own r s\/(r=d/\s=S),τ.box,τ.lp⟩
 have W:hY τ τ':=⟨λ_ _ h=>.inl h,λ_ _ h=>.inl h,λ_ _ h=>h,λ_ _ h=>h⟩
 have l:∀r s,τ'.un r s->τ.un r s\/(r=d/\s=S):=λr s h=>by
  rcases h with (h|h)|h|h
  .exact .inl (.inl h)
  .exact .inr h
  .exact .inl (.inr (.inl h))
  .exact .inl (.inr (.inr h))
 have I:Fit τ':=by
  have nd:∀s,¬τ.un d s:=λs h=>by have:=(b.dq d s h).1;omega
  have bs:∀r,¬τ.un r S:=λr h=>by have:=(b.dq r S h).2;omega
  exact
   {own:=λr s h=>h.imp (b.bi.own r s) id
    two:=λr s t h k=>by
     rcases h with h|⟨rfl,rfl⟩
     .exact b.bi.two r s t h k
     .exact nd _ (.inr (.inl k))
    oZ:=λr s t h k=>by
     rcases h with h|⟨rfl,rfl⟩
     .exact b.bi.oZ r s t h k
     .exact nd _ (.inr (.inr k))
    pP:=b.bi.pP
    fn:=λr s t h k=>by
     rcases l r s h with h'|⟨rfl,rfl⟩<;>rcases l _ t k with k'|⟨k1,k2⟩
     .exact b.bi.fn r s t h' k'
     .grind
     .exact absurd k' (nd _)
     .exact k2.symm
    inj:=λr s t h k=>by
     rcases l r t h with h'|⟨rfl,rfl⟩<;>rcases l s _ k with k'|⟨k1,k2⟩
     .exact b.bi.inj r s t h' k'
     .grind
     .exact absurd k' (bs _)
     .exact k1.symm}
 have R:Flat T1 τ':=⟨λhf r s h=>h.imp (b.flat.1 hf r s) id,λg hg=>.inl (b.flat.2 g hg)⟩
 have bx:CR L1 τ' .any (fP d n) (lE S n):=VR.slice n n ⟨.inr ⟨rfl,rfl⟩,rfl,rfl⟩;have bR:iX L1 (Frame.enter (gp Pg Gg) fQ #[.i first,.i n,x2] .normal)=.any:=by
  unfold iX;rw[(FH _ _ _).1,(FH _ _ _).2];exact K.res
 rw[bR]at ad;have hG:GR Pg Gg L1 T1 τ' [wall] D (lg (c1.finish (fP d n)) cs1) {frame:=gr.finish (lE S n),callers:=z++D,status:=.running,dying:=none}:=by
  refine⟨.run (cL.finish I.togU R (bd.mono W) ad bx),⟨rfl,rfl⟩,⟨rfl,rfl⟩,⟨rfl,rfl⟩,cs1,z,rfl,rfl,?_,?_⟩
  .show iD Pg L1 T1 τ' (iX L1 (c1.finish (fP d n))) cs1 z;rw[ub];exact aE.mono W
  .have ao:ko c1 cs1:=Z;exact ao.same (tG _ _)
 have a1:jG Pg Gg L1 T1 τ' [wall] D (lg (c1.finish (fP d n)) cs1) w' {frame:=gr.finish (lE S n),callers:=z++D,status:=.running,dying:=none} v':=by
  refine⟨hG,I,R,λr s e=>?_,λr s e=>?_⟩
  .rcases l r s e with e|⟨rfl,rfl⟩
   .have:=b.dq r s e;omega
   .omega
  .rcases l r s e with hy|⟨rfl,rfl⟩
   .obtain⟨o,p,e1,e2,e3⟩:=b.obj r s hy
    have:=b.dq r s hy;exact⟨o,p,by grind,by grind,e3.Bb W I hy⟩
   .refine⟨_,_,hC,bp,λ_=>?_,λe=>?_,λe=>?_⟩
    .have bZ:C'=C:=by
      grind
     subst bZ;refine .cells _ _ (XR.self _ λx e=>?_);obtain⟨i,hi,rfl⟩:=adj.1 e;have b0:i<n:=by grind
     have a2:=aT i b0;rw[abI hi]at a2;rw[acy a2];exact .int _ _
    .exact absurd (b.dq _ _ (.inr (.inl e))).1 (by omega)
    .exact absurd (b.dq _ _ (.inr (.inr e))).1 (by omega)
 refine⟨N,bn,v',bo,t',q',τ',_,_,_,qn Y,hr,⟨⟨_,V.main,a1⟩,V.iP,V.o7,λr s e aq=>?_,λs aq=>?_⟩,by rw[K.cA];exact U,⟨hold.1,V.tape,V.os,V.output,λs hs _=>hold.2 s hs,W,λr s e=>?_⟩⟩
 .have m:Sh s\/(s=v+5\/s=v+1\/s=v+3):=aq;rcases l r s e with hy|⟨rfl,rfl⟩
  .have:=(b.dq r s hy).2;rcases m with h|h|h|h
   .exact hb.apart r s hy h
   all_goals omega
  .rcases m with h|h|h|h
   .have:=hb.old s h;omega
   all_goals omega
 .have m:Sh s\/(s=v+5\/s=v+1\/s=v+3):=aq;rcases m with h|h|h|h
  .have:=hb.old s h;omega
  all_goals omega
 grind
end
section
open Go
def mM(L:aR)(i:TypeInfo):Prop:=(∀v,i.zero=some v->∀π,VR L π v v)/\∀n u,i.desc=.named n u->n≠ "sync.copyChecker"
theorem VR.FN{L:aR}(h:VR L π v v):∀x∈v.cells,VR L π x x:=by
 obtain⟨zs,b,c,d⟩:=h.cells;intro x a;obtain⟨i,hi,rfl⟩:=adj.1 a;grind
theorem VR.AE{L:aR}{c:aa}(h:∀x∈c,VR L π x x):VR L π (.agg c) (.agg c):=by
 have:=VR.agg (L:=L) (π:=π) (c.map λx=>(x,x)) (λz a=>by
  grind)
 simpa[Function.comp_def] using this
theorem Eh(Inv:β->Prop)(f:α->β->Option (ForInStep β))(hs:∀a b r,Inv b->f a b=some r->Inv (match r with|.yield c=>c|.done c=>c)):∀(l:List α) (init r:β),Inv init->forIn l init f=some r->Inv r
 |[],init,r,d,h=>by
  grind
 |a::l,init,r,d,h=>by
  rw[List.forIn_cons]at h;simp only[acM,abN]at h;obtain⟨x,h1,e⟩:=h
  have:=hs a init x d h1;cases x with
  |done b=>grind
  |yield b=>exact Eh Inv f hs l b r this e
section
variable {L:aR}{info:ak->Option TypeInfo}
theorem Xw(hi:∀t i,info t=some i->mM L i){fs:Array Field}{i:TypeInfo}(h:Made.reckonStruct info fs=some i):mM L i:=by
 unfold Made.reckonStruct at h;simp only[acM,abN,acX]at h;obtain⟨r,l,k⟩:=h;rw[<-Array.forIn_toList]at l;have key:=Eh (λr=>∀a,r.2.2.2.2.2.2.2.1=some a->∀x∈a,∀π,VR L π x x) _ ?_ _ _ _ ?_ l
 .split at k
  all_goals
   simp only[aaX]at k;subst k;refine⟨λv hv π=>?_,λn u h=>by cases h⟩;simp only[abD]at hv;obtain⟨a,g,rfl⟩:=hv;exact VR.AE λx e=>key a g x e π
 .intro f b s hb d;obtain⟨j,hj,d⟩:=abN.1 d;have fin:∀(c:Prop) [Decidable c] (a:aa),(if c then none else b.2.2.2.2.2.2.2.1.bind λx=>j.zero.bind λy=>some (x++y.cells))=some a->∀x∈a,∀π,VR L π x x:=by
   intro c _ a h x e π;split at h
   .cases h
   .obtain⟨p,m,h⟩:=abN.1 h;obtain⟨z,q,h⟩:=abN.1 h;cases h;rcases Array.mem_append.1 e with e|e
    .exact hb p m x e π
    .exact ((hi _ _ hj).1 z q π).FN x e
  by_cases c1:j.str.isEmpty=true
  .grind
  .rw[AT c1]at d;by_cases c2:f.embedded=true
   .grind
   .rw[AT c2]at d;by_cases c3:f.tag.isEmpty=true
    .rw[BY c3]at d;obtain⟨A,_,d⟩:=abN.1 d;split at d<;>(cases d;exactλa g=>fin _ a g)
    .rw[AT c3]at d;obtain⟨A,_,d⟩:=abN.1 d;split at d<;>(cases d;exactλa g=>fin _ a g)
 grind
theorem ZV(hi:∀t i,info t=some i->mM L i){d:TypeDesc}{i:TypeInfo}(h:Made.reckon info d=some i):mM L i:=by
 have word:∀(d:TypeDesc) (s:String) (z:ag) (c:Bool) (b:Nat),(∀n u,d≠.named n u)->(∀π,VR L π z z)->mM L (Made.word d s z c b):=λd s z c b l g=>⟨λv hv π=>by
  have:some z=some v:=hv;grind,λn u e=>absurd e (l n u)⟩
 unfold Made.reckon at h;cases d with
 |pointer e=>
  simp only[acM,abN,acX]at h;obtain⟨j,_,h⟩:=h;split at h
  .cases h
  .split at h
   .cases h
   .obtain⟨s,_,h⟩:=abN.1 h;cases h;exact word _ _ _ _ _ zc λ_=>.bZ
  .obtain⟨s,_,h⟩:=abN.1 h;cases h;exact word _ _ _ _ _ zc λ_=>.bZ
 |slice e=>
  simp only[acM,abN,acX]at h;obtain⟨_,_,_,_,h⟩:=h;cases h;exact word _ _ _ _ _ zc λ_=>.jx _ _
 |map k e=>
  simp only[acM,abN,acX]at h;obtain⟨_,_,_,_,_,_,_,_,h⟩:=h;cases h;exact word _ _ _ _ _ zc λ_=>.mD
 |chan m e=>
  simp only[acM,abN,acX]at h;obtain⟨_,_,_,_,h⟩:=h;cases h;exact word _ _ _ _ _ zc λ_=>.sE
 |func ps rs v=>
  simp only[acM,abN,acX]at h;obtain⟨_,_,h⟩:=h;cases h;exact word _ _ _ _ _ zc λ_=>.nilFunc
 |array n e=>
  simp only[acM,abN,acX]at h;obtain⟨j,hj,s,_,h⟩:=h;cases h;refine⟨λv hv π=>?_,λn u h=>by cases h⟩;simp only at hv;split at hv
  .cases hv
  .split at hv
   .cases hv;exact VR.AE λx a=>by simp at a
   .simp only[abD]at hv;obtain⟨z,g,rfl⟩:=hv;refine VR.AE λx a=>?_;obtain⟨y,p,a⟩:=Array.mem_flatten.1 a;have:y=z.cells:=zg;subst this;exact((hi _ _ hj).1 z g π).FN x a
 |struct fs=>exact Xw hi h
 |_=>cases h
end
theorem E5{L:aR}{T:Tables}(a:∀(t:Nat) i,T.types[t]?=some i->mM L i):∀(fuel:Nat) (t:ak) (i:TypeInfo),Made.infoAt T fuel t=some i->mM L i
 |0,t,i,h=>by cases h
 |n+1,t,i,h=>by
  unfold Made.infoAt at h;split at h
  .exact a t i h
  .obtain⟨d,_,h⟩:=abN.1 h;exact ZV (E5 a n) h
theorem Jb{L:aR}{T:Tables}(a:∀(t:Nat) i,T.types[t]?=some i->mM L i){t:ak}{i:TypeInfo}(h:T.info? t=some i):mM L i:=by
 unfold Tables.info? at h;split at h
 .exact a t i h
 .exact E5 a _ t i h
end
section
def si:List Nat:=[3,4,5,6,7,8,9,10,11,12,13,14,15,16,17,18,19,20,21,22,23,24,25,26,27,28,29,30,31,32,33,34,35,36,37,38,39,40,41,42,43,44,45,46,47,48,49,50,51,52,53,54,55,56,57,58,59,60,61,62,63,64,65,66,67,68,69,70,71,72,73,74,75,76,77,78,79,80,81,82,83,84,85,86,87,88,89,90,91,92,93,94,95,96,97,98,99,100,101,102,103,104,105,106,107,108,109,110,111,112,113,114,115,116,117,118,119,120,121,122,123,124,125,126,131,132,133,134,135,136,137,138,139,140,141,142,143,144,145,146,147,148,149,150,151,152,153,154,155,174,175,176,177,178,179,180,181,182,183,184,185,186,187,193,194,195,196,197,198]
def BV:List Nat:=[49,62,71,72,84,87,88,89,91,92,93,94,119,120,121,122,123,124,125,126,142,143,146,147,148,149,150,151,152,153,154,155,184,185,186,187,197]
def Qc(f t:Nat):cy:=if (f==72&&t==7)||(f==93&&t==0)||(f==93&&t==4)||(f==94&&t==2)||(f==94&&t==3)||(f==125&&t==0)||(f==125&&t==3)||(f==155&&t==1)||(f==155&&t==6) then .eT else if (f==126&&t==0)||(f==126&&t==10) then .kF else if (f==100&&t==15)||(f==101&&t==9)||(f==133&&t==2)||(f==133&&t==42) then .loc else .any
def aax(f:Nat):cy:=if f==94 then .eT else .any
def M6:List (Nat×Nat):=[(71,180349),(72,11555102),(84,2),(87,2),(88,139290),(89,28),(91,43),(92,24625626428766142),(93,366),(94,2),(119,2),(120,2),(121,2),(122,170307336999878687074388026878641307889),(123,11837),(124,393277),(125,22),(126,36),(142,2),(143,3815880923),(146,468709937250361),(147,8629559964467385),(148,30706245946853818553),(149,20100446945977),(150,223690809),(151,9066177787099598164671015674677074854009),(152,12),(153,503706889378935270451441),(154,155890296660192168261890238920840095753930246804209),(155,7449),(184,30882309152275437715697),(185,8381),(186,2425394161),(187,2),(197,10048761)]
def Mx(f t:Nat):Bool:=match M6.find? λp=>p.1==f with|some p=>p.2.testBit t|none=>false
def Ml(f t:Nat):cy:=if (f==72&&t==7)||(f==93&&t==0)||(f==93&&t==4)||(f==94&&t==2)||(f==94&&t==3)||(f==125&&t==0)||(f==125&&t==3)||(f==155&&t==1)||(f==155&&t==6) then .eT else if (f==126&&t==0)||(f==126&&t==10) then .kF else if (f==155&&t==2) then .box else if Mx f t then .own else .any
def U5(f:Nat):cy:=if f==94 then .eT else if f==71||f==72||f==89||f==92||f==93||f==123||f==124||f==125||f==151||f==155 then .own else .any
def ez:bw:=⟨true,λf=>si.contains f,λf=>f==49||f==62,λf=>f==126,λf=>f==134||f==135,fQ,0⟩
def iZ:bw:=⟨false,λf=>BV.contains f,λf=>f==49||f==62,λf=>f==126,λ_=>false,fQ,0⟩
def dA(J:String->ag):aR:=⟨λf=>ez.fb f=true,λf=>ez.cb f=true,λf=>ez.ib f=true,λf=>ez.lb f=true,J,Qc,aax,λf=>if f==fQ then some 3 else none⟩
def j4(J:String->ag):aR:=⟨λf=>iZ.fb f=true,λf=>iZ.cb f=true,λf=>iZ.ib f=true,λf=>iZ.lb f=true,J,Ml,U5,λ_=>none⟩
section
variable {J:String->ag}
def vW(P:aj)(L:aR)(T:bw)(f:Nat):Bool:=
 match P.funcs[f]? with
 |some fn=>(match fn.body with|some c=>eN P L T f c&&mE L T f fn|none=>false)&&!fn.norace&&!(fn.name== "runtime.NumGoroutine")
 |none=>false
def vi(fn:Func):Bool:=fn.body.isSome&&!fn.norace&&!(fn.name== "runtime.NumGoroutine")
theorem YD:(si.all λf=>f==fQ||vW Tryz.prog (dA J) ez f)=true:=zk
theorem Oj:(BV.all λf=>f !=fQ&&vW Tryz.prog (j4 J) iZ f)=true:=zk
theorem QQ:(Tryz.prog.funcs[(fQ:Nat)]?).any vi=true/\vi po=true:=⟨zk,zk⟩
theorem UK:fQ<Tryz.prog.funcs.size:=of_decide_eq_true zk
theorem BS(h:f≠fQ):Gg[f]?=Tryz.prog.funcs[f]? :=by
 unfold Gg;grind
theorem GP:Gg[(fQ:Nat)]?=some po:=by
 unfold Gg;rw[acB UK]
section
variable {L:aR}{T:bw}
theorem Hm(h:vW Tryz.prog L T f=true): ∃fn c,Tryz.prog.funcs[f]?=some fn/\fn.body=some c/\eN Tryz.prog L T f c=true/\mE L T f fn=true/\fn.norace=false/\(fn.name== "runtime.NumGoroutine")=false:=by
 unfold vW at h;grind
end
theorem AQ:∀f,(dA J).fn f->f≠ez.cA->∃fn c,Tryz.prog.funcs[f]?=some fn/\Gg[f]?=some fn/\fn.body=some c/\eN Tryz.prog (dA J) ez f c=true/\mE (dA J) ez f fn=true/\fn.norace=false/\(fn.name== "runtime.NumGoroutine")=false:=by
 intro f d a;have e:f∈si:=by simpa[dA,ez] using d
 have:=abK.1 (YD (J:=J)) f e;simp only[abS,abt]at this;obtain⟨fn,c,b,g,h,i,j,k⟩:=Hm (this.resolve_left a);exact⟨fn,c,b,by rw[BS a];exact b,g,h,i,j,k⟩
theorem yL:∀f,(j4 J).fn f->f≠fQ/\∃fn c,Tryz.prog.funcs[f]?=some fn/\Gg[f]?=some fn/\fn.body=some c/\eN Tryz.prog (j4 J) iZ f c=true/\mE (j4 J) iZ f fn=true/\fn.norace=false/\(fn.name== "runtime.NumGoroutine")=false:=by
 intro f b;have d:f∈BV:=by simpa[j4,iZ] using b
 have:=abK.1 (Oj (J:=J)) f d;simp only[No,bne_iff_ne]at this;obtain⟨fn,c,a,e,g,h,i,j⟩:=Hm this.2;exact⟨this.1,fn,c,a,by rw[BS this.1];exact a,e,g,h,i,j⟩
def yh(c:Code):Bool:=(readies c).isEmpty
theorem zB:((Tryz.prog.funcs.toList.all λf=>(f.body.map yh).getD true)&&yh tq)=true:=zk
theorem Ci(g:Nat):Qg.stepOf g=none:=by
 unfold Program.stepOf;rw[Array.findIdx?_eq_none_iff];intro fn b;have key:∀c,fn.body=some c->readies c= []:=by
  have h:=zB;simp only[No]at h;intro c d;have a:fn∈Gg:=b;unfold Gg at a;rcases Array.mem_or_eq_of_mem_setIfInBounds a with a|rfl
  .have:=abK.1 h.1 fn (by simpa using a);rw[d]at this;simpa[yh] using this
  .have:c=tq:=by
    have e:po.body=some tq:=rfl;grind
   subst this;simpa[yh] using h.2
 cases hb:fn.body with
 |none=>simp
 |some c=>simp[key c hb]
def uk:Nat->ag->Bool
 |0,_=>false
 |_+1,.bool _=>true
 |_+1,.int _ _=>true
 |_+1,.string _=>true
 |_+1,.pointer none=>true
 |_+1,.slice none _ _=>true
 |_+1,.map none=>true
 |_+1,.chan none=>true
 |_+1,.nilFunc=>true
 |_+1,.nilIface=>true
 |d+1,.agg c=>c.toList.all (uk d)
 |d+1,.tuple c=>c.toList.all (uk d)
 |_,_=>false
theorem vP{L:aR}:∀(d:Nat) (v:ag),uk d v=true->VR L π v v
 |0,v,h=>by cases v<;>cases h
 |d+1,v,h=>by
  cases v with
  |bool b=>exact .bool b
  |int k n=>exact .int k n
  |string s=>exact .string s
  |pointer p=>cases p with
   |none=>exact .bZ
   |some a=>cases h
  |slice p n c=>cases p with
   |none=>exact .jx n c
   |some a=>cases h
  |map m=>cases m with
   |none=>exact .mD
   |some a=>cases h
  |chan m=>cases m with
   |none=>exact .sE
   |some a=>cases h
  |nilFunc=>exact .nilFunc
  |nilIface=>exact .nilIface
  |agg c=>
   have:=VR.agg (L:=L) (π:=π) (c.map λx=>(x,x)) (λz e=>by
    obtain⟨x,g,rfl⟩:=acF.1 e;exact vP d x (abK.1 h x (by simpa using g)))
   simpa[Function.comp_def] using this
  |tuple c=>
   have:=VR.tuple (L:=L) (π:=π) (c.map λx=>(x,x)) (λz e=>by
    obtain⟨x,g,rfl⟩:=acF.1 e;exact vP d x (abK.1 h x (by simpa using g)))
   simpa[Function.comp_def] using this
  |_=>cases h
def Ff(i:TypeInfo):Bool:=(match i.desc with|.named n _=>n != "sync.copyChecker" |_=>true)&&(match i.zero with|some v=>uk 8 v|none=>true)
theorem K3:(Tryz.prog.types.toList.all Ff)=true:=zk
theorem Jg(L:aR)(t:Nat)(i:TypeInfo)(h:Tryz.prog.types[t]?=some i):mM L i:=by
 have:=abK.1 K3 i ((Array.mem_toList_iff).2 (acx h));unfold Ff at this;refine⟨λv e π=>?_,λn u e=>?_⟩
 .rw[e]at this;simp only[No]at this;exact vP 8 v this.2
 grind
def tF(L:aR):(∀t i n u,Tryz.prog.info? t=some i->i.desc=.named n u->n≠ "sync.copyChecker")/\∀t i v,Tryz.prog.info? t=some i->i.zero=some v->∀π,VR L π v v:=
 ⟨λ_ _ n u h e=>(Jb (Jg L) h).2 n u e,λ_ _ v h e π=>(Jb (Jg L) h).1 v e π⟩
theorem nU:qv (dA J) ez:=by
 refine⟨λf h=>h,λf h=>h,λf h=>h,λf h=>h,λf h=>?_,λf h=>?_,λf h=>?_,λf h=>?_⟩
 .have:f=49\/f=62:=by simpa[dA,ez] using h
  rcases this with rfl|rfl<;>exact⟨rfl,λi=>rfl,rfl⟩
 .have:f=134\/f=135:=by simpa[dA,ez] using h
  rcases this with rfl|rfl<;>exact⟨rfl,λi=>rfl,rfl⟩
 .rcases h with h|h|h
  .have:f=49\/f=62:=by simpa[dA,ez] using h
   rcases this with rfl|rfl<;>rfl
  .have:f=126:=by simpa[dA,ez] using h
   subst this;rfl
  .have:f=134\/f=135:=by simpa[dA,ez] using h
   rcases this with rfl|rfl<;>rfl
 .have:f=126:=by simpa[dA,ez] using h
  subst this;refine⟨rfl,rfl,λi hi=>?_,rfl⟩;rcases (show i=1\/2<=i by omega) with rfl|h
  .exact .inl rfl
  .exact .inr h
theorem Wm:qv (j4 J) iZ:=by
 refine⟨λf h=>h,λf h=>h,λf h=>h,λf h=>h,λf h=>?_,λf h=>?_,λf h=>rfl,λf h=>?_⟩
 .have:f=49\/f=62:=by simpa[j4,iZ] using h
  rcases this with rfl|rfl<;>exact⟨rfl,λi=>rfl,rfl⟩
 .simp[j4,iZ]at h
 .have:f=126:=by simpa[j4,iZ] using h
  subst this;refine⟨rfl,rfl,λi hi=>?_,rfl⟩;rcases (show i=1\/2<=i by omega) with rfl|h
  .exact .inl rfl
  .exact .inr h
theorem zK:Tryz.prog.follows .staticDataAhead=true:=zk
theorem yA:Let Tryz.prog Gg (dA J) ez:=by
 refine⟨λf b a=>?_,λf b=>?_,nU,zK,Ci⟩
 .obtain⟨fn,c,d,e,i,j,k,_⟩:=AQ f b a;grind
 .by_cases a:f=fQ
  .subst a;obtain⟨l,p2⟩:=QQ;have g: ∃fn,Tryz.prog.funcs[(fQ:Nat)]?=some fn/\vi fn=true:=zg;obtain⟨fn,d,e⟩:=g;have un:∀fn:Func,vi fn=true->(fn.name== "runtime.NumGoroutine")=false/\fn.body.isNone=false/\fn.norace=false:=λfn h=>by
    unfold vi at h;simp_all
   exact⟨⟨fn,d,un fn e⟩,⟨po,GP,un _ p2⟩⟩
  .obtain⟨fn,c,d,e,i,_,_,m,n⟩:=AQ f b a;grind
theorem M7:Let Tryz.prog Gg (j4 J) iZ:=by
 refine⟨λf a g=>?_,λf a=>?_,Wm,zK,Ci⟩
 .obtain⟨_,fn,c,b,d,e,h,i,_⟩:=yL f a;grind
 .obtain⟨_,fn,c,b,d,e,_,_,j,k⟩:=yL f a;grind
theorem xd:Tryz.prog.globals.size=0:=zk
def Dp:Stat Tryz.prog Gg (dA J) ez:=⟨xd,(tF (dA J)).1,(tF (dA J)).2,yA⟩
def Re:Stat Tryz.prog Gg (j4 J) iZ:=⟨xd,(tF (j4 J)).1,(tF (j4 J)).2,M7⟩
theorem LS{Goal:al->List al->af->Prop}(a:∀fr cs w,Goal fr cs w->cs= []/\fr.fn≠fQ)(D:List al):AO Pg Gg (dA J) ez D Goal:=by
 refine Nu (L1:=(dA J)) (T1:=ez) (L2:=(j4 J)) (T2:=iZ) ⟨Re,rfl,rfl,?_,a,?_,rfl⟩ ⟨rfl,rfl,rfl,?_,rfl,λf h=>h,λs=>rfl,xd.symm⟩ D
 .intro h;exact(yL _ h).1 rfl
 .exact (by decide:iZ.fb 84=true)
 .intro i hi;rcases (show i=0\/i=1\/i=2 by omega) with rfl|rfl|rfl<;>rfl
end
end
section
def jj(w:af):Prop:=∀(r:Nat) d,w.heap[r]?=some (.deferred d)->d=none\/d=some []
theorem _root_.Go.Sem.ym(P:aj):∀(p:Sem α) (w:af) (es:Array Event) {h:Halt} {w1:af} {es1:Array Event},p.runT P w es=(.halt h w1,es1)->w<=w1.heap.size:=by
 intro p;induction p with
 |pure a=>simp_all
 |load m a k d=>
  intro w es h w1 es1 b;rw[Sem.runT]at b;grind
 |store m a x k d=>
  intro w es h w1 es1 b;by_cases j: ∃c,x=.agg c
  .obtain⟨c,rfl⟩:=j;simp only[Sem.runT]at b;grind
  by_cases i: ∃c,x=.tuple c
  .obtain⟨c,rfl⟩:=i;simp only[Sem.runT]at b;grind
  rw[Sem.runT.eq_5 _ _ _ _ _ _ _ (λc e=>j ⟨c,e⟩) (λc e=>i ⟨c,e⟩)]at b;split at b
  .split at b
   .grind
   .have:=d _ _ b;simpa[World.setCell] using this
  .split at b
   .rename_i w' l g;unfold World.farStore at g;split at g
    .split at g
     .rename_i r s;cases g;have u:=Cx s;grind
     .cases g
    .cases g
   grind
 |new o k d=>
  intro w es h w1 es1 b
  have:=d _ _ _ b;grind
 |shape r k d=>intro w es h w1 es1 b;exact d _ _ _ b
 |freeze a n k d=>
  intro w es h w1 es1 b
  have:=d _ _ b;have i:(w.freeze a n).heap.size=w.heap.size:=by unfold World.freeze;split<;>simp
  omega
 |frozen a k d=>intro w es h w1 es1 b;exact d _ _ _ b
 |getObj r k d=>
  intro w es h w1 es1 b;rw[Sem.runT]at b;grind
 |setObj r o k d=>
  intro w es h w1 es1 b;rw[Sem.runT]at b;grind
 |choose q k d=>
  intro w es h w1 es1 b;rw[Sem.runT]at b;grind
 |sys c k d=>
  intro w es h w1 es1 b
  have:=d _ _ _ b;rw[(yN w c).1]at this;exact this
 |program k d=>intro w es h w1 es1 b;exact d _ _ _ b
 |mark m k d=>intro w es h w1 es1 b;exact d _ _ b
 |halt h=>simp_all
section
variable {P:aj}{G:Array Func}{L:aR}{C:au->Code->Prop}{τ:aJ}{k₀:Kd}{N:Nat}
theorem jj.modify{w:af}(h:jj w){r:Nat}{f:Obj->Obj}(c:∀o d,w.heap[r]?=some o->f o=.deferred d->d=none\/d=some []):jj {w with heap:=w.heap.modify r f}:=by
 intro b d a;simp only[abR]at a;split at a
 .grind
 .exact h b d a
theorem DO(w:af)(a:Addr)(s:String):nI (w.noCell a s):=by
 unfold World.noCell;split<;>trivial
theorem I4{w:af}{a:Addr}(d:∀o,w.heap[a.block]?=some o->fj L τ o)(b:Bool): ∃h,w.farLoad P a b=.error h/\nI h:=by
 unfold World.farLoad;split
 .rename_i e;rcases d _ e with⟨q,c⟩|⟨_,_,_,c⟩<;>cases c
 .exact⟨_,rfl,DO _ _ _⟩
theorem EC{w:af}{a:Addr}{x:ag}(d:∀o,w.heap[a.block]?=some o->fj L τ o)(b:Bool): ∃h,w.farStore P a x b=.error h/\nI h:=by
 unfold World.farStore;split
 .rename_i e;rcases d _ e with⟨q,c⟩|⟨_,_,_,c⟩<;>cases c
 .exact⟨_,rfl,DO _ _ _⟩
theorem aD.U0(hb:Fit τ){R:α->β->Prop}{p:Sem α}{q:Sem β}(h:aD P G L C τ k₀ R p q):
  ∀(w v:af) (es:Array Event) (m:Halt) (w1:af) (es1:Array Event),Sync L C τ k₀ N w v->jj w->p.runT (gp P G) w es=(.halt m w1,es1)->w1<=N->(∀r s,τ.un r s->r<N)->nI m/\jj w1:=by
 induction h with
 |pure hR=>simp_all
 |@load a b k l B _ D=>
  intro w v es m w1 es1 hs j g A i;rw[Sem.runT]at g;cases u:w.cell? a with
  |none=>
   obtain⟨F,K,ht⟩:=I4 (P:=gp P G) (L:=L) (τ:=τ) (hs.known (.inl B.1)) (Mode.plain==.atomic);grind
  |some y=>
   rw[u]at g;obtain⟨z,hz,ab⟩:=hs.cell B u;grind
 |@qk a b k l B _ D=>
  intro w v es m w1 es1 hs j g A i;rw[Sem.runT]at g;cases u:w.cell? a with
  |none=>
   obtain⟨F,K,ht⟩:=I4 (P:=gp P G) (L:=L) (τ:=τ) (hs.known (.inr B.1)) (Mode.plain==.atomic);grind
  |some y=>
   rw[u]at g;obtain⟨z,hz,ab⟩:=hs.yq B u;grind
 |@store a b x y k l B V _ D=>
  intro w v es m w1 es1 hs j g A i;by_cases H: ∃c,x=.agg c
  .obtain⟨c,rfl⟩:=H;simp only[Sem.runT]at g;cases g;exact⟨trivial,j⟩
  by_cases O: ∃c,x=.tuple c
  .obtain⟨c,rfl⟩:=O;simp only[Sem.runT]at g;cases g;exact⟨trivial,j⟩
  rw[Sem.runT.eq_5 _ _ _ _ _ _ _ (λc e=>H ⟨c,e⟩) (λc e=>O ⟨c,e⟩)]at g;cases u:w.cell? a with
  |none=>
   obtain⟨F,K,ht⟩:=EC (P:=gp P G) (L:=L) (τ:=τ) (x:=x) (hs.known (.inl (hb.own _ _ B.1))) (Mode.plain==.atomic);grind
  |some y0=>
   rw[u]at g;obtain⟨W,_⟩:=vw u;by_cases M:w.frozen? a=true
   .simp only[M,abj]at g;cases g;exact⟨trivial,j⟩
   .simp only[M,abf,abd]at g;refine D _ _ _ m w1 es1 (hs.stored hb B W V) ?_ g A i;refine j.modify λo d I K=>?_;grind
 |@qY a b x y k l B V _ D=>
  intro w v es m w1 es1 hs j g A i;by_cases H: ∃c,x=.agg c
  .obtain⟨c,rfl⟩:=H;simp only[Sem.runT]at g;cases g;exact⟨trivial,j⟩
  by_cases O: ∃c,x=.tuple c
  .obtain⟨c,rfl⟩:=O;simp only[Sem.runT]at g;cases g;exact⟨trivial,j⟩
  rw[Sem.runT.eq_5 _ _ _ _ _ _ _ (λc e=>H ⟨c,e⟩) (λc e=>O ⟨c,e⟩)]at g;cases u:w.cell? a with
  |none=>
   obtain⟨F,K,ht⟩:=EC (P:=gp P G) (L:=L) (τ:=τ) (x:=x) (hs.known (.inr B.1)) (Mode.plain==.atomic);grind
  |some y0=>
   rw[u]at g;obtain⟨W,_⟩:=vw u;by_cases M:w.frozen? a=true
   .simp only[M,abj]at g;cases g;exact⟨trivial,j⟩
   .simp only[M,abf,abd]at g;refine D _ _ _ m w1 es1 (hs.boxed hb B W V) ?_ g A i;refine j.modify λo d I K=>?_;grind
 |@new o q k l Y I _ D=>
  intro w v es m w1 es1 hs j g A i;rw[Sem.runT]at g;have hg:=Sem.ym (gp P G) _ _ _ g;simp only[Array.size_push]at hg;have U:τ.own w v.heap.size:=by have:=hs.next zo;rw[Y]at this;exact this
  refine D _ _ U _ _ _ m w1 es1 (hs.push hb zo (KR.oW hb (hb.own _ _ U) I)) ?_ g A i;intro r d F;simp only[Array.getElem?_push]at F;split at F
  .cases F;cases I
  .exact j r d F
 |@rh xs ys e f k l Y I _ D=>
  intro w v es m w1 es1 hs j g A i;rw[Sem.runT]at g;have hg:=Sem.ym (gp P G) _ _ _ g;simp only[Array.size_push]at hg;have U:τ.box w v.heap.size:=by have:=hs.next zo;rw[Y]at this;exact this
  refine D _ _ U _ _ _ m w1 es1 (hs.push hb zo (KR.xN (e:=e) (f:=f) hb U I)) ?_ g A i;intro r d F;simp only[Array.getElem?_push]at F;split at F
  .cases F
  .exact j r d F
 |@qP o q k l Y I _ D=>
  intro w v es m w1 es1 hs j g A i;rw[Sem.runT]at g;have hg:=Sem.ym (gp P G) _ _ _ g;simp only[Array.size_push]at hg;have U:τ.lp w v.heap.size:=by have:=hs.next zo;rw[Y]at this;exact this
  refine D _ _ U _ _ _ m w1 es1 (hs.push hb zo (KR.uX hb U I)) ?_ g A i;intro r d F;simp only[Array.getElem?_push]at F;split at F
  .cases F;cases I with
   |deferred Z=>exact Z
  .exact j r d F
 |@qe r s k l E _ D=>
  intro w v es m w1 es1 hs j g A i;rw[Sem.runT]at g;cases u:w.heap[r]? with
  |none=>rw[u]at g;cases g;exact⟨trivial,j⟩
  |some o=>
   obtain⟨o',q,H,O,S⟩:=hs.loops r s E (IN.1 u).1;rw[u]at H;cases H;rw[u]at g;have ad:=S;cases S with
   |_=>grind
 |@qw r s o q k l E I _ D=>
  intro w v es m w1 es1 hs j g A i;rw[Sem.runT]at g;cases u:w.heap[r]? with
  |none=>rw[u]at g;cases g;exact⟨trivial,j⟩
  |some o0=>
   obtain⟨o',q0,H,O,S⟩:=hs.loops r s E (IN.1 u).1;rw[u]at H;cases H;rw[u]at g;rw[qa]at g;have an:jj {w with heap:=w.heap.modify r λ_=>o}:=j.modify λ_ d _ K=>by
    subst K;cases I with
    |deferred Z=>exact Z
   have ao:=hs.turn hb (aJ.tz E) λ_ _ _=>KR.uX hb E I;cases S with
   |_=>grind
 |@shape r s k l E _ D=>intro w v es m w1 es1 hs j g A i;exact D _ w v es m w1 es1 hs j g A i
 |@freeze a b n k l B _ D=>
  intro w v es m w1 es1 hs j g A i;refine D _ _ _ m w1 es1 (hs.froze hb B n) ?_ g A i;unfold World.freeze;split
  .exact j
  .refine j.modify λo d I K=>?_;cases o<;>simp only at K<;>first|cases K|skip
   exact j _ d I
 |@frozen a b k l B _ D=>intro w v es m w1 es1 hs j g A i;exact D _ w v es m w1 es1 hs j g A i
 |@getObj r s k l E _ D=>
  intro w v es m w1 es1 hs j g A i;rw[Sem.runT]at g;cases u:w.heap[r]? with
  |none=>rw[u]at g;cases g;exact⟨trivial,j⟩
  |some o=>
   obtain⟨o',q,H,O,S⟩:=hs.obj r s E (IN.1 u).1;rw[u]at H;cases H;rw[u]at g;have ad:=S;cases S with
   |cells e f F=>cases g;exact⟨trivial,j⟩
   |_=>grind
 |@setObj r s o q k l E I aq _ D=>
  intro w v es m w1 es1 hs j g A i;rw[Sem.runT]at g;cases u:w.heap[r]? with
  |none=>rw[u]at g;cases g;exact⟨trivial,j⟩
  |some o0=>
   obtain⟨o',q0,H,O,S⟩:=hs.obj r s (hb.own _ _ E) (IN.1 u).1;rw[u]at H;cases H;rw[u]at g;rw[qa]at g;have an:jj {w with heap:=w.heap.modify r λ_=>o}:=j.modify λ_ d _ K=>by
    subst K;cases I
   have ao:=hs.turn hb (.inl (hb.own _ _ E)) λ_ _ _=>KR.oW hb (hb.own _ _ E) I;cases S with
   |cells e f F=>cases g;exact⟨trivial,j⟩
   |_=>grind
 |@choose qq k l _ D=>
  intro w v es m w1 es1 hs j g A i;rw[Sem.runT]at g;by_cases hf:qq.forced=true
  .grind
  .simp only[hf,abf,abd]at g;exact D _ {w with drawn:=w.drawn+1} v _ m w1 es1 ⟨hs.held,hs.oM⟩ j g A i
 |program _ D=>intro w v es m w1 es1 hs j g A i;exact D w v es m w1 es1 hs j g A i
 |qH _ D=>intro w v es m w1 es1 hs j g A i;exact D w v es m w1 es1 hs j g A i
 |noRoom _ D=>intro w v es m w1 es1 hs j g A i;exact D w v _ m w1 es1 hs j g A i
 |aE qq F=>
  intro w v es m w1 es1 hs j g A i;obtain⟨O,w2,ar,e,ht,Y⟩:=F w es;rw[e]at g;cases g;exact⟨ht,λr d F=>j r d (Y r d F)⟩
end
end
section
open Go.Conc
def Dg(τ:aJ):Prop:=∀r s,τ.un r s->r=s
section
variable {P:aj}{L:aR}{T:bw}{τ:aJ}
theorem AR.dg(c:∀r s,π r s->r=s){a b:Addr}(h:AR π a b):a=b:=by
 obtain⟨d,e,aaN⟩:=a;obtain⟨bb,bo,bs⟩:=b;obtain⟨g,i,j⟩:=h;grind
theorem VR.dg(hj:L.bL=j8)(d:∀r s,π r s->r=s)(h:VR L π v w):v=w:=by
 have a:∀(zs:Array (ag×ag)),(∀z∈zs,z.1=z.2)->zs.map (·.1)=zs.map (·.2):=λzs e=>Array.map_congr_left λz h=>e z h;induction h with
 |bL s=>rw[hj];rfl
 |ptr h=>rw[h.dg d]
 |slice n c h=>rw[h.dg d]
 |map h=>rw[d _ _ h]
 |func xs ys j _ _ g i=>grind
 |iface t _ b=>rw[b]
 |agg xs _ b=>rw[a xs b]
 |tuple xs _ b=>rw[a xs b]
 |_=>rfl
theorem XR.dg{R:α->α->Prop}(c:∀a b,R a b->a=b){xs ys:Array α}(h:XR R xs ys):xs=ys:=by
 obtain⟨zs,rfl,rfl,d⟩:=h;grind
theorem L2.dg{R:α->α->Prop}(c:∀a b,R a b->a=b){xs ys:List α}(h:L2 R xs ys):xs=ys:=by
 induction h with
 |nil=>rfl
 |cons h _ d=>rw[c _ _ h,d]
theorem NR.dg(c:∀r s,π r s->r=s):∀{a b:Option Nat},NR π a b->a=b
 |none,none,_=>rfl
 |some _,some _,h=>by rw[c _ _ h]
theorem qt.dg(hj:L.bL=j8)(a:Dg τ){p:au->Prop}{n:Nat}(h:qt L p n τ v w):v=w:=by
 rcases h with⟨rfl,rfl⟩|⟨rfl,rfl⟩|⟨f,xs,ys,rfl,rfl,_,b,_⟩
 .rfl
 .rfl
 .rw[b.dg λ_ _ h=>VR.dg hj (λr s x=>a r s (.inl x)) h]
theorem CR.dg(hj:L.bL=j8)(hb:gU τ)(a:Dg τ){c:cy}(h:CR L τ c v w):v=w:=by
 cases c with
 |any=>exact VR.dg hj (λr s x=>a r s (.inl x)) h
 |own=>exact VR.dg hj (λr s x=>a r s (.inl (hb.own r s x))) h
 |box=>exact VR.dg hj (λr s x=>a r s (.inr (.inl x))) h
 |kF=>
  rcases h with⟨rfl,rfl⟩|⟨l,m,rfl,rfl,h⟩
  .rfl
  .rw[a _ _ (.inr (.inr h))]
 |eT=>exact qt.dg hj a h
 |loc=>exact qt.dg hj a h
theorem TR.dg(hj:L.bL=j8)(hb:gU τ)(a:Dg τ){f:au}{xs ys:aa}(h:TR L τ f xs ys):xs=ys:=by
 apply acm h.1.symm;intro i b c;exact CR.dg hj hb a (h.2 i _ _ (abI b) (abI c))
theorem OR.dg(hj:L.bL=j8)(d:Dg τ){q:Obj}(h:OR L τ o q):o=q:=by
 have i:∀a b,VR L τ.all a b->a=b:=λa b h=>VR.dg hj (λr s x=>d r s (.inl x)) h;cases h with
 |cells e f h=>rw[h.dg i]
 |map c h=>rw[h.dg λa b g=>by cases a;cases b;obtain⟨j,k,m⟩:=g;grind]
 |stringIter=>rfl
 |mapIter a b c h=>rw[h.dg λr s x=>d r s (.inl x)]
 |number l h=>rw[h.dg λr s x=>d r s (.inl x)]
theorem gR.dg(hj:L.bL=j8)(hb:gU τ)(a:Dg τ){C:au->Code->Prop}{q:Obj}(h:gR L C τ o q):o=q:=by
 cases h with
 |@loop k l d e g b i j m c=>
  obtain⟨a1,a2,r,s,u,x,y,z⟩:=k;obtain⟨b1,b2,b3,A,B,D,E,F⟩:=l;simp only at d e g b i j m c;have n:=TR.dg hj hb a b;have p:=a _ _ (.inr (.inr c));grind
 |deferred=>rfl
theorem KR.dg(hj:L.bL=j8)(hb:gU τ)(d:Dg τ){C:au->Code->Prop}{r s:Nat}{q:Obj}(h:KR L C τ r s o q)(c:τ.un r s):o=q:=by
 rcases c with c|c|c
 .exact OR.dg hj d (h.all c)
 .obtain⟨xs,ys,e,f,rfl,rfl,g⟩:=h.box c;rw[g.dg λa b h=>VR.dg hj (λr s x=>d r s (.inl (hb.own r s x))) h]
 .exact gR.dg hj hb d (h.lp c)
theorem gE.dg(c:Dg τ){f:au}{a b:Item}(h:gE P L T τ f a b):a=b:=by
 cases h with
 |inRangeFunc h=>rw[c _ _ (.inr (.inr h))]
 |endRangeFunc h=>rw[c _ _ (.inr (.inr h))]
 |_=>rfl
theorem j7.dg(c:Dg τ){a b:Deferred}(h:j7 τ a b):a=b:=by
 cases h with
 |collected h=>rw[c _ _ (.inr (.inr h))]
theorem cL.dg(hj:L.bL=j8)(hb:gU τ)(a:Dg τ){fr:al}(h:cL P L T τ fr gr):fr=gr:=by
 obtain⟨a1,a2,k,l,m,n,p⟩:=fr;obtain⟨b1,b2,b3,q,u,y,z⟩:=gr;obtain⟨g,_,_,b,c,d,i,_,j,e⟩:=h;simp only at g b c d i j e;have A:=TR.dg hj hb a b;have B:=c.dg λ_ _ h=>gE.dg a h;have D:=d.dg λ_ _ h=>j7.dg a h;have E:=e.dg λr s x=>a r s (.inr (.inr x));grind
theorem iD.dg(hj:L.bL=j8)(hb:gU τ)(a:Dg τ){c:cy}{ds:List al}(h:iD P L T τ c cs ds):cs=ds:=by
 induction h with
 |nil=>rfl
 |cons h _ _ b=>rw[cL.dg hj hb a h,b]
end
end
end Go.Proofs.YtldmcdeibiclkaaGreat.U
