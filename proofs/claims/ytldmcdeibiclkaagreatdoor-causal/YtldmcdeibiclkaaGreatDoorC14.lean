/-
  Toward causal_holds: tree.ofSegments BEHIND Wait: WHOLE.
-/
import Derived.Test.YtldmcdeibiclkaaGreatDoorC13
import Derived.Test.YtldmcdeibiclkaaGreatDoorC01
set_option linter.unusedVariables false
set_option linter.unusedSimpArgs false
set_option maxRecDepth 100000
set_option maxHeartbeats 20000000
namespace Go.Proofs.YtldmcdeibiclkaaGreatDoor.U
section
open Go.Conc
open Go.ConcN (upd upd_same upd_ne sumTo sumTo_upd sumTo_congr sumTo_le le_sumTo RelBy)
set_option maxRecDepth 100000
section
variable {L:aB} {T:aT} {Goal:Frame->List Frame->World->Prop} {X:PC L}
structure BX(X:PC L)(d:Nat)(gs:Array Goroutine)(v:World)(t:Trace)(q:Nat->Nat):Prop where
 main:gs[0]? =some {frame:=X.c.finish (j8 d X.E.n),callers:=X.cs,status:= .running,dying:=none}
 gV:Leavers Pg t gs q
 mO:Past (jO (ov X)) v.heap.size t
 old:q7 X.E v
 low:X.M.wg< d/\d< v.heap.size
 row: ∃C:Array Value,v.heap[d]? =some (.cells C 44)/\C.size=X.E.n/\∀i,i< X.E.n->C[i]? =some (.int .u64 (X.a i))
 tape:v.tape=X.E.v0.tape
 os:v.os=X.E.v0.os
 output:v.output=X.E.v0.output
theorem Ak{σ:Wk}(h:σ.ah=0):σ= .quit σ.idle:=by
 cases σ<;>simp[Wk.ah] at h
 rfl
theorem Gf(O:aP T Goal X){s:PS}{gs:Array Goroutine}{v:World}{t:Trace}(H:PI T Goal X s gs v t){n:Nat}{xs:Nat->Value}(hmt:s.mt= .fin n xs):
  ∃h q,pJ (ej X) gs.size h v gs v t q/\aH Pg true n h (mG X.M xs X.ds X.E.n)/\(∀i,i< X.E.n->i∈s.cX)/\0< gs.size:=by
 have hn0:=O.n0
 have hnW:=O.nW
 obtain⟨a1,a2,a3⟩:=nL H.wg (by rw[hmt];rfl) (by rw[hmt];rfl)
 obtain⟨h,h0,hM⟩:=H.gs.main
 rw[hmt] at hM
 have hj:s.j=X.nW:=by rw[H.ac.on,hmt];rfl
 have hsz:=H.gs.size
 let q:Nat->Nat:=λi=>if i< X.n0 then s.q i else (s.ws (i - X.n0)).idle
 refine⟨h,q,⟨h0,⟨v.drawn,rfl⟩,⟨λi g hi hg=>?_,λi hi=>H.gs.above i hi⟩,?_,rfl⟩,hM,λi hi=>?_,by omega⟩
 ·rcases Yw i X.n0 with hlt|hge
  ·show QuitsD Pg (if i< X.n0 then s.q i else _) _ g
   rw[AT hlt]
   exact H.gs.jP i g hi hlt hg
  ·obtain⟨k,rfl⟩: ∃k,i=X.n0+k:=⟨i - X.n0,by omega⟩
   have hk:k< s.j:=by have:=(IN.1 hg).1;omega
   obtain⟨g',hg',hW⟩:=H.gs.work k hk
   rw[hg] at hg'
   cases hg'
   show QuitsD Pg (if X.n0+k< X.n0 then s.q (X.n0+k) else (s.ws (X.n0+k - X.n0)).idle) _ g
   rw[AS (by omega),show X.n0+k - X.n0=k by omega]
   rw[Ak (a1 k hk)] at hW
   exact hW
 ·obtain⟨p,h1,h2,h3,h4⟩:=H.tr.acq n xs hmt
  have hd:Deaf t 0=0:=by rw[H.tr.d0,hmt];rfl
  have:=H.tr.tp.mO (ad:=bC X) (q:=p) (λk hk=>?_) H.tr.norel h1 h2 h3 hd
  ·exact this
  ·obtain⟨k',rfl⟩: ∃k',k=X.n0+k':=⟨k - X.n0,by have:=hk.1;omega⟩
   exact h4 k' (by have:=hk.2;omega)
 ·have hg0:=H.ac.gone 0 (by omega) (by rw[a1 0 (by omega)];omega)
  rcases H.ac.cover i (by rw[hmt];exact hi) with hx|hx|⟨k,hk,hx⟩
  ·rw[hg0.2] at hx;cases hx
  ·exact hx
  ·rw[Ak (a1 k hk)] at hx;cases hx
theorem Vb(O:aP T Goal X){s:PS}{gs:Array Goroutine}{v:World}(sl:Option (Nat×Nat)){t:Trace}(H:PI T Goal X s gs v t){n:Nat}{xs:Nat->Value}(hmt:s.mt= .fin n xs):
  ∃N d gs' v' sl' t' q',runNT Pg N (crowd gs v sl) t=(.next (crowd gs' v' sl'),t')/\BX X d gs' v' t' q':=by
 have b1:=O.bT;have b2:=O.cN;have b3:=O.bN;have b4:=O.cB;have b5:=O.bB;have b6:=O.wg
 obtain⟨h,q,hA,hg,hall,hN⟩:=Gf O H hmt
 have K:=Dm X X.M.cB
 have hsz:=H.wd.size
 obtain⟨sB,hcB⟩:=H.wd.cB
 have hnB: ¬ ov X X.M.bB:=λh=>by
  rcases h with h|h|h|h
  ·have:=O.sh _ h;omega
  all_goals omega
 have s1:bc (ej X) gs.size h v (mG X.M xs X.ds X.E.n) v:= .aD K hN hg
 have hbox:∀(w:World),w.heap[X.M.bB]? =v.heap[X.M.bB]? ->∀d,(w.at d).cell? ⟨X.M.bB,0,none⟩=some (.chan (some X.M.cB)):=λw hw d=>by
  have:(w.at d).heap[X.M.bB]? =v.heap[X.M.bB]? :=hw
  simp[World.cell?,this,H.wd.bB]
 have s2:bc (ej X) gs.size (mG X.M xs X.ds X.E.n) v (lR X.M xs X.ds X.E.n) v:=by
  refine .op K hN (zo X.M xs X.ds X.E.n) (Gt X.M xs X.ds X.E.n (.chan (some X.M.cB))) (es:=#[⟨.cell ⟨X.M.bB,0,none⟩,false,false⟩]) (es':=#[⟨.cell ⟨X.M.bB,0,none⟩,false,false⟩]) (λd=>⟨hbox v rfl d,rfl,rfl⟩) (AI _) (by rw[OI];exact uC _) (λe he=>?_)
  simp at he;subst he;exact pL X false hnB (by omega)
 let W1:World:={v with heap:=v.heap.setIfInBounds X.M.cB (.chan X.E.n (s.cX.map X.fY).toArray true sB 0 false)}
 have z1:W1.heap.size=v.heap.size:=by simp[W1]
 have o1:∀b,b≠X.M.cB->W1.heap[b]? =v.heap[b]? :=λb hb=>by simp[W1,Ye (Ne.symm hb)]
 have g1:W1.heap[X.M.cB]? =some (.chan X.E.n (s.cX.map X.fY).toArray true sB 0 false):=by
  have:X.M.cB< v.heap.size:=by omega
  simp[W1,this]
 have s3:bc (ej X) gs.size (lR X.M xs X.ds X.E.n) v (fin (lR X.M xs X.ds X.E.n) unit) W1:=by
  refine .op K hN (FT X.M xs X.ds X.E.n) (Ga X.M xs X.ds X.E.n X.E.n (s.cX.map X.fY).toArray sB 0 false) (es:=#[⟨.obj X.M.cB,false,true⟩,⟨.obj X.M.cB,true,true⟩]) (es':=#[⟨.obj X.M.cB,false,true⟩,⟨.obj X.M.cB,true,true⟩]) (λd=>⟨hcB,rfl,⟨_,hcB,rfl⟩,rfl,rfl⟩) (by omega) (by rw[O6];exact Cy _) (λe he=>?_)
  simp at he
  rcases he with rfl|rfl
  ·refine⟨λx hx _=>?_,by simp,by simp,show X.M.cB< _ by omega⟩
   simp only[MemAct.ofEvent,MemAct.touch?,X2] at hx
   subst hx;simp
  ·refine⟨λx hx _=>?_,by simp,by simp,show X.M.cB< _ by omega⟩
   simp[MemAct.ofEvent,MemAct.touch?] at hx
 have s4:bc (ej X) gs.size (fin (lR X.M xs X.ds X.E.n) unit) W1 (jY X.M xs X.ds X.E.n) W1:= .aD K hN (SB X.M xs X.ds X.E.n).aD
 let d:=W1.heap.size
 let W2:=dU W1 (.cells (Array.replicate X.E.n (.int .u64 0)) 44)
 have z2:W2.heap.size=W1.heap.size+1:=fM _ _
 have s5:bc (ej X) gs.size (jY X.M xs X.ds X.E.n) W1 (fin (jY X.M xs X.ds X.E.n) (j8 d X.E.n)) W2:= .op K hN (Pv X.M xs X.ds X.E.n) (RR X.M O.nn O.count xs X.ds X.E.n d) (es:=#[]) (λdd=>⟨rfl,rfl,rfl⟩) (by omega) (eH _) (λe he=>by simp at he)
 have s6:bc (ej X) gs.size (fin (jY X.M xs X.ds X.E.n) (j8 d X.E.n)) W2 (lM X.M xs X.ds X.E.n d X.E.n) W2:= .aD K hN (KT X.M xs X.ds X.E.n d X.E.n).aD
 have o2:∀b,b< v.heap.size->b≠X.M.cB->W2.heap[b]? =v.heap[b]? :=λb hb hc=>by rw[gR,AS (by omega),o1 b hc]
 have s7:bc (ej X) gs.size (lM X.M xs X.ds X.E.n d X.E.n) W2 (fin (lM X.M xs X.ds X.E.n d X.E.n) (.chan (some X.M.cB))) W2:=by
  refine .op K hN (SQ X.M xs X.ds X.E.n d X.E.n) (TN X.M xs X.ds X.E.n d X.E.n (.chan (some X.M.cB))) (es:=#[⟨.cell ⟨X.M.bB,0,none⟩,false,false⟩]) (es':=#[⟨.cell ⟨X.M.bB,0,none⟩,false,false⟩]) (λdd=>⟨hbox W2 (o2 _ (by omega) (by omega)) dd,rfl,rfl⟩) (AI _) (by rw[Wm];exact uC _) (λe he=>?_)
  simp at he;subst he;exact pL X false hnB (by omega)
 have s8:=bc.aD (Θ:=ej X) (n:=gs.size) (v:=W2) K hN (IE X.M xs X.ds X.E.n d X.E.n).aD
 rw[Xf] at s8
 have G0:rY X s.cX (λ_=>False) d W2:=by
  refine⟨⟨by have:=H.wd.old.1;omega,λb hb=>by have:=H.wd.old.1;rw[o2 b (by omega) (by omega)];exact H.wd.old.2 b hb⟩,⟨sB,0,?_⟩,⟨by show X.M.wg< W1.heap.size;omega,by show W1.heap.size< _;omega⟩,⟨Array.replicate X.E.n (.int .u64 0),by rw[gR,AT rfl],by simp,λi hi=>hi.elim⟩,H.wd.tape,H.wd.os,H.wd.output⟩
  rw[gR,AS (by omega)];exact g1
 obtain⟨v',xs',s9,G⟩:=Bg O hN s.cX _ W2 _ H.ac.okB G0
 obtain⟨sB',rB',hcl⟩:=G.cB
 have e0:∀dd,stepG Pg true (fT X.M xs' X.ds d X.E.n) (v'.at dd)= .comm (fT X.M xs' X.ds d X.E.n) #[rcase X.M.cB zF] true (.recv true) (v'.at dd) #[]:=λdd=>by
  have hc:=aI.comm (sU X.M xs' X.ds d X.E.n) (zU X.M xs' X.ds d X.E.n) (w:=v'.at dd) (w':=v'.at dd) (es:=#[]) ⟨rfl,rfl⟩
  rw[eH,zp] at hc
  exact hc
 have s10:bc (ej X) gs.size (fT X.M xs' X.ds d X.E.n) v' (mZ X.M xs' X.c X.cs d X.E.n) v':=bc.Nq K hN (sU X.M xs' X.ds d X.E.n).2.1 e0 hcl
 have s11:=bc.aD (Θ:=ej X) (n:=gs.size) (v:=v') K hN (GU X.M xs' X.c X.cs d X.E.n).aD
 rw[GY] at s11
 have all:=s1.trans (s2.trans (s3.trans (s4.trans (s5.trans (s6.trans (s7.trans (s8.trans (s9.trans (s10.trans s11)))))))))
 obtain⟨N,gs',u',sl',t',q',hr,hA'⟩:=all gs v sl t q hA
 obtain⟨dd,rfl⟩:=hA'.world
 obtain⟨C,r1,r2,r3⟩:=G.row
 exact⟨N,d,gs',v'.at dd,sl',t',q',hr,hA'.main,hA'.gV,hA'.trace,G.old,G.low,⟨C,r1,r2,λi hi=>r3 i (.inr (hall i hi))⟩,G.tape,G.os,G.output⟩
theorem FU(O:aP T Goal X){gs:Array Goroutine}(sl:Option (Nat×Nat)){t:Trace}{q:Nat->Nat}(h0:gs[0]? =some (m0 X.M X.c X.cs))(hL:Leavers Pg t gs q)(hP:Past (jO X.Sh) X.E.v0.heap.size t)(hsz:gs.size=X.n0):
  ∃N d gs' v' sl' t' q',runNT Pg N (crowd gs X.E.v0 sl) t=(.next (crowd gs' v' sl'),t')/\BX X d gs' v' t' q':=by
 have b1:=O.bT;have b2:=O.cN;have b3:=O.bN;have b4:=O.cB;have b5:=O.bB;have b6:=O.wg
 have hT:ia X X.E.v0.heap.size t:=by
  refine⟨TP.begin hP (λb hb=>hb.2) (λk b hb=>?_) (λb hb=>?_),hP.hears,λi hi=>?_⟩
  ·rcases hb.2 with h|h|h<;>omega
  ·rcases hb with h|h|h<;>omega
  ·unfold Trace.act? at hi
   obtain⟨op,ag,ha⟩:=Yq.1 hi
   have hl:=hP.seen op (Y0 ag)
   rw[ha] at hl
   have:X.M.wg< X.E.v0.heap.size:=hl
   omega
 obtain⟨N1,gs1,u1,sl1,t1,q1,r1,H1⟩:=MD O gs X.E.v0 sl t q ⟨h0,⟨X.E.v0.drawn,rfl⟩,hL,hT,hsz⟩
 obtain⟨s,hI⟩:=Hq O H1
 obtain⟨N2,s2,gs2,v2,sl2,t2,r2,H2,n,xs,hmt⟩:=QF O _ s gs1 u1 sl1 t1 hI rfl
 obtain⟨N3,d,gs3,v3,sl3,t3,q3,r3,H3⟩:=Vb O sl2 H2 hmt
 refine⟨N1+(N2+N3),d,gs3,v3,sl3,t3,q3,?_,H3⟩
 rw[runNT_add,r1]
 show runNT Pg (N2+N3) (crowd gs1 u1 sl1) t1=_
 rw[runNT_add,r2]
 exact r3
end
end
section
open Go.Conc
open Go.ConcN (upd upd_same upd_ne sumTo sumTo_upd sumTo_congr sumTo_le le_sumTo RelBy)
set_option maxRecDepth 100000
structure Rm(L1:aB)(T1:aT)(L2:aB):Prop where
 bI:T1.bI=fQ
 fl:T1.fl=true
 ar:L1.ar fQ=some 3
 cM:∀i,i< 3->L1.cM fQ i= .any
 res:L1.res fQ= .any
 fB:∀f,L1.fB f->L2.fB f
 bg:∀s,L1.bg s=L2.bg s
 ng:T1.ng=Pg.globals.size
section
variable {L1 L2:aB}
theorem VR.link(hc:∀f,L1.fB f->L2.fB f)(hj:∀s,L1.bg s=L2.bg s){π:Nat->Nat->Prop}{v w:Value}(h:VR L1 π v w):VR L2 π v w:=by
 induction h with
 |bg s a b c=>rw[hj s] at a b c ⊢;exact .bg s a b c
 |bool b=>exact .bool b
 |int k n=>exact .int k n
 |string s=>exact .string s
 |bz=>exact .bz
 |ptr h=>exact .ptr h
 |iG n c=>exact .iG n c
 |slice n c h=>exact .slice n c h
 |lu=>exact .lu
 |pe=>exact .pe
 |map h=>exact .map h
 |func xs ys hf _ _ ih1 ih2=>exact .func xs ys (hc _ hf) ih1 ih2
 |nilFunc=>exact .nilFunc
 |iface t _ ih=>exact .iface t ih
 |nilIface=>exact .nilIface
 |agg xs _ ih=>exact .agg xs ih
 |tuple xs _ ih=>exact .tuple xs ih
theorem OR.link(hc:∀f,L1.fB f->L2.fB f)(hj:∀s,L1.bg s=L2.bg s){τ:ai}{o q:Obj}(h:OR L1 τ o q):OR L2 (fD τ.all) o q:=by
 cases h with
 |cells e f h=>obtain⟨zs,a,b,c⟩:=h;exact .cells e f ⟨zs,a,b,λz hz=>(c z hz).link hc hj⟩
 |map c h=>obtain⟨zs,a,b,d⟩:=h;exact .map c ⟨zs,a,b,λz hz=>⟨(d z hz).1.link hc hj,(d z hz).2.1.link hc hj,(d z hz).2.2⟩⟩
 |stringIter s p=>exact .stringIter s p
 |mapIter a b c h=>exact .mapIter a b c h
 |number l h=>exact .number l h
end
section
variable {Q:Program} {Goal:Frame->List Frame->World->Prop}
theorem dH.PN{fr fr1 fr2:Frame}{cs cs1 cs2:List Frame}{w w1 w2:World}(h:dH Q Goal fr cs w fr1 cs1 w1)(hn: ¬ Goal fr1 cs1 w1){es:Array Event}(e:stepG Q true (lg fr1 cs1) w1= .go (lg fr2 cs2) w2 es):Below Q Goal fr cs w fr2 cs2 w2:=by
 induction h with
 |refl fr cs w=>exact .one w.tape es hn e
 |step t es' hg hs _ ih=>exact .more t es' hg hs (ih hn e)
end
theorem iJ.J8{P:Program}{G:Array Func}{L:aB}{T:aT}{τ:ai}{fr gr:Frame}(h:iJ P G L T τ fr gr)(hf:fr.fn=T.bI):
  ∃xs ys,TR L τ T.bI xs ys/\(∀k,L.ar T.bI=some k->xs.size=k)/\fr=Frame.enter (gp P G) T.bI xs .normal/\gr=Frame.enter P T.bI ys .normal:=by
 cases h with
 |run h=>exact absurd hf h.np
 |bI h1 h2 h3=>exact⟨_,_,h2,h3,rfl,rfl⟩
theorem zx(P:Program)(f:FuncId)(xs:Array Value):(Frame.enter P f xs .normal).roundOf=none/\(Frame.enter P f xs .normal).fn=f:=⟨rfl,rfl⟩
theorem Ni{L1 L2:aB}{T1 T2:aT}{Goal:Frame->List Frame->World->Prop}(A:eO L2 T2 Goal)(K:Rm L1 T1 L2)(D:List Frame):vD Pg Gg L1 T1 D Goal:=by
 intro fr cs w hfn hsafe gs v sl t q τ Sh hb
 obtain⟨h,h0,hS⟩:=hb.main
 obtain⟨xs,ys,hT,har,rfl,hgr⟩:=hS.g.frame.J8 hfn
 obtain⟨cs',ds,hc1,hc2,hch,hbot⟩:=hS.g.callers
 obtain rfl:cs=cs':=ZJ hc1
 rw[K.bI] at hsafe hT har hgr hch hbot
 have h3:xs.size=3:=har 3 K.ar
 have hy3:ys.size=3:=hT.1.trans h3
 have hv:∀(i:Nat) x y,xs[i]? =some x->ys[i]? =some y->VR L1 τ.all x y:=λi x y hx hy=>by
  have hi:i< 3:=by have:=(IN.1 hx).1;omega
  have:=hT.2 i x y hx hy
  rw[K.cM i hi] at this
  exact this
 obtain⟨x0,x1,x2,rfl⟩: ∃x0 x1 x2,xs=#[x0,x1,x2]:=⟨xs[0],xs[1],xs[2],by
  apply ZA
  ·simp[h3]
  ·intro i h1 h2
   rcases (show i=0\/i=1\/i=2 by omega) with rfl|rfl|rfl<;>rfl⟩
 obtain⟨y0,y1,y2,rfl⟩: ∃y0 y1 y2,ys=#[y0,y1,y2]:=⟨ys[0],ys[1],ys[2],by
  apply ZA
  ·simp[hy3]
  ·intro i h1 h2
   rcases (show i=0\/i=1\/i=2 by omega) with rfl|rfl|rfl<;>rfl⟩
 have v0:=hv 0 x0 y0 rfl rfl
 have v1:=hv 1 x1 y1 rfl rfl
 have v2:=hv 2 x2 y2 rfl rfl
 obtain⟨first,n,rfl,rfl,hn,a,d,X,w',hrun,KE,hD⟩:=Na A (x0:=x0) (x1:=x1) (x2:=x2) (y2:=y2) (ρ:=τ.all) (w0:=w) (v0:=v) (cs:=cs) hsafe ⟨λr s t h k=>hS.bi.fn r s t (.inl h) (.inl k),λr s t h k=>hS.bi.inj r s t (.inl h) (.inl k)⟩ (λr s h=>hS.cf r s (.inl h))
  (λr s h=>by obtain⟨o,q,e1,e2,e3⟩:=hS.obj r s (.inl h);exact⟨o,q,e1,e2,(e3.all h).link K.fB K.bg⟩) (v2.link K.fB K.bg) (λg hg=>hS.flat.2 g (by rw[K.ng];exact hg))
 have hret:=Q7 (.int .i64 first) (.int .i64 n) x2 X cs
 have hng:∀u,¬ Goal (kK (.int .i64 first) (.int .i64 n) x2 X cs) cs u:=λu hg=>(A.goal _ _ _ hg).2 hret.2.2.1
 cases hcs:cs with
 |nil=>
  exfalso
  have hs2:=Safe.run hsafe hrun
  cases hs2 with
  |goal hg=>exact hng _ hg
  |step f c u es h1 h2 h3 h4 h5=>exact h2 ⟨hret.1,hret.2.1,hcs⟩
 |cons c1 cs1=>
 subst hcs
 have hstep:=Lo (.int .i64 first) (.int .i64 n) x2 X cs1 c1 w'
 rw[hD.row] at hstep
 have hbelow:=dH.PN hrun (hng _) hstep
 cases hch with
 |@cons _ _ gr _ ds1 hfr hfin hch1=>
 obtain rfl:y0= .int .i64 first:=by cases v0;rfl
 obtain rfl:y1= .int .i64 n:=by cases v1;rfl
 obtain⟨f,us,us',vs,vs',e1,e2,_⟩: ∃f us us' vs vs',x2= .func (.func f) us vs/\y2= .func (.func f) us' vs'/\True:=by
  obtain⟨X1,w1,s1,s2,s3,s4⟩:=hD.mJ 0 (by show 0< n;omega)
  obtain⟨f,us,us',vs,vs',e1,e2,_⟩:=wh A KE 5 (.inr rfl) s1 s2
  exact⟨f,us,us',vs,vs',e1,e2,trivial⟩
 let M:Mn:={wg:=v.heap.size+5,bN:=v.heap.size+2,bB:=v.heap.size+4,bT:=v.heap.size,cN:=v.heap.size+1,cB:=v.heap.size+3,first:=first,count:=n,fn:= .func f,ca:=us',cb:=vs'}
 let Y:PC L2:={E:=⟨first,n,x2,y2,τ.all,w,v,c1::cs1⟩,M:=M,c:=gr,cs:=ds1++D,n0:=gs.size,nW:=if n=1 then 1 else 4,a:=a,Sh:=Sh,g0:=gs}
 have hsz:0< gs.size:=(IN.1 h0).1
 have O:aP T2 Goal Y:=by
  refine {A:=A,K:=KE,mJ:=hD.mJ,first:=rfl,count:=rfl,ix:=e2.symm,nn:=hn,nw:=?_,bT:=rfl,cN:=rfl,bN:=rfl,cB:=rfl,bB:=rfl,wg:=rfl,n0:=hsz,sh:=hb.old,AG:=λr s hx=>hb.apart r s (.inl hx)}
  show (n=1/\(if n=1 then 1 else 4)=1)\/(n≠1/\(if n=1 then 1 else 4)=4)
  by_cases h1:n=1
  ·exact .inl ⟨h1,AT h1⟩
  ·exact .inr ⟨h1,AS h1⟩
 have hh:h=m0 Y.M Y.c Y.cs:=by
  have g1:=hS.g.status.2
  have g2:=hS.g.dying.2
  have g3:=hS.g.offers.2
  obtain⟨hf,hcl,hst,hdy,hof⟩:=h
  simp only at g1 g2 g3 hgr hc2
  subst g1 g2 g3 hgr hc2
  show Goroutine.mk _ _ _ _ _=qJ 68 #[.int .i64 first,.int .i64 n,.func (.func f) us' vs'] (gr::(ds1++D))
  rw[←e2]
  rfl
 subst hh
 obtain⟨N,d',gs',v',sl',t',q',hr,hB⟩:=FU O sl h0 hb.gV hb.mO rfl
 obtain⟨C,hC,hCs,hCk⟩:=hD.blk
 obtain⟨C',hC',hCs',hCk'⟩:=hB.row
 have hdw:d< w'.heap.size:=(IN.1 hC).1
 have hnew:w.heap.size<=d:=hD.new
 have hlow:v.heap.size+5< d'/\d'< v'.heap.size:=hB.low
 have hkeep:w.heap.size<=w'.heap.size/\∀r,r< w.heap.size->w'.heap[r]? =w.heap[r]? :=hD.keeps
 have hold:v.heap.size<=v'.heap.size/\∀s,s< v.heap.size->v'.heap[s]? =v.heap[s]? :=hB.old
 let τ':ai:=⟨λr s=>τ.all r s\/(r=d/\s=d'),λr s=>τ.own r s\/(r=d/\s=d'),τ.box,τ.lp⟩
 have hle:fJ τ τ':=⟨λ_ _ h=> .inl h,λ_ _ h=> .inl h,λ_ _ h=>h,λ_ _ h=>h⟩
 have hun:∀r s,τ'.un r s->τ.un r s\/(r=d/\s=d'):=λr s h=>by
  rcases h with (h|h)|h|h
  ·exact .inl (.inl h)
  ·exact .inr h
  ·exact .inl (.inr (.inl h))
  ·exact .inl (.inr (.inr h))
 have hfit:Fit τ':=by
  have nd:∀s,¬ τ.un d s:=λs h=>by have:=(hS.cf d s h).1;omega
  have nd':∀r,¬ τ.un r d':=λr h=>by have:=(hS.cf r d' h).2;omega
  exact
   {own:=λr s h=>h.imp (hS.bi.own r s) id
    two:=λr s t h k=>by
     rcases h with h|⟨rfl,rfl⟩
     ·exact hS.bi.two r s t h k
     ·exact nd _ (.inr (.inl k))
    mU:=λr s t h k=>by
     rcases h with h|⟨rfl,rfl⟩
     ·exact hS.bi.mU r s t h k
     ·exact nd _ (.inr (.inr k))
    mw:=hS.bi.mw
    fn:=λr s t h k=>by
     rcases hun r s h with h'|⟨rfl,rfl⟩<;>rcases hun _ t k with k'|⟨k1,k2⟩
     ·exact hS.bi.fn r s t h' k'
     ·rw[k1] at h';exact absurd h' (nd _)
     ·exact absurd k' (nd _)
     ·exact k2.symm
    inj:=λr s t h k=>by
     rcases hun r t h with h'|⟨rfl,rfl⟩<;>rcases hun s _ k with k'|⟨k1,k2⟩
     ·exact hS.bi.inj r s t h' k'
     ·rw[k2] at h';exact absurd h' (nd' _)
     ·exact absurd k' (nd' _)
     ·exact k1.symm}
 have hflat:Flat T1 τ':=⟨λhf r s h=>h.imp (hS.flat.1 hf r s) id,λg hg=> .inl (hS.flat.2 g hg)⟩
 have hsl:CR L1 τ' .any (eB d n) (j8 d' n):=VR.slice n n ⟨.inr ⟨rfl,rfl⟩,rfl,rfl⟩
 have hrc:ir L1 (Frame.enter (gp Pg Gg) fQ #[.int .i64 first,.int .i64 n,x2] .normal)= .any:=by
  unfold ir
  rw[(zx _ _ _).1,(zx _ _ _).2]
  exact K.res
 rw[hrc] at hfin
 have hG:GR Pg Gg L1 T1 τ' [wall] D (lg (c1.finish (eB d n)) cs1) {frame:=gr.finish (j8 d' n),callers:=ds1++D,status:= .running,dying:=none}:=by
  refine⟨.run (bM.finish hfit.tofy hflat (hfr.mono hle) hfin hsl),⟨rfl,rfl⟩,⟨rfl,rfl⟩,⟨rfl,rfl⟩,cs1,ds1,rfl,rfl,?_,?_⟩
  ·show gX Pg L1 T1 τ' (ir L1 (c1.finish (eB d n))) cs1 ds1
   rw[rW]
   exact hch1.mono hle
  ·have hbot':jE c1 cs1:=hbot
   exact hbot'.same (pX _ _)
 have hSim:iK Pg Gg L1 T1 τ' [wall] D (lg (c1.finish (eB d n)) cs1) w' {frame:=gr.finish (j8 d' n),callers:=ds1++D,status:= .running,dying:=none} v':=by
  refine⟨hG,hfit,hflat,λr s hx=>?_,λr s hx=>?_⟩
  ·rcases hun r s hx with hx|⟨rfl,rfl⟩
   ·have:=hS.cf r s hx;omega
   ·omega
  ·rcases hun r s hx with hy|⟨rfl,rfl⟩
   ·obtain⟨o,p,e1,e2,e3⟩:=hS.obj r s hy
    have:=hS.cf r s hy
    exact⟨o,p,by rw[hkeep.2 r this.1];exact e1,by rw[hold.2 s this.2];exact e2,e3.xT hle hfit hy⟩
   ·refine⟨_,_,hC,hC',λ_=>?_,λhx=>?_,λhx=>?_⟩
    ·have hCC:C'=C:=by
      apply ZA
      ·exact hCs'.trans hCs.symm
      ·intro i h1 h2
       have hi:i< n:=by have:C.size=n:=hCs;omega
       have a1:=hCk i hi
       have a2:=hCk' i hi
       rw[Ym h2] at a1
       rw[Ym h1] at a2
       exact (YG a2).trans (YG a1).symm
     subst hCC
     refine .cells _ _ (XR.self _ λx hx=>?_)
     obtain⟨i,hi,rfl⟩:=Z2.1 hx
     have hin:i< n:=by have:C'.size=n:=hCs';omega
     have a2:=hCk' i hin
     rw[Ym hi] at a2
     rw[YG a2]
     exact .int _ _
    ·exact absurd (hS.cf _ _ (.inr (.inl hx))).1 (by omega)
    ·exact absurd (hS.cf _ _ (.inr (.inr hx))).1 (by omega)
 refine⟨N,gs',v',sl',t',q',τ',_,_,_,ov Y,hr,⟨⟨_,hB.main,hSim⟩,hB.gV,hB.mO,λr s hx hsh=>?_,λs hsh=>?_⟩,by rw[K.bI];exact hbelow,⟨hold.1,hB.tape,hB.os,hB.output,λs hs _=>hold.2 s hs,hle,λr s hx=>?_⟩⟩
 ·have hsh':Sh s\/(s=v.heap.size+5\/s=v.heap.size+1\/s=v.heap.size+3):=hsh
  rcases hun r s hx with hy|⟨rfl,rfl⟩
  ·have:=(hS.cf r s hy).2
   rcases hsh' with h|h|h|h
   ·exact hb.apart r s hy h
   all_goals omega
  ·rcases hsh' with h|h|h|h
   ·have:=hb.old s h;omega
   all_goals omega
 ·have hsh':Sh s\/(s=v.heap.size+5\/s=v.heap.size+1\/s=v.heap.size+3):=hsh
  rcases hsh' with h|h|h|h
  ·have:=hb.old s h;omega
  all_goals omega
 ·rcases hun r s hx with hy|⟨rfl,rfl⟩
  ·exact .inl hy
  ·exact .inr ⟨by omega,hlow.2⟩
end
section
open Go
def lh(L:aB)(i:TypeInfo):Prop:=(∀v,i.zero=some v->∀π,VR L π v v)/\∀n u,i.desc= .named n u->n≠ "sync.copyChecker"
theorem VR.BK{L:aB}{π:Nat->Nat->Prop}{v:Value}(h:VR L π v v):∀x∈v.cells,VR L π x x:=by
 obtain⟨zs,h1,h2,h3⟩:=h.cells
 intro x hx
 obtain⟨i,hi,rfl⟩:=Z2.1 hx
 have hl:i< zs.size:=by rw[h1] at hi;simpa using hi
 have e1:v.cells[i]=zs[i].1:=by simp only[h1,Array.getElem_map]
 have e2:v.cells[i]=zs[i].2:=by
  have:v.cells[i]? =(zs.map (·.2))[i]? :=by rw[←h2]
  rw[Ym hi,YL,Ym hl] at this
  exact YG this
 have:=h3 zs[i] (aaf hl)
 rw[←e1,←e2] at this
 exact this
theorem VR.xV{L:aB}{π:Nat->Nat->Prop}{c:Array Value}(h:∀x∈c,VR L π x x):VR L π (.agg c) (.agg c):=by
 have:=VR.agg (L:=L) (π:=π) (c.map λx=>(x,x)) (λz hz=>by
  obtain⟨x,hx,rfl⟩:=YQ.1 hz
  exact h x hx)
 simpa[Zh] using this
theorem BP{α β:Type}(Inv:β->Prop)(f:α->β->Option (ForInStep β))(hs:∀a b r,Inv b->f a b=some r->Inv (match r with| .yield b'=>b'| .done b'=>b')):∀(l:List α) (init r:β),Inv init->forIn l init f=some r->Inv r
 |[],init,r,h0,h=>by
  simp only[List.forIn_nil,Zu,X2] at h
  subst h;exact h0
 |a::l,init,r,h0,h=>by
  rw[List.forIn_cons] at h
  simp only[ZE,YN] at h
  obtain⟨x,h1,h2⟩:=h
  have:=hs a init x h0 h1
  cases x with
  |done b=>simp only[Zu,X2] at h2;subst h2;exact this
  |yield b=>exact BP Inv f hs l b r this h2
section
variable {L:aB} {info:TypeId->Option TypeInfo}
theorem R9(hi:∀t i,info t=some i->lh L i){fs:Array Field}{i:TypeInfo}(h:Made.reckonStruct info fs=some i):lh L i:=by
 unfold Made.reckonStruct at h
 simp only[ZE,YN,Zu] at h
 obtain⟨r,h1,h2⟩:=h
 rw[←aah] at h1
 have key:=BP (λr=>∀a,r.2.2.2.2.2.2.2.1=some a->∀x∈a,∀π,VR L π x x) _ ?_ _ _ _ ?_ h1
 ·split at h2
  all_goals
   simp only[X2] at h2
   subst h2
   refine⟨λv hv π=>?_,λn u h=>by cases h⟩
   simp only[Yq] at hv
   obtain⟨a,ha,rfl⟩:=hv
   exact VR.xV λx hx=>key a ha x hx π
 ·intro f b s hb hf
  obtain⟨j,hj,hf⟩:=YN.1 hf
  have fin:∀(c:Prop) [Decidable c] (a:Array Value),(if c then none else b.2.2.2.2.2.2.2.1.bind λx=>j.zero.bind λy=>some (x++y.cells))=some a->∀x∈a,∀π,VR L π x x:=by
   intro c _ a h x hx π
   split at h
   ·cases h
   ·obtain⟨p,hp,h⟩:=YN.1 h
    obtain⟨z,hz,h⟩:=YN.1 h
    cases h
    rcases Array.mem_append.1 hx with hx|hx
    ·exact hb p hp x hx π
    ·exact ((hi _ _ hj).1 z hz π).BK x hx
  by_cases c1:j.str.isEmpty=true
  ·rw[AT c1] at hf;cases hf
  ·rw[AS c1] at hf
   by_cases c2:f.embedded=true
   ·rw[AT c2] at hf;cases hf
   ·rw[AS c2] at hf
    by_cases c3:f.tag.isEmpty=true
    ·rw[AT c3] at hf
     obtain⟨tg,_,hf⟩:=YN.1 hf
     split at hf<;>(cases hf;exact λa ha=>fin _ a ha)
    ·rw[AS c3] at hf
     obtain⟨tg,_,hf⟩:=YN.1 hf
     split at hf<;>(cases hf;exact λa ha=>fin _ a ha)
 ·intro a ha x hx
  simp only[X2] at ha
  subst ha
  simp at hx
theorem UH(hi:∀t i,info t=some i->lh L i){d:TypeDesc}{i:TypeInfo}(h:Made.reckon info d=some i):lh L i:=by
 have word:∀(d:TypeDesc) (s:String) (z:Value) (c:Bool) (b:Nat),(∀n u,d≠.named n u)->(∀π,VR L π z z)->lh L (Made.word d s z c b):=λd s z c b hd hz=>⟨λv hv π=>by
  have:some z=some v:=hv
  cases this
  exact hz π,λn u e=>absurd e (hd n u)⟩
 unfold Made.reckon at h
 cases d with
 |pointer e=>
  simp only[ZE,YN,Zu] at h
  obtain⟨j,_,h⟩:=h
  split at h
  ·cases h
  ·split at h
   ·cases h
   ·obtain⟨s,_,h⟩:=YN.1 h
    cases h
    exact word _ _ _ _ _ (λ_ _ h=>by cases h) λ_=> .bz
  ·obtain⟨s,_,h⟩:=YN.1 h
   cases h
   exact word _ _ _ _ _ (λ_ _ h=>by cases h) λ_=> .bz
 |slice e=>
  simp only[ZE,YN,Zu] at h
  obtain⟨_,_,_,_,h⟩:=h
  cases h
  exact word _ _ _ _ _ (λ_ _ h=>by cases h) λ_=> .iG _ _
 |map k e=>
  simp only[ZE,YN,Zu] at h
  obtain⟨_,_,_,_,_,_,_,_,h⟩:=h
  cases h
  exact word _ _ _ _ _ (λ_ _ h=>by cases h) λ_=> .lu
 |chan dir e=>
  simp only[ZE,YN,Zu] at h
  obtain⟨_,_,_,_,h⟩:=h
  cases h
  exact word _ _ _ _ _ (λ_ _ h=>by cases h) λ_=> .pe
 |func ps rs v=>
  simp only[ZE,YN,Zu] at h
  obtain⟨_,_,h⟩:=h
  cases h
  exact word _ _ _ _ _ (λ_ _ h=>by cases h) λ_=> .nilFunc
 |array n e=>
  simp only[ZE,YN,Zu] at h
  obtain⟨j,hj,s,_,h⟩:=h
  cases h
  refine⟨λv hv π=>?_,λn u h=>by cases h⟩
  simp only at hv
  split at hv
  ·cases hv
  ·split at hv
   ·cases hv
    exact VR.xV λx hx=>by simp at hx
   ·simp only[Yq] at hv
    obtain⟨z,hz,rfl⟩:=hv
    refine VR.xV λx hx=>?_
    obtain⟨y,hy,hx⟩:=Array.mem_flatten.1 hx
    have:y=z.cells:=by have:=Array.mem_replicate.1 hy;exact this.2
    subst this
    exact ((hi _ _ hj).1 z hz π).BK x hx
 |struct fs=>exact R9 hi h
 |_=>cases h
end
theorem D4{L:aB}{T:Tables}(h0:∀(t:Nat) i,T.types[t]? =some i->lh L i):∀(fuel:Nat) (t:TypeId) (i:TypeInfo),Made.infoAt T fuel t=some i->lh L i
 |0,t,i,h=>by cases h
 |n+1,t,i,h=>by
  unfold Made.infoAt at h
  split at h
  ·exact h0 t i h
  ·obtain⟨d,_,h⟩:=YN.1 h
   exact UH (D4 h0 n) h
theorem D9{L:aB}{T:Tables}(h0:∀(t:Nat) i,T.types[t]? =some i->lh L i){t:TypeId}{i:TypeInfo}(h:T.info? t=some i):lh L i:=by
 unfold Tables.info? at h
 split at h
 ·exact h0 t i h
 ·exact D4 h0 _ t i h
end
section
set_option maxRecDepth 100000
def pE:List Nat:=[3,4,5,6,7,8,9,10,11,12,13,14,15,16,17,18,19,20,21,22,23,24,25,26,27,28,29,30,31,32,33,34,35,36,37,38,39,40,41,42,43,44,45,46,47,48,49,50,51,52,53,54,55,56,57,58,59,60,61,62,63,64,65,66,67,68,69,70,71,72,73,74,75,76,77,78,79,80,81,82,83,84,85,86,87,92,93,94,95,96,97,98,99,100,101,102,103,104,105,106,107,108,109,110,111,112,113,114,115,116,117,136,137,138,139,140,141,142,143,144,145,146,152,153,154,155,156,157,158,159,160,161,162,163,164,165,166,167]
def vG:List Nat:=[28,48,49,66,70,71,72,82,85,86,87,93,94,95,96,97,115,116,117,136,137,143,144,152,153,154,155,156,157,158,159,160,163,164,165,166,167]
def Ie(f t:Nat):bE:=if (f==49 && t==7)||(f==71 && t==0)||(f==71 && t==4)||(f==72 && t==2)||(f==72 && t==3)||(f==95 && t==0)||(f==95 && t==3)||(f==136 && t==1)||(f==136 && t==6) then .dM else if (f==97 && t==0)||(f==97 && t==10) then .jF else if (f==55 && t==15)||(f==56 && t==9)||(f==74 && t==2)||(f==74 && t==42) then .loc else .any
def RN(f:Nat):bE:=if f==72 then .dM else .any
def WN:List (Nat×Nat):=[(48,180349),(49,11555102),(70,24625626428766142),(71,366),(72,2),(82,2),(85,2),(86,139290),(87,28),(93,11837),(94,393277),(95,22),(96,43),(97,36),(115,2),(116,2),(117,2),(136,7449),(137,170307336999878687074388026878641307889),(143,2),(144,3815880923),(152,468709937250361),(153,8629559964467385),(154,30706245946853818553),(155,20100446945977),(156,223690809),(157,9066177787099598164671015674677074854009),(158,12),(159,503706889378935270451441),(160,155890296660192168261890238920840095753930246804209),(163,30882309152275437715697),(164,8381),(165,2425394161),(166,2),(167,10048761)]
def NN(f t:Nat):Bool:=match WN.find? λp=>p.1==f with|some p=>p.2.testBit t|none=>false
def Te(f t:Nat):bE:=if (f==49 && t==7)||(f==71 && t==0)||(f==71 && t==4)||(f==72 && t==2)||(f==72 && t==3)||(f==95 && t==0)||(f==95 && t==3)||(f==136 && t==1)||(f==136 && t==6) then .dM else if (f==97 && t==0)||(f==97 && t==10) then .jF else if (f==136 && t==2) then .box else if NN f t then .own else .any
def Wy(f:Nat):bE:=if f==72 then .dM else if f==48||f==49||f==70||f==71||f==87||f==93||f==94||f==95||f==136||f==157 then .own else .any
def dR:aT:=⟨true,λf=>pE.contains f,λf=>f==28||f==66,λf=>f==97,λf=>f==75||f==76,fQ,1⟩
def hZ:aT:=⟨false,λf=>vG.contains f,λf=>f==28||f==66,λf=>f==97,λ_=>false,fQ,1⟩
def cG(J:String->Value):aB:=⟨λf=>dR.fb f=true,λf=>dR.cb f=true,λf=>dR.ib f=true,λf=>dR.lb f=true,J,Ie,RN,λf=>if f==fQ then some 3 else none⟩
def jf(J:String->Value):aB:=⟨λf=>hZ.fb f=true,λf=>hZ.cb f=true,λf=>hZ.ib f=true,λf=>hZ.lb f=true,J,Te,Wy,λ_=>none⟩
section
variable {J:String->Value}
def sX(P:Program)(L:aB)(T:aT)(f:Nat):Bool:=
 match P.funcs[f]? with
 |some fn=>(match fn.body with|some c=>dN P L T f c && ll L T f fn|none=>false) && !fn.norace && !(fn.name== "runtime.NumGoroutine")
 |none=>false
def qX(fn:Func):Bool:=fn.body.isSome && !fn.norace && !(fn.name== "runtime.NumGoroutine")
theorem FP:(pE.all λf=>f==fQ||sX Tryz.prog (cG J) dR f)=true:=by kernel_rfl
theorem LG:(vG.all λf=>f !=fQ && sX Tryz.prog (jf J) hZ f)=true:=by kernel_rfl
theorem Mm:(Tryz.prog.funcs[(fQ:Nat)]?).any qX=true/\qX nJ=true:=⟨by kernel_rfl,by kernel_rfl⟩
theorem Jl:fQ< Tryz.prog.funcs.size:=of_decide_eq_true (by kernel_rfl)
theorem yo{f:Nat}(h:f≠fQ):Gg[f]? =Tryz.prog.funcs[f]? :=by
 unfold Gg
 rw[Ye (λe=>h e.symm)]
theorem Dx:Gg[(fQ:Nat)]? =some nJ:=by
 unfold Gg
 rw[YT Jl]
section
variable {L:aB} {T:aT}
theorem Fs{f:Nat}(h:sX Tryz.prog L T f=true): ∃fn c,Tryz.prog.funcs[f]? =some fn/\fn.body=some c/\dN Tryz.prog L T f c=true/\ll L T f fn=true/\fn.norace=false/\(fn.name== "runtime.NumGoroutine")=false:=by
 unfold sX at h
 split at h
 ·rename_i fn hf
  simp only[IT,YZ] at h
  obtain⟨⟨h1,h2⟩,h3⟩:=h
  split at h1
  ·rename_i c hc
   simp only[IT] at h1
   exact⟨fn,c,hf,hc,h1.1,h1.2,h2,h3⟩
  ·cases h1
 ·cases h
end
theorem vH:∀f,(cG J).fn f->f≠dR.bI->∃fn c,Tryz.prog.funcs[f]? =some fn/\Gg[f]? =some fn/\fn.body=some c/\dN Tryz.prog (cG J) dR f c=true/\ll (cG J) dR f fn=true/\fn.norace=false/\(fn.name== "runtime.NumGoroutine")=false:=by
 intro f hf hn
 have hm:f∈pE:=by simpa[cG,dR] using hf
 have:=YY.1 (FP (J:=J)) f hm
 simp only[YF,ZC] at this
 obtain⟨fn,c,h1,h2,h3,h4,h5,h6⟩:=Fs (this.resolve_left hn)
 exact⟨fn,c,h1,by rw[yo hn];exact h1,h2,h3,h4,h5,h6⟩
theorem wN:∀f,(jf J).fn f->f≠fQ/\∃fn c,Tryz.prog.funcs[f]? =some fn/\Gg[f]? =some fn/\fn.body=some c/\dN Tryz.prog (jf J) hZ f c=true/\ll (jf J) hZ f fn=true/\fn.norace=false/\(fn.name== "runtime.NumGoroutine")=false:=by
 intro f hf
 have hm:f∈vG:=by simpa[jf,hZ] using hf
 have:=YY.1 (LG (J:=J)) f hm
 simp only[IT,bne_iff_ne] at this
 obtain⟨fn,c,h1,h2,h3,h4,h5,h6⟩:=Fs this.2
 exact⟨this.1,fn,c,h1,by rw[yo this.1];exact h1,h2,h3,h4,h5,h6⟩
def sT(c:Code):Bool:=(readies c).isEmpty
theorem Nj:((Tryz.prog.funcs.toList.all λf=>(f.body.map sT).getD true) && sT px)=true:=by kernel_rfl
theorem vf(g:Nat):Qg.stepOf g=none:=by
 unfold Program.stepOf
 rw[Array.findIdx?_eq_none_iff]
 intro fn hfn
 have key:∀c,fn.body=some c->readies c= []:=by
  have h:=Nj
  simp only[IT] at h
  intro c hc
  have hm:fn∈Gg:=hfn
  unfold Gg at hm
  rcases Array.mem_or_eq_of_mem_setIfInBounds hm with hm|rfl
  ·have:=YY.1 h.1 fn (by simpa using hm)
   rw[hc] at this
   simpa[sT] using this
  ·have:c=px:=by
    have e:nJ.body=some px:=rfl
    rw[e] at hc
    exact (YG hc).symm
   subst this
   simpa[sT] using h.2
 cases hb:fn.body with
 |none=>simp
 |some c=>simp[key c hb]
def qR:Nat->Value->Bool
 |0,_=>false
 |_+1,.bool _=>true
 |_+1,.int _ _=>true
 |_+1,.string _=>true
 |_+1,.pointer none=>true
 |_+1,.slice none _ _=>true
 |_+1,.map none=>true
 |_+1,.chan none=>true
 |_+1,.nilFunc=>true
 |_+1,.nilIface=>true
 |d+1,.agg c=>c.toList.all (qR d)
 |d+1,.tuple c=>c.toList.all (qR d)
 |_,_=>false
theorem tj{L:aB}{π:Nat->Nat->Prop}:∀(d:Nat) (v:Value),qR d v=true->VR L π v v
 |0,v,h=>by cases v<;>cases h
 |d+1,v,h=>by
  cases v with
  |bool b=>exact .bool b
  |int k n=>exact .int k n
  |string s=>exact .string s
  |pointer p=>cases p with
   |none=>exact .bz
   |some a=>cases h
  |slice p n c=>cases p with
   |none=>exact .iG n c
   |some a=>cases h
  |map m=>cases m with
   |none=>exact .lu
   |some a=>cases h
  |chan m=>cases m with
   |none=>exact .pe
   |some a=>cases h
  |nilFunc=>exact .nilFunc
  |nilIface=>exact .nilIface
  |agg c=>
   have:=VR.agg (L:=L) (π:=π) (c.map λx=>(x,x)) (λz hz=>by
    obtain⟨x,hx,rfl⟩:=YQ.1 hz
    exact tj d x (YY.1 h x (by simpa using hx)))
   simpa[Zh] using this
  |tuple c=>
   have:=VR.tuple (L:=L) (π:=π) (c.map λx=>(x,x)) (λz hz=>by
    obtain⟨x,hx,rfl⟩:=YQ.1 hz
    exact tj d x (YY.1 h x (by simpa using hx)))
   simpa[Zh] using this
  |_=>cases h
def DG(i:TypeInfo):Bool:=(match i.desc with| .named n _=>n != "sync.copyChecker" |_=>true) && (match i.zero with|some v=>qR 8 v|none=>true)
theorem Sl:(Tryz.prog.types.toList.all DG)=true:=by kernel_rfl
theorem Bc(L:aB)(t:Nat)(i:TypeInfo)(h:Tryz.prog.types[t]? =some i):lh L i:=by
 have:=YY.1 Sl i ((aao).2 (Y0 h))
 unfold DG at this
 refine⟨λv e π=>?_,λn u e=>?_⟩
 ·rw[e] at this
  simp only[IT] at this
  exact tj 8 v this.2
 ·rw[e] at this
  simp only[IT,bne_iff_ne] at this
  exact this.1
theorem p8(L:aB):(∀t i n u,Tryz.prog.info? t=some i->i.desc= .named n u->n≠ "sync.copyChecker")/\∀t i v,Tryz.prog.info? t=some i->i.zero=some v->∀π,VR L π v v:=
 ⟨λ_ _ n u h e=>(D9 (Bc L) h).2 n u e,λ_ _ v h e π=>(D9 (Bc L) h).1 v e π⟩
theorem lF:od (cG J) dR:=by
 refine⟨λf h=>h,λf h=>h,λf h=>h,λf h=>h,λf h=>?_,λf h=>?_,λf h=>?_,λf h=>?_⟩
 ·have:f=28\/f=66:=by simpa[cG,dR] using h
  rcases this with rfl|rfl<;>exact⟨rfl,λi=>rfl,rfl⟩
 ·have:f=75\/f=76:=by simpa[cG,dR] using h
  rcases this with rfl|rfl<;>exact⟨rfl,λi=>rfl,rfl⟩
 ·rcases h with h|h|h
  ·have:f=28\/f=66:=by simpa[cG,dR] using h
   rcases this with rfl|rfl<;>rfl
  ·have:f=97:=by simpa[cG,dR] using h
   subst this;rfl
  ·have:f=75\/f=76:=by simpa[cG,dR] using h
   rcases this with rfl|rfl<;>rfl
 ·have:f=97:=by simpa[cG,dR] using h
  subst this
  refine⟨rfl,rfl,λi hi=>?_,rfl⟩
  rcases (show i=1\/2<=i by omega) with rfl|h
  ·exact .inl rfl
  ·exact .inr h
theorem Gb:od (jf J) hZ:=by
 refine⟨λf h=>h,λf h=>h,λf h=>h,λf h=>h,λf h=>?_,λf h=>?_,λf h=>rfl,λf h=>?_⟩
 ·have:f=28\/f=66:=by simpa[jf,hZ] using h
  rcases this with rfl|rfl<;>exact⟨rfl,λi=>rfl,rfl⟩
 ·simp[jf,hZ] at h
 ·have:f=97:=by simpa[jf,hZ] using h
  subst this
  refine⟨rfl,rfl,λi hi=>?_,rfl⟩
  rcases (show i=1\/2<=i by omega) with rfl|h
  ·exact .inl rfl
  ·exact .inr h
theorem vE:Tryz.prog.follows .staticDataAhead=true:=by kernel_rfl
theorem wX:Let Tryz.prog Gg (cG J) dR:=by
 refine⟨λf hf hn=>?_,λf hf=>?_,lF,vE,vf⟩
 ·obtain⟨fn,c,h1,h2,h3,h4,h5,_⟩:=vH f hf hn
  exact⟨fn,c,h1,h2,h3,h4,h5⟩
 ·by_cases hn:f=fQ
  ·subst hn
   obtain⟨p1,p2⟩:=Mm
   have g: ∃fn,Tryz.prog.funcs[(fQ:Nat)]? =some fn/\qX fn=true:=by simpa[Option.any_eq_true] using p1
   obtain⟨fn,h1,h2⟩:=g
   have un:∀fn:Func,qX fn=true->(fn.name== "runtime.NumGoroutine")=false/\fn.body.isNone=false/\fn.norace=false:=λfn h=>by
    unfold qX at h
    simp only[IT,YZ] at h
    exact⟨h.2,by cases hb:fn.body<;>simp_all,h.1.2⟩
   exact⟨⟨fn,h1,un fn h2⟩,⟨nJ,Dx,un _ p2⟩⟩
  ·obtain⟨fn,c,h1,h2,h3,_,_,h6,h7⟩:=vH f hf hn
   exact⟨⟨fn,h1,h7,by rw[h3];rfl,h6⟩,⟨fn,h2,h7,by rw[h3];rfl,h6⟩⟩
theorem L7:Let Tryz.prog Gg (jf J) hZ:=by
 refine⟨λf hf hn=>?_,λf hf=>?_,Gb,vE,vf⟩
 ·obtain⟨_,fn,c,h1,h2,h3,h4,h5,_⟩:=wN f hf
  exact⟨fn,c,h1,h2,h3,h4,h5⟩
 ·obtain⟨_,fn,c,h1,h2,h3,_,_,h6,h7⟩:=wN f hf
  exact⟨⟨fn,h1,h7,by rw[h3];rfl,h6⟩,⟨fn,h2,h7,by rw[h3];rfl,h6⟩⟩
theorem tS:Tryz.prog.globals.size=1:=by kernel_rfl
theorem Bl:Stat Tryz.prog Gg (cG J) dR:=⟨tS,(p8 (cG J)).1,(p8 (cG J)).2,wX⟩
theorem GM:Stat Tryz.prog Gg (jf J) hZ:=⟨tS,(p8 (jf J)).1,(p8 (jf J)).2,L7⟩
theorem KB{Goal:Frame->List Frame->World->Prop}(hg:∀fr cs w,Goal fr cs w->cs= []/\fr.fn≠fQ)(D:List Frame):vD Pg Gg (cG J) dR D Goal:=by
 refine Ni (L1:=(cG J)) (T1:=dR) (L2:=(jf J)) (T2:=hZ) ⟨GM,rfl,rfl,?_,hg,?_,rfl⟩ ⟨rfl,rfl,rfl,?_,rfl,λf h=>h,λs=>rfl,tS.symm⟩ D
 ·intro h
  exact (wN _ h).1 rfl
 ·exact (by decide:hZ.fb 82=true)
 ·intro i hi
  rcases (show i=0\/i=1\/i=2 by omega) with rfl|rfl|rfl<;>rfl
end
end
section
def ig(w:World):Prop:=∀(r:Nat) d,w.heap[r]? =some (.deferred d)->d=none\/d=some []
theorem _root_.Go.Sem.tn{α:Type}(P:Program):∀(p:Sem α) (w:World) (es:Array Event) {h:Halt} {w1:World} {es1:Array Event},p.runT P w es=(.halt h w1,es1)->w.heap.size<=w1.heap.size:=by
 intro p
 induction p with
 |pure a=>intro w es h w1 es1 hr;cases hr
 |load m a k ih=>
  intro w es h w1 es1 hr
  rw[Sem.runT] at hr
  split at hr
  ·exact ih _ _ _ hr
  ·split at hr
   ·exact ih _ _ _ hr
   ·cases hr;exact AI _
 |store m a x k ih=>
  intro w es h w1 es1 hr
  by_cases h1: ∃c,x= .agg c
  ·obtain⟨c,rfl⟩:=h1;simp only[Sem.runT] at hr;cases hr;exact AI _
  by_cases h2: ∃c,x= .tuple c
  ·obtain⟨c,rfl⟩:=h2;simp only[Sem.runT] at hr;cases hr;exact AI _
  rw[Sem.runT.eq_5 _ _ _ _ _ _ _ (λc e=>h1 ⟨c,e⟩) (λc e=>h2 ⟨c,e⟩)] at hr
  split at hr
  ·split at hr
   ·cases hr;exact AI _
   ·have:=ih _ _ hr
    simpa[World.setCell] using this
  ·split at hr
   ·rename_i w' l he
    unfold World.farStore at he
    split at he
    ·split at he
     ·rename_i r hh
      cases he
      have h3:=Ag hh
      have:=ih _ _ hr
      rw[h3.1] at this
      exact this
     ·cases he
    ·cases he
   ·cases hr;exact AI _
 |new o k ih=>
  intro w es h w1 es1 hr
  have:=ih _ _ _ hr
  simp only[Zz] at this
  omega
 |shape r k ih=>intro w es h w1 es1 hr;exact ih _ _ _ hr
 |freeze a n k ih=>
  intro w es h w1 es1 hr
  have:=ih _ _ hr
  have h2:(w.freeze a n).heap.size=w.heap.size:=by unfold World.freeze;split<;>simp
  rw[h2] at this
  exact this
 |frozen a k ih=>intro w es h w1 es1 hr;exact ih _ _ _ hr
 |getObj r k ih=>
  intro w es h w1 es1 hr
  rw[Sem.runT] at hr
  split at hr
  ·cases hr;exact AI _
  ·exact ih _ _ _ hr
  ·cases hr;exact AI _
 |setObj r o k ih=>
  intro w es h w1 es1 hr
  rw[Sem.runT] at hr
  split at hr
  ·cases hr;exact AI _
  ·have:=ih _ _ hr
   simpa using this
  ·cases hr;exact AI _
 |choose q k ih=>
  intro w es h w1 es1 hr
  rw[Sem.runT] at hr
  split at hr
  ·exact ih _ _ _ hr
  ·have:=ih _ _ _ hr
   exact this
 |sys c k ih=>
  intro w es h w1 es1 hr
  have:=ih _ _ _ hr
  rw[(vU w c).1] at this
  exact this
 |program k ih=>intro w es h w1 es1 hr;exact ih _ _ _ hr
 |mark m k ih=>intro w es h w1 es1 hr;exact ih _ _ hr
 |halt h=>intro w es h w1 es1 hr;cases hr;exact AI _
section
variable {P:Program} {G:Array Func} {L:aB} {C:FuncId->Code->Prop} {τ:ai} {k₀:Kd} {N:Nat}
theorem ig.modify{w:World}(h:ig w){r:Nat}{f:Obj->Obj}(hf:∀o d,w.heap[r]? =some o->f o= .deferred d->d=none\/d=some []):ig {w with heap:=w.heap.modify r f}:=by
 intro r' d hd
 simp only[Yz] at hd
 split at hd
 ·rename_i e
  subst e
  obtain⟨o,ho,he⟩:=Yq.1 hd
  exact hf o d ho he
 ·exact h r' d hd
theorem CE(w:World)(a:Addr)(s:String):l8 (w.noCell a s):=by
 unfold World.noCell
 split<;>trivial
theorem AJ{w:World}{a:Addr}(ho:∀o,w.heap[a.block]? =some o->cQ L τ o)(b:Bool): ∃h,w.farLoad P a b= .error h/\l8 h:=by
 unfold World.farLoad
 split
 ·rename_i he
  rcases ho _ he with ⟨q,hq⟩|⟨_,_,_,hq⟩<;>cases hq
 ·exact⟨_,rfl,CE _ _ _⟩
theorem zm{w:World}{a:Addr}{x:Value}(ho:∀o,w.heap[a.block]? =some o->cQ L τ o)(b:Bool): ∃h,w.farStore P a x b= .error h/\l8 h:=by
 unfold World.farStore
 split
 ·rename_i he
  rcases ho _ he with ⟨q,hq⟩|⟨_,_,_,hq⟩<;>cases hq
 ·exact⟨_,rfl,CE _ _ _⟩
theorem ae.UX(hb:Fit τ){α β:Type}{R:α->β->Prop}{p:Sem α}{q:Sem β}(h:ae P G L C τ k₀ R p q):
  ∀(w v:World) (es:Array Event) (hh:Halt) (w1:World) (es1:Array Event),Sync L C τ k₀ N w v->ig w->p.runT (gp P G) w es=(.halt hh w1,es1)->w1.heap.size<=N->(∀r s,τ.un r s->r< N)->l8 hh/\ig w1:=by
 induction h with
 |pure hR=>intro w v es hh w1 es1 _ _ hr _ _;cases hr
 |@load a b k l hab _ ih=>
  intro w v es hh w1 es1 hs hd hr hN hpn
  rw[Sem.runT] at hr
  cases hc:w.cell? a with
  |none=>
   obtain⟨hx,he,ht⟩:=AJ (P:=gp P G) (L:=L) (τ:=τ) (hs.known (.inl hab.1)) (Mode.plain== .atomic)
   rw[hc] at hr
   simp only[he] at hr
   cases hr
   exact⟨ht,hd⟩
  |some y=>
   rw[hc] at hr
   obtain⟨z,hz,hyz⟩:=hs.cell hab hc
   exact ih y z hyz w v _ hh w1 es1 hs hd hr hN hpn
 |@nQ a b k l hab _ ih=>
  intro w v es hh w1 es1 hs hd hr hN hpn
  rw[Sem.runT] at hr
  cases hc:w.cell? a with
  |none=>
   obtain⟨hx,he,ht⟩:=AJ (P:=gp P G) (L:=L) (τ:=τ) (hs.known (.inr hab.1)) (Mode.plain== .atomic)
   rw[hc] at hr
   simp only[he] at hr
   cases hr
   exact⟨ht,hd⟩
  |some y=>
   rw[hc] at hr
   obtain⟨z,hz,hyz⟩:=hs.xd hab hc
   exact ih y z hyz w v _ hh w1 es1 hs hd hr hN hpn
 |@store a b x y k l hab hxy _ ih=>
  intro w v es hh w1 es1 hs hd hr hN hpn
  by_cases h1: ∃c,x= .agg c
  ·obtain⟨c,rfl⟩:=h1;simp only[Sem.runT] at hr;cases hr;exact⟨trivial,hd⟩
  by_cases h2: ∃c,x= .tuple c
  ·obtain⟨c,rfl⟩:=h2;simp only[Sem.runT] at hr;cases hr;exact⟨trivial,hd⟩
  rw[Sem.runT.eq_5 _ _ _ _ _ _ _ (λc e=>h1 ⟨c,e⟩) (λc e=>h2 ⟨c,e⟩)] at hr
  cases hc:w.cell? a with
  |none=>
   obtain⟨hx,he,ht⟩:=zm (P:=gp P G) (L:=L) (τ:=τ) (x:=x) (hs.known (.inl (hb.own _ _ hab.1))) (Mode.plain== .atomic)
   rw[hc] at hr
   simp only[he] at hr
   cases hr
   exact⟨ht,hd⟩
  |some y0=>
   rw[hc] at hr
   obtain⟨hsp,_⟩:=q9 hc
   by_cases hfz:w.frozen? a=true
   ·simp only[hfz,XZ] at hr;cases hr;exact⟨trivial,hd⟩
   ·simp only[hfz,Yd,Yb] at hr
    refine ih _ _ _ hh w1 es1 (hs.stored hb hab hsp hxy) ?_ hr hN hpn
    refine hd.modify λo d ho he=>?_
    cases o<;>simp only at he<;>first|cases he|skip
    exact hd _ d ho
 |@oo a b x y k l hab hxy _ ih=>
  intro w v es hh w1 es1 hs hd hr hN hpn
  by_cases h1: ∃c,x= .agg c
  ·obtain⟨c,rfl⟩:=h1;simp only[Sem.runT] at hr;cases hr;exact⟨trivial,hd⟩
  by_cases h2: ∃c,x= .tuple c
  ·obtain⟨c,rfl⟩:=h2;simp only[Sem.runT] at hr;cases hr;exact⟨trivial,hd⟩
  rw[Sem.runT.eq_5 _ _ _ _ _ _ _ (λc e=>h1 ⟨c,e⟩) (λc e=>h2 ⟨c,e⟩)] at hr
  cases hc:w.cell? a with
  |none=>
   obtain⟨hx,he,ht⟩:=zm (P:=gp P G) (L:=L) (τ:=τ) (x:=x) (hs.known (.inr hab.1)) (Mode.plain== .atomic)
   rw[hc] at hr
   simp only[he] at hr
   cases hr
   exact⟨ht,hd⟩
  |some y0=>
   rw[hc] at hr
   obtain⟨hsp,_⟩:=q9 hc
   by_cases hfz:w.frozen? a=true
   ·simp only[hfz,XZ] at hr;cases hr;exact⟨trivial,hd⟩
   ·simp only[hfz,Yd,Yb] at hr
    refine ih _ _ _ hh w1 es1 (hs.boxed hb hab hsp hxy) ?_ hr hN hpn
    refine hd.modify λo d ho he=>?_
    cases o<;>simp only at he<;>first|cases he|skip
    exact hd _ d ho
 |@new o q k l hk ho _ ih=>
  intro w v es hh w1 es1 hs hd hr hN hpn
  rw[Sem.runT] at hr
  have hg:=Sem.tn (gp P G) _ _ _ hr
  simp only[Zz] at hg
  have hp:τ.own w.heap.size v.heap.size:=by have:=hs.next (by omega);rw[hk] at this;exact this
  refine ih _ _ hp _ _ _ hh w1 es1 (hs.push hb (by omega) (KR.mr hb (hb.own _ _ hp) ho)) ?_ hr hN hpn
  intro r d hx
  simp only[YH] at hx
  split at hx
  ·cases hx
   cases ho
  ·exact hd r d hx
 |@oO xs ys e f k l hk ho _ ih=>
  intro w v es hh w1 es1 hs hd hr hN hpn
  rw[Sem.runT] at hr
  have hg:=Sem.tn (gp P G) _ _ _ hr
  simp only[Zz] at hg
  have hp:τ.box w.heap.size v.heap.size:=by have:=hs.next (by omega);rw[hk] at this;exact this
  refine ih _ _ hp _ _ _ hh w1 es1 (hs.push hb (by omega) (KR.ud (e:=e) (f:=f) hb hp ho)) ?_ hr hN hpn
  intro r d hx
  simp only[YH] at hx
  split at hx
  ·cases hx
  ·exact hd r d hx
 |@oE o q k l hk ho _ ih=>
  intro w v es hh w1 es1 hs hd hr hN hpn
  rw[Sem.runT] at hr
  have hg:=Sem.tn (gp P G) _ _ _ hr
  simp only[Zz] at hg
  have hp:τ.lp w.heap.size v.heap.size:=by have:=hs.next (by omega);rw[hk] at this;exact this
  refine ih _ _ hp _ _ _ hh w1 es1 (hs.push hb (by omega) (KR.rK hb hp ho)) ?_ hr hN hpn
  intro r d hx
  simp only[YH] at hx
  split at hx
  ·cases hx
   cases ho with
   |deferred hdd=>exact hdd
  ·exact hd r d hx
 |@oF r s k l hrs _ ih=>
  intro w v es hh w1 es1 hs hd hr hN hpn
  rw[Sem.runT] at hr
  cases hc:w.heap[r]? with
  |none=>rw[hc] at hr;cases hr;exact⟨trivial,hd⟩
  |some o=>
   obtain⟨o',q,h1,h2,h3⟩:=hs.loops r s hrs (IN.1 hc).1
   rw[hc] at h1;cases h1
   rw[hc] at hr
   have h3':=h3
   cases h3 with
   |_=>exact ih _ _ h3' w v _ hh w1 es1 hs hd hr hN hpn
 |@og r s o q k l hrs ho _ ih=>
  intro w v es hh w1 es1 hs hd hr hN hpn
  rw[Sem.runT] at hr
  cases hc:w.heap[r]? with
  |none=>rw[hc] at hr;cases hr;exact⟨trivial,hd⟩
  |some o0=>
   obtain⟨o',q0,h1,h2,h3⟩:=hs.loops r s hrs (IN.1 hc).1
   rw[hc] at h1;cases h1
   rw[hc] at hr
   rw[nY] at hr
   have hd1:ig {w with heap:=w.heap.modify r λ_=>o}:=hd.modify λ_ d _ he=>by
    subst he
    cases ho with
    |deferred hdd=>exact hdd
   have hs1:Sync L C τ k₀ N {w with heap:=w.heap.modify r λ_=>o} {v with heap:=v.heap.modify s λ_=>q}:=hs.turn hb (ai.qp hrs) λ_ _ _=>KR.rK hb hrs ho
   cases h3 with
   |_=>exact ih _ _ _ hh w1 es1 hs1 hd1 hr hN hpn
 |@shape r s k l hrs _ ih=>intro w v es hh w1 es1 hs hd hr hN hpn;exact ih _ w v es hh w1 es1 hs hd hr hN hpn
 |@freeze a b n k l hab _ ih=>
  intro w v es hh w1 es1 hs hd hr hN hpn
  refine ih _ _ _ hh w1 es1 (hs.froze hb hab n) ?_ hr hN hpn
  unfold World.freeze
  split
  ·exact hd
  ·refine hd.modify λo d ho he=>?_
   cases o<;>simp only at he<;>first|cases he|skip
   exact hd _ d ho
 |@frozen a b k l hab _ ih=>intro w v es hh w1 es1 hs hd hr hN hpn;exact ih _ w v es hh w1 es1 hs hd hr hN hpn
 |@getObj r s k l hrs _ ih=>
  intro w v es hh w1 es1 hs hd hr hN hpn
  rw[Sem.runT] at hr
  cases hc:w.heap[r]? with
  |none=>rw[hc] at hr;cases hr;exact⟨trivial,hd⟩
  |some o=>
   obtain⟨o',q,h1,h2,h3⟩:=hs.obj r s hrs (IN.1 hc).1
   rw[hc] at h1;cases h1
   rw[hc] at hr
   have h3':=h3
   cases h3 with
   |cells e f hx=>cases hr;exact⟨trivial,hd⟩
   |_=>exact ih _ _ h3' w v _ hh w1 es1 hs hd hr hN hpn
 |@setObj r s o q k l hrs ho hnc _ ih=>
  intro w v es hh w1 es1 hs hd hr hN hpn
  rw[Sem.runT] at hr
  cases hc:w.heap[r]? with
  |none=>rw[hc] at hr;cases hr;exact⟨trivial,hd⟩
  |some o0=>
   obtain⟨o',q0,h1,h2,h3⟩:=hs.obj r s (hb.own _ _ hrs) (IN.1 hc).1
   rw[hc] at h1;cases h1
   rw[hc] at hr
   rw[nY] at hr
   have hd1:ig {w with heap:=w.heap.modify r λ_=>o}:=hd.modify λ_ d _ he=>by
    subst he
    cases ho
   have hs1:Sync L C τ k₀ N {w with heap:=w.heap.modify r λ_=>o} {v with heap:=v.heap.modify s λ_=>q}:=hs.turn hb (.inl (hb.own _ _ hrs)) λ_ _ _=>KR.mr hb (hb.own _ _ hrs) ho
   cases h3 with
   |cells e f hx=>cases hr;exact⟨trivial,hd⟩
   |_=>exact ih _ _ _ hh w1 es1 hs1 hd1 hr hN hpn
 |@choose qq k l _ ih=>
  intro w v es hh w1 es1 hs hd hr hN hpn
  rw[Sem.runT] at hr
  by_cases hf:qq.forced=true
  ·simp only[hf,XZ] at hr
   exact ih 0 w v es hh w1 es1 hs hd hr hN hpn
  ·simp only[hf,Yd,Yb] at hr
   exact ih _ {w with drawn:=w.drawn+1} v _ hh w1 es1 ⟨hs.held,hs.mQ⟩ hd hr hN hpn
 |program _ ih=>intro w v es hh w1 es1 hs hd hr hN hpn;exact ih w v es hh w1 es1 hs hd hr hN hpn
 |ou _ ih=>intro w v es hh w1 es1 hs hd hr hN hpn;exact ih w v es hh w1 es1 hs hd hr hN hpn
 |noRoom _ ih=>intro w v es hh w1 es1 hs hd hr hN hpn;exact ih w v _ hh w1 es1 hs hd hr hN hpn
 |af qq hx=>
  intro w v es hh w1 es1 hs hd hr hN hpn
  obtain⟨h2,w2,es2,e,ht,hk⟩:=hx w es
  rw[e] at hr
  cases hr
  exact⟨ht,λr d hx=>hd r d (hk r d hx)⟩
end
end
end Go.Proofs.YtldmcdeibiclkaaGreatDoor.U
