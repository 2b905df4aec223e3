/-
  Toward causal_holds: THE POOL's MACHINE: the starter closes the channel; WHATEVER the starter does; the pool RU
-/
import Derived.Test.YtldmcdeibiclkaaGreatDoorC12
set_option linter.unusedVariables false
set_option linter.unusedSimpArgs false
set_option maxRecDepth 100000
set_option maxHeartbeats 20000000
namespace Go.Proofs.YtldmcdeibiclkaaGreatDoor.U
section
open Go.Conc
open Go.ConcN (upd upd_same upd_ne sumTo sumTo_upd sumTo_congr sumTo_le le_sumTo RelBy)
section
variable {L:aB} {T:aT} {Goal:Frame->List Frame->World->Prop} {X:PC L}
def jX:Wk->Wk
 | .dh xs=> .woken xs
 |σ=>σ
theorem nC(σ:Wk):(jX σ).cnt=σ.cnt/\(jX σ).bJ=σ.bJ/\(jX σ).rel=σ.rel/\(jX σ).parked=false/\(jX σ).ah<=σ.ah+1/\((jX σ).ah<=7->σ.ah<=7)/\(σ.ah=0\/4<=σ.ah->(jX σ).ah=0\/4<=(jX σ).ah):=by
 cases σ<;>simp[jX,Wk.cnt,Wk.bJ,Wk.rel,Wk.parked,Wk.ah]
theorem Fb{f g:Nat->Nat}:∀{j:Nat},(∀k,k< j->f k<=g k+1)->sumTo j f<=sumTo j g+j
 |0,_=>AI _
 |j+1,h=>by
  have h1:=Fb (f:=f) (g:=g) (j:=j) λk hk=>h k (by omega)
  have h2:=h j (by omega)
  simp only[sumTo]
  omega
theorem VZ(O:aP T Goal X){s:PS}{gs:Array Goroutine}{v:World}{sl:Option (Nat×Nat)}{t:Trace}(H:PI T Goal X s gs v t){h:Goroutine}(h0:gs[0]? =some h)(hm:bY X h s.mt){xs:Nat->Value}(hmt:s.mt= .cl xs):bA T Goal X s gs v sl t 0:=by
 rw[hmt] at hm
 have hgl:h=_:=hm
 subst hgl
 have hn0:=O.n0
 have b1:=O.bT;have b2:=O.cN;have b3:=O.bN;have b4:=O.cB;have b5:=O.bB;have b6:=O.wg
 obtain⟨a1,a2,a3,a4⟩:=iU H.wg (by rw[hmt];rfl)
 rw[hmt] at a2
 have a2':s.st=s.c*aM:=a2
 have hcN:=H.wd.cN
 have hsh:s.mt.shut=false:=by rw[hmt];rfl
 have hst:s.mt.bu X=X.E.n:=by rw[hmt];rfl
 rw[hsh,hst] at hcN
 have hcl:X.M.cN< v.heap.size:=by have:=H.wd.size;omega
 have hon:s.j=X.nW:=by rw[H.ac.on,hmt];rfl
 have hnW:=O.nW
 let v1:World:={v with heap:=v.heap.setIfInBounds X.M.cN (.chan X.E.n (s.bZ.map X.num).toArray true X.E.n s.rN false)}
 have c1:v1.heap.size=v.heap.size:=by simp[v1]
 have c2:v1.heap[X.M.cN]? =some (.chan X.E.n (s.bZ.map X.num).toArray true X.E.n s.rN false):=by simp[v1,hcl]
 have c3:∀b,b≠X.M.cN->v1.heap[b]? =v.heap[b]? :=λb hb=>by simp[v1,Ye (Ne.symm hb)]
 have e:=aI.value (AO X.M xs X.ds X.E.n) (L8 X.M xs X.ds X.E.n X.E.n (s.bZ.map X.num).toArray X.E.n s.rN false) (w:=v) (w':=v1) (es:=#[⟨.obj X.M.cN,false,true⟩,⟨.obj X.M.cN,true,true⟩]) ⟨hcN,rfl,⟨_,hcN,rfl⟩,rfl,rfl⟩
 rw[Tn,Cy] at e
 have hrun:=runT_crowd_go (P:=Pg) (sl:=sl) (i:=0) h0 (show stepG Pg (0==0) (jo X.M xs X.ds X.E.n) v=_ from e)
 have aA:∀i b,i< s.j->s.ow i b->b≠X.M.cN:=λi b hi hb h=>by have:=(H.tr.own i b hi hb).1;omega
 let s':PS:={s with mt:= .wd 7 xs,ws:=λk=>jX (s.ws k)}
 have hw:∀k,s'.ws k=jX (s.ws k):=λ_=>rfl
 have hc:s'.c=s.c:=sumTo_congr λk _=>(nC (s.ws k)).1
 have hsz:=H.gs.size
 have hM':bY X (fA (jo X.M xs X.ds X.E.n) ((jo X.M xs X.ds X.E.n).frame.finish unit)) (.wd 7 xs):=by
  have h1:=(FY X.M xs X.ds X.E.n).aD
  rw[Se] at h1
  exact h1.trans (PD _ _ _).aD
 have hdf:∀i,i≠0->Deaf (t++MemOp.ofEvents 0 (jo X.M xs X.ds X.E.n).frame.fn (jo X.M xs X.ds X.E.n).frame.place #[⟨.obj X.M.cN,false,true⟩,⟨.obj X.M.cN,true,true⟩]) i=Deaf t i:=λi hi=>Deaf_other t (Ne.symm hi) _ λop ag=>ofEvents_g ag
 refine⟨s',_,v1,_,hrun,⟨?_,?_,?_,?_,?_⟩,.inl ?_⟩
 ·refine⟨by simp[hsz,s'],⟨_,by rw[YT (by simp;omega)],hM'⟩,λk hk=>?_,λk g hk bd hg=>?_,λk hk=>?_⟩
  ·rw[hdf _ (by omega),hw]
   obtain⟨g,hg,hW⟩:=H.gs.work k hk
   have hW1:=hW.me (v2:=v1) (by rw[c1];exact AI _) (by
    rintro b (⟨r,hr⟩|hb)
    ·exact c3 b (by have:=(O.K.cf r b hr).2;omega)
    ·exact c3 b (aA k b hk hb))
   rcases hW.status with ⟨hp,_⟩|⟨ys,hx,rfl⟩
   ·refine⟨g,?_,?_⟩
    ·rw[Ye (by omega),YL,hg]
     simp only[YO]
     rw[hW.woken _ _ (λh=>by rw[hp] at h;cases h)]
    ·have:jX (s.ws k)=s.ws k:=by cases hσ:s.ws k<;>first|rfl|(rw[hσ] at hp;cases hp)
     rw[this]
     exact hW1
   ·refine⟨{jD X ys with status:= .running},?_,?_⟩
    ·rw[Ye (by omega),YL,hg]
     simp only[YO,X2]
     unfold Go.Conc.woken
     rw[Mp,AT (by rfl)]
     unfold jD
     rw[rG]
     exact again_recv_closed c2
    ·rw[hx] at hW ⊢
     exact⟨rfl,hW.2⟩
  ·rw[hdf _ (by omega)]
   rw[Ye (by omega),YL] at hg
   obtain⟨y,hy,rfl⟩:=Yq.1 hg
   have hq:=H.gs.jP k y hk bd hy
   rw[woken_quitsD hq]
   exact hq
  ·simp at hk
   rw[hdf k (by omega)]
   exact H.gs.above k hk
 ·refine⟨⟨by rw[c1];exact H.wd.old.1,λb hb'=>by rw[c3 b (by omega)];exact H.wd.old.2 b hb'⟩,by rw[c1];exact H.wd.size,?_,?_,?_,c2,?_,?_,H.wd.tape,H.wd.os,H.wd.output⟩
  ·rw[c3 _ (by omega)];exact H.wd.bT
  ·rw[c3 _ (by omega)];exact H.wd.bN
  ·rw[c3 _ (by omega)];exact H.wd.bB
  ·obtain⟨sB,hB⟩:=H.wd.cB;exact⟨sB,by rw[c3 _ (by omega)];exact hB⟩
  ·rw[c3 _ (by omega)];exact H.wd.wg
 ·have hgot:=H.ac.kQ
  have hcount:=H.ac.count
  rw[hst] at hgot hcount
  refine⟨hon,AI _,hgot,λm hm=>?_,?_,H.ac.ew,H.ac.okB,λk hk hp=>?_,λk hk hr=>?_⟩
  ·rcases H.ac.cover m (by rw[hst];exact hm) with h|h|⟨k',h1,h2⟩
   ·exact .inl h
   ·exact .inr (.inl h)
   ·exact .inr (.inr ⟨k',h1,by rw[hw,(nC _).2.1];exact h2⟩)
  ·show s.bZ.length+sumTo s.j (λk=>if (s'.ws k).bJ.isSome then 1 else 0)+s.cX.length<=X.E.n
   rw[sumTo_congr (g:=λk=>if (s.ws k).bJ.isSome then 1 else 0) λk _=>by rw[hw,(nC _).2.1]]
   exact hcount
  ·rw[hw,(nC _).2.2.2.1] at hp;cases hp
  ·rw[hw] at hr
   have:=(H.ac.gone k hk ((nC _).2.2.2.2.2.1 hr)).1
   rw[hsh] at this;cases this
 ·refine .opn rfl (λk hk=>?_) ?_ a3 (λk n xs ys h=>by cases h)
  ·rw[hw];exact (nC _).2.2.2.2.2.2 (a1 k hk)
  ·show s.st=(s'.c+0)*aM
   rw[hc];exact a2'
 ·refine H.tr.step O (s':=s') (.inl rfl) rfl (by rw[c1];exact AI _) (λi b hi hb=> .inl hb) H.wd.size (λe he a ha=>?_) (λe he=>?_) (λk hk hr=>?_) (λe he=>?_) (by simp only[XZ];rw[H.tr.d0,hmt];rfl) (λn xs h=>by cases h)
  ·simp at he
   rcases he with rfl|rfl
   ·simp only[MemAct.ofEvent,MemAct.touch?,X2] at ha
    subst ha
    refine⟨rfl,λb hb=>?_⟩
    simp only[blk,X2] at hb
    subst hb
    exact .inr (.inr ⟨.inr (.inl rfl),by simp,by simp⟩)
   ·simp[MemAct.ofEvent,MemAct.touch?] at ha
  ·simp at he
   rw[c1]
   rcases he with rfl|rfl<;>exact hcl
  ·rw[hw,(nC _).2.2.1] at hr
   exact vK H.tr (λop ag=>ofEvents_g ag) hk (by omega) hr
  ·simp at he
   rcases he with rfl|rfl<;>simp
 ·have h1:=Fb (f:=λk=>(s'.ws k).ah) (g:=λk=>(s.ws k).ah) (j:=s.j) λk _=>(nC (s.ws k)).2.2.2.2.1
  show (Mt.wd 7 xs).ah s'.c+sumTo s.j (λk=>(s'.ws k).ah)+12*s'.c+60*(X.E.n - s.rN)< s.mt.ah s.c+sumTo s.j (λk=>(s.ws k).ah)+12*s.c+60*(X.E.n - s.rN)
  rw[hc,hmt]
  simp only[Mt.ah]
  omega
theorem UL(O:aP T Goal X){s:PS}{gs:Array Goroutine}{v:World}{sl:Option (Nat×Nat)}{t:Trace}(H:PI T Goal X s gs v t)(hfin:∀n xs,s.mt= .fin n xs->False){h:Goroutine}(h0:gs[0]? =some h)(hrun:h.status= .running):bA T Goal X s gs v sl t 0:=by
 obtain⟨h',h0',hm⟩:=H.gs.main
 rw[h0] at h0'
 cases h0'
 cases hmt:s.mt with
 |ef i n xs=>
  cases n with
  |zero=>exact Wp O H h0 hm hmt
  |succ n=>
   rw[hmt] at hm
   rcases hm.1.dG with ⟨hx,_⟩|⟨m,g1,hx,hst,hgl⟩
   ·cases hx
   ·cases hx;exact fO O H h0 hst (mt':= .ef i n xs) ⟨hgl,hm.2⟩ (by rw[hmt];exact⟨λ_=>rfl,rfl,rfl,rfl,rfl,rfl,rfl,rfl,rfl,(λ_ _ _ _ hx=>by cases hx),(λ_ _ hx=>by cases hx)⟩) (by rw[hmt];rfl)
 |add i n xs=>
  cases n with
  |zero=>exact T8 O H h0 hm hmt
  |succ n=>
   rw[hmt] at hm
   rcases hm.1.dG with ⟨hx,_⟩|⟨m,g1,hx,hst,hgl⟩
   ·cases hx
   ·cases hx;exact fO O H h0 hst (mt':= .add i n xs) ⟨hgl,hm.2⟩ (by rw[hmt];exact⟨λ_=>rfl,rfl,rfl,rfl,rfl,rfl,rfl,rfl,rfl,(λ_ _ _ _ hx=>by cases hx),(λ_ _ hx=>by cases hx)⟩) (by rw[hmt];rfl)
 |cv i n xs=>
  cases n with
  |zero=>exact GI O H h0 hm hmt
  |succ n=>
   rw[hmt] at hm
   rcases hm.1.dG with ⟨hx,_⟩|⟨m,g1,hx,hst,hgl⟩
   ·cases hx
   ·cases hx;exact fO O H h0 hst (mt':= .cv i n xs) ⟨hgl,hm.2⟩ (by rw[hmt];exact⟨λ_=>rfl,rfl,rfl,rfl,rfl,rfl,rfl,rfl,rfl,(λ_ _ _ _ hx=>by cases hx),(λ_ _ hx=>by cases hx)⟩) (by rw[hmt];rfl)
 |rd i xs=>exact GH O H h0 hm hmt
 |en1 i n xs=>
  cases n with
  |zero=>exact SE O H h0 hm hmt
  |succ n=>
   rw[hmt] at hm
   rcases hm.1.dG with ⟨hx,_⟩|⟨m,g1,hx,hst,hgl⟩
   ·cases hx
   ·cases hx;exact fO O H h0 hst (mt':= .en1 i n xs) ⟨hgl,hm.2⟩ (by rw[hmt];exact⟨λ_=>rfl,rfl,rfl,rfl,rfl,rfl,rfl,rfl,rfl,(λ_ _ _ _ hx=>by cases hx),(λ_ _ hx=>by cases hx)⟩) (by rw[hmt];rfl)
 |en i n k xs=>
  cases n with
  |zero=>exact QS O H h0 hm hmt
  |succ n=>
   rw[hmt] at hm
   rcases hm.1.dG with ⟨hx,_⟩|⟨m,g1,hx,hst,hgl⟩
   ·cases hx
   ·cases hx;exact fO O H h0 hst (mt':= .en i n k xs) ⟨hgl,hm.2⟩ (by rw[hmt];exact⟨λ_=>rfl,rfl,rfl,rfl,rfl,rfl,rfl,rfl,rfl,(λ_ _ _ _ hx=>by cases hx),(λ_ _ hx=>by cases hx)⟩) (by rw[hmt];rfl)
 |go i n xs=>
  cases n with
  |zero=>exact Jy O H h0 hm hmt
  |succ n=>
   rw[hmt] at hm
   rcases hm.1.dG with ⟨hx,_⟩|⟨m,g1,hx,hst,hgl⟩
   ·cases hx
   ·cases hx;exact fO O H h0 hst (mt':= .go i n xs) ⟨hgl,hm.2⟩ (by rw[hmt];exact⟨λ_=>rfl,rfl,rfl,rfl,rfl,rfl,rfl,rfl,rfl,(λ_ _ _ _ hx=>by cases hx),(λ_ _ hx=>by cases hx)⟩) (by rw[hmt];rfl)
 |ld j n xs=>
  cases n with
  |zero=>exact Ti O H h0 hm hmt
  |succ n=>
   rw[hmt] at hm
   rcases hm.1.dG with ⟨hx,_⟩|⟨m,g1,hx,hst,hgl⟩
   ·cases hx
   ·cases hx;exact fO O H h0 hst (mt':= .ld j n xs) ⟨hgl,hm.2⟩ (by rw[hmt];exact⟨λ_=>rfl,rfl,rfl,rfl,rfl,rfl,rfl,rfl,rfl,(λ_ _ _ _ hx=>by cases hx),(λ_ _ hx=>by cases hx)⟩) (by rw[hmt];rfl)
 |sd j n xs=>
  cases n with
  |zero=>exact SU O H h0 hm hmt
  |succ n=>
   rw[hmt] at hm
   rcases hm.1.dG with ⟨hx,_⟩|⟨m,g1,hx,hst,hgl⟩
   ·cases hx
   ·cases hx;exact fO O H h0 hst (mt':= .sd j n xs) ⟨hgl,hm.2⟩ (by rw[hmt];exact⟨λ_=>rfl,rfl,rfl,rfl,rfl,rfl,rfl,rfl,rfl,(λ_ _ _ _ hx=>by cases hx),(λ_ _ hx=>by cases hx)⟩) (by rw[hmt];rfl)
 |lc n xs=>
  cases n with
  |zero=>exact Oh O H h0 hm hmt
  |succ n=>
   rw[hmt] at hm
   rcases aH.dG hm with ⟨hx,_⟩|⟨m,g1,hx,hst,hgl⟩
   ·cases hx
   ·cases hx;exact fO O H h0 hst (mt':= .lc n xs) hgl (by rw[hmt];exact⟨λ_=>rfl,rfl,rfl,rfl,rfl,rfl,rfl,rfl,rfl,(λ_ _ _ _ hx=>by cases hx),(λ_ _ hx=>by cases hx)⟩) (by rw[hmt];rfl)
 |cl xs=>exact VZ O H h0 hm hmt
 |wd n xs=>
  cases n with
  |zero=>exact Sq O H h0 hm hmt
  |succ n=>
   rw[hmt] at hm
   rcases aH.dG hm with ⟨hx,_⟩|⟨m,g1,hx,hst,hgl⟩
   ·cases hx
   ·cases hx;exact fO O H h0 hst (mt':= .wd n xs) hgl (by rw[hmt];exact⟨λ_=>rfl,rfl,rfl,rfl,rfl,rfl,rfl,rfl,rfl,(λ_ _ _ _ hx=>by cases hx),(λ_ _ hx=>by cases hx)⟩) (by rw[hmt];rfl)
 |wl n xs ys=>
  cases n with
  |zero=>exact Om O H h0 hm hmt
  |succ n=>
   rw[hmt] at hm
   rcases aH.dG hm with ⟨hx,_⟩|⟨m,g1,hx,hst,hgl⟩
   ·cases hx
   ·cases hx;exact fO O H h0 hst (mt':= .wl n xs ys) hgl (by rw[hmt];exact⟨λ_=>rfl,rfl,rfl,rfl,rfl,rfl,rfl,rfl,rfl,(λ_ _ _ _ hx=>by cases hx),(λ_ _ hx=>by cases hx)⟩) (by rw[hmt];rfl)
 |zen n xs ys=>
  cases n with
  |zero=>exact Wz O H h0 hm hmt
  |succ n=>
   rw[hmt] at hm
   rcases aH.dG hm with ⟨hx,_⟩|⟨m,g1,hx,hst,hgl⟩
   ·cases hx
   ·cases hx;exact fO O H h0 hst (mt':= .zen n xs ys) hgl (by rw[hmt];exact⟨λ_=>rfl,rfl,rfl,rfl,rfl,rfl,rfl,rfl,rfl,(λ_ _ _ _ hx=>by cases hx),(λ_ _ hx=>by cases hx)⟩) (by rw[hmt];rfl)
 |zc n xs ys=>
  cases n with
  |zero=>exact QL O H h0 hm hmt
  |succ n=>
   rw[hmt] at hm
   rcases aH.dG hm with ⟨hx,_⟩|⟨m,g1,hx,hst,hgl⟩
   ·cases hx
   ·cases hx;exact fO O H h0 hst (mt':= .zc n xs ys) hgl (by rw[hmt];exact⟨λ_=>rfl,rfl,rfl,rfl,rfl,rfl,rfl,rfl,rfl,(λ_ _ _ _ hx=>by cases hx),(λ_ _ hx=>by cases hx)⟩) (by rw[hmt];rfl)
 |za xs ys=>exact Hi O H h0 hm hmt
 |fF k n xs ys=>
  cases n with
  |zero=>exact MK O H h0 hm hmt
  |succ n=>
   rw[hmt] at hm
   rcases hm.1.dG with ⟨hx,_⟩|⟨m,g1,hx,hst,hgl⟩
   ·cases hx
   ·cases hx;exact fO O H h0 hst (mt':= .fF k n xs ys) ⟨hgl,hm.2⟩ (by rw[hmt];exact⟨λ_=>rfl,rfl,rfl,rfl,rfl,rfl,rfl,rfl,rfl,(λ_ _ _ _ hx=>by cases hx;exact⟨_,rfl⟩),(λ_ _ hx=>by cases hx)⟩) (by rw[hmt];rfl)
 |hcv k n xs ys=>
  cases n with
  |zero=>exact JM O H h0 hm hmt
  |succ n=>
   rw[hmt] at hm
   rcases hm.1.dG with ⟨hx,_⟩|⟨m,g1,hx,hst,hgl⟩
   ·cases hx
   ·cases hx;exact fO O H h0 hst (mt':= .hcv k n xs ys) ⟨hgl,hm.2⟩ (by rw[hmt];exact⟨λ_=>rfl,rfl,rfl,rfl,rfl,rfl,rfl,rfl,rfl,(λ_ _ _ _ hx=>by cases hx),(λ_ _ hx=>by cases hx)⟩) (by rw[hmt];rfl)
 |hwr k xs ys=>exact QP O H h0 hm hmt
 |dW n xs ys=>
  cases n with
  |zero=>exact TB O H h0 hm hmt
  |succ n=>
   rw[hmt] at hm
   rcases aH.dG hm with ⟨hx,_⟩|⟨m,g1,hx,hst,hgl⟩
   ·cases hx
   ·cases hx;exact fO O H h0 hst (mt':= .dW n xs ys) hgl (by rw[hmt];exact⟨λ_=>rfl,rfl,rfl,rfl,rfl,rfl,rfl,rfl,rfl,(λ_ _ _ _ hx=>by cases hx),(λ_ _ hx=>by cases hx)⟩) (by rw[hmt];rfl)
 |blk xs ys=>
  rw[hmt] at hm
  have:h=_:=hm
  rw[this] at hrun
  cases hrun
 |l2 n xs ys=>
  cases n with
  |zero=>exact OL O H h0 hm hmt
  |succ n=>
   rw[hmt] at hm
   rcases aH.dG hm with ⟨hx,_⟩|⟨m,g1,hx,hst,hgl⟩
   ·cases hx
   ·cases hx;exact fO O H h0 hst (mt':= .l2 n xs ys) hgl (by rw[hmt];exact⟨λ_=>rfl,rfl,rfl,rfl,rfl,rfl,rfl,rfl,rfl,(λ_ _ _ _ hx=>by cases hx),(λ_ _ hx=>by cases hx)⟩) (by rw[hmt];rfl)
 |en2 n xs ys=>
  cases n with
  |zero=>exact MI O H h0 hm hmt
  |succ n=>
   rw[hmt] at hm
   rcases aH.dG hm with ⟨hx,_⟩|⟨m,g1,hx,hst,hgl⟩
   ·cases hx
   ·cases hx;exact fO O H h0 hst (mt':= .en2 n xs ys) hgl (by rw[hmt];exact⟨λ_=>rfl,rfl,rfl,rfl,rfl,rfl,rfl,rfl,rfl,(λ_ _ _ _ hx=>by cases hx),(λ_ _ hx=>by cases hx)⟩) (by rw[hmt];rfl)
 |ac n xs ys=>
  cases n with
  |zero=>exact Tv O H h0 hm hmt
  |succ n=>
   rw[hmt] at hm
   rcases aH.dG hm with ⟨hx,_⟩|⟨m,g1,hx,hst,hgl⟩
   ·cases hx
   ·cases hx;exact fO O H h0 hst (mt':= .ac n xs ys) hgl (by rw[hmt];exact⟨λ_=>rfl,rfl,rfl,rfl,rfl,rfl,rfl,rfl,rfl,(λ_ _ _ _ hx=>by cases hx),(λ_ _ hx=>by cases hx)⟩) (by rw[hmt];rfl)
 |aq xs ys=>exact QB O H h0 hm hmt
 |fin n xs=>exact (hfin n xs hmt).elim
theorem K0(O:aP T Goal X){s:PS}{gs:Array Goroutine}{v:World}{sl:Option (Nat×Nat)}{t:Trace}(H:PI T Goal X s gs v t)(hfin:∀n xs,s.mt= .fin n xs->False){i:Nat}{g:Goroutine}(hi:gs[i]? =some g)(hg:g.status= .running):bA T Goal X s gs v sl t i:=by
 have hlt:=(IN.1 hi).1
 rw[H.gs.size] at hlt
 rcases ZF i with rfl|hpos
 ·exact UL O H hfin hi hg
 ·rcases Yw i X.n0 with h|h
  ·exact Su O H hfin hpos h hi hg
  ·obtain⟨k,rfl⟩: ∃k,i=X.n0+k:=⟨i - X.n0,by omega⟩
   exact Ow O H hfin (by omega) hi hg
theorem gK.runs{ow:Nat->Prop}{d:Nat}{g:Goroutine}{v:World}{σ:Wk}(h:gK T Goal X ow d g v σ)(hp:σ.parked=false)(hr:σ.ah≠0):g.status= .running:=by
 cases σ with
 |load n=>exact h.1.run (wH _).2.1
 |recv n xs=>exact h.1.run (xr _ _).2.1
 |dh xs=>cases hp
 |woken xs=>rw[h.1]
 |draw n i xs=>exact h.1.run (Ei _ _)
 |ops i l xs=>rw[h.1];exact Fq _ _ _
 |text i l xs s=>obtain⟨_,_,Y,_,h4⟩:=h;exact h4.running
 |jG i l xs s=>obtain⟨_,_,Y,_,h4⟩:=h;exact h4.running
 |conv n xs=>exact h.1.run (yr _ _).2.1
 |oT xs=>rw[h.1];exact E3 _ _
 |ef n xs=>exact h.1.run (EF _ _)
 |add n xs=>exact h.1.run (yy _ _).2.1
 |gT n xs=>exact h.1.run (xl _ _ _).2.1
 |gH n xs=>exact h.1.run (yc _ _ _).2.1
 |gf n xs=>exact h.1.run (xJ _ _ _).2.1
 |quit q=>exact absurd rfl hr
theorem Di{f:Nat->Nat}:∀{j:Nat},1<=sumTo j f->∃k,k< j/\1<=f k
 |0,h=>absurd h (by simp[sumTo])
 |j+1,h=>by
  simp only[sumTo] at h
  by_cases hj:1<=f j
  ·exact⟨j,by omega,hj⟩
  ·obtain⟨k,hk,h1⟩:=Di (f:=f) (j:=j) (by omega)
   exact⟨k,by omega,h1⟩
theorem Mi(O:aP T Goal X){s:PS}{gs:Array Goroutine}{v:World}{t:Trace}(H:PI T Goal X s gs v t): ∃(i:Nat) (g:Goroutine),gs[i]? =some g/\g.status= .running:=by
 obtain⟨h,h0,hm⟩:=H.gs.main
 rcases hm.status O with ⟨_,hr⟩|⟨xs,ys,hmt,_⟩
 ·exact⟨0,h,h0,hr⟩
 ·have key:∀k,k< s.j->(s.ws k).ah≠0->∃(i:Nat) (g:Goroutine),gs[i]? =some g/\g.status= .running:=by
   intro k hk hr
   obtain⟨g,hg,hW⟩:=H.gs.work k hk
   refine⟨_,g,hg,hW.runs ?_ hr⟩
   cases hp:(s.ws k).parked with
   |false=>rfl
   |true=>
    have:=(H.ac.dh k hk hp).2
    rw[hmt] at this
    cases this
  cases H.wg with
  |opn a1 a2 a3 a4 a5=>rw[hmt] at a1;cases a1
  |dK a1 a2 a3 a4 a5=>
   obtain⟨k,hk,h1⟩:=Di (f:=λk=>(s.ws k).cnt) a3
   have h2:=Wk.vV (s.ws k)
   have h3:=(Wk.vA (s.ws k)).1 (by omega)
   exact key k hk (by omega)
  |last q a1 a2 a3 a4 a5 a6 a7=>exact key q a2 (by omega)
  |fC a1 a2 a3 a4 a5=>rw[hmt] at a2;cases a2
  |done a1 a2 a3 a4 a5=>rw[hmt] at a2;cases a2
theorem TF(O:aP T Goal X){s:PS}{gs:Array Goroutine}{v:World}{t:Trace}(H:PI T Goal X s gs v t):∀g∈gs,awake g:=by
 intro g hg
 obtain⟨i,hi,rfl⟩:=Z2.1 hg
 have hgi:gs[i]? =some gs[i]:=Ym hi
 rw[H.gs.size] at hi
 have use:∀{st:GoStatus},gs[i].status=st->(∀t,st≠.sleeping t)->awake gs[i]:=λh1 h2 t=>by rw[h1];exact h2 t
 rcases ZF i with rfl|hpos
 ·obtain⟨h,h0,hm⟩:=H.gs.main
  rw[hgi] at h0
  have h0:=YG h0
  rcases hm.status O with ⟨_,hr⟩|⟨xs,ys,_,hr⟩
  ·exact use (h0 ▸ hr) (λt=>by simp)
  ·exact use (st:= .blocked) (by rw[h0,hr]) (λt=>by simp)
 ·rcases Yw i X.n0 with h|h
  ·rcases (H.gs.jP i _ hpos h hgi).status with hr|hr
   ·exact use hr (λt=>by simp)
   ·exact use hr (λt=>by simp)
  ·obtain⟨k,rfl⟩: ∃k,i=X.n0+k:=⟨i - X.n0,by omega⟩
   obtain⟨g,hg,hW⟩:=H.gs.work k (by omega)
   rw[hgi] at hg
   have hg:=YG hg
   rcases hW.status with ⟨_,hr|hr⟩|⟨ys,_,hr⟩
   ·exact use (hg ▸ hr) (λt=>by simp)
   ·exact use (hg ▸ hr) (λt=>by simp)
   ·exact use (st:= .blocked) (by rw[hg,hr];rfl) (λt=>by simp)
theorem PI.acc{s:PS}{gs:Array Goroutine}{v:World}{t:Trace}(H:PI T Goal X s gs v t):Acc (nN (nI Qg Goal) 4) s.kg:=by
 refine vl 4 _ λk _ x hx=>?_
 unfold PS.kg at hx
 split at hx
 ·rename_i hk
  obtain⟨g,hg,hW⟩:=H.gs.work k hk
  cases hσ:s.ws k<;>rw[hσ] at hx hW<;>simp only[Wk.tree,X2,reduceCtorEq] at hx
  ·subst hx;obtain⟨_,_,Y,_,h4⟩:=hW;exact h4.acc
  ·subst hx;obtain⟨_,_,Y,_,h4⟩:=hW;exact h4.acc
 ·cases hx
def xK(T:aT)(Goal:Frame->List Frame->World->Prop)(X:PC L)(gs:Array Goroutine)(v:World)(sl:Option (Nat×Nat))(t:Trace):Prop:=
 ∃N s' gs' v' sl' t',runNT Pg N (crowd gs v sl) t=(.next (crowd gs' v' sl'),t')/\PI T Goal X s' gs' v' t'/\∃n xs,s'.mt= .fin n xs
theorem QF(O:aP T Goal X):∀(φ:Nat) (s:PS) (gs:Array Goroutine) (v:World) (sl:Option (Nat×Nat)) (t:Trace),PI T Goal X s gs v t->s.phi X=φ->xK T Goal X gs v sl t:=by
 intro φ
 induction φ using Nat.strongRecOn with
 |_ φ ihφ=>
  have key:∀κ,Acc (nN (nI Qg Goal) 4) κ->∀(ε:Nat) (s:PS) (gs:Array Goroutine) (v:World) (sl:Option (Nat×Nat)) (t:Trace),PI T Goal X s gs v t->s.phi X=φ->s.kg=κ->s.sD X=ε->xK T Goal X gs v sl t:=by
   intro κ ha
   induction ha with
   |intro κ _ ihκ=>
    intro ε
    induction ε using Nat.strongRecOn with
    |_ ε ihε=>
     intro s gs v sl t H hφ hκ hε
     by_cases hf: ∃n xs,s.mt= .fin n xs
     ·exact⟨0,s,gs,v,sl,t,rfl,H,hf⟩
     ·obtain⟨i,g,d,sl',hi,hg,hpick⟩:=crowd_pick (P:=Pg) (w:=v) (sl:=sl) (TF O H) (Mi O H)
      obtain⟨s',gs',v',ops,hr,H',hd⟩:=K0 (sl:=sl') O (H.at d) (λn xs h=>hf ⟨n,xs,h⟩) hi hg
      have hw:xK T Goal X gs' v' sl' (t++ops):=by
       rcases hd with hd|⟨hd,hk⟩|⟨hd,hk,he⟩
       ·exact ihφ _ (hφ ▸ hd) s' gs' v' sl' _ H' rfl
       ·exact ihκ _ (hκ ▸ hk) _ s' gs' v' sl' _ H' (hd.trans hφ) rfl rfl
       ·exact ihε _ (hε ▸ he) s' gs' v' sl' _ H' (hd.trans hφ) (hk.trans hκ) rfl
      obtain⟨N,s2,gs2,v2,sl2,t2,r1,r2,r3⟩:=hw
      refine⟨N+1,s2,gs2,v2,sl2,t2,?_,r2,r3⟩
      simp only[runNT,hpick,hr]
      exact r1
  intro s gs v sl t H hφ
  exact key s.kg H.acc (s.sD X) s gs v sl t H hφ rfl rfl
end
end
section
open Go.Conc
open Go.ConcN (upd upd_same upd_ne sumTo sumTo_upd sumTo_congr sumTo_le le_sumTo RelBy)
structure Kept(Θ:Nat->Trace->Prop)(Ok:Nat->Event->Prop)(c0:Nat):Prop where
 own:∀(B B':Nat) (t:Trace) (fn:FuncId) (pos:String) (es:Array Event),Θ B t->B<=B'->(∀e∈es,Ok B' e)->Θ B' (t++MemOp.ofEvents 0 fn pos es)
 mute:∀(B i:Nat) (t:Trace) (fn:FuncId) (pos:String) (es:Array Event),0< i->Θ B t->(∀e∈es,e.mute=true)->Θ B (t++MemOp.ofEvents i fn pos es)
 recv:∀(B:Nat) (t:Trace) (fn:FuncId) (pos:String) (l:List MemAct),c0< B->Θ B t->(∀a∈l,(∃r cap,a= .recv c0 r cap)\/(∃r,a= .recvDone c0 r)\/a= .recvClosed c0)->Θ B (t++(l.map λa=>({g:=0,fn,pos,act:=a}:MemOp)).toArray)
section
variable (Θ:Nat->Trace->Prop) (n:Nat)
structure pJ(h:Goroutine)(v:World)(gs:Array Goroutine)(u:World)(t:Trace)(q:Nat->Nat):Prop where
 main:gs[0]? =some h
 world: ∃d,u=v.at d
 gV:Leavers Pg t gs q
 trace:Θ v.heap.size t
 size:gs.size=n
def bc(h:Goroutine)(v:World)(h':Goroutine)(v':World):Prop:=
 ∀gs u sl t q,pJ Θ n h v gs u t q->∃N gs' u' sl' t' q',runNT Pg N (crowd gs u sl) t=(.next (crowd gs' u' sl'),t')/\pJ Θ n h' v' gs' u' t' q'
end
section
variable {Θ:Nat->Trace->Prop} {Ok:Nat->Event->Prop} {n c0:Nat} {h h1 h2:Goroutine} {v v1 v2:World}
theorem bc.refl(h:Goroutine)(v:World):bc Θ n h v h v:=λgs u sl t q H=>⟨0,gs,u,sl,t,q,rfl,H⟩
theorem bc.trans(a:bc Θ n h v h1 v1)(b:bc Θ n h1 v1 h2 v2):bc Θ n h v h2 v2:=by
 intro gs u sl t q H
 obtain⟨N,gs1,u1,sl1,t1,q1,r1,H1⟩:=a gs u sl t q H
 obtain⟨K,gs2,u2,sl2,t2,q2,r2,H2⟩:=b gs1 u1 sl1 t1 q1 H1
 exact⟨N+K,gs2,u2,sl2,t2,q2,by rw[runNT_add,r1];exact r2,H2⟩
theorem bc.one(K:Kept Θ Ok c0)(hs:h.status= .running)(hstep:∀(gs:Array Goroutine) (d:Nat) (sl:Option (Nat×Nat)) (t:Trace) (q:Nat->Nat),gs.size=n->gs[0]? =some h->Leavers Pg t gs q->Θ v.heap.size t->∃gs' d' ops,runT Pg (crowd gs (v.at d) sl) 0=(.next (crowd gs' (v1.at d') sl),ops)/\gs'[0]? =some h1/\gs'.size=gs.size/\Leavers Pg (t++ops) gs' q/\Θ v1.heap.size (t++ops)):bc Θ n h v h1 v1:=by
 have key:∀(M:Nat) gs u sl t q,sumTo gs.size q<=M->pJ Θ n h v gs u t q->∃N gs' u' sl' t' q',runNT Pg N (crowd gs u sl) t=(.next (crowd gs' u' sl'),t')/\pJ Θ n h1 v1 gs' u' t' q':=by
  intro M
  induction M with
  |zero=>
   intro gs u sl t q hM H
   obtain⟨du,rfl⟩:=H.world
   obtain⟨i,g,d,sl',hi,hg,hpick⟩:=crowd_pick (P:=Pg) (w:=v.at du) (sl:=sl) (yk H.gV H.main hs) ⟨0,h,H.main,hs⟩
   rcases ZF i with rfl|hpos
   ·obtain⟨gs',d',ops,hr,h0',hsz,hL,hT⟩:=hstep gs d sl' t q H.size H.main H.gV H.trace
    exact⟨1,gs',v1.at d',sl',t++ops,q,by simp only[runNT,hpick];rw[show (v.at du).at d=v.at d from rfl,hr],⟨h0',⟨d',rfl⟩,hL,hT,by rw[hsz];exact H.size⟩⟩
   ·obtain⟨gs',k,es,hr,hs',h0',hL',hmute,hsum⟩:=xO H.gV H.main hs hi hpos hg ((v.at du).at d) sl'
    omega
  |succ M ih=>
   intro gs u sl t q hM H
   obtain⟨du,rfl⟩:=H.world
   obtain⟨i,g,d,sl',hi,hg,hpick⟩:=crowd_pick (P:=Pg) (w:=v.at du) (sl:=sl) (yk H.gV H.main hs) ⟨0,h,H.main,hs⟩
   rcases ZF i with rfl|hpos
   ·obtain⟨gs',d',ops,hr,h0',hsz,hL,hT⟩:=hstep gs d sl' t q H.size H.main H.gV H.trace
    exact⟨1,gs',v1.at d',sl',t++ops,q,by simp only[runNT,hpick];rw[show (v.at du).at d=v.at d from rfl,hr],⟨h0',⟨d',rfl⟩,hL,hT,by rw[hsz];exact H.size⟩⟩
   ·obtain⟨gs',k,es,hr,hs',h0',hL',hmute,hsum⟩:=xO H.gV H.main hs hi hpos hg ((v.at du).at d) sl'
    obtain⟨N,gs2,u2,sl2,t2,q2,r1,H2⟩:=ih gs' ((v.at du).at d) sl' _ (upd q i k) (by rw[hs'];omega) ⟨h0',⟨d,rfl⟩,hL',K.mute _ i t _ _ es hpos H.trace hmute,by rw[hs'];exact H.size⟩
    exact⟨N+1,gs2,u2,sl2,t2,q2,by simp only[runNT,hpick,hr];exact r1,H2⟩
 exact λgs u sl t q H=>key _ gs u sl t q (AI _) H
theorem bc.go(K:Kept Θ Ok c0)(hn:0< n)(hs:h.status= .running){es:Array Event}(e:∀d,stepG Pg true h (v.at d)= .go h1 (v1.at d) es)(hv:v.heap.size<=v1.heap.size)(hes:∀e∈es,Ok v1.heap.size e):bc Θ n h v h1 v1:=by
 refine bc.one K hs λgs d sl t q hsz h0 hL hT=>?_
 have hr:=runT_crowd_go (P:=Pg) (sl:=sl) (i:=0) h0 (show stepG Pg (0==0) h (v.at d)=_ from e d)
 have h0s:0< gs.size:=by omega
 exact⟨_,d,_,hr,YT (by simpa using h0s),by simp,zn hL (by omega),K.own _ _ _ _ _ _ hT hv hes⟩
theorem bc.aD(K:Kept Θ Ok c0)(hn:0< n){m:Nat}(hg:aH Pg true m h h1):bc Θ n h v h1 v:=by
 induction hg with
 |refl g=>exact .refl _ _
 |@step m g g1 g2 h1 h2 _ ih=>exact (bc.go K hn h1 (λd=>h2 _) (AI _) (λe he=>by simp at he)).trans ih
theorem bc.op(K:Kept Θ Ok c0)(hn:0< n)(ha:aI Pg true h){bs:List kT}{ds:List lQ}{x:Value}(hf:feed Pg (aJ h) bs=some (ds,.inl (.value x))){es:Array Event}(hm:∀d,gi ds bs (v.at d) #[] (v1.at d) es)(hv:v.heap.size<=v1.heap.size){es':Array Event}(hse:seen Pg h.frame.fn es=es')(hes:∀e∈es',Ok v1.heap.size e):bc Θ n h v (fin h x) v1:=by
 refine bc.go K hn ha.2.1 (es:=es') (λd=>?_) hv hes
 rw[←hse]
 exact aI.value ha hf (hm d)
theorem bc.skip(K:Kept Θ Ok c0)(hn:0< n)(ha:aI Pg true h){bs:List kT}{ds:List lQ}(hf:feed Pg (aJ h) bs=some (ds,.inl .skip)){es:Array Event}(hm:∀d,gi ds bs (v.at d) #[] (v1.at d) es)(hv:v.heap.size<=v1.heap.size){es':Array Event}(hse:seen Pg h.frame.fn es=es')(hes:∀e∈es',Ok v1.heap.size e):bc Θ n h v (fin h undef) v1:=by
 refine bc.go K hn ha.2.1 (es:=es') (λd=>?_) hv hes
 rw[←hse]
 exact aI.skip ha hf (hm d)
theorem FG{t:Trace}{gs:Array Goroutine}{q:Nat->Nat}{a':Goroutine}{l:List MemOp}(hL:Leavers Pg t gs q)(hl:∀op∈l,o8 op.act):Leavers Pg (t++l.toArray) (gs.setIfInBounds 0 a') q:=by
 refine⟨λj x hj hx=>?_,λj hj=>?_⟩
 ·rw[Ye (by omega)] at hx
  rw[nt t j l hl]
  exact hL.old j x hj hx
 ·rw[nt t j l hl]
  exact hL.above j (by simpa using hj)
theorem DJ{t:Trace}{gs:Array Goroutine}{q:Nat->Nat}(hL:Leavers Pg t gs q)(r:Nat)(b:Bool):partners (gs.setIfInBounds 0 ph) r b= []:=by
 refine partners_nil λj g hg=>?_
 rcases getElem?_stand gs 0 j g hg with ⟨_,rfl⟩|⟨hj,hg⟩
 ·rfl
 ·have:=(hL.old j g (by omega) hg).status
  exact offersAt_of_not_blocked (by rcases this with h|h<;>rw[h]<;>simp) r b
theorem bc.recv(K:Kept Θ Ok c0)(hn:0< n)(hs:h.status= .running){z:Value}(e:∀d,stepG Pg true h (v.at d)= .comm h #[rcase c0 z] true (.recv true) (v.at d) #[]){cap:Nat}{x:Value}{l:List Value}{cl:Bool}{s r:Nat}(hc:v.heap[c0]? =some (.chan cap (x::l).toArray cl s r false)):
  bc Θ n h v (h.finishComm Pg #[rcase c0 z] (.recv true) 0 x true) (v.setChan c0 cap l.toArray cl s (r+1) false):=by
 have hlt:c0< v.heap.size:=(IN.1 hc).1
 refine bc.one K hs λgs d sl t q hsz h0 hL hT=>?_
 have hrun:=crowd_recv_buf (P:=Pg) (sl:=sl) (i:=0) h0 (show stepG Pg (0==0) h (v.at d)=_ from e d) (show (v.at d).heap[c0]? =_ from hc) (by simp) (DJ hL c0 true)
 have ex:(x::l).toArray.extract 1 (x::l).toArray.size=l.toArray:=by simp[ZP]
 have eg:(x::l).toArray.getD 0 undef=x:=by simp
 have hz:∀fn pos,MemOp.ofEvents 0 fn pos #[]=#[]:=λfn pos=>by simp[ofEvents_eq]
 rw[ex,eg,hz,Zp] at hrun
 have h0s:0< gs.size:=by omega
 refine⟨_,d,_,hrun,YT h0s,by simp,FG hL (l:=[_,_]) ?_,?_⟩
 ·intro op ag;simp at ag;rcases ag with rfl|rfl<;>exact⟨by simp,by simp⟩
 ·have:=K.recv v.heap.size t h.frame.fn h.frame.place [.recv c0 r cap,.recvDone c0 r] hlt hT (λa ha=>by simp at ha;rcases ha with rfl|rfl;exact .inl ⟨_,_,rfl⟩;exact .inr (.inl ⟨_,rfl⟩))
  rw[show (v.setChan c0 cap l.toArray cl s (r+1) false).heap.size=v.heap.size by simp[World.setChan]]
  exact this
theorem bc.Nq(K:Kept Θ Ok c0)(hn:0< n)(hs:h.status= .running){z:Value}(e:∀d,stepG Pg true h (v.at d)= .comm h #[rcase c0 z] true (.recv true) (v.at d) #[]){cap:Nat}{s r:Nat}(hc:v.heap[c0]? =some (.chan cap #[] true s r false)):
  bc Θ n h v (h.finishComm Pg #[rcase c0 z] (.recv true) 0 z false) v:=by
 have hlt:c0< v.heap.size:=(IN.1 hc).1
 refine bc.one K hs λgs d sl t q hsz h0 hL hT=>?_
 have hrun:=crowd_recv_closed (P:=Pg) (sl:=sl) (i:=0) h0 (show stepG Pg (0==0) h (v.at d)=_ from e d) (show (v.at d).heap[c0]? =_ from hc) (DJ hL c0 true)
 have hz:∀fn pos,MemOp.ofEvents 0 fn pos #[]=#[]:=λfn pos=>by simp[ofEvents_eq]
 rw[hz,Zp] at hrun
 have h0s:0< gs.size:=by omega
 refine⟨_,d,_,hrun,YT h0s,by simp,FG hL (l:=[_]) ?_,?_⟩
 ·intro op ag;simp at ag;subst ag;exact⟨by simp,by simp⟩
 ·exact K.recv v.heap.size t h.frame.fn h.frame.place [.recvClosed c0] hlt hT (λa ha=>by simp at ha;subst ha;exact .inr (.inr rfl))
end
end
section
open Go.Conc
open Go.ConcN (upd upd_same upd_ne sumTo sumTo_upd sumTo_congr sumTo_le le_sumTo RelBy)
set_option maxRecDepth 100000
theorem XQ(M:Mn)(c:Frame)(cs:List Frame):(mn M c cs).frame.fn=68:=by kernel_rfl
theorem RL(M:Mn)(c:Frame)(cs:List Frame):(lJ M c cs).frame.fn=68:=by kernel_rfl
theorem TM(M:Mn){n:Nat}(hn:n=1\/n=4\/n=16\/n=64)(h:M.count=n)(c:Frame)(cs:List Frame)(r:Nat):feed Pg (aJ (lZ M c cs)) [.ref r]=some ([.nw (.chan n #[] false 0 0 false)],.inl (.value (.chan (some r)))):=by
 rcases hn with rfl|rfl|rfl|rfl
 ·exact LF M h c cs r
 ·exact Gw M h c cs r
 ·exact MW M h c cs r
 ·exact I0 M h c cs r
theorem Re(M:Mn){n:Nat}(hn:n=1\/n=4\/n=16\/n=64)(h:M.count=n)(c:Frame)(cs:List Frame)(r:Nat):feed Pg (aJ (lH M c cs)) [.ref r]=some ([.nw (.chan n #[] false 0 0 false)],.inl (.value (.chan (some r)))):=by
 rcases hn with rfl|rfl|rfl|rfl
 ·exact Io M h c cs r
 ·exact XO M h c cs r
 ·exact Jj M h c cs r
 ·exact Wa M h c cs r
theorem RS(M:Mn){n nW:Nat}(hn:n=1\/n=4\/n=16\/n=64)(hw:(n=1/\nW=1)\/(n≠1/\nW=4))(h:M.count=n)(c:Frame)(cs:List Frame): ∃xs,aH Pg true 12 (fE M c cs) (dr M xs (c::cs) nW (0:Nat)):=by
 rcases hn with rfl|rfl|rfl|rfl
 ·obtain rfl:nW=1:=by omega
  have:=(Uz M h c cs).aD;rw[Mr M h] at this;exact⟨_,this⟩
 ·obtain rfl:nW=4:=by omega
  have:=(Uo M h c cs).aD;rw[JR M h] at this;exact⟨_,this⟩
 ·obtain rfl:nW=4:=by omega
  have:=(Tt M h c cs).aD;rw[Ic M h] at this;exact⟨_,this⟩
 ·obtain rfl:nW=4:=by omega
  have:=(Xh M h c cs).aD;rw[Og M h] at this;exact⟨_,this⟩
def dU(v:World)(o:Obj):World:={v with heap:=v.heap.push o}
theorem fM(v:World)(o:Obj):(dU v o).heap.size=v.heap.size+1:=by simp[dU]
theorem gR(v:World)(o:Obj)(b:Nat):(dU v o).heap[b]? =if b=v.heap.size then some o else v.heap[b]? :=by
 show (v.heap.push o)[b]? =_
 rw[YH]
theorem EK(v:World)(x y:Value)(τ:TypeId){b:Nat}(hb:b=v.heap.size):(dU v (.cells #[x] τ)).setCell ⟨b,0,none⟩ y=dU v (.cells #[y] τ):=by
 subst hb
 unfold dU World.setCell
 simp only[World.mk.injEq,Y1]
 apply ZA
 ·simp
 ·intro i h1 h2
  have h3:i< v.heap.size+1:=by simpa using h2
  simp only[Array.getElem_modify,Array.getElem_push]
  by_cases hi:v.heap.size=i
  ·subst hi;simp
  ·simp[hi,show i< v.heap.size by omega]
section
variable {L:aB} {T:aT} {Goal:Frame->List Frame->World->Prop} {X:PC L}
def Fi(X:PC L):oq where
 ro b:=b< X.E.v0.heap.size/\¬ X.Sh b
 ow k b:=k=0/\(b=X.M.bT\/b=X.M.bN\/b=X.M.bB)
 qu b:=b=X.M.wg\/b=X.M.cN\/b=X.M.cB
def ia(X:PC L)(B:Nat)(t:Trace):Prop:=TP (Fi X) X.Sh (λk=>k=0) (λ_=>False) B t/\Deaf t 0=0/\NoRelease (bC X) t
def Ok0(X:PC L)(B:Nat)(e:Event):Prop:=∃b,(b=X.M.bN\/b=X.M.bB)/\b< B/\e=⟨.cell ⟨b,0,none⟩,true,false⟩
theorem Jz(O:aP T Goal X):yd (Fi X):=by
 have b1:=O.bT;have b2:=O.cN;have b3:=O.bN;have b4:=O.cB;have b5:=O.bB;have b6:=O.wg
 refine⟨λk k' b h h'=>h.1.trans h'.1.symm,λk b h h'=>?_,λk b h h'=>?_,λb h h'=>?_⟩
 ·have:=h'.1;rcases h.2 with h|h|h<;>omega
 ·rcases h.2 with h|h|h<;>rcases h' with h'|h'|h'<;>omega
 ·have:=h.1;rcases h' with h'|h'|h'<;>omega
theorem U6(O:aP T Goal X)(c0:Nat):Kept (ia X) (Ok0 X) c0:=by
 refine⟨λB B' t fn pos es h hB hes=>⟨?_,?_,?_⟩,λB i t fn pos es hi h hm=>⟨?_,?_,?_⟩,λB t fn pos l hc h hl=>⟨?_,?_,?_⟩⟩
 ·refine (h.1.grow hB (λk b x=> .inl x) (λb x=> .inl x) (λb x=> .inl x) (λb x=>x)).app (Jz O) rfl (.inl rfl) (λop ag=>ofEvents_g ag) (λop ag a ha=>?_) (λop ag=>?_)
  ·obtain⟨e,he,rfl⟩:=Go.Conc.mem_ofEvents ag
   obtain⟨b,hb,hbB,rfl⟩:=hes e he
   simp only[MemAct.ofEvent,MemAct.touch?,X2] at ha
   subst ha
   refine⟨rfl,λb' hb'=>?_⟩
   simp only[blk,X2] at hb'
   subst hb'
   exact .inl ⟨⟨rfl,.inr hb⟩,rfl⟩
  ·obtain⟨e,he,rfl⟩:=Go.Conc.mem_ofEvents ag
   obtain⟨b,hb,hbB,rfl⟩:=hes e he
   exact oN hbB _ _
 ·rw[Deaf_own,deafBehind_still (λe he=>by obtain⟨b,hb,hbB,rfl⟩:=hes e he;exact⟨by simp,by simp⟩)]
  exact h.2.1
 ·refine h.2.2.app λop ag=>?_
  obtain⟨e,he,rfl⟩:=Go.Conc.mem_ofEvents ag
  obtain⟨b,hb,hbB,rfl⟩:=hes e he
  simp[MemAct.ofEvent]
 ·exact h.1.mute (k:=i) (λop ag=>ofEvents_g ag) (λop ag=>by obtain⟨e,he,rfl⟩:=Go.Conc.mem_ofEvents ag;exact touch_mute (hm e he)) (λop ag=>by obtain⟨e,he,rfl⟩:=Go.Conc.mem_ofEvents ag;exact low_mute (hm e he) B)
 ·rw[Deaf_other t (g':=i) (by omega) _ λop ag=>ofEvents_g ag];exact h.2.1
 ·refine h.2.2.app λop ag=>?_
  obtain⟨e,he,rfl⟩:=Go.Conc.mem_ofEvents ag
  have:=hm e he
  obtain⟨loc,wr,sy⟩:=e
  intro hx
  cases loc with
  |mark m=>simp only[MemAct.ofEvent,MemAct.mark.injEq] at hx;subst hx;simp[Event.mute] at this
  |_=>simp[Event.mute] at this
 ·refine h.1.still _ (λop ag=>?_) (λop ag=>?_)
  ·simp only[Ya] at ag
   obtain⟨a,ha,rfl⟩:=ag
   rcases hl a ha with ⟨r,cap,rfl⟩|⟨r,rfl⟩|rfl<;>rfl
  ·simp only[Ya] at ag
   obtain⟨a,ha,rfl⟩:=ag
   rcases hl a ha with ⟨r,cap,rfl⟩|⟨r,rfl⟩|rfl<;>exact hc
 ·rw[nt t 0 _ λop ag=>?_];exact h.2.1
  simp only[Ya] at ag
  obtain⟨a,ha,rfl⟩:=ag
  rcases hl a ha with ⟨r,cap,rfl⟩|⟨r,rfl⟩|rfl<;>exact⟨by simp,by simp⟩
 ·refine h.2.2.app λop ag=>?_
  simp only[ZQ,Ya] at ag
  obtain⟨a,ha,rfl⟩:=ag
  rcases hl a ha with ⟨r,cap,rfl⟩|⟨r,rfl⟩|rfl<;>simp
def v8(X:PC L):World:=dU (dU (dU (dU (dU (dU X.E.v0 (.cells #[X.M.ix] 79)) (.chan X.E.n #[] false 0 0 false)) (.cells #[.chan (some X.M.cN)] 178)) (.chan X.E.n #[] false 0 0 false)) (.cells #[.chan (some X.M.cB)] 179)) (.cells #[.int .u64 0,.int .u32 0] 188)
theorem MD(O:aP T Goal X):bc (ia X) X.n0 (m0 X.M X.c X.cs) X.E.v0 (fE X.M X.c X.cs) (v8 X):=by
 have b1:=O.bT;have b2:=O.cN;have b3:=O.bN;have b4:=O.cB;have b5:=O.bB;have b6:=O.wg
 have K:=U6 O 0
 have hn:=O.n0
 let V1:=dU X.E.v0 (.cells #[X.M.ix] 79)
 let V2:=dU V1 (.chan X.E.n #[] false 0 0 false)
 let V3:=dU V2 (.cells #[.chan none] 178)
 let V4:=dU V2 (.cells #[.chan (some X.M.cN)] 178)
 let V5:=dU V4 (.chan X.E.n #[] false 0 0 false)
 let V6:=dU V5 (.cells #[.chan none] 179)
 let V7:=dU V5 (.cells #[.chan (some X.M.cB)] 179)
 let V8:=dU V7 (.cells #[.int .u64 0,.int .u32 0] 188)
 have z1:V1.heap.size=X.E.v0.heap.size+1:=fM _ _
 have z2:V2.heap.size=X.E.v0.heap.size+2:=by rw[fM,z1]
 have z3:V3.heap.size=X.E.v0.heap.size+3:=by rw[fM,z2]
 have z4:V4.heap.size=X.E.v0.heap.size+3:=by rw[fM,z2]
 have z5:V5.heap.size=X.E.v0.heap.size+4:=by rw[fM,z4]
 have z6:V6.heap.size=X.E.v0.heap.size+5:=by rw[fM,z5]
 have z7:V7.heap.size=X.E.v0.heap.size+5:=by rw[fM,z5]
 have z8:V8.heap.size=X.E.v0.heap.size+6:=by rw[fM,z7]
 have hnil:∀B,∀e∈(#[]:Array Event),Ok0 X B e:=λB e he=>by simp at he
 have s1:bc (ia X) X.n0 (m0 X.M X.c X.cs) X.E.v0 (mR X.M X.c X.cs) X.E.v0:= .aD K hn (LV X.M X.c X.cs).aD
 have s2:bc (ia X) X.n0 (mR X.M X.c X.cs) X.E.v0 (fin (mR X.M X.c X.cs) (ptr X.M.bT)) V1:= .op K hn (J9 _ _ _) (S4 X.M X.c X.cs X.M.bT) (es:=#[]) (λd=>⟨b1,rfl,rfl⟩) (by omega) (eH _) (hnil _)
 have s3:bc (ia X) X.n0 (fin (mR X.M X.c X.cs) (ptr X.M.bT)) V1 (lZ X.M X.c X.cs) V1:= .aD K hn (WT X.M X.c X.cs).aD
 have s4:bc (ia X) X.n0 (lZ X.M X.c X.cs) V1 (rC X.M X.c X.cs) V2:= .op K hn (PA _ _ _) (TM X.M O.nn O.count X.c X.cs X.M.cN) (es:=#[]) (λd=>⟨by show X.M.cN=V1.heap.size;omega,rfl,rfl⟩) (by omega) (eH _) (hnil _)
 have s5:bc (ia X) X.n0 (rC X.M X.c X.cs) V2 (mn X.M X.c X.cs) V3:= .op K hn (Ts _ _ _) (Mh X.M X.c X.cs X.M.bN) (es:=#[]) (λd=>⟨by show X.M.bN=V2.heap.size;omega,rfl,rfl⟩) (by omega) (eH _) (hnil _)
 have g3:V3.heap[X.M.bN]? =some (.cells #[.chan none] 178):=by rw[gR,AT (by omega)]
 have s6:bc (ia X) X.n0 (mn X.M X.c X.cs) V3 (fin (mn X.M X.c X.cs) undef) V4:=by
  refine .skip K hn (Lp _ _ _) (WX X.M X.c X.cs) (es:=#[⟨.cell ⟨X.M.bN,0,none⟩,true,false⟩]) (es':=#[⟨.cell ⟨X.M.bN,0,none⟩,true,false⟩]) (λd=>⟨by simp,by simp,⟨.chan none,by simp[World.cell?,World.at,g3]⟩,by simp[World.frozen?,World.at,g3],?_,rfl⟩) (by omega) (by rw[XQ];exact yF _) (λe he=>?_)
  ·rw[show (V3.at d).setCell ⟨X.M.bN,0,none⟩ (.chan (some X.M.cN))=(V3.setCell ⟨X.M.bN,0,none⟩ (.chan (some X.M.cN))).at d from rfl,EK V2 _ _ _ (by omega)]
  ·simp at he;exact⟨X.M.bN,.inl rfl,by omega,he⟩
 have s7:bc (ia X) X.n0 (fin (mn X.M X.c X.cs) undef) V4 (lH X.M X.c X.cs) V4:= .aD K hn (TA X.M X.c X.cs).aD
 have s8:bc (ia X) X.n0 (lH X.M X.c X.cs) V4 (ri X.M X.c X.cs) V5:= .op K hn (Vq _ _ _) (Re X.M O.nn O.count X.c X.cs X.M.cB) (es:=#[]) (λd=>⟨by show X.M.cB=V4.heap.size;omega,rfl,rfl⟩) (by omega) (eH _) (hnil _)
 have s9:bc (ia X) X.n0 (ri X.M X.c X.cs) V5 (lJ X.M X.c X.cs) V6:= .op K hn (GJ _ _ _) (KS X.M X.c X.cs X.M.bB) (es:=#[]) (λd=>⟨by show X.M.bB=V5.heap.size;omega,rfl,rfl⟩) (by omega) (eH _) (hnil _)
 have g6:V6.heap[X.M.bB]? =some (.cells #[.chan none] 179):=by rw[gR,AT (by omega)]
 have s10:bc (ia X) X.n0 (lJ X.M X.c X.cs) V6 (fin (lJ X.M X.c X.cs) undef) V7:=by
  refine .skip K hn (Nv _ _ _) (Nf X.M X.c X.cs) (es:=#[⟨.cell ⟨X.M.bB,0,none⟩,true,false⟩]) (es':=#[⟨.cell ⟨X.M.bB,0,none⟩,true,false⟩]) (λd=>⟨by simp,by simp,⟨.chan none,by simp[World.cell?,World.at,g6]⟩,by simp[World.frozen?,World.at,g6],?_,rfl⟩) (by omega) (by rw[RL];exact yF _) (λe he=>?_)
  ·rw[show (V6.at d).setCell ⟨X.M.bB,0,none⟩ (.chan (some X.M.cB))=(V6.setCell ⟨X.M.bB,0,none⟩ (.chan (some X.M.cB))).at d from rfl,EK V5 _ _ _ (by omega)]
  ·simp at he;exact⟨X.M.bB,.inr rfl,by omega,he⟩
 have s11:bc (ia X) X.n0 (fin (lJ X.M X.c X.cs) undef) V7 (qL X.M X.c X.cs) V7:= .aD K hn (IK X.M X.c X.cs).aD
 have s12:bc (ia X) X.n0 (qL X.M X.c X.cs) V7 (fE X.M X.c X.cs) V8:= .op K hn (Ix _ _ _) (Qy X.M X.c X.cs X.M.wg) (es:=#[]) (λd=>⟨by show X.M.wg=V7.heap.size;omega,rfl,rfl⟩) (by omega) (eH _) (hnil _)
 exact s1.trans (s2.trans (s3.trans (s4.trans (s5.trans (s6.trans (s7.trans (s8.trans (s9.trans (s10.trans (s11.trans s12))))))))))
theorem Hq(O:aP T Goal X){gs:Array Goroutine}{u:World}{t:Trace}{q:Nat->Nat}(H:pJ (ia X) X.n0 (fE X.M X.c X.cs) (v8 X) gs u t q): ∃s,PI T Goal X s gs u t:=by
 have b1:=O.bT;have b2:=O.cN;have b3:=O.bN;have b4:=O.cB;have b5:=O.bB;have b6:=O.wg
 have hnW:=O.nW
 obtain⟨xs,hg⟩:=RS X.M O.nn O.nw O.count X.c X.cs
 obtain⟨d,rfl⟩:=H.world
 let s:PS:={mt:= .ef 0 34 xs,j:=0,ws:=λ_=> .quit 0,ow:=λ_ _=>False,q:=q,bZ:=[],rN:=0,cX:=[],st:=0,sm:=0}
 have hz:(v8 X).heap.size=X.E.v0.heap.size+6:=by unfold v8;simp only[fM]
 have hlt:∀b,b< X.E.v0.heap.size->(v8 X).heap[b]? =X.E.v0.heap[b]? :=λb hb=>by
  unfold v8
  simp only[gR,fM]
  rw[AS (by omega),AS (by omega),AS (by omega),AS (by omega),AS (by omega),AS (by omega)]
 refine⟨s,⟨H.size,⟨_,H.main,hg.trans (zV O xs (by omega)),by omega⟩,λk hk=>absurd hk (Y8 _),λi g hi _ hgi=>H.gV.old i g hi hgi,H.gV.above⟩,⟨⟨by show _<=(v8 X).heap.size;omega,λb hb=>hlt b hb⟩,by show _< (v8 X).heap.size;omega,?_,?_,?_,?_,⟨0,?_⟩,?_,rfl,rfl,rfl⟩,?_,?_,?_⟩
 ·show (v8 X).heap[_]? =_
  unfold v8;simp only[gR,fM]
  rw[AS (by omega),AS (by omega),AS (by omega),AS (by omega),AS (by omega),AT (by omega)]
 ·show (v8 X).heap[_]? =_
  unfold v8;simp only[gR,fM]
  rw[AS (by omega),AS (by omega),AS (by omega),AT (by omega)]
 ·show (v8 X).heap[_]? =_
  unfold v8;simp only[gR,fM]
  rw[AS (by omega),AT (by omega)]
 ·show (v8 X).heap[_]? =_
  unfold v8;simp only[gR,fM]
  rw[AS (by omega),AS (by omega),AS (by omega),AS (by omega),AT (by omega)]
  rfl
 ·show (v8 X).heap[_]? =_
  unfold v8;simp only[gR,fM]
  rw[AS (by omega),AS (by omega),AT (by omega)]
  rfl
 ·show (v8 X).heap[_]? =_
  unfold v8;simp only[gR,fM]
  rw[AT (by omega)]
  rfl
 ·exact⟨rfl,Y2 _,rfl,λi hi=>absurd hi (Y8 _),AI _,λi hi=>(by cases hi),λi hi=>(by cases hi),λk hk=>absurd hk (Y8 _),λk hk=>absurd hk (Y8 _)⟩
 ·exact .opn rfl (λk hk=>absurd hk (Y8 _)) (by show 0=(sumTo 0 _+0)*aM;simp[sumTo]) rfl (λ_ _ _ _ h=>by cases h)
 ·refine⟨?_,λi b hi=>absurd hi (Y8 _),λi i' b hi=>absurd hi (Y8 _),λk hk=>absurd hk (Y8 _),H.trace.2.2,H.trace.2.1,λ_ _ h=>by cases h⟩
  have l1:(λk=>k=0\/fp X s k)=(λk=>k=0):=by
   funext k;apply propext
   show (k=0\/(X.n0<=k/\k< X.n0+0))↔k=0
   omega
  have l2:fp X s=(λ_=>False):=by
   funext k;apply propext
   exact⟨λh=>by have h1:X.n0<=k:=h.1;have h2:k< X.n0+0:=h.2;omega,False.elim⟩
  rw[l1,l2]
  refine H.trace.1.share (λk hk=>hk) (λk b hb=>?_) (λb hb=>?_) (λb=>Iff.rfl)
  ·obtain⟨i,hi,_⟩:=hb
   exact absurd hi (Y8 _)
  ·rcases hb with hb|hb
   ·exact .inl hb
   ·exact .inr ⟨rfl,hb⟩
end
end
section
open Go.Conc
open Go.ConcN (upd upd_same upd_ne sumTo sumTo_upd sumTo_congr sumTo_le le_sumTo RelBy)
set_option maxRecDepth 100000
theorem RR(M:Mn){n:Nat}(hn:n=1\/n=4\/n=16\/n=64)(h:M.count=n)(xs:Nat->Value)(cs:List Frame)(j:Int)(r:Nat):feed Pg (aJ (jY M xs cs j)) [.ref r]=some ([.nw (.cells (Array.replicate n (.int .u64 0)) 44)],.inl (.value (j8 r n))):=by
 rcases hn with rfl|rfl|rfl|rfl
 ·exact Xy M h xs cs j r
 ·exact RY M h xs cs j r
 ·exact Uj M h xs cs j r
 ·exact RJ M h xs cs j r
theorem zp(M:Mn)(xs:Nat->Value)(cs:List Frame)(d n:Nat):fA (fT M xs cs d n) (fT M xs cs d n).frame=fT M xs cs d n:=by kernel_rfl
theorem FQ(f:Int){i:Nat}(hi:i< 64):IntKind.i64.wrap (IntKind.i64.wrap (f+i) - f)=i:=by
 simp only[IntKind.wrap,IntKind.bits,IntKind.signed]
 simp
 omega
theorem Jv(v:World)(x y x' y':Value)(τ:TypeId):((dU v (.cells #[x,y] τ)).setCell ⟨v.heap.size,0,none⟩ x').setCell ⟨v.heap.size,1,none⟩ y'=dU v (.cells #[x',y'] τ):=by
 unfold dU World.setCell
 simp only[World.mk.injEq,Y1]
 apply ZA
 ·simp
 ·intro i h1 h2
  have h3:i< v.heap.size+1:=by simpa using h2
  simp only[Array.getElem_modify,Array.getElem_push]
  by_cases hi:v.heap.size=i
  ·subst hi;simp
  ·simp[hi,show i< v.heap.size by omega]
section
variable {L:aB} {T:aT} {Goal:Frame->List Frame->World->Prop} {X:PC L}
def ov(X:PC L)(b:Nat):Prop:=X.Sh b\/(b=X.M.wg\/b=X.M.cN\/b=X.M.cB)
def ej(X:PC L)(B:Nat)(t:Trace):Prop:=Past (jO (ov X)) B t
def EG(X:PC L)(B:Nat)(e:Event):Prop:=EvL (jO (ov X)) B e
theorem Dm(X:PC L)(c0:Nat):Kept (ej X) (EG X) c0:=by
 refine⟨λB B' t fn pos es h hB hes=>(Past.mono h hB).own hes,λB i t fn pos es hi h hm=>Past.mute h (by omega) hm,λB t fn pos l hc h hl=>?_⟩
 refine Past.app0 h (λop ag=>?_) (λop ag b hb=>?_) ?_ (λop ag=>?_)
 ·simp only[ZQ,Ya] at ag
  obtain⟨a,ha,rfl⟩:=ag;rfl
 ·simp only[ZQ,Ya] at ag
  obtain⟨a,ha,rfl⟩:=ag
  rcases hl a ha with ⟨r,cap,rfl⟩|⟨r,rfl⟩|rfl<;>cases hb
 ·refine nt t 0 _ λop ag=>?_
  simp only[Ya] at ag
  obtain⟨a,ha,rfl⟩:=ag
  rcases hl a ha with ⟨r,cap,rfl⟩|⟨r,rfl⟩|rfl<;>exact⟨by simp,by simp⟩
 ·simp only[ZQ,Ya] at ag
  obtain⟨a,ha,rfl⟩:=ag
  rcases hl a ha with ⟨r,cap,rfl⟩|⟨r,rfl⟩|rfl<;>exact hc
theorem pL(X:PC L){B b o:Nat}(wr:Bool)(hb: ¬ ov X b)(hB:b< B):EG X B ⟨.cell ⟨b,o,none⟩,wr,false⟩:=evL_cell _ wr hb hB
structure rY(X:PC L)(rest:List Nat)(done:Nat->Prop)(d:Nat)(v:World):Prop where
 old:q7 X.E v
 cB: ∃sB rB,v.heap[X.M.cB]? =some (.chan X.E.n (rest.map X.fY).toArray true sB rB false)
 low:X.M.wg< d/\d< v.heap.size
 row: ∃C:Array Value,v.heap[d]? =some (.cells C 44)/\C.size=X.E.n/\∀i,done i->C[i]? =some (.int .u64 (X.a i))
 tape:v.tape=X.E.v0.tape
 os:v.os=X.E.v0.os
 output:v.output=X.E.v0.output
theorem Mo(O:aP T Goal X){N:Nat}(hN:0< N){i:Nat}(hi:i< X.E.n){rest:List Nat}{done:Nat->Prop}{d:Nat}{v:World}(xs:Nat->Value)(G:rY X (i::rest) done d v):
  ∃v' xs',bc (ej X) N (fT X.M xs X.ds d X.E.n) v (fT X.M xs' X.ds d X.E.n) v'/\rY X rest (λk=>done k\/k=i) d v':=by
 have b1:=O.bT;have b2:=O.cN;have b3:=O.bN;have b4:=O.cB;have b5:=O.bB;have b6:=O.wg
 have K:=Dm X X.M.cB
 have hn:=O.nn
 obtain⟨sB,rB,hcB⟩:=G.cB
 have hlow:=G.low
 have hfresh:∀b,X.M.wg< b->¬ ov X b:=λb hb h=>by
  rcases h with h|h|h|h
  ·have:=O.sh b h;omega
  all_goals omega
 let s:Int:=IntKind.i64.wrap (X.E.first+i)
 let W1:=v.setChan X.M.cB X.E.n (rest.map X.fY).toArray true sB (rB+1) false
 have hcl:X.M.cB< v.heap.size:=(IN.1 hcB).1
 obtain⟨c1,c2,c3,c4,c5,c6⟩:=rA v X.M.cB X.E.n (rest.map X.fY).toArray true sB (rB+1) false hcl
 have c1':W1.heap.size=v.heap.size:=c1
 have e0:∀dd,stepG Pg true (fT X.M xs X.ds d X.E.n) (v.at dd)= .comm (fT X.M xs X.ds d X.E.n) #[rcase X.M.cB zF] true (.recv true) (v.at dd) #[]:=λdd=>by
  have hc:=aI.comm (sU X.M xs X.ds d X.E.n) (zU X.M xs X.ds d X.E.n) (w:=v.at dd) (w':=v.at dd) (es:=#[]) ⟨rfl,rfl⟩
  rw[eH,zp] at hc
  exact hc
 have s0:bc (ej X) N (fT X.M xs X.ds d X.E.n) v (tf X.M xs X.ds d X.E.n s (X.a i)) W1:=bc.recv K hN (sU X.M xs X.ds d X.E.n).2.1 e0 (x:=X.fY i) (l:=rest.map X.fY) hcB
 have s1:bc (ej X) N (tf X.M xs X.ds d X.E.n s (X.a i)) W1 (rh X.M xs X.ds d X.E.n s (X.a i)) W1:= .aD K hN (RO X.M xs X.ds d X.E.n s (X.a i)).aD
 let r:=W1.heap.size
 let W2:=dU W1 (.cells #[.int .i64 0,.int .u64 0] 190)
 let W3:=dU W1 (.cells #[.int .i64 s,.int .u64 (X.a i)] 190)
 have z2:W2.heap.size=W1.heap.size+1:=fM _ _
 have z3:W3.heap.size=W1.heap.size+1:=fM _ _
 have hrr:X.M.wg< W1.heap.size:=by rw[c1];omega
 have s2:bc (ej X) N (rh X.M xs X.ds d X.E.n s (X.a i)) W1 (mi X.M xs X.ds d X.E.n s (X.a i) r) W2:= .op K hN (Ih X.M xs X.ds d X.E.n s (X.a i)) (GA X.M xs X.ds d X.E.n s (X.a i) r) (es:=#[]) (λdd=>⟨rfl,rfl,rfl⟩) (by omega) (eH _) (λe he=>by simp at he)
 have g2:W2.heap[r]? =some (.cells #[.int .i64 0,.int .u64 0] 190):=by rw[gR,AT rfl]
 have g3:W3.heap[r]? =some (.cells #[.int .i64 s,.int .u64 (X.a i)] 190):=by rw[gR,AT rfl]
 have hset:=Jv W1 (.int .i64 0) (.int .u64 0) (.int .i64 s) (.int .u64 (X.a i)) 190
 have s3:bc (ej X) N (mi X.M xs X.ds d X.E.n s (X.a i) r) W2 (fin (mi X.M xs X.ds d X.E.n s (X.a i) r) undef) W3:=by
  refine .skip K hN (M0 X.M xs X.ds d X.E.n s (X.a i) r) (Ip X.M xs X.ds d X.E.n s (X.a i) r) (es:=#[⟨.cell ⟨r,0,none⟩,true,false⟩,⟨.cell ⟨r,1,none⟩,true,false⟩]) (es':=#[⟨.cell ⟨r,0,none⟩,true,false⟩,⟨.cell ⟨r,1,none⟩,true,false⟩]) (λdd=>⟨by simp,by simp,⟨.int .i64 0,by simp[World.cell?,World.at,g2]⟩,by simp[World.frozen?,World.at,g2],by simp,by simp,⟨.int .u64 0,?_⟩,?_,?_,rfl⟩) (by omega) (by rw[Ob];exact OB _ _) (λe he=>?_)
  ·simp[World.cell?,World.setCell,World.at,Yz,g2]
  ·simp[World.frozen?,World.setCell,World.at,Yz,g2]
  ·show W3.at dd=((W2.setCell ⟨r,0,none⟩ (.int .i64 s)).setCell ⟨r,1,none⟩ (.int .u64 (X.a i))).at dd
   rw[hset]
  ·simp at he
   rcases he with rfl|rfl<;>exact pL X true (hfresh _ hrr) (by omega)
 have s4:bc (ej X) N (fin (mi X.M xs X.ds d X.E.n s (X.a i) r) undef) W3 (lO X.M xs X.ds d X.E.n s (X.a i) r) W3:= .aD K hN (IL X.M xs X.ds d X.E.n s (X.a i) r).aD
 have s5:bc (ej X) N (lO X.M xs X.ds d X.E.n s (X.a i) r) W3 (fin (lO X.M xs X.ds d X.E.n s (X.a i) r) (.int .i64 s)) W3:=by
  refine .op K hN (G5 X.M xs X.ds d X.E.n s (X.a i) r) (GO X.M xs X.ds d X.E.n s (X.a i) r (.int .i64 s)) (es:=#[⟨.cell ⟨r,0,none⟩,false,false⟩]) (es':=#[⟨.cell ⟨r,0,none⟩,false,false⟩]) (λdd=>⟨by simp[World.cell?,World.at,g3],rfl,rfl⟩) (AI _) (by rw[Xb];exact Cg _) (λe he=>?_)
  simp at he;subst he;exact pL X false (hfresh _ hrr) (by omega)
 have s6:bc (ej X) N (fin (lO X.M xs X.ds d X.E.n s (X.a i) r) (.int .i64 s)) W3 (pz X.M xs X.ds d X.E.n s (X.a i) r) W3:= .aD K hN (Uk X.M xs X.ds d X.E.n s (X.a i) r).aD
 have s7:bc (ej X) N (pz X.M xs X.ds d X.E.n s (X.a i) r) W3 (pq X.M xs X.ds d X.E.n s (X.a i) r) W3:=by
  refine .op K hN (P7 X.M xs X.ds d X.E.n s (X.a i) r) (Vg X.M xs X.ds d X.E.n s (X.a i) r (.int .u64 (X.a i))) (es:=#[⟨.cell ⟨r,1,none⟩,false,false⟩]) (es':=#[⟨.cell ⟨r,1,none⟩,false,false⟩]) (λdd=>⟨by simp[World.cell?,World.at,g3],rfl,rfl⟩) (AI _) (by rw[QE];exact Cg _) (λe he=>?_)
  simp at he;subst he;exact pL X false (hfresh _ hrr) (by omega)
 have hix:feed Pg (aJ (pq X.M xs X.ds d X.E.n s (X.a i) r)) []=some ([],.inl (.value (.pointer (some ⟨d,i,none⟩)))):=by
  rw[RU,O.first,FQ X.E.first (by omega)]
  exact EL Pg (.inr rfl) hi
 have s8:bc (ej X) N (pq X.M xs X.ds d X.E.n s (X.a i) r) W3 (ml X.M xs X.ds d X.E.n s (X.a i) r i) W3:= .op K hN (Mz X.M xs X.ds d X.E.n s (X.a i) r) hix (es:=#[]) (λdd=>⟨rfl,rfl⟩) (AI _) (eH _) (λe he=>by simp at he)
 obtain⟨C,hC,hCs,hCd⟩:=G.row
 have h3d:W3.heap[d]? =some (.cells C 44):=by
  rw[gR,AS (by rw[c1];omega),c3 d (by omega)];exact hC
 let W4:=W3.setCell ⟨d,i,none⟩ (.int .u64 (X.a i))
 have z4:W4.heap.size=W3.heap.size:=(lr W3 d i _).1
 have s9:bc (ej X) N (ml X.M xs X.ds d X.E.n s (X.a i) r i) W3 (fin (ml X.M xs X.ds d X.E.n s (X.a i) r i) undef) W4:=by
  refine .skip K hN (Vn X.M xs X.ds d X.E.n s (X.a i) r i) (Lq X.M xs X.ds d X.E.n s (X.a i) r i) (es:=#[⟨.cell ⟨d,i,none⟩,true,false⟩]) (es':=#[⟨.cell ⟨d,i,none⟩,true,false⟩]) (λdd=>⟨by simp,by simp,⟨C[i]'(by omega),?_⟩,by simp[World.frozen?,World.at,h3d],rfl,rfl⟩) (by omega) (by rw[Jb];exact yF _) (λe he=>?_)
  ·simp[World.cell?,World.at,h3d,hCs,hi]
  ·simp at he;subst he;exact pL X true (hfresh _ hlow.1) (by omega)
 have s10:=bc.aD (Θ:=ej X) (n:=N) (v:=W4) K hN (PV X.M xs X.ds d X.E.n s (X.a i) r i).aD
 rw[LD] at s10
 refine⟨W4,_,s0.trans (s1.trans (s2.trans (s3.trans (s4.trans (s5.trans (s6.trans (s7.trans (s8.trans (s9.trans s10))))))))),?_⟩
 have hoth:∀b,b≠d->b< v.heap.size->b≠X.M.cB->W4.heap[b]? =v.heap[b]? :=λb h1 h2 h3=>by
  rw[(lr W3 d i _).2 b h1,gR,AS (by rw[c1];omega),c3 b h3]
 refine⟨⟨?_,λb hb=>?_⟩,⟨sB,rB+1,?_⟩,⟨hlow.1,by omega⟩,⟨C.setIfInBounds i (.int .u64 (X.a i)),?_,by simp[hCs],λk hk=>?_⟩,G.tape,G.os,G.output⟩
 ·have:=G.old.1;omega
 ·have:=G.old.1
  rw[hoth b (by omega) (by omega) (by omega)]
  exact G.old.2 b hb
 ·rw[(lr W3 d i _).2 _ (by omega),gR,AS (by rw[c1];omega)]
  exact c2
 ·show (W3.setCell ⟨d,i,none⟩ (.int .u64 (X.a i))).heap[d]? =_
  simp[World.setCell,Yz,h3d]
 ·by_cases hki:k=i
  ·subst hki
   rw[YT (by omega)]
  ·rw[Ye (Ne.symm hki)]
   exact hCd k (hk.resolve_right hki)
theorem Bg(O:aP T Goal X){N:Nat}(hN:0< N){d:Nat}:∀(rest:List Nat) (done:Nat->Prop) (v:World) (xs:Nat->Value),(∀i∈rest,i< X.E.n)->rY X rest done d v->
  ∃v' xs',bc (ej X) N (fT X.M xs X.ds d X.E.n) v (fT X.M xs' X.ds d X.E.n) v'/\rY X [] (λk=>done k\/k∈rest) d v'
 |[],done,v,xs,_,G=>⟨v,xs,.refl _ _,⟨G.old,G.cB,G.low,by obtain⟨C,h1,h2,h3⟩:=G.row;exact⟨C,h1,h2,λi hi=>h3 i (by simpa using hi)⟩,G.tape,G.os,G.output⟩⟩
 |i::rest,done,v,xs,hr,G=>by
  obtain⟨v1,xs1,t1,G1⟩:=Mo O hN (hr i (by simp)) xs G
  obtain⟨v2,xs2,t2,G2⟩:=Bg O hN rest _ v1 xs1 (λk hk=>hr k (by simp[hk])) G1
  refine⟨v2,xs2,t1.trans t2,⟨G2.old,G2.cB,G2.low,?_,G2.tape,G2.os,G2.output⟩⟩
  obtain⟨C,h1,h2,h3⟩:=G2.row
  refine⟨C,h1,h2,λk hk=>h3 k ?_⟩
  rcases hk with hk|hk
  ·exact .inl (.inl hk)
  ·rcases Yv.1 hk with hk|hk
   ·exact .inl (.inr hk)
   ·exact .inr hk
end
end
end Go.Proofs.YtldmcdeibiclkaaGreatDoor.U
