/-
  Toward causal_holds: THE POOL's MACHINE: the starter's Add, and what Wait does (the steps).
-/
import Derived.Test.YtldmcdeibiclkaaGreatDoorC11
set_option linter.unusedVariables false
set_option linter.unusedSimpArgs false
set_option maxRecDepth 100000
set_option maxHeartbeats 20000000
namespace Go.Proofs.YtldmcdeibiclkaaGreatDoor.U
section
open Go.Conc
open Go.ConcN (upd upd_same upd_ne sumTo sumTo_upd sumTo_congr sumTo_le le_sumTo RelBy)
section
variable {L:aB} {T:aT} {Goal:Frame->List Frame->World->Prop} {X:PC L}
theorem Wd.DO{s:PS}{v:World}(H:Wd X s v):v.cell? ⟨X.M.bN,0,none⟩=some (.chan (some X.M.cN)):=by simp[World.cell?,H.bN]
theorem A8{mt:Mt}(h:kp mt=true):jA mt=false:=by cases mt<;>first|rfl|cases h
theorem iU{s:PS}(H:Wg s)(h:kp s.mt=true):ql s/\s.st=(s.c+s.mt.eA)*aM/\s.sm=0/\∀k n xs ys,s.mt= .fF k n xs ys->s.c<=k:=by
 have hr:=A8 h
 cases H with
 |opn a1 a2 a3 a4 a5=>exact⟨a2,a3,a4,a5⟩
 |dK a1 a2 a3 a4 a5=>rw[hr] at a1;cases a1
 |last q a1 a2 a3 a4 a5 a6 a7=>rw[hr] at a1;cases a1
 |fC a1 a2 a3 a4 a5=>rw[hr] at a1;cases a1
 |done a1 a2 a3 a4 a5=>rw[h] at a1;cases a1
theorem nL{s:PS}(H:Wg s)(h:kp s.mt=false)(h':jA s.mt=false):pw s/\s.st=0/\s.sm=0:=by
 cases H with
 |opn a1 a2 a3 a4 a5=>rw[h] at a1;cases a1
 |dK a1 a2 a3 a4 a5=>rw[h'] at a1;cases a1
 |last q a1 a2 a3 a4 a5 a6 a7=>rw[h'] at a1;cases a1
 |fC a1 a2 a3 a4 a5=>rw[h'] at a1;cases a1
 |done a1 a2 a3 a4 a5=>exact⟨a3,a4,a5⟩
theorem Wg.yR{s:PS}{mt':Mt}(H:Wg s)(h:jA s.mt=true)(h':jA mt'=true)(hb:s.sm=1->lN mt'=false):Wg {s with mt:=mt',st:=s.st,sm:=s.sm}:=by
 cases H with
 |opn a1 a2 a3 a4 a5=>rw[A8 a1] at h;cases h
 |dK a1 a2 a3 a4 a5=>exact .dK h' a2 a3 a4 a5
 |last q a1 a2 a3 a4 a5 a6 a7=>exact .last q h' a2 a3 a4 a5 a6 a7
 |fC a1 a2 a3 a4 a5=>exact .fC h' (hb a5) a3 a4 a5
 |done a1 a2 a3 a4 a5=>rw[h] at a2;cases a2
theorem MN{s:PS}(h1:ql s)(h0:s.c=0):pw s:=λk hk=>by
 rcases h1 k hk with h|h
 ·exact h
 ·have:=(Wk.vA (s.ws k)).2 h
  have hle:(s.ws k).cnt<=s.c:=le_sumTo (f:=λi=>(s.ws i).cnt) hk
  omega
section
variable {s:PS} {gs:Array Goroutine} {v:World} {sl:Option (Nat×Nat)} {t:Trace} {h:Goroutine}
theorem Wp(O:aP T Goal X)(H:PI T Goal X s gs v t)(h0:gs[0]? =some h)(hm:bY X h s.mt){i:Nat}{xs:Nat->Value}(hmt:s.mt= .ef i 0 xs):bA T Goal X s gs v sl t 0:=by
 rw[hmt] at hm
 obtain⟨hgl,hi⟩:=hm
 cases hgl
 obtain⟨a1,a2,a3,a4⟩:=iU H.wg (by rw[hmt];rfl)
 rw[hmt] at a2
 exact eu O H h0 (QO _ _ _ v) (.add i 34 xs) s.st s.sm ⟨ML _ _ _,hi⟩ (by rw[hmt];exact⟨rfl,rfl,rfl⟩) (.inl ⟨rfl,rfl,rfl⟩) (.opn rfl a1 a2 a3 (λk n xs ys h=>by cases h)) (λe he=>by simp at he;exact .inr (.inl he)) (by rw[hmt];rfl) (.inl (λn xs h=>by cases h)) (.inl (by rw[hmt];simp[Mt.ah]))
theorem T8(O:aP T Goal X)(H:PI T Goal X s gs v t)(h0:gs[0]? =some h)(hm:bY X h s.mt){i:Nat}{xs:Nat->Value}(hmt:s.mt= .add i 0 xs):bA T Goal X s gs v sl t 0:=by
 rw[hmt] at hm
 obtain⟨hgl,hi⟩:=hm
 cases hgl
 obtain⟨a1,a2,a3,a4⟩:=iU H.wg (by rw[hmt];rfl)
 rw[hmt] at a2
 have hcj:s.c<=1*s.j:=sumTo_le λi _=>Wk.vV _
 have hj:s.j=i:=by rw[H.ac.on,hmt];rfl
 have hnW:=O.nW
 have a2':s.st=s.c*aM:=a2
 have hst:more s.st=((s.c+1)*aM:Nat):=by rw[a2'];exact Sv (by omega)
 have e:=aI.value (EW (X.mc i xs) X.ds X.M.wg) (SD _ _ _ s.st) (w:=v) (w':=v.setCell ⟨X.M.wg,0,none⟩ (.int .u64 (more s.st))) (es:=#[aN (.extern 148),⟨.cell (bC X),false,true⟩,⟨.cell (bC X),true,true⟩])
   ⟨H.wd.cell0,by simp,by simp,⟨_,H.wd.cell0⟩,H.wd.frozen 0,rfl,rfl⟩
 rw[XC,hst] at e
 have hes:∀e∈(#[⟨.cell (bC X),false,true⟩,⟨.cell (bC X),true,true⟩]:Array Event),qt X e:=λe he=>by simp at he;rcases he with rfl|rfl<;>exact .inl ⟨0,_,rfl⟩
 by_cases hc:s.c=0
 ·refine eu O H h0 e (.cv i 52 xs) ((s.c+1)*aM) s.sm ⟨?_,hi⟩ (by rw[hmt];exact⟨rfl,rfl,rfl⟩) (.inr (.inl ⟨rfl,rfl⟩)) (.opn rfl a1 rfl a3 (λk n xs ys h=>by cases h)) hes (by rw[hmt];rfl) (.inl (λn xs h=>by cases h)) (.inl (by rw[hmt];simp[Mt.ah]))
  have:=(O5 (X.mc i xs) X.ds X.M.wg).aD
  rw[hc]
  exact this
 ·refine eu O H h0 e (.en i 87 (s.c+1) xs) ((s.c+1)*aM) s.sm ⟨(Wv (X.mc i xs) X.ds X.M.wg ⟨by omega,by omega⟩).aD,hi,by omega,by omega⟩ (by rw[hmt];exact⟨rfl,rfl,rfl⟩) (.inr (.inl ⟨rfl,rfl⟩)) (.opn rfl a1 rfl a3 (λk n xs ys h=>by cases h)) hes (by rw[hmt];rfl) (.inl (λn xs h=>by cases h)) (.inl (by rw[hmt];simp[Mt.ah]))
theorem GI(O:aP T Goal X)(H:PI T Goal X s gs v t)(h0:gs[0]? =some h)(hm:bY X h s.mt){i:Nat}{xs:Nat->Value}(hmt:s.mt= .cv i 0 xs):bA T Goal X s gs v sl t 0:=by
 rw[hmt] at hm
 obtain⟨hgl,hi⟩:=hm
 cases hgl
 obtain⟨a1,a2,a3,a4⟩:=iU H.wg (by rw[hmt];rfl)
 rw[hmt] at a2
 have e:=aI.value (EH (X.mc i xs) X.ds X.M.wg) (Kf _ _ _) (w:=v) (w':=v) (es:=#[]) ⟨H.wd.shape,H.wd.shape,rfl,rfl⟩
 rw[eH] at e
 exact eu O H h0 e (.rd i xs) s.st s.sm ⟨rfl,hi⟩ (by rw[hmt];exact⟨rfl,rfl,rfl⟩) (.inl ⟨rfl,rfl,rfl⟩) (.opn rfl a1 a2 a3 (λk n xs ys h=>by cases h)) (λe he=>by simp at he) (by rw[hmt];rfl) (.inl (λn xs h=>by cases h)) (.inl (by rw[hmt];simp[Mt.ah]))
theorem GH(O:aP T Goal X)(H:PI T Goal X s gs v t)(h0:gs[0]? =some h)(hm:bY X h s.mt){i:Nat}{xs:Nat->Value}(hmt:s.mt= .rd i xs):bA T Goal X s gs v sl t 0:=by
 rw[hmt] at hm
 obtain⟨rfl,hi⟩:=hm
 obtain⟨a1,a2,a3,a4⟩:=iU H.wg (by rw[hmt];rfl)
 rw[hmt] at a2
 exact eu O H h0 (RD _ _ _ v) (.en1 i 39 xs) s.st s.sm ⟨(VF _ _ _).aD,hi⟩ (by rw[hmt];exact⟨rfl,rfl,rfl⟩) (.inl ⟨rfl,rfl,rfl⟩) (.opn rfl a1 a2 a3 (λk n xs ys h=>by cases h)) (λe he=>by simp at he;exact .inr (.inr (.inr (.inl ⟨1,he⟩)))) (by rw[hmt];rfl) (.inl (λn xs h=>by cases h)) (.inl (by rw[hmt];simp[Mt.ah]))
theorem SE(O:aP T Goal X)(H:PI T Goal X s gs v t)(h0:gs[0]? =some h)(hm:bY X h s.mt){i:Nat}{xs:Nat->Value}(hmt:s.mt= .en1 i 0 xs):bA T Goal X s gs v sl t 0:=by
 rw[hmt] at hm
 obtain⟨hgl,hi⟩:=hm
 cases hgl
 obtain⟨a1,a2,a3,a4⟩:=iU H.wg (by rw[hmt];rfl)
 rw[hmt] at a2
 exact eu O H h0 (G7 _ _ _ v) (.go i 4 xs) s.st s.sm ⟨(Jq _ _ _).trans (Du O xs hi),hi⟩ (by rw[hmt];exact⟨rfl,rfl,rfl⟩) (.inl ⟨rfl,rfl,rfl⟩) (.opn rfl a1 a2 a3 (λk n xs ys h=>by cases h)) (λe he=>by simp at he;exact .inr (.inr (.inl he))) (by rw[hmt];rfl) (.inl (λn xs h=>by cases h)) (.inl (by rw[hmt];simp[Mt.ah]))
theorem QS(O:aP T Goal X)(H:PI T Goal X s gs v t)(h0:gs[0]? =some h)(hm:bY X h s.mt){i k:Nat}{xs:Nat->Value}(hmt:s.mt= .en i 0 k xs):bA T Goal X s gs v sl t 0:=by
 rw[hmt] at hm
 obtain⟨hgl,hi,hk⟩:=hm
 cases hgl
 obtain⟨a1,a2,a3,a4⟩:=iU H.wg (by rw[hmt];rfl)
 rw[hmt] at a2
 exact eu O H h0 (W7 _ _ _ hk v) (.go i 4 xs) s.st s.sm ⟨(Is _ _ _ hk).trans (Du O xs hi),hi⟩ (by rw[hmt];exact⟨rfl,rfl,rfl⟩) (.inl ⟨rfl,rfl,rfl⟩) (.opn rfl a1 a2 a3 (λk n xs ys h=>by cases h)) (λe he=>by simp at he;exact .inr (.inr (.inl he))) (by rw[hmt];rfl) (.inl (λn xs h=>by cases h)) (.inl (by rw[hmt];simp[Mt.ah]))
theorem Ti(O:aP T Goal X)(H:PI T Goal X s gs v t)(h0:gs[0]? =some h)(hm:bY X h s.mt){j:Nat}{xs:Nat->Value}(hmt:s.mt= .ld j 0 xs):bA T Goal X s gs v sl t 0:=by
 rw[hmt] at hm
 obtain⟨hgl,hi⟩:=hm
 cases hgl
 obtain⟨a1,a2,a3,a4⟩:=iU H.wg (by rw[hmt];rfl)
 rw[hmt] at a2
 have e:=aI.value (zk X.M xs X.ds j) (Nh X.M xs X.ds j (.chan (some X.M.cN))) (w:=v) (w':=v) (es:=#[⟨.cell ⟨X.M.bN,0,none⟩,false,false⟩]) ⟨H.wd.DO,rfl,rfl⟩
 rw[F9,uC] at e
 exact eu O H h0 e (.sd j 3 xs) s.st s.sm ⟨(Nl _ _ _ _).aD,hi⟩ (by rw[hmt];exact⟨rfl,rfl,rfl⟩) (.inl ⟨rfl,rfl,rfl⟩) (.opn rfl a1 a2 a3 (λk n xs ys h=>by cases h)) (λe he=>by simp at he;exact .inr (.inr (.inr (.inr (.inr (.inr he)))))) (by rw[hmt];rfl) (.inl (λn xs h=>by cases h)) (.inl (by rw[hmt];simp[Mt.ah]))
theorem Oh(O:aP T Goal X)(H:PI T Goal X s gs v t)(h0:gs[0]? =some h)(hm:bY X h s.mt){xs:Nat->Value}(hmt:s.mt= .lc 0 xs):bA T Goal X s gs v sl t 0:=by
 rw[hmt] at hm
 have hgl:aH Pg true 0 h _:=hm
 cases hgl
 obtain⟨a1,a2,a3,a4⟩:=iU H.wg (by rw[hmt];rfl)
 rw[hmt] at a2
 have e:=aI.value (Ap X.M xs X.ds X.E.n) (Rp X.M xs X.ds X.E.n (.chan (some X.M.cN))) (w:=v) (w':=v) (es:=#[⟨.cell ⟨X.M.bN,0,none⟩,false,false⟩]) ⟨H.wd.DO,rfl,rfl⟩
 rw[Lx,uC] at e
 exact eu O H h0 e (.cl xs) s.st s.sm rfl (by rw[hmt];exact⟨rfl,rfl,rfl⟩) (.inl ⟨rfl,rfl,rfl⟩) (.opn rfl a1 a2 a3 (λk n xs ys h=>by cases h)) (λe he=>by simp at he;exact .inr (.inr (.inr (.inr (.inr (.inr he)))))) (by rw[hmt];rfl) (.inl (λn xs h=>by cases h)) (.inl (by rw[hmt];simp[Mt.ah]))
theorem Sq(O:aP T Goal X)(H:PI T Goal X s gs v t)(h0:gs[0]? =some h)(hm:bY X h s.mt){xs:Nat->Value}(hmt:s.mt= .wd 0 xs):bA T Goal X s gs v sl t 0:=by
 rw[hmt] at hm
 have hgl:aH Pg true 0 h _:=hm
 cases hgl
 obtain⟨a1,a2,a3,a4⟩:=iU H.wg (by rw[hmt];rfl)
 rw[hmt] at a2
 have h1:=(Np (X.wc xs) X.ds X.M.wg).aD
 rw[Jg] at h1
 exact eu O H h0 (U4 _ _ _ v) (.wl 19 xs _) s.st s.sm (h1.trans (rT _ _ _ _).aD) (by rw[hmt];exact⟨rfl,rfl,rfl⟩) (.inl ⟨rfl,rfl,rfl⟩) (.opn rfl a1 a2 a3 (λk n xs ys h=>by cases h)) (λe he=>by simp at he;exact .inr (.inl he)) (by rw[hmt];rfl) (.inl (λn xs h=>by cases h)) (.inl (by rw[hmt];simp[Mt.ah]))
theorem Om(O:aP T Goal X)(H:PI T Goal X s gs v t)(h0:gs[0]? =some h)(hm:bY X h s.mt){xs ys:Nat->Value}(hmt:s.mt= .wl 0 xs ys):bA T Goal X s gs v sl t 0:=by
 rw[hmt] at hm
 have hgl:aH Pg true 0 h _:=hm
 cases hgl
 obtain⟨a1,a2,a3,a4⟩:=iU H.wg (by rw[hmt];rfl)
 rw[hmt] at a2
 have a2':s.st=s.c*aM:=a2
 have hcb:=BS O H
 have e:=aI.value (Dz (X.wc xs) X.ds X.M.wg ys) (Pc _ _ _ _ s.st) (w:=v) (w':=v) (es:=#[aN (.extern 149),⟨.cell (bC X),false,true⟩]) ⟨H.wd.cell0,rfl,rfl⟩
 rw[M7] at e
 have hes:∀e∈(#[⟨.cell (bC X),false,true⟩]:Array Event),qt X e:=λe he=>by simp at he;subst he;exact .inl ⟨0,_,rfl⟩
 by_cases hc:s.c=0
 ·refine eu O H h0 e (.zen 31 xs ys) s.st s.sm ?_ (by rw[hmt];exact⟨rfl,rfl,rfl⟩) (.inl ⟨rfl,rfl,rfl⟩) (.done rfl rfl (MN a1 hc) (by show s.st=0;rw[a2',hc];rfl) a3) hes (by rw[hmt];rfl) (.inl (λn xs h=>by cases h)) (.inl (by rw[hmt];simp[Mt.ah]))
  have:=(Ux (X.wc xs) X.ds X.M.wg ys).aD
  rw[a2',hc]
  exact this
 ·refine eu O H h0 e (.fF s.c 48 xs ys) s.st s.sm ⟨?_,by omega,by omega⟩ (by rw[hmt];exact⟨rfl,rfl,rfl⟩) (.inl ⟨rfl,rfl,rfl⟩) (.opn rfl a1 a2' a3 (λk n xs ys h=>by cases h;exact AI _)) hes (by rw[hmt];rfl) (.inl (λn xs h=>by cases h)) (.inl (by rw[hmt];simp[Mt.ah]))
  rw[a2']
  exact (SR (X.wc xs) X.ds X.M.wg ys ⟨by omega,by omega⟩).aD
theorem Wz(O:aP T Goal X)(H:PI T Goal X s gs v t)(h0:gs[0]? =some h)(hm:bY X h s.mt){xs ys:Nat->Value}(hmt:s.mt= .zen 0 xs ys):bA T Goal X s gs v sl t 0:=by
 rw[hmt] at hm
 have hgl:aH Pg true 0 h _:=hm
 cases hgl
 obtain⟨a1,a2,a3⟩:=nL H.wg (by rw[hmt];rfl) (by rw[hmt];rfl)
 exact eu O H h0 (QM _ _ _ _ v) (.zc 3 xs ys) s.st s.sm (Q0 _ _ _ _).aD (by rw[hmt];exact⟨rfl,rfl,rfl⟩) (.inl ⟨rfl,rfl,rfl⟩) (.done rfl rfl a1 a2 a3) (λe he=>by simp at he;exact .inr (.inr (.inl he))) (by rw[hmt];rfl) (.inl (λn xs h=>by cases h)) (.inl (by rw[hmt];simp[Mt.ah]))
theorem QL(O:aP T Goal X)(H:PI T Goal X s gs v t)(h0:gs[0]? =some h)(hm:bY X h s.mt){xs ys:Nat->Value}(hmt:s.mt= .zc 0 xs ys):bA T Goal X s gs v sl t 0:=by
 rw[hmt] at hm
 have hgl:aH Pg true 0 h _:=hm
 cases hgl
 obtain⟨a1,a2,a3⟩:=nL H.wg (by rw[hmt];rfl) (by rw[hmt];rfl)
 have e:=aI.value (BD (X.wc xs) X.ds X.M.wg ys) (Wh _ _ _ _) (w:=v) (w':=v) (es:=#[]) ⟨H.wd.shape,H.wd.shape,rfl,rfl⟩
 rw[eH] at e
 exact eu O H h0 e (.za xs ys) s.st s.sm rfl (by rw[hmt];exact⟨rfl,rfl,rfl⟩) (.inl ⟨rfl,rfl,rfl⟩) (.done rfl rfl a1 a2 a3) (λe he=>by simp at he) (by rw[hmt];rfl) (.inl (λn xs h=>by cases h)) (.inl (by rw[hmt];simp[Mt.ah]))
theorem Hi(O:aP T Goal X)(H:PI T Goal X s gs v t)(h0:gs[0]? =some h)(hm:bY X h s.mt){xs ys:Nat->Value}(hmt:s.mt= .za xs ys):bA T Goal X s gs v sl t 0:=by
 rw[hmt] at hm
 have hgl:h=_:=hm
 subst hgl
 obtain⟨a1,a2,a3⟩:=nL H.wg (by rw[hmt];rfl) (by rw[hmt];rfl)
 have h1:=(Ll (X.wc xs) X.ds X.M.wg ys).aD
 rw[Ut] at h1
 exact eu O H h0 (Vk _ _ _ _ v) (.fin 23 xs) s.st s.sm (h1.trans (Bv X.M xs X.ds X.E.n).aD) (by rw[hmt];exact⟨rfl,rfl,rfl⟩) (.inl ⟨rfl,rfl,rfl⟩) (.done rfl rfl a1 a2 a3) (λe he=>by simp at he;exact .inr (.inr (.inr (.inr (.inr (.inl he)))))) (by rw[hmt];rfl) (.inr ⟨a1,by rw[hmt];rfl,rfl⟩) (.inl (by rw[hmt];simp[Mt.ah]))
theorem MK(O:aP T Goal X)(H:PI T Goal X s gs v t)(h0:gs[0]? =some h)(hm:bY X h s.mt){k:Nat}{xs ys:Nat->Value}(hmt:s.mt= .fF k 0 xs ys):bA T Goal X s gs v sl t 0:=by
 rw[hmt] at hm
 obtain⟨hgl,hk⟩:=hm
 cases hgl
 obtain⟨a1,a2,a3,a4⟩:=iU H.wg (by rw[hmt];rfl)
 rw[hmt] at a2
 have a2':s.st=s.c*aM:=a2
 have hck:=a4 _ _ _ _ hmt
 by_cases hc:s.c=k
 ·subst hc
  have hc0:=H.wd.cell0
  rw[a2'] at hc0
  have e:=aI.value (yp (X.wc xs) X.ds X.M.wg ys hk) (Uq _ _ _ _ hk) (w:=v) (w':=v.setCell ⟨X.M.wg,0,none⟩ (.int .u64 (s.c*aM+1:Nat))) (es:=#[aN (.extern 151),⟨.cell (bC X),false,true⟩,⟨.cell (bC X),true,true⟩])
   ⟨H.wd.shape,H.wd.frozen 0,hc0,by simp,by simp,⟨_,H.wd.cell0⟩,H.wd.frozen 0,rfl,rfl⟩
  rw[AL _ _ _ _ hk,(zS _).1] at e
  have hes:∀e∈(#[⟨.cell (bC X),false,true⟩,⟨.cell (bC X),true,true⟩]:Array Event),qt X e:=λe he=>by simp at he;rcases he with rfl|rfl<;>exact .inl ⟨0,_,rfl⟩
  exact eu O H h0 e (.hcv s.c 19 xs ys) (s.c*aM+1) s.sm ⟨(JE (X.wc xs) X.ds X.M.wg ys hk).aD,hk⟩ (by rw[hmt];exact⟨rfl,rfl,rfl⟩) (.inr (.inl ⟨rfl,rfl⟩)) (.dK rfl a1 hk.1 rfl a3) hes (by rw[hmt];rfl) (.inl (λn xs h=>by cases h)) (.inl (by rw[hmt];simp[Mt.ah]))
 ·have hc0:=H.wd.cell0
  rw[a2'] at hc0
  have e:=aI.value (yp (X.wc xs) X.ds X.M.wg ys hk) (Tm _ _ _ _ hk (d:=s.c) (by omega)) (w:=v) (w':=v) (es:=#[aN (.extern 151),⟨.cell (bC X),false,true⟩])
   ⟨H.wd.shape,H.wd.frozen 0,hc0,rfl,rfl⟩
  rw[AL _ _ _ _ hk,(zS _).2] at e
  have hes:∀e∈(#[⟨.cell (bC X),false,true⟩]:Array Event),qt X e:=λe he=>by simp at he;subst he;exact .inl ⟨0,_,rfl⟩
  obtain⟨ys',hg⟩:=We (X.wc xs) X.ds X.M.wg ys hk
  exact eu O H h0 e (.wl 25 xs ys') s.st s.sm hg (by rw[hmt];exact⟨rfl,rfl,rfl⟩) (.inl ⟨rfl,rfl,rfl⟩) (.opn rfl a1 a2' a3 (λk n xs ys h=>by cases h)) hes (by rw[hmt];rfl) (.inl (λn xs h=>by cases h)) (.inl (by rw[hmt];simp[Mt.ah,Ne.symm hc]))
theorem JM(O:aP T Goal X)(H:PI T Goal X s gs v t)(h0:gs[0]? =some h)(hm:bY X h s.mt){k:Nat}{xs ys:Nat->Value}(hmt:s.mt= .hcv k 0 xs ys):bA T Goal X s gs v sl t 0:=by
 rw[hmt] at hm
 obtain⟨hgl,hk⟩:=hm
 cases hgl
 have e:=aI.value (A0 (X.wc xs) X.ds X.M.wg ys hk) (Wx _ _ _ _ hk) (w:=v) (w':=v) (es:=#[]) ⟨H.wd.shape,H.wd.shape,rfl,rfl⟩
 rw[eH] at e
 exact eu O H h0 e (.hwr k xs ys) s.st s.sm ⟨rfl,hk⟩ (by rw[hmt];exact⟨rfl,rfl,rfl⟩) (.inl ⟨rfl,rfl,rfl⟩) (H.wg.yR (by rw[hmt];rfl) rfl (λ_=>rfl)) (λe he=>by simp at he) (by rw[hmt];rfl) (.inl (λn xs h=>by cases h)) (.inl (by rw[hmt];simp[Mt.ah]))
theorem QP(O:aP T Goal X)(H:PI T Goal X s gs v t)(h0:gs[0]? =some h)(hm:bY X h s.mt){k:Nat}{xs ys:Nat->Value}(hmt:s.mt= .hwr k xs ys):bA T Goal X s gs v sl t 0:=by
 rw[hmt] at hm
 obtain⟨rfl,hk⟩:=hm
 obtain⟨ys',hg⟩:=Ml (X.wc xs) X.ds X.M.wg ys hk
 exact eu O H h0 (Lh _ _ _ _ hk v) (.dW 23 xs ys') s.st s.sm hg (by rw[hmt];exact⟨rfl,rfl,rfl⟩) (.inl ⟨rfl,rfl,rfl⟩) (H.wg.yR (by rw[hmt];rfl) rfl (λ_=>rfl)) (λe he=>by simp at he;exact .inr (.inr (.inr (.inr (.inl ⟨1,he⟩))))) (by rw[hmt];rfl) (.inl (λn xs h=>by cases h)) (.inl (by rw[hmt];simp[Mt.ah]))
theorem TB(O:aP T Goal X)(H:PI T Goal X s gs v t)(h0:gs[0]? =some h)(hm:bY X h s.mt){xs ys:Nat->Value}(hmt:s.mt= .dW 0 xs ys):bA T Goal X s gs v sl t 0:=by
 rw[hmt] at hm
 have hgl:aH Pg true 0 h _:=hm
 cases hgl
 have hsm:s.sm=0\/(s.sm=1/\pw s/\s.st=0):=by
  cases H.wg with
  |opn a1 a2 a3 a4 a5=>exact .inl a4
  |dK a1 a2 a3 a4 a5=>exact .inl a5
  |last q a1 a2 a3 a4 a5 a6 a7=>exact .inl a7
  |fC a1 a2 a3 a4 a5=>exact .inr ⟨a5,a3,a4⟩
  |done a1 a2 a3 a4 a5=>exact .inl a5
 have hc1:=H.wd.AW
 have hfn:(iz (X.wc xs) X.ds X.M.wg ys).frame.fn=91:=rfl
 rcases hsm with hsm|⟨hsm,hq,hst⟩
 ·rw[hsm] at hc1
  have e:=aI.blocked (vm (X.wc xs) X.ds X.M.wg ys) (RE _ _ _ _) (w:=v) (w':=v) (es:=#[aN (.extern 135),aN .disable,⟨.cell ⟨X.M.wg,1,none⟩,false,true⟩]) ⟨hc1,rfl,rfl⟩
  rw[eH] at e
  exact eu O H h0 e (.blk xs ys) s.st s.sm rfl (by rw[hmt];exact⟨rfl,rfl,rfl⟩) (.inl ⟨rfl,rfl,rfl⟩) (H.wg.yR (by rw[hmt];rfl) rfl (λh=>by rw[hsm] at h;cases h)) (λe he=>by simp at he) (by rw[hmt];rfl) (.inl (λn xs h=>by cases h)) (.inr (by rw[hmt];exact⟨rfl,by simp[Mt.idle]⟩))
 ·rw[hsm] at hc1
  have e:=aI.value (vm (X.wc xs) X.ds X.M.wg ys) (SP _ _ _ _) (w:=v) (w':=v.setCell ⟨X.M.wg,1,none⟩ (.int .u32 (0:Nat))) (es:=#[aN (.extern 135),aN .disable,⟨.cell ⟨X.M.wg,1,none⟩,false,true⟩,⟨.cell ⟨X.M.wg,1,none⟩,true,true⟩,aN .enable]) ⟨hc1,by simp,by simp,⟨_,hc1⟩,H.wd.frozen 1,rfl,rfl⟩
  rw[hfn,(M6 _).1] at e
  exact eu O H h0 e (.l2 16 xs ys) s.st 0 (Vm _ _ _ _).aD (by rw[hmt];exact⟨rfl,rfl,rfl⟩) (.inr (.inr ⟨rfl,rfl⟩)) (.done rfl rfl hq hst rfl) (λe he=>by
   simp at he
   rcases he with rfl|rfl|rfl|rfl
   ·exact .inr (.inl rfl)
   ·exact .inl ⟨1,_,rfl⟩
   ·exact .inl ⟨1,_,rfl⟩
   ·exact .inr (.inr (.inl rfl))) (by rw[hmt];rfl) (.inl (λn xs h=>by cases h)) (.inl (by rw[hmt];simp[Mt.ah]))
theorem OL(O:aP T Goal X)(H:PI T Goal X s gs v t)(h0:gs[0]? =some h)(hm:bY X h s.mt){xs ys:Nat->Value}(hmt:s.mt= .l2 0 xs ys):bA T Goal X s gs v sl t 0:=by
 rw[hmt] at hm
 have hgl:aH Pg true 0 h _:=hm
 cases hgl
 obtain⟨a1,a2,a3⟩:=nL H.wg (by rw[hmt];rfl) (by rw[hmt];rfl)
 have hc0:=H.wd.cell0
 rw[a2] at hc0
 have e:=aI.value (DN (X.wc xs) X.ds X.M.wg ys) (Kr _ _ _ _) (w:=v) (w':=v) (es:=#[aN (.extern 149),⟨.cell (bC X),false,true⟩]) ⟨hc0,rfl,rfl⟩
 rw[Oz] at e
 exact eu O H h0 e (.en2 11 xs ys) s.st s.sm (SK _ _ _ _).aD (by rw[hmt];exact⟨rfl,rfl,rfl⟩) (.inl ⟨rfl,rfl,rfl⟩) (.done rfl rfl a1 a2 a3) (λe he=>by simp at he;subst he;exact .inl ⟨0,_,rfl⟩) (by rw[hmt];rfl) (.inl (λn xs h=>by cases h)) (.inl (by rw[hmt];simp[Mt.ah]))
theorem MI(O:aP T Goal X)(H:PI T Goal X s gs v t)(h0:gs[0]? =some h)(hm:bY X h s.mt){xs ys:Nat->Value}(hmt:s.mt= .en2 0 xs ys):bA T Goal X s gs v sl t 0:=by
 rw[hmt] at hm
 have hgl:aH Pg true 0 h _:=hm
 cases hgl
 obtain⟨a1,a2,a3⟩:=nL H.wg (by rw[hmt];rfl) (by rw[hmt];rfl)
 exact eu O H h0 (O2 _ _ _ _ v) (.ac 3 xs ys) s.st s.sm (Oe _ _ _ _).aD (by rw[hmt];exact⟨rfl,rfl,rfl⟩) (.inl ⟨rfl,rfl,rfl⟩) (.done rfl rfl a1 a2 a3) (λe he=>by simp at he;exact .inr (.inr (.inl he))) (by rw[hmt];rfl) (.inl (λn xs h=>by cases h)) (.inl (by rw[hmt];simp[Mt.ah]))
theorem Tv(O:aP T Goal X)(H:PI T Goal X s gs v t)(h0:gs[0]? =some h)(hm:bY X h s.mt){xs ys:Nat->Value}(hmt:s.mt= .ac 0 xs ys):bA T Goal X s gs v sl t 0:=by
 rw[hmt] at hm
 have hgl:aH Pg true 0 h _:=hm
 cases hgl
 obtain⟨a1,a2,a3⟩:=nL H.wg (by rw[hmt];rfl) (by rw[hmt];rfl)
 have e:=aI.value (D5 (X.wc xs) X.ds X.M.wg ys) (ID _ _ _ _) (w:=v) (w':=v) (es:=#[]) ⟨H.wd.shape,H.wd.shape,rfl,rfl⟩
 rw[eH] at e
 exact eu O H h0 e (.aq xs ys) s.st s.sm rfl (by rw[hmt];exact⟨rfl,rfl,rfl⟩) (.inl ⟨rfl,rfl,rfl⟩) (.done rfl rfl a1 a2 a3) (λe he=>by simp at he) (by rw[hmt];rfl) (.inl (λn xs h=>by cases h)) (.inl (by rw[hmt];simp[Mt.ah]))
theorem QB(O:aP T Goal X)(H:PI T Goal X s gs v t)(h0:gs[0]? =some h)(hm:bY X h s.mt){xs ys:Nat->Value}(hmt:s.mt= .aq xs ys):bA T Goal X s gs v sl t 0:=by
 rw[hmt] at hm
 have hgl:h=_:=hm
 subst hgl
 obtain⟨a1,a2,a3⟩:=nL H.wg (by rw[hmt];rfl) (by rw[hmt];rfl)
 have h1:=(Kc (X.wc xs) X.ds X.M.wg ys).aD
 rw[Ro] at h1
 exact eu O H h0 (VA _ _ _ _ v) (.fin 13 xs) s.st s.sm (h1.trans (Bv X.M xs X.ds X.E.n).aD) (by rw[hmt];exact⟨rfl,rfl,rfl⟩) (.inl ⟨rfl,rfl,rfl⟩) (.done rfl rfl a1 a2 a3) (λe he=>by simp at he;exact .inr (.inr (.inr (.inr (.inr (.inl he)))))) (by rw[hmt];rfl) (.inr ⟨a1,by rw[hmt];rfl,rfl⟩) (.inl (by rw[hmt];simp[Mt.ah]))
end
end
end
section
open Go.Conc
open Go.ConcN (upd upd_same upd_ne sumTo sumTo_upd sumTo_congr sumTo_le le_sumTo RelBy)
set_option maxRecDepth 100000
theorem J6(M:Mn)(xs:Nat->Value)(cs:List Frame)(j:Int):fA (iT M xs cs j) (iT M xs cs j).frame=iT M xs cs j:=by kernel_rfl
section
variable {L:aB} {T:aT} {Goal:Frame->List Frame->World->Prop} {X:PC L}
theorem Ao(O:aP T Goal X){s:PS}{gs:Array Goroutine}{v:World}{sl:Option (Nat×Nat)}{t:Trace}(H:PI T Goal X s gs v t){h h1:Goroutine}(h0:gs[0]? =some h){i:Nat}{xs:Nat->Value}(hmt:s.mt= .go i 0 xs)(e:stepG Pg true h v= .spawn h1 (j7 X.p) v #[]){mt':Mt}(hM:bY X h1 mt')(e1:mt'.bu X=0)(e2:mt'.shut=false)(e3:mt'.on X=i+1)(e4:mt'.eA=0)(e5:mt'.deaf=0)(e6:kp mt'=true)(e7:∀k n xs ys,mt'≠.fF k n xs ys)(e8:∀n xs,mt'≠.fin n xs)(e9:∀c,mt'.ah c+22< s.mt.ah s.c):bA T Goal X s gs v sl t 0:=by
 have hn0:=O.n0
 obtain⟨a1,a2,a3,a4⟩:=iU H.wg (by rw[hmt];rfl)
 rw[hmt] at a2
 have a2':s.st=(s.c+1)*aM:=a2
 have hj:s.j=i:=by rw[H.ac.on,hmt];rfl
 have hsz:=H.gs.size
 have hrun:=runT_crowd_spawn (P:=Pg) (sl:=sl) (i:=0) h0 (show stepG Pg (0==0) h v=_ from e)
 have hz:∀fn pos,MemOp.ofEvents 0 fn pos #[]=#[]:=λfn pos=>by simp[ofEvents_eq]
 rw[hz] at hrun
 let s':PS:={s with mt:=mt',j:=s.j+1,ws:=upd s.ws s.j (.load 7),ow:=upd s.ow s.j (λ_=>False)}
 have hw:∀k,k< s.j->s'.ws k=s.ws k:=λk hk=>upd_ne _ _ (by omega)
 have ho:∀k,k< s.j->s'.ow k=s.ow k:=λk hk=>upd_ne _ _ (by omega)
 have hwj:s'.ws s.j= .load 7:=upd_same _ _ _
 have hoj:s'.ow s.j=λ_=>False:=upd_same _ _ _
 have hsum:∀f:Wk->Nat,sumTo (s.j+1) (λk=>f (s'.ws k))=sumTo s.j (λk=>f (s.ws k))+f (.load 7):=λf=>by
  show sumTo s.j (λk=>f (s'.ws k))+f (s'.ws s.j)=_
  rw[hwj,sumTo_congr λk hk=>by rw[hw k hk]]
 have hc:s'.c=s.c+1:=hsum Wk.cnt
 let x:MemOp:={g:=0,fn:=h.frame.fn,pos:=h.frame.place,act:= .go gs.size}
 let y:MemOp:={g:=gs.size,fn:=(j7 X.p).frame.fn,pos:=h.frame.place,act:= .start}
 have hxy:((#[]:Trace).push x).push y=#[x,y]:=rfl
 have hrun':runT Pg (crowd gs v sl) 0=(.next (crowd ((gs.setIfInBounds 0 h1).push (j7 X.p)) v sl),#[x,y]):=hrun
 have hstill:∀k,Deaf (t++#[x,y]) k=Deaf t k:=λk=>nt t k [x,y] (by intro op ag;simp at ag;rcases ag with rfl|rfl<;>exact⟨by simp[x,y],by simp[x,y]⟩)
 refine⟨s',_,_,_,hrun',⟨?_,?_,?_,?_,?_⟩,.inl ?_⟩
 ·refine⟨by simp[hsz,s'];omega,⟨h1,?_,hM⟩,λk hk=>?_,λk g hk bd hg=>?_,λk hk=>?_⟩
  ·rw[YH,AS (by rw[YK];omega),YT (by omega)]
  ·rw[hstill]
   have hk':k< s.j+1:=hk
   rcases Yw k s.j with hlt|hge
   ·obtain⟨g,hg,hW⟩:=H.gs.work k hlt
    refine⟨g,?_,by rw[hw k hlt,ho k hlt];exact hW⟩
    rw[YH,AS (by simp;omega),Ye (by omega)]
    exact hg
   ·obtain rfl:k=s.j:=by omega
    refine⟨j7 X.p,by rw[YH,AT (by simp[hsz])],?_⟩
    rw[hwj,hoj]
    exact⟨(VI X.p).aD,H.gs.above _ (by omega)⟩
  ·rw[hstill]
   rw[YH,AS (by simp;omega),Ye (by omega)] at hg
   exact H.gs.jP k g hk bd hg
  ·rw[hstill]
   simp at hk
   exact H.gs.above k (by omega)
 ·exact H.wd.same rfl (by rw[e2,hmt];rfl) (by rw[e1,hmt];rfl) rfl rfl rfl rfl
 ·have hs0:s.mt.bu X=0:=by rw[hmt];rfl
  refine⟨by show s.j+1=mt'.on X;rw[e3,hj],by show mt'.bu X<=_;omega,by show s.rN+s.bZ.length=mt'.bu X;rw[e1,H.ac.kQ,hs0],λm hm=>?_,?_,H.ac.ew,H.ac.okB,λk hk hp=>?_,λk hk hr=>?_⟩
  ·have:m< mt'.bu X:=hm
   omega
  ·have this:sumTo (s.j+1) (λk=>if (s'.ws k).bJ.isSome then 1 else 0)=sumTo s.j (λk=>if (s.ws k).bJ.isSome then 1 else 0)+0:=hsum (λx=>if x.bJ.isSome then 1 else 0)
   have h2:=H.ac.count
   show s.bZ.length+sumTo (s.j+1) (λk=>if (s'.ws k).bJ.isSome then 1 else 0)+s.cX.length<=mt'.bu X
   omega
  ·have hk':k< s.j+1:=hk
   rcases Yw k s.j with hlt|hge
   ·rw[hw k hlt] at hp
    exact⟨(H.ac.dh k hlt hp).1,e2⟩
   ·obtain rfl:k=s.j:=by omega
    rw[hwj] at hp
    cases hp
  ·have hk':k< s.j+1:=hk
   rcases Yw k s.j with hlt|hge
   ·rw[hw k hlt] at hr
    have:=(H.ac.gone k hlt hr).1
    rw[hmt] at this
    cases this
   ·obtain rfl:k=s.j:=by omega
    rw[hwj] at hr
    simp[Wk.ah] at hr
 ·refine .opn e6 (λk hk=>?_) ?_ a3 (λk n xs ys h=>absurd h (e7 k n xs ys))
  ·have hk':k< s.j+1:=hk
   rcases Yw k s.j with hlt|hge
   ·rw[hw k hlt];exact a1 k hlt
   ·obtain rfl:k=s.j:=by omega
    rw[hwj];exact .inr (by simp[Wk.ah])
  ·show s.st=(s'.c+mt'.eA)*aM
   rw[hc,e4];exact a2'
 ·have hd0:Deaf t 0=0:=by rw[H.tr.d0,hmt];rfl
  have hf:=H.tr.tp.fork (.inl rfl) (k:=gs.size) (by omega) (λhx=>by have:=hx.2;omega) (λb hb=>by obtain⟨i,hi,he,_⟩:=hb;omega) (x:=x) (y:=y) ⟨rfl,rfl⟩ ⟨rfl,rfl⟩ hd0 (H.gs.above _ (AI _))
  have l1:(λk=>(k=0\/fp X s k)\/k=gs.size)=(λk=>k=0\/fp X s' k):=by
   funext k
   apply propext
   show ((k=0\/(X.n0<=k/\k< X.n0+s.j))\/k=gs.size)↔(k=0\/(X.n0<=k/\k< X.n0+(s.j+1)))
   omega
  have l2:(λk=>fp X s k\/k=gs.size)=fp X s':=by
   funext k
   apply propext
   show ((X.n0<=k/\k< X.n0+s.j)\/k=gs.size)↔(X.n0<=k/\k< X.n0+(s.j+1))
   omega
  rw[l1,l2] at hf
  have hnt:∀op∈(#[x,y]:Trace),op.act.touch? =none:=λop ag=>by simp at ag;rcases ag with rfl|rfl<;>rfl
  refine⟨hf.grow (AI _) (λk b=>?_) (λb hb=> .inl hb) (λb hb=> .inl hb) (λb hb=>hb),λk b hk hb=>?_,λk k' b hk hk' hb hb'=>?_,λk hk hr=>?_,H.tr.norel.app λop ag=>?_,by rw[hstill,hd0];exact e5.symm,λn xs hx=>absurd hx (e8 n xs)⟩
  ·rintro⟨k',hk',rfl,hb⟩
   have hk2:k'< s.j+1:=hk'
   rcases Yw k' s.j with hlt|hge
   ·rw[ho k' hlt] at hb;exact .inl ⟨k',hlt,rfl,hb⟩
   ·obtain rfl:k'=s.j:=by omega
    rw[hoj] at hb;exact hb.elim
  ·have hk2:k< s.j+1:=hk
   rcases Yw k s.j with hlt|hge
   ·rw[ho k hlt] at hb;exact H.tr.own k b hlt hb
   ·obtain rfl:k=s.j:=by omega
    rw[hoj] at hb;exact hb.elim
  ·have hk2:k< s.j+1:=hk
   have hk3:k'< s.j+1:=hk'
   rcases Yw k s.j with hlt|hge
   ·rcases Yw k' s.j with hlt'|hge'
    ·rw[ho k hlt] at hb;rw[ho k' hlt'] at hb';exact H.tr.apart k k' b hlt hlt' hb hb'
    ·obtain rfl:k'=s.j:=by omega
     rw[hoj] at hb';exact hb'.elim
   ·obtain rfl:k=s.j:=by omega
    rw[hoj] at hb;exact hb.elim
  ·have hk2:k< s.j+1:=hk
   rcases Yw k s.j with hlt|hge
   ·rw[hw k hlt] at hr
    obtain⟨r,hrr⟩:=H.tr.rel k hlt hr
    exact⟨r,RelBy.still hrr hnt⟩
   ·obtain rfl:k=s.j:=by omega
    rw[hwj] at hr;cases hr
  ·simp at ag;rcases ag with rfl|rfl<;>simp[x,y]
 ·have h1:=hsum Wk.ah
  have h2:=e9 s'.c
  show mt'.ah s'.c+sumTo (s.j+1) (λk=>(s'.ws k).ah)+12*s'.c+60*(X.E.n - s.rN)< s.mt.ah s.c+sumTo s.j (λk=>(s.ws k).ah)+12*s.c+60*(X.E.n - s.rN)
  simp only[Wk.ah] at h1 ⊢
  omega
theorem Jy(O:aP T Goal X){s:PS}{gs:Array Goroutine}{v:World}{sl:Option (Nat×Nat)}{t:Trace}(H:PI T Goal X s gs v t){h:Goroutine}(h0:gs[0]? =some h)(hm:bY X h s.mt){i:Nat}{xs:Nat->Value}(hmt:s.mt= .go i 0 xs):bA T Goal X s gs v sl t 0:=by
 rw[hmt] at hm
 obtain⟨hgl,hi⟩:=hm
 cases hgl
 obtain⟨e,xs',hg⟩:=I2 O xs hi
 have hnW:=O.nW
 rcases Yw (i+1) X.nW with hlt|hge
 ·refine Ao O H h0 hmt (e v) (mt':= .ef (i+1) 31 xs') ⟨hg.trans ((DQ O xs' (i:=i+1) (by omega)).1 hlt),hlt⟩ rfl rfl rfl rfl rfl rfl (λ_ _ _ _ h=>by cases h) (λ_ _ h=>by cases h) (λc=>?_)
  rw[hmt]
  simp only[Mt.ah]
  omega
 ·have hin:i+1=X.nW:=by omega
  obtain⟨xs2,hg2⟩:=(DQ O xs' (i:=i+1) (by omega)).2 hin
  refine Ao O H h0 hmt (e v) (mt':= .ld 0 37 xs2) ⟨hg.trans hg2,by have:=O.nn;omega⟩ rfl rfl hin.symm rfl rfl rfl (λ_ _ _ _ h=>by cases h) (λ_ _ h=>by cases h) (λc=>?_)
  rw[hmt]
  simp only[Mt.ah]
  omega
theorem Gs.BM{s s':PS}{gs:Array Goroutine}{v v1:World}{t:Trace}(O:aP T Goal X)(H:Gs T Goal X s gs v t){h1:Goroutine}(hM:bY X h1 s'.mt)(e1:s'.j=s.j)(e2:s'.ws=s.ws)(e3:s'.ow=s.ow)(e5:s'.q=s.q){u:List MemOp}(h3:∀op∈u,o8 op.act)(hs:v.heap.size<=v1.heap.size)(ho:∀b,((∃r,X.E.ρ r b)\/∃i,i< s.j/\s.ow i b)->v1.heap[b]? =v.heap[b]?):Gs T Goal X s' (gs.setIfInBounds 0 h1) v1 (t++u.toArray):=by
 have hn0:=O.n0
 have hdf:∀i,Deaf (t++u.toArray) i=Deaf t i:=λi=>nt t i u h3
 refine⟨by simp[H.size,e1],⟨h1,by rw[YT (by rw[H.size];omega)],hM⟩,λi hi=>?_,λi x hi hn hg=>?_,λi hi=>?_⟩
 ·rw[e1] at hi
  rw[hdf,e2,e3]
  obtain⟨x,hx,hw⟩:=H.work i hi
  refine⟨x,by rw[Ye (by omega)];exact hx,?_⟩
  exact hw.me hs λb hb=>ho b (hb.imp id λx=>⟨i,hi,x⟩)
 ·rw[Ye (by omega)] at hg
  rw[hdf,e5]
  exact H.jP i x hi hn hg
 ·rw[hdf]
  exact H.above i (by simpa using hi)
theorem Qo(O:aP T Goal X)(xs:Nat->Value){j:Nat}(hj:j< X.E.n): ∃mt',bY X (nG X.M xs X.ds j) mt'/\mt'.bu X=j+1/\mt'.shut=false/\mt'.on X=X.nW/\mt'.eA=0/\mt'.deaf=0/\kp mt'=true/\(∀k n xs ys,mt'≠.fF k n xs ys)/\(∀n xs,mt'≠.fin n xs)/\∀c c' n xs,mt'.ah c< (Mt.sd j n xs).ah c':=by
 have hn:=O.nn
 have h1:=(Qa X.M xs X.ds j).aD
 rw[TL,wrap_small (by omega) (by omega)] at h1
 have hl:=Bq O (iA (aw Pg true 9 (nG X.M xs X.ds j))) (j:=j+1) (by omega)
 rcases Yw (j+1) X.E.n with hlt|hge
 ·refine⟨.ld (j+1) 22 _,⟨h1.trans (hl.1 hlt),hlt⟩,rfl,rfl,rfl,rfl,rfl,rfl,(λ_ _ _ _ h=>by cases h),(λ_ _ h=>by cases h),λc c' n xs=>?_⟩
  simp only[Mt.ah]
  omega
 ·have he:j+1=X.E.n:=by omega
  refine⟨.lc 16 _,h1.trans (hl.2 he),he.symm,rfl,rfl,rfl,rfl,rfl,(λ_ _ _ _ h=>by cases h),(λ_ _ h=>by cases h),λc c' n xs=>?_⟩
  simp only[Mt.ah]
  omega
theorem SU(O:aP T Goal X){s:PS}{gs:Array Goroutine}{v:World}{sl:Option (Nat×Nat)}{t:Trace}(H:PI T Goal X s gs v t){h:Goroutine}(h0:gs[0]? =some h)(hm:bY X h s.mt){j:Nat}{xs:Nat->Value}(hmt:s.mt= .sd j 0 xs):bA T Goal X s gs v sl t 0:=by
 rw[hmt] at hm
 obtain⟨hgl,hj⟩:=hm
 cases hgl
 have hn0:=O.n0
 have b1:=O.bT;have b2:=O.cN;have b3:=O.bN;have b4:=O.cB;have b5:=O.bB;have b6:=O.wg
 obtain⟨a1,a2,a3,a4⟩:=iU H.wg (by rw[hmt];rfl)
 rw[hmt] at a2
 have a2':s.st=s.c*aM:=a2
 have e:stepG Pg (0==0) (iT X.M xs X.ds j) v= .comm (iT X.M xs X.ds j) #[scase X.M.cN (X.num j) (.tuple #[])] true .send v #[]:=by
  have hc:=aI.comm (BC X.M xs X.ds j) (Xc X.M xs X.ds j) (w:=v) (w':=v) (es:=#[]) ⟨rfl,rfl⟩
  rw[eH,J6] at hc
  unfold uJ at hc
  rw[O.first] at hc
  exact hc
 have hz:∀fn pos,MemOp.ofEvents 0 fn pos #[]=#[]:=λfn pos=>by simp[ofEvents_eq]
 have hcN:=H.wd.cN
 have hsh:s.mt.shut=false:=by rw[hmt];rfl
 have hst:s.mt.bu X=j:=by rw[hmt];rfl
 rw[hsh,hst] at hcN
 have hcl:X.M.cN< v.heap.size:=by have:=H.wd.size;omega
 have hgot:=H.ac.kQ
 rw[hst] at hgot
 have hcount:=H.ac.count
 rw[hst] at hcount
 have hon:s.j=X.nW:=by rw[H.ac.on,hmt];rfl
 obtain⟨mt',hM',f1,f2,f3,f4,f5,f6,f7,f8,f9⟩:=Qo O xs hj
 have aA:∀i b,i< s.j->s.ow i b->b≠X.M.cN:=λi b hi hb h=>by have:=(H.tr.own i b hi hb).1;omega
 have hsent:(iT X.M xs X.ds j).finishComm Pg #[scase X.M.cN (X.num j) (.tuple #[])] .send 0 undef false=nG X.M xs X.ds j:=by
  unfold nG uJ
  rw[O.first]
  rfl
 by_cases hp:partners (gs.setIfInBounds 0 ph) X.M.cN false= []
 ·
  have hroom:(s.bZ.map X.num).toArray.size< X.E.n:=by simp;omega
  have hrun:=crowd_send_room (P:=Pg) (sl:=sl) h0 e hcN hroom hp
  rw[hz,Zp,hsent] at hrun
  have ep:(s.bZ.map X.num).toArray.push (X.num j)=((s.bZ++ [j]).map X.num).toArray:=by simp
  rw[ep] at hrun
  obtain⟨c1,c2,c3,c4,c5,c6⟩:=rA v X.M.cN X.E.n ((s.bZ++ [j]).map X.num).toArray false (j+1) s.rN false hcl
  let s':PS:={s with mt:=mt',bZ:=s.bZ++ [j]}
  refine⟨s',_,_,_,hrun,⟨?_,?_,?_,?_,?_⟩,.inl ?_⟩
  ·refine H.gs.BM O (s':=s') hM' rfl rfl rfl rfl (u:=[_,_]) ?_ (by rw[c1];exact AI _) ?_
   ·intro op ag;simp at ag;rcases ag with rfl|rfl<;>exact⟨by simp,by simp⟩
   ·rintro b (⟨r,hr⟩|⟨m,hm,hb'⟩)
    ·exact c3 b (by have:=(O.K.cf r b hr).2;omega)
    ·exact c3 b (aA m b hm hb')
  ·refine⟨⟨by rw[c1];exact H.wd.old.1,λb hb'=>by rw[c3 b (by omega)];exact H.wd.old.2 b hb'⟩,by rw[c1];exact H.wd.size,?_,?_,?_,?_,?_,?_,H.wd.tape,H.wd.os,H.wd.output⟩
   ·rw[c3 _ (by omega)];exact H.wd.bT
   ·rw[c3 _ (by omega)];exact H.wd.bN
   ·rw[c3 _ (by omega)];exact H.wd.bB
   ·rw[c2];show _=some (Obj.chan X.E.n ((s.bZ++ [j]).map X.num).toArray mt'.shut (mt'.bu X) s.rN false);rw[f1,f2]
   ·obtain⟨sB,hB⟩:=H.wd.cB;exact⟨sB,by rw[c3 _ (by omega)];exact hB⟩
   ·rw[c3 _ (by omega)];exact H.wd.wg
  ·refine⟨by show s.j=mt'.on X;rw[f3,hon],by show mt'.bu X<=_;omega,by show s.rN+(s.bZ++ [j]).length=mt'.bu X;simp;omega,λm hm=>?_,?_,λm hm=>?_,H.ac.okB,λm hm hpk=>?_,λm hm hr=>?_⟩
   ·have hm':m< mt'.bu X:=hm
    rcases Yw m j with hlt|hge
    ·rcases H.ac.cover m (by omega) with h|h|h
     ·exact .inl (by show m∈s.bZ++ [j];simp[h])
     ·exact .inr (.inl h)
     ·exact .inr (.inr h)
    ·exact .inl (by show m∈s.bZ++ [j];simp;omega)
   ·show (s.bZ++ [j]).length+sumTo s.j (λk=>if (s.ws k).bJ.isSome then 1 else 0)+s.cX.length<=mt'.bu X
    simp only[Yh,Ys,Zc]
    omega
   ·have hm':m∈s.bZ++ [j]:=hm
    simp at hm'
    rcases hm' with h|rfl
    ·exact H.ac.ew m h
    ·exact hj
   ·
    exfalso
    obtain⟨g,hg,hW⟩:=H.gs.work m hm
    rcases hW.status with ⟨hx,_⟩|⟨ys,hx,rfl⟩
    ·rw[show (s.ws m).parked=true from hpk] at hx;cases hx
    ·have:(X.n0+m,0)∈partners (gs.setIfInBounds 0 ph) X.M.cN false:=by
      refine mem_partners.2 ⟨_,by rw[Ye (by omega)];exact hg,?_⟩
      unfold jD
      rw[rG,offersAt_parked_recv]
      simp
     rw[hp] at this
     cases this
   ·have:=(H.ac.gone m hm hr).1
    rw[hsh] at this;cases this
  ·refine .opn f6 a1 ?_ a3 (λk n xs ys h=>absurd h (f7 k n xs ys))
   show s.st=(s.c+mt'.eA)*aM
   rw[f4];exact a2'
  ·refine H.tr.still (s':=s') rfl rfl (λm hm hrl=>hrl) (by show mt'.deaf=_;rw[f5,hmt];rfl) c1 (λn xs h=>f8 n xs h) (u:=[_,_]) ?_ ?_ ?_ ?_
   ·intro op ag;simp at ag;rcases ag with rfl|rfl<;>rfl
   ·intro op ag;simp at ag;rcases ag with rfl|rfl<;>exact hcl
   ·intro op ag;simp at ag;rcases ag with rfl|rfl<;>exact⟨by simp,by simp⟩
   ·intro op ag;simp at ag;rcases ag with rfl|rfl<;>simp
  ·have:=f9 s.c s.c 0 xs
   rw[←hmt] at this
   show mt'.ah s.c+sumTo s.j (λm=>(s.ws m).ah)+12*s.c+60*(X.E.n - s.rN)< s.mt.ah s.c+sumTo s.j (λm=>(s.ws m).ah)+12*s.c+60*(X.E.n - s.rN)
   omega
 ·
  have hall:∀m k,(m,k)∈partners (gs.setIfInBounds 0 ph) X.M.cN false->k=0/\m≠0/\∃gj zj shj,gs[m]? =some (parked gj #[rcase X.M.cN zj] shj):=by
   intro m k hmk
   obtain⟨g,hg,ho⟩:=mem_partners.1 hmk
   rcases getElem?_stand gs 0 m g hg with ⟨_,rfl⟩|⟨hm0,hg⟩
   ·cases ho
   ·rcases vC O H.gs hg with ⟨k',ys,_,_,_,rfl⟩|h'
    ·unfold jD at ho hg
     rw[rG] at ho hg
     rw[offersAt_parked_recv,AT rfl] at ho
     exact⟨by simpa using ho,hm0,_,_,_,hg⟩
    ·rw[h'] at ho;cases ho
  obtain⟨m,gj,zj,shj,d,hm0,eF,hrun⟩:=crowd_send_meets_some (P:=Pg) (sl:=sl) h0 e hcN hp hall
  obtain⟨k,ys,hk,rfl,hσ,hgk⟩: ∃k ys,k< s.j/\m=X.n0+k/\s.ws k= .dh ys/\parked gj #[rcase X.M.cN zj] shj=jD X ys:=by
   rcases vC O H.gs eF with h|h'
   ·exact h
   ·have:=h' X.M.cN false
    rw[offersAt_parked_recv,AT rfl] at this
    cases this
  have hoff:=congrArg Goroutine.offers hgk
  have hfc:gj.finishComm Pg #[rcase X.M.cN zj] shj 0 (X.num j) true=(gS X.p ys).finishComm Pg #[rcase X.M.cN (.int .i64 0)] (.recv true) 0 (X.num j) true:=by
   have hoff':some ((#[rcase X.M.cN zj]:Array CommCase),shj)=some ((#[rcase X.M.cN (.int .i64 0)]:Array CommCase),CommShape.recv true):=hoff
   simp only[X2,Yp] at hoff'
   rw[←finishComm_parked Pg gj _ #[rcase X.M.cN zj] _ shj,hgk,hoff'.1,hoff'.2]
   unfold jD
   exact finishComm_parked Pg (gS X.p ys) _ _ _ _ _ _ _
  obtain⟨hbN,_⟩:=H.ac.dh k hk (by rw[hσ];rfl)
  rw[hz,Zp,hsent,hfc,hbN] at hrun
  have hcl':X.M.cN< (v.at d).heap.size:=hcl
  obtain⟨c1,c2,c3,c4,c5,c6⟩:=rA (v.at d) X.M.cN X.E.n (([]:List Nat).map X.num).toArray false (j+1) (s.rN+1) false hcl'
  have k1:(v.at d).heap=v.heap:=rfl
  rw[k1] at c1 c3
  have hr:(s.ws k).ah=8/\(s.ws k).bJ=none/\(s.ws k).cnt=1:=by rw[hσ];exact⟨rfl,rfl,rfl⟩
  let σ:Wk:= .draw 11 j (iW ys (IntKind.i64.wrap (X.E.first+j)))
  let s':PS:={s with mt:=mt',ws:=upd s.ws k σ,rN:=s.rN+1}
  let s1:PS:={s with ws:=upd s.ws k σ,rN:=s.rN+1}
  have hsw:∀m,m≠k->upd s.ws k σ m=s.ws m:=λm hm=>upd_ne _ _ hm
  have hsk:upd s.ws k σ k=σ:=upd_same _ _ _
  have hrs:∀f:Wk->Nat,sumTo s.j (λm=>f (upd s.ws k σ m))+f (s.ws k)=sumTo s.j (λm=>f (s.ws m))+f σ:=λf=>sumTo_upd s.ws σ f hk
  have hst8:∀b,((∃r,X.E.ρ r b)\/∃i,i< s.j/\s.ow i b)->((v.at d).setChan X.M.cN X.E.n (([]:List Nat).map X.num).toArray false (j+1) (s.rN+1) false).heap[b]? =v.heap[b]? :=by
   rintro b (⟨r,hr⟩|⟨m,hm,hb'⟩)
   ·exact c3 b (by have:=(O.K.cf r b hr).2;omega)
   ·exact c3 b (aA m b hm hb')
  refine⟨s',_,_,_,hrun,⟨?_,?_,?_,?_,?_⟩,.inl ?_⟩
  ·have hg1:=H.gs.comm O hk (s':=s1) (g1:=(gS X.p ys).finishComm Pg #[rcase X.M.cN (.int .i64 0)] (.recv true) 0 (X.num j) true) rfl hsw rfl rfl rfl (u:=[{g:=0,fn:=(iT X.M xs X.ds j).frame.fn,pos:=(iT X.M xs X.ds j).frame.place,act:= .send X.M.cN j},{g:=X.n0+k,fn:=gj.frame.fn,pos:=gj.frame.place,act:= .recv X.M.cN s.rN X.E.n},{g:=0,fn:=(iT X.M xs X.ds j).frame.fn,pos:=(iT X.M xs X.ds j).frame.place,act:= .sendDone X.M.cN j},{g:=X.n0+k,fn:=gj.frame.fn,pos:=gj.frame.place,act:= .recvDone X.M.cN s.rN}])
    (v1:=(v.at d).setChan X.M.cN X.E.n (([]:List Nat).map X.num).toArray false (j+1) (s.rN+1) false) ?_ ?_ (by rw[c1];exact AI _) hst8
   ·have hg2:=hg1.BM O (s':=s') (h1:=nG X.M xs X.ds j) hM' rfl rfl rfl rfl (u:=[]) (λop ag=>by cases ag) (AI _) (λ_ _=>rfl)
    simpa using hg2
   ·intro op ag;simp at ag;rcases ag with rfl|rfl|rfl|rfl<;>exact⟨by simp,by simp⟩
   ·show gK T Goal X (s.ow k) _ _ _ (upd s.ws k σ k)
    rw[hsk]
    have hd:Deaf t (X.n0+k)=0:=by
     obtain⟨g,hg,hW⟩:=H.gs.work k hk
     rw[hσ] at hW
     exact hW.2
    refine⟨?_,hd,hj,rfl⟩
    have hgd:=(zg X.p ys (IntKind.i64.wrap (X.E.first+j))).aD
    rw[Fg] at hgd
    exact hgd
  ·refine⟨⟨by rw[c1];exact H.wd.old.1,λb hb'=>by rw[c3 b (by omega)];exact H.wd.old.2 b hb'⟩,by rw[c1];exact H.wd.size,?_,?_,?_,?_,?_,?_,H.wd.tape,H.wd.os,H.wd.output⟩
   ·rw[c3 _ (by omega)];exact H.wd.bT
   ·rw[c3 _ (by omega)];exact H.wd.bN
   ·rw[c3 _ (by omega)];exact H.wd.bB
   ·rw[c2];show _=some (Obj.chan X.E.n (s.bZ.map X.num).toArray mt'.shut (mt'.bu X) (s.rN+1) false);rw[f1,f2,hbN]
   ·obtain⟨sB,hB⟩:=H.wd.cB;exact⟨sB,by rw[c3 _ (by omega)];exact hB⟩
   ·rw[c3 _ (by omega)];exact H.wd.wg
  ·rw[hbN] at hgot hcount
   simp only[Zc] at hgot hcount
   refine⟨by show s.j=mt'.on X;rw[f3,hon],by show mt'.bu X<=_;omega,by show s.rN+1+s.bZ.length=mt'.bu X;rw[hbN,f1];simp;omega,λi hi=>?_,?_,H.ac.ew,H.ac.okB,λi hi hpk=>?_,λi hi hr=>?_⟩
   ·have hi':i< mt'.bu X:=hi
    rcases Yw i j with hlt|hge
    ·rcases H.ac.cover i (by omega) with h|h|⟨k',h1,h2⟩
     ·exact .inl h
     ·exact .inr (.inl h)
     ·refine .inr (.inr ⟨k',h1,?_⟩)
      have:k'≠k:=λe=>by rw[e,hr.2.1] at h2;cases h2
      show (upd s.ws k σ k').bJ=some i
      rw[hsw k' this];exact h2
    ·obtain rfl:i=j:=by omega
     exact .inr (.inr ⟨k,hk,by show (upd s.ws k σ k).bJ=some i;rw[hsk];rfl⟩)
   ·have:=hrs (λx=>if x.bJ.isSome then 1 else 0)
    rw[hr.2.1] at this
    have this:sumTo s.j (λm=>if (upd s.ws k σ m).bJ.isSome then 1 else 0)+0=sumTo s.j (λm=>if (s.ws m).bJ.isSome then 1 else 0)+1:=this
    show s.bZ.length+sumTo s.j (λm=>if (upd s.ws k σ m).bJ.isSome then 1 else 0)+s.cX.length<=mt'.bu X
    rw[hbN,f1]
    simp only[Zc]
    omega
   ·have hpk':(upd s.ws k σ i).parked=true:=hpk
    by_cases hik:i=k
    ·subst hik;rw[hsk] at hpk';cases hpk'
    ·rw[hsw i hik] at hpk'
     exact⟨(H.ac.dh i hi hpk').1,f2⟩
   ·have hr':(upd s.ws k σ i).ah<=7:=hr
    by_cases hik:i=k
    ·subst hik;rw[hsk] at hr';simp[σ,Wk.ah] at hr'
    ·rw[hsw i hik] at hr'
     have:=(H.ac.gone i hi hr').1
     rw[hsh] at this;cases this
  ·have hcc:s'.c=s.c:=by
    have:=hrs Wk.cnt
    rw[hr.2.2] at this
    have this:sumTo s.j (λm=>(upd s.ws k σ m).cnt)+1=sumTo s.j (λm=>(s.ws m).cnt)+1:=this
    show sumTo s.j (λm=>(upd s.ws k σ m).cnt)=sumTo s.j (λm=>(s.ws m).cnt)
    omega
   refine .opn f6 (λi hi=>?_) ?_ a3 (λk n xs ys h=>absurd h (f7 k n xs ys))
   ·show (upd s.ws k σ i).ah=0\/4<=(upd s.ws k σ i).ah
    by_cases hik:i=k
    ·subst hik;rw[hsk];exact .inr (by simp[σ,Wk.ah])
    ·rw[hsw i hik];exact a1 i hi
   ·show s.st=(s'.c+mt'.eA)*aM
    rw[f4,hcc];exact a2'
  ·refine H.tr.still (s':=s') rfl rfl (λi hi hrl=>?_) (by show mt'.deaf=_;rw[f5,hmt];rfl) c1 (λn xs h=>f8 n xs h) (u:=[_,_,_,_]) ?_ ?_ ?_ ?_
   ·have hrl':(upd s.ws k σ i).rel=true:=hrl
    by_cases hik:i=k
    ·subst hik;rw[hsk] at hrl';cases hrl'
    ·rw[hsw i hik] at hrl';exact hrl'
   ·intro op ag;simp at ag;rcases ag with rfl|rfl|rfl|rfl<;>rfl
   ·intro op ag;simp at ag;rcases ag with rfl|rfl|rfl|rfl<;>exact hcl
   ·intro op ag;simp at ag;rcases ag with rfl|rfl|rfl|rfl<;>exact⟨by simp,by simp⟩
   ·intro op ag;simp at ag;rcases ag with rfl|rfl|rfl|rfl<;>simp
  ·have hcc:s'.c=s.c:=by
    have:=hrs Wk.cnt
    rw[hr.2.2] at this
    have this:sumTo s.j (λm=>(upd s.ws k σ m).cnt)+1=sumTo s.j (λm=>(s.ws m).cnt)+1:=this
    show sumTo s.j (λm=>(upd s.ws k σ m).cnt)=sumTo s.j (λm=>(s.ws m).cnt)
    omega
   have h1:=hrs Wk.ah
   have h2:=f9 s.c s.c 0 xs
   rw[←hmt] at h2
   rw[hr.1] at h1
   rw[hbN] at hgot
   simp only[Zc] at hgot
   show mt'.ah s'.c+sumTo s.j (λm=>(upd s.ws k σ m).ah)+12*s'.c+60*(X.E.n - (s.rN+1))< s.mt.ah s.c+sumTo s.j (λm=>(s.ws m).ah)+12*s.c+60*(X.E.n - s.rN)
   rw[hcc]
   have hσr:σ.ah=60:=rfl
   rw[hσr] at h1
   omega
end
end
end Go.Proofs.YtldmcdeibiclkaaGreatDoor.U
