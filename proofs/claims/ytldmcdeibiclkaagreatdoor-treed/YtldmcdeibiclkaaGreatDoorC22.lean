/-
  Toward: treed_holds, each node's digest is that of its children's, for every argument of Treed. THE POOL's MACHINE: a worker counts itself out; the last one wakes the starter.
  THE POOL's MACHINE: a worker receives a number, waits for one, sends a digest.
-/
import Derived.Test.YtldmcdeibiclkaaGreatDoorC21
set_option linter.unusedVariables false
set_option linter.unusedSimpArgs false
set_option maxRecDepth 4000
section
namespace Go.Proofs.YtldmcdeibiclkaaGreatDoor.U
open Go.Conc
open Go.ConcN (upd upd_same upd_ne sumTo sumTo_upd sumTo_congr sumTo_le le_sumTo RelBy)
theorem less0:less 4294967296=0:=by kernel_rfl
theorem less1:less 8589934592=4294967296:=by kernel_rfl
theorem less2:less 12884901888=8589934592:=by kernel_rfl
theorem less3:less 17179869184=12884901888:=by kernel_rfl
theorem lessR0:less 4294967297=1:=by kernel_rfl
theorem lessR1:less 8589934593=4294967297:=by kernel_rfl
theorem lessR2:less 12884901889=8589934593:=by kernel_rfl
theorem lessR3:less 17179869185=12884901889:=by kernel_rfl
theorem leaveN (p:Pl) (xs:Nat→Value) (wg:Nat) {N:Nat} (h:N≤3):less ((N+1)*KK':Nat)=(N*KK':Nat)∧QuitsD Pg 94 1 (anAdded (cD p xs::csD p xs) wg (N*KK':Nat)):=by
 rcases (show N=0∨N=1∨N=2∨N=3 by omega) with rfl|rfl|rfl|rfl
 ·exact ⟨less0,leave_0 _ _ wg (back_quits p xs)⟩
 ·exact ⟨less1,leave_4294967296 _ _ wg (back_quits p xs)⟩
 ·exact ⟨less2,leave_8589934592 _ _ wg (back_quits p xs)⟩
 ·exact ⟨less3,leave_12884901888 _ _ wg (back_quits p xs)⟩
theorem leaveR (p:Pl) (xs:Nat→Value) (wg:Nat) {N:Nat} (h1:1≤N) (h:N≤3):less ((N+1)*KK'+1:Nat)=(N*KK'+1:Nat)∧QuitsD Pg 94 1 (anAdded (cD p xs::csD p xs) wg (N*KK'+1:Nat)):=by
 rcases (show N=1∨N=2∨N=3 by omega) with rfl|rfl|rfl
 ·exact ⟨lessR1,leave_4294967297 _ _ wg (back_quits p xs)⟩
 ·exact ⟨lessR2,leave_8589934593 _ _ wg (back_quits p xs)⟩
 ·exact ⟨lessR3,leave_12884901889 _ _ wg (back_quits p xs)⟩
section
variable {L:Lim} {T:Tab} {Goal:Frame→List Frame→World→Prop} {X:PC L}
theorem Wk.cnt_le (σ:Wk):σ.cnt≤1:=by cases σ<;> simp [Wk.cnt]
theorem Wk.cnt_rank (σ:Wk):(σ.cnt=1↔4≤σ.rank):=by cases σ<;> simp [Wk.cnt,Wk.rank]<;> omega
theorem Mt.rank_le (mt:Mt) (c c':Nat):mt.rank c'≤mt.rank c+11:=by
 cases mt<;> simp only [Mt.rank]<;> (try omega)
 split<;> split<;> omega
theorem c_bound (O:PCOk T Goal X) {s:PS} {gs:Array Goroutine} {v:World} {t:Trace} (H:PI T Goal X s gs v t):s.c+s.mt.pend≤4:=by
 have h1:s.c≤1*s.j:=sumTo_le fun i _=>Wk.cnt_le _
 have h2:=nW_le O H.ac H.gs
 have h3:=H.ac.on
 have h4:=O.nw
 obtain ⟨h,_,hM⟩:=H.gs.main
 cases hmt:s.mt<;> rw [hmt] at h3 hM<;> simp only [Mt.on,MAt,Mt.pend] at h3 hM ⊢ <;> omega
theorem sum_one {f:Nat→Nat}: ∀{j k:Nat},k< j→sumTo j f=f k→∀i,i< j→i≠k→f i=0
 |j+1,k,hk,h,i,hi,hne=>by
  simp only [sumTo] at h
  rcases Nat.lt_or_ge k j with hkj|hkj
  ·have h1:=le_sumTo (f:=f) hkj
   rcases Nat.lt_or_ge i j with hij|hij
   ·exact sum_one hkj (by omega) i hij hne
   ·obtain rfl:i=j:=by omega
    omega
  ·obtain rfl:k=j:=by omega
   have h2:=le_sumTo (f:=f) (show i< k by omega)
   omega
theorem deaf_at (d:Nat) (a:Addr):deafBehind d #[⟨.cell a,false,true⟩,⟨.cell a,true,true⟩]=d:=rfl
theorem w_add (O:PCOk T Goal X) {s:PS} {gs:Array Goroutine} {v:World} {sl:Option (Nat×Nat)} {t:Trace} (H:PI T Goal X s gs v t) (hfin: ∀n xs,s.mt= .fin n xs→False) {k:Nat} (hk:k< s.j) {xs:Nat→Value} (hσ:s.ws k= .add 0 xs):StepsTo T Goal X s gs v sl t (X.n0+k):=by
 obtain ⟨g,hg,hW⟩:=H.gs.work k hk
 rw [hσ] at hW
 obtain ⟨hgl,hd⟩:=hW
 cases hgl
 have hr:(s.ws k).rank=4:=by rw [hσ];rfl
 have hcn:(s.ws k).cnt=1:=by rw [hσ];rfl
 have hc1:1≤s.c:=by have:=le_sumTo (f:=fun i=>(s.ws i).cnt) hk;unfold PS.c;omega
 have hcb:=c_bound O H
 have hgone:=H.ac.gone k hk (by omega)
 obtain ⟨r,hrel⟩:=H.tr.rel k hk (by rw [hσ];rfl)
 have hwg0: ¬ s.ow k X.M.wg:=fun h=>by have:=(H.tr.own k _ hk h).1;omega
 have so:=set_other v X.M.wg 0
 have key: ∀(st':Nat) (σ:Wk),less s.st=st'→σ.cnt=0→σ.job=none→σ.parked=false→σ.rel=true→σ.rank≤3→WAt T Goal X (s.ow k) 1 (anAdded (cD X.p xs::csD X.p xs) X.M.wg st') (v.setCell ⟨X.M.wg,0,none⟩ (.int .u64 st')) σ→
   (∀mt',MLike s.mt mt'→Wg {s.wk mt' k σ (s.ow k) with st:=st',sm:=s.sm})→StepsTo T Goal X s gs v sl t (X.n0+k):=by
  intro st' σ hst h1 h2 h3 h4 h5 hWA hWg
  have e:=AtOp.value (anAdd_op (cD X.p xs::csD X.p xs) X.M.wg) (anAdd_feed _ _ s.st) (w:=v) (w':=v.setCell ⟨X.M.wg,0,none⟩ (.int .u64 (less s.st))) (es:=#[mkE (.extern 148),⟨.cell (stA' X),false,true⟩,⟨.cell (stA' X),true,true⟩])
   ⟨H.wd.cell0,by simp,by simp,⟨_,H.wd.cell0⟩,H.wd.frozen 0,rfl,rfl⟩
  rw [anAdd_seen,hst] at e
  have hev:=ev_wg (X:=X) (s':=s.wk s.mt k σ (s.ow k)) (g:=X.n0+k) (B:=(v.setCell ⟨X.M.wg,0,none⟩ (.int .u64 st')).heap.size) (by rw [(so _).1];exact H.wd.size) (es:=#[⟨.cell (stA' X),false,true⟩,⟨.cell (stA' X),true,true⟩]) (fun e he=>by simp at he;rcases he with rfl|rfl<;> exact .inl ⟨0,_,rfl⟩)
  refine workGo O H hk hg e σ (s.ow k) st' s.sm (by rw [deaf_at,hd];exact hWA) (by rw [(so _).1];exact Nat.le_refl _) (fun b _ _ hb=>(so _).2 b hb) (fun b hb=> .inl hb) (H.wd.set0 st') ⟨rfl,rfl,rfl⟩ (H.ac.wk _ (by rw [hσ];exact h2) (fun h=>by rw [h3] at h;cases h) (fun _=>hgone)) (fun mt' hm _=>hWg mt' hm) hev.1 hev.2.1 (fun _=>⟨r,?_⟩) hev.2.2 hfin (fun mt' hm=> .inl ?_)
  ·refine RelBy.appOwn hrel _ _ _ fun j e he=> .inr ⟨?_,?_⟩
   ·have:e∈(#[⟨.cell (stA' X),false,true⟩,⟨.cell (stA' X),true,true⟩]:Array Event):=Array.mem_of_getElem? he
    simp at this
    rcases this with rfl|rfl<;> exact ⟨_,_,rfl⟩
   ·rw [hd]
    have:j=0∨j=1:=by
     have:=(Array.getElem?_eq_some_iff.1 he).1
     simp at this
     omega
    rcases this with rfl|rfl<;> simp [deafBehind]
  ·have a1:=s.wk_sum mt' hk σ (s.ow k) Wk.rank
   have a2:=s.wk_c mt' hk σ (s.ow k)
   have a3:=(hm.facts (X:=X)).1 s.c
   have a4:=mt'.rank_le s.c (s.wk mt' k σ (s.ow k)).c
   show mt'.rank (s.wk mt' k σ (s.ow k)).c+sumTo s.j (fun i=>((s.wk mt' k σ (s.ow k)).ws i).rank)+12*(s.wk mt' k σ (s.ow k)).c+60*(X.E.n - s.rN)< s.mt.rank s.c+sumTo s.j (fun i=>(s.ws i).rank)+12*s.c+60*(X.E.n - s.rN)
   omega
 have hcc: ∀mt' σ,σ.cnt=0→(s.wk mt' k σ (s.ow k)).c+1=s.c:=fun mt' σ h=>by have:=s.wk_c mt' hk σ (s.ow k);omega
 have hnl: ∀mt' σ,σ.rank=0→noLast s→∀i,i< s.j→((s.wk mt' k σ (s.ow k)).ws i).rank=0∨4≤((s.wk mt' k σ (s.ow k)).ws i).rank:=fun mt' σ h0 hn i hi=>by
  by_cases hik:i=k
  ·subst hik;rw [(s.wk_self mt' i σ (s.ow i)).1];exact .inl h0
  ·rw [(s.wk_ne mt' σ (s.ow k) hik).1];exact hn i hi
 cases hwg:H.wg with
 |opn a1 a2 a3 a4 a5=>
  have hl:=leaveN X.p xs X.M.wg (N:=s.c+s.mt.pend - 1) (by omega)
  rw [show s.c+s.mt.pend - 1+1=s.c+s.mt.pend by omega,← a3] at hl
  refine key _ (.quit 94) hl.1 rfl rfl rfl rfl (by simp [Wk.rank]) hl.2 fun mt' hm=>?_
  obtain ⟨_,_,_,_,f5,_,f7,f8,f9,_,f11,_⟩:=hm.facts (X:=X)
  have:=hcc mt' (.quit 94) rfl
  refine .opn (f7.trans a1) (hnl mt' _ rfl a2) ?_ a4 (fun q n xs ys e=>?_)
  ·show (s.c+s.mt.pend - 1)*KK'=((s.wk mt' k (.quit 94) (s.ow k)).c+mt'.pend)*KK'
   rw [f5]
   congr 1
   omega
  ·show (s.wk mt' k (.quit 94) (s.ow k)).c≤q
   have:=a5 q n xs ys (f11 q n xs ys e)
   omega
 |reg a1 a2 a3 a4 a5=>
  by_cases h1:s.c=1
  ·refine key 1 (.ld4 103 xs) (by rw [a4,h1];exact lessR0) rfl rfl rfl rfl (by simp [Wk.rank]) ⟨(alLd_slid _ _ _).glide,rfl⟩ fun mt' hm=>?_
   obtain ⟨_,_,_,_,f5,_,f7,f8,f9,_,f11,_⟩:=hm.facts (X:=X)
   have hself:=(s.wk_self mt' k (.ld4 103 xs) (s.ow k)).1
   refine .last k (f8.trans a1) hk ?_ ?_ (fun i hi hik=>?_) ?_ a5
   ·show 1≤((s.wk mt' k (.ld4 103 xs) (s.ow k)).ws k).rank;rw [hself];simp [Wk.rank]
   ·show ((s.wk mt' k (.ld4 103 xs) (s.ow k)).ws k).rank≤3;rw [hself];simp [Wk.rank]
   ·show ((s.wk mt' k (.ld4 103 xs) (s.ow k)).ws i).rank=0
    rw [(s.wk_ne mt' (.ld4 103 xs) (s.ow k) hik).1]
    have hz:=sum_one (f:=fun i=>(s.ws i).cnt) hk (by show s.c=(s.ws k).cnt;omega) i hi hik
    rcases a2 i hi with h|h
    ·exact h
    ·have:=(Wk.cnt_rank (s.ws i)).2 h;omega
   ·show (1:Nat)=if ((s.wk mt' k (.ld4 103 xs) (s.ow k)).ws k).rank=1 then 0 else 1
    rw [hself];simp [Wk.rank]
  ·have hl:=leaveR X.p xs X.M.wg (N:=s.c - 1) (by omega) (by omega)
   rw [show s.c - 1+1=s.c by omega,← a4] at hl
   refine key _ (.quit 94) hl.1 rfl rfl rfl rfl (by simp [Wk.rank]) hl.2 fun mt' hm=>?_
   obtain ⟨_,_,_,_,f5,_,f7,f8,f9,_,f11,_⟩:=hm.facts (X:=X)
   have:=hcc mt' (.quit 94) rfl
   refine .reg (f8.trans a1) (hnl mt' _ rfl a2) (by show 1≤(s.wk mt' k (.quit 94) (s.ow k)).c;omega) ?_ a5
   show (s.c - 1)*KK'+1=(s.wk mt' k (.quit 94) (s.ow k)).c*KK'+1
   congr 2
   omega
 |last q a1 a2 a3 a4 a5 a6 a7=>
  by_cases hq:k=q
  ·subst hq;omega
  ·have:=a5 k hk hq;omega
 |sema a1 a2 a3 a4 a5=>have:=a3 k hk;omega
 |done a1 a2 a3 a4 a5=>have:=a3 k hk;omega
theorem last_of {s:PS} (H:Wg s) {k:Nat} (hk:k< s.j) (h1:1≤(s.ws k).rank) (h3:(s.ws k).rank≤3):isReg s.mt=true∧(∀i,i< s.j→i≠k→(s.ws i).rank=0)∧s.st=(if (s.ws k).rank=1 then 0 else 1)∧s.sm=0:=by
 cases H with
 |opn a1 a2 a3 a4 a5=>have:=a2 k hk;omega
 |reg a1 a2 a3 a4 a5=>have:=a2 k hk;omega
 |last q a1 a2 a3 a4 a5 a6 a7=>
  by_cases hq:k=q
  ·subst hq;exact ⟨a1,a5,a6,a7⟩
  ·have:=a5 k hk hq;omega
 |sema a1 a2 a3 a4 a5=>have:=a3 k hk;omega
 |done a1 a2 a3 a4 a5=>have:=a3 k hk;omega
theorem w_ld4 (O:PCOk T Goal X) {s:PS} {gs:Array Goroutine} {v:World} {sl:Option (Nat×Nat)} {t:Trace} (H:PI T Goal X s gs v t) (hfin: ∀n xs,s.mt= .fin n xs→False) {k:Nat} (hk:k< s.j) {xs:Nat→Value} (hσ:s.ws k= .ld4 0 xs):StepsTo T Goal X s gs v sl t (X.n0+k):=by
 obtain ⟨g,hg,hW⟩:=H.gs.work k hk
 rw [hσ] at hW
 obtain ⟨hgl,hd⟩:=hW
 cases hgl
 have hr:(s.ws k).rank=3:=by rw [hσ];rfl
 obtain ⟨l1,l2,l3,l4⟩:=last_of H.wg hk (by omega) (by omega)
 rw [hr] at l3
 have hst:s.st=1:=by simpa using l3
 have hc:=H.wd.cell0
 rw [hst] at hc
 have e:=AtOp.value (alLd_op (cD X.p xs) (csD X.p xs) X.M.wg) (alLd_feed _ _ _) (w:=v) (w':=v) (es:=#[mkE (.extern 149),⟨.cell (stA' X),false,true⟩]) ⟨hc,rfl,rfl⟩
 rw [alLd_seen] at e
 have hev:=ev_wg (X:=X) (s':=s.wk s.mt k (.st3 20 xs) (s.ow k)) (g:=X.n0+k) H.wd.size (es:=#[⟨.cell (stA' X),false,true⟩]) (fun e he=>by simp at he;subst he;exact .inl ⟨0,_,rfl⟩)
 obtain ⟨r,hrel⟩:=H.tr.rel k hk (by rw [hσ];rfl)
 refine workGo O H hk hg e (.st3 20 xs) (s.ow k) s.st s.sm ⟨(alSt_slid _ _ _).glide,by rw [show deafBehind (Deaf t (X.n0+k)) _=Deaf t (X.n0+k) from rfl];exact hd⟩ (Nat.le_refl _) (fun _ _ _ _=>rfl) (fun b hb=> .inl hb) H.wd.wg ⟨rfl,rfl,rfl⟩ (H.ac.wk _ (by rw [hσ];rfl) (fun h=>by cases h) (fun _=>H.ac.gone k hk (by omega))) (fun mt' hm _=>?_) hev.1 hev.2.1 (fun _=>⟨r,?_⟩) hev.2.2 hfin (fun mt' hm=>dec_rank hk (by rw [hσ];simp [Wk.rank]) (by rw [hσ];rfl) mt' hm _ _ _)
 ·have f8:=(hm.facts (X:=X)).2.2.2.2.2.2.2.1
  have hself:=(s.wk_self mt' k (.st3 20 xs) (s.ow k)).1
  refine .last k (f8.trans l1) hk ?_ ?_ (fun i hi hik=>?_) ?_ l4
  ·show 1≤((s.wk mt' k (.st3 20 xs) (s.ow k)).ws k).rank;rw [hself];simp [Wk.rank]
  ·show ((s.wk mt' k (.st3 20 xs) (s.ow k)).ws k).rank≤3;rw [hself];simp [Wk.rank]
  ·show ((s.wk mt' k (.st3 20 xs) (s.ow k)).ws i).rank=0
   rw [(s.wk_ne mt' (.st3 20 xs) (s.ow k) hik).1];exact l2 i hi hik
  ·show s.st=if ((s.wk mt' k (.st3 20 xs) (s.ow k)).ws k).rank=1 then 0 else 1
   rw [hself,hst];simp [Wk.rank]
 ·refine RelBy.appOwn hrel _ _ _ fun j e he=> .inr ⟨?_,?_⟩
  ·have:e∈(#[⟨.cell (stA' X),false,true⟩]:Array Event):=Array.mem_of_getElem? he
   simp at this
   subst this;exact ⟨_,_,rfl⟩
  ·rw [hd]
   have:j=0:=by
    have:=(Array.getElem?_eq_some_iff.1 he).1
    simp at this
    omega
   subst this;simp [deafBehind]
theorem w_st3 (O:PCOk T Goal X) {s:PS} {gs:Array Goroutine} {v:World} {sl:Option (Nat×Nat)} {t:Trace} (H:PI T Goal X s gs v t) (hfin: ∀n xs,s.mt= .fin n xs→False) {k:Nat} (hk:k< s.j) {xs:Nat→Value} (hσ:s.ws k= .st3 0 xs):StepsTo T Goal X s gs v sl t (X.n0+k):=by
 obtain ⟨g,hg,hW⟩:=H.gs.work k hk
 rw [hσ] at hW
 obtain ⟨hgl,hd⟩:=hW
 cases hgl
 have hr:(s.ws k).rank=2:=by rw [hσ];rfl
 obtain ⟨l1,l2,l3,l4⟩:=last_of H.wg hk (by omega) (by omega)
 have so:=set_other v X.M.wg 0
 have e:=AtOp.value (alSt_op (cD X.p xs) (csD X.p xs) X.M.wg) (alSt_feed _ _ _) (w:=v) (w':=v.setCell ⟨X.M.wg,0,none⟩ (.int .u64 0)) (es:=#[mkE (.extern 150),⟨.cell (stA' X),true,true⟩]) ⟨by simp,by simp,⟨_,H.wd.cell0⟩,H.wd.frozen 0,rfl,rfl⟩
 rw [alSt_seen] at e
 have hev:=ev_wg (X:=X) (s':=s.wk s.mt k (.sem2 27 xs) (s.ow k)) (g:=X.n0+k) (B:=(v.setCell ⟨X.M.wg,0,none⟩ (.int .u64 0)).heap.size) (by rw [(so _).1];exact H.wd.size) (es:=#[⟨.cell (stA' X),true,true⟩]) (fun e he=>by simp at he;subst he;exact .inl ⟨0,_,rfl⟩)
 obtain ⟨r,hrel⟩:=H.tr.rel k hk (by rw [hσ];rfl)
 refine workGo O H hk hg e (.sem2 27 xs) (s.ow k) 0 s.sm ⟨(alSem_slid _ _ _).glide,by rw [show deafBehind (Deaf t (X.n0+k)) _=Deaf t (X.n0+k) from rfl];exact hd⟩ (by rw [(so _).1];exact Nat.le_refl _) (fun b _ _ hb=>(so _).2 b hb) (fun b hb=> .inl hb) (H.wd.set0 0) ⟨rfl,rfl,rfl⟩ (H.ac.wk _ (by rw [hσ];rfl) (fun h=>by cases h) (fun _=>H.ac.gone k hk (by omega))) (fun mt' hm _=>?_) hev.1 hev.2.1 (fun _=>⟨r,?_⟩) hev.2.2 hfin (fun mt' hm=>dec_rank hk (by rw [hσ];simp [Wk.rank]) (by rw [hσ];rfl) mt' hm _ _ _)
 ·have f8:=(hm.facts (X:=X)).2.2.2.2.2.2.2.1
  have hself:=(s.wk_self mt' k (.sem2 27 xs) (s.ow k)).1
  refine .last k (f8.trans l1) hk ?_ ?_ (fun i hi hik=>?_) ?_ l4
  ·show 1≤((s.wk mt' k (.sem2 27 xs) (s.ow k)).ws k).rank;rw [hself];simp [Wk.rank]
  ·show ((s.wk mt' k (.sem2 27 xs) (s.ow k)).ws k).rank≤3;rw [hself];simp [Wk.rank]
  ·show ((s.wk mt' k (.sem2 27 xs) (s.ow k)).ws i).rank=0
   rw [(s.wk_ne mt' (.sem2 27 xs) (s.ow k) hik).1];exact l2 i hi hik
  ·show (0:Nat)=if ((s.wk mt' k (.sem2 27 xs) (s.ow k)).ws k).rank=1 then 0 else 1
   rw [hself];simp [Wk.rank]
 ·refine RelBy.appOwn hrel _ _ _ fun j e he=> .inr ⟨?_,?_⟩
  ·have:e∈(#[⟨.cell (stA' X),true,true⟩]:Array Event):=Array.mem_of_getElem? he
   simp at this
   subst this;exact ⟨_,_,rfl⟩
  ·rw [hd]
   have:j=0:=by
    have:=(Array.getElem?_eq_some_iff.1 he).1
    simp at this
    omega
   subst this;simp [deafBehind]
theorem w_sem2 (O:PCOk T Goal X) {s:PS} {gs:Array Goroutine} {v:World} {sl:Option (Nat×Nat)} {t:Trace} (H:PI T Goal X s gs v t) (hfin: ∀n xs,s.mt= .fin n xs→False) {k:Nat} (hk:k< s.j) {xs:Nat→Value} (hσ:s.ws k= .sem2 0 xs):StepsTo T Goal X s gs v sl t (X.n0+k):=by
 obtain ⟨g,hg,hW⟩:=H.gs.work k hk
 rw [hσ] at hW
 obtain ⟨hgl,hd⟩:=hW
 cases hgl
 have hr:(s.ws k).rank=1:=by rw [hσ];rfl
 obtain ⟨l1,l2,l3,l4⟩:=last_of H.wg hk (by omega) (by omega)
 rw [hr] at l3
 have hst:s.st=0:=by simpa using l3
 have so:=set_other v X.M.wg 1
 have hc:=H.wd.cell1
 rw [l4] at hc
 have e:=AtOp.value (alSem_op (cD X.p xs) (csD X.p xs) X.M.wg) (alSem_feed _ _ _) (w:=v) (w':=v.setCell ⟨X.M.wg,1,none⟩ (.int .u32 1)) (es:=#[mkE (.extern 130),mkE .disable,⟨.cell ⟨X.M.wg,1,none⟩,false,true⟩,⟨.cell ⟨X.M.wg,1,none⟩,true,true⟩,mkE .enable]) ⟨hc,by simp,by simp,⟨_,hc⟩,H.wd.frozen 1,rfl,rfl⟩
 rw [alSem_seen] at e
 have hev:=ev_wg (X:=X) (s':=s.wk s.mt k (.quit 24) (s.ow k)) (g:=X.n0+k) (B:=(v.setCell ⟨X.M.wg,1,none⟩ (.int .u32 1)).heap.size) (by rw [(so _).1];exact H.wd.size) (es:=#[mkE .disable,⟨.cell ⟨X.M.wg,1,none⟩,false,true⟩,⟨.cell ⟨X.M.wg,1,none⟩,true,true⟩,mkE .enable]) (fun e he=>by
  simp at he
  rcases he with rfl|rfl|rfl|rfl
  ·exact .inr (.inl rfl)
  ·exact .inl ⟨1,_,rfl⟩
  ·exact .inl ⟨1,_,rfl⟩
  ·exact .inr (.inr (.inl rfl)))
 obtain ⟨r,hrel⟩:=H.tr.rel k hk (by rw [hσ];rfl)
 refine workGo O H hk hg e (.quit 24) (s.ow k) s.st 1 (by rw [hd];exact leave_last _ _ _ (back_quits X.p xs)) (by rw [(so _).1];exact Nat.le_refl _) (fun b _ _ hb=>(so _).2 b hb) (fun b hb=> .inl hb) (H.wd.set1 1) ⟨rfl,rfl,rfl⟩ (H.ac.wk _ (by rw [hσ];rfl) (fun h=>by cases h) (fun _=>H.ac.gone k hk (by omega))) (fun mt' hm hb=>?_) hev.1 hev.2.1 (fun _=>⟨r,?_⟩) hev.2.2 hfin (fun mt' hm=>dec_rank hk (by rw [hσ];simp [Wk.rank]) (by rw [hσ];rfl) mt' hm _ _ _)
 ·have f8:=(hm.facts (X:=X)).2.2.2.2.2.2.2.1
  refine .sema (f8.trans l1) (hb (alSem_wakes _ _ _) rfl) (fun i hi=>?_) hst rfl
  show ((s.wk mt' k (.quit 24) (s.ow k)).ws i).rank=0
  by_cases hik:i=k
  ·subst hik;rw [(s.wk_self mt' i (.quit 24) (s.ow i)).1];rfl
  ·rw [(s.wk_ne mt' (.quit 24) (s.ow k) hik).1];exact l2 i hi hik
 ·refine RelBy.appOwn hrel _ _ _ fun j e he=>?_
  have hj:j=0∨j=1∨j=2∨j=3:=by
   have:=(Array.getElem?_eq_some_iff.1 he).1
   simp at this
   omega
  rw [hd]
  rcases hj with rfl|rfl|rfl|rfl
  ·simp at he;subst he;exact .inl rfl
  ·simp at he;subst he;exact .inr ⟨⟨_,_,rfl⟩,by simp [deafBehind,mkE]⟩
  ·simp at he;subst he;exact .inr ⟨⟨_,_,rfl⟩,by simp [deafBehind,mkE]⟩
  ·simp at he;subst he;exact .inl rfl
end
end Go.Proofs.YtldmcdeibiclkaaGreatDoor.U
end
section
namespace Go.Proofs.YtldmcdeibiclkaaGreatDoor.U
open Go.Conc
open Go.ConcN (upd upd_same upd_ne sumTo sumTo_upd sumTo_congr sumTo_le le_sumTo RelBy)
set_option maxRecDepth 100000
theorem gRecv_self (p:Pl) (xs:Nat→Value):gOf (gRecv p xs) (gRecv p xs).frame=gRecv p xs:=by kernel_rfl
theorem gRecv_run (p:Pl) (xs:Nat→Value):({gRecv p xs with status:= .running}:Goroutine)=gRecv p xs:=by kernel_rfl
theorem gOps_self (p:Pl) (xs:Nat→Value) (l:List Nat):gOf (gOps p xs l) (gOps p xs l).frame=gOps p xs l:=by kernel_rfl
theorem gOps_sent (p:Pl) (xs:Nat→Value) (cs:Array CommCase):(gOps p xs [7]).finishComm Pg cs .send 0 undef false=gOps p xs []:=by kernel_rfl
section
variable {L:Lim} {T:Tab} {Goal:Frame→List Frame→World→Prop} {X:PC L}
theorem offers_of (O:PCOk T Goal X) {s:PS} {gs:Array Goroutine} {v:World} {t:Trace} (H:Gs T Goal X s gs v t) {j:Nat} {g:Goroutine} (hg:gs[j]? =some g):(∃k xs,k< s.j∧j=X.n0+k∧s.ws k= .park xs∧g=parkedG X xs)∨∀r b,offersAt g r b= []:=by
 have hlt:=(Array.getElem?_eq_some_iff.1 hg).1
 rw [H.size] at hlt
 rcases Nat.eq_zero_or_pos j with rfl|hpos
 ·obtain ⟨h,h0,hM⟩:=H.main
  rw [hg] at h0
  cases h0
  refine .inr fun r b=>?_
  rcases hM.status O with ⟨_,hs⟩|⟨xs,ys,_,rfl⟩
  ·exact offersAt_of_not_blocked (by rw [hs];simp) r b
  ·rfl
 ·rcases Nat.lt_or_ge j X.n0 with hj|hj
  ·have:=(H.leav j g hpos hj hg).status
   exact .inr fun r b=>offersAt_of_not_blocked (by rcases this with h|h<;> rw [h]<;> simp) r b
  ·obtain ⟨k,rfl⟩: ∃k,j=X.n0+k:=⟨j - X.n0,by omega⟩
   have hk:k< s.j:=by omega
   obtain ⟨g',hg',hW⟩:=H.work k hk
   rw [hg] at hg'
   cases hg'
   rcases hW.status with ⟨_,hs⟩|⟨xs,h1,h2⟩
   ·exact .inr fun r b=>offersAt_of_not_blocked (by rcases hs with h|h<;> rw [h]<;> simp) r b
   ·exact .inl ⟨k,xs,hk,rfl,h1,h2⟩
theorem no_partners (O:PCOk T Goal X) {s:PS} {gs:Array Goroutine} {v:World} {t:Trace} (H:Gs T Goal X s gs v t) (i r:Nat) (b:Bool) (h:b=true∨r≠X.M.cN):partners (gs.setIfInBounds i ph) r b= []:=by
 refine partners_nil fun j g hg=>?_
 rcases getElem?_stand gs i j g hg with ⟨_,rfl⟩|⟨_,hg⟩
 ·rfl
 ·rcases offers_of O H hg with ⟨k,xs,_,_,_,rfl⟩|h'
  ·unfold parkedG
   rw [recvCases_eq]
   rcases h with rfl|h
   ·exact offersAt_parked_recv' _ _ _ _ _
   ·cases b with
    |true=>exact offersAt_parked_recv' _ _ _ _ _
    |false=>rw [offersAt_parked_recv,if_neg (Ne.symm h)]
  ·exact h' r b
theorem Tr.still {s s':PS} {v v1:World} {t:Trace} (H:Tr X s v t) (e1:s'.j=s.j) (e2:s'.ow=s.ow) (e3: ∀k,k< s.j→(s'.ws k).rel=true→(s.ws k).rel=true) (e4:s'.mt.deaf=s.mt.deaf) (e5:v1.heap.size=v.heap.size) (e6: ∀n xs,s'.mt= .fin n xs→False) {u:List MemOp}
  (h1: ∀op∈u,op.act.touch? =none) (h2: ∀op∈u,op.act.low v.heap.size) (h3: ∀op∈u,noDeaf op.act) (h4: ∀op∈u,op.act≠.mark (.release (stA' X))):Tr X s' v1 (t++u.toArray):=by
 have hlots:lots X s'=lots X s:=by unfold lots;rw [e1,e2]
 have hwk:isWk X s'=isWk X s:=by funext k;simp only [isWk,e1]
 refine ⟨?_,?_,?_,fun k hk hr=>?_,H.norel.app (fun op hop=>h4 op (by simpa using hop)),by rw [Deaf_still t 0 u h3,H.d0,e4],fun n xs h=>(e6 n xs h).elim⟩
 ·rw [hlots,hwk,e5]
  exact H.tp.still u h1 h2
 ·rw [e1,e2,e5];exact H.own
 ·rw [e1,e2];exact H.apart
 ·rw [e1] at hk
  obtain ⟨r,hr⟩:=H.rel k hk (e3 k hk hr)
  exact ⟨r,RelBy.still hr fun op hop=>h1 op (by simpa using hop)⟩
theorem Gs.comm {s s':PS} {gs:Array Goroutine} {v v1:World} {t:Trace} (O:PCOk T Goal X) (H:Gs T Goal X s gs v t) {k:Nat} (hk:k< s.j) {g1:Goroutine} (e1:s'.j=s.j) (e2: ∀i,i≠k→s'.ws i=s.ws i) (e3:s'.ow=s.ow) (e4:s'.mt=s.mt) (e5:s'.q=s.q) {u:List MemOp} (h3: ∀op∈u,noDeaf op.act)
  (hW:WAt T Goal X (s.ow k) (Deaf t (X.n0+k)) g1 v1 (s'.ws k)) (hs:v.heap.size≤v1.heap.size) (ho: ∀b,((∃r,X.E.ρ r b)∨∃i,i< s.j∧s.ow i b)→v1.heap[b]? =v.heap[b]?):Gs T Goal X s' (gs.setIfInBounds (X.n0+k) g1) v1 (t++u.toArray):=by
 have hn0:=O.n0
 have hdf: ∀i,Deaf (t++u.toArray) i=Deaf t i:=fun i=>Deaf_still t i u h3
 obtain ⟨h,h0,hM⟩:=H.main
 refine ⟨by simp [H.size,e1],⟨h,by rw [Array.getElem?_setIfInBounds_ne (by omega)];exact h0,by rw [e4];exact hM⟩,fun i hi=>?_,fun i x hi hn hg=>?_,fun i hi=>?_⟩
 ·rw [e1] at hi
  rw [hdf,e3]
  by_cases hik:i=k
  ·subst hik
   exact ⟨g1,by rw [Array.getElem?_setIfInBounds_self_of_lt (by rw [H.size];omega)],hW⟩
  ·obtain ⟨x,hx,hw⟩:=H.work i hi
   refine ⟨x,by rw [Array.getElem?_setIfInBounds_ne (by omega)];exact hx,?_⟩
   rw [e2 i hik]
   exact hw.stable hs fun b hb=>ho b (hb.imp id fun x=>⟨i,hi,x⟩)
 ·rw [Array.getElem?_setIfInBounds_ne (by omega)] at hg
  rw [hdf,e5]
  exact H.leav i x hi hn hg
 ·rw [hdf]
  exact H.above i (by simpa using hi)
theorem setChan_facts (v:World) (c cap:Nat) (buf:Array Value) (cl:Bool) (s r:Nat) (tm:Bool) (hc:c< v.heap.size):(v.setChan c cap buf cl s r tm).heap.size=v.heap.size∧(v.setChan c cap buf cl s r tm).heap[c]? =some (.chan cap buf cl s r tm)∧(∀b,b≠c→(v.setChan c cap buf cl s r tm).heap[b]? =v.heap[b]?)∧(v.setChan c cap buf cl s r tm).tape=v.tape∧(v.setChan c cap buf cl s r tm).os=v.os∧(v.setChan c cap buf cl s r tm).output=v.output:=by
 refine ⟨by simp [World.setChan],by simp [World.setChan,hc],fun b hb=>by simp [World.setChan,Array.getElem?_setIfInBounds_ne (Ne.symm hb)],rfl,rfl,rfl⟩
theorem wk_job_sum {s:PS} {k:Nat} (hk:k< s.j) (σ:Wk):sumTo s.j (fun i=>if ((upd s.ws k σ) i).job.isSome then 1 else 0)+(if (s.ws k).job.isSome then 1 else 0)=sumTo s.j (fun i=>if (s.ws i).job.isSome then 1 else 0)+(if σ.job.isSome then 1 else 0):=
 sumTo_upd s.ws σ (fun x=>if x.job.isSome then 1 else 0) hk
theorem w_recv (O:PCOk T Goal X) {s:PS} {gs:Array Goroutine} {v:World} {sl:Option (Nat×Nat)} {t:Trace} (H:PI T Goal X s gs v t) (hfin: ∀n xs,s.mt= .fin n xs→False) {k:Nat} (hk:k< s.j) {xs:Nat→Value} (hσ:s.ws k= .recv 0 xs∨s.ws k= .woken xs):StepsTo T Goal X s gs v sl t (X.n0+k):=by
 obtain ⟨g,hg,hW⟩:=H.gs.work k hk
 have hn0:=O.n0
 have e2:=O.cN;have e6:=O.wg;have e4:=O.cB;have e1:=O.bT;have e3:=O.bN;have e5:=O.bB
 have hne0:(X.n0+k==0)=false:=by simp;omega
 have hd:Deaf t (X.n0+k)=0:=by
  rcases hσ with hσ|hσ<;> rw [hσ] at hW<;> exact hW.2
 have hr:(s.ws k).rank=9∧(s.ws k).job=none∧(s.ws k).cnt=1∧(s.ws k).tree=none:=by rcases hσ with hσ|hσ<;> rw [hσ]<;> exact ⟨rfl,rfl,rfl,rfl⟩
 have e:stepG Pg (X.n0+k==0) g v= .comm (gRecv X.p xs) #[rcase X.M.cN (.int .i64 0)] true (.recv true) v #[]:=by
  have hc:=AtOp.comm (recv_op X.p xs) (recv_feed X.p xs) (w:=v) (w':=v) (es:=#[]) ⟨rfl,rfl⟩
  rw [seen_empty,gRecv_self] at hc
  rw [hne0]
  rcases hσ with hσ|hσ
  ·rw [hσ] at hW
   have hgl:=hW.1
   cases hgl
   exact hc
  ·rw [hσ] at hW
   rw [hW.1]
   unfold parkedG
   rw [stepG_tries,gRecv_run]
   exact hc
 have hz: ∀fn pos,MemOp.ofEvents (X.n0+k) fn pos #[]=#[]:=fun fn pos=>by simp [ofEvents_eq]
 have hcN:=H.wd.cN
 have hcl:X.M.cN< v.heap.size:=by have:=H.wd.size;omega
 have hpt:=no_partners O H.gs (X.n0+k) X.M.cN true (.inl rfl)
 have hown: ∀i b,i< s.j→s.ow i b→b≠X.M.cN:=fun i b hi hb h=>by have:=(H.tr.own i b hi hb).1;omega
 cases hb:s.bufN with
 |cons i rest=>
  rw [hb] at hcN
  have hrun:=crowd_recv_buf (P:=Pg) (sl:=sl) hg e hcN (by simp) hpt
  obtain ⟨c1,c2,c3,c4,c5,c6⟩:=setChan_facts v X.M.cN X.E.n (rest.map X.num).toArray s.mt.shut (s.mt.sent X) (s.rN+1) false hcl
  have ex:((i::rest).map X.num).toArray.extract 1 ((i::rest).map X.num).toArray.size=(rest.map X.num).toArray:=by simp [List.take_of_length_le]
  have eg:((i::rest).map X.num).toArray.getD 0 undef=X.num i:=by simp
  rw [ex,eg,hz,Array.empty_append] at hrun
  have hgot:=H.ac.got
  have hsent:=H.ac.sent
  rw [hb] at hgot
  simp only [List.length_cons] at hgot
  have hin:i< X.E.n:=H.ac.okN i (by rw [hb];simp)
  let s':PS:={s with ws:=upd s.ws k (.draw 11 i (gotXs xs (IntKind.i64.wrap (X.E.first+i)))),bufN:=rest,rN:=s.rN+1}
  have hsw: ∀m,m≠k→s'.ws m=s.ws m:=fun m hm=>upd_ne _ _ hm
  have hsk:s'.ws k= .draw 11 i (gotXs xs (IntKind.i64.wrap (X.E.first+i))):=upd_same _ _ _
  refine ⟨s',_,_,_,hrun,⟨?_,?_,?_,?_,?_⟩,.inl ?_⟩
  ·refine H.gs.comm O hk (s':=s') rfl hsw rfl rfl rfl (u:=[_,_]) ?_ ?_ (by rw [c1];exact Nat.le_refl _) ?_
   ·intro op hop;simp at hop;rcases hop with rfl|rfl<;> exact ⟨by simp,by simp⟩
   ·rw [hsk]
    refine ⟨?_,hd,hin,rfl⟩
    have hgd:=(got_slid X.p xs (IntKind.i64.wrap (X.E.first+i))).glide
    rw [got_draw] at hgd
    exact hgd
   ·rintro b (⟨r,hr⟩|⟨m,hm,hb'⟩)
    ·exact c3 b (by have:=(O.K.dom r b hr).2;omega)
    ·exact c3 b (hown m b hm hb')
  ·refine ⟨⟨by rw [c1];exact H.wd.old.1,fun b hb'=>by rw [c3 b (by omega)];exact H.wd.old.2 b hb'⟩,by rw [c1];exact H.wd.size,?_,?_,?_,c2,?_,?_,H.wd.tape,H.wd.os,H.wd.output⟩
   ·rw [c3 _ (by omega)];exact H.wd.bT
   ·rw [c3 _ (by omega)];exact H.wd.bN
   ·rw [c3 _ (by omega)];exact H.wd.bB
   ·obtain ⟨sB,h⟩:=H.wd.cB;exact ⟨sB,by rw [c3 _ (by omega)];exact h⟩
   ·rw [c3 _ (by omega)];exact H.wd.wg
  ·have hjs:=wk_job_sum hk (.draw 11 i (gotXs xs (IntKind.i64.wrap (X.E.first+i))))
   have hcount:=H.ac.count
   rw [hb] at hcount
   simp only [List.length_cons] at hcount
   rw [hr.2.1] at hjs
   refine ⟨H.ac.on,H.ac.sent,by show s.rN+1+rest.length=s.mt.sent X;omega,fun m hm=>?_,?_,fun m hm=>H.ac.okN m (by rw [hb];simp [show m∈rest from hm]),H.ac.okB,fun m hm hp=>?_,fun m hm hrk=>?_⟩
   ·rcases H.ac.cover m hm with h|h|⟨k',h1,h2⟩
    ·rw [hb] at h
     rcases List.mem_cons.1 h with rfl|h
     ·exact .inr (.inr ⟨k,hk,by rw [hsk];rfl⟩)
     ·exact .inl h
    ·exact .inr (.inl h)
    ·refine .inr (.inr ⟨k',h1,?_⟩)
     have:k'≠k:=fun e=>by rw [e,hr.2.1] at h2;cases h2
     rw [hsw k' this];exact h2
   ·show rest.length+sumTo s.j (fun m=>if ((upd s.ws k (.draw 11 i (gotXs xs (IntKind.i64.wrap (X.E.first+i))))) m).job.isSome then 1 else 0)+s.bufB.length≤s.mt.sent X
    have hjs':sumTo s.j (fun m=>if ((upd s.ws k (.draw 11 i (gotXs xs (IntKind.i64.wrap (X.E.first+i))))) m).job.isSome then 1 else 0)+0=sumTo s.j (fun m=>if (s.ws m).job.isSome then 1 else 0)+1:=hjs
    omega
   ·by_cases hmk:m=k
    ·subst hmk;rw [hsk] at hp;cases hp
    ·rw [hsw m hmk] at hp
     have:=(H.ac.park m hm hp).1
     rw [hb] at this;cases this
   ·by_cases hmk:m=k
    ·subst hmk;rw [hsk] at hrk;simp [Wk.rank] at hrk
    ·rw [hsw m hmk] at hrk
     have:=(H.ac.gone m hm hrk).2
     rw [hb] at this;cases this
  ·have:=H.wg.wk4 X hk (σ:= .draw 11 i (gotXs xs (IntKind.i64.wrap (X.E.first+i)))) (s.ow k) (by omega) (by simp [Wk.rank]) (by rw [hr.2.2.1];rfl) s.mt (.inl rfl)
   cases this with
   |opn a1 a2 a3 a4 a5=>exact .opn a1 a2 a3 a4 a5
   |reg a1 a2 a3 a4 a5=>exact .reg a1 a2 a3 a4 a5
   |last q a1 a2 a3 a4 a5 a6 a7=>exact .last q a1 a2 a3 a4 a5 a6 a7
   |sema a1 a2 a3 a4 a5=>exact .sema a1 a2 a3 a4 a5
   |done a1 a2 a3 a4 a5=>exact .done a1 a2 a3 a4 a5
  ·refine H.tr.still (s':=s') rfl rfl (fun m hm hrl=>?_) rfl c1 (fun n xs h=>hfin n xs h) (u:=[_,_]) ?_ ?_ ?_ ?_
   ·by_cases hmk:m=k
    ·subst hmk;rw [hsk] at hrl;cases hrl
    ·rw [hsw m hmk] at hrl;exact hrl
   ·intro op hop;simp at hop;rcases hop with rfl|rfl<;> rfl
   ·intro op hop;simp at hop;rcases hop with rfl|rfl<;> exact hcl
   ·intro op hop;simp at hop;rcases hop with rfl|rfl<;> exact ⟨by simp,by simp⟩
   ·intro op hop;simp at hop;rcases hop with rfl|rfl<;> simp
  ·have h1:=sumTo_upd s.ws (.draw 11 i (gotXs xs (IntKind.i64.wrap (X.E.first+i)))) Wk.rank hk
   have h2:=sumTo_upd s.ws (.draw 11 i (gotXs xs (IntKind.i64.wrap (X.E.first+i)))) Wk.cnt hk
   have h3:s'.c=s.c:=by show sumTo s.j (fun m=>((upd s.ws k (.draw 11 i (gotXs xs (IntKind.i64.wrap (X.E.first+i))))) m).cnt)=_;unfold PS.c;have h2':sumTo s.j (fun m=>((upd s.ws k (.draw 11 i (gotXs xs (IntKind.i64.wrap (X.E.first+i))))) m).cnt)+(s.ws k).cnt=sumTo s.j (fun m=>(s.ws m).cnt)+1:=h2;omega
   show s.mt.rank s'.c+sumTo s.j (fun m=>((upd s.ws k (.draw 11 i (gotXs xs (IntKind.i64.wrap (X.E.first+i))))) m).rank)+12*s'.c+60*(X.E.n - (s.rN+1))< s.mt.rank s.c+sumTo s.j (fun m=>(s.ws m).rank)+12*s.c+60*(X.E.n - s.rN)
   rw [h3]
   have h1':sumTo s.j (fun m=>((upd s.ws k (.draw 11 i (gotXs xs (IntKind.i64.wrap (X.E.first+i))))) m).rank)+(s.ws k).rank=sumTo s.j (fun m=>(s.ws m).rank)+60:=h1
   have:X.E.n - s.rN=X.E.n - (s.rN+1)+1:=by omega
   have hw9:=hr.1
   omega
 |nil=>
  rw [hb] at hcN
  simp only [List.map_nil] at hcN
  cases hsh:s.mt.shut with
  |true=>
   rw [hsh] at hcN
   have hrun:=crowd_recv_closed (P:=Pg) (sl:=sl) hg e hcN hpt
   rw [hz,Array.empty_append] at hrun
   let s':PS:={s with ws:=upd s.ws k (.conv 21 xs)}
   have hsw: ∀m,m≠k→s'.ws m=s.ws m:=fun m hm=>upd_ne _ _ hm
   have hsk:s'.ws k= .conv 21 xs:=upd_same _ _ _
   have hwk:s'=s.wk s.mt k (.conv 21 xs) (s.ow k):=by
    show _=({s with mt:=s.mt,ws:=upd s.ws k (.conv 21 xs),ow:=upd s.ow k (s.ow k)}:PS)
    rw [show upd s.ow k (s.ow k)=s.ow from funext fun b=>by unfold upd;split<;> simp_all]
   refine ⟨s',_,_,_,hrun,⟨?_,H.wd.same rfl rfl rfl rfl rfl rfl rfl,?_,?_,?_⟩,?_⟩
   ·refine H.gs.comm O hk (s':=s') rfl hsw rfl rfl rfl (u:=[_]) ?_ ?_ (Nat.le_refl _) (fun _ _=>rfl)
    ·intro op hop;simp at hop;subst hop;exact ⟨by simp,by simp⟩
    ·rw [hsk]
     refine ⟨?_,hd⟩
     have h1:=(shut_slid X.p xs).glide
     rw [shut_add] at h1
     exact h1.trans (an0_slid _ _).glide
   ·rw [hwk]
    exact H.ac.wk _ (by rw [hr.2.1];rfl) (fun h=>by cases h) (fun _=>⟨hsh,hb⟩) s.mt (.inl rfl)
   ·rw [hwk]
    exact H.wg.wk4 X hk _ (by omega) (by simp [Wk.rank]) (by rw [hr.2.2.1];rfl) s.mt (.inl rfl)
   ·refine H.tr.still (s':=s') rfl rfl (fun m hm hrl=>?_) rfl rfl (fun n xs h=>hfin n xs h) (u:=[_]) ?_ ?_ ?_ ?_
    ·by_cases hmk:m=k
     ·subst hmk;rw [hsk] at hrl;cases hrl
     ·rw [hsw m hmk] at hrl;exact hrl
    ·intro op hop;simp at hop;subst hop;rfl
    ·intro op hop;simp at hop;subst hop;exact hcl
    ·intro op hop;simp at hop;subst hop;exact ⟨by simp,by simp⟩
    ·intro op hop;simp at hop;subst hop;simp
   ·rw [hwk]
    exact dec_rank hk (by rw [hr.1];simp [Wk.rank]) (by rw [hr.2.2.1];rfl) s.mt (.inl rfl) _ s.st s.sm
  |false=>
   rw [hsh] at hcN
   have hrun:=crowd_waits (P:=Pg) (sl:=sl) hg e (fun cc hcc=>by simp at hcc;subst hcc;exact ways_recv_none hcN hpt)
   rw [hz] at hrun
   let s':PS:={s with ws:=upd s.ws k (.park xs)}
   have hsw: ∀m,m≠k→s'.ws m=s.ws m:=fun m hm=>upd_ne _ _ hm
   have hsk:s'.ws k= .park xs:=upd_same _ _ _
   have hwk:s'=s.wk s.mt k (.park xs) (s.ow k):=by
    show _=({s with mt:=s.mt,ws:=upd s.ws k (.park xs),ow:=upd s.ow k (s.ow k)}:PS)
    rw [show upd s.ow k (s.ow k)=s.ow from funext fun b=>by unfold upd;split<;> simp_all]
   refine ⟨s',_,_,_,hrun,⟨?_,H.wd.same rfl rfl rfl rfl rfl rfl rfl,?_,?_,?_⟩,?_⟩
   ·refine H.gs.comm O hk (s':=s') rfl hsw rfl rfl rfl (u:=[]) (fun op hop=>by cases hop) ?_ (Nat.le_refl _) (fun _ _=>rfl)
    rw [hsk]
    exact ⟨rfl,hd⟩
   ·rw [hwk]
    exact H.ac.wk _ (by rw [hr.2.1];rfl) (fun _=>⟨hb,hsh⟩) (fun h=>by simp [Wk.rank] at h) s.mt (.inl rfl)
   ·rw [hwk]
    exact H.wg.wk4 X hk _ (by omega) (by simp [Wk.rank]) (by rw [hr.2.2.1];rfl) s.mt (.inl rfl)
   ·refine H.tr.still (s':=s') rfl rfl (fun m hm hrl=>?_) rfl rfl (fun n xs h=>hfin n xs h) (u:=[]) (fun op hop=>by cases hop) (fun op hop=>by cases hop) (fun op hop=>by cases hop) (fun op hop=>by cases hop)
    by_cases hmk:m=k
    ·subst hmk;rw [hsk] at hrl;cases hrl
    ·rw [hsw m hmk] at hrl;exact hrl
   ·rw [hwk]
    exact dec_rank hk (by rw [hr.1];simp [Wk.rank]) (by rw [hr.2.2.1];rfl) s.mt (.inl rfl) _ s.st s.sm
end
end Go.Proofs.YtldmcdeibiclkaaGreatDoor.U
end
