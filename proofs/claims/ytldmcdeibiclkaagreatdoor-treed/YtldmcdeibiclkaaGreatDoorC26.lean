/-
  Toward: treed_holds, each node's digest is that of its children's, for every argument of Treed. THE POOL's MACHINE: the starter closes the channel; WHATEVER the starter does; the pool RUNS.
-/
import Derived.Test.YtldmcdeibiclkaaGreatDoorC25
set_option linter.unusedVariables false
set_option linter.unusedSimpArgs false
set_option maxRecDepth 4000
section
namespace Go.Proofs.YtldmcdeibiclkaaGreatDoor.U
open Go.Conc
open Go.ConcN (upd upd_same upd_ne sumTo sumTo_upd sumTo_congr sumTo_le le_sumTo RelBy)
section
variable {L:Lim} {T:Tab} {Goal:Frame→List Frame→World→Prop} {X:PC L}
def wake:Wk→Wk
 | .park xs=> .woken xs
 |σ=>σ
theorem wake_facts (σ:Wk):(wake σ).cnt=σ.cnt∧(wake σ).job=σ.job∧(wake σ).rel=σ.rel∧(wake σ).parked=false∧(wake σ).rank≤σ.rank+1∧((wake σ).rank≤7→σ.rank≤7)∧(σ.rank=0∨4≤σ.rank→(wake σ).rank=0∨4≤(wake σ).rank):=by
 cases σ<;> simp [wake,Wk.cnt,Wk.job,Wk.rel,Wk.parked,Wk.rank]
theorem sum_near {f g:Nat→Nat}: ∀{j:Nat},(∀k,k< j→f k≤g k+1)→sumTo j f≤sumTo j g+j
 |0,_=>Nat.le_refl _
 |j+1,h=>by
  have h1:=sum_near (f:=f) (g:=g) (j:=j) fun k hk=>h k (by omega)
  have h2:=h j (by omega)
  simp only [sumTo]
  omega
theorem m_cl (O:PCOk T Goal X) {s:PS} {gs:Array Goroutine} {v:World} {sl:Option (Nat×Nat)} {t:Trace} (H:PI T Goal X s gs v t) {h:Goroutine} (h0:gs[0]? =some h) (hm:MAt X h s.mt) {xs:Nat→Value} (hmt:s.mt= .cl xs):StepsTo T Goal X s gs v sl t 0:=by
 rw [hmt] at hm
 have hgl:h=_:=hm
 subst hgl
 have hn0:=O.n0
 have b1:=O.bT;have b2:=O.cN;have b3:=O.bN;have b4:=O.cB;have b5:=O.bB;have b6:=O.wg
 obtain ⟨a1,a2,a3,a4⟩:=open_of H.wg (by rw [hmt];rfl)
 rw [hmt] at a2
 have a2':s.st=s.c*KK':=a2
 have hcN:=H.wd.cN
 have hsh:s.mt.shut=false:=by rw [hmt];rfl
 have hst:s.mt.sent X=X.E.n:=by rw [hmt];rfl
 rw [hsh,hst] at hcN
 have hcl:X.M.cN< v.heap.size:=by have:=H.wd.size;omega
 have hon:s.j=X.nW:=by rw [H.ac.on,hmt];rfl
 have hnW:=O.nW
 let v1:World:={v with heap:=v.heap.setIfInBounds X.M.cN (.chan X.E.n (s.bufN.map X.num).toArray true X.E.n s.rN false)}
 have c1:v1.heap.size=v.heap.size:=by simp [v1]
 have c2:v1.heap[X.M.cN]? =some (.chan X.E.n (s.bufN.map X.num).toArray true X.E.n s.rN false):=by simp [v1,hcl]
 have c3: ∀b,b≠X.M.cN→v1.heap[b]? =v.heap[b]? :=fun b hb=>by simp [v1,Array.getElem?_setIfInBounds_ne (Ne.symm hb)]
 have e:=AtOp.value (mCl_op X.M xs X.ds X.E.n) (mCl_feed X.M xs X.ds X.E.n X.E.n (s.bufN.map X.num).toArray X.E.n s.rN false) (w:=v) (w':=v1) (es:=#[⟨.obj X.M.cN,false,true⟩,⟨.obj X.M.cN,true,true⟩]) ⟨hcN,rfl,⟨_,hcN,rfl⟩,rfl,rfl⟩
 rw [mCl_fn,seen_cl] at e
 have hrun:=runT_crowd_go (P:=Pg) (sl:=sl) (i:=0) h0 (show stepG Pg (0==0) (mCl X.M xs X.ds X.E.n) v=_ from e)
 have hown: ∀i b,i< s.j→s.ow i b→b≠X.M.cN:=fun i b hi hb h=>by have:=(H.tr.own i b hi hb).1;omega
 let s':PS:={s with mt:= .wd 7 xs,ws:=fun k=>wake (s.ws k)}
 have hw: ∀k,s'.ws k=wake (s.ws k):=fun _=>rfl
 have hc:s'.c=s.c:=sumTo_congr fun k _=>(wake_facts (s.ws k)).1
 have hsz:=H.gs.size
 have hM':MAt X (gOf (mCl X.M xs X.ds X.E.n) ((mCl X.M xs X.ds X.E.n).frame.finish unit)) (.wd 7 xs):=by
  have h1:=(mWt_slid X.M xs X.ds X.E.n).glide
  rw [mWt_wait] at h1
  exact h1.trans (aw0_slid _ _ _).glide
 have hdf: ∀i,i≠0→Deaf (t++MemOp.ofEvents 0 (mCl X.M xs X.ds X.E.n).frame.fn (mCl X.M xs X.ds X.E.n).frame.place #[⟨.obj X.M.cN,false,true⟩,⟨.obj X.M.cN,true,true⟩]) i=Deaf t i:=fun i hi=>Deaf_other t (Ne.symm hi) _ fun op hop=>ofEvents_g hop
 refine ⟨s',_,v1,_,hrun,⟨?_,?_,?_,?_,?_⟩,.inl ?_⟩
 ·refine ⟨by simp [hsz,s'],⟨_,by rw [Array.getElem?_setIfInBounds_self_of_lt (by simp;omega)],hM'⟩,fun k hk=>?_,fun k g hk hkn hg=>?_,fun k hk=>?_⟩
  ·rw [hdf _ (by omega),hw]
   obtain ⟨g,hg,hW⟩:=H.gs.work k hk
   have hW1:=hW.stable (v2:=v1) (by rw [c1];exact Nat.le_refl _) (by
    rintro b (⟨r,hr⟩|hb)
    ·exact c3 b (by have:=(O.K.dom r b hr).2;omega)
    ·exact c3 b (hown k b hk hb))
   rcases hW.status with ⟨hp,_⟩|⟨ys,hx,rfl⟩
   ·refine ⟨g,?_,?_⟩
    ·rw [Array.getElem?_setIfInBounds_ne (by omega),Array.getElem?_map,hg]
     simp only [Option.map_some]
     rw [hW.woken _ _ (fun h=>by rw [hp] at h;cases h)]
    ·have:wake (s.ws k)=s.ws k:=by cases hσ:s.ws k<;> first|rfl|(rw [hσ] at hp;cases hp)
     rw [this]
     exact hW1
   ·refine ⟨{parkedG X ys with status:= .running},?_,?_⟩
    ·rw [Array.getElem?_setIfInBounds_ne (by omega),Array.getElem?_map,hg]
     simp only [Option.map_some,Option.some.injEq]
     unfold Go.Conc.woken
     rw [mCl_wakes,if_pos (by rfl)]
     unfold parkedG
     rw [recvCases_eq]
     exact again_recv_closed c2
    ·rw [hx] at hW ⊢
     exact ⟨rfl,hW.2⟩
  ·rw [hdf _ (by omega)]
   rw [Array.getElem?_setIfInBounds_ne (by omega),Array.getElem?_map] at hg
   obtain ⟨y,hy,rfl⟩:=Option.map_eq_some_iff.1 hg
   have hq:=H.gs.leav k y hk hkn hy
   rw [woken_quitsD hq]
   exact hq
  ·simp at hk
   rw [hdf k (by omega)]
   exact H.gs.above k hk
 ·refine ⟨⟨by rw [c1];exact H.wd.old.1,fun b hb'=>by rw [c3 b (by omega)];exact H.wd.old.2 b hb'⟩,by rw [c1];exact H.wd.size,?_,?_,?_,c2,?_,?_,H.wd.tape,H.wd.os,H.wd.output⟩
  ·rw [c3 _ (by omega)];exact H.wd.bT
  ·rw [c3 _ (by omega)];exact H.wd.bN
  ·rw [c3 _ (by omega)];exact H.wd.bB
  ·obtain ⟨sB,hB⟩:=H.wd.cB;exact ⟨sB,by rw [c3 _ (by omega)];exact hB⟩
  ·rw [c3 _ (by omega)];exact H.wd.wg
 ·have hgot:=H.ac.got
  have hcount:=H.ac.count
  rw [hst] at hgot hcount
  refine ⟨hon,Nat.le_refl _,hgot,fun m hm=>?_,?_,H.ac.okN,H.ac.okB,fun k hk hp=>?_,fun k hk hr=>?_⟩
  ·rcases H.ac.cover m (by rw [hst];exact hm) with h|h|⟨k',h1,h2⟩
   ·exact .inl h
   ·exact .inr (.inl h)
   ·exact .inr (.inr ⟨k',h1,by rw [hw,(wake_facts _).2.1];exact h2⟩)
  ·show s.bufN.length+sumTo s.j (fun k=>if (s'.ws k).job.isSome then 1 else 0)+s.bufB.length≤X.E.n
   rw [sumTo_congr (g:=fun k=>if (s.ws k).job.isSome then 1 else 0) fun k _=>by rw [hw,(wake_facts _).2.1]]
   exact hcount
  ·rw [hw,(wake_facts _).2.2.2.1] at hp;cases hp
  ·rw [hw] at hr
   have:=(H.ac.gone k hk ((wake_facts _).2.2.2.2.2.1 hr)).1
   rw [hsh] at this;cases this
 ·refine .opn rfl (fun k hk=>?_) ?_ a3 (fun k n xs ys h=>by cases h)
  ·rw [hw];exact (wake_facts _).2.2.2.2.2.2 (a1 k hk)
  ·show s.st=(s'.c+0)*KK'
   rw [hc];exact a2'
 ·refine H.tr.step O (s':=s') (.inl rfl) rfl (by rw [c1];exact Nat.le_refl _) (fun i b hi hb=> .inl hb) H.wd.size (fun e he a ha=>?_) (fun e he=>?_) (fun k hk hr=>?_) (fun e he=>?_) (by simp only [if_true];rw [H.tr.d0,hmt];rfl) (fun n xs h=>by cases h)
  ·simp at he
   rcases he with rfl|rfl
   ·simp only [MemAct.ofEvent,MemAct.touch?,Option.some.injEq] at ha
    subst ha
    refine ⟨rfl,fun b hb=>?_⟩
    simp only [blk,Option.some.injEq] at hb
    subst hb
    exact .inr (.inr ⟨.inr (.inl rfl),by simp,by simp⟩)
   ·simp [MemAct.ofEvent,MemAct.touch?] at ha
  ·simp at he
   rw [c1]
   rcases he with rfl|rfl<;> exact hcl
  ·rw [hw,(wake_facts _).2.2.1] at hr
   exact rel_other H.tr (fun op hop=>ofEvents_g hop) hk (by omega) hr
  ·simp at he
   rcases he with rfl|rfl<;> simp
 ·have h1:=sum_near (f:=fun k=>(s'.ws k).rank) (g:=fun k=>(s.ws k).rank) (j:=s.j) fun k _=>(wake_facts (s.ws k)).2.2.2.2.1
  show (Mt.wd 7 xs).rank s'.c+sumTo s.j (fun k=>(s'.ws k).rank)+12*s'.c+60*(X.E.n - s.rN)< s.mt.rank s.c+sumTo s.j (fun k=>(s.ws k).rank)+12*s.c+60*(X.E.n - s.rN)
  rw [hc,hmt]
  simp only [Mt.rank]
  omega
theorem main_step (O:PCOk T Goal X) {s:PS} {gs:Array Goroutine} {v:World} {sl:Option (Nat×Nat)} {t:Trace} (H:PI T Goal X s gs v t) (hfin: ∀n xs,s.mt= .fin n xs→False) {h:Goroutine} (h0:gs[0]? =some h) (hrun:h.status= .running):StepsTo T Goal X s gs v sl t 0:=by
 obtain ⟨h',h0',hm⟩:=H.gs.main
 rw [h0] at h0'
 cases h0'
 cases hmt:s.mt with
 |dis i n xs=>
  cases n with
  |zero=>exact m_dis O H h0 hm hmt
  |succ n=>
   rw [hmt] at hm
   rcases hm.1.cases' with ⟨hx,_⟩|⟨m,g1,hx,hst,hgl⟩
   ·cases hx
   ·cases hx;exact mainIdle O H h0 hst (mt':= .dis i n xs) ⟨hgl,hm.2⟩ (by rw [hmt];exact ⟨fun _=>rfl,rfl,rfl,rfl,rfl,rfl,rfl,rfl,rfl,(fun _ _ _ _ hx=>by cases hx),(fun _ _ hx=>by cases hx)⟩) (by rw [hmt];rfl)
 |add i n xs=>
  cases n with
  |zero=>exact m_add O H h0 hm hmt
  |succ n=>
   rw [hmt] at hm
   rcases hm.1.cases' with ⟨hx,_⟩|⟨m,g1,hx,hst,hgl⟩
   ·cases hx
   ·cases hx;exact mainIdle O H h0 hst (mt':= .add i n xs) ⟨hgl,hm.2⟩ (by rw [hmt];exact ⟨fun _=>rfl,rfl,rfl,rfl,rfl,rfl,rfl,rfl,rfl,(fun _ _ _ _ hx=>by cases hx),(fun _ _ hx=>by cases hx)⟩) (by rw [hmt];rfl)
 |cv i n xs=>
  cases n with
  |zero=>exact m_cv O H h0 hm hmt
  |succ n=>
   rw [hmt] at hm
   rcases hm.1.cases' with ⟨hx,_⟩|⟨m,g1,hx,hst,hgl⟩
   ·cases hx
   ·cases hx;exact mainIdle O H h0 hst (mt':= .cv i n xs) ⟨hgl,hm.2⟩ (by rw [hmt];exact ⟨fun _=>rfl,rfl,rfl,rfl,rfl,rfl,rfl,rfl,rfl,(fun _ _ _ _ hx=>by cases hx),(fun _ _ hx=>by cases hx)⟩) (by rw [hmt];rfl)
 |rd i xs=>exact m_rd O H h0 hm hmt
 |en1 i n xs=>
  cases n with
  |zero=>exact m_en1 O H h0 hm hmt
  |succ n=>
   rw [hmt] at hm
   rcases hm.1.cases' with ⟨hx,_⟩|⟨m,g1,hx,hst,hgl⟩
   ·cases hx
   ·cases hx;exact mainIdle O H h0 hst (mt':= .en1 i n xs) ⟨hgl,hm.2⟩ (by rw [hmt];exact ⟨fun _=>rfl,rfl,rfl,rfl,rfl,rfl,rfl,rfl,rfl,(fun _ _ _ _ hx=>by cases hx),(fun _ _ hx=>by cases hx)⟩) (by rw [hmt];rfl)
 |en i n k xs=>
  cases n with
  |zero=>exact m_en O H h0 hm hmt
  |succ n=>
   rw [hmt] at hm
   rcases hm.1.cases' with ⟨hx,_⟩|⟨m,g1,hx,hst,hgl⟩
   ·cases hx
   ·cases hx;exact mainIdle O H h0 hst (mt':= .en i n k xs) ⟨hgl,hm.2⟩ (by rw [hmt];exact ⟨fun _=>rfl,rfl,rfl,rfl,rfl,rfl,rfl,rfl,rfl,(fun _ _ _ _ hx=>by cases hx),(fun _ _ hx=>by cases hx)⟩) (by rw [hmt];rfl)
 |go i n xs=>
  cases n with
  |zero=>exact m_go O H h0 hm hmt
  |succ n=>
   rw [hmt] at hm
   rcases hm.1.cases' with ⟨hx,_⟩|⟨m,g1,hx,hst,hgl⟩
   ·cases hx
   ·cases hx;exact mainIdle O H h0 hst (mt':= .go i n xs) ⟨hgl,hm.2⟩ (by rw [hmt];exact ⟨fun _=>rfl,rfl,rfl,rfl,rfl,rfl,rfl,rfl,rfl,(fun _ _ _ _ hx=>by cases hx),(fun _ _ hx=>by cases hx)⟩) (by rw [hmt];rfl)
 |ld j n xs=>
  cases n with
  |zero=>exact m_ld O H h0 hm hmt
  |succ n=>
   rw [hmt] at hm
   rcases hm.1.cases' with ⟨hx,_⟩|⟨m,g1,hx,hst,hgl⟩
   ·cases hx
   ·cases hx;exact mainIdle O H h0 hst (mt':= .ld j n xs) ⟨hgl,hm.2⟩ (by rw [hmt];exact ⟨fun _=>rfl,rfl,rfl,rfl,rfl,rfl,rfl,rfl,rfl,(fun _ _ _ _ hx=>by cases hx),(fun _ _ hx=>by cases hx)⟩) (by rw [hmt];rfl)
 |sd j n xs=>
  cases n with
  |zero=>exact m_sd O H h0 hm hmt
  |succ n=>
   rw [hmt] at hm
   rcases hm.1.cases' with ⟨hx,_⟩|⟨m,g1,hx,hst,hgl⟩
   ·cases hx
   ·cases hx;exact mainIdle O H h0 hst (mt':= .sd j n xs) ⟨hgl,hm.2⟩ (by rw [hmt];exact ⟨fun _=>rfl,rfl,rfl,rfl,rfl,rfl,rfl,rfl,rfl,(fun _ _ _ _ hx=>by cases hx),(fun _ _ hx=>by cases hx)⟩) (by rw [hmt];rfl)
 |lc n xs=>
  cases n with
  |zero=>exact m_lc O H h0 hm hmt
  |succ n=>
   rw [hmt] at hm
   rcases Glide.cases' hm with ⟨hx,_⟩|⟨m,g1,hx,hst,hgl⟩
   ·cases hx
   ·cases hx;exact mainIdle O H h0 hst (mt':= .lc n xs) hgl (by rw [hmt];exact ⟨fun _=>rfl,rfl,rfl,rfl,rfl,rfl,rfl,rfl,rfl,(fun _ _ _ _ hx=>by cases hx),(fun _ _ hx=>by cases hx)⟩) (by rw [hmt];rfl)
 |cl xs=>exact m_cl O H h0 hm hmt
 |wd n xs=>
  cases n with
  |zero=>exact m_wd O H h0 hm hmt
  |succ n=>
   rw [hmt] at hm
   rcases Glide.cases' hm with ⟨hx,_⟩|⟨m,g1,hx,hst,hgl⟩
   ·cases hx
   ·cases hx;exact mainIdle O H h0 hst (mt':= .wd n xs) hgl (by rw [hmt];exact ⟨fun _=>rfl,rfl,rfl,rfl,rfl,rfl,rfl,rfl,rfl,(fun _ _ _ _ hx=>by cases hx),(fun _ _ hx=>by cases hx)⟩) (by rw [hmt];rfl)
 |wl n xs ys=>
  cases n with
  |zero=>exact m_wl O H h0 hm hmt
  |succ n=>
   rw [hmt] at hm
   rcases Glide.cases' hm with ⟨hx,_⟩|⟨m,g1,hx,hst,hgl⟩
   ·cases hx
   ·cases hx;exact mainIdle O H h0 hst (mt':= .wl n xs ys) hgl (by rw [hmt];exact ⟨fun _=>rfl,rfl,rfl,rfl,rfl,rfl,rfl,rfl,rfl,(fun _ _ _ _ hx=>by cases hx),(fun _ _ hx=>by cases hx)⟩) (by rw [hmt];rfl)
 |zen n xs ys=>
  cases n with
  |zero=>exact m_zen O H h0 hm hmt
  |succ n=>
   rw [hmt] at hm
   rcases Glide.cases' hm with ⟨hx,_⟩|⟨m,g1,hx,hst,hgl⟩
   ·cases hx
   ·cases hx;exact mainIdle O H h0 hst (mt':= .zen n xs ys) hgl (by rw [hmt];exact ⟨fun _=>rfl,rfl,rfl,rfl,rfl,rfl,rfl,rfl,rfl,(fun _ _ _ _ hx=>by cases hx),(fun _ _ hx=>by cases hx)⟩) (by rw [hmt];rfl)
 |zc n xs ys=>
  cases n with
  |zero=>exact m_zc O H h0 hm hmt
  |succ n=>
   rw [hmt] at hm
   rcases Glide.cases' hm with ⟨hx,_⟩|⟨m,g1,hx,hst,hgl⟩
   ·cases hx
   ·cases hx;exact mainIdle O H h0 hst (mt':= .zc n xs ys) hgl (by rw [hmt];exact ⟨fun _=>rfl,rfl,rfl,rfl,rfl,rfl,rfl,rfl,rfl,(fun _ _ _ _ hx=>by cases hx),(fun _ _ hx=>by cases hx)⟩) (by rw [hmt];rfl)
 |za xs ys=>exact m_za O H h0 hm hmt
 |cas k n xs ys=>
  cases n with
  |zero=>exact m_cas O H h0 hm hmt
  |succ n=>
   rw [hmt] at hm
   rcases hm.1.cases' with ⟨hx,_⟩|⟨m,g1,hx,hst,hgl⟩
   ·cases hx
   ·cases hx;exact mainIdle O H h0 hst (mt':= .cas k n xs ys) ⟨hgl,hm.2⟩ (by rw [hmt];exact ⟨fun _=>rfl,rfl,rfl,rfl,rfl,rfl,rfl,rfl,rfl,(fun _ _ _ _ hx=>by cases hx;exact ⟨_,rfl⟩),(fun _ _ hx=>by cases hx)⟩) (by rw [hmt];rfl)
 |hcv k n xs ys=>
  cases n with
  |zero=>exact m_hcv O H h0 hm hmt
  |succ n=>
   rw [hmt] at hm
   rcases hm.1.cases' with ⟨hx,_⟩|⟨m,g1,hx,hst,hgl⟩
   ·cases hx
   ·cases hx;exact mainIdle O H h0 hst (mt':= .hcv k n xs ys) ⟨hgl,hm.2⟩ (by rw [hmt];exact ⟨fun _=>rfl,rfl,rfl,rfl,rfl,rfl,rfl,rfl,rfl,(fun _ _ _ _ hx=>by cases hx),(fun _ _ hx=>by cases hx)⟩) (by rw [hmt];rfl)
 |hwr k xs ys=>exact m_hwr O H h0 hm hmt
 |sem n xs ys=>
  cases n with
  |zero=>exact m_sem O H h0 hm hmt
  |succ n=>
   rw [hmt] at hm
   rcases Glide.cases' hm with ⟨hx,_⟩|⟨m,g1,hx,hst,hgl⟩
   ·cases hx
   ·cases hx;exact mainIdle O H h0 hst (mt':= .sem n xs ys) hgl (by rw [hmt];exact ⟨fun _=>rfl,rfl,rfl,rfl,rfl,rfl,rfl,rfl,rfl,(fun _ _ _ _ hx=>by cases hx),(fun _ _ hx=>by cases hx)⟩) (by rw [hmt];rfl)
 |blk xs ys=>
  rw [hmt] at hm
  have:h=_:=hm
  rw [this] at hrun
  cases hrun
 |l2 n xs ys=>
  cases n with
  |zero=>exact m_l2 O H h0 hm hmt
  |succ n=>
   rw [hmt] at hm
   rcases Glide.cases' hm with ⟨hx,_⟩|⟨m,g1,hx,hst,hgl⟩
   ·cases hx
   ·cases hx;exact mainIdle O H h0 hst (mt':= .l2 n xs ys) hgl (by rw [hmt];exact ⟨fun _=>rfl,rfl,rfl,rfl,rfl,rfl,rfl,rfl,rfl,(fun _ _ _ _ hx=>by cases hx),(fun _ _ hx=>by cases hx)⟩) (by rw [hmt];rfl)
 |en2 n xs ys=>
  cases n with
  |zero=>exact m_en2 O H h0 hm hmt
  |succ n=>
   rw [hmt] at hm
   rcases Glide.cases' hm with ⟨hx,_⟩|⟨m,g1,hx,hst,hgl⟩
   ·cases hx
   ·cases hx;exact mainIdle O H h0 hst (mt':= .en2 n xs ys) hgl (by rw [hmt];exact ⟨fun _=>rfl,rfl,rfl,rfl,rfl,rfl,rfl,rfl,rfl,(fun _ _ _ _ hx=>by cases hx),(fun _ _ hx=>by cases hx)⟩) (by rw [hmt];rfl)
 |ac n xs ys=>
  cases n with
  |zero=>exact m_ac O H h0 hm hmt
  |succ n=>
   rw [hmt] at hm
   rcases Glide.cases' hm with ⟨hx,_⟩|⟨m,g1,hx,hst,hgl⟩
   ·cases hx
   ·cases hx;exact mainIdle O H h0 hst (mt':= .ac n xs ys) hgl (by rw [hmt];exact ⟨fun _=>rfl,rfl,rfl,rfl,rfl,rfl,rfl,rfl,rfl,(fun _ _ _ _ hx=>by cases hx),(fun _ _ hx=>by cases hx)⟩) (by rw [hmt];rfl)
 |aq xs ys=>exact m_aq O H h0 hm hmt
 |fin n xs=>exact (hfin n xs hmt).elim
theorem any_step (O:PCOk T Goal X) {s:PS} {gs:Array Goroutine} {v:World} {sl:Option (Nat×Nat)} {t:Trace} (H:PI T Goal X s gs v t) (hfin: ∀n xs,s.mt= .fin n xs→False) {i:Nat} {g:Goroutine} (hi:gs[i]? =some g) (hg:g.status= .running):StepsTo T Goal X s gs v sl t i:=by
 have hlt:=(Array.getElem?_eq_some_iff.1 hi).1
 rw [H.gs.size] at hlt
 rcases Nat.eq_zero_or_pos i with rfl|hpos
 ·exact main_step O H hfin hi hg
 ·rcases Nat.lt_or_ge i X.n0 with h|h
  ·exact leaver_step O H hfin hpos h hi hg
  ·obtain ⟨k,rfl⟩: ∃k,i=X.n0+k:=⟨i - X.n0,by omega⟩
   exact worker_step O H hfin (by omega) hi hg
theorem WAt.runs {ow:Nat→Prop} {d:Nat} {g:Goroutine} {v:World} {σ:Wk} (h:WAt T Goal X ow d g v σ) (hp:σ.parked=false) (hr:σ.rank≠0):g.status= .running:=by
 cases σ with
 |load n=>exact h.1.run (load_op _).2.1
 |recv n xs=>exact h.1.run (recv_op _ _).2.1
 |park xs=>cases hp
 |woken xs=>rw [h.1]
 |draw n i xs=>exact h.1.run (draw_status _ _)
 |ops i l xs=>rw [h.1];exact gOps_status _ _ _
 |text i l xs s=>obtain ⟨_,_,Y,_,h4⟩:=h;exact h4.running
 |summ i l xs s=>obtain ⟨_,_,Y,_,h4⟩:=h;exact h4.running
 |conv n xs=>exact h.1.run (anConv_op _ _).2.1
 |relm xs=>rw [h.1];exact anRelm_status _ _
 |dis n xs=>exact h.1.run (anDis_status _ _)
 |add n xs=>exact h.1.run (anAdd_op _ _).2.1
 |ld4 n xs=>exact h.1.run (alLd_op _ _ _).2.1
 |st3 n xs=>exact h.1.run (alSt_op _ _ _).2.1
 |sem2 n xs=>exact h.1.run (alSem_op _ _ _).2.1
 |quit q=>exact absurd rfl hr
theorem sum_some {f:Nat→Nat}: ∀{j:Nat},1≤sumTo j f→∃k,k< j∧1≤f k
 |0,h=>absurd h (by simp [sumTo])
 |j+1,h=>by
  simp only [sumTo] at h
  by_cases hj:1≤f j
  ·exact ⟨j,by omega,hj⟩
  ·obtain ⟨k,hk,h1⟩:=sum_some (f:=f) (j:=j) (by omega)
   exact ⟨k,by omega,h1⟩
theorem somebody (O:PCOk T Goal X) {s:PS} {gs:Array Goroutine} {v:World} {t:Trace} (H:PI T Goal X s gs v t): ∃(i:Nat) (g:Goroutine),gs[i]? =some g∧g.status= .running:=by
 obtain ⟨h,h0,hm⟩:=H.gs.main
 rcases hm.status O with ⟨_,hr⟩|⟨xs,ys,hmt,_⟩
 ·exact ⟨0,h,h0,hr⟩
 ·have key: ∀k,k< s.j→(s.ws k).rank≠0→∃(i:Nat) (g:Goroutine),gs[i]? =some g∧g.status= .running:=by
   intro k hk hr
   obtain ⟨g,hg,hW⟩:=H.gs.work k hk
   refine ⟨_,g,hg,hW.runs ?_ hr⟩
   cases hp:(s.ws k).parked with
   |false=>rfl
   |true=>
    have:=(H.ac.park k hk hp).2
    rw [hmt] at this
    cases this
  cases H.wg with
  |opn a1 a2 a3 a4 a5=>rw [hmt] at a1;cases a1
  |reg a1 a2 a3 a4 a5=>
   obtain ⟨k,hk,h1⟩:=sum_some (f:=fun k=>(s.ws k).cnt) a3
   have h2:=Wk.cnt_le (s.ws k)
   have h3:=(Wk.cnt_rank (s.ws k)).1 (by omega)
   exact key k hk (by omega)
  |last q a1 a2 a3 a4 a5 a6 a7=>exact key q a2 (by omega)
  |sema a1 a2 a3 a4 a5=>rw [hmt] at a2;cases a2
  |done a1 a2 a3 a4 a5=>rw [hmt] at a2;cases a2
theorem all_awake (O:PCOk T Goal X) {s:PS} {gs:Array Goroutine} {v:World} {t:Trace} (H:PI T Goal X s gs v t): ∀g∈gs,awake g:=by
 intro g hg
 obtain ⟨i,hi,rfl⟩:=Array.mem_iff_getElem.1 hg
 have hgi:gs[i]? =some gs[i]:=Array.getElem?_eq_getElem hi
 rw [H.gs.size] at hi
 have use: ∀{st:GoStatus},gs[i].status=st→(∀t,st≠.sleeping t)→awake gs[i]:=fun h1 h2 t=>by rw [h1];exact h2 t
 rcases Nat.eq_zero_or_pos i with rfl|hpos
 ·obtain ⟨h,h0,hm⟩:=H.gs.main
  rw [hgi] at h0
  have h0:=Option.some.inj h0
  rcases hm.status O with ⟨_,hr⟩|⟨xs,ys,_,hr⟩
  ·exact use (h0 ▸ hr) (fun t=>by simp)
  ·exact use (st:= .blocked) (by rw [h0,hr]) (fun t=>by simp)
 ·rcases Nat.lt_or_ge i X.n0 with h|h
  ·rcases (H.gs.leav i _ hpos h hgi).status with hr|hr
   ·exact use hr (fun t=>by simp)
   ·exact use hr (fun t=>by simp)
  ·obtain ⟨k,rfl⟩: ∃k,i=X.n0+k:=⟨i - X.n0,by omega⟩
   obtain ⟨g,hg,hW⟩:=H.gs.work k (by omega)
   rw [hgi] at hg
   have hg:=Option.some.inj hg
   rcases hW.status with ⟨_,hr|hr⟩|⟨ys,_,hr⟩
   ·exact use (hg ▸ hr) (fun t=>by simp)
   ·exact use (hg ▸ hr) (fun t=>by simp)
   ·exact use (st:= .blocked) (by rw [hg,hr];rfl) (fun t=>by simp)
theorem PI.acc {s:PS} {gs:Array Goroutine} {v:World} {t:Trace} (H:PI T Goal X s gs v t):Acc (TStep (Nxt Qg Goal) 4) s.kap:=by
 refine tstep_acc 4 _ fun k _ x hx=>?_
 unfold PS.kap at hx
 split at hx
 ·rename_i hk
  obtain ⟨g,hg,hW⟩:=H.gs.work k hk
  cases hσ:s.ws k<;> rw [hσ] at hx hW<;> simp only [Wk.tree,Option.some.injEq,reduceCtorEq] at hx
  ·subst hx;obtain ⟨_,_,Y,_,h4⟩:=hW;exact h4.acc
  ·subst hx;obtain ⟨_,_,Y,_,h4⟩:=hW;exact h4.acc
 ·cases hx
def Waited (T:Tab) (Goal:Frame→List Frame→World→Prop) (X:PC L) (gs:Array Goroutine) (v:World) (sl:Option (Nat×Nat)) (t:Trace):Prop:=
 ∃N s' gs' v' sl' t',runNT Pg N (crowd gs v sl) t=(.next (crowd gs' v' sl'),t')∧PI T Goal X s' gs' v' t'∧∃n xs,s'.mt= .fin n xs
theorem pool_run (O:PCOk T Goal X): ∀(φ:Nat) (s:PS) (gs:Array Goroutine) (v:World) (sl:Option (Nat×Nat)) (t:Trace),PI T Goal X s gs v t→s.phi X=φ→Waited T Goal X gs v sl t:=by
 intro φ
 induction φ using Nat.strongRecOn with
 |_ φ ihφ=>
  have key: ∀κ,Acc (TStep (Nxt Qg Goal) 4) κ→∀(ε:Nat) (s:PS) (gs:Array Goroutine) (v:World) (sl:Option (Nat×Nat)) (t:Trace),PI T Goal X s gs v t→s.phi X=φ→s.kap=κ→s.eff X=ε→Waited T Goal X gs v sl t:=by
   intro κ ha
   induction ha with
   |intro κ _ ihκ=>
    intro ε
    induction ε using Nat.strongRecOn with
    |_ ε ihε=>
     intro s gs v sl t H hφ hκ hε
     by_cases hf: ∃n xs,s.mt= .fin n xs
     ·exact ⟨0,s,gs,v,sl,t,rfl,H,hf⟩
     ·obtain ⟨i,g,d,sl',hi,hg,hpick⟩:=crowd_pick (P:=Pg) (w:=v) (sl:=sl) (all_awake O H) (somebody O H)
      obtain ⟨s',gs',v',ops,hr,H',hd⟩:=any_step (sl:=sl') O (H.at d) (fun n xs h=>hf ⟨n,xs,h⟩) hi hg
      have hw:Waited T Goal X gs' v' sl' (t++ops):=by
       rcases hd with hd|⟨hd,hk⟩|⟨hd,hk,he⟩
       ·exact ihφ _ (hφ ▸ hd) s' gs' v' sl' _ H' rfl
       ·exact ihκ _ (hκ ▸ hk) _ s' gs' v' sl' _ H' (hd.trans hφ) rfl rfl
       ·exact ihε _ (hε ▸ he) s' gs' v' sl' _ H' (hd.trans hφ) (hk.trans hκ) rfl
      obtain ⟨N,s2,gs2,v2,sl2,t2,r1,r2,r3⟩:=hw
      refine ⟨N+1,s2,gs2,v2,sl2,t2,?_,r2,r3⟩
      simp only [runNT,hpick,hr]
      exact r1
  intro s gs v sl t H hφ
  exact key s.kap H.acc (s.eff X) s gs v sl t H hφ rfl rfl
end
end Go.Proofs.YtldmcdeibiclkaaGreatDoor.U
end
