/-
  Toward: treed_holds, each node's digest is that of its children's, for every argument of Treed. THE POOL's MACHINE: the starter's Add, and what Wait does.
  THE POOL's MACHINE: the starter's Add, and what Wait does (the steps).
-/
import Derived.Test.YtldmcdeibiclkaaGreatDoorC23
set_option linter.unusedVariables false
set_option linter.unusedSimpArgs false
set_option maxRecDepth 4000
section
namespace Go.Proofs.YtldmcdeibiclkaaGreatDoor.U
open Go.Conc
open Go.ConcN (upd upd_same upd_ne sumTo sumTo_upd sumTo_congr sumTo_le le_sumTo RelBy)
theorem more0:more 0=4294967296:=by kernel_rfl
theorem more1:more 4294967296=8589934592:=by kernel_rfl
theorem more2:more 8589934592=12884901888:=by kernel_rfl
theorem more3:more 12884901888=17179869184:=by kernel_rfl
theorem moreN {c:Nat} (h:c≤3):more (c*KK':Nat)=((c+1)*KK':Nat):=by
 rcases (show c=0∨c=1∨c=2∨c=3 by omega) with rfl|rfl|rfl|rfl
 ·exact more0
 ·exact more1
 ·exact more2
 ·exact more3
section
variable (c:Frame) (cs:List Frame) (wg:Nat) (ys:Nat→Value) {k:Nat}
theorem apEn_slid' (h:2≤k∧k≤4):Slid Pg true 87 (apAdded c cs wg (k*KK':Nat)):=by
 rcases (show k=2∨k=3∨k=4 by omega) with rfl|rfl|rfl
 ·exact apEn_slid_8589934592 c cs wg
 ·exact apEn_slid_12884901888 c cs wg
 ·exact apEn_slid_17179869184 c cs wg
theorem apEn_step' (h:2≤k∧k≤4) (w:World):stepG Pg true (apEn c cs wg (k*KK':Nat)) w= .go (enabledM (apEn c cs wg (k*KK':Nat))) w #[mkE .enable]:=by
 rcases (show k=2∨k=3∨k=4 by omega) with rfl|rfl|rfl
 ·exact apEn_step_8589934592 c cs wg w
 ·exact apEn_step_12884901888 c cs wg w
 ·exact apEn_step_17179869184 c cs wg w
theorem apEn_back' (h:2≤k∧k≤4):Glide Pg true 1 (enabledM (apEn c cs wg (k*KK':Nat))) (backM c cs):=by
 rcases (show k=2∨k=3∨k=4 by omega) with rfl|rfl|rfl
 ·exact apEn_back_8589934592 c cs wg
 ·exact apEn_back_12884901888 c cs wg
 ·exact apEn_back_17179869184 c cs wg
theorem awCas_slid' (h:1≤k∧k≤4):Slid Pg true 48 (awSaw c cs wg ys (k*KK':Nat)):=by
 rcases (show k=1∨k=2∨k=3∨k=4 by omega) with rfl|rfl|rfl|rfl
 ·exact awCas_slid_4294967296 c cs wg ys
 ·exact awCas_slid_8589934592 c cs wg ys
 ·exact awCas_slid_12884901888 c cs wg ys
 ·exact awCas_slid_17179869184 c cs wg ys
theorem awCas_fn' (h:1≤k∧k≤4):(awCas c cs wg ys (k*KK':Nat)).frame.fn=133:=by
 rcases (show k=1∨k=2∨k=3∨k=4 by omega) with rfl|rfl|rfl|rfl
 ·rw [show ((1*KK':Nat):Int)=4294967296 from rfl];exact awCas_fn_4294967296 c cs wg ys
 ·rw [show ((2*KK':Nat):Int)=8589934592 from rfl];exact awCas_fn_8589934592 c cs wg ys
 ·rw [show ((3*KK':Nat):Int)=12884901888 from rfl];exact awCas_fn_12884901888 c cs wg ys
 ·rw [show ((4*KK':Nat):Int)=17179869184 from rfl];exact awCas_fn_17179869184 c cs wg ys
theorem awCas_hit' (h:1≤k∧k≤4):feed Pg (pendS (awCas c cs wg ys (k*KK':Nat))) [shWg,.fz false,.val (.int .u64 (k*KK':Nat))]=some ([.mk (.extern 151),.shp wg,.fz ⟨wg,0,none⟩,.ld .atomic ⟨wg,0,none⟩,.st .atomic ⟨wg,0,none⟩ (.int .u64 (k*KK'+1:Nat))],.inl (.value (.bool true))):=by
 rcases (show k=1∨k=2∨k=3∨k=4 by omega) with rfl|rfl|rfl|rfl
 ·rw [show ((1*KK':Nat):Int)=4294967296 from rfl,show ((1*KK'+1:Nat):Int)=4294967296+1 from rfl];exact awCas_hit_4294967296 c cs wg ys
 ·rw [show ((2*KK':Nat):Int)=8589934592 from rfl,show ((2*KK'+1:Nat):Int)=8589934592+1 from rfl];exact awCas_hit_8589934592 c cs wg ys
 ·rw [show ((3*KK':Nat):Int)=12884901888 from rfl,show ((3*KK'+1:Nat):Int)=12884901888+1 from rfl];exact awCas_hit_12884901888 c cs wg ys
 ·rw [show ((4*KK':Nat):Int)=17179869184 from rfl,show ((4*KK'+1:Nat):Int)=17179869184+1 from rfl];exact awCas_hit_17179869184 c cs wg ys
theorem awCas_miss' {d:Nat} (h:1≤k∧k≤4) (hd:d< k):feed Pg (pendS (awCas c cs wg ys (k*KK':Nat))) [shWg,.fz false,.val (.int .u64 (d*KK':Nat))]=some ([.mk (.extern 151),.shp wg,.fz ⟨wg,0,none⟩,.ld .atomic ⟨wg,0,none⟩],.inl (.value (.bool false))):=by
 rcases (show (k=1∧d=0)∨(k=2∧d=0)∨(k=2∧d=1)∨(k=3∧d=0)∨(k=3∧d=1)∨(k=3∧d=2)∨(k=4∧d=0)∨(k=4∧d=1)∨(k=4∧d=2)∨(k=4∧d=3) by omega) with ⟨rfl,rfl⟩|⟨rfl,rfl⟩|⟨rfl,rfl⟩|⟨rfl,rfl⟩|⟨rfl,rfl⟩|⟨rfl,rfl⟩|⟨rfl,rfl⟩|⟨rfl,rfl⟩|⟨rfl,rfl⟩|⟨rfl,rfl⟩
 ·rw [show ((1*KK':Nat):Int)=4294967296 from rfl,show ((0*KK':Nat):Int)=0 from rfl];exact awCas_miss_4294967296_0 c cs wg ys
 ·rw [show ((2*KK':Nat):Int)=8589934592 from rfl,show ((0*KK':Nat):Int)=0 from rfl];exact awCas_miss_8589934592_0 c cs wg ys
 ·rw [show ((2*KK':Nat):Int)=8589934592 from rfl,show ((1*KK':Nat):Int)=4294967296 from rfl];exact awCas_miss_8589934592_4294967296 c cs wg ys
 ·rw [show ((3*KK':Nat):Int)=12884901888 from rfl,show ((0*KK':Nat):Int)=0 from rfl];exact awCas_miss_12884901888_0 c cs wg ys
 ·rw [show ((3*KK':Nat):Int)=12884901888 from rfl,show ((1*KK':Nat):Int)=4294967296 from rfl];exact awCas_miss_12884901888_4294967296 c cs wg ys
 ·rw [show ((3*KK':Nat):Int)=12884901888 from rfl,show ((2*KK':Nat):Int)=8589934592 from rfl];exact awCas_miss_12884901888_8589934592 c cs wg ys
 ·rw [show ((4*KK':Nat):Int)=17179869184 from rfl,show ((0*KK':Nat):Int)=0 from rfl];exact awCas_miss_17179869184_0 c cs wg ys
 ·rw [show ((4*KK':Nat):Int)=17179869184 from rfl,show ((1*KK':Nat):Int)=4294967296 from rfl];exact awCas_miss_17179869184_4294967296 c cs wg ys
 ·rw [show ((4*KK':Nat):Int)=17179869184 from rfl,show ((2*KK':Nat):Int)=8589934592 from rfl];exact awCas_miss_17179869184_8589934592 c cs wg ys
 ·rw [show ((4*KK':Nat):Int)=17179869184 from rfl,show ((3*KK':Nat):Int)=12884901888 from rfl];exact awCas_miss_17179869184_12884901888 c cs wg ys
theorem awMiss_glide (h:1≤k∧k≤4): ∃ys',Glide Pg true (9+16) (awMiss c cs wg ys (k*KK':Nat)) (awLd c cs wg ys'):=by
 rcases (show k=1∨k=2∨k=3∨k=4 by omega) with rfl|rfl|rfl|rfl
 ·have:=(awMiss_slid_4294967296 c cs wg ys).glide;rw [awMiss_head_4294967296] at this;exact ⟨_,this.trans (awHead_slid _ _ _ _).glide⟩
 ·have:=(awMiss_slid_8589934592 c cs wg ys).glide;rw [awMiss_head_8589934592] at this;exact ⟨_,this.trans (awHead_slid _ _ _ _).glide⟩
 ·have:=(awMiss_slid_12884901888 c cs wg ys).glide;rw [awMiss_head_12884901888] at this;exact ⟨_,this.trans (awHead_slid _ _ _ _).glide⟩
 ·have:=(awMiss_slid_17179869184 c cs wg ys).glide;rw [awMiss_head_17179869184] at this;exact ⟨_,this.trans (awHead_slid _ _ _ _).glide⟩
theorem awCv_slid' (h:1≤k∧k≤4):Slid Pg true 19 (awHit c cs wg ys (k*KK':Nat)):=by
 rcases (show k=1∨k=2∨k=3∨k=4 by omega) with rfl|rfl|rfl|rfl
 ·exact awCv_slid_4294967296 c cs wg ys
 ·exact awCv_slid_8589934592 c cs wg ys
 ·exact awCv_slid_12884901888 c cs wg ys
 ·exact awCv_slid_17179869184 c cs wg ys
theorem awCv_feed' (h:1≤k∧k≤4):feed Pg (pendS (awCv c cs wg ys (k*KK':Nat))) [shWg,shWg]=some ([.shp wg,.shp wg],.inl (.value (ptr1 wg))):=by
 rcases (show k=1∨k=2∨k=3∨k=4 by omega) with rfl|rfl|rfl|rfl
 ·exact awCv_feed_4294967296 c cs wg ys
 ·exact awCv_feed_8589934592 c cs wg ys
 ·exact awCv_feed_12884901888 c cs wg ys
 ·exact awCv_feed_17179869184 c cs wg ys
theorem awWr_step' (h:1≤k∧k≤4) (w:World):stepG Pg true (awWr c cs wg ys (k*KK':Nat)) w= .go (fin (awWr c cs wg ys (k*KK':Nat)) unit) w #[mkE (.write ⟨wg,1,none⟩)]:=by
 rcases (show k=1∨k=2∨k=3∨k=4 by omega) with rfl|rfl|rfl|rfl
 ·exact awWr_step_4294967296 c cs wg ys w
 ·exact awWr_step_8589934592 c cs wg ys w
 ·exact awWr_step_12884901888 c cs wg ys w
 ·exact awWr_step_17179869184 c cs wg ys w
theorem awSem_glide (h:1≤k∧k≤4): ∃ys',Glide Pg true 23 (fin (awWr c cs wg ys (k*KK':Nat)) unit) (awSem c cs wg ys'):=by
 rcases (show k=1∨k=2∨k=3∨k=4 by omega) with rfl|rfl|rfl|rfl
 ·have:=(awSem_slid_4294967296 c cs wg ys).glide;rw [awSem_is_4294967296] at this;exact ⟨_,this⟩
 ·have:=(awSem_slid_8589934592 c cs wg ys).glide;rw [awSem_is_8589934592] at this;exact ⟨_,this⟩
 ·have:=(awSem_slid_12884901888 c cs wg ys).glide;rw [awSem_is_12884901888] at this;exact ⟨_,this⟩
 ·have:=(awSem_slid_17179869184 c cs wg ys).glide;rw [awSem_is_17179869184] at this;exact ⟨_,this⟩
end
section
variable {L:Lim} {T:Tab} {Goal:Frame→List Frame→World→Prop} {X:PC L}
def EvM (X:PC L) (e:Event):Prop:=(∃o wr,e=⟨.cell ⟨X.M.wg,o,none⟩,wr,true⟩)∨e=mkE .disable∨e=mkE .enable∨(∃o,e=mkE (.read ⟨X.M.wg,o,none⟩))∨(∃o,e=mkE (.write ⟨X.M.wg,o,none⟩))∨e=mkE (.acquire (stA' X))∨e=⟨.cell ⟨X.M.bN,0,none⟩,false,false⟩
theorem ev_main (O:PCOk T Goal X) {s':PS} {B:Nat} (hB:X.M.wg< B) {es:Array Event} (h: ∀e∈es,EvM X e):
  (∀e∈es,∀a,(MemAct.ofEvent e).touch? =some a→a.loc.isMemory=true∧OkT (lots X s') 0 a)∧(∀e∈es,(MemAct.ofEvent e).low B)∧∀e∈es,e.loc≠.mark (.release (stA' X)):=by
 have b3:=O.bN;have b6:=O.wg
 refine ⟨fun e he a ha=>?_,fun e he=>?_,fun e he=>?_⟩
 ·rcases h e he with ⟨o,wr,rfl⟩|rfl|rfl|⟨o,rfl⟩|⟨o,rfl⟩|rfl|rfl
  ·simp only [MemAct.ofEvent,MemAct.touch?,Option.some.injEq] at ha
   subst ha
   refine ⟨rfl,fun b hb=>?_⟩
   simp only [blk,Option.some.injEq] at hb
   subst hb
   exact .inr (.inr ⟨.inl rfl,by simp,by simp⟩)
  ·simp [mkE,MemAct.ofEvent,MemAct.touch?] at ha
  ·simp [mkE,MemAct.ofEvent,MemAct.touch?] at ha
  ·simp only [mkE,MemAct.ofEvent,MemAct.touch?,Option.some.injEq] at ha
   subst ha
   refine ⟨rfl,fun b hb=>?_⟩
   simp only [blk,Option.some.injEq] at hb
   subst hb
   exact .inr (.inr ⟨.inl rfl,by simp,fun _=>rfl⟩)
  ·simp only [mkE,MemAct.ofEvent,MemAct.touch?,Option.some.injEq] at ha
   subst ha
   refine ⟨rfl,fun b hb=>?_⟩
   simp only [blk,Option.some.injEq] at hb
   subst hb
   exact .inr (.inr ⟨.inl rfl,by simp,fun _=>rfl⟩)
  ·simp [mkE,MemAct.ofEvent,MemAct.touch?] at ha
  ·exact ev_box O s' 0 X.M.bN (.inr (.inl rfl)) _ (by simp) a ha
 ·rcases h e he with ⟨o,wr,rfl⟩|rfl|rfl|⟨o,rfl⟩|⟨o,rfl⟩|rfl|rfl
  ·exact low_cell hB _ _
  ·trivial
  ·trivial
  ·exact hB
  ·exact hB
  ·exact hB
  ·exact low_cell (show X.M.bN< B by omega) _ _
 ·rcases h e he with ⟨o,wr,rfl⟩|rfl|rfl|⟨o,rfl⟩|⟨o,rfl⟩|rfl|rfl<;> simp [mkE]
theorem mainAt (O:PCOk T Goal X) {s:PS} {gs:Array Goroutine} {v v1:World} {sl:Option (Nat×Nat)} {t:Trace} (H:PI T Goal X s gs v t) {h h1:Goroutine} (h0:gs[0]? =some h) {es:Array Event} (e:stepG Pg true h v= .go h1 v1 es) (mt':Mt) (st sm:Nat) (hM:MAt X h1 mt')
  (same:mt'.sent X=s.mt.sent X∧mt'.shut=s.mt.shut∧mt'.on X=s.mt.on X)
  (hv:(v1=v∧st=s.st∧sm=s.sm)∨(v1=v.setCell ⟨X.M.wg,0,none⟩ (.int .u64 st)∧sm=s.sm)∨(v1=v.setCell ⟨X.M.wg,1,none⟩ (.int .u32 sm)∧st=s.st))
  (hwg:Wg {s with mt:=mt',st:=st,sm:=sm}) (hes: ∀e∈es,EvM X e) (hd:deafBehind s.mt.deaf es=mt'.deaf)
  (hacq:(∀n xs,mt'≠.fin n xs)∨(allQuit s∧s.mt.deaf=0∧es=#[mkE (.acquire (stA' X))]))
  (hdec:mt'.rank s.c< s.mt.rank s.c∨(mt'.rank s.c=s.mt.rank s.c∧mt'.idle< s.mt.idle)):StepsTo T Goal X s gs v sl t 0:=by
 obtain ⟨p1,p2,p3⟩:=ev_main O (s':={s with mt:=mt',st:=st,sm:=sm}) H.wd.size hes
 have hw:v1.heap.size=v.heap.size∧(∀b,b≠X.M.wg→v1.heap[b]? =v.heap[b]?)∧v1.heap[X.M.wg]? =some (.cells #[.int .u64 st,.int .u32 sm] 188)∧(v1.tape=v.tape∧v1.os=v.os∧v1.output=v.output):=by
  rcases hv with ⟨rfl,rfl,rfl⟩|⟨rfl,rfl⟩|⟨rfl,rfl⟩
  ·exact ⟨rfl,fun _ _=>rfl,H.wd.wg,rfl,rfl,rfl⟩
  ·exact ⟨(set_other v X.M.wg 0 _).1,(set_other v X.M.wg 0 _).2,H.wd.set0 st,rfl,rfl,rfl⟩
  ·exact ⟨(set_other v X.M.wg 1 _).1,(set_other v X.M.wg 1 _).2,H.wd.set1 sm,rfl,rfl,rfl⟩
 refine mainStep O H (s':={s with mt:=mt',st:=st,sm:=sm}) h0 e hM rfl rfl rfl rfl rfl rfl rfl same.1 same.2.1 same.2.2 hw.1 hw.2.1 hw.2.2.1 hw.2.2.2 hwg p1 p2 p3 hd (fun n xs hf=>?_) ?_
 ·rcases hacq with hn|⟨ha,hdf,rfl⟩
  ·exact absurd hf (hn n xs)
  ·have eo:MemOp.ofEvents 0 h.frame.fn h.frame.place #[mkE (.acquire (stA' X))]=#[{g:=0,fn:=h.frame.fn,pos:=h.frame.place,act:= .mark (.acquire (stA' X))}]:=by simp [ofEvents_eq,mkE,MemAct.ofEvent]
   rw [eo]
   refine ⟨t.size,by simp [Trace.act?],by simp [Trace.g?],⟨0,by simp [Trace.g?],by rw [deaf_old (Nat.le_refl _)];exact H.tr.d0.trans hdf⟩,fun k hk=>?_⟩
   obtain ⟨r,hr⟩:=H.tr.rel k hk (by
    have:=ha k hk
    cases hσ:s.ws k<;> rw [hσ] at this<;> simp [Wk.rank] at this<;> rfl)
   have hlt:r< t.size:=by
    have:=hr.g
    unfold Trace.g? at this
    obtain ⟨z,hz,_⟩:=Option.map_eq_some_iff.1 this
    exact lt_size_of_getElem? hz
   exact ⟨r,RelBy.still hr fun op hop=>by simp at hop;rw [hop];rfl,hlt⟩
 ·rcases hdec with h|⟨h,h'⟩
  ·exact dec_main rfl rfl rfl h
  ·refine .inr (.inr ⟨?_,rfl,?_⟩)
   ·show mt'.rank s.c+sumTo s.j (fun k=>(s.ws k).rank)+12*s.c+60*(X.E.n - s.rN)=s.mt.rank s.c+sumTo s.j (fun k=>(s.ws k).rank)+12*s.c+60*(X.E.n - s.rN)
    rw [h]
   ·show mt'.idle+2*sumTo s.j (fun k=>(s.ws k).idle)+2*sumTo X.n0 s.q< s.mt.idle+2*sumTo s.j (fun k=>(s.ws k).idle)+2*sumTo X.n0 s.q
    omega
end
end Go.Proofs.YtldmcdeibiclkaaGreatDoor.U
end
section
namespace Go.Proofs.YtldmcdeibiclkaaGreatDoor.U
open Go.Conc
open Go.ConcN (upd upd_same upd_ne sumTo sumTo_upd sumTo_congr sumTo_le le_sumTo RelBy)
section
variable {L:Lim} {T:Tab} {Goal:Frame→List Frame→World→Prop} {X:PC L}
theorem Wd.boxN {s:PS} {v:World} (H:Wd X s v):v.cell? ⟨X.M.bN,0,none⟩=some (.chan (some X.M.cN)):=by simp [World.cell?,H.bN]
theorem open_reg {mt:Mt} (h:isOpen mt=true):isReg mt=false:=by cases mt<;> first|rfl|cases h
theorem open_of {s:PS} (H:Wg s) (h:isOpen s.mt=true):noLast s∧s.st=(s.c+s.mt.pend)*KK'∧s.sm=0∧∀k n xs ys,s.mt= .cas k n xs ys→s.c≤k:=by
 have hr:=open_reg h
 cases H with
 |opn a1 a2 a3 a4 a5=>exact ⟨a2,a3,a4,a5⟩
 |reg a1 a2 a3 a4 a5=>rw [hr] at a1;cases a1
 |last q a1 a2 a3 a4 a5 a6 a7=>rw [hr] at a1;cases a1
 |sema a1 a2 a3 a4 a5=>rw [hr] at a1;cases a1
 |done a1 a2 a3 a4 a5=>rw [h] at a1;cases a1
theorem done_of {s:PS} (H:Wg s) (h:isOpen s.mt=false) (h':isReg s.mt=false):allQuit s∧s.st=0∧s.sm=0:=by
 cases H with
 |opn a1 a2 a3 a4 a5=>rw [h] at a1;cases a1
 |reg a1 a2 a3 a4 a5=>rw [h'] at a1;cases a1
 |last q a1 a2 a3 a4 a5 a6 a7=>rw [h'] at a1;cases a1
 |sema a1 a2 a3 a4 a5=>rw [h'] at a1;cases a1
 |done a1 a2 a3 a4 a5=>exact ⟨a3,a4,a5⟩
theorem Wg.regs {s:PS} {mt':Mt} (H:Wg s) (h:isReg s.mt=true) (h':isReg mt'=true) (hb:s.sm=1→isBlk mt'=false):Wg {s with mt:=mt',st:=s.st,sm:=s.sm}:=by
 cases H with
 |opn a1 a2 a3 a4 a5=>rw [open_reg a1] at h;cases h
 |reg a1 a2 a3 a4 a5=>exact .reg h' a2 a3 a4 a5
 |last q a1 a2 a3 a4 a5 a6 a7=>exact .last q h' a2 a3 a4 a5 a6 a7
 |sema a1 a2 a3 a4 a5=>exact .sema h' (hb a5) a3 a4 a5
 |done a1 a2 a3 a4 a5=>rw [h] at a2;cases a2
theorem quit_of {s:PS} (h1:noLast s) (h0:s.c=0):allQuit s:=fun k hk=>by
 rcases h1 k hk with h|h
 ·exact h
 ·have:=(Wk.cnt_rank (s.ws k)).2 h
  have hle:(s.ws k).cnt≤s.c:=le_sumTo (f:=fun i=>(s.ws i).cnt) hk
  omega
section
variable {s:PS} {gs:Array Goroutine} {v:World} {sl:Option (Nat×Nat)} {t:Trace} {h:Goroutine}
theorem m_dis (O:PCOk T Goal X) (H:PI T Goal X s gs v t) (h0:gs[0]? =some h) (hm:MAt X h s.mt) {i:Nat} {xs:Nat→Value} (hmt:s.mt= .dis i 0 xs):StepsTo T Goal X s gs v sl t 0:=by
 rw [hmt] at hm
 obtain ⟨hgl,hi⟩:=hm
 cases hgl
 obtain ⟨a1,a2,a3,a4⟩:=open_of H.wg (by rw [hmt];rfl)
 rw [hmt] at a2
 exact mainAt O H h0 (apDis_step _ _ _ v) (.add i 34 xs) s.st s.sm ⟨apDis_glide _ _ _,hi⟩ (by rw [hmt];exact ⟨rfl,rfl,rfl⟩) (.inl ⟨rfl,rfl,rfl⟩) (.opn rfl a1 a2 a3 (fun k n xs ys h=>by cases h)) (fun e he=>by simp at he;exact .inr (.inl he)) (by rw [hmt];rfl) (.inl (fun n xs h=>by cases h)) (.inl (by rw [hmt];simp [Mt.rank]))
theorem m_add (O:PCOk T Goal X) (H:PI T Goal X s gs v t) (h0:gs[0]? =some h) (hm:MAt X h s.mt) {i:Nat} {xs:Nat→Value} (hmt:s.mt= .add i 0 xs):StepsTo T Goal X s gs v sl t 0:=by
 rw [hmt] at hm
 obtain ⟨hgl,hi⟩:=hm
 cases hgl
 obtain ⟨a1,a2,a3,a4⟩:=open_of H.wg (by rw [hmt];rfl)
 rw [hmt] at a2
 have hcj:s.c≤1*s.j:=sumTo_le fun i _=>Wk.cnt_le _
 have hj:s.j=i:=by rw [H.ac.on,hmt];rfl
 have hnW:=O.nW
 have a2':s.st=s.c*KK':=a2
 have hst:more s.st=((s.c+1)*KK':Nat):=by rw [a2'];exact moreN (by omega)
 have e:=AtOp.value (apAdd_op (X.mc i xs) X.ds X.M.wg) (apAdd_feed _ _ _ s.st) (w:=v) (w':=v.setCell ⟨X.M.wg,0,none⟩ (.int .u64 (more s.st))) (es:=#[mkE (.extern 148),⟨.cell (stA' X),false,true⟩,⟨.cell (stA' X),true,true⟩])
   ⟨H.wd.cell0,by simp,by simp,⟨_,H.wd.cell0⟩,H.wd.frozen 0,rfl,rfl⟩
 rw [apAdd_seen,hst] at e
 have hes: ∀e∈(#[⟨.cell (stA' X),false,true⟩,⟨.cell (stA' X),true,true⟩]:Array Event),EvM X e:=fun e he=>by simp at he;rcases he with rfl|rfl<;> exact .inl ⟨0,_,rfl⟩
 by_cases hc:s.c=0
 ·refine mainAt O H h0 e (.cv i 52 xs) ((s.c+1)*KK') s.sm ⟨?_,hi⟩ (by rw [hmt];exact ⟨rfl,rfl,rfl⟩) (.inr (.inl ⟨rfl,rfl⟩)) (.opn rfl a1 rfl a3 (fun k n xs ys h=>by cases h)) hes (by rw [hmt];rfl) (.inl (fun n xs h=>by cases h)) (.inl (by rw [hmt];simp [Mt.rank]))
  have:=(apCv_slid (X.mc i xs) X.ds X.M.wg).glide
  rw [hc]
  exact this
 ·refine mainAt O H h0 e (.en i 87 (s.c+1) xs) ((s.c+1)*KK') s.sm ⟨(apEn_slid' (X.mc i xs) X.ds X.M.wg ⟨by omega,by omega⟩).glide,hi,by omega,by omega⟩ (by rw [hmt];exact ⟨rfl,rfl,rfl⟩) (.inr (.inl ⟨rfl,rfl⟩)) (.opn rfl a1 rfl a3 (fun k n xs ys h=>by cases h)) hes (by rw [hmt];rfl) (.inl (fun n xs h=>by cases h)) (.inl (by rw [hmt];simp [Mt.rank]))
theorem m_cv (O:PCOk T Goal X) (H:PI T Goal X s gs v t) (h0:gs[0]? =some h) (hm:MAt X h s.mt) {i:Nat} {xs:Nat→Value} (hmt:s.mt= .cv i 0 xs):StepsTo T Goal X s gs v sl t 0:=by
 rw [hmt] at hm
 obtain ⟨hgl,hi⟩:=hm
 cases hgl
 obtain ⟨a1,a2,a3,a4⟩:=open_of H.wg (by rw [hmt];rfl)
 rw [hmt] at a2
 have e:=AtOp.value (apCv_op (X.mc i xs) X.ds X.M.wg) (apCv_feed _ _ _) (w:=v) (w':=v) (es:=#[]) ⟨H.wd.shape,H.wd.shape,rfl,rfl⟩
 rw [seen_empty] at e
 exact mainAt O H h0 e (.rd i xs) s.st s.sm ⟨rfl,hi⟩ (by rw [hmt];exact ⟨rfl,rfl,rfl⟩) (.inl ⟨rfl,rfl,rfl⟩) (.opn rfl a1 a2 a3 (fun k n xs ys h=>by cases h)) (fun e he=>by simp at he) (by rw [hmt];rfl) (.inl (fun n xs h=>by cases h)) (.inl (by rw [hmt];simp [Mt.rank]))
theorem m_rd (O:PCOk T Goal X) (H:PI T Goal X s gs v t) (h0:gs[0]? =some h) (hm:MAt X h s.mt) {i:Nat} {xs:Nat→Value} (hmt:s.mt= .rd i xs):StepsTo T Goal X s gs v sl t 0:=by
 rw [hmt] at hm
 obtain ⟨rfl,hi⟩:=hm
 obtain ⟨a1,a2,a3,a4⟩:=open_of H.wg (by rw [hmt];rfl)
 rw [hmt] at a2
 exact mainAt O H h0 (apRd_step _ _ _ v) (.en1 i 39 xs) s.st s.sm ⟨(apEn1_slid _ _ _).glide,hi⟩ (by rw [hmt];exact ⟨rfl,rfl,rfl⟩) (.inl ⟨rfl,rfl,rfl⟩) (.opn rfl a1 a2 a3 (fun k n xs ys h=>by cases h)) (fun e he=>by simp at he;exact .inr (.inr (.inr (.inl ⟨1,he⟩)))) (by rw [hmt];rfl) (.inl (fun n xs h=>by cases h)) (.inl (by rw [hmt];simp [Mt.rank]))
theorem m_en1 (O:PCOk T Goal X) (H:PI T Goal X s gs v t) (h0:gs[0]? =some h) (hm:MAt X h s.mt) {i:Nat} {xs:Nat→Value} (hmt:s.mt= .en1 i 0 xs):StepsTo T Goal X s gs v sl t 0:=by
 rw [hmt] at hm
 obtain ⟨hgl,hi⟩:=hm
 cases hgl
 obtain ⟨a1,a2,a3,a4⟩:=open_of H.wg (by rw [hmt];rfl)
 rw [hmt] at a2
 exact mainAt O H h0 (apEn1_step _ _ _ v) (.go i 4 xs) s.st s.sm ⟨(apEn1_back _ _ _).trans (lane_go O xs hi),hi⟩ (by rw [hmt];exact ⟨rfl,rfl,rfl⟩) (.inl ⟨rfl,rfl,rfl⟩) (.opn rfl a1 a2 a3 (fun k n xs ys h=>by cases h)) (fun e he=>by simp at he;exact .inr (.inr (.inl he))) (by rw [hmt];rfl) (.inl (fun n xs h=>by cases h)) (.inl (by rw [hmt];simp [Mt.rank]))
theorem m_en (O:PCOk T Goal X) (H:PI T Goal X s gs v t) (h0:gs[0]? =some h) (hm:MAt X h s.mt) {i k:Nat} {xs:Nat→Value} (hmt:s.mt= .en i 0 k xs):StepsTo T Goal X s gs v sl t 0:=by
 rw [hmt] at hm
 obtain ⟨hgl,hi,hk⟩:=hm
 cases hgl
 obtain ⟨a1,a2,a3,a4⟩:=open_of H.wg (by rw [hmt];rfl)
 rw [hmt] at a2
 exact mainAt O H h0 (apEn_step' _ _ _ hk v) (.go i 4 xs) s.st s.sm ⟨(apEn_back' _ _ _ hk).trans (lane_go O xs hi),hi⟩ (by rw [hmt];exact ⟨rfl,rfl,rfl⟩) (.inl ⟨rfl,rfl,rfl⟩) (.opn rfl a1 a2 a3 (fun k n xs ys h=>by cases h)) (fun e he=>by simp at he;exact .inr (.inr (.inl he))) (by rw [hmt];rfl) (.inl (fun n xs h=>by cases h)) (.inl (by rw [hmt];simp [Mt.rank]))
theorem m_ld (O:PCOk T Goal X) (H:PI T Goal X s gs v t) (h0:gs[0]? =some h) (hm:MAt X h s.mt) {j:Nat} {xs:Nat→Value} (hmt:s.mt= .ld j 0 xs):StepsTo T Goal X s gs v sl t 0:=by
 rw [hmt] at hm
 obtain ⟨hgl,hi⟩:=hm
 cases hgl
 obtain ⟨a1,a2,a3,a4⟩:=open_of H.wg (by rw [hmt];rfl)
 rw [hmt] at a2
 have e:=AtOp.value (mLd_op X.M xs X.ds j) (mLd_feed X.M xs X.ds j (.chan (some X.M.cN))) (w:=v) (w':=v) (es:=#[⟨.cell ⟨X.M.bN,0,none⟩,false,false⟩]) ⟨H.wd.boxN,rfl,rfl⟩
 rw [mLd_fn,seen_rd] at e
 exact mainAt O H h0 e (.sd j 3 xs) s.st s.sm ⟨(mSd_slid _ _ _ _).glide,hi⟩ (by rw [hmt];exact ⟨rfl,rfl,rfl⟩) (.inl ⟨rfl,rfl,rfl⟩) (.opn rfl a1 a2 a3 (fun k n xs ys h=>by cases h)) (fun e he=>by simp at he;exact .inr (.inr (.inr (.inr (.inr (.inr he)))))) (by rw [hmt];rfl) (.inl (fun n xs h=>by cases h)) (.inl (by rw [hmt];simp [Mt.rank]))
theorem m_lc (O:PCOk T Goal X) (H:PI T Goal X s gs v t) (h0:gs[0]? =some h) (hm:MAt X h s.mt) {xs:Nat→Value} (hmt:s.mt= .lc 0 xs):StepsTo T Goal X s gs v sl t 0:=by
 rw [hmt] at hm
 have hgl:Glide Pg true 0 h _:=hm
 cases hgl
 obtain ⟨a1,a2,a3,a4⟩:=open_of H.wg (by rw [hmt];rfl)
 rw [hmt] at a2
 have e:=AtOp.value (mLc_op X.M xs X.ds X.E.n) (mLc_feed X.M xs X.ds X.E.n (.chan (some X.M.cN))) (w:=v) (w':=v) (es:=#[⟨.cell ⟨X.M.bN,0,none⟩,false,false⟩]) ⟨H.wd.boxN,rfl,rfl⟩
 rw [mLc_fn,seen_rd] at e
 exact mainAt O H h0 e (.cl xs) s.st s.sm rfl (by rw [hmt];exact ⟨rfl,rfl,rfl⟩) (.inl ⟨rfl,rfl,rfl⟩) (.opn rfl a1 a2 a3 (fun k n xs ys h=>by cases h)) (fun e he=>by simp at he;exact .inr (.inr (.inr (.inr (.inr (.inr he)))))) (by rw [hmt];rfl) (.inl (fun n xs h=>by cases h)) (.inl (by rw [hmt];simp [Mt.rank]))
theorem m_wd (O:PCOk T Goal X) (H:PI T Goal X s gs v t) (h0:gs[0]? =some h) (hm:MAt X h s.mt) {xs:Nat→Value} (hmt:s.mt= .wd 0 xs):StepsTo T Goal X s gs v sl t 0:=by
 rw [hmt] at hm
 have hgl:Glide Pg true 0 h _:=hm
 cases hgl
 obtain ⟨a1,a2,a3,a4⟩:=open_of H.wg (by rw [hmt];rfl)
 rw [hmt] at a2
 have h1:=(awDis_slid (X.wc xs) X.ds X.M.wg).glide
 rw [awHead_first] at h1
 exact mainAt O H h0 (awDis_step _ _ _ v) (.wl 19 xs _) s.st s.sm (h1.trans (awHead_slid _ _ _ _).glide) (by rw [hmt];exact ⟨rfl,rfl,rfl⟩) (.inl ⟨rfl,rfl,rfl⟩) (.opn rfl a1 a2 a3 (fun k n xs ys h=>by cases h)) (fun e he=>by simp at he;exact .inr (.inl he)) (by rw [hmt];rfl) (.inl (fun n xs h=>by cases h)) (.inl (by rw [hmt];simp [Mt.rank]))
theorem m_wl (O:PCOk T Goal X) (H:PI T Goal X s gs v t) (h0:gs[0]? =some h) (hm:MAt X h s.mt) {xs ys:Nat→Value} (hmt:s.mt= .wl 0 xs ys):StepsTo T Goal X s gs v sl t 0:=by
 rw [hmt] at hm
 have hgl:Glide Pg true 0 h _:=hm
 cases hgl
 obtain ⟨a1,a2,a3,a4⟩:=open_of H.wg (by rw [hmt];rfl)
 rw [hmt] at a2
 have a2':s.st=s.c*KK':=a2
 have hcb:=c_bound O H
 have e:=AtOp.value (awLd_op (X.wc xs) X.ds X.M.wg ys) (awLd_feed _ _ _ _ s.st) (w:=v) (w':=v) (es:=#[mkE (.extern 149),⟨.cell (stA' X),false,true⟩]) ⟨H.wd.cell0,rfl,rfl⟩
 rw [awLd_seen] at e
 have hes: ∀e∈(#[⟨.cell (stA' X),false,true⟩]:Array Event),EvM X e:=fun e he=>by simp at he;subst he;exact .inl ⟨0,_,rfl⟩
 by_cases hc:s.c=0
 ·refine mainAt O H h0 e (.zen 31 xs ys) s.st s.sm ?_ (by rw [hmt];exact ⟨rfl,rfl,rfl⟩) (.inl ⟨rfl,rfl,rfl⟩) (.done rfl rfl (quit_of a1 hc) (by show s.st=0;rw [a2',hc];rfl) a3) hes (by rw [hmt];rfl) (.inl (fun n xs h=>by cases h)) (.inl (by rw [hmt];simp [Mt.rank]))
  have:=(awZ_slid (X.wc xs) X.ds X.M.wg ys).glide
  rw [a2',hc]
  exact this
 ·refine mainAt O H h0 e (.cas s.c 48 xs ys) s.st s.sm ⟨?_,by omega,by omega⟩ (by rw [hmt];exact ⟨rfl,rfl,rfl⟩) (.inl ⟨rfl,rfl,rfl⟩) (.opn rfl a1 a2' a3 (fun k n xs ys h=>by cases h;exact Nat.le_refl _)) hes (by rw [hmt];rfl) (.inl (fun n xs h=>by cases h)) (.inl (by rw [hmt];simp [Mt.rank]))
  rw [a2']
  exact (awCas_slid' (X.wc xs) X.ds X.M.wg ys ⟨by omega,by omega⟩).glide
theorem m_zen (O:PCOk T Goal X) (H:PI T Goal X s gs v t) (h0:gs[0]? =some h) (hm:MAt X h s.mt) {xs ys:Nat→Value} (hmt:s.mt= .zen 0 xs ys):StepsTo T Goal X s gs v sl t 0:=by
 rw [hmt] at hm
 have hgl:Glide Pg true 0 h _:=hm
 cases hgl
 obtain ⟨a1,a2,a3⟩:=done_of H.wg (by rw [hmt];rfl) (by rw [hmt];rfl)
 exact mainAt O H h0 (awZ_step _ _ _ _ v) (.zc 3 xs ys) s.st s.sm (awZc_slid _ _ _ _).glide (by rw [hmt];exact ⟨rfl,rfl,rfl⟩) (.inl ⟨rfl,rfl,rfl⟩) (.done rfl rfl a1 a2 a3) (fun e he=>by simp at he;exact .inr (.inr (.inl he))) (by rw [hmt];rfl) (.inl (fun n xs h=>by cases h)) (.inl (by rw [hmt];simp [Mt.rank]))
theorem m_zc (O:PCOk T Goal X) (H:PI T Goal X s gs v t) (h0:gs[0]? =some h) (hm:MAt X h s.mt) {xs ys:Nat→Value} (hmt:s.mt= .zc 0 xs ys):StepsTo T Goal X s gs v sl t 0:=by
 rw [hmt] at hm
 have hgl:Glide Pg true 0 h _:=hm
 cases hgl
 obtain ⟨a1,a2,a3⟩:=done_of H.wg (by rw [hmt];rfl) (by rw [hmt];rfl)
 have e:=AtOp.value (awZc_op (X.wc xs) X.ds X.M.wg ys) (awZc_feed _ _ _ _) (w:=v) (w':=v) (es:=#[]) ⟨H.wd.shape,H.wd.shape,rfl,rfl⟩
 rw [seen_empty] at e
 exact mainAt O H h0 e (.za xs ys) s.st s.sm rfl (by rw [hmt];exact ⟨rfl,rfl,rfl⟩) (.inl ⟨rfl,rfl,rfl⟩) (.done rfl rfl a1 a2 a3) (fun e he=>by simp at he) (by rw [hmt];rfl) (.inl (fun n xs h=>by cases h)) (.inl (by rw [hmt];simp [Mt.rank]))
theorem m_za (O:PCOk T Goal X) (H:PI T Goal X s gs v t) (h0:gs[0]? =some h) (hm:MAt X h s.mt) {xs ys:Nat→Value} (hmt:s.mt= .za xs ys):StepsTo T Goal X s gs v sl t 0:=by
 rw [hmt] at hm
 have hgl:h=_:=hm
 subst hgl
 obtain ⟨a1,a2,a3⟩:=done_of H.wg (by rw [hmt];rfl) (by rw [hmt];rfl)
 have h1:=(awZb_slid (X.wc xs) X.ds X.M.wg ys).glide
 rw [awZb_back] at h1
 exact mainAt O H h0 (awZa_step _ _ _ _ v) (.fin 23 xs) s.st s.sm (h1.trans (mB_slid X.M xs X.ds X.E.n).glide) (by rw [hmt];exact ⟨rfl,rfl,rfl⟩) (.inl ⟨rfl,rfl,rfl⟩) (.done rfl rfl a1 a2 a3) (fun e he=>by simp at he;exact .inr (.inr (.inr (.inr (.inr (.inl he)))))) (by rw [hmt];rfl) (.inr ⟨a1,by rw [hmt];rfl,rfl⟩) (.inl (by rw [hmt];simp [Mt.rank]))
theorem m_cas (O:PCOk T Goal X) (H:PI T Goal X s gs v t) (h0:gs[0]? =some h) (hm:MAt X h s.mt) {k:Nat} {xs ys:Nat→Value} (hmt:s.mt= .cas k 0 xs ys):StepsTo T Goal X s gs v sl t 0:=by
 rw [hmt] at hm
 obtain ⟨hgl,hk⟩:=hm
 cases hgl
 obtain ⟨a1,a2,a3,a4⟩:=open_of H.wg (by rw [hmt];rfl)
 rw [hmt] at a2
 have a2':s.st=s.c*KK':=a2
 have hck:=a4 _ _ _ _ hmt
 by_cases hc:s.c=k
 ·subst hc
  have hc0:=H.wd.cell0
  rw [a2'] at hc0
  have e:=AtOp.value (awCas_op' (X.wc xs) X.ds X.M.wg ys hk) (awCas_hit' _ _ _ _ hk) (w:=v) (w':=v.setCell ⟨X.M.wg,0,none⟩ (.int .u64 (s.c*KK'+1:Nat))) (es:=#[mkE (.extern 151),⟨.cell (stA' X),false,true⟩,⟨.cell (stA' X),true,true⟩])
   ⟨H.wd.shape,H.wd.frozen 0,hc0,by simp,by simp,⟨_,H.wd.cell0⟩,H.wd.frozen 0,rfl,rfl⟩
  rw [awCas_fn' _ _ _ _ hk,(cas_seen _).1] at e
  have hes: ∀e∈(#[⟨.cell (stA' X),false,true⟩,⟨.cell (stA' X),true,true⟩]:Array Event),EvM X e:=fun e he=>by simp at he;rcases he with rfl|rfl<;> exact .inl ⟨0,_,rfl⟩
  exact mainAt O H h0 e (.hcv s.c 19 xs ys) (s.c*KK'+1) s.sm ⟨(awCv_slid' (X.wc xs) X.ds X.M.wg ys hk).glide,hk⟩ (by rw [hmt];exact ⟨rfl,rfl,rfl⟩) (.inr (.inl ⟨rfl,rfl⟩)) (.reg rfl a1 hk.1 rfl a3) hes (by rw [hmt];rfl) (.inl (fun n xs h=>by cases h)) (.inl (by rw [hmt];simp [Mt.rank]))
 ·have hc0:=H.wd.cell0
  rw [a2'] at hc0
  have e:=AtOp.value (awCas_op' (X.wc xs) X.ds X.M.wg ys hk) (awCas_miss' _ _ _ _ hk (d:=s.c) (by omega)) (w:=v) (w':=v) (es:=#[mkE (.extern 151),⟨.cell (stA' X),false,true⟩])
   ⟨H.wd.shape,H.wd.frozen 0,hc0,rfl,rfl⟩
  rw [awCas_fn' _ _ _ _ hk,(cas_seen _).2] at e
  have hes: ∀e∈(#[⟨.cell (stA' X),false,true⟩]:Array Event),EvM X e:=fun e he=>by simp at he;subst he;exact .inl ⟨0,_,rfl⟩
  obtain ⟨ys',hg⟩:=awMiss_glide (X.wc xs) X.ds X.M.wg ys hk
  exact mainAt O H h0 e (.wl 25 xs ys') s.st s.sm hg (by rw [hmt];exact ⟨rfl,rfl,rfl⟩) (.inl ⟨rfl,rfl,rfl⟩) (.opn rfl a1 a2' a3 (fun k n xs ys h=>by cases h)) hes (by rw [hmt];rfl) (.inl (fun n xs h=>by cases h)) (.inl (by rw [hmt];simp [Mt.rank,Ne.symm hc]))
theorem m_hcv (O:PCOk T Goal X) (H:PI T Goal X s gs v t) (h0:gs[0]? =some h) (hm:MAt X h s.mt) {k:Nat} {xs ys:Nat→Value} (hmt:s.mt= .hcv k 0 xs ys):StepsTo T Goal X s gs v sl t 0:=by
 rw [hmt] at hm
 obtain ⟨hgl,hk⟩:=hm
 cases hgl
 have e:=AtOp.value (awCv_op' (X.wc xs) X.ds X.M.wg ys hk) (awCv_feed' _ _ _ _ hk) (w:=v) (w':=v) (es:=#[]) ⟨H.wd.shape,H.wd.shape,rfl,rfl⟩
 rw [seen_empty] at e
 exact mainAt O H h0 e (.hwr k xs ys) s.st s.sm ⟨rfl,hk⟩ (by rw [hmt];exact ⟨rfl,rfl,rfl⟩) (.inl ⟨rfl,rfl,rfl⟩) (H.wg.regs (by rw [hmt];rfl) rfl (fun _=>rfl)) (fun e he=>by simp at he) (by rw [hmt];rfl) (.inl (fun n xs h=>by cases h)) (.inl (by rw [hmt];simp [Mt.rank]))
theorem m_hwr (O:PCOk T Goal X) (H:PI T Goal X s gs v t) (h0:gs[0]? =some h) (hm:MAt X h s.mt) {k:Nat} {xs ys:Nat→Value} (hmt:s.mt= .hwr k xs ys):StepsTo T Goal X s gs v sl t 0:=by
 rw [hmt] at hm
 obtain ⟨rfl,hk⟩:=hm
 obtain ⟨ys',hg⟩:=awSem_glide (X.wc xs) X.ds X.M.wg ys hk
 exact mainAt O H h0 (awWr_step' _ _ _ _ hk v) (.sem 23 xs ys') s.st s.sm hg (by rw [hmt];exact ⟨rfl,rfl,rfl⟩) (.inl ⟨rfl,rfl,rfl⟩) (H.wg.regs (by rw [hmt];rfl) rfl (fun _=>rfl)) (fun e he=>by simp at he;exact .inr (.inr (.inr (.inr (.inl ⟨1,he⟩))))) (by rw [hmt];rfl) (.inl (fun n xs h=>by cases h)) (.inl (by rw [hmt];simp [Mt.rank]))
theorem m_sem (O:PCOk T Goal X) (H:PI T Goal X s gs v t) (h0:gs[0]? =some h) (hm:MAt X h s.mt) {xs ys:Nat→Value} (hmt:s.mt= .sem 0 xs ys):StepsTo T Goal X s gs v sl t 0:=by
 rw [hmt] at hm
 have hgl:Glide Pg true 0 h _:=hm
 cases hgl
 have hsm:s.sm=0∨(s.sm=1∧allQuit s∧s.st=0):=by
  cases H.wg with
  |opn a1 a2 a3 a4 a5=>exact .inl a4
  |reg a1 a2 a3 a4 a5=>exact .inl a5
  |last q a1 a2 a3 a4 a5 a6 a7=>exact .inl a7
  |sema a1 a2 a3 a4 a5=>exact .inr ⟨a5,a3,a4⟩
  |done a1 a2 a3 a4 a5=>exact .inl a5
 have hc1:=H.wd.cell1
 have hfn:(awSem (X.wc xs) X.ds X.M.wg ys).frame.fn=91:=rfl
 rcases hsm with hsm|⟨hsm,hq,hst⟩
 ·rw [hsm] at hc1
  have e:=AtOp.blocked (awSem_op (X.wc xs) X.ds X.M.wg ys) (awSem_block _ _ _ _) (w:=v) (w':=v) (es:=#[mkE (.extern 135),mkE .disable,⟨.cell ⟨X.M.wg,1,none⟩,false,true⟩]) ⟨hc1,rfl,rfl⟩
  rw [seen_empty] at e
  exact mainAt O H h0 e (.blk xs ys) s.st s.sm rfl (by rw [hmt];exact ⟨rfl,rfl,rfl⟩) (.inl ⟨rfl,rfl,rfl⟩) (H.wg.regs (by rw [hmt];rfl) rfl (fun h=>by rw [hsm] at h;cases h)) (fun e he=>by simp at he) (by rw [hmt];rfl) (.inl (fun n xs h=>by cases h)) (.inr (by rw [hmt];exact ⟨rfl,by simp [Mt.idle]⟩))
 ·rw [hsm] at hc1
  have e:=AtOp.value (awSem_op (X.wc xs) X.ds X.M.wg ys) (awSem_take _ _ _ _) (w:=v) (w':=v.setCell ⟨X.M.wg,1,none⟩ (.int .u32 (0:Nat))) (es:=#[mkE (.extern 135),mkE .disable,⟨.cell ⟨X.M.wg,1,none⟩,false,true⟩,⟨.cell ⟨X.M.wg,1,none⟩,true,true⟩,mkE .enable]) ⟨hc1,by simp,by simp,⟨_,hc1⟩,H.wd.frozen 1,rfl,rfl⟩
  rw [hfn,(sem_seen _).1] at e
  exact mainAt O H h0 e (.l2 16 xs ys) s.st 0 (awL2_slid _ _ _ _).glide (by rw [hmt];exact ⟨rfl,rfl,rfl⟩) (.inr (.inr ⟨rfl,rfl⟩)) (.done rfl rfl hq hst rfl) (fun e he=>by
   simp at he
   rcases he with rfl|rfl|rfl|rfl
   ·exact .inr (.inl rfl)
   ·exact .inl ⟨1,_,rfl⟩
   ·exact .inl ⟨1,_,rfl⟩
   ·exact .inr (.inr (.inl rfl))) (by rw [hmt];rfl) (.inl (fun n xs h=>by cases h)) (.inl (by rw [hmt];simp [Mt.rank]))
theorem m_l2 (O:PCOk T Goal X) (H:PI T Goal X s gs v t) (h0:gs[0]? =some h) (hm:MAt X h s.mt) {xs ys:Nat→Value} (hmt:s.mt= .l2 0 xs ys):StepsTo T Goal X s gs v sl t 0:=by
 rw [hmt] at hm
 have hgl:Glide Pg true 0 h _:=hm
 cases hgl
 obtain ⟨a1,a2,a3⟩:=done_of H.wg (by rw [hmt];rfl) (by rw [hmt];rfl)
 have hc0:=H.wd.cell0
 rw [a2] at hc0
 have e:=AtOp.value (awL2_op (X.wc xs) X.ds X.M.wg ys) (awL2_feed _ _ _ _) (w:=v) (w':=v) (es:=#[mkE (.extern 149),⟨.cell (stA' X),false,true⟩]) ⟨hc0,rfl,rfl⟩
 rw [awL2_seen] at e
 exact mainAt O H h0 e (.en2 11 xs ys) s.st s.sm (awEn_slid _ _ _ _).glide (by rw [hmt];exact ⟨rfl,rfl,rfl⟩) (.inl ⟨rfl,rfl,rfl⟩) (.done rfl rfl a1 a2 a3) (fun e he=>by simp at he;subst he;exact .inl ⟨0,_,rfl⟩) (by rw [hmt];rfl) (.inl (fun n xs h=>by cases h)) (.inl (by rw [hmt];simp [Mt.rank]))
theorem m_en2 (O:PCOk T Goal X) (H:PI T Goal X s gs v t) (h0:gs[0]? =some h) (hm:MAt X h s.mt) {xs ys:Nat→Value} (hmt:s.mt= .en2 0 xs ys):StepsTo T Goal X s gs v sl t 0:=by
 rw [hmt] at hm
 have hgl:Glide Pg true 0 h _:=hm
 cases hgl
 obtain ⟨a1,a2,a3⟩:=done_of H.wg (by rw [hmt];rfl) (by rw [hmt];rfl)
 exact mainAt O H h0 (awEn_step _ _ _ _ v) (.ac 3 xs ys) s.st s.sm (awAc_slid _ _ _ _).glide (by rw [hmt];exact ⟨rfl,rfl,rfl⟩) (.inl ⟨rfl,rfl,rfl⟩) (.done rfl rfl a1 a2 a3) (fun e he=>by simp at he;exact .inr (.inr (.inl he))) (by rw [hmt];rfl) (.inl (fun n xs h=>by cases h)) (.inl (by rw [hmt];simp [Mt.rank]))
theorem m_ac (O:PCOk T Goal X) (H:PI T Goal X s gs v t) (h0:gs[0]? =some h) (hm:MAt X h s.mt) {xs ys:Nat→Value} (hmt:s.mt= .ac 0 xs ys):StepsTo T Goal X s gs v sl t 0:=by
 rw [hmt] at hm
 have hgl:Glide Pg true 0 h _:=hm
 cases hgl
 obtain ⟨a1,a2,a3⟩:=done_of H.wg (by rw [hmt];rfl) (by rw [hmt];rfl)
 have e:=AtOp.value (awAc_op (X.wc xs) X.ds X.M.wg ys) (awAc_feed _ _ _ _) (w:=v) (w':=v) (es:=#[]) ⟨H.wd.shape,H.wd.shape,rfl,rfl⟩
 rw [seen_empty] at e
 exact mainAt O H h0 e (.aq xs ys) s.st s.sm rfl (by rw [hmt];exact ⟨rfl,rfl,rfl⟩) (.inl ⟨rfl,rfl,rfl⟩) (.done rfl rfl a1 a2 a3) (fun e he=>by simp at he) (by rw [hmt];rfl) (.inl (fun n xs h=>by cases h)) (.inl (by rw [hmt];simp [Mt.rank]))
theorem m_aq (O:PCOk T Goal X) (H:PI T Goal X s gs v t) (h0:gs[0]? =some h) (hm:MAt X h s.mt) {xs ys:Nat→Value} (hmt:s.mt= .aq xs ys):StepsTo T Goal X s gs v sl t 0:=by
 rw [hmt] at hm
 have hgl:h=_:=hm
 subst hgl
 obtain ⟨a1,a2,a3⟩:=done_of H.wg (by rw [hmt];rfl) (by rw [hmt];rfl)
 have h1:=(awBk_slid (X.wc xs) X.ds X.M.wg ys).glide
 rw [awBk_back] at h1
 exact mainAt O H h0 (awAq_step _ _ _ _ v) (.fin 13 xs) s.st s.sm (h1.trans (mB_slid X.M xs X.ds X.E.n).glide) (by rw [hmt];exact ⟨rfl,rfl,rfl⟩) (.inl ⟨rfl,rfl,rfl⟩) (.done rfl rfl a1 a2 a3) (fun e he=>by simp at he;exact .inr (.inr (.inr (.inr (.inr (.inl he)))))) (by rw [hmt];rfl) (.inr ⟨a1,by rw [hmt];rfl,rfl⟩) (.inl (by rw [hmt];simp [Mt.rank]))
end
end
end Go.Proofs.YtldmcdeibiclkaaGreatDoor.U
end
