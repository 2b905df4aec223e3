/-
  Toward: treed_holds, each node's digest is that of its children's, for every argument of Treed. sync.WaitGroup's Wait, STEP BY STEP: it registers, sleeps, is woken (goroutine 0).
  tree.ofSegments, STEP BY STEP (goroutine 0), whoever has called it.
-/
import Derived.Test.YtldmcdeibiclkaaGreatDoorC16
set_option linter.unusedVariables false
set_option linter.unusedSimpArgs false
set_option maxRecDepth 4000
section
namespace Go.Proofs.YtldmcdeibiclkaaGreatDoor.U
open Go.Conc
set_option maxRecDepth 100000
section
variable (c:Frame) (cs:List Frame) (wg:Nat) (xs:Nat→Value)
noncomputable def awCas (st:Int):Goroutine:=nxN Pg true 48 (awSaw c cs wg xs st)
noncomputable def awHit (st:Int):Goroutine:=fin (awCas c cs wg xs st) (.bool true)
noncomputable def awMiss (st:Int):Goroutine:=fin (awCas c cs wg xs st) (.bool false)
noncomputable def awCv (st:Int):Goroutine:=nxN Pg true 19 (awHit c cs wg xs st)
noncomputable def awWr (st:Int):Goroutine:=fin (awCv c cs wg xs st) (ptr1 wg)
noncomputable def awSem:Goroutine:=gAt Pg 91 19 4 (#[ptr wg,xs 1,xs 2,xs 3,xs 4,xs 5,xs 6,xs 7,xs 8,xs 9,xs 10,xs 11,xs 12,xs 13,xs 14,xs 15,xs 16,xs 17,xs 18,xs 19,xs 20,xs 21,xs 22,xs 23,xs 24,xs 25,xs 26,xs 27,xs 28,xs 29,xs 30,xs 31,xs 32,xs 33,xs 34,xs 35,xs 36,xs 37,xs 38,xs 39,xs 40,xs 41,xs 42,xs 43,xs 44,xs 45,xs 46,xs 47,xs 48,xs 49,xs 50,xs 51,xs 52,xs 53,xs 54,xs 55,xs 56,xs 57,xs 58,xs 59,xs 60,xs 61,xs 62,xs 63,xs 64,xs 65,xs 66,xs 67,xs 68,xs 69,ptr1 wg,.bool false,xs 72,xs 73,xs 74,xs 75,xs 76,xs 77,xs 78,xs 79,xs 80,xs 81,xs 82,xs 83]) (c::cs)
theorem awCas_slid_4294967296:Slid Pg true 48 (awSaw c cs wg xs 4294967296):=fun w=>by kernel_rfl
theorem awCas_op_4294967296:AtOp Pg true (awCas c cs wg xs 4294967296):=⟨fun w=>by kernel_rfl,by kernel_rfl,by kernel_rfl⟩
theorem awCas_hit_4294967296:feed Pg (pendS (awCas c cs wg xs 4294967296)) [shWg,.fz false,.val (.int .u64 4294967296)]=some ([.mk (.extern 151),.shp wg,.fz ⟨wg,0,none⟩,.ld .atomic ⟨wg,0,none⟩,.st .atomic ⟨wg,0,none⟩ (.int .u64 (4294967296+1))],.inl (.value (.bool true))):=by kernel_rfl
theorem awCas_fn_4294967296:(awCas c cs wg xs 4294967296).frame.fn=133:=by kernel_rfl
theorem awMiss_slid_4294967296:Slid Pg true 9 (awMiss c cs wg xs 4294967296):=fun w=>by kernel_rfl
theorem awMiss_head_4294967296:nxN Pg true 9 (awMiss c cs wg xs 4294967296)=awHead c cs wg (xsOf (nxN Pg true 9 (awMiss c cs wg xs 4294967296))):=by kernel_rfl
theorem awCv_slid_4294967296:Slid Pg true 19 (awHit c cs wg xs 4294967296):=fun w=>by kernel_rfl
theorem awCv_op_4294967296:AtOp Pg true (awCv c cs wg xs 4294967296):=⟨fun w=>by kernel_rfl,by kernel_rfl,by kernel_rfl⟩
theorem awCv_feed_4294967296:feed Pg (pendS (awCv c cs wg xs 4294967296)) [shWg,shWg]=some ([.shp wg,.shp wg],.inl (.value (ptr1 wg))):=by kernel_rfl
theorem awWr_step_4294967296 (w:World):stepG Pg true (awWr c cs wg xs 4294967296) w= .go (fin (awWr c cs wg xs 4294967296) unit) w #[mkE (.write ⟨wg,1,none⟩)]:=by kernel_rfl
theorem awWr_status_4294967296:(awWr c cs wg xs 4294967296).status= .running:=by kernel_rfl
theorem awSem_slid_4294967296:Slid Pg true 23 (fin (awWr c cs wg xs 4294967296) unit):=fun w=>by kernel_rfl
theorem awSem_is_4294967296:nxN Pg true 23 (fin (awWr c cs wg xs 4294967296) unit)=awSem c cs wg (xsOf (nxN Pg true 23 (fin (awWr c cs wg xs 4294967296) unit))):=by kernel_rfl
theorem awCas_slid_8589934592:Slid Pg true 48 (awSaw c cs wg xs 8589934592):=fun w=>by kernel_rfl
theorem awCas_op_8589934592:AtOp Pg true (awCas c cs wg xs 8589934592):=⟨fun w=>by kernel_rfl,by kernel_rfl,by kernel_rfl⟩
theorem awCas_hit_8589934592:feed Pg (pendS (awCas c cs wg xs 8589934592)) [shWg,.fz false,.val (.int .u64 8589934592)]=some ([.mk (.extern 151),.shp wg,.fz ⟨wg,0,none⟩,.ld .atomic ⟨wg,0,none⟩,.st .atomic ⟨wg,0,none⟩ (.int .u64 (8589934592+1))],.inl (.value (.bool true))):=by kernel_rfl
theorem awCas_fn_8589934592:(awCas c cs wg xs 8589934592).frame.fn=133:=by kernel_rfl
theorem awMiss_slid_8589934592:Slid Pg true 9 (awMiss c cs wg xs 8589934592):=fun w=>by kernel_rfl
theorem awMiss_head_8589934592:nxN Pg true 9 (awMiss c cs wg xs 8589934592)=awHead c cs wg (xsOf (nxN Pg true 9 (awMiss c cs wg xs 8589934592))):=by kernel_rfl
theorem awCv_slid_8589934592:Slid Pg true 19 (awHit c cs wg xs 8589934592):=fun w=>by kernel_rfl
theorem awCv_op_8589934592:AtOp Pg true (awCv c cs wg xs 8589934592):=⟨fun w=>by kernel_rfl,by kernel_rfl,by kernel_rfl⟩
theorem awCv_feed_8589934592:feed Pg (pendS (awCv c cs wg xs 8589934592)) [shWg,shWg]=some ([.shp wg,.shp wg],.inl (.value (ptr1 wg))):=by kernel_rfl
theorem awWr_step_8589934592 (w:World):stepG Pg true (awWr c cs wg xs 8589934592) w= .go (fin (awWr c cs wg xs 8589934592) unit) w #[mkE (.write ⟨wg,1,none⟩)]:=by kernel_rfl
theorem awWr_status_8589934592:(awWr c cs wg xs 8589934592).status= .running:=by kernel_rfl
theorem awSem_slid_8589934592:Slid Pg true 23 (fin (awWr c cs wg xs 8589934592) unit):=fun w=>by kernel_rfl
theorem awSem_is_8589934592:nxN Pg true 23 (fin (awWr c cs wg xs 8589934592) unit)=awSem c cs wg (xsOf (nxN Pg true 23 (fin (awWr c cs wg xs 8589934592) unit))):=by kernel_rfl
theorem awCas_slid_12884901888:Slid Pg true 48 (awSaw c cs wg xs 12884901888):=fun w=>by kernel_rfl
theorem awCas_op_12884901888:AtOp Pg true (awCas c cs wg xs 12884901888):=⟨fun w=>by kernel_rfl,by kernel_rfl,by kernel_rfl⟩
theorem awCas_hit_12884901888:feed Pg (pendS (awCas c cs wg xs 12884901888)) [shWg,.fz false,.val (.int .u64 12884901888)]=some ([.mk (.extern 151),.shp wg,.fz ⟨wg,0,none⟩,.ld .atomic ⟨wg,0,none⟩,.st .atomic ⟨wg,0,none⟩ (.int .u64 (12884901888+1))],.inl (.value (.bool true))):=by kernel_rfl
theorem awCas_fn_12884901888:(awCas c cs wg xs 12884901888).frame.fn=133:=by kernel_rfl
theorem awMiss_slid_12884901888:Slid Pg true 9 (awMiss c cs wg xs 12884901888):=fun w=>by kernel_rfl
theorem awMiss_head_12884901888:nxN Pg true 9 (awMiss c cs wg xs 12884901888)=awHead c cs wg (xsOf (nxN Pg true 9 (awMiss c cs wg xs 12884901888))):=by kernel_rfl
theorem awCv_slid_12884901888:Slid Pg true 19 (awHit c cs wg xs 12884901888):=fun w=>by kernel_rfl
theorem awCv_op_12884901888:AtOp Pg true (awCv c cs wg xs 12884901888):=⟨fun w=>by kernel_rfl,by kernel_rfl,by kernel_rfl⟩
theorem awCv_feed_12884901888:feed Pg (pendS (awCv c cs wg xs 12884901888)) [shWg,shWg]=some ([.shp wg,.shp wg],.inl (.value (ptr1 wg))):=by kernel_rfl
theorem awWr_step_12884901888 (w:World):stepG Pg true (awWr c cs wg xs 12884901888) w= .go (fin (awWr c cs wg xs 12884901888) unit) w #[mkE (.write ⟨wg,1,none⟩)]:=by kernel_rfl
theorem awWr_status_12884901888:(awWr c cs wg xs 12884901888).status= .running:=by kernel_rfl
theorem awSem_slid_12884901888:Slid Pg true 23 (fin (awWr c cs wg xs 12884901888) unit):=fun w=>by kernel_rfl
theorem awSem_is_12884901888:nxN Pg true 23 (fin (awWr c cs wg xs 12884901888) unit)=awSem c cs wg (xsOf (nxN Pg true 23 (fin (awWr c cs wg xs 12884901888) unit))):=by kernel_rfl
theorem awCas_slid_17179869184:Slid Pg true 48 (awSaw c cs wg xs 17179869184):=fun w=>by kernel_rfl
theorem awCas_op_17179869184:AtOp Pg true (awCas c cs wg xs 17179869184):=⟨fun w=>by kernel_rfl,by kernel_rfl,by kernel_rfl⟩
theorem awCas_hit_17179869184:feed Pg (pendS (awCas c cs wg xs 17179869184)) [shWg,.fz false,.val (.int .u64 17179869184)]=some ([.mk (.extern 151),.shp wg,.fz ⟨wg,0,none⟩,.ld .atomic ⟨wg,0,none⟩,.st .atomic ⟨wg,0,none⟩ (.int .u64 (17179869184+1))],.inl (.value (.bool true))):=by kernel_rfl
theorem awCas_fn_17179869184:(awCas c cs wg xs 17179869184).frame.fn=133:=by kernel_rfl
theorem awMiss_slid_17179869184:Slid Pg true 9 (awMiss c cs wg xs 17179869184):=fun w=>by kernel_rfl
theorem awMiss_head_17179869184:nxN Pg true 9 (awMiss c cs wg xs 17179869184)=awHead c cs wg (xsOf (nxN Pg true 9 (awMiss c cs wg xs 17179869184))):=by kernel_rfl
theorem awCv_slid_17179869184:Slid Pg true 19 (awHit c cs wg xs 17179869184):=fun w=>by kernel_rfl
theorem awCv_op_17179869184:AtOp Pg true (awCv c cs wg xs 17179869184):=⟨fun w=>by kernel_rfl,by kernel_rfl,by kernel_rfl⟩
theorem awCv_feed_17179869184:feed Pg (pendS (awCv c cs wg xs 17179869184)) [shWg,shWg]=some ([.shp wg,.shp wg],.inl (.value (ptr1 wg))):=by kernel_rfl
theorem awWr_step_17179869184 (w:World):stepG Pg true (awWr c cs wg xs 17179869184) w= .go (fin (awWr c cs wg xs 17179869184) unit) w #[mkE (.write ⟨wg,1,none⟩)]:=by kernel_rfl
theorem awWr_status_17179869184:(awWr c cs wg xs 17179869184).status= .running:=by kernel_rfl
theorem awSem_slid_17179869184:Slid Pg true 23 (fin (awWr c cs wg xs 17179869184) unit):=fun w=>by kernel_rfl
theorem awSem_is_17179869184:nxN Pg true 23 (fin (awWr c cs wg xs 17179869184) unit)=awSem c cs wg (xsOf (nxN Pg true 23 (fin (awWr c cs wg xs 17179869184) unit))):=by kernel_rfl
theorem awCas_miss_4294967296_0:feed Pg (pendS (awCas c cs wg xs 4294967296)) [shWg,.fz false,.val (.int .u64 0)]=some ([.mk (.extern 151),.shp wg,.fz ⟨wg,0,none⟩,.ld .atomic ⟨wg,0,none⟩],.inl (.value (.bool false))):=by kernel_rfl
theorem awCas_miss_8589934592_0:feed Pg (pendS (awCas c cs wg xs 8589934592)) [shWg,.fz false,.val (.int .u64 0)]=some ([.mk (.extern 151),.shp wg,.fz ⟨wg,0,none⟩,.ld .atomic ⟨wg,0,none⟩],.inl (.value (.bool false))):=by kernel_rfl
theorem awCas_miss_8589934592_4294967296:feed Pg (pendS (awCas c cs wg xs 8589934592)) [shWg,.fz false,.val (.int .u64 4294967296)]=some ([.mk (.extern 151),.shp wg,.fz ⟨wg,0,none⟩,.ld .atomic ⟨wg,0,none⟩],.inl (.value (.bool false))):=by kernel_rfl
theorem awCas_miss_12884901888_0:feed Pg (pendS (awCas c cs wg xs 12884901888)) [shWg,.fz false,.val (.int .u64 0)]=some ([.mk (.extern 151),.shp wg,.fz ⟨wg,0,none⟩,.ld .atomic ⟨wg,0,none⟩],.inl (.value (.bool false))):=by kernel_rfl
theorem awCas_miss_12884901888_4294967296:feed Pg (pendS (awCas c cs wg xs 12884901888)) [shWg,.fz false,.val (.int .u64 4294967296)]=some ([.mk (.extern 151),.shp wg,.fz ⟨wg,0,none⟩,.ld .atomic ⟨wg,0,none⟩],.inl (.value (.bool false))):=by kernel_rfl
theorem awCas_miss_12884901888_8589934592:feed Pg (pendS (awCas c cs wg xs 12884901888)) [shWg,.fz false,.val (.int .u64 8589934592)]=some ([.mk (.extern 151),.shp wg,.fz ⟨wg,0,none⟩,.ld .atomic ⟨wg,0,none⟩],.inl (.value (.bool false))):=by kernel_rfl
theorem awCas_miss_17179869184_0:feed Pg (pendS (awCas c cs wg xs 17179869184)) [shWg,.fz false,.val (.int .u64 0)]=some ([.mk (.extern 151),.shp wg,.fz ⟨wg,0,none⟩,.ld .atomic ⟨wg,0,none⟩],.inl (.value (.bool false))):=by kernel_rfl
theorem awCas_miss_17179869184_4294967296:feed Pg (pendS (awCas c cs wg xs 17179869184)) [shWg,.fz false,.val (.int .u64 4294967296)]=some ([.mk (.extern 151),.shp wg,.fz ⟨wg,0,none⟩,.ld .atomic ⟨wg,0,none⟩],.inl (.value (.bool false))):=by kernel_rfl
theorem awCas_miss_17179869184_8589934592:feed Pg (pendS (awCas c cs wg xs 17179869184)) [shWg,.fz false,.val (.int .u64 8589934592)]=some ([.mk (.extern 151),.shp wg,.fz ⟨wg,0,none⟩,.ld .atomic ⟨wg,0,none⟩],.inl (.value (.bool false))):=by kernel_rfl
theorem awCas_miss_17179869184_12884901888:feed Pg (pendS (awCas c cs wg xs 17179869184)) [shWg,.fz false,.val (.int .u64 12884901888)]=some ([.mk (.extern 151),.shp wg,.fz ⟨wg,0,none⟩,.ld .atomic ⟨wg,0,none⟩],.inl (.value (.bool false))):=by kernel_rfl
theorem cas_seen (a:Addr):seen Pg 133 #[mkE (.extern 151),⟨.cell a,false,true⟩,⟨.cell a,true,true⟩]=#[⟨.cell a,false,true⟩,⟨.cell a,true,true⟩]∧seen Pg 133 #[mkE (.extern 151),⟨.cell a,false,true⟩]=#[⟨.cell a,false,true⟩]:=⟨by kernel_rfl,by kernel_rfl⟩
theorem awSem_op:AtOp Pg true (awSem c cs wg xs):=⟨fun w=>by kernel_rfl,by kernel_rfl,by kernel_rfl⟩
theorem awSem_block:feed Pg (pendS (awSem c cs wg xs)) [.val (.int .u32 0)]=some ([.mk (.extern 135),.mk .disable,.ld .atomic ⟨wg,1,none⟩],.inr .blocked):=by kernel_rfl
theorem awSem_take:feed Pg (pendS (awSem c cs wg xs)) [.val (.int .u32 1)]=some ([.mk (.extern 135),.mk .disable,.ld .atomic ⟨wg,1,none⟩,.st .atomic ⟨wg,1,none⟩ (.int .u32 0),.mk .enable],.inl (.value unit)):=by kernel_rfl
theorem sem_seen (a:Addr):seen Pg 91 #[mkE (.extern 135),mkE .disable,⟨.cell a,false,true⟩,⟨.cell a,true,true⟩,mkE .enable]=#[mkE .disable,⟨.cell a,false,true⟩,⟨.cell a,true,true⟩,mkE .enable]∧seen Pg 91 #[]=#[]:=⟨by kernel_rfl,by kernel_rfl⟩
theorem awL2_slid:Slid Pg true 16 (fin (awSem c cs wg xs) unit):=fun w=>by kernel_rfl
noncomputable def awL2:Goroutine:=nxN Pg true 16 (fin (awSem c cs wg xs) unit)
theorem awL2_op:AtOp Pg true (awL2 c cs wg xs):=⟨fun w=>by kernel_rfl,by kernel_rfl,by kernel_rfl⟩
theorem awL2_feed:feed Pg (pendS (awL2 c cs wg xs)) [.val (.int .u64 0)]=some ([.mk (.extern 149),.ld .atomic ⟨wg,0,none⟩],.inl (.value (.int .u64 0))):=by kernel_rfl
theorem awL2_seen (a:Addr):seen Pg (awL2 c cs wg xs).frame.fn #[mkE (.extern 149),⟨.cell a,false,true⟩]=#[⟨.cell a,false,true⟩]:=by kernel_rfl
theorem awEn_slid:Slid Pg true 11 (fin (awL2 c cs wg xs) (.int .u64 0)):=fun w=>by kernel_rfl
noncomputable def awEn:Goroutine:=nxN Pg true 11 (fin (awL2 c cs wg xs) (.int .u64 0))
theorem awEn_step (w:World):stepG Pg true (awEn c cs wg xs) w= .go (fin (awEn c cs wg xs) unit) w #[mkE .enable]:=by kernel_rfl
theorem awEn_status:(awEn c cs wg xs).status= .running:=by kernel_rfl
theorem awAc_slid:Slid Pg true 3 (fin (awEn c cs wg xs) unit):=fun w=>by kernel_rfl
noncomputable def awAc:Goroutine:=nxN Pg true 3 (fin (awEn c cs wg xs) unit)
theorem awAc_op:AtOp Pg true (awAc c cs wg xs):=⟨fun w=>by kernel_rfl,by kernel_rfl,by kernel_rfl⟩
theorem awAc_feed:feed Pg (pendS (awAc c cs wg xs)) [shWg,shWg]=some ([.shp wg,.shp wg],.inl (.value (ptr wg))):=by kernel_rfl
theorem awAq_step (w:World):stepG Pg true (fin (awAc c cs wg xs) (ptr wg)) w= .go (fin (fin (awAc c cs wg xs) (ptr wg)) unit) w #[mkE (.acquire ⟨wg,0,none⟩)]:=by kernel_rfl
theorem awAq_status:(fin (awAc c cs wg xs) (ptr wg)).status= .running:=by kernel_rfl
end
end Go.Proofs.YtldmcdeibiclkaaGreatDoor.U
end
section
namespace Go.Proofs.YtldmcdeibiclkaaGreatDoor.U
open Go.Conc
open Go.ConcN (upd)
set_option maxRecDepth 100000
structure Mn extends Pl where
 first:Int
 count:Int
 fn:Fn
 ca:Array Value
 cb:Array Value
def Mn.txt (M:Mn):Value:= .func M.fn M.ca M.cb
def mT (M:Mn) (xs:Nat→Value):Array Value:=#[.int .i64 M.first,.int .i64 M.count,M.txt,xs 3,xs 4,ptr M.bT,xs 6,ptr M.bN,ptr M.bB,ptr M.wg,xs 10,xs 11,xs 12,xs 13,xs 14,xs 15,xs 16,xs 17,xs 18,xs 19,xs 20,xs 21,xs 22,xs 23,xs 24,xs 25,xs 26,xs 27,xs 28,xs 29,xs 30,xs 31,xs 32,xs 33,xs 34,xs 35,xs 36,xs 37,xs 38,xs 39,xs 40,xs 41,xs 42,xs 43,xs 44,xs 45,xs 46,xs 47,xs 48,xs 49,xs 50]
noncomputable def gM (M:Mn) (id n:Nat) (xs:Nat→Value) (cs:List Frame):Goroutine:=gAt Pg 68 id n (mT M xs) cs
section
variable (M:Mn) (xs:Nat→Value) (c:Frame) (cs:List Frame)
noncomputable def m0:Goroutine:=gIn 68 #[.int .i64 M.first,.int .i64 M.count,M.txt] (c::cs)
theorem m0_slid:Slid Pg true 2 (m0 M c cs):=fun w=>by kernel_rfl
noncomputable def mBox:Goroutine:=nxN Pg true 2 (m0 M c cs)
theorem mBox_op:AtOp Pg true (mBox M c cs):=⟨fun w=>by kernel_rfl,by kernel_rfl,by kernel_rfl⟩
theorem mBox_feed (r:Nat):feed Pg (pendS (mBox M c cs)) [.ref r]=some ([.nw (.cells #[M.txt] 79)],.inl (.value (ptr r))):=by kernel_rfl
theorem mCh_slid:Slid Pg true 5 (fin (mBox M c cs) (ptr M.bT)):=fun w=>by kernel_rfl
noncomputable def mCh:Goroutine:=nxN Pg true 5 (fin (mBox M c cs) (ptr M.bT))
theorem mCh_op:AtOp Pg true (mCh M c cs):=⟨fun w=>by kernel_rfl,by kernel_rfl,by kernel_rfl⟩
noncomputable def mAl:Goroutine:=fin (mCh M c cs) (.chan (some M.cN))
theorem mAl_op:AtOp Pg true (mAl M c cs):=⟨fun w=>by kernel_rfl,by kernel_rfl,by kernel_rfl⟩
theorem mAl_feed (r:Nat):feed Pg (pendS (mAl M c cs)) [.ref r]=some ([.nw (.cells #[.chan none] 178)],.inl (.value (ptr r))):=by kernel_rfl
noncomputable def mSt:Goroutine:=fin (mAl M c cs) (ptr M.bN)
theorem mSt_op:AtOp Pg true (mSt M c cs):=⟨fun w=>by kernel_rfl,by kernel_rfl,by kernel_rfl⟩
theorem mSt_feed:feed Pg (pendS (mSt M c cs)) []=some ([.st .plain ⟨M.bN,0,none⟩ (.chan (some M.cN))],.inl .skip):=by kernel_rfl
theorem mCh2_slid:Slid Pg true 4 (fin (mSt M c cs) unit):=fun w=>by kernel_rfl
noncomputable def mCh2:Goroutine:=nxN Pg true 4 (fin (mSt M c cs) unit)
theorem mCh2_op:AtOp Pg true (mCh2 M c cs):=⟨fun w=>by kernel_rfl,by kernel_rfl,by kernel_rfl⟩
noncomputable def mAl2:Goroutine:=fin (mCh2 M c cs) (.chan (some M.cB))
theorem mAl2_op:AtOp Pg true (mAl2 M c cs):=⟨fun w=>by kernel_rfl,by kernel_rfl,by kernel_rfl⟩
theorem mAl2_feed (r:Nat):feed Pg (pendS (mAl2 M c cs)) [.ref r]=some ([.nw (.cells #[.chan none] 179)],.inl (.value (ptr r))):=by kernel_rfl
noncomputable def mSt2:Goroutine:=fin (mAl2 M c cs) (ptr M.bB)
theorem mSt2_op:AtOp Pg true (mSt2 M c cs):=⟨fun w=>by kernel_rfl,by kernel_rfl,by kernel_rfl⟩
theorem mSt2_feed:feed Pg (pendS (mSt2 M c cs)) []=some ([.st .plain ⟨M.bB,0,none⟩ (.chan (some M.cB))],.inl .skip):=by kernel_rfl
theorem mWg_slid:Slid Pg true 3 (fin (mSt2 M c cs) unit):=fun w=>by kernel_rfl
noncomputable def mWg:Goroutine:=nxN Pg true 3 (fin (mSt2 M c cs) unit)
theorem mWg_op:AtOp Pg true (mWg M c cs):=⟨fun w=>by kernel_rfl,by kernel_rfl,by kernel_rfl⟩
theorem mWg_feed (r:Nat):feed Pg (pendS (mWg M c cs)) [.ref r]=some ([.nw (.cells #[.int .u64 0,.int .u32 0] 188)],.inl (.value (ptr r))):=by kernel_rfl
noncomputable def mGo0:Goroutine:=fin (mWg M c cs) (ptr M.wg)
end
theorem mCh_feed_1 (M:Mn) (h:M.count=1) (c:Frame) (cs:List Frame) (r:Nat):feed Pg (pendS (mCh M c cs)) [.ref r]=some ([.nw (.chan 1 #[] false 0 0 false)],.inl (.value (.chan (some r)))):=by
 obtain ⟨p,f,n,fn,ca,cb⟩:=M
 simp only at h
 subst h
 kernel_rfl
theorem mCh2_feed_1 (M:Mn) (h:M.count=1) (c:Frame) (cs:List Frame) (r:Nat):feed Pg (pendS (mCh2 M c cs)) [.ref r]=some ([.nw (.chan 1 #[] false 0 0 false)],.inl (.value (.chan (some r)))):=by
 obtain ⟨p,f,n,fn,ca,cb⟩:=M
 simp only at h
 subst h
 kernel_rfl
theorem mGo0_slid'_1 (p:Pl) (f:Int) (fn:Fn) (ca cb:Array Value) (c:Frame) (cs:List Frame):Slid Pg true 12 (mGo0 ⟨p,f,1,fn,ca,cb⟩ c cs):=fun w=>by kernel_rfl
theorem mGo0_slid_1 (M:Mn) (h:M.count=1) (c:Frame) (cs:List Frame):Slid Pg true 12 (mGo0 M c cs):=by
 obtain ⟨p,f,n,fn,ca,cb⟩:=M
 simp only at h
 subst h
 exact mGo0_slid'_1 p f fn ca cb c cs
theorem mCh_feed_4 (M:Mn) (h:M.count=4) (c:Frame) (cs:List Frame) (r:Nat):feed Pg (pendS (mCh M c cs)) [.ref r]=some ([.nw (.chan 4 #[] false 0 0 false)],.inl (.value (.chan (some r)))):=by
 obtain ⟨p,f,n,fn,ca,cb⟩:=M
 simp only at h
 subst h
 kernel_rfl
theorem mCh2_feed_4 (M:Mn) (h:M.count=4) (c:Frame) (cs:List Frame) (r:Nat):feed Pg (pendS (mCh2 M c cs)) [.ref r]=some ([.nw (.chan 4 #[] false 0 0 false)],.inl (.value (.chan (some r)))):=by
 obtain ⟨p,f,n,fn,ca,cb⟩:=M
 simp only at h
 subst h
 kernel_rfl
theorem mGo0_slid'_4 (p:Pl) (f:Int) (fn:Fn) (ca cb:Array Value) (c:Frame) (cs:List Frame):Slid Pg true 12 (mGo0 ⟨p,f,4,fn,ca,cb⟩ c cs):=fun w=>by kernel_rfl
theorem mGo0_slid_4 (M:Mn) (h:M.count=4) (c:Frame) (cs:List Frame):Slid Pg true 12 (mGo0 M c cs):=by
 obtain ⟨p,f,n,fn,ca,cb⟩:=M
 simp only at h
 subst h
 exact mGo0_slid'_4 p f fn ca cb c cs
theorem mCh_feed_16 (M:Mn) (h:M.count=16) (c:Frame) (cs:List Frame) (r:Nat):feed Pg (pendS (mCh M c cs)) [.ref r]=some ([.nw (.chan 16 #[] false 0 0 false)],.inl (.value (.chan (some r)))):=by
 obtain ⟨p,f,n,fn,ca,cb⟩:=M
 simp only at h
 subst h
 kernel_rfl
theorem mCh2_feed_16 (M:Mn) (h:M.count=16) (c:Frame) (cs:List Frame) (r:Nat):feed Pg (pendS (mCh2 M c cs)) [.ref r]=some ([.nw (.chan 16 #[] false 0 0 false)],.inl (.value (.chan (some r)))):=by
 obtain ⟨p,f,n,fn,ca,cb⟩:=M
 simp only at h
 subst h
 kernel_rfl
theorem mGo0_slid'_16 (p:Pl) (f:Int) (fn:Fn) (ca cb:Array Value) (c:Frame) (cs:List Frame):Slid Pg true 12 (mGo0 ⟨p,f,16,fn,ca,cb⟩ c cs):=fun w=>by kernel_rfl
theorem mGo0_slid_16 (M:Mn) (h:M.count=16) (c:Frame) (cs:List Frame):Slid Pg true 12 (mGo0 M c cs):=by
 obtain ⟨p,f,n,fn,ca,cb⟩:=M
 simp only at h
 subst h
 exact mGo0_slid'_16 p f fn ca cb c cs
theorem mCh_feed_64 (M:Mn) (h:M.count=64) (c:Frame) (cs:List Frame) (r:Nat):feed Pg (pendS (mCh M c cs)) [.ref r]=some ([.nw (.chan 64 #[] false 0 0 false)],.inl (.value (.chan (some r)))):=by
 obtain ⟨p,f,n,fn,ca,cb⟩:=M
 simp only at h
 subst h
 kernel_rfl
theorem mCh2_feed_64 (M:Mn) (h:M.count=64) (c:Frame) (cs:List Frame) (r:Nat):feed Pg (pendS (mCh2 M c cs)) [.ref r]=some ([.nw (.chan 64 #[] false 0 0 false)],.inl (.value (.chan (some r)))):=by
 obtain ⟨p,f,n,fn,ca,cb⟩:=M
 simp only at h
 subst h
 kernel_rfl
theorem mGo0_slid'_64 (p:Pl) (f:Int) (fn:Fn) (ca cb:Array Value) (c:Frame) (cs:List Frame):Slid Pg true 12 (mGo0 ⟨p,f,64,fn,ca,cb⟩ c cs):=fun w=>by kernel_rfl
theorem mGo0_slid_64 (M:Mn) (h:M.count=64) (c:Frame) (cs:List Frame):Slid Pg true 12 (mGo0 M c cs):=by
 obtain ⟨p,f,n,fn,ca,cb⟩:=M
 simp only at h
 subst h
 exact mGo0_slid'_64 p f fn ca cb c cs
def xsG (_:Mn) (n i:Int) (xs:Nat→Value):Nat→Value:=upd (upd xs 18 (.int .i64 n)) 19 (.int .i64 i)
def xsM (g:Goroutine):Nat→Value:=fun i=>g.frame.tmps.getD i undef
theorem mGo0_head_1 (M:Mn) (h:M.count=1) (c:Frame) (cs:List Frame):nxN Pg true 12 (mGo0 M c cs)=gM M 5 0 (xsG M (min 4 1) 0 (xsM (nxN Pg true 12 (mGo0 M c cs)))) (c::cs):=by
 obtain ⟨p,f,n,fn,ca,cb⟩:=M
 simp only at h
 subst h
 kernel_rfl
theorem mGo0_head_4 (M:Mn) (h:M.count=4) (c:Frame) (cs:List Frame):nxN Pg true 12 (mGo0 M c cs)=gM M 5 0 (xsG M (min 4 4) 0 (xsM (nxN Pg true 12 (mGo0 M c cs)))) (c::cs):=by
 obtain ⟨p,f,n,fn,ca,cb⟩:=M
 simp only at h
 subst h
 kernel_rfl
theorem mGo0_head_16 (M:Mn) (h:M.count=16) (c:Frame) (cs:List Frame):nxN Pg true 12 (mGo0 M c cs)=gM M 5 0 (xsG M (min 4 16) 0 (xsM (nxN Pg true 12 (mGo0 M c cs)))) (c::cs):=by
 obtain ⟨p,f,n,fn,ca,cb⟩:=M
 simp only at h
 subst h
 kernel_rfl
theorem mGo0_head_64 (M:Mn) (h:M.count=64) (c:Frame) (cs:List Frame):nxN Pg true 12 (mGo0 M c cs)=gM M 5 0 (xsG M (min 4 64) 0 (xsM (nxN Pg true 12 (mGo0 M c cs)))) (c::cs):=by
 obtain ⟨p,f,n,fn,ca,cb⟩:=M
 simp only at h
 subst h
 kernel_rfl
section
variable (M:Mn) (xs:Nat→Value) (cs:List Frame)
noncomputable def mHead (n i:Int):Goroutine:=gM M 5 0 (xsG M n i xs) cs
noncomputable def mCall (n i:Int):Frame:=(nxN Pg true 9 (mHead M xs cs n i)).frame
noncomputable def mGo (n i:Int):Goroutine:=nxN Pg true 3 (backM (mCall M xs cs n i) cs)
theorem mHead_slid_1_0:Slid Pg true 10 (mHead M xs cs 1 0):=fun w=>by kernel_rfl
theorem mHead_add_1_0:nxN Pg true 10 (mHead M xs cs 1 0)=ap0 (mCall M xs cs 1 0) cs M.wg:=by kernel_rfl
theorem mGo_slid_1_0:Slid Pg true 3 (backM (mCall M xs cs 1 0) cs):=fun w=>by kernel_rfl
theorem mGo_step_1_0 (w:World):stepG Pg true (mGo M xs cs 1 0) w= .spawn (fin (mGo M xs cs 1 0) unit) (gChild M.toPl) w #[]:=by kernel_rfl
theorem mGo_status_1_0:(mGo M xs cs 1 0).status= .running:=by kernel_rfl
theorem mNext_slid_1_0:Slid Pg true 9 (fin (mGo M xs cs 1 0) unit):=fun w=>by kernel_rfl
theorem mNext_head_1_0:nxN Pg true 9 (fin (mGo M xs cs 1 0) unit)=mHead M (xsM (nxN Pg true 9 (fin (mGo M xs cs 1 0) unit))) cs 1 1:=by kernel_rfl
theorem mHead_slid_4_0:Slid Pg true 10 (mHead M xs cs 4 0):=fun w=>by kernel_rfl
theorem mHead_add_4_0:nxN Pg true 10 (mHead M xs cs 4 0)=ap0 (mCall M xs cs 4 0) cs M.wg:=by kernel_rfl
theorem mGo_slid_4_0:Slid Pg true 3 (backM (mCall M xs cs 4 0) cs):=fun w=>by kernel_rfl
theorem mGo_step_4_0 (w:World):stepG Pg true (mGo M xs cs 4 0) w= .spawn (fin (mGo M xs cs 4 0) unit) (gChild M.toPl) w #[]:=by kernel_rfl
theorem mGo_status_4_0:(mGo M xs cs 4 0).status= .running:=by kernel_rfl
theorem mNext_slid_4_0:Slid Pg true 9 (fin (mGo M xs cs 4 0) unit):=fun w=>by kernel_rfl
theorem mNext_head_4_0:nxN Pg true 9 (fin (mGo M xs cs 4 0) unit)=mHead M (xsM (nxN Pg true 9 (fin (mGo M xs cs 4 0) unit))) cs 4 1:=by kernel_rfl
theorem mHead_slid_4_1:Slid Pg true 10 (mHead M xs cs 4 1):=fun w=>by kernel_rfl
theorem mHead_add_4_1:nxN Pg true 10 (mHead M xs cs 4 1)=ap0 (mCall M xs cs 4 1) cs M.wg:=by kernel_rfl
theorem mGo_slid_4_1:Slid Pg true 3 (backM (mCall M xs cs 4 1) cs):=fun w=>by kernel_rfl
theorem mGo_step_4_1 (w:World):stepG Pg true (mGo M xs cs 4 1) w= .spawn (fin (mGo M xs cs 4 1) unit) (gChild M.toPl) w #[]:=by kernel_rfl
theorem mGo_status_4_1:(mGo M xs cs 4 1).status= .running:=by kernel_rfl
theorem mNext_slid_4_1:Slid Pg true 9 (fin (mGo M xs cs 4 1) unit):=fun w=>by kernel_rfl
theorem mNext_head_4_1:nxN Pg true 9 (fin (mGo M xs cs 4 1) unit)=mHead M (xsM (nxN Pg true 9 (fin (mGo M xs cs 4 1) unit))) cs 4 2:=by kernel_rfl
theorem mHead_slid_4_2:Slid Pg true 10 (mHead M xs cs 4 2):=fun w=>by kernel_rfl
theorem mHead_add_4_2:nxN Pg true 10 (mHead M xs cs 4 2)=ap0 (mCall M xs cs 4 2) cs M.wg:=by kernel_rfl
theorem mGo_slid_4_2:Slid Pg true 3 (backM (mCall M xs cs 4 2) cs):=fun w=>by kernel_rfl
theorem mGo_step_4_2 (w:World):stepG Pg true (mGo M xs cs 4 2) w= .spawn (fin (mGo M xs cs 4 2) unit) (gChild M.toPl) w #[]:=by kernel_rfl
theorem mGo_status_4_2:(mGo M xs cs 4 2).status= .running:=by kernel_rfl
theorem mNext_slid_4_2:Slid Pg true 9 (fin (mGo M xs cs 4 2) unit):=fun w=>by kernel_rfl
theorem mNext_head_4_2:nxN Pg true 9 (fin (mGo M xs cs 4 2) unit)=mHead M (xsM (nxN Pg true 9 (fin (mGo M xs cs 4 2) unit))) cs 4 3:=by kernel_rfl
theorem mHead_slid_4_3:Slid Pg true 10 (mHead M xs cs 4 3):=fun w=>by kernel_rfl
theorem mHead_add_4_3:nxN Pg true 10 (mHead M xs cs 4 3)=ap0 (mCall M xs cs 4 3) cs M.wg:=by kernel_rfl
theorem mGo_slid_4_3:Slid Pg true 3 (backM (mCall M xs cs 4 3) cs):=fun w=>by kernel_rfl
theorem mGo_step_4_3 (w:World):stepG Pg true (mGo M xs cs 4 3) w= .spawn (fin (mGo M xs cs 4 3) unit) (gChild M.toPl) w #[]:=by kernel_rfl
theorem mGo_status_4_3:(mGo M xs cs 4 3).status= .running:=by kernel_rfl
theorem mNext_slid_4_3:Slid Pg true 9 (fin (mGo M xs cs 4 3) unit):=fun w=>by kernel_rfl
theorem mNext_head_4_3:nxN Pg true 9 (fin (mGo M xs cs 4 3) unit)=mHead M (xsM (nxN Pg true 9 (fin (mGo M xs cs 4 3) unit))) cs 4 4:=by kernel_rfl
end
end Go.Proofs.YtldmcdeibiclkaaGreatDoor.U
end
