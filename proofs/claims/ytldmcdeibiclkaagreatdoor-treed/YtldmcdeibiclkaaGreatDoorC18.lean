/-
  Toward: treed_holds, each node's digest is that of its children's, for every argument of Treed. tree.ofSegments: the numbers are sent; it closes, and waits.
  tree.ofSegments: behind Wait: what came back is gathered.
  THE POOL's MACHINE: what is held of it.
  THE POOL's MACHINE: places, what is held, the measure.
-/
import Derived.Test.YtldmcdeibiclkaaGreatDoorC17
import Derived.Test.YtldmcdeibiclkaaGreatDoorC16
import Derived.Conc.CrowdComm
set_option linter.unusedVariables false
set_option linter.unusedSimpArgs false
set_option maxRecDepth 4000
section
namespace Go.Proofs.YtldmcdeibiclkaaGreatDoor.U
open Go.Conc
open Go.ConcN (upd)
set_option maxRecDepth 100000
section
variable (c:Frame) (cs:List Frame) (wg:Nat) (xs:Nat→Value)
theorem awBk_slid:Slid Pg true 10 (fin (fin (awAc c cs wg xs) (ptr wg)) unit):=fun w=>by kernel_rfl
theorem awBk_back:nxN Pg true 10 (fin (fin (awAc c cs wg xs) (ptr wg)) unit)=backM c cs:=by kernel_rfl
end
section
variable (M:Mn) (xs:Nat→Value) (cs:List Frame) (j:Int)
def xsJ (M:Mn) (j:Int) (xs:Nat→Value):Nat→Value:=upd (upd xs 24 (.int .i64 M.count)) 25 (.int .i64 j)
noncomputable def mSend:Goroutine:=gM M 10 0 (xsJ M j xs) cs
theorem mStart_slid_1:Slid Pg true 15 (mHead M xs cs 1 1):=fun w=>by kernel_rfl
theorem mStart_slid_4:Slid Pg true 15 (mHead M xs cs 4 4):=fun w=>by kernel_rfl
theorem mStart_send_1:nxN Pg true 15 (mHead M xs cs 1 1)=mSend M (xsM (nxN Pg true 15 (mHead M xs cs 1 1))) cs 0:=by kernel_rfl
theorem mStart_send_4:nxN Pg true 15 (mHead M xs cs 4 4)=mSend M (xsM (nxN Pg true 15 (mHead M xs cs 4 4))) cs 0:=by kernel_rfl
noncomputable def mTest (b:Bool):Goroutine:=gM M 10 1 (upd (xsJ M j xs) 26 (.bool b)) cs
theorem mSend_slid:Slid Pg true 1 (mSend M xs cs j):=fun w=>by kernel_rfl
theorem mSend_test:nxN Pg true 1 (mSend M xs cs j)=mTest M xs cs j (decide (j< M.count)):=by kernel_rfl
theorem mTest_slid:Slid Pg true 12 (mTest M xs cs j true):=fun w=>by kernel_rfl
noncomputable def mLd:Goroutine:=nxN Pg true 12 (mTest M xs cs j true)
theorem mLd_op:AtOp Pg true (mLd M xs cs j):=⟨fun w=>by kernel_rfl,by kernel_rfl,by kernel_rfl⟩
theorem mLd_feed (v:Value):feed Pg (pendS (mLd M xs cs j)) [.val v]=some ([.ld .plain ⟨M.bN,0,none⟩],.inl (.value v)):=by kernel_rfl
theorem mLd_fn:(mLd M xs cs j).frame.fn=68:=by kernel_rfl
theorem mSd_slid:Slid Pg true 3 (fin (mLd M xs cs j) (.chan (some M.cN))):=fun w=>by kernel_rfl
noncomputable def mSd:Goroutine:=nxN Pg true 3 (fin (mLd M xs cs j) (.chan (some M.cN)))
theorem mSd_op:AtOp Pg true (mSd M xs cs j):=⟨fun w=>by kernel_rfl,by kernel_rfl,by kernel_rfl⟩
def sendCases (M:Mn) (j:Int):Array CommCase:=#[{chan:= .chan (some M.cN),send:=some (.int .i64 (IntKind.i64.wrap (M.first+j))),zero:= .tuple #[]}]
theorem mSd_feed:feed Pg (pendS (mSd M xs cs j)) []=some ([],.inl (.comm (sendCases M j) true .send)):=by kernel_rfl
noncomputable def mSent:Goroutine:=(mSd M xs cs j).finishComm Pg (sendCases M j) .send 0 undef false
theorem mSent_slid:Slid Pg true 9 (mSent M xs cs j):=fun w=>by kernel_rfl
theorem mSent_next:nxN Pg true 9 (mSent M xs cs j)=mSend M (xsM (nxN Pg true 9 (mSent M xs cs j))) cs (IntKind.i64.wrap (j+1)):=by kernel_rfl
theorem mTestF_slid:Slid Pg true 6 (mTest M xs cs j false):=fun w=>by kernel_rfl
noncomputable def mLc:Goroutine:=nxN Pg true 6 (mTest M xs cs j false)
theorem mLc_op:AtOp Pg true (mLc M xs cs j):=⟨fun w=>by kernel_rfl,by kernel_rfl,by kernel_rfl⟩
theorem mLc_feed (v:Value):feed Pg (pendS (mLc M xs cs j)) [.val v]=some ([.ld .plain ⟨M.bN,0,none⟩],.inl (.value v)):=by kernel_rfl
theorem mLc_fn:(mLc M xs cs j).frame.fn=68:=by kernel_rfl
noncomputable def mCl:Goroutine:=fin (mLc M xs cs j) (.chan (some M.cN))
theorem mCl_op:AtOp Pg true (mCl M xs cs j):=⟨fun w=>by kernel_rfl,by kernel_rfl,by kernel_rfl⟩
theorem mCl_feed (a:Nat) (b:Array Value) (s r:Nat) (tm:Bool):feed Pg (pendS (mCl M xs cs j)) [.obj (.chan a b false s r tm)]=some ([.gt M.cN,.pt M.cN (.chan a b true s r tm)],.inl (.value unit)):=by kernel_rfl
theorem mCl_fn:(mCl M xs cs j).frame.fn=68:=by kernel_rfl
theorem mCl_wakes:mayWake Pg (mCl M xs cs j)=true:=by kernel_rfl
theorem mWt_slid:Slid Pg true 4 (fin (mCl M xs cs j) unit):=fun w=>by kernel_rfl
noncomputable def mWtC:Frame:=(nxN Pg true 3 (fin (mCl M xs cs j) unit)).frame
theorem mWt_wait:nxN Pg true 4 (fin (mCl M xs cs j) unit)=aw0 (mWtC M xs cs j) cs M.wg:=by kernel_rfl
theorem seen_rd (b:Nat):seen Pg 68 #[⟨.cell ⟨b,0,none⟩,false,false⟩]=#[⟨.cell ⟨b,0,none⟩,false,false⟩]:=by kernel_rfl
theorem seen_st (a:Addr):seen Pg 68 #[⟨.cell a,true,false⟩]=#[⟨.cell a,true,false⟩]:=by kernel_rfl
theorem seen_cl (r:Nat):seen Pg 68 #[⟨.obj r,false,true⟩,⟨.obj r,true,true⟩]=#[⟨.obj r,false,true⟩,⟨.obj r,true,true⟩]:=by kernel_rfl
theorem seen_st2 (a b:Addr):seen Pg 68 #[⟨.cell a,true,false⟩,⟨.cell b,true,false⟩]=#[⟨.cell a,true,false⟩,⟨.cell b,true,false⟩]:=by kernel_rfl
theorem seen_ld (a:Addr):seen Pg 68 #[⟨.cell a,false,false⟩]=#[⟨.cell a,false,false⟩]:=by kernel_rfl
end
end Go.Proofs.YtldmcdeibiclkaaGreatDoor.U
end
section
namespace Go.Proofs.YtldmcdeibiclkaaGreatDoor.U
open Go.Conc
open Go.ConcN (upd)
set_option maxRecDepth 100000
section
variable (M:Mn) (xs:Nat→Value) (cs:List Frame) (j:Int)
noncomputable def mB:Goroutine:=backM (mWtC M xs cs j) cs
theorem mB_slid:Slid Pg true 3 (mB M xs cs j):=fun w=>by kernel_rfl
noncomputable def mLb:Goroutine:=nxN Pg true 3 (mB M xs cs j)
theorem mLb_op:AtOp Pg true (mLb M xs cs j):=⟨fun w=>by kernel_rfl,by kernel_rfl,by kernel_rfl⟩
theorem mLb_feed (v:Value):feed Pg (pendS (mLb M xs cs j)) [.val v]=some ([.ld .plain ⟨M.bB,0,none⟩],.inl (.value v)):=by kernel_rfl
theorem mLb_fn:(mLb M xs cs j).frame.fn=68:=by kernel_rfl
noncomputable def mClB:Goroutine:=fin (mLb M xs cs j) (.chan (some M.cB))
theorem mClB_op:AtOp Pg true (mClB M xs cs j):=⟨fun w=>by kernel_rfl,by kernel_rfl,by kernel_rfl⟩
theorem mClB_feed (a:Nat) (b:Array Value) (s r:Nat) (tm:Bool):feed Pg (pendS (mClB M xs cs j)) [.obj (.chan a b false s r tm)]=some ([.gt M.cB,.pt M.cB (.chan a b true s r tm)],.inl (.value unit)):=by kernel_rfl
theorem mClB_fn:(mClB M xs cs j).frame.fn=68:=by kernel_rfl
theorem mSl_slid:Slid Pg true 4 (fin (mClB M xs cs j) unit):=fun w=>by kernel_rfl
noncomputable def mSl:Goroutine:=nxN Pg true 4 (fin (mClB M xs cs j) unit)
theorem mSl_op:AtOp Pg true (mSl M xs cs j):=⟨fun w=>by kernel_rfl,by kernel_rfl,by kernel_rfl⟩
end
theorem mSl_feed_1 (M:Mn) (h:M.count=1) (xs:Nat→Value) (cs:List Frame) (j:Int) (r:Nat):feed Pg (pendS (mSl M xs cs j)) [.ref r]=some ([.nw (.cells (Array.replicate 1 (.int .u64 0)) 44)],.inl (.value (.slice (some ⟨r,0,none⟩) 1 1))):=by
 obtain ⟨p,f,n,fn,ca,cb⟩:=M
 simp only at h
 subst h
 kernel_rfl
theorem mSl_feed_4 (M:Mn) (h:M.count=4) (xs:Nat→Value) (cs:List Frame) (j:Int) (r:Nat):feed Pg (pendS (mSl M xs cs j)) [.ref r]=some ([.nw (.cells (Array.replicate 4 (.int .u64 0)) 44)],.inl (.value (.slice (some ⟨r,0,none⟩) 4 4))):=by
 obtain ⟨p,f,n,fn,ca,cb⟩:=M
 simp only at h
 subst h
 kernel_rfl
theorem mSl_feed_16 (M:Mn) (h:M.count=16) (xs:Nat→Value) (cs:List Frame) (j:Int) (r:Nat):feed Pg (pendS (mSl M xs cs j)) [.ref r]=some ([.nw (.cells (Array.replicate 16 (.int .u64 0)) 44)],.inl (.value (.slice (some ⟨r,0,none⟩) 16 16))):=by
 obtain ⟨p,f,n,fn,ca,cb⟩:=M
 simp only at h
 subst h
 kernel_rfl
theorem mSl_feed_64 (M:Mn) (h:M.count=64) (xs:Nat→Value) (cs:List Frame) (j:Int) (r:Nat):feed Pg (pendS (mSl M xs cs j)) [.ref r]=some ([.nw (.cells (Array.replicate 64 (.int .u64 0)) 44)],.inl (.value (.slice (some ⟨r,0,none⟩) 64 64))):=by
 obtain ⟨p,f,n,fn,ca,cb⟩:=M
 simp only at h
 subst h
 kernel_rfl
section
variable (M:Mn) (xs:Nat→Value) (cs:List Frame) (j:Int) (d n:Nat)
def slc (d n:Nat):Value:= .slice (some ⟨d,0,none⟩) n n
theorem mLb2_slid:Slid Pg true 5 (fin (mSl M xs cs j) (slc d n)):=fun w=>by kernel_rfl
noncomputable def mLb2:Goroutine:=nxN Pg true 5 (fin (mSl M xs cs j) (slc d n))
theorem mLb2_op:AtOp Pg true (mLb2 M xs cs j d n):=⟨fun w=>by kernel_rfl,by kernel_rfl,by kernel_rfl⟩
theorem mLb2_feed (v:Value):feed Pg (pendS (mLb2 M xs cs j d n)) [.val v]=some ([.ld .plain ⟨M.bB,0,none⟩],.inl (.value v)):=by kernel_rfl
theorem mLb2_fn:(mLb2 M xs cs j d n).frame.fn=68:=by kernel_rfl
theorem mRc_slid0:Slid Pg true 5 (fin (mLb2 M xs cs j d n) (.chan (some M.cB))):=fun w=>by kernel_rfl
def xsR (M:Mn) (d n:Nat) (xs:Nat→Value):Nat→Value:=upd (upd xs 38 (.chan (some M.cB))) 11 (slc d n)
noncomputable def mRc:Goroutine:=gM M 19 0 (xsR M d n xs) cs
theorem mRc_first:nxN Pg true 5 (fin (mLb2 M xs cs j d n) (.chan (some M.cB)))=mRc M (xsM (nxN Pg true 5 (fin (mLb2 M xs cs j d n) (.chan (some M.cB))))) cs d n:=by kernel_rfl
theorem mRc_op:AtOp Pg true (mRc M xs cs d n):=⟨fun w=>by kernel_rfl,by kernel_rfl,by kernel_rfl⟩
def zF:Value:= .agg #[.int .i64 0,.int .u64 0]
def backCases (M:Mn):Array CommCase:=#[{chan:= .chan (some M.cB),send:=none,zero:=zF}]
theorem mRc_feed:feed Pg (pendS (mRc M xs cs d n)) []=some ([],.inl (.comm (backCases M) true (.recv true))):=by kernel_rfl
noncomputable def mGt (s e:Int):Goroutine:=(mRc M xs cs d n).finishComm Pg (backCases M) (.recv true) 0 (.agg #[.int .i64 s,.int .u64 e]) true
variable (s e:Int) (r:Nat)
theorem mGt_slid:Slid Pg true 9 (mGt M xs cs d n s e):=fun w=>by kernel_rfl
noncomputable def mAs:Goroutine:=nxN Pg true 9 (mGt M xs cs d n s e)
theorem mAs_op:AtOp Pg true (mAs M xs cs d n s e):=⟨fun w=>by kernel_rfl,by kernel_rfl,by kernel_rfl⟩
theorem mAs_feed:feed Pg (pendS (mAs M xs cs d n s e)) [.ref r]=some ([.nw (.cells #[.int .i64 0,.int .u64 0] 190)],.inl (.value (ptr r))):=by kernel_rfl
noncomputable def mSs:Goroutine:=fin (mAs M xs cs d n s e) (ptr r)
theorem mSs_op:AtOp Pg true (mSs M xs cs d n s e r):=⟨fun w=>by kernel_rfl,by kernel_rfl,by kernel_rfl⟩
theorem mSs_feed:feed Pg (pendS (mSs M xs cs d n s e r)) []=some ([.st .plain ⟨r,0,none⟩ (.int .i64 s),.st .plain ⟨r,1,none⟩ (.int .u64 e)],.inl .skip):=by kernel_rfl
theorem mSs_fn:(mSs M xs cs d n s e r).frame.fn=68:=by kernel_rfl
theorem mL0_slid:Slid Pg true 4 (fin (mSs M xs cs d n s e r) unit):=fun w=>by kernel_rfl
noncomputable def mL0:Goroutine:=nxN Pg true 4 (fin (mSs M xs cs d n s e r) unit)
theorem mL0_op:AtOp Pg true (mL0 M xs cs d n s e r):=⟨fun w=>by kernel_rfl,by kernel_rfl,by kernel_rfl⟩
theorem mL0_feed (v:Value):feed Pg (pendS (mL0 M xs cs d n s e r)) [.val v]=some ([.ld .plain ⟨r,0,none⟩],.inl (.value v)):=by kernel_rfl
theorem mL0_fn:(mL0 M xs cs d n s e r).frame.fn=68:=by kernel_rfl
theorem mL1_slid:Slid Pg true 3 (fin (mL0 M xs cs d n s e r) (.int .i64 s)):=fun w=>by kernel_rfl
noncomputable def mL1:Goroutine:=nxN Pg true 3 (fin (mL0 M xs cs d n s e r) (.int .i64 s))
theorem mL1_op:AtOp Pg true (mL1 M xs cs d n s e r):=⟨fun w=>by kernel_rfl,by kernel_rfl,by kernel_rfl⟩
theorem mL1_feed (v:Value):feed Pg (pendS (mL1 M xs cs d n s e r)) [.val v]=some ([.ld .plain ⟨r,1,none⟩],.inl (.value v)):=by kernel_rfl
theorem mL1_fn:(mL1 M xs cs d n s e r).frame.fn=68:=by kernel_rfl
noncomputable def mIx:Goroutine:=fin (mL1 M xs cs d n s e r) (.int .u64 e)
theorem mIx_op:AtOp Pg true (mIx M xs cs d n s e r):=⟨fun w=>by kernel_rfl,by kernel_rfl,by kernel_rfl⟩
theorem mIx_pend:pendS (mIx M xs cs d n s e r)=(Instr.indexAt 147 (slc d n) (.int .i64 (IntKind.i64.wrap (s - M.first))) >>=fun v=>pure (.value v)):=by kernel_rfl
variable (k:Nat)
noncomputable def mSk:Goroutine:=fin (mIx M xs cs d n s e r) (.pointer (some ⟨d,k,none⟩))
theorem mSk_op:AtOp Pg true (mSk M xs cs d n s e r k):=⟨fun w=>by kernel_rfl,by kernel_rfl,by kernel_rfl⟩
theorem mSk_feed:feed Pg (pendS (mSk M xs cs d n s e r k)) []=some ([.st .plain ⟨d,k,none⟩ (.int .u64 e)],.inl .skip):=by kernel_rfl
theorem mSk_fn:(mSk M xs cs d n s e r k).frame.fn=68:=by kernel_rfl
theorem mRn_slid:Slid Pg true 5 (fin (mSk M xs cs d n s e r k) unit):=fun w=>by kernel_rfl
theorem mRn_recv:nxN Pg true 5 (fin (mSk M xs cs d n s e r k) unit)=mRc M (xsM (nxN Pg true 5 (fin (mSk M xs cs d n s e r k) unit))) cs d n:=by kernel_rfl
end
section
variable (M:Mn) (xs:Nat→Value) (c:Frame) (cs:List Frame) (d n:Nat)
noncomputable def mZ:Goroutine:=(mRc M xs (c::cs) d n).finishComm Pg (backCases M) (.recv true) 0 zF false
theorem mZ_slid:Slid Pg true 12 (mZ M xs c cs d n):=fun w=>by kernel_rfl
theorem mZ_back:nxN Pg true 12 (mZ M xs c cs d n)= {frame:=c.finish (slc d n),callers:=cs,status:= .running,dying:=none}:=by kernel_rfl
end
end Go.Proofs.YtldmcdeibiclkaaGreatDoor.U
end
section
namespace Go.Proofs.YtldmcdeibiclkaaGreatDoor.U
open Go.Conc
open Go.ConcN (upd upd_same upd_ne sumTo sumTo_upd sumTo_congr RelBy)
section
variable {Λ:Lots} {Sh live Wk:Nat→Prop} {B:Nat} {t u:Trace}
theorem TP.still (h:TP Λ Sh live Wk B t): ∀(l:List MemOp),(∀op∈l,op.act.touch? =none)→(∀op∈l,op.act.low B)→TP Λ Sh live Wk B (t++l.toArray):=by
 intro l
 induction l generalizing t with
 |nil=>intro _ _;simpa using h
 |cons x l ih=>
  intro hn hl
  have e:t++(x::l).toArray=(t++#[x])++l.toArray:=by apply Array.ext';simp
  rw [e]
  refine ih (h.mute (k:=x.g) (fun op hop=>by simp at hop;rw [hop]) (fun op hop=>by simp at hop;rw [hop];exact hn x (by simp)) (fun op hop=>by simp at hop;rw [hop];exact hl x (by simp))) (fun op hop=>hn op (by simp [hop])) (fun op hop=>hl op (by simp [hop]))
theorem RelBy.still {a:Addr} {k r:Nat} (h:RelBy a t k r) (hn: ∀op∈u,op.act.touch? =none):RelBy a (t++u) k r:=by
 refine h.app fun i hi _ hc=>?_
 obtain ⟨x,hx,_⟩:=hc
 obtain ⟨op,hop,hox⟩:=touch_of hx
 rcases getElem?_append_cases hop with ⟨hlt,_⟩|⟨_,hou⟩
 ·omega
 ·rw [hn op hou] at hox;cases hox
def noDeaf (x:MemAct):Prop:=x≠.mark .disable∧x≠.mark .enable
theorem Deaf_still (t:Trace) (g:Nat): ∀(l:List MemOp),(∀op∈l,noDeaf op.act)→Deaf (t++l.toArray) g=Deaf t g:=by
 intro l hl
 rw [Deaf_append]
 have: ∀(l:List MemOp) (d:Nat),(∀op∈l,noDeaf op.act)→l.foldl (deafStep g) d=d:=by
  intro l
  induction l with
  |nil=>intro d _;rfl
  |cons y l ih=>
   intro d h
   rw [List.foldl_cons]
   have hy:deafStep g d y=d:=by
    have:=h y (by simp)
    unfold deafStep
    split
    ·rename_i e;exact absurd e this.1
    ·rename_i e;exact absurd e this.2
    ·rfl
   rw [hy]
   exact ih d fun op hop=>h op (by simp [hop])
 exact this l _ hl
theorem NoRelease.still {a:Addr} (h:NoRelease a t) (hu: ∀op∈u,op.act≠.mark (.release a)):NoRelease a (t++u):=h.app hu
end
end Go.Proofs.YtldmcdeibiclkaaGreatDoor.U
end
section
namespace Go.Proofs.YtldmcdeibiclkaaGreatDoor.U
open Go.Conc
open Go.ConcN (upd upd_same upd_ne sumTo sumTo_upd sumTo_congr RelBy)
structure PC (L:Lim) where
 E:Entry L
 M:Mn
 c:Frame
 cs:List Frame
 n0:Nat
 nW:Nat
 a:Nat→Int
 Sh:Nat→Prop
 g0:Array Goroutine
section
variable {L:Lim}
def PC.p (X:PC L):Pl:=X.M.toPl
def PC.num (X:PC L) (i:Nat):Value:= .int .i64 (IntKind.i64.wrap (X.E.first+i))
def PC.fnd (X:PC L) (i:Nat):Value:= .agg #[X.num i,.int .u64 (X.a i)]
structure PCOk (T:Tab) (Goal:Frame→List Frame→World→Prop) (X:PC L):Prop where
 A:Lean1 L T Goal
 K:EntryOk L X.E
 jobs: ∀i,i< X.E.n→Job Goal X.E i (X.a i)
 first:X.M.first=X.E.first
 count:X.M.count=X.E.n
 txt:X.M.txt=X.E.y2
 nn:X.E.n=1∨X.E.n=4∨X.E.n=16∨X.E.n=64
 nw:(X.E.n=1∧X.nW=1)∨(X.E.n≠1∧X.nW=4)
 bT:X.M.bT=X.E.v0.heap.size
 cN:X.M.cN=X.E.v0.heap.size+1
 bN:X.M.bN=X.E.v0.heap.size+2
 cB:X.M.cB=X.E.v0.heap.size+3
 bB:X.M.bB=X.E.v0.heap.size+4
 wg:X.M.wg=X.E.v0.heap.size+5
 n0:0< X.n0
 sh: ∀b,X.Sh b→b< X.E.v0.heap.size
 rosh: ∀r s,X.E.ρ r s→¬ X.Sh s
inductive Wk where
 |load (n:Nat)
 |recv (n:Nat) (xs:Nat→Value)
 |park (xs:Nat→Value)
 |woken (xs:Nat→Value)
 |draw (n i:Nat) (xs:Nat→Value)
 |ops (i:Nat) (l:List Nat) (xs:Nat→Value)
 |text (i:Nat) (l:List Nat) (xs:Nat→Value) (s:GSt)
 |summ (i:Nat) (l:List Nat) (xs:Nat→Value) (s:GSt)
 |conv (n:Nat) (xs:Nat→Value)
 |relm (xs:Nat→Value)
 |dis (n:Nat) (xs:Nat→Value)
 |add (n:Nat) (xs:Nat→Value)
 |ld4 (n:Nat) (xs:Nat→Value)
 |st3 (n:Nat) (xs:Nat→Value)
 |sem2 (n:Nat) (xs:Nat→Value)
 |quit (q:Nat)
def Wk.rank:Wk→Nat
 | .load _=>10| .recv .. =>9| .woken _=>9| .park _=>8| .conv .. =>7| .relm _=>6| .dis .. =>5| .add .. =>4| .ld4 .. =>3| .st3 .. =>2| .sem2 .. =>1| .quit _=>0
 | .draw .. =>60
 | .ops _ l _=>21+2*l.length
 | .text _ l _ _=>22+2*l.length
 | .summ _ l _ _=>22+2*l.length
def Wk.idle:Wk→Nat
 | .load n=>n| .recv n _=>n| .draw n _ _=>n| .conv n _=>n| .dis n _=>n| .add n _=>n| .ld4 n _=>n| .st3 n _=>n| .sem2 n _=>n| .quit q=>q
 |_=>0
def Wk.tree:Wk→Option GSt
 | .text _ _ _ s=>some s
 | .summ _ _ _ s=>some s
 |_=>none
def Wk.cnt:Wk→Nat
 | .ld4 .. | .st3 .. | .sem2 .. | .quit _=>0
 |_=>1
def Wk.job:Wk→Option Nat
 | .draw _ i _=>some i
 | .ops i _ _=>some i
 | .text i _ _ _=>some i
 | .summ i _ _ _=>some i
 |_=>none
def Wk.parked:Wk→Bool
 | .park _=>true
 |_=>false
def Wk.rel:Wk→Bool
 | .dis .. | .add .. | .ld4 .. | .st3 .. | .sem2 .. | .quit _=>true
 |_=>false
structure OpsOk (Goal:Frame→List Frame→World→Prop) (X:PC L) (i:Nat) (l:List Nat) (xs:Nat→Value):Prop where
 good:good l=true
 lt:i< X.E.n
 x4:xs 4=X.num i
 d0:l.contains 0=false→xs 9= .chan (some X.M.cB)
 d1:l.contains 1=false→xs 10=X.num i
 d2:l.contains 2=false→xs 11=X.E.y2
 d3:l.contains 3=false→xs 12=X.num i
 d4:l.contains 4=false→l.contains 5=true→∃t,xs 13= .string t∧Mid Goal X.E (X.a i) t
 d5:l.contains 5=false→xs 14= .int .u64 (X.a i)
 d6:l.contains 6=false→xs 15=X.fnd i
noncomputable def below (X:PC L) (xs:Nat→Value) (l:List Nat):List Frame:=(gOps X.p xs l).frame::(gOps X.p xs l).callers
noncomputable def parkedG (X:PC L) (xs:Nat→Value):Goroutine:=parked (gRecv X.p xs) (recvCases X.p) (.recv true)
def WAt (T:Tab) (Goal:Frame→List Frame→World→Prop) (X:PC L) (ow:Nat→Prop) (d:Nat) (g:Goroutine) (v:World):Wk→Prop
 | .load n=>Glide Pg false n g (gLoad X.p)∧d=0
 | .recv n xs=>Glide Pg false n g (gRecv X.p xs)∧d=0
 | .park xs=>g=parkedG X xs∧d=0
 | .woken xs=>g= {parkedG X xs with status:= .running}∧d=0
 | .draw n i xs=>Glide Pg false n g (gDraw X.p xs)∧d=0∧i< X.E.n∧xs 4=X.num i
 | .ops i l xs=>g=gOps X.p xs l∧d=0∧l≠[]∧OpsOk Goal X i l xs
 | .text i l xs s=>d=0∧OpsOk Goal X i (4::l) xs∧∃Y,Y 7= .int .u64 (X.a i)∧InCall L T Goal X.E (qF X.E 5 0 Y) (below X xs (4::l)) ow s g v
 | .summ i l xs s=>d=0∧OpsOk Goal X i (5::l) xs∧∃Y,Y 7= .int .u64 (X.a i)∧InCall L T Goal X.E (qF X.E 5 2 Y) (below X xs (5::l)) ow s g v
 | .conv n xs=>Glide Pg false n g (anConv (cD X.p xs::csD X.p xs) X.M.wg)∧d=0
 | .relm xs=>g=anRelm (cD X.p xs::csD X.p xs) X.M.wg∧d=0
 | .dis n xs=>Glide Pg false n g (anDis (cD X.p xs::csD X.p xs) X.M.wg)∧d=0
 | .add n xs=>Glide Pg false n g (anAdd (cD X.p xs::csD X.p xs) X.M.wg)∧d=1
 | .ld4 n xs=>Glide Pg false n g (alLd (cD X.p xs) (csD X.p xs) X.M.wg)∧d=1
 | .st3 n xs=>Glide Pg false n g (alSt (cD X.p xs) (csD X.p xs) X.M.wg)∧d=1
 | .sem2 n xs=>Glide Pg false n g (alSem (cD X.p xs) (csD X.p xs) X.M.wg)∧d=1
 | .quit q=>QuitsD Pg q d g
inductive Mt where
 |dis (i n:Nat) (xs:Nat→Value)|add (i n:Nat) (xs:Nat→Value)|cv (i n:Nat) (xs:Nat→Value)|rd (i:Nat) (xs:Nat→Value)|en1 (i n:Nat) (xs:Nat→Value)|en (i n k:Nat) (xs:Nat→Value)|go (i n:Nat) (xs:Nat→Value)
 |ld (j n:Nat) (xs:Nat→Value)|sd (j n:Nat) (xs:Nat→Value)|lc (n:Nat) (xs:Nat→Value)|cl (xs:Nat→Value)
 |wd (n:Nat) (xs:Nat→Value)|wl (n:Nat) (xs ys:Nat→Value)|zen (n:Nat) (xs ys:Nat→Value)|zc (n:Nat) (xs ys:Nat→Value)|za (xs ys:Nat→Value)
 |cas (k n:Nat) (xs ys:Nat→Value)|hcv (k n:Nat) (xs ys:Nat→Value)|hwr (k:Nat) (xs ys:Nat→Value)|sem (n:Nat) (xs ys:Nat→Value)|blk (xs ys:Nat→Value)
 |l2 (n:Nat) (xs ys:Nat→Value)|en2 (n:Nat) (xs ys:Nat→Value)|ac (n:Nat) (xs ys:Nat→Value)|aq (xs ys:Nat→Value)|fin (n:Nat) (xs:Nat→Value)
def KK':Nat:=4294967296
def Mt.rank (c:Nat):Mt→Nat
 | .dis i _ _=>2060+100*(4 - i)| .add i _ _=>2050+100*(4 - i)| .cv i _ _=>2045+100*(4 - i)| .rd i _=>2044+100*(4 - i)| .en1 i _ _=>2040+100*(4 - i)| .en i _ _ _=>2040+100*(4 - i)| .go i _ _=>2030+100*(4 - i)
 | .ld j _ _=>202+3*(64 - j)| .sd j _ _=>201+3*(64 - j)| .lc .. =>190| .cl _=>180| .wd .. =>160| .wl .. =>140| .cas k _ _ _=>if k=c then 130 else 141
 | .zen .. =>120| .zc .. =>119| .za .. =>118| .hcv .. =>129| .hwr .. =>128| .sem .. =>127| .blk .. =>127| .l2 .. =>126| .en2 .. =>125| .ac .. =>124| .aq .. =>123| .fin .. =>0
def Mt.idle:Mt→Nat
 | .dis _ n _=>n| .add _ n _=>n| .cv _ n _=>n| .en1 _ n _=>n| .en _ n _ _=>n| .go _ n _=>n| .ld _ n _=>n| .sd _ n _=>n| .lc n _=>n| .wd n _=>n| .wl n _ _=>n| .zen n _ _=>n| .zc n _ _=>n
 | .cas _ n _ _=>n| .hcv _ n _ _=>n| .sem n _ _=>n+1| .l2 n _ _=>n| .en2 n _ _=>n| .ac n _ _=>n| .fin n _=>n
 |_=>0
def Mt.sent (X:PC L):Mt→Nat
 | .dis .. | .add .. | .cv .. | .rd .. | .en1 .. | .en .. | .go .. =>0
 | .ld j _ _=>j
 | .sd j _ _=>j
 |_=>X.E.n
def Mt.on (X:PC L):Mt→Nat
 | .dis i _ _=>i| .add i _ _=>i| .cv i _ _=>i| .rd i _=>i| .en1 i _ _=>i| .en i _ _ _=>i| .go i _ _=>i
 |_=>X.nW
def Mt.shut:Mt→Bool
 | .dis .. | .add .. | .cv .. | .rd .. | .en1 .. | .en .. | .go .. | .ld .. | .sd .. | .lc .. | .cl _=>false
 |_=>true
def Mt.pend:Mt→Nat
 | .cv .. | .rd .. | .en1 .. | .en .. | .go .. =>1
 |_=>0
def Mt.deaf:Mt→Nat
 | .add .. | .cv .. | .rd .. | .en1 .. | .en .. | .wl .. | .zen .. | .cas .. | .hcv .. | .hwr .. | .sem .. | .blk .. | .l2 .. | .en2 .. =>1
 |_=>0
def PC.ds (X:PC L):List Frame:=X.c::X.cs
noncomputable def PC.mc (X:PC L) (i:Nat) (xs:Nat→Value):Frame:=mCall X.M xs X.ds X.nW i
noncomputable def PC.wc (X:PC L) (xs:Nat→Value):Frame:=mWtC X.M xs X.ds X.E.n
def MAt (X:PC L) (h:Goroutine):Mt→Prop
 | .dis i n xs=>Glide Pg true n h (apDis (X.mc i xs) X.ds X.M.wg)∧i< X.nW
 | .add i n xs=>Glide Pg true n h (apAdd (X.mc i xs) X.ds X.M.wg)∧i< X.nW
 | .cv i n xs=>Glide Pg true n h (apCv (X.mc i xs) X.ds X.M.wg)∧i< X.nW
 | .rd i xs=>h=fin (apCv (X.mc i xs) X.ds X.M.wg) (ptr1 X.M.wg)∧i< X.nW
 | .en1 i n xs=>Glide Pg true n h (apEn1 (X.mc i xs) X.ds X.M.wg)∧i< X.nW
 | .en i n k xs=>Glide Pg true n h (apEn (X.mc i xs) X.ds X.M.wg (k*KK':Nat))∧i< X.nW∧2≤k∧k≤4
 | .go i n xs=>Glide Pg true n h (mGo X.M xs X.ds X.nW i)∧i< X.nW
 | .ld j n xs=>Glide Pg true n h (mLd X.M xs X.ds j)∧j< X.E.n
 | .sd j n xs=>Glide Pg true n h (mSd X.M xs X.ds j)∧j< X.E.n
 | .lc n xs=>Glide Pg true n h (mLc X.M xs X.ds X.E.n)
 | .cl xs=>h=mCl X.M xs X.ds X.E.n
 | .wd n xs=>Glide Pg true n h (awDis (X.wc xs) X.ds X.M.wg)
 | .wl n xs ys=>Glide Pg true n h (awLd (X.wc xs) X.ds X.M.wg ys)
 | .zen n xs ys=>Glide Pg true n h (awZ (X.wc xs) X.ds X.M.wg ys)
 | .zc n xs ys=>Glide Pg true n h (awZc (X.wc xs) X.ds X.M.wg ys)
 | .za xs ys=>h=fin (awZc (X.wc xs) X.ds X.M.wg ys) (ptr X.M.wg)
 | .cas k n xs ys=>Glide Pg true n h (awCas (X.wc xs) X.ds X.M.wg ys (k*KK':Nat))∧1≤k∧k≤4
 | .hcv k n xs ys=>Glide Pg true n h (awCv (X.wc xs) X.ds X.M.wg ys (k*KK':Nat))∧1≤k∧k≤4
 | .hwr k xs ys=>h=awWr (X.wc xs) X.ds X.M.wg ys (k*KK':Nat)∧1≤k∧k≤4
 | .sem n xs ys=>Glide Pg true n h (awSem (X.wc xs) X.ds X.M.wg ys)
 | .blk xs ys=>h= {awSem (X.wc xs) X.ds X.M.wg ys with status:= .blocked}
 | .l2 n xs ys=>Glide Pg true n h (awL2 (X.wc xs) X.ds X.M.wg ys)
 | .en2 n xs ys=>Glide Pg true n h (awEn (X.wc xs) X.ds X.M.wg ys)
 | .ac n xs ys=>Glide Pg true n h (awAc (X.wc xs) X.ds X.M.wg ys)
 | .aq xs ys=>h=fin (awAc (X.wc xs) X.ds X.M.wg ys) (ptr X.M.wg)
 | .fin n xs=>Glide Pg true n h (mLb X.M xs X.ds X.E.n)
structure PS where
 mt:Mt
 j:Nat
 ws:Nat→Wk
 ow:Nat→Nat→Prop
 q:Nat→Nat
 bufN:List Nat
 rN:Nat
 bufB:List Nat
 st:Nat
 sm:Nat
def PS.c (s:PS):Nat:=sumTo s.j fun k=>(s.ws k).cnt
def PS.phi (X:PC L) (s:PS):Nat:=s.mt.rank s.c+sumTo s.j (fun k=>(s.ws k).rank)+12*s.c+60*(X.E.n - s.rN)
def PS.kap (s:PS):Nat→Option GSt:=fun k=>if k< s.j then (s.ws k).tree else none
def PS.eff (X:PC L) (s:PS):Nat:=s.mt.idle+2*sumTo s.j (fun k=>(s.ws k).idle)+2*sumTo X.n0 s.q
structure Gs (T:Tab) (Goal:Frame→List Frame→World→Prop) (X:PC L) (s:PS) (gs:Array Goroutine) (v:World) (t:Trace):Prop where
 size:gs.size=X.n0+s.j
 main: ∃h,gs[0]? =some h∧MAt X h s.mt
 work: ∀k,k< s.j→∃g,gs[X.n0+k]? =some g∧WAt T Goal X (s.ow k) (Deaf t (X.n0+k)) g v (s.ws k)
 leav: ∀i g,0< i→i< X.n0→gs[i]? =some g→QuitsD Pg (s.q i) (Deaf t i) g
 above: ∀i,gs.size≤i→Deaf t i=0
structure Wd (X:PC L) (s:PS) (v:World):Prop where
 old:OldV X.E v
 size:X.M.wg< v.heap.size
 bT:v.heap[X.M.bT]? =some (.cells #[X.M.txt] 79)
 bN:v.heap[X.M.bN]? =some (.cells #[.chan (some X.M.cN)] 178)
 bB:v.heap[X.M.bB]? =some (.cells #[.chan (some X.M.cB)] 179)
 cN:v.heap[X.M.cN]? =some (.chan X.E.n (s.bufN.map X.num).toArray s.mt.shut (s.mt.sent X) s.rN false)
 cB: ∃sB,v.heap[X.M.cB]? =some (.chan X.E.n (s.bufB.map X.fnd).toArray false sB 0 false)
 wg:v.heap[X.M.wg]? =some (.cells #[.int .u64 s.st,.int .u32 s.sm] 188)
 tape:v.tape=X.E.v0.tape
 os:v.os=X.E.v0.os
 output:v.output=X.E.v0.output
structure Ac (X:PC L) (s:PS):Prop where
 on:s.j=s.mt.on X
 sent:s.mt.sent X≤X.E.n
 got:s.rN+s.bufN.length=s.mt.sent X
 cover: ∀i,i< s.mt.sent X→i∈s.bufN∨i∈s.bufB∨∃k,k< s.j∧(s.ws k).job=some i
 count:s.bufN.length+sumTo s.j (fun k=>if (s.ws k).job.isSome then 1 else 0)+s.bufB.length≤s.mt.sent X
 okN: ∀i∈s.bufN,i< X.E.n
 okB: ∀i∈s.bufB,i< X.E.n
 park: ∀k,k< s.j→(s.ws k).parked=true→s.bufN= []∧s.mt.shut=false
 gone: ∀k,k< s.j→(s.ws k).rank≤7→s.mt.shut=true∧s.bufN= []
def isOpen:Mt→Bool
 | .cas .. | .wl .. | .wd .. | .lc .. | .cl _| .ld .. | .sd .. | .dis .. | .add .. | .cv .. | .rd .. | .en1 .. | .en .. | .go .. =>true
 |_=>false
def isReg:Mt→Bool
 | .hcv .. | .hwr .. | .sem .. | .blk .. =>true
 |_=>false
def isBlk:Mt→Bool
 | .blk .. =>true
 |_=>false
def noLast (s:PS):Prop:=∀k,k< s.j→(s.ws k).rank=0∨4≤(s.ws k).rank
def allQuit (s:PS):Prop:=∀k,k< s.j→(s.ws k).rank=0
inductive Wg (s:PS):Prop
 |opn:isOpen s.mt=true→noLast s→s.st=(s.c+s.mt.pend)*KK'→s.sm=0→(∀k n xs ys,s.mt= .cas k n xs ys→s.c≤k)→Wg s
 |reg:isReg s.mt=true→noLast s→1≤s.c→s.st=s.c*KK'+1→s.sm=0→Wg s
 |last (k:Nat):isReg s.mt=true→k< s.j→1≤(s.ws k).rank→(s.ws k).rank≤3→(∀i,i< s.j→i≠k→(s.ws i).rank=0)→s.st=(if (s.ws k).rank=1 then 0 else 1)→s.sm=0→Wg s
 |sema:isReg s.mt=true→isBlk s.mt=false→allQuit s→s.st=0→s.sm=1→Wg s
 |done:isOpen s.mt=false→isReg s.mt=false→allQuit s→s.st=0→s.sm=0→Wg s
def lots (X:PC L) (s:PS):Lots where
 ro b:=(b< X.E.v0.heap.size∧¬ X.Sh b)∨b=X.M.bT∨b=X.M.bN∨b=X.M.bB
 ow k b:=∃i,i< s.j∧k=X.n0+i∧s.ow i b
 qu b:=b=X.M.wg∨b=X.M.cN∨b=X.M.cB
def isWk (X:PC L) (s:PS) (k:Nat):Prop:=X.n0≤k∧k< X.n0+s.j
abbrev stA' (X:PC L):Addr:=⟨X.M.wg,0,none⟩
structure Tr (X:PC L) (s:PS) (v:World) (t:Trace):Prop where
 tp:TP (lots X s) X.Sh (fun k=>k=0∨isWk X s k) (isWk X s) v.heap.size t
 own: ∀i b,i< s.j→s.ow i b→X.M.wg< b∧b< v.heap.size
 apart: ∀i i' b,i< s.j→i'< s.j→s.ow i b→s.ow i' b→i=i'
 rel: ∀k,k< s.j→(s.ws k).rel=true→∃r,RelBy (stA' X) t (X.n0+k) r
 norel:NoRelease (stA' X) t
 d0:Deaf t 0=s.mt.deaf
 acq: ∀n xs,s.mt= .fin n xs→∃q,t.act? q=some (.mark (.acquire (stA' X)))∧t.g? q=some 0∧t.heard q∧∀k,k< s.j→∃r,RelBy (stA' X) t (X.n0+k) r∧r< q
structure PI (T:Tab) (Goal:Frame→List Frame→World→Prop) (X:PC L) (s:PS) (gs:Array Goroutine) (v:World) (t:Trace):Prop where
 gs:Gs T Goal X s gs v t
 wd:Wd X s v
 ac:Ac X s
 wg:Wg s
 tr:Tr X s v t
end
end Go.Proofs.YtldmcdeibiclkaaGreatDoor.U
end
