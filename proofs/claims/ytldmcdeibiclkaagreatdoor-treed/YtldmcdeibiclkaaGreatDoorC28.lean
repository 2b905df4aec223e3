/-
  Toward: treed_holds, each node's digest is that of its children's, for every argument of Treed. tree.ofSegments BEHIND Wait, beside leavers: what came back is gathered; it returns.
  tree.ofSegments BEHIND Wait: WHOLE.
-/
import Derived.Test.YtldmcdeibiclkaaGreatDoorC27
set_option linter.unusedVariables false
set_option linter.unusedSimpArgs false
set_option maxRecDepth 4000
section
namespace Go.Proofs.YtldmcdeibiclkaaGreatDoor.U
open Go.Conc
open Go.ConcN (upd upd_same upd_ne sumTo sumTo_upd sumTo_congr sumTo_le le_sumTo RelBy)
set_option maxRecDepth 100000
theorem mSl_feed' (M:Mn) {n:Nat} (hn:n=1∨n=4∨n=16∨n=64) (h:M.count=n) (xs:Nat→Value) (cs:List Frame) (j:Int) (r:Nat):feed Pg (pendS (mSl M xs cs j)) [.ref r]=some ([.nw (.cells (Array.replicate n (.int .u64 0)) 44)],.inl (.value (slc r n))):=by
 rcases hn with rfl|rfl|rfl|rfl
 ·exact mSl_feed_1 M h xs cs j r
 ·exact mSl_feed_4 M h xs cs j r
 ·exact mSl_feed_16 M h xs cs j r
 ·exact mSl_feed_64 M h xs cs j r
theorem mRc_self (M:Mn) (xs:Nat→Value) (cs:List Frame) (d n:Nat):gOf (mRc M xs cs d n) (mRc M xs cs d n).frame=mRc M xs cs d n:=by kernel_rfl
theorem wrap_back (f:Int) {i:Nat} (hi:i< 64):IntKind.i64.wrap (IntKind.i64.wrap (f+i) - f)=i:=by
 simp only [IntKind.wrap,IntKind.bits,IntKind.signed]
 simp
 omega
theorem addObj_set2 (v:World) (x y x' y':Value) (τ:TypeId):((addObj v (.cells #[x,y] τ)).setCell ⟨v.heap.size,0,none⟩ x').setCell ⟨v.heap.size,1,none⟩ y'=addObj v (.cells #[x',y'] τ):=by
 unfold addObj World.setCell
 simp only [World.mk.injEq,and_true]
 apply Array.ext
 ·simp
 ·intro i h1 h2
  have h3:i< v.heap.size+1:=by simpa using h2
  simp only [Array.getElem_modify,Array.getElem_push]
  by_cases hi:v.heap.size=i
  ·subst hi;simp
  ·simp [hi,show i< v.heap.size by omega]
section
variable {L:Lim} {T:Tab} {Goal:Frame→List Frame→World→Prop} {X:PC L}
def Sh4 (X:PC L) (b:Nat):Prop:=X.Sh b∨(b=X.M.wg∨b=X.M.cN∨b=X.M.cB)
def Th4 (X:PC L) (B:Nat) (t:Trace):Prop:=Past (ShunB (Sh4 X)) B t
def Ok4 (X:PC L) (B:Nat) (e:Event):Prop:=EvL (ShunB (Sh4 X)) B e
theorem kept4 (X:PC L) (c0:Nat):Kept (Th4 X) (Ok4 X) c0:=by
 refine ⟨fun B B' t fn pos es h hB hes=>(Past.mono h hB).own hes,fun B i t fn pos es hi h hm=>Past.mute h (by omega) hm,fun B t fn pos l hc h hl=>?_⟩
 refine Past.app0 h (fun op hop=>?_) (fun op hop b hb=>?_) ?_ (fun op hop=>?_)
 ·simp only [List.mem_toArray,List.mem_map] at hop
  obtain ⟨a,ha,rfl⟩:=hop;rfl
 ·simp only [List.mem_toArray,List.mem_map] at hop
  obtain ⟨a,ha,rfl⟩:=hop
  rcases hl a ha with ⟨r,cap,rfl⟩|⟨r,rfl⟩|rfl<;> cases hb
 ·refine Deaf_still t 0 _ fun op hop=>?_
  simp only [List.mem_map] at hop
  obtain ⟨a,ha,rfl⟩:=hop
  rcases hl a ha with ⟨r,cap,rfl⟩|⟨r,rfl⟩|rfl<;> exact ⟨by simp,by simp⟩
 ·simp only [List.mem_toArray,List.mem_map] at hop
  obtain ⟨a,ha,rfl⟩:=hop
  rcases hl a ha with ⟨r,cap,rfl⟩|⟨r,rfl⟩|rfl<;> exact hc
theorem ok_cell (X:PC L) {B b o:Nat} (wr:Bool) (hb: ¬ Sh4 X b) (hB:b< B):Ok4 X B ⟨.cell ⟨b,o,none⟩,wr,false⟩:=evL_cell _ wr hb hB
structure Gath (X:PC L) (rest:List Nat) (done:Nat→Prop) (d:Nat) (v:World):Prop where
 old:OldV X.E v
 cB: ∃sB rB,v.heap[X.M.cB]? =some (.chan X.E.n (rest.map X.fnd).toArray true sB rB false)
 low:X.M.wg< d∧d< v.heap.size
 row: ∃C:Array Value,v.heap[d]? =some (.cells C 44)∧C.size=X.E.n∧∀i,done i→C[i]? =some (.int .u64 (X.a i))
 tape:v.tape=X.E.v0.tape
 os:v.os=X.E.v0.os
 output:v.output=X.E.v0.output
theorem gather_one (O:PCOk T Goal X) {N:Nat} (hN:0< N) {i:Nat} (hi:i< X.E.n) {rest:List Nat} {done:Nat→Prop} {d:Nat} {v:World} (xs:Nat→Value) (G:Gath X (i::rest) done d v):
  ∃v' xs',To0 (Th4 X) N (mRc X.M xs X.ds d X.E.n) v (mRc X.M xs' X.ds d X.E.n) v'∧Gath X rest (fun k=>done k∨k=i) d v':=by
 have b1:=O.bT;have b2:=O.cN;have b3:=O.bN;have b4:=O.cB;have b5:=O.bB;have b6:=O.wg
 have K:=kept4 X X.M.cB
 have hn:=O.nn
 obtain ⟨sB,rB,hcB⟩:=G.cB
 have hlow:=G.low
 have hfresh: ∀b,X.M.wg< b→¬ Sh4 X b:=fun b hb h=>by
  rcases h with h|h|h|h
  ·have:=O.sh b h;omega
  all_goals omega
 let s:Int:=IntKind.i64.wrap (X.E.first+i)
 let W1:=v.setChan X.M.cB X.E.n (rest.map X.fnd).toArray true sB (rB+1) false
 have hcl:X.M.cB< v.heap.size:=(Array.getElem?_eq_some_iff.1 hcB).1
 obtain ⟨c1,c2,c3,c4,c5,c6⟩:=setChan_facts v X.M.cB X.E.n (rest.map X.fnd).toArray true sB (rB+1) false hcl
 have c1':W1.heap.size=v.heap.size:=c1
 have e0: ∀dd,stepG Pg true (mRc X.M xs X.ds d X.E.n) (v.at dd)= .comm (mRc X.M xs X.ds d X.E.n) #[rcase X.M.cB zF] true (.recv true) (v.at dd) #[]:=fun dd=>by
  have hc:=AtOp.comm (mRc_op X.M xs X.ds d X.E.n) (mRc_feed X.M xs X.ds d X.E.n) (w:=v.at dd) (w':=v.at dd) (es:=#[]) ⟨rfl,rfl⟩
  rw [seen_empty,mRc_self] at hc
  exact hc
 have s0:To0 (Th4 X) N (mRc X.M xs X.ds d X.E.n) v (mGt X.M xs X.ds d X.E.n s (X.a i)) W1:=To0.recv K hN (mRc_op X.M xs X.ds d X.E.n).2.1 e0 (x:=X.fnd i) (l:=rest.map X.fnd) hcB
 have s1:To0 (Th4 X) N (mGt X.M xs X.ds d X.E.n s (X.a i)) W1 (mAs X.M xs X.ds d X.E.n s (X.a i)) W1:= .glide K hN (mGt_slid X.M xs X.ds d X.E.n s (X.a i)).glide
 let r:=W1.heap.size
 let W2:=addObj W1 (.cells #[.int .i64 0,.int .u64 0] 190)
 let W3:=addObj W1 (.cells #[.int .i64 s,.int .u64 (X.a i)] 190)
 have z2:W2.heap.size=W1.heap.size+1:=addObj_size _ _
 have z3:W3.heap.size=W1.heap.size+1:=addObj_size _ _
 have hrr:X.M.wg< W1.heap.size:=by rw [c1];omega
 have s2:To0 (Th4 X) N (mAs X.M xs X.ds d X.E.n s (X.a i)) W1 (mSs X.M xs X.ds d X.E.n s (X.a i) r) W2:= .op K hN (mAs_op X.M xs X.ds d X.E.n s (X.a i)) (mAs_feed X.M xs X.ds d X.E.n s (X.a i) r) (es:=#[]) (fun dd=>⟨rfl,rfl,rfl⟩) (by omega) (seen_empty _) (fun e he=>by simp at he)
 have g2:W2.heap[r]? =some (.cells #[.int .i64 0,.int .u64 0] 190):=by rw [addObj_get,if_pos rfl]
 have g3:W3.heap[r]? =some (.cells #[.int .i64 s,.int .u64 (X.a i)] 190):=by rw [addObj_get,if_pos rfl]
 have hset:=addObj_set2 W1 (.int .i64 0) (.int .u64 0) (.int .i64 s) (.int .u64 (X.a i)) 190
 have s3:To0 (Th4 X) N (mSs X.M xs X.ds d X.E.n s (X.a i) r) W2 (fin (mSs X.M xs X.ds d X.E.n s (X.a i) r) undef) W3:=by
  refine .skip K hN (mSs_op X.M xs X.ds d X.E.n s (X.a i) r) (mSs_feed X.M xs X.ds d X.E.n s (X.a i) r) (es:=#[⟨.cell ⟨r,0,none⟩,true,false⟩,⟨.cell ⟨r,1,none⟩,true,false⟩]) (es':=#[⟨.cell ⟨r,0,none⟩,true,false⟩,⟨.cell ⟨r,1,none⟩,true,false⟩]) (fun dd=>⟨by simp,by simp,⟨.int .i64 0,by simp [World.cell?,World.at,g2]⟩,by simp [World.frozen?,World.at,g2],by simp,by simp,⟨.int .u64 0,?_⟩,?_,?_,rfl⟩) (by omega) (by rw [mSs_fn];exact seen_st2 _ _) (fun e he=>?_)
  ·simp [World.cell?,World.setCell,World.at,Array.getElem?_modify,g2]
  ·simp [World.frozen?,World.setCell,World.at,Array.getElem?_modify,g2]
  ·show W3.at dd=((W2.setCell ⟨r,0,none⟩ (.int .i64 s)).setCell ⟨r,1,none⟩ (.int .u64 (X.a i))).at dd
   rw [hset]
  ·simp at he
   rcases he with rfl|rfl<;> exact ok_cell X true (hfresh _ hrr) (by omega)
 have s4:To0 (Th4 X) N (fin (mSs X.M xs X.ds d X.E.n s (X.a i) r) undef) W3 (mL0 X.M xs X.ds d X.E.n s (X.a i) r) W3:= .glide K hN (mL0_slid X.M xs X.ds d X.E.n s (X.a i) r).glide
 have s5:To0 (Th4 X) N (mL0 X.M xs X.ds d X.E.n s (X.a i) r) W3 (fin (mL0 X.M xs X.ds d X.E.n s (X.a i) r) (.int .i64 s)) W3:=by
  refine .op K hN (mL0_op X.M xs X.ds d X.E.n s (X.a i) r) (mL0_feed X.M xs X.ds d X.E.n s (X.a i) r (.int .i64 s)) (es:=#[⟨.cell ⟨r,0,none⟩,false,false⟩]) (es':=#[⟨.cell ⟨r,0,none⟩,false,false⟩]) (fun dd=>⟨by simp [World.cell?,World.at,g3],rfl,rfl⟩) (Nat.le_refl _) (by rw [mL0_fn];exact seen_ld _) (fun e he=>?_)
  simp at he;subst he;exact ok_cell X false (hfresh _ hrr) (by omega)
 have s6:To0 (Th4 X) N (fin (mL0 X.M xs X.ds d X.E.n s (X.a i) r) (.int .i64 s)) W3 (mL1 X.M xs X.ds d X.E.n s (X.a i) r) W3:= .glide K hN (mL1_slid X.M xs X.ds d X.E.n s (X.a i) r).glide
 have s7:To0 (Th4 X) N (mL1 X.M xs X.ds d X.E.n s (X.a i) r) W3 (mIx X.M xs X.ds d X.E.n s (X.a i) r) W3:=by
  refine .op K hN (mL1_op X.M xs X.ds d X.E.n s (X.a i) r) (mL1_feed X.M xs X.ds d X.E.n s (X.a i) r (.int .u64 (X.a i))) (es:=#[⟨.cell ⟨r,1,none⟩,false,false⟩]) (es':=#[⟨.cell ⟨r,1,none⟩,false,false⟩]) (fun dd=>⟨by simp [World.cell?,World.at,g3],rfl,rfl⟩) (Nat.le_refl _) (by rw [mL1_fn];exact seen_ld _) (fun e he=>?_)
  simp at he;subst he;exact ok_cell X false (hfresh _ hrr) (by omega)
 have hix:feed Pg (pendS (mIx X.M xs X.ds d X.E.n s (X.a i) r)) []=some ([],.inl (.value (.pointer (some ⟨d,i,none⟩)))):=by
  rw [mIx_pend,O.first,wrap_back X.E.first (by omega)]
  exact index_feed Pg (.inr rfl) hi
 have s8:To0 (Th4 X) N (mIx X.M xs X.ds d X.E.n s (X.a i) r) W3 (mSk X.M xs X.ds d X.E.n s (X.a i) r i) W3:= .op K hN (mIx_op X.M xs X.ds d X.E.n s (X.a i) r) hix (es:=#[]) (fun dd=>⟨rfl,rfl⟩) (Nat.le_refl _) (seen_empty _) (fun e he=>by simp at he)
 obtain ⟨C,hC,hCs,hCd⟩:=G.row
 have h3d:W3.heap[d]? =some (.cells C 44):=by
  rw [addObj_get,if_neg (by rw [c1];omega),c3 d (by omega)];exact hC
 let W4:=W3.setCell ⟨d,i,none⟩ (.int .u64 (X.a i))
 have z4:W4.heap.size=W3.heap.size:=(set_other W3 d i _).1
 have s9:To0 (Th4 X) N (mSk X.M xs X.ds d X.E.n s (X.a i) r i) W3 (fin (mSk X.M xs X.ds d X.E.n s (X.a i) r i) undef) W4:=by
  refine .skip K hN (mSk_op X.M xs X.ds d X.E.n s (X.a i) r i) (mSk_feed X.M xs X.ds d X.E.n s (X.a i) r i) (es:=#[⟨.cell ⟨d,i,none⟩,true,false⟩]) (es':=#[⟨.cell ⟨d,i,none⟩,true,false⟩]) (fun dd=>⟨by simp,by simp,⟨C[i]'(by omega),?_⟩,by simp [World.frozen?,World.at,h3d],rfl,rfl⟩) (by omega) (by rw [mSk_fn];exact seen_st _) (fun e he=>?_)
  ·simp [World.cell?,World.at,h3d,hCs,hi]
  ·simp at he;subst he;exact ok_cell X true (hfresh _ hlow.1) (by omega)
 have s10:=To0.glide (Θ:=Th4 X) (n:=N) (v:=W4) K hN (mRn_slid X.M xs X.ds d X.E.n s (X.a i) r i).glide
 rw [mRn_recv] at s10
 refine ⟨W4,_,s0.trans (s1.trans (s2.trans (s3.trans (s4.trans (s5.trans (s6.trans (s7.trans (s8.trans (s9.trans s10))))))))),?_⟩
 have hoth: ∀b,b≠d→b< v.heap.size→b≠X.M.cB→W4.heap[b]? =v.heap[b]? :=fun b h1 h2 h3=>by
  rw [(set_other W3 d i _).2 b h1,addObj_get,if_neg (by rw [c1];omega),c3 b h3]
 refine ⟨⟨?_,fun b hb=>?_⟩,⟨sB,rB+1,?_⟩,⟨hlow.1,by omega⟩,⟨C.setIfInBounds i (.int .u64 (X.a i)),?_,by simp [hCs],fun k hk=>?_⟩,G.tape,G.os,G.output⟩
 ·have:=G.old.1;omega
 ·have:=G.old.1
  rw [hoth b (by omega) (by omega) (by omega)]
  exact G.old.2 b hb
 ·rw [(set_other W3 d i _).2 _ (by omega),addObj_get,if_neg (by rw [c1];omega)]
  exact c2
 ·show (W3.setCell ⟨d,i,none⟩ (.int .u64 (X.a i))).heap[d]? =_
  simp [World.setCell,Array.getElem?_modify,h3d]
 ·by_cases hki:k=i
  ·subst hki
   rw [Array.getElem?_setIfInBounds_self_of_lt (by omega)]
  ·rw [Array.getElem?_setIfInBounds_ne (Ne.symm hki)]
   exact hCd k (hk.resolve_right hki)
theorem gather (O:PCOk T Goal X) {N:Nat} (hN:0< N) {d:Nat}: ∀(rest:List Nat) (done:Nat→Prop) (v:World) (xs:Nat→Value),(∀i∈rest,i< X.E.n)→Gath X rest done d v→
  ∃v' xs',To0 (Th4 X) N (mRc X.M xs X.ds d X.E.n) v (mRc X.M xs' X.ds d X.E.n) v'∧Gath X [] (fun k=>done k∨k∈rest) d v'
 |[],done,v,xs,_,G=>⟨v,xs,.refl _ _,⟨G.old,G.cB,G.low,by obtain ⟨C,h1,h2,h3⟩:=G.row;exact ⟨C,h1,h2,fun i hi=>h3 i (by simpa using hi)⟩,G.tape,G.os,G.output⟩⟩
 |i::rest,done,v,xs,hr,G=>by
  obtain ⟨v1,xs1,t1,G1⟩:=gather_one O hN (hr i (by simp)) xs G
  obtain ⟨v2,xs2,t2,G2⟩:=gather O hN rest _ v1 xs1 (fun k hk=>hr k (by simp [hk])) G1
  refine ⟨v2,xs2,t1.trans t2,⟨G2.old,G2.cB,G2.low,?_,G2.tape,G2.os,G2.output⟩⟩
  obtain ⟨C,h1,h2,h3⟩:=G2.row
  refine ⟨C,h1,h2,fun k hk=>h3 k ?_⟩
  rcases hk with hk|hk
  ·exact .inl (.inl hk)
  ·rcases List.mem_cons.1 hk with hk|hk
   ·exact .inl (.inr hk)
   ·exact .inr hk
end
end Go.Proofs.YtldmcdeibiclkaaGreatDoor.U
end
section
namespace Go.Proofs.YtldmcdeibiclkaaGreatDoor.U
open Go.Conc
open Go.ConcN (upd upd_same upd_ne sumTo sumTo_upd sumTo_congr sumTo_le le_sumTo RelBy)
set_option maxRecDepth 100000
section
variable {L:Lim} {T:Tab} {Goal:Frame→List Frame→World→Prop} {X:PC L}
structure Back (X:PC L) (d:Nat) (gs:Array Goroutine) (v:World) (t:Trace) (q:Nat→Nat):Prop where
 main:gs[0]? =some {frame:=X.c.finish (slc d X.E.n),callers:=X.cs,status:= .running,dying:=none}
 leavers:Leavers Pg t gs q
 past:Past (ShunB (Sh4 X)) v.heap.size t
 old:OldV X.E v
 low:X.M.wg< d∧d< v.heap.size
 row: ∃C:Array Value,v.heap[d]? =some (.cells C 44)∧C.size=X.E.n∧∀i,i< X.E.n→C[i]? =some (.int .u64 (X.a i))
 tape:v.tape=X.E.v0.tape
 os:v.os=X.E.v0.os
 output:v.output=X.E.v0.output
theorem quit_idle {σ:Wk} (h:σ.rank=0):σ= .quit σ.idle:=by
 cases σ<;> simp [Wk.rank] at h
 rfl
theorem fin_at (O:PCOk T Goal X) {s:PS} {gs:Array Goroutine} {v:World} {t:Trace} (H:PI T Goal X s gs v t) {n:Nat} {xs:Nat→Value} (hmt:s.mt= .fin n xs):
  ∃h q,At0 (Th4 X) gs.size h v gs v t q∧Glide Pg true n h (mLb X.M xs X.ds X.E.n)∧(∀i,i< X.E.n→i∈s.bufB)∧0< gs.size:=by
 have hn0:=O.n0
 have hnW:=O.nW
 obtain ⟨a1,a2,a3⟩:=done_of H.wg (by rw [hmt];rfl) (by rw [hmt];rfl)
 obtain ⟨h,h0,hM⟩:=H.gs.main
 rw [hmt] at hM
 have hj:s.j=X.nW:=by rw [H.ac.on,hmt];rfl
 have hsz:=H.gs.size
 let q:Nat→Nat:=fun i=>if i< X.n0 then s.q i else (s.ws (i - X.n0)).idle
 refine ⟨h,q,⟨h0,⟨v.drawn,rfl⟩,⟨fun i g hi hg=>?_,fun i hi=>H.gs.above i hi⟩,?_,rfl⟩,hM,fun i hi=>?_,by omega⟩
 ·rcases Nat.lt_or_ge i X.n0 with hlt|hge
  ·show QuitsD Pg (if i< X.n0 then s.q i else _) _ g
   rw [if_pos hlt]
   exact H.gs.leav i g hi hlt hg
  ·obtain ⟨k,rfl⟩: ∃k,i=X.n0+k:=⟨i - X.n0,by omega⟩
   have hk:k< s.j:=by have:=(Array.getElem?_eq_some_iff.1 hg).1;omega
   obtain ⟨g',hg',hW⟩:=H.gs.work k hk
   rw [hg] at hg'
   cases hg'
   show QuitsD Pg (if X.n0+k< X.n0 then s.q (X.n0+k) else (s.ws (X.n0+k - X.n0)).idle) _ g
   rw [if_neg (by omega),show X.n0+k - X.n0=k by omega]
   rw [quit_idle (a1 k hk)] at hW
   exact hW
 ·obtain ⟨p,h1,h2,h3,h4⟩:=H.tr.acq n xs hmt
  have hd:Deaf t 0=0:=by rw [H.tr.d0,hmt];rfl
  have:=H.tr.tp.past (ad:=stA' X) (q:=p) (fun k hk=>?_) H.tr.norel h1 h2 h3 hd
  ·exact this
  ·obtain ⟨k',rfl⟩: ∃k',k=X.n0+k':=⟨k - X.n0,by have:=hk.1;omega⟩
   exact h4 k' (by have:=hk.2;omega)
 ·have hg0:=H.ac.gone 0 (by omega) (by rw [a1 0 (by omega)];omega)
  rcases H.ac.cover i (by rw [hmt];exact hi) with hx|hx|⟨k,hk,hx⟩
  ·rw [hg0.2] at hx;cases hx
  ·exact hx
  ·rw [quit_idle (a1 k hk)] at hx;cases hx
theorem phase4 (O:PCOk T Goal X) {s:PS} {gs:Array Goroutine} {v:World} (sl:Option (Nat×Nat)) {t:Trace} (H:PI T Goal X s gs v t) {n:Nat} {xs:Nat→Value} (hmt:s.mt= .fin n xs):
  ∃N d gs' v' sl' t' q',runNT Pg N (crowd gs v sl) t=(.next (crowd gs' v' sl'),t')∧Back X d gs' v' t' q':=by
 have b1:=O.bT;have b2:=O.cN;have b3:=O.bN;have b4:=O.cB;have b5:=O.bB;have b6:=O.wg
 obtain ⟨h,q,hA,hg,hall,hN⟩:=fin_at O H hmt
 have K:=kept4 X X.M.cB
 have hsz:=H.wd.size
 obtain ⟨sB,hcB⟩:=H.wd.cB
 have hnB: ¬ Sh4 X X.M.bB:=fun h=>by
  rcases h with h|h|h|h
  ·have:=O.sh _ h;omega
  all_goals omega
 have s1:To0 (Th4 X) gs.size h v (mLb X.M xs X.ds X.E.n) v:= .glide K hN hg
 have hbox: ∀(w:World),w.heap[X.M.bB]? =v.heap[X.M.bB]? →∀d,(w.at d).cell? ⟨X.M.bB,0,none⟩=some (.chan (some X.M.cB)):=fun w hw d=>by
  have:(w.at d).heap[X.M.bB]? =v.heap[X.M.bB]? :=hw
  simp [World.cell?,this,H.wd.bB]
 have s2:To0 (Th4 X) gs.size (mLb X.M xs X.ds X.E.n) v (mClB X.M xs X.ds X.E.n) v:=by
  refine .op K hN (mLb_op X.M xs X.ds X.E.n) (mLb_feed X.M xs X.ds X.E.n (.chan (some X.M.cB))) (es:=#[⟨.cell ⟨X.M.bB,0,none⟩,false,false⟩]) (es':=#[⟨.cell ⟨X.M.bB,0,none⟩,false,false⟩]) (fun d=>⟨hbox v rfl d,rfl,rfl⟩) (Nat.le_refl _) (by rw [mLb_fn];exact seen_rd _) (fun e he=>?_)
  simp at he;subst he;exact ok_cell X false hnB (by omega)
 let W1:World:={v with heap:=v.heap.setIfInBounds X.M.cB (.chan X.E.n (s.bufB.map X.fnd).toArray true sB 0 false)}
 have z1:W1.heap.size=v.heap.size:=by simp [W1]
 have o1: ∀b,b≠X.M.cB→W1.heap[b]? =v.heap[b]? :=fun b hb=>by simp [W1,Array.getElem?_setIfInBounds_ne (Ne.symm hb)]
 have g1:W1.heap[X.M.cB]? =some (.chan X.E.n (s.bufB.map X.fnd).toArray true sB 0 false):=by
  have:X.M.cB< v.heap.size:=by omega
  simp [W1,this]
 have s3:To0 (Th4 X) gs.size (mClB X.M xs X.ds X.E.n) v (fin (mClB X.M xs X.ds X.E.n) unit) W1:=by
  refine .op K hN (mClB_op X.M xs X.ds X.E.n) (mClB_feed X.M xs X.ds X.E.n X.E.n (s.bufB.map X.fnd).toArray sB 0 false) (es:=#[⟨.obj X.M.cB,false,true⟩,⟨.obj X.M.cB,true,true⟩]) (es':=#[⟨.obj X.M.cB,false,true⟩,⟨.obj X.M.cB,true,true⟩]) (fun d=>⟨hcB,rfl,⟨_,hcB,rfl⟩,rfl,rfl⟩) (by omega) (by rw [mClB_fn];exact seen_cl _) (fun e he=>?_)
  simp at he
  rcases he with rfl|rfl
  ·refine ⟨fun x hx _=>?_,by simp,by simp,show X.M.cB< _ by omega⟩
   simp only [MemAct.ofEvent,MemAct.touch?,Option.some.injEq] at hx
   subst hx;simp
  ·refine ⟨fun x hx _=>?_,by simp,by simp,show X.M.cB< _ by omega⟩
   simp [MemAct.ofEvent,MemAct.touch?] at hx
 have s4:To0 (Th4 X) gs.size (fin (mClB X.M xs X.ds X.E.n) unit) W1 (mSl X.M xs X.ds X.E.n) W1:= .glide K hN (mSl_slid X.M xs X.ds X.E.n).glide
 let d:=W1.heap.size
 let W2:=addObj W1 (.cells (Array.replicate X.E.n (.int .u64 0)) 44)
 have z2:W2.heap.size=W1.heap.size+1:=addObj_size _ _
 have s5:To0 (Th4 X) gs.size (mSl X.M xs X.ds X.E.n) W1 (fin (mSl X.M xs X.ds X.E.n) (slc d X.E.n)) W2:= .op K hN (mSl_op X.M xs X.ds X.E.n) (mSl_feed' X.M O.nn O.count xs X.ds X.E.n d) (es:=#[]) (fun dd=>⟨rfl,rfl,rfl⟩) (by omega) (seen_empty _) (fun e he=>by simp at he)
 have s6:To0 (Th4 X) gs.size (fin (mSl X.M xs X.ds X.E.n) (slc d X.E.n)) W2 (mLb2 X.M xs X.ds X.E.n d X.E.n) W2:= .glide K hN (mLb2_slid X.M xs X.ds X.E.n d X.E.n).glide
 have o2: ∀b,b< v.heap.size→b≠X.M.cB→W2.heap[b]? =v.heap[b]? :=fun b hb hc=>by rw [addObj_get,if_neg (by omega),o1 b hc]
 have s7:To0 (Th4 X) gs.size (mLb2 X.M xs X.ds X.E.n d X.E.n) W2 (fin (mLb2 X.M xs X.ds X.E.n d X.E.n) (.chan (some X.M.cB))) W2:=by
  refine .op K hN (mLb2_op X.M xs X.ds X.E.n d X.E.n) (mLb2_feed X.M xs X.ds X.E.n d X.E.n (.chan (some X.M.cB))) (es:=#[⟨.cell ⟨X.M.bB,0,none⟩,false,false⟩]) (es':=#[⟨.cell ⟨X.M.bB,0,none⟩,false,false⟩]) (fun dd=>⟨hbox W2 (o2 _ (by omega) (by omega)) dd,rfl,rfl⟩) (Nat.le_refl _) (by rw [mLb2_fn];exact seen_rd _) (fun e he=>?_)
  simp at he;subst he;exact ok_cell X false hnB (by omega)
 have s8:=To0.glide (Θ:=Th4 X) (n:=gs.size) (v:=W2) K hN (mRc_slid0 X.M xs X.ds X.E.n d X.E.n).glide
 rw [mRc_first] at s8
 have G0:Gath X s.bufB (fun _=>False) d W2:=by
  refine ⟨⟨by have:=H.wd.old.1;omega,fun b hb=>by have:=H.wd.old.1;rw [o2 b (by omega) (by omega)];exact H.wd.old.2 b hb⟩,⟨sB,0,?_⟩,⟨by show X.M.wg< W1.heap.size;omega,by show W1.heap.size< _;omega⟩,⟨Array.replicate X.E.n (.int .u64 0),by rw [addObj_get,if_pos rfl],by simp,fun i hi=>hi.elim⟩,H.wd.tape,H.wd.os,H.wd.output⟩
  rw [addObj_get,if_neg (by omega)];exact g1
 obtain ⟨v',xs',s9,G⟩:=gather O hN s.bufB _ W2 _ H.ac.okB G0
 obtain ⟨sB',rB',hcl⟩:=G.cB
 have e0: ∀dd,stepG Pg true (mRc X.M xs' X.ds d X.E.n) (v'.at dd)= .comm (mRc X.M xs' X.ds d X.E.n) #[rcase X.M.cB zF] true (.recv true) (v'.at dd) #[]:=fun dd=>by
  have hc:=AtOp.comm (mRc_op X.M xs' X.ds d X.E.n) (mRc_feed X.M xs' X.ds d X.E.n) (w:=v'.at dd) (w':=v'.at dd) (es:=#[]) ⟨rfl,rfl⟩
  rw [seen_empty,mRc_self] at hc
  exact hc
 have s10:To0 (Th4 X) gs.size (mRc X.M xs' X.ds d X.E.n) v' (mZ X.M xs' X.c X.cs d X.E.n) v':=To0.recvEnd K hN (mRc_op X.M xs' X.ds d X.E.n).2.1 e0 hcl
 have s11:=To0.glide (Θ:=Th4 X) (n:=gs.size) (v:=v') K hN (mZ_slid X.M xs' X.c X.cs d X.E.n).glide
 rw [mZ_back] at s11
 have all:=s1.trans (s2.trans (s3.trans (s4.trans (s5.trans (s6.trans (s7.trans (s8.trans (s9.trans (s10.trans s11)))))))))
 obtain ⟨N,gs',u',sl',t',q',hr,hA'⟩:=all gs v sl t q hA
 obtain ⟨dd,rfl⟩:=hA'.world
 obtain ⟨C,r1,r2,r3⟩:=G.row
 exact ⟨N,d,gs',v'.at dd,sl',t',q',hr,hA'.main,hA'.leavers,hA'.trace,G.old,G.low,⟨C,r1,r2,fun i hi=>r3 i (.inr (hall i hi))⟩,G.tape,G.os,G.output⟩
theorem pool_whole (O:PCOk T Goal X) {gs:Array Goroutine} (sl:Option (Nat×Nat)) {t:Trace} {q:Nat→Nat} (h0:gs[0]? =some (m0 X.M X.c X.cs)) (hL:Leavers Pg t gs q) (hP:Past (ShunB X.Sh) X.E.v0.heap.size t) (hsz:gs.size=X.n0):
  ∃N d gs' v' sl' t' q',runNT Pg N (crowd gs X.E.v0 sl) t=(.next (crowd gs' v' sl'),t')∧Back X d gs' v' t' q':=by
 have b1:=O.bT;have b2:=O.cN;have b3:=O.bN;have b4:=O.cB;have b5:=O.bB;have b6:=O.wg
 have hT:Th0 X X.E.v0.heap.size t:=by
  refine ⟨TP.begin hP (fun b hb=>hb.2) (fun k b hb=>?_) (fun b hb=>?_),hP.hears,fun i hi=>?_⟩
  ·rcases hb.2 with h|h|h<;> omega
  ·rcases hb with h|h|h<;> omega
  ·unfold Trace.act? at hi
   obtain ⟨op,hop,ha⟩:=Option.map_eq_some_iff.1 hi
   have hl:=hP.seen op (Array.mem_of_getElem? hop)
   rw [ha] at hl
   have:X.M.wg< X.E.v0.heap.size:=hl
   omega
 obtain ⟨N1,gs1,u1,sl1,t1,q1,r1,H1⟩:=phase0 O gs X.E.v0 sl t q ⟨h0,⟨X.E.v0.drawn,rfl⟩,hL,hT,hsz⟩
 obtain ⟨s,hI⟩:=pool_begin O H1
 obtain ⟨N2,s2,gs2,v2,sl2,t2,r2,H2,n,xs,hmt⟩:=pool_run O _ s gs1 u1 sl1 t1 hI rfl
 obtain ⟨N3,d,gs3,v3,sl3,t3,q3,r3,H3⟩:=phase4 O sl2 H2 hmt
 refine ⟨N1+(N2+N3),d,gs3,v3,sl3,t3,q3,?_,H3⟩
 rw [runNT_add,r1]
 show runNT Pg (N2+N3) (crowd gs1 u1 sl1) t1=_
 rw [runNT_add,r2]
 exact r3
end
end Go.Proofs.YtldmcdeibiclkaaGreatDoor.U
end
