/-
  Toward: treed_holds, each node's digest is that of its children's, for every argument of Treed. THE WORKER (the goroutines that tree.ofSegments starts), STEP BY STEP.
  A WORKER AT A SEGMENT: it asks for the text, sums it, and comes to the digest that the lone one came to.
  THE WORKER's PLACES; orders of its region; trees side by side.
  sync.WaitGroup's Add(1) and Wait, STEP BY STEP, whoever has called them (goroutine 0).
  sync.WaitGroup's Wait, STEP BY STEP, whoever has called it (goroutine 0).
-/
import Derived.Test.YtldmcdeibiclkaaGreatDoorC15
set_option linter.unusedVariables false
set_option linter.unusedSimpArgs false
set_option maxRecDepth 4000
section
namespace Go.Proofs.YtldmcdeibiclkaaGreatDoor.U
open Go.Conc
open Go.ConcN (upd)
set_option maxRecDepth 100000
structure Pl where
 wg:Nat
 bN:Nat
 bB:Nat
 bT:Nat
 cN:Nat
 cB:Nat
noncomputable def gChild (p:Pl):Goroutine:=
 {frame:={(default:Frame) with fn:=Pg.funcs.size,defers:=[{target:= .fn (.func 89) #[ptr p.wg,ptr p.bN,ptr p.bB,ptr p.bT],args:=#[]}],mode:= .panicking [goexitEntry]},callers:=[],status:= .running,dying:=none}
theorem child_slid (p:Pl):Slid Pg false 7 (gChild p):=fun w=>by kernel_rfl
noncomputable def gLoad (p:Pl):Goroutine:=nxN Pg false 7 (gChild p)
theorem load_op (p:Pl):AtOp Pg false (gLoad p):=⟨fun w=>by kernel_rfl,by kernel_rfl,by kernel_rfl⟩
theorem load_feed (p:Pl) (v:Value):feed Pg (pendS (gLoad p)) [.val v]=some ([.ld .plain ⟨p.bN,0,none⟩],.inl (.value v)):=by kernel_rfl
theorem load_seen (p:Pl) (b:Nat):seen Pg (gLoad p).frame.fn #[⟨.cell ⟨b,0,none⟩,false,false⟩]=#[⟨.cell ⟨b,0,none⟩,false,false⟩]:=by kernel_rfl
noncomputable def gLoaded (p:Pl):Goroutine:=gOf (gLoad p) ((gLoad p).frame.finish (.chan (some p.cN)))
theorem loaded_slid (p:Pl):Slid Pg false 5 (gLoaded p):=fun w=>by kernel_rfl
def wTm (p:Pl) (xs:Nat→Value):Array Value:=#[ptr p.wg,ptr p.bN,ptr p.bB,ptr p.bT,xs 4,.chan (some p.cN),xs 6,xs 7,xs 8,xs 9,xs 10,xs 11,xs 12,xs 13,xs 14,xs 15]
def withTm (g:Goroutine) (ts:Array Value):Goroutine:={g with frame:={g.frame with tmps:=ts}}
noncomputable def gRecv (p:Pl) (xs:Nat→Value):Goroutine:=withTm (nxN Pg false 5 (gLoaded p)) (wTm p xs)
theorem recv_first (p:Pl):nxN Pg false 5 (gLoaded p)=gRecv p (fun _=>undef):=by kernel_rfl
theorem recv_op (p:Pl) (xs:Nat→Value):AtOp Pg false (gRecv p xs):=⟨fun w=>by kernel_rfl,by kernel_rfl,by kernel_rfl⟩
def recvCases (p:Pl):Array CommCase:=#[{chan:= .chan (some p.cN),send:=none,zero:= .int .i64 0}]
theorem recv_feed (p:Pl) (xs:Nat→Value):feed Pg (pendS (gRecv p xs)) []=some ([],.inl (.comm (recvCases p) true (.recv true))):=by kernel_rfl
noncomputable def gGot (p:Pl) (xs:Nat→Value) (n:Int):Goroutine:=(gRecv p xs).finishComm Pg (recvCases p) (.recv true) 0 (.int .i64 n) true
theorem got_slid (p:Pl) (xs:Nat→Value) (n:Int):Slid Pg false 11 (gGot p xs n):=fun w=>by kernel_rfl
noncomputable def gDraw0:Goroutine:=nxN Pg false 11 (gGot ⟨0,0,0,0,0,0⟩ (fun _=>undef) 0)
noncomputable def gDraw (p:Pl) (xs:Nat→Value):Goroutine:=withTm (nxN Pg false 11 (gGot p (fun _=>undef) 0)) (wTm p xs)
def gotXs (xs:Nat→Value) (n:Int):Nat→Value:=upd (upd (upd (upd xs 6 (.tuple #[.int .i64 n,.bool true])) 7 (.bool true)) 8 (.int .i64 n)) 4 (.int .i64 n)
theorem got_draw (p:Pl) (xs:Nat→Value) (n:Int):nxN Pg false 11 (gGot p xs n)=gDraw p (gotXs xs n):=by kernel_rfl
noncomputable def opsR:Array Oper:=match gDraw0.frame.todo with| .code (.region _ ops _)::_=>ops|_=>#[]
noncomputable def kR:List Item:=match gDraw0.frame.todo with|_::k=>k|_=>[]
noncomputable def gOps (p:Pl) (xs:Nat→Value) (l:List Nat):Goroutine:={gDraw p xs with frame:={(gDraw p xs).frame with todo:= .inRegion opsR l::kR}}
theorem draw_status (p:Pl) (xs:Nat→Value):(gDraw p xs).status= .running:=by kernel_rfl
theorem draw_step (p:Pl) (xs:Nat→Value) (w:World):stepG Pg false (gDraw p xs) w= .go (gOps p xs (Region.schedule true opsR (w.tape w.drawn (.order 89 4)))) {w with drawn:=w.drawn+1} #[]:=by kernel_rfl
section
variable (p:Pl) (xs:Nat→Value) (rest:List Nat)
theorem op0:AtOp Pg false (gOps p xs (0::rest)):=⟨fun w=>by kernel_rfl,by kernel_rfl,by kernel_rfl⟩
theorem op0_feed (v:Value):feed Pg (pendS (gOps p xs (0::rest))) [.val v]=some ([.ld .plain ⟨p.bB,0,none⟩],.inl (.value v)):=by kernel_rfl
theorem op0_next (v:Value):gOf (gOps p xs (0::rest)) ((gOps p xs (0::rest)).frame.finish v)=gOps p (upd xs 9 v) rest:=by kernel_rfl
theorem op1_slid:Slid Pg false 1 (gOps p xs (1::rest)):=fun w=>by kernel_rfl
theorem op1_next:nx Pg false (gOps p xs (1::rest))=gOps p (upd xs 10 (xs 4)) rest:=by kernel_rfl
theorem op2:AtOp Pg false (gOps p xs (2::rest)):=⟨fun w=>by kernel_rfl,by kernel_rfl,by kernel_rfl⟩
theorem op2_feed (v:Value):feed Pg (pendS (gOps p xs (2::rest))) [.val v]=some ([.ld .plain ⟨p.bT,0,none⟩],.inl (.value v)):=by kernel_rfl
theorem op2_next (v:Value):gOf (gOps p xs (2::rest)) ((gOps p xs (2::rest)).frame.finish v)=gOps p (upd xs 11 v) rest:=by kernel_rfl
theorem op3_slid:Slid Pg false 1 (gOps p xs (3::rest)):=fun w=>by kernel_rfl
theorem op3_next:nx Pg false (gOps p xs (3::rest))=gOps p (upd xs 12 (xs 4)) rest:=by kernel_rfl
theorem op4:AtOp Pg false (gOps p xs (4::rest)):=⟨fun w=>by kernel_rfl,by kernel_rfl,by kernel_rfl⟩
theorem op4_next (v:Value):gOf (gOps p xs (4::rest)) ((gOps p xs (4::rest)).frame.finish v)=gOps p (upd xs 13 v) rest:=by kernel_rfl
theorem op5_next (v:Value):gOf (gOps p xs (5::rest)) ((gOps p xs (5::rest)).frame.finish v)=gOps p (upd xs 14 v) rest:=by kernel_rfl
theorem op6_slid (n d:Int):Slid Pg false 1 (gOps p (upd (upd xs 10 (.int .i64 n)) 14 (.int .u64 d)) (6::rest)):=fun w=>by kernel_rfl
theorem op6_next (n d:Int):nx Pg false (gOps p (upd (upd xs 10 (.int .i64 n)) 14 (.int .u64 d)) (6::rest))=gOps p (upd (upd (upd xs 10 (.int .i64 n)) 14 (.int .u64 d)) 15 (.agg #[.int .i64 n,.int .u64 d])) rest:=by kernel_rfl
theorem op7:AtOp Pg false (gOps p xs (7::rest)):=⟨fun w=>by kernel_rfl,by kernel_rfl,by kernel_rfl⟩
theorem op7_feed:feed Pg (pendS (gOps p xs (7::rest))) []=some ([],.inl (.comm #[{chan:=xs 9,send:=some (xs 15),zero:= .tuple #[]}] true .send)):=by kernel_rfl
end
theorem sent_slid (p:Pl) (xs:Nat→Value):Slid Pg false 5 (gOps p xs []):=fun w=>by kernel_rfl
theorem sent_recv (p:Pl) (xs:Nat→Value):nxN Pg false 5 (gOps p xs [])=gRecv p xs:=by kernel_rfl
noncomputable def gShut (p:Pl) (xs:Nat→Value):Goroutine:=(gRecv p xs).finishComm Pg (recvCases p) (.recv true) 0 (.int .i64 0) false
theorem shut_slid (p:Pl) (xs:Nat→Value):Slid Pg false 10 (gShut p xs):=fun w=>by kernel_rfl
noncomputable def cD (p:Pl) (xs:Nat→Value):Frame:=(nxN Pg false 10 (gShut p xs)).callers.headD default
noncomputable def csD (p:Pl) (xs:Nat→Value):List Frame:=(nxN Pg false 10 (gShut p xs)).callers.tail
theorem shut_add (p:Pl) (xs:Nat→Value):nxN Pg false 10 (gShut p xs)=an0 (cD p xs::csD p xs) p.wg:=by kernel_rfl
theorem back_quits (p:Pl) (xs:Nat→Value):QuitsD Pg 5 0 (back (cD p xs) (csD p xs)):=quits_of 5 0 _ (fun w=>by kernel_rfl) (by kernel_rfl) (by kernel_rfl) (by kernel_rfl)
end Go.Proofs.YtldmcdeibiclkaaGreatDoor.U
end
section
namespace Go.Proofs.YtldmcdeibiclkaaGreatDoor.U
open Go.Conc
open Go.ConcN (upd upd_same upd_ne)
set_option maxRecDepth 100000
theorem op4_pend (p:Pl) (xs:Nat→Value) (rest:List Nat):pendS (gOps p xs (4::rest))=(do let d ← Deferred.ofValue (xs 11) #[xs 12];invoke d.target d.args):=by kernel_rfl
theorem op5_step (p:Pl) (xs:Nat→Value) (rest:List Nat) (w:World):stepG Pg false (gOps p xs (5::rest)) w= .go {frame:=Frame.enter Pg 82 #[xs 13] .normal,callers:=(gOps p xs (5::rest)).frame::(gOps p xs (5::rest)).callers,status:= .running,dying:=none} w #[]:=by kernel_rfl
section
variable {L:Lim} {T:Tab} {Goal:Frame→List Frame→World→Prop}
def OldV (E:Entry L) (v:World):Prop:=E.v0.heap.size≤v.heap.size∧∀s,s< E.v0.heap.size→v.heap[s]? =E.v0.heap[s]?
theorem job_text (A:Lean1 L T Goal) {E:Entry L} (K:EntryOk L E) {i:Nat} {a:Int} (hj:Job Goal E i a) (p:Pl) {xs:Nat→Value} (rest:List Nat) (h11:xs 11=E.y2) (h12:xs 12= .int .i64 (IntKind.i64.wrap (E.first+i))) {v:World} (hv:OldV E v):
  ∃X s g1,stepG Pg false (gOps p xs (4::rest)) v= .go g1 v #[]∧X 7= .int .u64 a∧InCall L T Goal E (qF E 5 0 X) ((gOps p xs (4::rest)).frame::(gOps p xs (4::rest)).callers) (fun _=>False) s g1 v:=by
 obtain ⟨X,w,hs,h4,h7,hk⟩:=hj
 obtain ⟨f,us,us',vs,vs',e1,e2,hf,hn,hT,e⟩:=ghost_text A K 5 (.inr rfl) hs h4
 obtain ⟨d1,d2⟩:=hk.obj K v (fun r s hr=>hv.2 s (K.dom r s hr).2) hv.1
 have hp:=op4_pend p xs rest
 rw [h11,h12,e2] at hp
 obtain ⟨⟨fn,f1,f2,f3⟩,_⟩:=A.stat.let_.bodied f hf
 have hr:(pendS (gOps p xs (4::rest))).runT Pg v #[]=(.ok (.enter f (us'++#[.int .i64 (IntKind.i64.wrap (E.first+i))]++vs')) v,#[]):=by
  rw [hp]
  exact callFunc_run (P:=Pg) f1 f2 f3 _ _ _
 refine ⟨X,⟨_,_,w⟩,_,AtOp.enter (op4 p xs rest) hr rfl,h7,Safe.next hs (A.ngoal rfl) w.tape e,⟨[],rfl⟩,⟨oldT E.ρ,?_,fun r t hx=> .inl (oldT_un.1 hx),fun r t hx=>absurd hx oldT_mine⟩,hk⟩
 exact sim_enter A.stat A.fl hf hn hT (qF E 5 0 X::E.cs++ [wall]) _ K.bi (K.gl A.stat) d1 d2
def Mid (Goal:Frame→List Frame→World→Prop) (E:Entry L) (a:Int) (t:ByteArray):Prop:=∃X w,Safe Qg Goal (qF E 5 2 X) E.cs w∧X 8= .string t∧X 7= .int .u64 a∧Keeps E w
theorem job_mid (A:Lean1 L T Goal) {E:Entry L} {X:Nat→Value} {a:Int} (h7:X 7= .int .u64 a) {x:Value} {w:World} (hs:Safe Qg Goal ((qF E 5 0 X).finish x) E.cs w) (hk:Keeps E w): ∃t,x= .string t∧Mid Goal E a t:=by
 rw [show (qF E 5 0 X).finish x=qF E 5 1 (upd X 8 x) from q4c_fin5 ..] at hs
 obtain ⟨t,rfl⟩:=q5t_str _ _ _ _ _ _ _ (A.isGo hs rfl)
 have r:=A.slide (q5t_sl (.int .i64 E.first) (.int .i64 E.n) E.x2 X E.cs t) (q5t_to (.int .i64 E.first) (.int .i64 E.n) E.x2 X E.cs t) w
 exact ⟨t,rfl,_,w,Safe.run hs r,rfl,h7,hk⟩
theorem job_sum (A:Lean1 L T Goal) {E:Entry L} (K:EntryOk L E) {a:Int} {t:ByteArray} (hm:Mid Goal E a t) (p:Pl) {xs:Nat→Value} (rest:List Nat) (h13:xs 13= .string t) {v:World} (hv:OldV E v):
  ∃X s g1,stepG Pg false (gOps p xs (5::rest)) v= .go g1 v #[]∧X 7= .int .u64 a∧InCall L T Goal E (qF E 5 2 X) ((gOps p xs (5::rest)).frame::(gOps p xs (5::rest)).callers) (fun _=>False) s g1 v:=by
 obtain ⟨X,w,hs,h8,h7,hk⟩:=hm
 have e:=q5s_step (.int .i64 E.first) (.int .i64 E.n) E.x2 X E.cs w
 rw [h8] at e
 have hT:TR L (oldT E.ρ) 82 #[.string t] #[.string t]:=⟨rfl,fun i x y hx hy=>by
  cases i with
  |zero=>
   rw [A.sum.2]
   simp at hx hy
   subst hx hy
   exact VR.string t
  |succ i=>simp at hx⟩
 obtain ⟨d1,d2⟩:=hk.obj K v (fun r s hr=>hv.2 s (K.dom r s hr).2) hv.1
 have e2:=op5_step p xs rest v
 rw [h13] at e2
 refine ⟨X,⟨_,_,w⟩,_,e2,h7,Safe.next hs (A.ngoal rfl) w.tape e,⟨[],rfl⟩,⟨oldT E.ρ,?_,fun r t hx=> .inl (oldT_un.1 hx),fun r t hx=>absurd hx oldT_mine⟩,hk⟩
 exact sim_enter A.stat A.fl A.sum.1 (fun e=>A.noPool (e ▸ A.sum.1)) hT (qF E 5 2 X::E.cs++ [wall]) _ K.bi (K.gl A.stat) d1 d2
theorem job_end (A:Lean1 L T Goal) {E:Entry L} {X:Nat→Value} {a:Int} (h7:X 7= .int .u64 a) {x:Value} {w:World} (hs:Safe Qg Goal ((qF E 5 2 X).finish x) E.cs w):x= .int .u64 a:=by
 rw [q5s_fin] at hs
 generalize hX5:upd X 9 x=X5 at hs
 have f57:X5 7= .int .u64 a:=by rw [← hX5];exact h7
 have f59:X5 9=x:=by rw [← hX5];rfl
 have r10:=A.slide (q10_sl (.int .i64 E.first) (.int .i64 E.n) E.x2 X5 E.cs) (q10_to (.int .i64 E.first) (.int .i64 E.n) E.x2 X5 E.cs) w
 have s9:=Safe.run hs r10
 have u7:upd X5 7 (.int .u64 a)=X5:=by rw [← f57];exact upd_self X5 7
 rw [← u7] at s9
 have r11:=A.slide (q11_sl (.int .i64 E.first) (.int .i64 E.n) E.x2 X5 E.cs a) (q11_to (.int .i64 E.first) (.int .i64 E.n) E.x2 X5 E.cs a) w
 have s10:=Safe.run s9 r11
 rw [u7] at s10
 generalize hX6:upd X5 18 (.bool (decide (a< 0)))=X6 at s10
 have f67:X6 7= .int .u64 a:=by rw [← hX6];exact f57
 have f69:X6 9=x:=by rw [← hX6];exact f59
 have u9:upd X6 9 x=X6:=by rw [← f69];exact upd_self X6 9
 rw [← u9] at s10
 obtain ⟨eb,rfl⟩:=q6_int' _ _ _ _ _ _ _ (A.isGo s10 rfl)
 rw [u9] at s10
 have u79:xsE a eb X6=X6:=by
  unfold xsE
  rw [show upd X6 7 (.int .u64 a)=X6 by rw [← f67];exact upd_self X6 7]
  exact u9
 have r12:=A.slide (q12_sl (.int .i64 E.first) (.int .i64 E.n) E.x2 X6 E.cs a eb) (q12_to (.int .i64 E.first) (.int .i64 E.n) E.x2 X6 E.cs a eb) w
 rw [u79] at r12
 have s11:=Safe.run s10 r12
 have hab:a=eb:=by
  refine Classical.byContradiction fun hne=>?_
  rw [show (!decide (a=eb))=true by simp [hne]] at s11
  have rb:=A.slide (q13_sl (.int .i64 E.first) (.int .i64 E.n) E.x2 (upd X6 19 (.bool (decide (eb< 0)))) E.cs) rfl w
  have sb:=Safe.run s11 rb
  have:=A.isGo (fr:=qBad2 (.int .i64 E.first) (.int .i64 E.n) E.x2 (upd X6 19 (.bool (decide (eb< 0)))) E.cs) sb (q13_fn ..)
  rw [q13_ended] at this
  cases this
 rw [hab]
end
end Go.Proofs.YtldmcdeibiclkaaGreatDoor.U
end
section
namespace Go.Proofs.YtldmcdeibiclkaaGreatDoor.U
open Go.Conc
open Go.ConcN (upd upd_same upd_ne)
set_option maxRecDepth 100000
def allGo (m:Region.Mode) (ops:Array Oper):Nat→Array Bool→List Nat→List (List Nat)
 |0,_,acc=>[acc.reverse]
 |fuel+1,listed,acc=>
  let rs:=(List.range ops.size).filter fun i=>!listed.getD i true && ((ops[i]?).map (·.after.all fun e=>!Region.binds m e||listed.getD e.on false)).getD false
  if rs.isEmpty then [acc.reverse] else rs.flatMap fun i=>allGo m ops fuel (listed.setIfInBounds i true) (i::acc)
theorem go_mem (m:Region.Mode) (ops:Array Oper): ∀(fuel t:Nat) (listed:Array Bool) (acc:List Nat),Region.linearise.go m ops fuel t listed acc∈allGo m ops fuel listed acc
 |0,_,_,acc=>by simp [Region.linearise.go,allGo]
 |fuel+1,t,listed,acc=>by
  simp only [Region.linearise.go,allGo]
  generalize hrs:((List.range ops.size).filter fun i=>!listed.getD i true && ((ops[i]?).map (·.after.all fun e=>!Region.binds m e||listed.getD e.on false)).getD false)=rs
  by_cases h:rs= []
  ·subst h
   simp
  ·have hl:0< rs.length:=List.length_pos_iff.2 h
   have hm:t % rs.length< rs.length:=Nat.mod_lt _ hl
   rw [List.getElem?_eq_getElem hm]
   have he:rs.isEmpty=false:=by simp [h]
   simp only [he,Bool.false_eq_true,if_false,List.mem_flatMap]
   exact ⟨_,List.getElem_mem hm,go_mem m ops fuel _ _ _⟩
def headOk:Nat→List Nat→Bool
 |0,r=>r.contains 7
 |1,r=>r.contains 6
 |2,r=>r.contains 4
 |3,r=>r.contains 4
 |4,r=>!r.contains 2 && !r.contains 3 && r.contains 5
 |5,r=>!r.contains 4 && r.contains 6
 |6,r=>!r.contains 1 && !r.contains 5 && r.contains 7
 |7,r=>r.isEmpty
 |_,_=>false
def good:List Nat→Bool
 |[]=>true
 |j::r=>headOk j r && good r
def whole (l:List Nat):Bool:=good l && (List.range 8).all l.contains && decide (l.length=8)
theorem all_whole:(allGo .any opsR 8 (Array.replicate 8 false) []).all whole=true:=by kernel_rfl
theorem opsR_size:opsR.size=8:=by kernel_rfl
theorem schedule_whole (t:Nat):whole (Region.schedule true opsR t)=true:=by
 have h:Region.schedule true opsR t=Region.linearise .any opsR t:=by simp [Region.schedule]
 rw [h]
 have:=go_mem .any opsR 8 t (Array.replicate 8 false) []
 unfold Region.linearise
 rw [opsR_size]
 exact List.all_eq_true.1 all_whole _ this
section
variable {α:Type} {R:α→α→Prop}
def TStep (R:α→α→Prop) (n:Nat) (f' f:Nat→Option α):Prop:=∃k,k< n∧∃s s',f k=some s∧f' k=some s'∧R s' s∧∀j,j≠k→f' j=f j
theorem tstep_acc: ∀(n:Nat) (f:Nat→Option α),(∀k,k< n→∀s,f k=some s→Acc R s)→Acc (TStep R n) f
 |0,f,_=>Acc.intro _ fun f' ⟨k,hk,_⟩=>absurd hk (by omega)
 |n+1,f,h=>by
  have key: ∀(x:Option α),(∀s,x=some s→Acc R s)→∀f:Nat→Option α,f n=x→(∀k,k< n→∀s,f k=some s→Acc R s)→Acc (TStep R (n+1)) f:=by
   have inner: ∀(x:Option α),(∀s s',x=some s→R s' s→∀f:Nat→Option α,f n=some s'→(∀k,k< n→∀s,f k=some s→Acc R s)→Acc (TStep R (n+1)) f)→∀f:Nat→Option α,Acc (TStep R n) f→f n=x→(∀k,k< n→∀s,f k=some s→Acc R s)→Acc (TStep R (n+1)) f:=by
    intro x hx f ha
    induction ha with
    |intro f _ ih=>
     intro hf hk
     refine Acc.intro _ fun f' hs=>?_
     obtain ⟨k,hkn,s,s',e1,e2,hr,ho⟩:=hs
     by_cases hkk:k=n
     ·subst hkk
      rw [hf] at e1
      refine hx s s' e1 hr f' e2 fun j hj u hu=>hk j hj u (by rw [← ho j (by omega)];exact hu)
     ·refine ih f' ⟨k,by omega,s,s',e1,e2,hr,ho⟩ (by rw [ho n (by omega)];exact hf) fun j hj u hu=>?_
      by_cases hjk:j=k
      ·subst hjk
       rw [e2] at hu
       cases hu
       exact (hk j hj s e1).inv hr
      ·exact hk j hj u (by rw [← ho j hjk];exact hu)
   intro x hx f hf hk
   cases x with
   |none=>exact inner none (fun s s' h=>by cases h) f (tstep_acc n f hk) hf hk
   |some s=>
    have hs:=hx s rfl
    induction hs generalizing f with
    |intro s _ ih=>
     refine inner (some s) (fun s1 s' e hr f' hf' hk'=>?_) f (tstep_acc n f hk) hf hk
     cases e
     exact ih s' hr f' hk' (fun u hu=>by cases hu;exact (hx s rfl).inv hr) hf'
  exact key (f n) (fun s hs=>h n (by omega) s hs) f rfl fun k hk=>h k (by omega)
end
end Go.Proofs.YtldmcdeibiclkaaGreatDoor.U
end
section
namespace Go.Proofs.YtldmcdeibiclkaaGreatDoor.U
open Go.Conc
set_option maxRecDepth 100000
section
variable (c:Frame) (cs:List Frame) (wg:Nat)
def backM:Goroutine:={frame:=c.finish unit,callers:=cs,status:= .running,dying:=none}
def enabledM (g:Goroutine):Goroutine:={g with frame:={g.frame with defers:=[]}}
def ptr1 (b:Nat):Value:= .pointer (some ⟨b,1,none⟩)
noncomputable def ap0:Goroutine:=gIn 88 #[ptr wg,.int .i64 1] (c::cs)
theorem ap0_slid:Slid Pg true 12 (ap0 c cs wg):=fun w=>by kernel_rfl
noncomputable def apDis:Goroutine:=nxN Pg true 12 (ap0 c cs wg)
theorem apDis_step (w:World):stepG Pg true (apDis c cs wg) w= .go (fin (apDis c cs wg) unit) w #[mkE .disable]:=by kernel_rfl
theorem apDis_status:(apDis c cs wg).status= .running:=by kernel_rfl
theorem apDis_slid:Slid Pg true 11 (fin (apDis c cs wg) unit):=fun w=>by kernel_rfl
noncomputable def apBub:Goroutine:=nxN Pg true 11 (fin (apDis c cs wg) unit)
theorem apBub_step (w:World):stepG Pg true (apBub c cs wg) w= .go (fin (apBub c cs wg) (.bool false)) w #[]:=by kernel_rfl
theorem apBub_status:(apBub c cs wg).status= .running:=by kernel_rfl
theorem apBub_slid:Slid Pg true 22 (fin (apBub c cs wg) (.bool false)):=fun w=>by kernel_rfl
noncomputable def apAdd:Goroutine:=nxN Pg true 22 (fin (apBub c cs wg) (.bool false))
theorem apDis_glide:Glide Pg true (11+(1+22)) (fin (apDis c cs wg) unit) (apAdd c cs wg):=(apDis_slid c cs wg).glide.trans ((Glide.one (apBub_status c cs wg) (apBub_step c cs wg)).trans (apBub_slid c cs wg).glide)
theorem apAdd_op:AtOp Pg true (apAdd c cs wg):=⟨fun w=>by kernel_rfl,by kernel_rfl,by kernel_rfl⟩
def more (st:Int):Int:=IntKind.u64.wrap (st+4294967296)
theorem apAdd_feed (st:Int):feed Pg (pendS (apAdd c cs wg)) [.val (.int .u64 st)]=some ([.mk (.extern 148),.ld .atomic ⟨wg,0,none⟩,.st .atomic ⟨wg,0,none⟩ (.int .u64 (more st))],.inl (.value (.int .u64 (more st)))):=by kernel_rfl
theorem apAdd_seen (a:Addr):seen Pg (apAdd c cs wg).frame.fn #[mkE (.extern 148),⟨.cell a,false,true⟩,⟨.cell a,true,true⟩]=#[⟨.cell a,false,true⟩,⟨.cell a,true,true⟩]:=by kernel_rfl
noncomputable def apAdded (st:Int):Goroutine:=fin (apAdd c cs wg) (.int .u64 st)
theorem apCv_slid:Slid Pg true 52 (apAdded c cs wg 4294967296):=fun w=>by kernel_rfl
noncomputable def apCv:Goroutine:=nxN Pg true 52 (apAdded c cs wg 4294967296)
theorem apCv_op:AtOp Pg true (apCv c cs wg):=⟨fun w=>by kernel_rfl,by kernel_rfl,by kernel_rfl⟩
theorem apCv_feed:feed Pg (pendS (apCv c cs wg)) [shWg,shWg]=some ([.shp wg,.shp wg],.inl (.value (ptr1 wg))):=by kernel_rfl
theorem apRd_step (w:World):stepG Pg true (fin (apCv c cs wg) (ptr1 wg)) w= .go (fin (fin (apCv c cs wg) (ptr1 wg)) unit) w #[mkE (.read ⟨wg,1,none⟩)]:=by kernel_rfl
theorem apRd_status:(fin (apCv c cs wg) (ptr1 wg)).status= .running:=by kernel_rfl
theorem apEn1_slid:Slid Pg true 39 (fin (fin (apCv c cs wg) (ptr1 wg)) unit):=fun w=>by kernel_rfl
noncomputable def apEn1:Goroutine:=nxN Pg true 39 (fin (fin (apCv c cs wg) (ptr1 wg)) unit)
theorem apEn1_step (w:World):stepG Pg true (apEn1 c cs wg) w= .go (enabledM (apEn1 c cs wg)) w #[mkE .enable]:=by kernel_rfl
theorem apEn1_status:(apEn1 c cs wg).status= .running:=by kernel_rfl
theorem apEn1_back:Glide Pg true 1 (enabledM (apEn1 c cs wg)) (backM c cs):=Glide.one (by kernel_rfl) fun w=>by kernel_rfl
noncomputable def apEn (st:Int):Goroutine:=nxN Pg true 87 (apAdded c cs wg st)
theorem apEn_slid_8589934592:Slid Pg true 87 (apAdded c cs wg 8589934592):=fun w=>by kernel_rfl
theorem apEn_step_8589934592 (w:World):stepG Pg true (apEn c cs wg 8589934592) w= .go (enabledM (apEn c cs wg 8589934592)) w #[mkE .enable]:=by kernel_rfl
theorem apEn_status_8589934592:(apEn c cs wg 8589934592).status= .running:=by kernel_rfl
theorem apEn_back_8589934592:Glide Pg true 1 (enabledM (apEn c cs wg 8589934592)) (backM c cs):=Glide.one (by kernel_rfl) fun w=>by kernel_rfl
theorem apEn_slid_12884901888:Slid Pg true 87 (apAdded c cs wg 12884901888):=fun w=>by kernel_rfl
theorem apEn_step_12884901888 (w:World):stepG Pg true (apEn c cs wg 12884901888) w= .go (enabledM (apEn c cs wg 12884901888)) w #[mkE .enable]:=by kernel_rfl
theorem apEn_status_12884901888:(apEn c cs wg 12884901888).status= .running:=by kernel_rfl
theorem apEn_back_12884901888:Glide Pg true 1 (enabledM (apEn c cs wg 12884901888)) (backM c cs):=Glide.one (by kernel_rfl) fun w=>by kernel_rfl
theorem apEn_slid_17179869184:Slid Pg true 87 (apAdded c cs wg 17179869184):=fun w=>by kernel_rfl
theorem apEn_step_17179869184 (w:World):stepG Pg true (apEn c cs wg 17179869184) w= .go (enabledM (apEn c cs wg 17179869184)) w #[mkE .enable]:=by kernel_rfl
theorem apEn_status_17179869184:(apEn c cs wg 17179869184).status= .running:=by kernel_rfl
theorem apEn_back_17179869184:Glide Pg true 1 (enabledM (apEn c cs wg 17179869184)) (backM c cs):=Glide.one (by kernel_rfl) fun w=>by kernel_rfl
end
end Go.Proofs.YtldmcdeibiclkaaGreatDoor.U
end
section
namespace Go.Proofs.YtldmcdeibiclkaaGreatDoor.U
open Go.Conc
set_option maxRecDepth 100000
section
variable (c:Frame) (cs:List Frame) (wg:Nat) (xs:Nat→Value)
noncomputable def aw0:Goroutine:=gIn 91 #[ptr wg] (c::cs)
theorem aw0_slid:Slid Pg true 3 (aw0 c cs wg):=fun w=>by kernel_rfl
noncomputable def awDis:Goroutine:=nxN Pg true 3 (aw0 c cs wg)
theorem awDis_step (w:World):stepG Pg true (awDis c cs wg) w= .go (fin (awDis c cs wg) unit) w #[mkE .disable]:=by kernel_rfl
theorem awDis_status:(awDis c cs wg).status= .running:=by kernel_rfl
theorem awDis_slid:Slid Pg true 3 (fin (awDis c cs wg) unit):=fun w=>by kernel_rfl
def xsT (wg:Nat) (xs:Nat→Value):Array Value:=#[ptr wg,xs 1,xs 2,xs 3,xs 4,xs 5,xs 6,xs 7,xs 8,xs 9,xs 10,xs 11,xs 12,xs 13,xs 14,xs 15,xs 16,xs 17,xs 18,xs 19,xs 20,xs 21,xs 22,xs 23,xs 24,xs 25,xs 26,xs 27,xs 28,xs 29,xs 30,xs 31,xs 32,xs 33,xs 34,xs 35,xs 36,xs 37,xs 38,xs 39,xs 40,xs 41,xs 42,xs 43,xs 44,xs 45,xs 46,xs 47,xs 48,xs 49,xs 50,xs 51,xs 52,xs 53,xs 54,xs 55,xs 56,xs 57,xs 58,xs 59,xs 60,xs 61,xs 62,xs 63,xs 64,xs 65,xs 66,xs 67,xs 68,xs 69,xs 70,xs 71,xs 72,xs 73,xs 74,xs 75,xs 76,xs 77,xs 78,xs 79,xs 80,xs 81,xs 82,xs 83]
noncomputable def awHead:Goroutine:={(nxN Pg true 3 (fin (awDis c cs wg) unit)) with frame:={(nxN Pg true 3 (fin (awDis c cs wg) unit)).frame with tmps:=xsT wg xs}}
def xsOf (g:Goroutine):Nat→Value:=fun i=>g.frame.tmps.getD i undef
theorem awHead_first:nxN Pg true 3 (fin (awDis c cs wg) unit)=awHead c cs wg (xsOf (nxN Pg true 3 (fin (awDis c cs wg) unit))):=by kernel_rfl
theorem awHead_slid:Slid Pg true 16 (awHead c cs wg xs):=fun w=>by kernel_rfl
noncomputable def awLd:Goroutine:=nxN Pg true 16 (awHead c cs wg xs)
theorem awLd_op:AtOp Pg true (awLd c cs wg xs):=⟨fun w=>by kernel_rfl,by kernel_rfl,by kernel_rfl⟩
theorem awLd_feed (st:Int):feed Pg (pendS (awLd c cs wg xs)) [.val (.int .u64 st)]=some ([.mk (.extern 149),.ld .atomic ⟨wg,0,none⟩],.inl (.value (.int .u64 st))):=by kernel_rfl
theorem awLd_seen (a:Addr):seen Pg (awLd c cs wg xs).frame.fn #[mkE (.extern 149),⟨.cell a,false,true⟩]=#[⟨.cell a,false,true⟩]:=by kernel_rfl
noncomputable def awSaw (st:Int):Goroutine:=fin (awLd c cs wg xs) (.int .u64 st)
theorem awZ_slid:Slid Pg true 31 (awSaw c cs wg xs 0):=fun w=>by kernel_rfl
noncomputable def awZ:Goroutine:=nxN Pg true 31 (awSaw c cs wg xs 0)
theorem awZ_step (w:World):stepG Pg true (awZ c cs wg xs) w= .go (fin (awZ c cs wg xs) unit) w #[mkE .enable]:=by kernel_rfl
theorem awZ_status:(awZ c cs wg xs).status= .running:=by kernel_rfl
theorem awZc_slid:Slid Pg true 3 (fin (awZ c cs wg xs) unit):=fun w=>by kernel_rfl
noncomputable def awZc:Goroutine:=nxN Pg true 3 (fin (awZ c cs wg xs) unit)
theorem awZc_op:AtOp Pg true (awZc c cs wg xs):=⟨fun w=>by kernel_rfl,by kernel_rfl,by kernel_rfl⟩
theorem awZc_feed:feed Pg (pendS (awZc c cs wg xs)) [shWg,shWg]=some ([.shp wg,.shp wg],.inl (.value (ptr wg))):=by kernel_rfl
theorem awZa_step (w:World):stepG Pg true (fin (awZc c cs wg xs) (ptr wg)) w= .go (fin (fin (awZc c cs wg xs) (ptr wg)) unit) w #[mkE (.acquire ⟨wg,0,none⟩)]:=by kernel_rfl
theorem awZa_status:(fin (awZc c cs wg xs) (ptr wg)).status= .running:=by kernel_rfl
theorem awZb_slid:Slid Pg true 20 (fin (fin (awZc c cs wg xs) (ptr wg)) unit):=fun w=>by kernel_rfl
theorem awZb_back:nxN Pg true 20 (fin (fin (awZc c cs wg xs) (ptr wg)) unit)=backM c cs:=by kernel_rfl
end
end Go.Proofs.YtldmcdeibiclkaaGreatDoor.U
end
