/-
  Toward: treed_holds, each node's digest is that of its children's, for every argument of Treed. THE LONE ONE's tree.ofSegments, WHOLE: what is worked out for each segment, whoever works it out.
  THE LONE ONE's tree.ofSegments, WHOLE: round by round.
-/
import Derived.Test.YtldmcdeibiclkaaGreatDoorC13
set_option linter.unusedVariables false
set_option linter.unusedSimpArgs false
set_option maxRecDepth 4000
section
namespace Go.Proofs.YtldmcdeibiclkaaGreatDoor.U
open Go.Conc
open Go.ConcN (upd upd_same upd_ne)
def oldT (ρ:Nat→Nat→Prop):Tri:=⟨ρ,fun _ _=>False,fun _ _=>False,fun _ _=>False⟩
theorem oldT_un {ρ:Nat→Nat→Prop} {r s:Nat}:(oldT ρ).un r s↔ρ r s:=by simp [oldT,Tri.un]
theorem oldT_mine {ρ:Nat→Nat→Prop} {r s:Nat}: ¬ (oldT ρ).mine r s:=by simp [oldT,Tri.mine]
theorem oldT_fit {ρ:Nat→Nat→Prop} (hb:BiU ρ):Fit (oldT ρ) where
 own:=fun _ _ h=>h.elim
 two:=fun _ _ _ _ h=>h.elim
 two':=fun _ _ _ _ h=>h.elim
 two'':=fun _ _ _ h=>h.elim
 fn:=fun r s t h k=>hb.fn r s t (oldT_un.1 h) (oldT_un.1 k)
 inj:=fun r s t h k=>hb.inj r s t (oldT_un.1 h) (oldT_un.1 k)
section
variable {P:Program} {G:Array Func} {L:Lim} {T:Tab} {ρ:Nat→Nat→Prop} {Goal:Frame→List Frame→World→Prop}
theorem sim_enter (S:Stat P G L T) (hfl:T.fl=false) {f:FuncId} (hf:L.fn f) (hn:f≠T.pool) {xs ys:Array Value} (hT:TR L (oldT ρ) f xs ys) (B D:List Frame) {w v:World} (hb:BiU ρ) (hg: ∀g,g< T.ng→ρ g g) (hd: ∀r s,ρ r s→r< w.heap.size∧s< v.heap.size)
  (ho: ∀r s,ρ r s→∃o q,w.heap[r]? =some o∧v.heap[s]? =some q∧OR L (oldT ρ) o q):
  Sim P G L T (oldT ρ) B D {frame:=Frame.enter (gp P G) f xs .normal,callers:=B,status:= .running,dying:=none} w {frame:=Frame.enter P f ys .normal,callers:=D,status:= .running,dying:=none} v:=by
 refine ⟨⟨.run (FrR.enter S.let_ hf hn hT),⟨rfl,rfl⟩,⟨rfl,rfl⟩,⟨rfl,rfl⟩,[],[],rfl,rfl,.nil _,rfl⟩,oldT_fit hb,⟨fun hx=>(by rw [hfl] at hx;cases hx),hg⟩,fun r s h=>hd r s (oldT_un.1 h),fun r s h=>?_⟩
 obtain ⟨o,q,h1,h2,h3⟩:=ho r s (oldT_un.1 h)
 exact ⟨o,q,h1,h2,KR.ofAll (oldT_fit hb) (oldT_un.1 h) h3⟩
theorem callFunc_run {f:FuncId} {fn:Func} (h1:P.funcs[f]? =some fn) (h2:(fn.name== "runtime.NumGoroutine")=false) (h3:fn.body.isNone=false) (args:Array Value) (w:World) (es:Array Event):(callFunc f args).runT P w es=(.ok (.enter f args) w,es):=by
 unfold callFunc
 show ((Go.program).bind _).runT P w es=_
 rw [Sem.runT_bind']
 simp only [Go.program,Sem.runT,h1,h2,h3,Bool.false_eq_true,if_false]
 rfl
theorem seen_empty (f:FuncId):seen P f #[]=#[]:=by simp [seen]
theorem AtOp.enter {m:Bool} {g:Goroutine} (h:AtOp P m g) {f:FuncId} {args:Array Value} {w:World} (hr:(pendS g).runT P w #[]=(.ok (.enter f args) w,#[])) (hk:(match g.frame.todo with| .call _ true _ _::_=>CallKind.wrapped|_=>CallKind.normal)= .normal):
  stepG P m g w= .go {frame:=Frame.enter P f args .normal,callers:=g.frame::g.callers,status:= .running,dying:=none} w #[]:=by
 rw [h.1 w]
 simp only [stepG.apply,hr,h.2.2,Bool.false_eq_true,if_false,if_true,GStep.after,seen_empty,Array.append_empty]
 exact congrArg (fun k=>GStep.go {frame:=Frame.enter P f args k,callers:=g.frame::g.callers,status:= .running,dying:=none} w) hk
theorem text_cases {τ:Tri} {x y:Value} (hv:VR L τ.all x y) {xs ys:Array Value} (hx:XR (VR L τ.all) xs ys):
  (∃f us us' vs vs',x= .func (.func f) us vs∧y= .func (.func f) us' vs'∧L.clo f∧XR (VR L τ.all) (us++xs++vs) (us'++ys++vs')∧(do let d ← Deferred.ofValue x xs;invoke d.target d.args)=callFunc f (us++xs++vs)∧(do let d ← Deferred.ofValue y ys;invoke d.target d.args)=callFunc f (us'++ys++vs'))
  ∨Doomed (gp P G) (do let d ← Deferred.ofValue x xs;invoke d.target d.args):=by
 cases hv with
 |func us vs hf hu hv'=>exact .inl ⟨_,_,_,_,_,rfl,rfl,hf,XR.append (XR.append ⟨us,rfl,rfl,hu⟩ hx) ⟨vs,rfl,rfl,hv'⟩,rfl,rfl⟩
 |nilFunc=>exact .inr (show Doomed (gp P G) (runtimePanic .nilDeref:Sem Next) from .runtimePanic _)
 |junk s h1 h2 h3=>
  refine .inr ?_
  show Doomed (gp P G) (match (#[Value.nilIface]++xs)[0]? with|some recv=>callMethod recv s ((#[Value.nilIface]++xs).extract 1 (#[Value.nilIface]++xs).size)|_=>stuck "call: a method without a receiver")
  have e:(#[Value.nilIface]++xs)[0]? =some .nilIface:=by rw [Array.getElem?_append_left (by decide)];rfl
  rw [e]
  exact show Doomed (gp P G) (runtimePanic .nilDeref:Sem Next) from .runtimePanic _
 |_=>exact .inr (Doomed.bind' (.stuck _))
theorem doomed_not (K:Let P G L T) {fr:Frame} {cs:List Frame} {w:World} (hs:Safe (gp P G) Goal fr cs w) (hn: ¬ Goal fr cs w) (ho:AtOp (gp P G) true (lg fr cs)) (hk:fr.kind= .normal) (hd:Doomed (gp P G) (pendS (lg fr cs))):False:=by
 obtain ⟨fr1,cs1,w1,es,e,hfi,_⟩:=Safe.goes hs hn w.tape
 have e':stepG (gp P G) true (lg fr cs) w= .go (lg fr1 cs1) w1 es:=e
 rw [ho.1 w] at e'
 obtain ⟨a,es0,hr⟩:=apply_ok (Q:=gp P G) K.ahead K.noStep (fr:=fr) hk e' hfi
 obtain ⟨_,_,_,hr',_⟩:=hd w #[]
 rw [hr] at hr'
 cases hr'
end
structure Lean1 (L:Lim) (T:Tab) (Goal:Frame→List Frame→World→Prop):Prop where
 stat:Stat Tryz.prog Gg L T
 fl:T.fl=false
 pool:T.pool=fQ
 noPool: ¬ L.fn T.pool
 goal: ∀fr cs w,Goal fr cs w→cs= []∧fr.fn≠fQ
 sum:L.fn 82∧L.col 82 0= .any
structure Entry (L:Lim) where
 first:Int
 n:Nat
 x2:Value
 y2:Value
 ρ:Nat→Nat→Prop
 w0:World
 v0:World
 cs:List Frame
structure EntryOk (L:Lim) (E:Entry L):Prop where
 bi:BiU E.ρ
 dom: ∀r s,E.ρ r s→r< E.w0.heap.size∧s< E.v0.heap.size
 obj: ∀r s,E.ρ r s→∃o q,E.w0.heap[r]? =some o∧E.v0.heap[s]? =some q∧OR L (oldT E.ρ) o q
 txt:VR L E.ρ E.x2 E.y2
 glob: ∀g,g< Tryz.prog.globals.size→E.ρ g g
theorem EntryOk.gl {L:Lim} {T:Tab} {E:Entry L} (K:EntryOk L E) (S:Stat Tryz.prog Gg L T): ∀g,g< T.ng→E.ρ g g:=fun g h=>K.glob g (by rw [S.globals];exact h)
section
variable {L:Lim} {T:Tab} {Goal:Frame→List Frame→World→Prop} {E:Entry L}
def Keeps (E:Entry L) (w:World):Prop:=E.w0.heap.size≤w.heap.size∧∀r,r< E.w0.heap.size→w.heap[r]? =E.w0.heap[r]?
noncomputable abbrev qF (E:Entry L) (id n:Nat) (xs:Nat→Value):Frame:=frQ id n (qT (.int .i64 E.first) (.int .i64 E.n) E.x2 xs)
theorem qF_fn (E:Entry L) (id n:Nat) (xs:Nat→Value):(qF E id n xs).fn=fQ:=rfl
theorem Keeps.obj {w:World} (K:EntryOk L E) (h:Keeps E w) (v:World) (hv: ∀r s,E.ρ r s→v.heap[s]? =E.v0.heap[s]?) (hvs:E.v0.heap.size≤v.heap.size):(∀r s,E.ρ r s→r< w.heap.size∧s< v.heap.size)∧∀r s,E.ρ r s→∃o q,w.heap[r]? =some o∧v.heap[s]? =some q∧OR L (oldT E.ρ) o q:=by
 refine ⟨fun r s hr=>?_,fun r s hr=>?_⟩
 ·have:=K.dom r s hr;have:=h.1;omega
 ·obtain ⟨o,q,h1,h2,h3⟩:=K.obj r s hr
  exact ⟨o,q,by rw [h.2 r (K.dom r s hr).1];exact h1,by rw [hv r s hr];exact h2,h3⟩
theorem Lean1.ngoal (A:Lean1 L T Goal) {fr:Frame} {cs:List Frame} {w:World} (h:fr.fn=fQ): ¬ Goal fr cs w:=fun hg=>(A.goal _ _ _ hg).2 h
theorem Lean1.isGo (A:Lean1 L T Goal) {fr:Frame} {cs:List Frame} {w:World} (h:Safe Qg Goal fr cs w) (hf:fr.fn=fQ):isGo (stepG Qg true (lg fr cs) w)=true:=by
 obtain ⟨fr1,cs1,w1,es,e,_⟩:=Safe.goes h (A.ngoal hf) w.tape
 have e':stepG Qg true (lg fr cs) w= .go (lg fr1 cs1) w1 es:=e
 rw [e']
 rfl
theorem ghost_text (A:Lean1 L T Goal) (K:EntryOk L E) (id:Nat) (hid:id=4∨id=5) {xs:Nat→Value} {w:World} (hs:Safe Qg Goal (qF E id 0 xs) E.cs w) {m:Int} (h4:xs 4= .int .i64 m):
  ∃f us us' vs vs',E.x2= .func (.func f) us vs∧E.y2= .func (.func f) us' vs'∧L.fn f∧f≠T.pool∧TR L (oldT E.ρ) f (us++#[.int .i64 m]++vs) (us'++#[.int .i64 m]++vs')∧
   stepG Qg true (lg (qF E id 0 xs) E.cs) w= .go (lg (Frame.enter Qg f (us++#[.int .i64 m]++vs) .normal) (qF E id 0 xs::E.cs)) w #[]:=by
 have hop:=q4c_op (.int .i64 E.first) (.int .i64 E.n) E.x2 xs E.cs id hid
 have hpend:=q4c_pend (.int .i64 E.first) (.int .i64 E.n) E.x2 xs E.cs id hid
 rw [h4] at hpend
 rcases text_cases (P:=Tryz.prog) (G:=Gg) (L:=L) (τ:=oldT E.ρ) K.txt (xs:=#[.int .i64 m]) (ys:=#[.int .i64 m]) (XR.push (xs:=#[]) (ys:=#[]) XR.nil (.int _ _)) with ⟨f,us,us',vs,vs',e1,e2,hf,hx,e3,e4⟩|hd
 ·obtain ⟨h1,h2,h3⟩:=A.stat.let_.tab.clo f hf
  have hnp:f≠T.pool:=fun e=>A.noPool (e ▸ h1)
  refine ⟨f,us,us',vs,vs',e1,e2,h1,hnp,TR.ofAny h2 hx,?_⟩
  obtain ⟨_,⟨gn,g1,g2,g3⟩⟩:=A.stat.let_.bodied f h1
  have hr:(pendS (lg (qF E id 0 xs) E.cs)).runT Qg w #[]=(.ok (.enter f (us++#[.int .i64 m]++vs)) w,#[]):=by
   rw [hpend,e3]
   exact callFunc_run (P:=Qg) g1 g2 g3 _ _ _
  refine AtOp.enter hop hr ?_
  rcases hid with rfl|rfl<;> rfl
 ·exact (doomed_not A.stat.let_ hs (A.ngoal (qF_fn E id 0 xs)) hop rfl (by rw [hpend];exact hd)).elim
theorem ghost_texted (A:Lean1 L T Goal) (K:EntryOk L E) (id:Nat) (hid:id=4∨id=5) {xs:Nat→Value} {w:World} (hs:Safe Qg Goal (qF E id 0 xs) E.cs w) {m:Int} (h4:xs 4= .int .i64 m) (hk:Keeps E w):
  ∃x w',Run Qg Goal (qF E id 0 xs) E.cs w ((qF E id 0 xs).finish x) E.cs w'∧w.heap.size≤w'.heap.size∧∀r,r< w.heap.size→w'.heap[r]? =w.heap[r]? :=by
 obtain ⟨f,us,us',vs,vs',_,_,hf,hn,hT,e⟩:=ghost_text A K id hid hs h4
 have hs1:=Safe.next hs (A.ngoal (qF_fn E id 0 xs)) w.tape e
 obtain ⟨d1,d2⟩:=hk.obj K E.v0 (fun _ _ _=>rfl) (Nat.le_refl _)
 have hS:=sim_enter A.stat A.fl hf hn hT (qF E id 0 xs::E.cs++ [wall]) [] K.bi (K.gl A.stat) d1 d2
 obtain ⟨x,w',r1,r2,r3⟩:=sub_call (cs:=E.cs) (frQ:=qF E id 0 xs) (D:=[]) (B0:=w.heap.size) (w0:=w) A.stat A.noPool (fun fr cs w hg=>(A.goal fr cs w hg).1) hs1 [] (oldT E.ρ) _ E.v0 rfl hS (fun r s hx=>absurd hx oldT_mine) (Nat.le_refl _) (fun _ _=>rfl)
 exact ⟨x,w',.step w.tape _ (A.ngoal (qF_fn E id 0 xs)) e r1,r2,r3⟩
theorem ghost_summed (A:Lean1 L T Goal) (K:EntryOk L E) {fr:Frame} (hfr:fr.fn=fQ) {t:ByteArray} {w:World} (hs:Safe Qg Goal fr E.cs w) (hk:Keeps E w)
  (e:stepG Qg true (lg fr E.cs) w= .go (lg (Frame.enter Qg 82 #[.string t] .normal) (fr::E.cs)) w #[]):
  ∃x w',Run Qg Goal fr E.cs w (fr.finish x) E.cs w'∧w.heap.size≤w'.heap.size∧∀r,r< w.heap.size→w'.heap[r]? =w.heap[r]? :=by
 have hs1:=Safe.next hs (A.ngoal hfr) w.tape e
 obtain ⟨d1,d2⟩:=hk.obj K E.v0 (fun _ _ _=>rfl) (Nat.le_refl _)
 have hT:TR L (oldT E.ρ) 82 #[.string t] #[.string t]:=⟨rfl,fun i x y hx hy=>by
  cases i with
  |zero=>
   rw [A.sum.2]
   simp at hx hy
   subst hx hy
   exact VR.string t
  |succ i=>simp at hx⟩
 have hS:=sim_enter A.stat A.fl A.sum.1 (fun e=>A.noPool (e ▸ A.sum.1)) hT (fr::E.cs++ [wall]) [] K.bi (K.gl A.stat) d1 d2
 obtain ⟨x,w',r1,r2,r3⟩:=sub_call (cs:=E.cs) (frQ:=fr) (D:=[]) (B0:=w.heap.size) (w0:=w) A.stat A.noPool (fun fr cs w hg=>(A.goal fr cs w hg).1) hs1 [] (oldT E.ρ) _ E.v0 rfl hS (fun r s hx=>absurd hx oldT_mine) (Nat.le_refl _) (fun _ _=>rfl)
 exact ⟨x,w',.step w.tape _ (A.ngoal hfr) e r1,r2,r3⟩
end
end Go.Proofs.YtldmcdeibiclkaaGreatDoor.U
end
section
namespace Go.Proofs.YtldmcdeibiclkaaGreatDoor.U
open Go.Conc
open Go.ConcN (upd upd_same upd_ne)
theorem index_unfold (Q:Program) (hQ:Q=Qg∨Q=Tryz.prog) (d n k:Nat):feed Q (Instr.indexAt 147 (slcQ d n) (.int .i64 k) >>=fun v=>(pure (.value v):Sem Next)) []=
  feed Q (Sem.bind (if (0:Int)≤(k:Int)∧(k:Int)< (n:Int) then (Sem.bind (Go.sizeOf 44) fun s=>Sem.pure (.pointer (some ((⟨d,0,none⟩:Addr).add ((k:Int).toNat*s))))) else (if (decide (n≤1) && false)=true then unsupported (.noEntry "op/indexAddr.an index out of range at an array of length 0 or 1 (ledger 616)") else boundsPanic .i64 k n .index)) fun v=>(Sem.pure (Next.value v):Sem Next)) []:=by
 rcases hQ with rfl|rfl
 ·kernel_rfl
 ·kernel_rfl
theorem index_feed' (Q:Program) (hQ:Q=Qg∨Q=Tryz.prog) (d k:Nat):feed Q (Sem.bind (Sem.bind (Go.sizeOf 44) fun s=>Sem.pure (.pointer (some ((⟨d,0,none⟩:Addr).add ((k:Int).toNat*s))))) fun v=>(Sem.pure (Next.value v):Sem Next)) []=some ([],.inl (.value (.pointer (some ((⟨d,0,none⟩:Addr).add ((k:Int).toNat*1)))))):=by
 rcases hQ with rfl|rfl
 ·kernel_rfl
 ·kernel_rfl
theorem index_feed (Q:Program) (hQ:Q=Qg∨Q=Tryz.prog) {d n k:Nat} (h:k< n):feed Q (Instr.indexAt 147 (slcQ d n) (.int .i64 k) >>=fun v=>(pure (.value v):Sem Next)) []=some ([],.inl (.value (.pointer (some ⟨d,k,none⟩)))):=by
 rw [index_unfold Q hQ,if_pos ⟨by omega,by omega⟩,index_feed' Q hQ]
 have e:(⟨d,0,none⟩:Addr).add ((k:Int).toNat*1)=⟨d,k,none⟩:=by
  unfold Addr.add
  split
  ·rename_i h0;simp at h0;subst h0;rfl
  ·simp
 rw [e]
section
variable {L:Lim} {T:Tab} {Goal:Frame→List Frame→World→Prop} {E:Entry L}
def Job (Goal:Frame→List Frame→World→Prop) (E:Entry L) (i:Nat) (a:Int):Prop:=
 ∃xs w,Safe Qg Goal (qF E 5 0 xs) E.cs w∧xs 4= .int .i64 (IntKind.i64.wrap (E.first+i))∧xs 7= .int .u64 a∧Keeps E w
structure HeadAt (Goal:Frame→List Frame→World→Prop) (E:Entry L) (i:Nat) (a:Nat→Int) (d:Nat) (xs:Nat→Value) (w:World):Prop where
 safe:Safe Qg Goal (qF E 2 0 (upd xs 3 (.int .i64 i))) E.cs w
 row:xs 6=slcQ d E.n
 keeps:Keeps E w
 new:E.w0.heap.size≤d
 blk: ∃C:Array Value,w.heap[d]? =some (.cells C 44)∧C.size=E.n∧∀k,k< i→C[k]? =some (.int .u64 (a k))
 jobs: ∀k,k< i→Job Goal E k (a k)
theorem Lean1.slide (A:Lean1 L T Goal) {n:Nat} {fr fr':Frame} {cs:List Frame} (h:SlQ Qg fQ n fr cs) (he:(nxN Qg true n (lg fr cs)).frame=fr') (w:World):Run Qg Goal fr cs w fr' cs w:=
 h.run (fun fr cs w hg=>(A.goal fr cs w hg).2) he w
theorem Keeps.later (A:Lean1 L T Goal) {w w':World} (h:Keeps E w) (hs:w.heap.size≤w'.heap.size) (hw: ∀r,r< w.heap.size→w'.heap[r]? =w.heap[r]?):Keeps E w':=by
 have _:=A
 exact ⟨Nat.le_trans h.1 hs,fun r hr=>by rw [hw r (Nat.lt_of_lt_of_le hr h.1),h.2 r hr]⟩
theorem wrap_small {k:Int} (h0:0≤k) (h1:k< 9223372036854775808):IntKind.i64.wrap k=k:=by
 simp only [IntKind.wrap,IntKind.bits,IntKind.signed]
 simp
 omega
theorem head_step (A:Lean1 L T Goal) (K:EntryOk L E) {i:Nat} {a:Nat→Int} {d:Nat} {xs:Nat→Value} {w:World} (H:HeadAt Goal E i a d xs w) (hi:i< E.n) (hn:E.n≤64):
  ∃e xs' w',Run Qg Goal (qF E 2 0 (upd xs 3 (.int .i64 i))) E.cs w (qF E 2 0 (upd xs' 3 (.int .i64 ((i+1:Nat):Int)))) E.cs w'∧HeadAt Goal E (i+1) (upd a i e) d xs' w':=by
 have hin:decide ((i:Int)< (E.n:Int))=true:=by simp;omega
 have r1:=A.slide (q6_sl (.int .i64 E.first) E.x2 E.n i xs E.cs) (q6_to (.int .i64 E.first) E.x2 E.n i xs E.cs) w
 rw [hin] at r1
 have r2:=A.slide (q7_sl (.int .i64 E.n) E.x2 E.first i xs E.cs) (q7_to (.int .i64 E.n) E.x2 E.first i xs E.cs) w
 generalize hX1:upd (upd (upd xs 3 (.int .i64 i)) 14 (.bool true)) 4 (.int .i64 (IntKind.i64.wrap (E.first+i)))=X1 at r2
 have f14:X1 4= .int .i64 (IntKind.i64.wrap (E.first+i)):=by rw [← hX1];rfl
 have f13:X1 3= .int .i64 i:=by rw [← hX1];rfl
 have f16:X1 6=slcQ d E.n:=by rw [← hX1];exact H.row
 have s1:Safe Qg Goal (qF E 4 0 X1) E.cs w:=Safe.run H.safe (r1.trans r2)
 obtain ⟨x,w1,r3,z1,o1⟩:=ghost_texted A K 4 (.inl rfl) s1 f14 H.keeps
 rw [show (qF E 4 0 X1).finish x=qF E 4 1 (upd X1 5 x) from q4c_fin4 ..] at r3
 have s2:=Safe.run s1 r3
 obtain ⟨t,rfl⟩:=q4t_str _ _ _ _ _ _ _ (A.isGo s2 rfl)
 have r4:=A.slide (q4t_sl (.int .i64 E.first) (.int .i64 E.n) E.x2 X1 E.cs t) (q4t_to (.int .i64 E.first) (.int .i64 E.n) E.x2 X1 E.cs t) w1
 have s3:=Safe.run s2 r4
 have k1:=H.keeps.later A z1 o1
 obtain ⟨dv,w2,r5,z2,o2⟩:=ghost_summed A K (fr:=qF E 4 2 (upd (upd X1 5 (.string t)) 18 (strLt t))) rfl s3 k1 (q4s_step ..)
 rw [q4s_fin] at r5
 have s4:=Safe.run s3 r5
 have r6:=A.slide (q9_sl (.int .i64 E.first) (.int .i64 E.n) E.x2 (upd (upd (upd X1 5 (.string t)) 18 (strLt t)) 7 dv) E.cs) (q9_to (.int .i64 E.first) (.int .i64 E.n) E.x2 (upd (upd (upd X1 5 (.string t)) 18 (strLt t)) 7 dv) E.cs) w2
 generalize hX3:upd (upd (upd X1 5 (.string t)) 18 (strLt t)) 7 dv=X3 at r5 r6 s4
 have f34:X3 4= .int .i64 (IntKind.i64.wrap (E.first+i)):=by rw [← hX3];exact f14
 have f33:X3 3= .int .i64 i:=by rw [← hX3];exact f13
 have f36:X3 6=slcQ d E.n:=by rw [← hX3];exact f16
 have f37:X3 7=dv:=by rw [← hX3];rfl
 have s5:Safe Qg Goal (qF E 5 0 X3) E.cs w2:=Safe.run s4 r6
 have k2:=k1.later A z2 o2
 obtain ⟨x',w3,r7,z3,o3⟩:=ghost_texted A K 5 (.inr rfl) s5 f34 k2
 rw [show (qF E 5 0 X3).finish x'=qF E 5 1 (upd X3 8 x') from q4c_fin5 ..] at r7
 have s6:=Safe.run s5 r7
 obtain ⟨t',rfl⟩:=q5t_str _ _ _ _ _ _ _ (A.isGo s6 rfl)
 have r8:=A.slide (q5t_sl (.int .i64 E.first) (.int .i64 E.n) E.x2 X3 E.cs t') (q5t_to (.int .i64 E.first) (.int .i64 E.n) E.x2 X3 E.cs t') w3
 have s7:=Safe.run s6 r8
 have k3:=k2.later A z3 o3
 obtain ⟨ev,w4,r9,z4,o4⟩:=ghost_summed A K (fr:=qF E 5 2 (upd (upd X3 8 (.string t')) 18 (strLt t'))) rfl s7 k3 (q5s_step ..)
 rw [q5s_fin] at r9
 have s8:=Safe.run s7 r9
 have k4:=k3.later A z4 o4
 generalize hX5:upd (upd (upd X3 8 (.string t')) 18 (strLt t')) 9 ev=X5 at r9 s8
 have f57:X5 7=dv:=by rw [← hX5];exact f37
 have f59:X5 9=ev:=by rw [← hX5];rfl
 have f56:X5 6=slcQ d E.n:=by rw [← hX5];exact f36
 have f53:X5 3= .int .i64 i:=by rw [← hX5];exact f33
 have r10:=A.slide (q10_sl (.int .i64 E.first) (.int .i64 E.n) E.x2 X5 E.cs) (q10_to (.int .i64 E.first) (.int .i64 E.n) E.x2 X5 E.cs) w4
 have s9:=Safe.run s8 r10
 have u7:upd X5 7 dv=X5:=by rw [← f57];exact upd_self X5 7
 rw [← u7] at r10 s9
 obtain ⟨ea,rfl⟩:=q6_int _ _ _ _ _ _ _ (A.isGo s9 rfl)
 have r11:=A.slide (q11_sl (.int .i64 E.first) (.int .i64 E.n) E.x2 X5 E.cs ea) (q11_to (.int .i64 E.first) (.int .i64 E.n) E.x2 X5 E.cs ea) w4
 have s10:=Safe.run s9 r11
 rw [u7] at r10 r11 s10
 generalize hX6:upd X5 18 (.bool (decide (ea< 0)))=X6 at r11 s10
 have f67:X6 7= .int .u64 ea:=by rw [← hX6];exact f57
 have f69:X6 9=ev:=by rw [← hX6];exact f59
 have f66:X6 6=slcQ d E.n:=by rw [← hX6];exact f56
 have f63:X6 3= .int .i64 i:=by rw [← hX6];exact f53
 have u9:upd X6 9 ev=X6:=by rw [← f69];exact upd_self X6 9
 rw [← u9] at s10
 obtain ⟨eb,rfl⟩:=q6_int' _ _ _ _ _ _ _ (A.isGo s10 rfl)
 rw [u9] at s10
 have u79:xsE ea eb X6=X6:=by
  unfold xsE
  rw [show upd X6 7 (.int .u64 ea)=X6 by rw [← f67];exact upd_self X6 7]
  exact u9
 have r12:=A.slide (q12_sl (.int .i64 E.first) (.int .i64 E.n) E.x2 X6 E.cs ea eb) (q12_to (.int .i64 E.first) (.int .i64 E.n) E.x2 X6 E.cs ea eb) w4
 rw [u79] at r12
 have s11:=Safe.run s10 r12
 have hab:ea=eb:=by
  refine Classical.byContradiction fun hne=>?_
  rw [show (!decide (ea=eb))=true by simp [hne]] at s11
  have rb:=A.slide (q13_sl (.int .i64 E.first) (.int .i64 E.n) E.x2 (upd X6 19 (.bool (decide (eb< 0)))) E.cs) rfl w4
  have sb:=Safe.run s11 rb
  have:=A.isGo (fr:=qBad2 (.int .i64 E.first) (.int .i64 E.n) E.x2 (upd X6 19 (.bool (decide (eb< 0)))) E.cs) sb (q13_fn ..)
  rw [q13_ended] at this
  cases this
 subst hab
 rw [show (!decide (ea=ea))=false by simp] at r12 s11
 have r13:=A.slide (q14_sl (.int .i64 E.first) (.int .i64 E.n) E.x2 (upd X6 19 (.bool (decide (ea< 0)))) E.cs) (q14_to (.int .i64 E.first) (.int .i64 E.n) E.x2 (upd X6 19 (.bool (decide (ea< 0)))) E.cs) w4
 have s12:=Safe.run s11 r13
 generalize hX7:upd (upd X6 19 (.bool (decide (ea< 0)))) 15 (.bool false)=X7 at r12 r13 s11 s12
 have f76:X7 6=slcQ d E.n:=by rw [← hX7];exact f66
 have f73:X7 3= .int .i64 i:=by rw [← hX7];exact f63
 have f79:X7 9= .int .u64 ea:=by rw [← hX7];exact f69
 have e14:stepG Qg true (lg (qF E 7 0 X7) E.cs) w4= .go (lg (qF E 7 1 (upd X7 18 (.pointer (some ⟨d,i,none⟩)))) E.cs) w4 #[]:=by
  have hp:=q15_pend (.int .i64 E.first) (.int .i64 E.n) E.x2 X7 E.cs
  rw [f76,f73] at hp
  have:=AtOp.value (q15_op (.int .i64 E.first) (.int .i64 E.n) E.x2 X7 E.cs) (rs:=[]) (ds:=[]) (v:= .pointer (some ⟨d,i,none⟩)) (by rw [hp];exact index_feed Qg (.inl rfl) hi) (w:=w4) (w':=w4) (es:=#[]) ⟨rfl,rfl⟩
  rw [this,seen_empty]
  show GStep.go (gOf _ ((qF E 7 0 X7).finish _)) w4 #[]=_
  rw [q15_fin]
  rfl
 have s13:=Safe.next s12 (A.ngoal rfl) w4.tape e14
 have r14:Run Qg Goal (qF E 7 0 X7) E.cs w4 (qF E 7 1 (upd X7 18 (.pointer (some ⟨d,i,none⟩)))) E.cs w4:= .step w4.tape _ (A.ngoal rfl) e14 (.refl _ _ _)
 obtain ⟨C,hC,hCs,hCk⟩:=H.blk
 have hdl:d< w.heap.size:=(Array.getElem?_eq_some_iff.1 hC).1
 have hC4:w4.heap[d]? =some (.cells C 44):=by rw [o4 d (by omega),o3 d (by omega),o2 d (by omega),o1 d hdl];exact hC
 have hcell:w4.cell? ⟨d,i,none⟩=C[i]? :=by simp [World.cell?,hC4]
 have hfz:w4.frozen? ⟨d,i,none⟩=false:=by simp [World.frozen?,hC4]
 have e15:stepG Qg true (lg (qF E 7 1 (upd X7 18 (.pointer (some ⟨d,i,none⟩)))) E.cs) w4= .go (lg (qF E 7 2 (upd X7 18 (.pointer (some ⟨d,i,none⟩)))) E.cs) (w4.setCell ⟨d,i,none⟩ (.int .u64 ea)) (seen Qg fQ #[⟨.cell ⟨d,i,none⟩,true,false⟩]):=by
  have:=AtOp.skip (q16_op (.int .i64 E.first) (.int .i64 E.n) E.x2 X7 E.cs (.pointer (some ⟨d,i,none⟩))) (q16_feed (.int .i64 E.first) (.int .i64 E.n) E.x2 X7 E.cs d i ea f79) (w:=w4) (w':=w4.setCell ⟨d,i,none⟩ (.int .u64 ea)) (es:=#[⟨.cell ⟨d,i,none⟩,true,false⟩])
   ⟨by simp,by simp,⟨C[i]'(by omega),by rw [hcell];simp⟩,hfz,rfl,rfl⟩
  rw [this]
  show GStep.go (gOf _ ((qF E 7 1 (upd X7 18 (.pointer (some ⟨d,i,none⟩)))).finish _)) _ _=_
  rw [q16_fin]
  rfl
 have s14:=Safe.next s13 (A.ngoal rfl) w4.tape e15
 have r15:Run Qg Goal (qF E 7 1 (upd X7 18 (.pointer (some ⟨d,i,none⟩)))) E.cs w4 (qF E 7 2 (upd X7 18 (.pointer (some ⟨d,i,none⟩)))) E.cs (w4.setCell ⟨d,i,none⟩ (.int .u64 ea)):= .step w4.tape _ (A.ngoal rfl) e15 (.refl _ _ _)
 generalize hX8:upd X7 18 (.pointer (some ⟨d,i,none⟩))=X8 at r14 r15 s13 s14
 have f83:X8 3= .int .i64 i:=by rw [← hX8];exact f73
 have f86:X8 6=slcQ d E.n:=by rw [← hX8];exact f76
 have u3:upd X8 3 (.int .i64 i)=X8:=by rw [← f83];exact upd_self X8 3
 generalize hw5:w4.setCell ⟨d,i,none⟩ (.int .u64 ea)=w5 at r15 s14
 have r16:=A.slide (q17_sl (.int .i64 E.first) (.int .i64 E.n) E.x2 i X8 E.cs) (q17_to (.int .i64 E.first) (.int .i64 E.n) E.x2 i X8 E.cs) w5
 rw [u3,show IntKind.i64.wrap ((i:Int)+1)=((i+1:Nat):Int) by rw [wrap_small (by omega) (by omega)];omega] at r16
 have s15:=Safe.run s14 r16
 have hsz5:w5.heap.size=w4.heap.size:=by rw [← hw5];simp [World.setCell]
 have h5: ∀r,r≠d→w5.heap[r]? =w4.heap[r]? :=fun r hr=>by rw [← hw5];simp [World.setCell,Array.getElem?_modify,Ne.symm hr]
 refine ⟨ea,upd X8 19 (.int .i64 ((i+1:Nat):Int)),w5,r1.trans (r2.trans (r3.trans (r4.trans (r5.trans (r6.trans (r7.trans (r8.trans (r9.trans (r10.trans (r11.trans (r12.trans (r13.trans (r14.trans (r15.trans r16)))))))))))))),s15,f86,⟨by rw [hsz5];exact k4.1,fun r hr=>?_⟩,H.new,⟨C.setIfInBounds i (.int .u64 ea),?_,by simp [hCs],fun k hk=>?_⟩,fun k hk=>?_⟩
 ·rw [h5 r (by have:=H.new;omega)];exact k4.2 r hr
 ·rw [← hw5];simp [World.setCell,Array.getElem?_modify,hC4]
 ·rcases Nat.lt_succ_iff_lt_or_eq.1 hk with hlt|rfl
  ·rw [upd_ne _ _ (by omega),Array.getElem?_setIfInBounds_ne (by omega)]
   exact hCk k hlt
  ·rw [upd_same,Array.getElem?_setIfInBounds_self_of_lt (by omega)]
 ·rcases Nat.lt_succ_iff_lt_or_eq.1 hk with hlt|rfl
  ·rw [upd_ne _ _ (by omega)]
   exact H.jobs k hlt
  ·rw [upd_same]
   exact ⟨X3,w2,s5,f34,f37,k2⟩
end
end Go.Proofs.YtldmcdeibiclkaaGreatDoor.U
end
