/-
  Toward: treed_holds, each node's digest is that of its children's, for every argument of Treed. THE LONE ONE IN A CALL OF ITS OWN THAT WRITES NOTHING OLD: it comes back, and all that was there stands. No project text.
  THE LONE ONE's tree.ofSegments: a plain loop, each digest worked out twice; ITS STEPS.
  THE LONE ONE's tree.ofSegments: its steps, on.
-/
import Derived.Test.YtldmcdeibiclkaaGreatDoorC12
import Derived.Test.YtldmcdeibiclkaaGreatDoorProg
set_option linter.unusedVariables false
set_option linter.unusedSimpArgs false
set_option maxRecDepth 4000
section
namespace Go.Proofs.YtldmcdeibiclkaaGreatDoor.U
open Go.Conc
inductive Run (Q:Program) (Goal:Frame→List Frame→World→Prop):Frame→List Frame→World→Frame→List Frame→World→Prop
 |refl (fr:Frame) (cs:List Frame) (w:World):Run Q Goal fr cs w fr cs w
 |step {fr:Frame} {cs:List Frame} {w:World} {fr1:Frame} {cs1:List Frame} {w1:World} {fr2:Frame} {cs2:List Frame} {w2:World} (t:Nat→Question→Nat) (es:Array Event):
   ¬ Goal fr cs w→stepG Q true (lg fr cs) {w with tape:=t}= .go (lg fr1 cs1) w1 es→Run Q Goal fr1 cs1 w1 fr2 cs2 w2→Run Q Goal fr cs w fr2 cs2 w2
section
variable {Q:Program} {Goal:Frame→List Frame→World→Prop}
theorem Run.trans {fr cs w fr1 cs1 w1 fr2 cs2 w2} (h:Run Q Goal fr cs w fr1 cs1 w1) (k:Run Q Goal fr1 cs1 w1 fr2 cs2 w2):Run Q Goal fr cs w fr2 cs2 w2:=by
 induction h with
 |refl=>exact k
 |step t es hn e _ ih=>exact .step t es hn e (ih k)
theorem Safe.next {fr cs w} (h:Safe Q Goal fr cs w) (hn: ¬ Goal fr cs w) (t:Nat→Question→Nat) {fr1 cs1 w1 es} (e:stepG Q true (lg fr cs) {w with tape:=t}= .go (lg fr1 cs1) w1 es):Safe Q Goal fr1 cs1 w1:=by
 cases h with
 |goal hg=>exact absurd hg hn
 |step f c u es' _ _ hst _ hsub=>
  rw [hst t] at e
  simp only [lg,GStep.go.injEq,Goroutine.mk.injEq,and_true,List.append_cancel_right_eq] at e
  obtain ⟨⟨rfl,rfl⟩,rfl,_⟩:=e
  exact hsub t
theorem Safe.goes {fr cs w} (h:Safe Q Goal fr cs w) (hn: ¬ Goal fr cs w) (t:Nat→Question→Nat): ∃fr1 cs1 w1 es,stepG Q true (lg fr cs) {w with tape:=t}= .go (lg fr1 cs1) w1 es∧Fine (lg fr1 cs1)∧Safe Q Goal fr1 cs1 w1:=by
 cases h with
 |goal hg=>exact absurd hg hn
 |step f c u es' _ _ hst hfi hsub=>exact ⟨f t,c t,u t,es' t,hst t,⟨(hfi t).status,(hfi t).dying,(hfi t).mode,(hfi t).kind⟩,hsub t⟩
theorem Safe.run {fr cs w fr1 cs1 w1} (h:Safe Q Goal fr cs w) (k:Run Q Goal fr cs w fr1 cs1 w1):Safe Q Goal fr1 cs1 w1:=by
 induction k with
 |refl=>exact h
 |step t es hn e _ ih=>exact ih (Safe.next h hn t e)
theorem Safe.rec' {X:Frame→List Frame→World→Prop} (hX: ∀fr cs w,Safe Q Goal fr cs w→(∀t fr1 cs1 w1 es,¬ Goal fr cs w→stepG Q true (lg fr cs) {w with tape:=t}= .go (lg fr1 cs1) w1 es→X fr1 cs1 w1)→X fr cs w) {fr cs w} (h:Safe Q Goal fr cs w):X fr cs w:=by
 induction h with
 |goal hg=>exact hX _ _ _ (.goal hg) fun _ _ _ _ _ hn=>absurd hg hn
 |step f c u es' hng hnl hst hfi hsub ih=>
  refine hX _ _ _ (.step f c u es' hng hnl hst hfi hsub) fun t fr1 cs1 w1 es _ e=>?_
  rw [hst t] at e
  simp only [lg,GStep.go.injEq,Goroutine.mk.injEq,and_true,List.append_cancel_right_eq] at e
  obtain ⟨⟨rfl,rfl⟩,rfl,_⟩:=e
  exact ih t
end
section
variable {P:Program} {G:Array Func} {L:Lim} {T:Tab} {Goal:Frame→List Frame→World→Prop}
theorem last_step (S:Stat P G L T) {τ:Tri} {D:List Frame} {fr frQ:Frame} {cs:List Frame} {w:World} {h:Goroutine} {v:World} (hS:Sim P G L T τ (frQ::cs++ [wall]) D (lg fr (frQ::cs)) w h v) (hn:fr.fn≠T.pool) (hm:fr.mode= .returning) (hd:fr.defers= [])
  (t:Nat→Question→Nat) {fr1:Frame} {cs1:List Frame} {w1:World} {es:Array Event} (e:stepG (gp P G) true (lg fr (frQ::cs)) {w with tape:=t}= .go (lg fr1 cs1) w1 es):
  ∃x fn,P.funcs[fr.fn]? =some fn∧(results fn fr.tmps).run (gp P G) {w with tape:=t}= .ok x {w with tape:=t}∧fr1=frQ.finish x∧cs1=cs∧w1= {w with tape:=t}:=by
 have hF:=hS.g.frame.runs hn
 have hk:fr.kind= .normal:=hF.kind.1
 obtain ⟨fn,c,b1,b2,_,_,_⟩:=S.let_.body fr.fn hF.let_ hF.np
 have e1:stepG (gp P G) true (lg fr (frQ::cs)) {w with tape:=t}=unwind (gp P G) true fr (frQ::cs++ [wall]) none {w with tape:=t}:=by simp only [stepG,hm]
 rw [e1,unwind_results (P:=gp P G) hd hm b2] at e
 cases hr:(results fn fr.tmps).runT (gp P G) {w with tape:=t} #[] with
 |mk r es0=>
  rw [hr] at e
  cases r with
  |halt hh w'=>cases hh<;> cases e
  |ok x w'=>
   have hw:w'= {w with tape:=t}:=Reads.results fn fr.tmps _ _ _ _ _ hr
   subst hw
   simp only [resultsK,List.cons_append,doReturn,hk,GStep.after,GStep.go.injEq,lg,Goroutine.mk.injEq,and_true,List.append_cancel_right_eq] at e
   obtain ⟨⟨e2,e3⟩,e4,_⟩:=e
   refine ⟨x,fn,b1,?_,e2.symm,e3.symm,e4.symm⟩
   have:=Sem.runT_eq (gp P G) (results fn fr.tmps) {w with tape:=t} #[]
   rw [hr] at this
   simp only [Prod.mk.injEq] at this
   exact this.1.symm
theorem sub_call (S:Stat P G L T) (hpool: ¬ L.fn T.pool) (hgoal: ∀fr cs w,Goal fr cs w→cs= []) {frQ:Frame} {cs:List Frame} {D:List Frame} {B0:Nat} {w0:World} {fr:Frame} {cs':List Frame} {w:World} (hsafe:Safe (gp P G) Goal fr cs' w):
  ∀(sub:List Frame) (τ:Tri) (h:Goroutine) (v:World),cs'=sub++frQ::cs→Sim P G L T τ (frQ::cs++ [wall]) D (lg fr cs') w h v→(∀r s,τ.mine r s→B0≤r)→B0≤w.heap.size→(∀r,r< B0→w.heap[r]? =w0.heap[r]?)→
   ∃x w',Run (gp P G) Goal fr cs' w (frQ.finish x) cs w'∧B0≤w'.heap.size∧∀r,r< B0→w'.heap[r]? =w0.heap[r]? :=by
 refine Safe.rec' (Q:=gp P G) (Goal:=Goal) (X:=fun fr cs' w=>∀(sub:List Frame) (τ:Tri) (h:Goroutine) (v:World),cs'=sub++frQ::cs→Sim P G L T τ (frQ::cs++ [wall]) D (lg fr cs') w h v→(∀r s,τ.mine r s→B0≤r)→B0≤w.heap.size→(∀r,r< B0→w.heap[r]? =w0.heap[r]?)→
   ∃x w',Run (gp P G) Goal fr cs' w (frQ.finish x) cs w'∧B0≤w'.heap.size∧∀r,r< B0→w'.heap[r]? =w0.heap[r]?) ?_ hsafe
 intro fr cs' w hsafe ih sub τ h v hcs hS hmine hsz hold
 have hng: ¬ Goal fr cs' w:=fun hg=>by have:=hgoal _ _ _ hg;rw [hcs] at this;simp at this
 have hn:fr.fn≠T.pool:=fun e=>by
  have key: ∀a b,TopR P G L T τ a b→a.fn=T.pool→False:=by
   intro a b hx e
   cases hx with
   |run hx=>exact hx.np e
   |pool hp _ _=>exact hpool hp
  exact key _ _ hS.g.frame e
 obtain ⟨fr1,cs1,w1,es,e,hfi,hsafe1⟩:=Safe.goes hsafe hng (tapeOf w v)
 by_cases hl:fr.mode= .returning∧fr.defers= []∧cs'=frQ::cs
 ·obtain ⟨hm,hd,rfl⟩:=hl
  obtain ⟨x,fn,_,_,rfl,rfl,rfl⟩:=last_step S hS hn hm hd _ e
  exact ⟨x,_,.step _ _ hng e (.refl _ _ _),hsz,hold⟩
 ·obtain ⟨h1,v1,fs,τ1,_,hS1,_,hgr⟩:=hS.step S true hn (fun x=>hl ⟨x.1,x.2.1,List.append_cancel_right ((show cs'++ [wall]=frQ::cs++ [wall] from x.2.2).trans (by simp))⟩) e hfi
  obtain ⟨cs2,ds2,hg2,_,_,_⟩:=hS1.g.parts
  have hcs1:cs1=cs2++frQ::cs:=by
   have:=congrArg Goroutine.callers hg2
   have e2:cs1++ [wall]=(cs2++frQ::cs)++ [wall]:=(show cs1++ [wall]=cs2++(frQ::cs++ [wall]) from this).trans (by simp)
   exact List.append_cancel_right e2
  have m1: ∀r s,τ1.mine r s→B0≤r:=fun r s hx=>by
   rcases hgr.mine r s hx with hx|hx
   ·exact hmine r s hx
   ·omega
  have m2: ∀r,r< B0→w1.heap[r]? =w0.heap[r]? :=fun r hr=>by
   rw [hgr.away0 r (by omega) (fun s hx=>by have:=hmine r s hx;omega),hold r hr]
  obtain ⟨x,w',r1,r2,r3⟩:=ih _ fr1 cs1 w1 es hng e cs2 τ1 h1 v1 hcs1 hS1 m1 (Nat.le_trans hsz hgr.grow) m2
  exact ⟨x,w',.step _ _ hng e r1,r2,r3⟩
end
end Go.Proofs.YtldmcdeibiclkaaGreatDoor.U
end
section
namespace Go.Proofs.YtldmcdeibiclkaaGreatDoor.U
open Go.Conc
open Go.ConcN (upd)
set_option maxRecDepth 100000
def qOp (d:Option Tmp) (o:Op) (ty:TypeId):Oper:={dst:=d,op:=o,type:=ty,pos:= "",after:=#[],guard:=none}
def qI (n:Int):Operand:= .const (.int .i64 n)
def qU (n:Int):Operand:= .const (.int .u64 n)
def qTest (d:Tmp) (o:BinOp) (t:TypeId) (x y:Operand):Oper:=qOp (some d) (.binOp o t x y t) 4
def qText (d:Tmp):Oper:=qOp (some d) (.call {callee:= .value (.tmp 2),args:=#[.tmp 4],argTypes:=#[3]}) 9
def qSum (d s:Tmp):Oper:=qOp (some d) (.call {callee:= .value (.func 82),args:=#[.tmp s],argTypes:=#[9]}) 44
def poolBody:Code:=
 .seq (.region 0 #[qTest 16 .lss 3 (.tmp 0) (qI 0),qTest 17 .lss 3 (.tmp 1) (qI 0),qTest 10 .eql 3 (.tmp 1) (qI 1),qTest 11 .eql 3 (.tmp 1) (qI 4),qTest 12 .eql 3 (.tmp 1) (qI 16),qTest 13 .eql 3 (.tmp 1) (qI 64)] false)
 (.seq (.cond (.tmp 10) .skip (.cond (.tmp 11) .skip (.cond (.tmp 12) .skip (.cond (.tmp 13) .skip (.refuse "")))))
 (.seq (.region 1 #[qOp (some 6) (.makeSlice 147 (.tmp 1) (.tmp 1)) 147,qOp (some 3) (.move (qI 0)) 3] false)
 (.seq (.block 0 (.loop
  (.seq (.region 2 #[qTest 14 .lss 3 (.tmp 3) (.tmp 1)] false)
  (.seq (.cond (.tmp 14) .skip (.exit 0))
  (.seq (.region 3 #[qOp (some 4) (.binOp .add 3 (.tmp 0) (.tmp 3) 3) 3] false)
  (.seq (.region 4 #[qText 5,qTest 18 .lss 9 (.tmp 5) (.const (.string ByteArray.empty)),qSum 7 5] false)
  (.seq (.region 5 #[qText 8,qTest 18 .lss 9 (.tmp 8) (.const (.string ByteArray.empty)),qSum 9 8] false)
  (.seq (.region 6 #[qTest 18 .lss 44 (.tmp 7) (qU 0),qTest 19 .lss 44 (.tmp 9) (qU 0),qTest 15 .neq 44 (.tmp 7) (.tmp 9)] false)
  (.seq (.cond (.tmp 15) (.refuse "") .skip)
  (.region 7 #[qOp (some 18) (.indexAddr 147 (.tmp 6) (.tmp 3)) 147,qOp none (.store 44 (.tmp 18) (.tmp 9)) 44,qOp (some 19) (.binOp .add 3 (.tmp 3) (qI 1) 3) 3,qOp (some 3) (.move (.tmp 19)) 3] false)))))))))) .ret)))
noncomputable def poolFn:Func:={(((Tryz.prog).funcs[(68:Nat)]?).getD default) with ntmps:=20,results:=#[.tmp 6],body:=some poolBody}
noncomputable def Gg:Array Func:=(Tryz.prog).funcs.setIfInBounds 68 poolFn
noncomputable abbrev Qg:Program:=gp Tryz.prog Gg
def trG (Q:Program):Nat→Goroutine→List Goroutine
 |0,g=>[g]
 |n+1,g=>g::trG Q n (nx Q true g)
def trW (Q:Program) (cs:List Frame):Nat→Goroutine→List Goroutine
 |0,g=>[lg g.frame cs]
 |n+1,g=>lg g.frame cs::trW Q cs n (nx Q true g)
def trF (Q:Program) (f:FuncId):Nat→Goroutine→Bool
 |0,_=>true
 |n+1,g=>g.frame.fn==f && trF Q f n (nx Q true g)
structure SlQ (Q:Program) (f:FuncId) (n:Nat) (fr:Frame) (cs:List Frame):Prop where
 slid:Slid Q true n (lg fr cs)
 trail:trG Q n (lg fr cs)=trW Q cs n (lg fr cs)
 fns:trF Q f n (lg fr cs)=true
theorem slide_run {Q:Program} {Goal:Frame→List Frame→World→Prop} {f:FuncId} (hgoal: ∀fr cs w,Goal fr cs w→fr.fn≠f) {cs:List Frame} (w:World): ∀(n:Nat) (g:Goroutine),Slid Q true n g→trG Q n g=trW Q cs n g→trF Q f n g=true→Run Q Goal g.frame cs w (nxN Q true n g).frame cs w
 |0,g,_,_,_=> .refl _ _ _
 |n+1,g,hs,ht,hf=>by
  obtain ⟨h1,h2,h3⟩:=hs.step
  simp only [trG,trW,List.cons.injEq] at ht
  simp only [trF,Bool.and_eq_true,beq_iff_eq] at hf
  have e0:g=lg g.frame cs:=ht.1
  have e1:nx Q true g=lg (nx Q true g).frame cs:=by
   have:=ht.2
   cases n<;> simp only [trG,trW,List.cons.injEq,and_true] at this
   ·exact this
   ·exact this.1
  refine .step w.tape #[] (fun hg=>hgoal _ _ _ hg hf.1) ?_ (slide_run hgoal w n (nx Q true g) h3 ht.2 hf.2)
  rw [← e0,← e1]
  exact h2 w
theorem SlQ.run {Q:Program} {Goal:Frame→List Frame→World→Prop} {f:FuncId} {n:Nat} {fr fr':Frame} {cs:List Frame} (h:SlQ Q f n fr cs) (hgoal: ∀fr cs w,Goal fr cs w→fr.fn≠f) (he:(nxN Q true n (lg fr cs)).frame=fr') (w:World):Run Q Goal fr cs w fr' cs w:=
 he ▸ slide_run hgoal w n (lg fr cs) h.slid h.trail h.fns
noncomputable def frQ (id n:Nat) (ts:Array Value):Frame:={fn:=68,tmps:=ts,todo:=placeAt Qg 68 id n,defers:=[],mode:= .run,kind:= .normal}
def qT (x0 x1 x2:Value) (xs:Nat→Value):Array Value:=#[x0,x1,x2,xs 3,xs 4,xs 5,xs 6,xs 7,xs 8,xs 9,xs 10,xs 11,xs 12,xs 13,xs 14,xs 15,xs 16,xs 17,xs 18,xs 19]
def isGo:GStep→Bool
 | .go .. =>true
 |_=>false
abbrev fQ:FuncId:=68
section
variable (x0 x1 x2:Value) (a n:Int) (xs:Nat→Value) (cs:List Frame)
def un:Nat→Value:=fun _=>undef
theorem q0_sl:SlQ Qg fQ 2 (Frame.enter Qg fQ #[x0,x1,x2] .normal) cs:=⟨fun w=>by kernel_rfl,by kernel_rfl,by kernel_rfl⟩
theorem q0_to:(nxN Qg true 2 (lg (Frame.enter Qg fQ #[x0,x1,x2] .normal) cs)).frame=frQ 0 0 (qT x0 x1 x2 un):=by kernel_rfl
theorem q0_int (w:World) (h:isGo (stepG Qg true (lg (frQ 0 0 (qT x0 x1 x2 un)) cs) w)=true): ∃a,x0= .int .i64 a:=by
 have no: ∀x,isGo (stepG Qg true (lg (frQ 0 0 (qT x x1 x2 un)) cs) w)=false→x0=x→False:=fun x hx e=>by rw [e,hx] at h;cases h
 cases x0 with
 |int k a=>cases k<;> first|exact ⟨a,rfl⟩|exact (no _ (by kernel_rfl) rfl).elim
 |pointer p=>cases p<;> exact (no _ (by kernel_rfl) rfl).elim
 |_=>exact (no _ (by kernel_rfl) rfl).elim
theorem q1_sl:SlQ Qg fQ 1 (frQ 0 0 (qT (.int .i64 a) x1 x2 xs)) cs:=⟨fun w=>by kernel_rfl,by kernel_rfl,by kernel_rfl⟩
theorem q1_to:(nxN Qg true 1 (lg (frQ 0 0 (qT (.int .i64 a) x1 x2 xs)) cs)).frame=frQ 0 1 (qT (.int .i64 a) x1 x2 (upd xs 16 (.bool (decide (a< 0))))):=by kernel_rfl
theorem q1_int (w:World) (h:isGo (stepG Qg true (lg (frQ 0 1 (qT x0 x1 x2 xs)) cs) w)=true): ∃n,x1= .int .i64 n:=by
 have no: ∀x,isGo (stepG Qg true (lg (frQ 0 1 (qT x0 x x2 xs)) cs) w)=false→x1=x→False:=fun x hx e=>by rw [e,hx] at h;cases h
 cases x1 with
 |int k a=>cases k<;> first|exact ⟨a,rfl⟩|exact (no _ (by kernel_rfl) rfl).elim
 |pointer p=>cases p<;> exact (no _ (by kernel_rfl) rfl).elim
 |_=>exact (no _ (by kernel_rfl) rfl).elim
theorem q2_sl:SlQ Qg fQ 5 (frQ 0 1 (qT x0 (.int .i64 n) x2 xs)) cs:=⟨fun w=>by kernel_rfl,by kernel_rfl,by kernel_rfl⟩
def xsC (b1 b2 b3 b4:Bool) (xs:Nat→Value):Nat→Value:=upd (upd (upd (upd xs 10 (.bool b1)) 11 (.bool b2)) 12 (.bool b3)) 13 (.bool b4)
theorem q2_to:(nxN Qg true 5 (lg (frQ 0 1 (qT x0 (.int .i64 n) x2 xs)) cs)).frame=frQ 0 6 (qT x0 (.int .i64 n) x2 (xsC (decide (n=1)) (decide (n=4)) (decide (n=16)) (decide (n=64)) (upd xs 17 (.bool (decide (n< 0)))))):=by kernel_rfl
end
end Go.Proofs.YtldmcdeibiclkaaGreatDoor.U
end
section
namespace Go.Proofs.YtldmcdeibiclkaaGreatDoor.U
open Go.Conc
open Go.ConcN (upd)
set_option maxRecDepth 100000
def slcQ (d n:Nat):Value:= .slice (some ⟨d,0,none⟩) n n
section
variable (x0 x1 x2:Value) (a n i:Int) (xs:Nat→Value) (cs:List Frame) (b1 b2 b3 b4:Bool)
theorem q3a_sl:SlQ Qg fQ 6 (frQ 0 6 (qT x0 x1 x2 (xsC true b2 b3 b4 xs))) cs:=⟨fun w=>by kernel_rfl,by kernel_rfl,by kernel_rfl⟩
theorem q3a_to:(nxN Qg true 6 (lg (frQ 0 6 (qT x0 x1 x2 (xsC true b2 b3 b4 xs))) cs)).frame=frQ 1 0 (qT x0 x1 x2 (xsC true b2 b3 b4 xs)):=by kernel_rfl
theorem q3b_sl:SlQ Qg fQ 7 (frQ 0 6 (qT x0 x1 x2 (xsC false true b3 b4 xs))) cs:=⟨fun w=>by kernel_rfl,by kernel_rfl,by kernel_rfl⟩
theorem q3b_to:(nxN Qg true 7 (lg (frQ 0 6 (qT x0 x1 x2 (xsC false true b3 b4 xs))) cs)).frame=frQ 1 0 (qT x0 x1 x2 (xsC false true b3 b4 xs)):=by kernel_rfl
theorem q3c_sl:SlQ Qg fQ 8 (frQ 0 6 (qT x0 x1 x2 (xsC false false true b4 xs))) cs:=⟨fun w=>by kernel_rfl,by kernel_rfl,by kernel_rfl⟩
theorem q3c_to:(nxN Qg true 8 (lg (frQ 0 6 (qT x0 x1 x2 (xsC false false true b4 xs))) cs)).frame=frQ 1 0 (qT x0 x1 x2 (xsC false false true b4 xs)):=by kernel_rfl
theorem q3d_sl:SlQ Qg fQ 9 (frQ 0 6 (qT x0 x1 x2 (xsC false false false true xs))) cs:=⟨fun w=>by kernel_rfl,by kernel_rfl,by kernel_rfl⟩
theorem q3d_to:(nxN Qg true 9 (lg (frQ 0 6 (qT x0 x1 x2 (xsC false false false true xs))) cs)).frame=frQ 1 0 (qT x0 x1 x2 (xsC false false false true xs)):=by kernel_rfl
theorem q3e_sl:SlQ Qg fQ 6 (frQ 0 6 (qT x0 x1 x2 (xsC false false false false xs))) cs:=⟨fun w=>by kernel_rfl,by kernel_rfl,by kernel_rfl⟩
noncomputable def qBad:Frame:=(nxN Qg true 6 (lg (frQ 0 6 (qT x0 x1 x2 (xsC false false false false xs))) cs)).frame
theorem q3e_ended (w:World):isGo (stepG Qg true (lg (qBad x0 x1 x2 xs cs) cs) w)=false:=by kernel_rfl
theorem q3e_fn:(qBad x0 x1 x2 xs cs).fn=fQ:=by kernel_rfl
theorem q4_op:AtOp Qg true (lg (frQ 1 0 (qT x0 x1 x2 xs)) cs):=⟨fun w=>by kernel_rfl,by kernel_rfl,by kernel_rfl⟩
theorem q4_feed_1 (r:Nat):feed Qg (pendS (lg (frQ 1 0 (qT x0 (.int .i64 1) x2 xs)) cs)) [.ref r]=some ([.nw (.cells (Array.replicate 1 (.int .u64 0)) 44)],.inl (.value (slcQ r 1))):=by kernel_rfl
theorem q4_feed_4 (r:Nat):feed Qg (pendS (lg (frQ 1 0 (qT x0 (.int .i64 4) x2 xs)) cs)) [.ref r]=some ([.nw (.cells (Array.replicate 4 (.int .u64 0)) 44)],.inl (.value (slcQ r 4))):=by kernel_rfl
theorem q4_feed_16 (r:Nat):feed Qg (pendS (lg (frQ 1 0 (qT x0 (.int .i64 16) x2 xs)) cs)) [.ref r]=some ([.nw (.cells (Array.replicate 16 (.int .u64 0)) 44)],.inl (.value (slcQ r 16))):=by kernel_rfl
theorem q4_feed_64 (r:Nat):feed Qg (pendS (lg (frQ 1 0 (qT x0 (.int .i64 64) x2 xs)) cs)) [.ref r]=some ([.nw (.cells (Array.replicate 64 (.int .u64 0)) 44)],.inl (.value (slcQ r 64))):=by kernel_rfl
theorem q4_fin (v:Value):(frQ 1 0 (qT x0 x1 x2 xs)).finish v=frQ 1 1 (qT x0 x1 x2 (upd xs 6 v)):=by kernel_rfl
theorem q5_sl:SlQ Qg fQ 7 (frQ 1 1 (qT x0 x1 x2 xs)) cs:=⟨fun w=>by kernel_rfl,by kernel_rfl,by kernel_rfl⟩
theorem q5_to:(nxN Qg true 7 (lg (frQ 1 1 (qT x0 x1 x2 xs)) cs)).frame=frQ 2 0 (qT x0 x1 x2 (upd xs 3 (.int .i64 0))):=by kernel_rfl
theorem q6_sl:SlQ Qg fQ 1 (frQ 2 0 (qT x0 (.int .i64 n) x2 (upd xs 3 (.int .i64 i)))) cs:=⟨fun w=>by kernel_rfl,by kernel_rfl,by kernel_rfl⟩
theorem q6_to:(nxN Qg true 1 (lg (frQ 2 0 (qT x0 (.int .i64 n) x2 (upd xs 3 (.int .i64 i)))) cs)).frame=frQ 2 1 (qT x0 (.int .i64 n) x2 (upd (upd xs 3 (.int .i64 i)) 14 (.bool (decide (i< n))))):=by kernel_rfl
theorem q7_sl:SlQ Qg fQ 10 (frQ 2 1 (qT (.int .i64 a) x1 x2 (upd (upd xs 3 (.int .i64 i)) 14 (.bool true)))) cs:=⟨fun w=>by kernel_rfl,by kernel_rfl,by kernel_rfl⟩
theorem q7_to:(nxN Qg true 10 (lg (frQ 2 1 (qT (.int .i64 a) x1 x2 (upd (upd xs 3 (.int .i64 i)) 14 (.bool true)))) cs)).frame=frQ 4 0 (qT (.int .i64 a) x1 x2 (upd (upd (upd xs 3 (.int .i64 i)) 14 (.bool true)) 4 (.int .i64 (IntKind.i64.wrap (a+i))))):=by kernel_rfl
theorem q8_sl:SlQ Qg fQ 5 (frQ 2 1 (qT x0 x1 x2 (upd xs 14 (.bool false)))) cs:=⟨fun w=>by kernel_rfl,by kernel_rfl,by kernel_rfl⟩
noncomputable def qRet:Frame:=(nxN Qg true 5 (lg (frQ 2 1 (qT x0 x1 x2 (upd xs 14 (.bool false)))) cs)).frame
theorem qRet_is:(qRet x0 x1 x2 xs cs).mode= .returning∧(qRet x0 x1 x2 xs cs).defers= []∧(qRet x0 x1 x2 xs cs).fn=fQ∧(qRet x0 x1 x2 xs cs).kind= .normal:=⟨by kernel_rfl,by kernel_rfl,by kernel_rfl,by kernel_rfl⟩
theorem qRet_step (c:Frame) (w:World):stepG Qg true (lg (qRet x0 x1 x2 xs (c::cs)) (c::cs)) w= .go (lg (c.finish (xs 6)) cs) w #[]:=by kernel_rfl
theorem q4c_op (id:Nat) (h:id=4∨id=5):AtOp Qg true (lg (frQ id 0 (qT x0 x1 x2 xs)) cs):=by
 rcases h with rfl|rfl
 ·exact ⟨fun w=>by kernel_rfl,by kernel_rfl,by kernel_rfl⟩
 ·exact ⟨fun w=>by kernel_rfl,by kernel_rfl,by kernel_rfl⟩
theorem q4c_pend (id:Nat) (h:id=4∨id=5):pendS (lg (frQ id 0 (qT x0 x1 x2 xs)) cs)=(do let d ← Deferred.ofValue x2 #[xs 4];invoke d.target d.args):=by
 rcases h with rfl|rfl<;> kernel_rfl
theorem q4c_fin4 (v:Value):(frQ 4 0 (qT x0 x1 x2 xs)).finish v=frQ 4 1 (qT x0 x1 x2 (upd xs 5 v)):=by kernel_rfl
theorem q4c_fin5 (v:Value):(frQ 5 0 (qT x0 x1 x2 xs)).finish v=frQ 5 1 (qT x0 x1 x2 (upd xs 8 v)):=by kernel_rfl
theorem q4t_str (x:Value) (w:World) (h:isGo (stepG Qg true (lg (frQ 4 1 (qT x0 x1 x2 (upd xs 5 x))) cs) w)=true): ∃s,x= .string s:=by
 have no: ∀y,isGo (stepG Qg true (lg (frQ 4 1 (qT x0 x1 x2 (upd xs 5 y))) cs) w)=false→x=y→False:=fun y hx e=>by rw [e,hx] at h;cases h
 cases x with
 |string s=>exact ⟨s,rfl⟩
 |pointer p=>cases p<;> exact (no _ (by kernel_rfl) rfl).elim
 |_=>exact (no _ (by kernel_rfl) rfl).elim
theorem q5t_str (x:Value) (w:World) (h:isGo (stepG Qg true (lg (frQ 5 1 (qT x0 x1 x2 (upd xs 8 x))) cs) w)=true): ∃s,x= .string s:=by
 have no: ∀y,isGo (stepG Qg true (lg (frQ 5 1 (qT x0 x1 x2 (upd xs 8 y))) cs) w)=false→x=y→False:=fun y hx e=>by rw [e,hx] at h;cases h
 cases x with
 |string s=>exact ⟨s,rfl⟩
 |pointer p=>cases p<;> exact (no _ (by kernel_rfl) rfl).elim
 |_=>exact (no _ (by kernel_rfl) rfl).elim
noncomputable def strLt (s:ByteArray):Value:=(feed Qg (Go.binOp .lss 9 (.string s) (.string ByteArray.empty)) []).elim undef fun x=>x.2.elim id fun _=>undef
theorem q4t_sl (s:ByteArray):SlQ Qg fQ 1 (frQ 4 1 (qT x0 x1 x2 (upd xs 5 (.string s)))) cs:=⟨fun w=>by kernel_rfl,by kernel_rfl,by kernel_rfl⟩
theorem q4t_to (s:ByteArray):(nxN Qg true 1 (lg (frQ 4 1 (qT x0 x1 x2 (upd xs 5 (.string s)))) cs)).frame=frQ 4 2 (qT x0 x1 x2 (upd (upd xs 5 (.string s)) 18 (strLt s))):=by kernel_rfl
theorem q5t_sl (s:ByteArray):SlQ Qg fQ 1 (frQ 5 1 (qT x0 x1 x2 (upd xs 8 (.string s)))) cs:=⟨fun w=>by kernel_rfl,by kernel_rfl,by kernel_rfl⟩
theorem q5t_to (s:ByteArray):(nxN Qg true 1 (lg (frQ 5 1 (qT x0 x1 x2 (upd xs 8 (.string s)))) cs)).frame=frQ 5 2 (qT x0 x1 x2 (upd (upd xs 8 (.string s)) 18 (strLt s))):=by kernel_rfl
theorem q4s_step (w:World):stepG Qg true (lg (frQ 4 2 (qT x0 x1 x2 xs)) cs) w= .go (lg (Frame.enter Qg 82 #[xs 5] .normal) (frQ 4 2 (qT x0 x1 x2 xs)::cs)) w #[]:=by kernel_rfl
theorem q5s_step (w:World):stepG Qg true (lg (frQ 5 2 (qT x0 x1 x2 xs)) cs) w= .go (lg (Frame.enter Qg 82 #[xs 8] .normal) (frQ 5 2 (qT x0 x1 x2 xs)::cs)) w #[]:=by kernel_rfl
theorem q4s_fin (v:Value):(frQ 4 2 (qT x0 x1 x2 xs)).finish v=frQ 4 3 (qT x0 x1 x2 (upd xs 7 v)):=by kernel_rfl
theorem q5s_fin (v:Value):(frQ 5 2 (qT x0 x1 x2 xs)).finish v=frQ 5 3 (qT x0 x1 x2 (upd xs 9 v)):=by kernel_rfl
theorem q9_sl:SlQ Qg fQ 3 (frQ 4 3 (qT x0 x1 x2 xs)) cs:=⟨fun w=>by kernel_rfl,by kernel_rfl,by kernel_rfl⟩
theorem q9_to:(nxN Qg true 3 (lg (frQ 4 3 (qT x0 x1 x2 xs)) cs)).frame=frQ 5 0 (qT x0 x1 x2 xs):=by kernel_rfl
theorem q10_sl:SlQ Qg fQ 3 (frQ 5 3 (qT x0 x1 x2 xs)) cs:=⟨fun w=>by kernel_rfl,by kernel_rfl,by kernel_rfl⟩
theorem q10_to:(nxN Qg true 3 (lg (frQ 5 3 (qT x0 x1 x2 xs)) cs)).frame=frQ 6 0 (qT x0 x1 x2 xs):=by kernel_rfl
theorem q6_int (x:Value) (w:World) (h:isGo (stepG Qg true (lg (frQ 6 0 (qT x0 x1 x2 (upd xs 7 x))) cs) w)=true): ∃a,x= .int .u64 a:=by
 have no: ∀y,isGo (stepG Qg true (lg (frQ 6 0 (qT x0 x1 x2 (upd xs 7 y))) cs) w)=false→x=y→False:=fun y hx e=>by rw [e,hx] at h;cases h
 cases x with
 |int k a=>cases k<;> first|exact ⟨a,rfl⟩|exact (no _ (by kernel_rfl) rfl).elim
 |pointer p=>cases p<;> exact (no _ (by kernel_rfl) rfl).elim
 |_=>exact (no _ (by kernel_rfl) rfl).elim
theorem q11_sl (e:Int):SlQ Qg fQ 1 (frQ 6 0 (qT x0 x1 x2 (upd xs 7 (.int .u64 e)))) cs:=⟨fun w=>by kernel_rfl,by kernel_rfl,by kernel_rfl⟩
theorem q11_to (e:Int):(nxN Qg true 1 (lg (frQ 6 0 (qT x0 x1 x2 (upd xs 7 (.int .u64 e)))) cs)).frame=frQ 6 1 (qT x0 x1 x2 (upd (upd xs 7 (.int .u64 e)) 18 (.bool (decide (e< 0))))):=by kernel_rfl
theorem q6_int' (x:Value) (w:World) (h:isGo (stepG Qg true (lg (frQ 6 1 (qT x0 x1 x2 (upd xs 9 x))) cs) w)=true): ∃a,x= .int .u64 a:=by
 have no: ∀y,isGo (stepG Qg true (lg (frQ 6 1 (qT x0 x1 x2 (upd xs 9 y))) cs) w)=false→x=y→False:=fun y hx e=>by rw [e,hx] at h;cases h
 cases x with
 |int k a=>cases k<;> first|exact ⟨a,rfl⟩|exact (no _ (by kernel_rfl) rfl).elim
 |pointer p=>cases p<;> exact (no _ (by kernel_rfl) rfl).elim
 |_=>exact (no _ (by kernel_rfl) rfl).elim
def xsE (e f:Int) (xs:Nat→Value):Nat→Value:=upd (upd xs 7 (.int .u64 e)) 9 (.int .u64 f)
theorem q12_sl (e f:Int):SlQ Qg fQ 2 (frQ 6 1 (qT x0 x1 x2 (xsE e f xs))) cs:=⟨fun w=>by kernel_rfl,by kernel_rfl,by kernel_rfl⟩
theorem q12_to (e f:Int):(nxN Qg true 2 (lg (frQ 6 1 (qT x0 x1 x2 (xsE e f xs))) cs)).frame=frQ 6 3 (qT x0 x1 x2 (upd (upd (xsE e f xs) 19 (.bool (decide (f< 0)))) 15 (.bool (!(decide (e=f)))))):=by kernel_rfl
theorem q13_sl:SlQ Qg fQ 3 (frQ 6 3 (qT x0 x1 x2 (upd xs 15 (.bool true)))) cs:=⟨fun w=>by kernel_rfl,by kernel_rfl,by kernel_rfl⟩
noncomputable def qBad2:Frame:=(nxN Qg true 3 (lg (frQ 6 3 (qT x0 x1 x2 (upd xs 15 (.bool true)))) cs)).frame
theorem q13_ended (w:World):isGo (stepG Qg true (lg (qBad2 x0 x1 x2 xs cs) cs) w)=false:=by kernel_rfl
theorem q13_fn:(qBad2 x0 x1 x2 xs cs).fn=fQ:=by kernel_rfl
theorem q14_sl:SlQ Qg fQ 5 (frQ 6 3 (qT x0 x1 x2 (upd xs 15 (.bool false)))) cs:=⟨fun w=>by kernel_rfl,by kernel_rfl,by kernel_rfl⟩
theorem q14_to:(nxN Qg true 5 (lg (frQ 6 3 (qT x0 x1 x2 (upd xs 15 (.bool false)))) cs)).frame=frQ 7 0 (qT x0 x1 x2 (upd xs 15 (.bool false))):=by kernel_rfl
theorem q15_op:AtOp Qg true (lg (frQ 7 0 (qT x0 x1 x2 xs)) cs):=⟨fun w=>by kernel_rfl,by kernel_rfl,by kernel_rfl⟩
theorem q15_pend:pendS (lg (frQ 7 0 (qT x0 x1 x2 xs)) cs)=(Instr.indexAt 147 (xs 6) (xs 3) >>=fun v=>pure (.value v)):=by kernel_rfl
theorem q15_fin (v:Value):(frQ 7 0 (qT x0 x1 x2 xs)).finish v=frQ 7 1 (qT x0 x1 x2 (upd xs 18 v)):=by kernel_rfl
theorem q16_op (v:Value):AtOp Qg true (lg (frQ 7 1 (qT x0 x1 x2 (upd xs 18 v))) cs):=⟨fun w=>by kernel_rfl,by kernel_rfl,by kernel_rfl⟩
theorem q16_feed' (d k:Nat) (e:Int):feed Qg (pendS (lg (frQ 7 1 (qT x0 x1 x2 (upd (upd xs 9 (.int .u64 e)) 18 (.pointer (some ⟨d,k,none⟩))))) cs)) []=some ([.st .plain ⟨d,k,none⟩ (.int .u64 e)],.inl .skip):=by kernel_rfl
theorem upd_self (xs:Nat→Value) (j:Nat):upd xs j (xs j)=xs:=by
 funext b
 unfold upd
 split
 ·rename_i h;rw [h]
 ·rfl
theorem q16_feed (d k:Nat) (e:Int) (h:xs 9= .int .u64 e):feed Qg (pendS (lg (frQ 7 1 (qT x0 x1 x2 (upd xs 18 (.pointer (some ⟨d,k,none⟩))))) cs)) []=some ([.st .plain ⟨d,k,none⟩ (.int .u64 e)],.inl .skip):=by
 have:=q16_feed' x0 x1 x2 xs cs d k e
 rw [← h,upd_self] at this
 rw [this,h]
theorem q16_fin:(frQ 7 1 (qT x0 x1 x2 xs)).finish undef=frQ 7 2 (qT x0 x1 x2 xs):=by kernel_rfl
theorem q17_sl:SlQ Qg fQ 6 (frQ 7 2 (qT x0 x1 x2 (upd xs 3 (.int .i64 i)))) cs:=⟨fun w=>by kernel_rfl,by kernel_rfl,by kernel_rfl⟩
theorem q17_to:(nxN Qg true 6 (lg (frQ 7 2 (qT x0 x1 x2 (upd xs 3 (.int .i64 i)))) cs)).frame=frQ 2 0 (qT x0 x1 x2 (upd (upd xs 19 (.int .i64 (IntKind.i64.wrap (i+1)))) 3 (.int .i64 (IntKind.i64.wrap (i+1))))):=by kernel_rfl
end
end Go.Proofs.YtldmcdeibiclkaaGreatDoor.U
end
