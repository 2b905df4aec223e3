/-
  Toward: treed_holds, each node's digest is that of its children's, for every argument of Treed. THE LONE ONE's tree.ofSegments, WHOLE: from its entry to its return.
  A WORKER IN A CALL (the text of a segment; its sum), BESIDE THE LONE ONE's TREE.
  sync.WaitGroup's Add(-1), STEP BY STEP, whoever has called it.
  BEHIND Add(-1): it leaves; or it is the last one, and wakes the starter.
-/
import Derived.Test.YtldmcdeibiclkaaGreatDoorC14
import Derived.Test.YtldmcdeibiclkaaGreatDoorC12
import Derived.Test.YtldmcdeibiclkaaGreatDoorRows
set_option linter.unusedVariables false
set_option linter.unusedSimpArgs false
set_option maxRecDepth 4000
section
namespace Go.Proofs.YtldmcdeibiclkaaGreatDoor.U
open Go.Conc
open Go.ConcN (upd upd_same upd_ne)
section
variable {L:Lim} {T:Tab} {Goal:Frame→List Frame→World→Prop} {E:Entry L}
theorem head_all (A:Lean1 L T Goal) (K:EntryOk L E) (hn:E.n≤64) {d:Nat}: ∀(m i:Nat) (a:Nat→Int) (xs:Nat→Value) (w:World),m+i=E.n→HeadAt Goal E i a d xs w→
  ∃a' xs' w',Run Qg Goal (qF E 2 0 (upd xs 3 (.int .i64 i))) E.cs w (qF E 2 0 (upd xs' 3 (.int .i64 E.n))) E.cs w'∧HeadAt Goal E E.n a' d xs' w'
 |0,i,a,xs,w,he,H=>by
  obtain rfl:i=E.n:=by omega
  exact ⟨a,xs,w,.refl _ _ _,H⟩
 |m+1,i,a,xs,w,he,H=>by
  obtain ⟨e,xs1,w1,r1,H1⟩:=head_step A K H (by omega) hn
  obtain ⟨a',xs',w',r2,H2⟩:=head_all A K hn m (i+1) (upd a i e) xs1 w1 (by omega) H1
  exact ⟨a',xs',w',r1.trans r2,H2⟩
structure Done1 (Goal:Frame→List Frame→World→Prop) (E:Entry L) (a:Nat→Int) (d:Nat) (xs:Nat→Value) (w:World):Prop where
 row:xs 6=slcQ d E.n
 keeps:Keeps E w
 new:E.w0.heap.size≤d
 blk: ∃C:Array Value,w.heap[d]? =some (.cells C 44)∧C.size=E.n∧∀k,k< E.n→C[k]? =some (.int .u64 (a k))
 jobs: ∀k,k< E.n→Job Goal E k (a k)
theorem head_end (A:Lean1 L T Goal) {a:Nat→Int} {d:Nat} {xs:Nat→Value} {w:World} (H:HeadAt Goal E E.n a d xs w):
  ∃xs',Run Qg Goal (qF E 2 0 (upd xs 3 (.int .i64 E.n))) E.cs w (qRet (.int .i64 E.first) (.int .i64 E.n) E.x2 xs' E.cs) E.cs w∧Done1 Goal E a d xs' w:=by
 have hin:decide ((E.n:Int)< (E.n:Int))=false:=by simp
 have r1:=A.slide (q6_sl (.int .i64 E.first) E.x2 E.n E.n xs E.cs) (q6_to (.int .i64 E.first) E.x2 E.n E.n xs E.cs) w
 rw [hin] at r1
 have r2:=A.slide (q8_sl (.int .i64 E.first) (.int .i64 E.n) E.x2 (upd xs 3 (.int .i64 E.n)) E.cs) (fr':=qRet (.int .i64 E.first) (.int .i64 E.n) E.x2 (upd xs 3 (.int .i64 E.n)) E.cs) rfl w
 exact ⟨upd xs 3 (.int .i64 E.n),r1.trans r2,H.row,H.keeps,H.new,H.blk,H.jobs⟩
theorem head_begin (A:Lean1 L T Goal) (K:EntryOk L E) {xs:Nat→Value} (hs:Safe Qg Goal (qF E 1 0 xs) E.cs E.w0)
  (hf: ∀r,feed Qg (pendS (lg (qF E 1 0 xs) E.cs)) [.ref r]=some ([.nw (.cells (Array.replicate E.n (.int .u64 0)) 44)],.inl (.value (slcQ r E.n)))):
  ∃xs' w',Run Qg Goal (qF E 1 0 xs) E.cs E.w0 (qF E 2 0 (upd xs' 3 (.int .i64 ((0:Nat):Int)))) E.cs w'∧HeadAt Goal E 0 (fun _=>0) E.w0.heap.size xs' w':=by
 have _:=K
 have e1:stepG Qg true (lg (qF E 1 0 xs) E.cs) E.w0= .go (lg (qF E 1 1 (upd xs 6 (slcQ E.w0.heap.size E.n))) E.cs) {E.w0 with heap:=E.w0.heap.push (.cells (Array.replicate E.n (.int .u64 0)) 44)} #[]:=by
  have:=AtOp.value (q4_op (.int .i64 E.first) (.int .i64 E.n) E.x2 xs E.cs) (hf E.w0.heap.size) (w:=E.w0) (w':={E.w0 with heap:=E.w0.heap.push (.cells (Array.replicate E.n (.int .u64 0)) 44)}) (es:=#[]) ⟨rfl,rfl,rfl⟩
  rw [this,seen_empty]
  show GStep.go (gOf _ ((qF E 1 0 xs).finish _)) _ #[]=_
  rw [q4_fin]
  rfl
 have s1:=Safe.next hs (A.ngoal rfl) E.w0.tape e1
 have r1:Run Qg Goal (qF E 1 0 xs) E.cs E.w0 _ E.cs _:= .step E.w0.tape _ (A.ngoal rfl) e1 (.refl _ _ _)
 have r2:=A.slide (q5_sl (.int .i64 E.first) (.int .i64 E.n) E.x2 (upd xs 6 (slcQ E.w0.heap.size E.n)) E.cs) (q5_to (.int .i64 E.first) (.int .i64 E.n) E.x2 (upd xs 6 (slcQ E.w0.heap.size E.n)) E.cs) {E.w0 with heap:=E.w0.heap.push (.cells (Array.replicate E.n (.int .u64 0)) 44)}
 refine ⟨upd xs 6 (slcQ E.w0.heap.size E.n),_,r1.trans r2,Safe.run s1 r2,rfl,⟨by simp,fun r hr=>?_⟩,Nat.le_refl _,⟨Array.replicate E.n (.int .u64 0),by simp,by simp,fun k hk=>absurd hk (by omega)⟩,fun k hk=>absurd hk (by omega)⟩
 simp [Array.getElem?_push];omega
end
theorem plan {L:Lim} {T:Tab} {Goal:Frame→List Frame→World→Prop} (A:Lean1 L T Goal) {x0 x1 x2 y2:Value} {ρ:Nat→Nat→Prop} {w0 v0:World} {cs:List Frame}
  (hs:Safe Qg Goal (Frame.enter Qg fQ #[x0,x1,x2] .normal) cs w0)
  (bi:BiU ρ) (dom: ∀r s,ρ r s→r< w0.heap.size∧s< v0.heap.size) (obj: ∀r s,ρ r s→∃o q,w0.heap[r]? =some o∧v0.heap[s]? =some q∧OR L (oldT ρ) o q) (txt:VR L ρ x2 y2) (glob: ∀g,g< Tryz.prog.globals.size→ρ g g):
  ∃(first:Int) (n:Nat),x0= .int .i64 first∧x1= .int .i64 n∧(n=1∨n=4∨n=16∨n=64)∧
   ∃a d xs w,Run Qg Goal (Frame.enter Qg fQ #[x0,x1,x2] .normal) cs w0 (qRet (.int .i64 first) (.int .i64 n) x2 xs cs) cs w∧EntryOk L (⟨first,n,x2,y2,ρ,w0,v0,cs⟩:Entry L)∧Done1 Goal (⟨first,n,x2,y2,ρ,w0,v0,cs⟩:Entry L) a d xs w:=by
 have r0:=A.slide (q0_sl x0 x1 x2 cs) (q0_to x0 x1 x2 cs) w0
 have s0:=Safe.run hs r0
 obtain ⟨first,rfl⟩:=q0_int _ _ _ _ _ (A.isGo s0 rfl)
 have r1:=A.slide (q1_sl x1 x2 first un cs) (q1_to x1 x2 first un cs) w0
 have s1:=Safe.run s0 r1
 obtain ⟨n,rfl⟩:=q1_int _ _ _ _ _ _ (A.isGo s1 rfl)
 have r2:=A.slide (q2_sl (.int .i64 first) x2 n (upd un 16 (.bool (decide (first< 0)))) cs) (q2_to (.int .i64 first) x2 n (upd un 16 (.bool (decide (first< 0)))) cs) w0
 have s2:=Safe.run s1 r2
 generalize upd (upd un 16 (.bool (decide (first< 0)))) 17 (.bool (decide (n< 0)))=X at r2 s2
 have fin: ∀(k:Nat) (xs:Nat→Value),k≤64→n=k→Run Qg Goal (frQ 0 6 (qT (.int .i64 first) (.int .i64 n) x2 (xsC (decide (n=1)) (decide (n=4)) (decide (n=16)) (decide (n=64)) X))) cs w0 (frQ 1 0 (qT (.int .i64 first) (.int .i64 n) x2 xs)) cs w0→
   (∀r,feed Qg (pendS (lg (frQ 1 0 (qT (.int .i64 first) (.int .i64 n) x2 xs)) cs)) [.ref r]=some ([.nw (.cells (Array.replicate k (.int .u64 0)) 44)],.inl (.value (slcQ r k))))→
   ∃a d xs w,Run Qg Goal (Frame.enter Qg fQ #[.int .i64 first,.int .i64 n,x2] .normal) cs w0 (qRet (.int .i64 first) (.int .i64 k) x2 xs cs) cs w∧EntryOk L (⟨first,k,x2,y2,ρ,w0,v0,cs⟩:Entry L)∧Done1 Goal (⟨first,k,x2,y2,ρ,w0,v0,cs⟩:Entry L) a d xs w:=by
  intro k xs hk hnk r3 hf
  subst hnk
  have K:EntryOk L (⟨first,k,x2,y2,ρ,w0,v0,cs⟩:Entry L):=⟨bi,dom,obj,txt,glob⟩
  obtain ⟨xs1,w1,r4,H⟩:=head_begin A K (Safe.run s2 r3) hf
  obtain ⟨a,xs2,w2,r5,H2⟩:=head_all A K hk k 0 _ xs1 w1 rfl H
  obtain ⟨xs3,r6,D⟩:=head_end A H2
  exact ⟨a,_,xs3,w2,r0.trans (r1.trans (r2.trans (r3.trans (r4.trans (r5.trans r6))))),K,D⟩
 by_cases h1:n=1
 ·subst h1
  exact ⟨first,1,rfl,rfl,.inl rfl,fin 1 _ (by omega) rfl (A.slide (q3a_sl (.int .i64 first) (.int .i64 1) x2 X cs _ _ _) (q3a_to (.int .i64 first) (.int .i64 1) x2 X cs _ _ _) w0) (fun r=>q4_feed_1 ..)⟩
 by_cases h4:n=4
 ·subst h4
  exact ⟨first,4,rfl,rfl,.inr (.inl rfl),fin 4 _ (by omega) rfl (A.slide (q3b_sl (.int .i64 first) (.int .i64 4) x2 X cs _ _) (q3b_to (.int .i64 first) (.int .i64 4) x2 X cs _ _) w0) (fun r=>q4_feed_4 ..)⟩
 by_cases h16:n=16
 ·subst h16
  exact ⟨first,16,rfl,rfl,.inr (.inr (.inl rfl)),fin 16 _ (by omega) rfl (A.slide (q3c_sl (.int .i64 first) (.int .i64 16) x2 X cs _) (q3c_to (.int .i64 first) (.int .i64 16) x2 X cs _) w0) (fun r=>q4_feed_16 ..)⟩
 by_cases h64:n=64
 ·subst h64
  exact ⟨first,64,rfl,rfl,.inr (.inr (.inr rfl)),fin 64 _ (by omega) rfl (A.slide (q3d_sl (.int .i64 first) (.int .i64 64) x2 X cs) (q3d_to (.int .i64 first) (.int .i64 64) x2 X cs) w0) (fun r=>q4_feed_64 ..)⟩
 ·exfalso
  rw [decide_eq_false h1,decide_eq_false h4,decide_eq_false h16,decide_eq_false h64] at s2
  have rb:=A.slide (q3e_sl (.int .i64 first) (.int .i64 n) x2 X cs) (fr':=qBad (.int .i64 first) (.int .i64 n) x2 X cs) rfl w0
  have:=A.isGo (Safe.run s2 rb) (q3e_fn ..)
  rw [q3e_ended] at this
  cases this
end Go.Proofs.YtldmcdeibiclkaaGreatDoor.U
end
section
namespace Go.Proofs.YtldmcdeibiclkaaGreatDoor.U
open Go.Conc
open Go.ConcN (upd upd_same upd_ne)
structure GSt where
 fr:Frame
 cs:List Frame
 w:World
def Nxt (Q:Program) (Goal:Frame→List Frame→World→Prop) (s1 s:GSt):Prop:=∃t es,¬ Goal s.fr s.cs s.w∧stepG Q true (lg s.fr s.cs) {s.w with tape:=t}= .go (lg s1.fr s1.cs) s1.w es
theorem safe_acc {Q:Program} {Goal:Frame→List Frame→World→Prop} {fr:Frame} {cs:List Frame} {w:World} (h:Safe Q Goal fr cs w):Acc (Nxt Q Goal) ⟨fr,cs,w⟩:=by
 refine Safe.rec' (X:=fun fr cs w=>Acc (Nxt Q Goal) ⟨fr,cs,w⟩) ?_ h
 intro fr cs w _ ih
 refine Acc.intro _ fun s1 h1=>?_
 obtain ⟨t,es,hn,e⟩:=h1
 exact ih t s1.fr s1.cs s1.w es hn e
theorem cr_string {L:Lim} {τ:Tri} {c:Col} {s:ByteArray} {y:Value} (h:CR L τ c (.string s) y):y= .string s:=by
 cases c with
 |any=>cases h;rfl
 |own=>cases h;rfl
 |box=>cases h;rfl
 |yld=>rcases h with ⟨h,_⟩|⟨_,_,h,_⟩<;> cases h
 |itr=>rcases h with ⟨h,_⟩|⟨h,_⟩|⟨_,_,_,h,_⟩<;> cases h
 |loc=>rcases h with ⟨h,_⟩|⟨h,_⟩|⟨_,_,_,h,_⟩<;> cases h
theorem cr_int {L:Lim} {τ:Tri} {c:Col} {k:IntKind} {n:Int} {y:Value} (h:CR L τ c (.int k n) y):y= .int k n:=by
 cases c with
 |any=>cases h;rfl
 |own=>cases h;rfl
 |box=>cases h;rfl
 |yld=>rcases h with ⟨h,_⟩|⟨_,_,h,_⟩<;> cases h
 |itr=>rcases h with ⟨h,_⟩|⟨h,_⟩|⟨_,_,_,h,_⟩<;> cases h
 |loc=>rcases h with ⟨h,_⟩|⟨h,_⟩|⟨_,_,_,h,_⟩<;> cases h
section
variable {L:Lim} {T:Tab} {Goal:Frame→List Frame→World→Prop}
structure InCall (L:Lim) (T:Tab) (Goal:Frame→List Frame→World→Prop) (E:Entry L) (frQ:Frame) (D:List Frame) (ow:Nat→Prop) (s:GSt) (g:Goroutine) (v:World):Prop where
 safe:Safe Qg Goal s.fr s.cs s.w
 sub: ∃sub,s.cs=sub++frQ::E.cs
 sim: ∃τ,Sim Tryz.prog Gg L T τ (frQ::E.cs++ [wall]) D (lg s.fr s.cs) s.w g v∧(∀r t,τ.un r t→E.ρ r t∨ow t)∧∀r t,τ.mine r t→ow t∧E.w0.heap.size≤r
 keeps:Keeps E s.w
theorem InCall.running {E:Entry L} {frQ:Frame} {D:List Frame} {ow:Nat→Prop} {s:GSt} {g:Goroutine} {v:World} (h:InCall L T Goal E frQ D ow s g v):g.status= .running:=by
 obtain ⟨τ,hS,_⟩:=h.sim
 exact hS.g.status.2
theorem InCall.acc {E:Entry L} {frQ:Frame} {D:List Frame} {ow:Nat→Prop} {s:GSt} {g:Goroutine} {v:World} (h:InCall L T Goal E frQ D ow s g v):Acc (Nxt Qg Goal) s:=safe_acc h.safe
theorem InCall.low {E:Entry L} {frQ:Frame} {D:List Frame} {ow:Nat→Prop} {s:GSt} {g:Goroutine} {v:World} (h:InCall L T Goal E frQ D ow s g v) (ow':Nat→Prop) (ho: ∀t,ow t→ow' t):InCall L T Goal E frQ D ow' s g v:=by
 obtain ⟨τ,hS,h1,h2⟩:=h.sim
 exact ⟨h.safe,h.sub,⟨τ,hS,fun r t hx=>(h1 r t hx).imp id (ho t),fun r t hx=>⟨ho t (h2 r t hx).1,(h2 r t hx).2⟩⟩,h.keeps⟩
theorem InCall.stable {E:Entry L} {frQ:Frame} {D:List Frame} {ow:Nat→Prop} {s:GSt} {g:Goroutine} {v v2:World} (h:InCall L T Goal E frQ D ow s g v) (hs:v.heap.size≤v2.heap.size) (ho: ∀t,(∃r,E.ρ r t)∨ow t→v2.heap[t]? =v.heap[t]?):InCall L T Goal E frQ D ow s g v2:=by
 obtain ⟨τ,hS,h1,h2⟩:=h.sim
 refine ⟨h.safe,h.sub,⟨τ,⟨hS.g,hS.bi,hS.flat,fun r t hx=>⟨(hS.dom r t hx).1,Nat.lt_of_lt_of_le (hS.dom r t hx).2 hs⟩,fun r t hx=>?_⟩,h1,h2⟩,h.keeps⟩
 obtain ⟨o,q,e1,e2,e3⟩:=hS.obj r t hx
 refine ⟨o,q,e1,?_,e3⟩
 rw [ho t ((h1 r t hx).imp (fun x=>⟨r,x⟩) id)]
 exact e2
structure WDid (E:Entry L) (ow ow':Nat→Prop) (v v1:World) (fs:Array Event):Prop where
 grow:v.heap.size≤v1.heap.size
 tape:v1.tape=v.tape
 os:v1.os=v.os
 output:v1.output=v.output
 away: ∀t,t< v.heap.size→¬ ow t→v1.heap[t]? =v.heap[t]?
 own: ∀t,ow' t↔ow t∨(v.heap.size≤t∧t< v1.heap.size)
 evs: ∀e∈fs,EvIn (fun t=>(∃r,E.ρ r t)∨ow' t) ow' e
theorem InCall.step (A:Lean1 L T Goal) {E:Entry L} {frQ:Frame} {c0:Frame} {D:List Frame} {ow:Nat→Prop} {s:GSt} {g:Goroutine} {v:World} (h:InCall L T Goal E frQ (c0::D) ow s g v):
  (∃g1 v1 fs s1,stepG Tryz.prog false g v= .go g1 v1 fs∧InCall L T Goal E frQ (c0::D) (fun t=>ow t∨(v.heap.size≤t∧t< v1.heap.size)) s1 g1 v1∧Nxt Qg Goal s1 s∧WDid E ow (fun t=>ow t∨(v.heap.size≤t∧t< v1.heap.size)) v v1 fs)
  ∨∃x y fs w1,stepG Tryz.prog false g v= .go {frame:=c0.finish y,callers:=D,status:= .running,dying:=none} v fs∧Safe Qg Goal (frQ.finish x) E.cs w1∧Keeps E w1∧(∀t,x= .string t→y= .string t)∧(∀e,x= .int .u64 e→y= .int .u64 e)∧∀e∈fs,EvIn (fun t=>(∃r,E.ρ r t)∨ow t) ow e:=by
 obtain ⟨sub,hsub⟩:=h.sub
 obtain ⟨τ,hS,hun,hmi⟩:=h.sim
 obtain ⟨fr,cs,w⟩:=s
 have hsafe:Safe Qg Goal fr cs w:=h.safe
 simp only at hsub hS
 have hng: ¬ Goal fr cs w:=fun hg=>by have:=(A.goal _ _ _ hg).1;rw [hsub] at this;simp at this
 have hn:fr.fn≠T.pool:=fun e=>by
  have key: ∀a b,TopR Tryz.prog Gg L T τ a b→a.fn=T.pool→False:=by
   intro a b hx e
   cases hx with
   |run hx=>exact hx.np e
   |pool hp _ _=>exact A.noPool hp
  exact key _ _ hS.g.frame e
 obtain ⟨fr1,cs1,w1,es,e,hfi,hsafe1⟩:=Safe.goes hsafe hng (tapeOf w v)
 by_cases hl:fr.mode= .returning∧fr.defers= []∧cs=frQ::E.cs
 ·obtain ⟨hm,hd,rfl⟩:=hl
  obtain ⟨x,fn,hfn,hr,rfl,rfl,rfl⟩:=last_step A.stat hS hn hm hd _ e
  obtain ⟨y,fs,hxy,hev,hcall,hkind,_,hst⟩:=hS.last A.stat false hn ⟨hm,hd,rfl⟩ hfn hr
  refine .inr ⟨x,y,fs,_,?_,hsafe1,h.keeps,fun t ht=>cr_string (ht ▸ hxy),fun e he=>cr_int (he ▸ hxy),fun e he=>(hev e he).mono (fun t ⟨r,hx⟩=>(hun r t hx).imp (fun x=>⟨r,x⟩) id) (fun t ⟨r,hx⟩=>(hmi r t hx).1)⟩
  rw [hst]
  simp only [doReturn,hkind,GStep.after,Array.append_empty]
 ·obtain ⟨h1,v1,fs,τ1,e1,hS1,hD,hgr⟩:=hS.step A.stat false hn (fun x=>hl ⟨x.1,x.2.1,List.append_cancel_right ((show cs++ [wall]=frQ::E.cs++ [wall] from x.2.2).trans (by simp))⟩) e hfi
  obtain ⟨cs2,ds2,hg2,_,_,_⟩:=hS1.g.parts
  have hcs1:cs1=cs2++frQ::E.cs:=by
   have:=congrArg Goroutine.callers hg2
   have e2:cs1++ [wall]=(cs2++frQ::E.cs)++ [wall]:=(show cs1++ [wall]=cs2++(frQ::E.cs++ [wall]) from this).trans (by simp)
   exact List.append_cancel_right e2
  have hke:Keeps E w:=h.keeps
  have hk1:Keeps E w1:=⟨Nat.le_trans hke.1 hgr.grow,fun r hr=>by rw [hgr.away0 r (Nat.lt_of_lt_of_le hr hke.1) (fun t hx=>by have:=(hmi r t hx).2;omega),hke.2 r hr]⟩
  refine .inl ⟨h1,v1,fs,⟨fr1,cs1,w1⟩,e1,⟨hsafe1,⟨cs2,hcs1⟩,⟨τ1,hS1,fun r t hx=>?_,fun r t hx=>?_⟩,hk1⟩,⟨_,_,hng,e⟩,hD.grow,hD.tape,hD.os,hD.output,fun t ht hno=>hD.away t ht fun r hx=>hno (hmi r t hx).1,fun t=>Iff.rfl,fun ev hev=>(hD.evs ev hev).mono ?_ ?_⟩
  ·rcases hgr.un r t hx with hx|hx
   ·exact (hun r t hx).imp id .inl
   ·exact .inr (.inr ⟨hx.2.2.1,hx.2.2.2⟩)
  ·rcases hgr.mine r t hx with hx|hx
   ·exact ⟨.inl (hmi r t hx).1,(hmi r t hx).2⟩
   ·exact ⟨.inr ⟨hx.2.2.1,hx.2.2.2⟩,Nat.le_trans hke.1 hx.1⟩
  ·rintro t (⟨r,hx⟩|hx)
   ·exact (hun r t hx).imp (fun x=>⟨r,x⟩) .inl
   ·exact .inr (.inr hx)
  ·rintro t (⟨r,hx⟩|hx)
   ·exact .inl (hmi r t hx).1
   ·exact .inr hx
end
end Go.Proofs.YtldmcdeibiclkaaGreatDoor.U
end
section
namespace Go.Proofs.YtldmcdeibiclkaaGreatDoor.U
open Go.Conc
set_option maxRecDepth 100000
noncomputable abbrev Pg:Program:=Tryz.prog
def ptr (b:Nat):Value:= .pointer (some ⟨b,0,none⟩)
def mkE (m:Mark):Event:=⟨.mark m,false,true⟩
noncomputable def gIn (f:FuncId) (args:Array Value) (cs:List Frame):Goroutine:={frame:=Frame.enter Pg f args .normal,callers:=cs,status:= .running,dying:=none}
def shWg:Ans:= .shp (some (188,2))
def unit:Value:= .tuple #[]
def fin (g:Goroutine) (v:Value):Goroutine:=gOf g (g.frame.finish v)
section
variable (cs:List Frame) (wg:Nat)
noncomputable def an0:Goroutine:=gIn 88 #[ptr wg,.int .i64 (-1)] cs
theorem an0_slid:Slid Pg false 11 (an0 cs wg):=fun w=>by kernel_rfl
noncomputable def anConv:Goroutine:=nxN Pg false 11 (an0 cs wg)
theorem anConv_op:AtOp Pg false (anConv cs wg):=⟨fun w=>by kernel_rfl,by kernel_rfl,by kernel_rfl⟩
theorem anConv_feed:feed Pg (pendS (anConv cs wg)) [shWg,shWg]=some ([.shp wg,.shp wg],.inl (.value (ptr wg))):=by kernel_rfl
noncomputable def anRelm:Goroutine:=fin (anConv cs wg) (ptr wg)
theorem anRelm_step (w:World):stepG Pg false (anRelm cs wg) w= .go (fin (anRelm cs wg) unit) w #[mkE (.releaseMerge ⟨wg,0,none⟩)]:=by kernel_rfl
theorem anRelm_status:(anRelm cs wg).status= .running:=by kernel_rfl
theorem anRelm_slid:Slid Pg false 3 (fin (anRelm cs wg) unit):=fun w=>by kernel_rfl
noncomputable def anDis:Goroutine:=nxN Pg false 3 (fin (anRelm cs wg) unit)
theorem anDis_step (w:World):stepG Pg false (anDis cs wg) w= .go (fin (anDis cs wg) unit) w #[mkE .disable]:=by kernel_rfl
theorem anDis_status:(anDis cs wg).status= .running:=by kernel_rfl
theorem anDis_slid:Slid Pg false 11 (fin (anDis cs wg) unit):=fun w=>by kernel_rfl
noncomputable def anBub:Goroutine:=nxN Pg false 11 (fin (anDis cs wg) unit)
theorem anBub_step (w:World):stepG Pg false (anBub cs wg) w= .go (fin (anBub cs wg) (.bool false)) w #[]:=by kernel_rfl
theorem anBub_status:(anBub cs wg).status= .running:=by kernel_rfl
theorem anBub_slid:Slid Pg false 22 (fin (anBub cs wg) (.bool false)):=fun w=>by kernel_rfl
noncomputable def anAdd:Goroutine:=nxN Pg false 22 (fin (anBub cs wg) (.bool false))
theorem anDis_glide:Glide Pg false (11+(1+22)) (fin (anDis cs wg) unit) (anAdd cs wg):=(anDis_slid cs wg).glide.trans ((Glide.one (anBub_status cs wg) (anBub_step cs wg)).trans (anBub_slid cs wg).glide)
theorem anAdd_op:AtOp Pg false (anAdd cs wg):=⟨fun w=>by kernel_rfl,by kernel_rfl,by kernel_rfl⟩
def less (st:Int):Int:=IntKind.u64.wrap (st+18446744069414584320)
theorem anAdd_feed (st:Int):feed Pg (pendS (anAdd cs wg)) [.val (.int .u64 st)]=some ([.mk (.extern 148),.ld .atomic ⟨wg,0,none⟩,.st .atomic ⟨wg,0,none⟩ (.int .u64 (less st))],.inl (.value (.int .u64 (less st)))):=by kernel_rfl
theorem anAdd_seen (a:Addr):seen Pg (anAdd cs wg).frame.fn #[mkE (.extern 148),⟨.cell a,false,true⟩,⟨.cell a,true,true⟩]=#[⟨.cell a,false,true⟩,⟨.cell a,true,true⟩]:=by kernel_rfl
noncomputable def anAdded (st:Int):Goroutine:=fin (anAdd cs wg) (.int .u64 st)
end
end Go.Proofs.YtldmcdeibiclkaaGreatDoor.U
end
section
namespace Go.Proofs.YtldmcdeibiclkaaGreatDoor.U
open Go.Conc
set_option maxRecDepth 100000
section
variable (c:Frame) (cs:List Frame) (wg:Nat)
def back:Goroutine:={frame:=c.finish unit,callers:=cs,status:= .running,dying:=none}
noncomputable def anEn (st:Int):Goroutine:=nxN Pg false 87 (anAdded (c::cs) wg st)
noncomputable def enabled (g:Goroutine):Goroutine:={g with frame:={g.frame with defers:=[]}}
theorem mute_en: ∀e∈#[mkE .enable],Event.mute e=true:=by intro e he;simp [mkE] at he;subst he;rfl
theorem anEn_slid_0:Slid Pg false 87 (anAdded (c::cs) wg 0):=fun w=>by kernel_rfl
theorem anEn_step_0 (w:World):stepG Pg false (anEn c cs wg 0) w= .go (enabled (anEn c cs wg 0)) w #[mkE .enable]:=by kernel_rfl
theorem anEn_back_0 (w:World):stepG Pg false (enabled (anEn c cs wg 0)) w= .go (back c cs) w #[]:=by kernel_rfl
theorem leave_0 {q:Nat} (h:QuitsD Pg q 0 (back c cs)):QuitsD Pg (87+((1+q)+1)) 1 (anAdded (c::cs) wg 0):=
 QuitsD.glide (anEn_slid_0 c cs wg).glide (QuitsD.marked (by kernel_rfl) (anEn_step_0 c cs wg) mute_en (QuitsD.glide (Glide.one (by kernel_rfl) (anEn_back_0 c cs wg)) h))
theorem anEn_slid_4294967296:Slid Pg false 87 (anAdded (c::cs) wg 4294967296):=fun w=>by kernel_rfl
theorem anEn_step_4294967296 (w:World):stepG Pg false (anEn c cs wg 4294967296) w= .go (enabled (anEn c cs wg 4294967296)) w #[mkE .enable]:=by kernel_rfl
theorem anEn_back_4294967296 (w:World):stepG Pg false (enabled (anEn c cs wg 4294967296)) w= .go (back c cs) w #[]:=by kernel_rfl
theorem leave_4294967296 {q:Nat} (h:QuitsD Pg q 0 (back c cs)):QuitsD Pg (87+((1+q)+1)) 1 (anAdded (c::cs) wg 4294967296):=
 QuitsD.glide (anEn_slid_4294967296 c cs wg).glide (QuitsD.marked (by kernel_rfl) (anEn_step_4294967296 c cs wg) mute_en (QuitsD.glide (Glide.one (by kernel_rfl) (anEn_back_4294967296 c cs wg)) h))
theorem anEn_slid_8589934592:Slid Pg false 87 (anAdded (c::cs) wg 8589934592):=fun w=>by kernel_rfl
theorem anEn_step_8589934592 (w:World):stepG Pg false (anEn c cs wg 8589934592) w= .go (enabled (anEn c cs wg 8589934592)) w #[mkE .enable]:=by kernel_rfl
theorem anEn_back_8589934592 (w:World):stepG Pg false (enabled (anEn c cs wg 8589934592)) w= .go (back c cs) w #[]:=by kernel_rfl
theorem leave_8589934592 {q:Nat} (h:QuitsD Pg q 0 (back c cs)):QuitsD Pg (87+((1+q)+1)) 1 (anAdded (c::cs) wg 8589934592):=
 QuitsD.glide (anEn_slid_8589934592 c cs wg).glide (QuitsD.marked (by kernel_rfl) (anEn_step_8589934592 c cs wg) mute_en (QuitsD.glide (Glide.one (by kernel_rfl) (anEn_back_8589934592 c cs wg)) h))
theorem anEn_slid_12884901888:Slid Pg false 87 (anAdded (c::cs) wg 12884901888):=fun w=>by kernel_rfl
theorem anEn_step_12884901888 (w:World):stepG Pg false (anEn c cs wg 12884901888) w= .go (enabled (anEn c cs wg 12884901888)) w #[mkE .enable]:=by kernel_rfl
theorem anEn_back_12884901888 (w:World):stepG Pg false (enabled (anEn c cs wg 12884901888)) w= .go (back c cs) w #[]:=by kernel_rfl
theorem leave_12884901888 {q:Nat} (h:QuitsD Pg q 0 (back c cs)):QuitsD Pg (87+((1+q)+1)) 1 (anAdded (c::cs) wg 12884901888):=
 QuitsD.glide (anEn_slid_12884901888 c cs wg).glide (QuitsD.marked (by kernel_rfl) (anEn_step_12884901888 c cs wg) mute_en (QuitsD.glide (Glide.one (by kernel_rfl) (anEn_back_12884901888 c cs wg)) h))
theorem anEn_slid_4294967297:Slid Pg false 87 (anAdded (c::cs) wg 4294967297):=fun w=>by kernel_rfl
theorem anEn_step_4294967297 (w:World):stepG Pg false (anEn c cs wg 4294967297) w= .go (enabled (anEn c cs wg 4294967297)) w #[mkE .enable]:=by kernel_rfl
theorem anEn_back_4294967297 (w:World):stepG Pg false (enabled (anEn c cs wg 4294967297)) w= .go (back c cs) w #[]:=by kernel_rfl
theorem leave_4294967297 {q:Nat} (h:QuitsD Pg q 0 (back c cs)):QuitsD Pg (87+((1+q)+1)) 1 (anAdded (c::cs) wg 4294967297):=
 QuitsD.glide (anEn_slid_4294967297 c cs wg).glide (QuitsD.marked (by kernel_rfl) (anEn_step_4294967297 c cs wg) mute_en (QuitsD.glide (Glide.one (by kernel_rfl) (anEn_back_4294967297 c cs wg)) h))
theorem anEn_slid_8589934593:Slid Pg false 87 (anAdded (c::cs) wg 8589934593):=fun w=>by kernel_rfl
theorem anEn_step_8589934593 (w:World):stepG Pg false (anEn c cs wg 8589934593) w= .go (enabled (anEn c cs wg 8589934593)) w #[mkE .enable]:=by kernel_rfl
theorem anEn_back_8589934593 (w:World):stepG Pg false (enabled (anEn c cs wg 8589934593)) w= .go (back c cs) w #[]:=by kernel_rfl
theorem leave_8589934593 {q:Nat} (h:QuitsD Pg q 0 (back c cs)):QuitsD Pg (87+((1+q)+1)) 1 (anAdded (c::cs) wg 8589934593):=
 QuitsD.glide (anEn_slid_8589934593 c cs wg).glide (QuitsD.marked (by kernel_rfl) (anEn_step_8589934593 c cs wg) mute_en (QuitsD.glide (Glide.one (by kernel_rfl) (anEn_back_8589934593 c cs wg)) h))
theorem anEn_slid_12884901889:Slid Pg false 87 (anAdded (c::cs) wg 12884901889):=fun w=>by kernel_rfl
theorem anEn_step_12884901889 (w:World):stepG Pg false (anEn c cs wg 12884901889) w= .go (enabled (anEn c cs wg 12884901889)) w #[mkE .enable]:=by kernel_rfl
theorem anEn_back_12884901889 (w:World):stepG Pg false (enabled (anEn c cs wg 12884901889)) w= .go (back c cs) w #[]:=by kernel_rfl
theorem leave_12884901889 {q:Nat} (h:QuitsD Pg q 0 (back c cs)):QuitsD Pg (87+((1+q)+1)) 1 (anAdded (c::cs) wg 12884901889):=
 QuitsD.glide (anEn_slid_12884901889 c cs wg).glide (QuitsD.marked (by kernel_rfl) (anEn_step_12884901889 c cs wg) mute_en (QuitsD.glide (Glide.one (by kernel_rfl) (anEn_back_12884901889 c cs wg)) h))
theorem alLd_slid:Slid Pg false 103 (anAdded (c::cs) wg 1):=fun w=>by kernel_rfl
noncomputable def alLd:Goroutine:=nxN Pg false 103 (anAdded (c::cs) wg 1)
theorem alLd_op:AtOp Pg false (alLd c cs wg):=⟨fun w=>by kernel_rfl,by kernel_rfl,by kernel_rfl⟩
theorem alLd_feed:feed Pg (pendS (alLd c cs wg)) [.val (.int .u64 1)]=some ([.mk (.extern 149),.ld .atomic ⟨wg,0,none⟩],.inl (.value (.int .u64 1))):=by kernel_rfl
theorem alLd_seen (a:Addr):seen Pg (alLd c cs wg).frame.fn #[mkE (.extern 149),⟨.cell a,false,true⟩]=#[⟨.cell a,false,true⟩]:=by kernel_rfl
theorem alSt_slid:Slid Pg false 20 (fin (alLd c cs wg) (.int .u64 1)):=fun w=>by kernel_rfl
noncomputable def alSt:Goroutine:=nxN Pg false 20 (fin (alLd c cs wg) (.int .u64 1))
theorem alSt_op:AtOp Pg false (alSt c cs wg):=⟨fun w=>by kernel_rfl,by kernel_rfl,by kernel_rfl⟩
theorem alSt_feed:feed Pg (pendS (alSt c cs wg)) []=some ([.mk (.extern 150),.st .atomic ⟨wg,0,none⟩ (.int .u64 0)],.inl (.value unit)):=by kernel_rfl
theorem alSt_seen (a:Addr):seen Pg (alSt c cs wg).frame.fn #[mkE (.extern 150),⟨.cell a,true,true⟩]=#[⟨.cell a,true,true⟩]:=by kernel_rfl
theorem alSem_slid:Slid Pg false 27 (fin (alSt c cs wg) unit):=fun w=>by kernel_rfl
noncomputable def alSem:Goroutine:=nxN Pg false 27 (fin (alSt c cs wg) unit)
theorem alSem_op:AtOp Pg false (alSem c cs wg):=⟨fun w=>by kernel_rfl,by kernel_rfl,by kernel_rfl⟩
theorem alSem_wakes:mayWake Pg (alSem c cs wg)=true:=by kernel_rfl
theorem alSem_feed:feed Pg (pendS (alSem c cs wg)) [.val (.int .u32 0)]=some ([.mk (.extern 130),.mk .disable,.ld .atomic ⟨wg,1,none⟩,.st .atomic ⟨wg,1,none⟩ (.int .u32 1),.mk .enable],.inl (.value unit)):=by kernel_rfl
theorem alSem_seen (a:Addr):seen Pg (alSem c cs wg).frame.fn #[mkE (.extern 130),mkE .disable,⟨.cell a,false,true⟩,⟨.cell a,true,true⟩,mkE .enable]=#[mkE .disable,⟨.cell a,false,true⟩,⟨.cell a,true,true⟩,mkE .enable]:=by kernel_rfl
theorem alEn_slid:Slid Pg false 17 (fin (alSem c cs wg) unit):=fun w=>by kernel_rfl
noncomputable def alEn:Goroutine:=nxN Pg false 17 (fin (alSem c cs wg) unit)
theorem alEn_step (w:World):stepG Pg false (alEn c cs wg) w= .go (enabled (alEn c cs wg)) w #[mkE .enable]:=by kernel_rfl
theorem alEn_back (w:World):stepG Pg false (enabled (alEn c cs wg)) w= .go (back c cs) w #[]:=by kernel_rfl
theorem leave_last {q:Nat} (h:QuitsD Pg q 0 (back c cs)):QuitsD Pg (17+((1+q)+1)) 1 (fin (alSem c cs wg) unit):=
 QuitsD.glide (alEn_slid c cs wg).glide (QuitsD.marked (by kernel_rfl) (alEn_step c cs wg) mute_en (QuitsD.glide (Glide.one (by kernel_rfl) (alEn_back c cs wg)) h))
end
end Go.Proofs.YtldmcdeibiclkaaGreatDoor.U
end
