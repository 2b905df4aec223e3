/-
  Toward: treed_holds, each node's digest is that of its children's, for every argument of Treed. GOROUTINE 0 BESIDE LEAVERS, STEP BY STEP: 'To0': it comes from here to there, whoever leaves meanwhile; 'Θ': what is held of the trace.
  tree.ofSegments UNTIL ITS FIRST go, beside leavers; the pool's machine BEGINS.
-/
import Derived.Test.YtldmcdeibiclkaaGreatDoorC26
set_option linter.unusedVariables false
set_option linter.unusedSimpArgs false
set_option maxRecDepth 4000
section
namespace Go.Proofs.YtldmcdeibiclkaaGreatDoor.U
open Go.Conc
open Go.ConcN (upd upd_same upd_ne sumTo sumTo_upd sumTo_congr sumTo_le le_sumTo RelBy)
structure Kept (Θ:Nat→Trace→Prop) (Ok:Nat→Event→Prop) (c0:Nat):Prop where
 own: ∀(B B':Nat) (t:Trace) (fn:FuncId) (pos:String) (es:Array Event),Θ B t→B≤B'→(∀e∈es,Ok B' e)→Θ B' (t++MemOp.ofEvents 0 fn pos es)
 mute: ∀(B i:Nat) (t:Trace) (fn:FuncId) (pos:String) (es:Array Event),0< i→Θ B t→(∀e∈es,e.mute=true)→Θ B (t++MemOp.ofEvents i fn pos es)
 recv: ∀(B:Nat) (t:Trace) (fn:FuncId) (pos:String) (l:List MemAct),c0< B→Θ B t→(∀a∈l,(∃r cap,a= .recv c0 r cap)∨(∃r,a= .recvDone c0 r)∨a= .recvClosed c0)→Θ B (t++(l.map fun a=>({g:=0,fn,pos,act:=a}:MemOp)).toArray)
section
variable (Θ:Nat→Trace→Prop) (n:Nat)
structure At0 (h:Goroutine) (v:World) (gs:Array Goroutine) (u:World) (t:Trace) (q:Nat→Nat):Prop where
 main:gs[0]? =some h
 world: ∃d,u=v.at d
 leavers:Leavers Pg t gs q
 trace:Θ v.heap.size t
 size:gs.size=n
def To0 (h:Goroutine) (v:World) (h':Goroutine) (v':World):Prop:=
 ∀gs u sl t q,At0 Θ n h v gs u t q→∃N gs' u' sl' t' q',runNT Pg N (crowd gs u sl) t=(.next (crowd gs' u' sl'),t')∧At0 Θ n h' v' gs' u' t' q'
end
section
variable {Θ:Nat→Trace→Prop} {Ok:Nat→Event→Prop} {n c0:Nat} {h h1 h2:Goroutine} {v v1 v2:World}
theorem To0.refl (h:Goroutine) (v:World):To0 Θ n h v h v:=fun gs u sl t q H=>⟨0,gs,u,sl,t,q,rfl,H⟩
theorem To0.trans (a:To0 Θ n h v h1 v1) (b:To0 Θ n h1 v1 h2 v2):To0 Θ n h v h2 v2:=by
 intro gs u sl t q H
 obtain ⟨N,gs1,u1,sl1,t1,q1,r1,H1⟩:=a gs u sl t q H
 obtain ⟨K,gs2,u2,sl2,t2,q2,r2,H2⟩:=b gs1 u1 sl1 t1 q1 H1
 exact ⟨N+K,gs2,u2,sl2,t2,q2,by rw [runNT_add,r1];exact r2,H2⟩
theorem To0.one (K:Kept Θ Ok c0) (hs:h.status= .running)
  (hstep: ∀(gs:Array Goroutine) (d:Nat) (sl:Option (Nat×Nat)) (t:Trace) (q:Nat→Nat),gs.size=n→gs[0]? =some h→Leavers Pg t gs q→Θ v.heap.size t→∃gs' d' ops,runT Pg (crowd gs (v.at d) sl) 0=(.next (crowd gs' (v1.at d') sl),ops)∧gs'[0]? =some h1∧gs'.size=gs.size∧Leavers Pg (t++ops) gs' q∧Θ v1.heap.size (t++ops)):To0 Θ n h v h1 v1:=by
 have key: ∀(M:Nat) gs u sl t q,sumTo gs.size q≤M→At0 Θ n h v gs u t q→∃N gs' u' sl' t' q',runNT Pg N (crowd gs u sl) t=(.next (crowd gs' u' sl'),t')∧At0 Θ n h1 v1 gs' u' t' q':=by
  intro M
  induction M with
  |zero=>
   intro gs u sl t q hM H
   obtain ⟨du,rfl⟩:=H.world
   obtain ⟨i,g,d,sl',hi,hg,hpick⟩:=crowd_pick (P:=Pg) (w:=v.at du) (sl:=sl) (awake_all H.leavers H.main hs) ⟨0,h,H.main,hs⟩
   rcases Nat.eq_zero_or_pos i with rfl|hpos
   ·obtain ⟨gs',d',ops,hr,h0',hsz,hL,hT⟩:=hstep gs d sl' t q H.size H.main H.leavers H.trace
    exact ⟨1,gs',v1.at d',sl',t++ops,q,by simp only [runNT,hpick];rw [show (v.at du).at d=v.at d from rfl,hr],⟨h0',⟨d',rfl⟩,hL,hT,by rw [hsz];exact H.size⟩⟩
   ·obtain ⟨gs',k,es,hr,hs',h0',hL',hmute,hsum⟩:=leavers_slip H.leavers H.main hs hi hpos hg ((v.at du).at d) sl'
    omega
  |succ M ih=>
   intro gs u sl t q hM H
   obtain ⟨du,rfl⟩:=H.world
   obtain ⟨i,g,d,sl',hi,hg,hpick⟩:=crowd_pick (P:=Pg) (w:=v.at du) (sl:=sl) (awake_all H.leavers H.main hs) ⟨0,h,H.main,hs⟩
   rcases Nat.eq_zero_or_pos i with rfl|hpos
   ·obtain ⟨gs',d',ops,hr,h0',hsz,hL,hT⟩:=hstep gs d sl' t q H.size H.main H.leavers H.trace
    exact ⟨1,gs',v1.at d',sl',t++ops,q,by simp only [runNT,hpick];rw [show (v.at du).at d=v.at d from rfl,hr],⟨h0',⟨d',rfl⟩,hL,hT,by rw [hsz];exact H.size⟩⟩
   ·obtain ⟨gs',k,es,hr,hs',h0',hL',hmute,hsum⟩:=leavers_slip H.leavers H.main hs hi hpos hg ((v.at du).at d) sl'
    obtain ⟨N,gs2,u2,sl2,t2,q2,r1,H2⟩:=ih gs' ((v.at du).at d) sl' _ (upd q i k) (by rw [hs'];omega) ⟨h0',⟨d,rfl⟩,hL',K.mute _ i t _ _ es hpos H.trace hmute,by rw [hs'];exact H.size⟩
    exact ⟨N+1,gs2,u2,sl2,t2,q2,by simp only [runNT,hpick,hr];exact r1,H2⟩
 exact fun gs u sl t q H=>key _ gs u sl t q (Nat.le_refl _) H
theorem To0.go (K:Kept Θ Ok c0) (hn:0< n) (hs:h.status= .running) {es:Array Event} (e: ∀d,stepG Pg true h (v.at d)= .go h1 (v1.at d) es) (hv:v.heap.size≤v1.heap.size) (hes: ∀e∈es,Ok v1.heap.size e):To0 Θ n h v h1 v1:=by
 refine To0.one K hs fun gs d sl t q hsz h0 hL hT=>?_
 have hr:=runT_crowd_go (P:=Pg) (sl:=sl) (i:=0) h0 (show stepG Pg (0==0) h (v.at d)=_ from e d)
 have h0s:0< gs.size:=by omega
 exact ⟨_,d,_,hr,Array.getElem?_setIfInBounds_self_of_lt (by simpa using h0s),by simp,leavers_main hL (by omega),K.own _ _ _ _ _ _ hT hv hes⟩
theorem To0.glide (K:Kept Θ Ok c0) (hn:0< n) {m:Nat} (hg:Glide Pg true m h h1):To0 Θ n h v h1 v:=by
 induction hg with
 |refl g=>exact .refl _ _
 |@step m g g1 g2 h1 h2 _ ih=>exact (To0.go K hn h1 (fun d=>h2 _) (Nat.le_refl _) (fun e he=>by simp at he)).trans ih
theorem To0.op (K:Kept Θ Ok c0) (hn:0< n) (ha:AtOp Pg true h) {bs:List Ans} {ds:List Dem} {x:Value} (hf:feed Pg (pendS h) bs=some (ds,.inl (.value x))) {es:Array Event} (hm: ∀d,Meets ds bs (v.at d) #[] (v1.at d) es) (hv:v.heap.size≤v1.heap.size) {es':Array Event} (hse:seen Pg h.frame.fn es=es') (hes: ∀e∈es',Ok v1.heap.size e):To0 Θ n h v (fin h x) v1:=by
 refine To0.go K hn ha.2.1 (es:=es') (fun d=>?_) hv hes
 rw [← hse]
 exact AtOp.value ha hf (hm d)
theorem To0.skip (K:Kept Θ Ok c0) (hn:0< n) (ha:AtOp Pg true h) {bs:List Ans} {ds:List Dem} (hf:feed Pg (pendS h) bs=some (ds,.inl .skip)) {es:Array Event} (hm: ∀d,Meets ds bs (v.at d) #[] (v1.at d) es) (hv:v.heap.size≤v1.heap.size) {es':Array Event} (hse:seen Pg h.frame.fn es=es') (hes: ∀e∈es',Ok v1.heap.size e):To0 Θ n h v (fin h undef) v1:=by
 refine To0.go K hn ha.2.1 (es:=es') (fun d=>?_) hv hes
 rw [← hse]
 exact AtOp.skip ha hf (hm d)
theorem leavers_still {t:Trace} {gs:Array Goroutine} {q:Nat→Nat} {a':Goroutine} {l:List MemOp} (hL:Leavers Pg t gs q) (hl: ∀op∈l,noDeaf op.act):Leavers Pg (t++l.toArray) (gs.setIfInBounds 0 a') q:=by
 refine ⟨fun j x hj hx=>?_,fun j hj=>?_⟩
 ·rw [Array.getElem?_setIfInBounds_ne (by omega)] at hx
  rw [Deaf_still t j l hl]
  exact hL.old j x hj hx
 ·rw [Deaf_still t j l hl]
  exact hL.above j (by simpa using hj)
theorem leavers_partners {t:Trace} {gs:Array Goroutine} {q:Nat→Nat} (hL:Leavers Pg t gs q) (r:Nat) (b:Bool):partners (gs.setIfInBounds 0 ph) r b= []:=by
 refine partners_nil fun j g hg=>?_
 rcases getElem?_stand gs 0 j g hg with ⟨_,rfl⟩|⟨hj,hg⟩
 ·rfl
 ·have:=(hL.old j g (by omega) hg).status
  exact offersAt_of_not_blocked (by rcases this with h|h<;> rw [h]<;> simp) r b
theorem To0.recv (K:Kept Θ Ok c0) (hn:0< n) (hs:h.status= .running) {z:Value} (e: ∀d,stepG Pg true h (v.at d)= .comm h #[rcase c0 z] true (.recv true) (v.at d) #[]) {cap:Nat} {x:Value} {l:List Value} {cl:Bool} {s r:Nat} (hc:v.heap[c0]? =some (.chan cap (x::l).toArray cl s r false)):
  To0 Θ n h v (h.finishComm Pg #[rcase c0 z] (.recv true) 0 x true) (v.setChan c0 cap l.toArray cl s (r+1) false):=by
 have hlt:c0< v.heap.size:=(Array.getElem?_eq_some_iff.1 hc).1
 refine To0.one K hs fun gs d sl t q hsz h0 hL hT=>?_
 have hrun:=crowd_recv_buf (P:=Pg) (sl:=sl) (i:=0) h0 (show stepG Pg (0==0) h (v.at d)=_ from e d) (show (v.at d).heap[c0]? =_ from hc) (by simp) (leavers_partners hL c0 true)
 have ex:(x::l).toArray.extract 1 (x::l).toArray.size=l.toArray:=by simp [List.take_of_length_le]
 have eg:(x::l).toArray.getD 0 undef=x:=by simp
 have hz: ∀fn pos,MemOp.ofEvents 0 fn pos #[]=#[]:=fun fn pos=>by simp [ofEvents_eq]
 rw [ex,eg,hz,Array.empty_append] at hrun
 have h0s:0< gs.size:=by omega
 refine ⟨_,d,_,hrun,Array.getElem?_setIfInBounds_self_of_lt h0s,by simp,leavers_still hL (l:=[_,_]) ?_,?_⟩
 ·intro op hop;simp at hop;rcases hop with rfl|rfl<;> exact ⟨by simp,by simp⟩
 ·have:=K.recv v.heap.size t h.frame.fn h.frame.place [.recv c0 r cap,.recvDone c0 r] hlt hT (fun a ha=>by simp at ha;rcases ha with rfl|rfl;exact .inl ⟨_,_,rfl⟩;exact .inr (.inl ⟨_,rfl⟩))
  rw [show (v.setChan c0 cap l.toArray cl s (r+1) false).heap.size=v.heap.size by simp [World.setChan]]
  exact this
theorem To0.recvEnd (K:Kept Θ Ok c0) (hn:0< n) (hs:h.status= .running) {z:Value} (e: ∀d,stepG Pg true h (v.at d)= .comm h #[rcase c0 z] true (.recv true) (v.at d) #[]) {cap:Nat} {s r:Nat} (hc:v.heap[c0]? =some (.chan cap #[] true s r false)):
  To0 Θ n h v (h.finishComm Pg #[rcase c0 z] (.recv true) 0 z false) v:=by
 have hlt:c0< v.heap.size:=(Array.getElem?_eq_some_iff.1 hc).1
 refine To0.one K hs fun gs d sl t q hsz h0 hL hT=>?_
 have hrun:=crowd_recv_closed (P:=Pg) (sl:=sl) (i:=0) h0 (show stepG Pg (0==0) h (v.at d)=_ from e d) (show (v.at d).heap[c0]? =_ from hc) (leavers_partners hL c0 true)
 have hz: ∀fn pos,MemOp.ofEvents 0 fn pos #[]=#[]:=fun fn pos=>by simp [ofEvents_eq]
 rw [hz,Array.empty_append] at hrun
 have h0s:0< gs.size:=by omega
 refine ⟨_,d,_,hrun,Array.getElem?_setIfInBounds_self_of_lt h0s,by simp,leavers_still hL (l:=[_]) ?_,?_⟩
 ·intro op hop;simp at hop;subst hop;exact ⟨by simp,by simp⟩
 ·exact K.recv v.heap.size t h.frame.fn h.frame.place [.recvClosed c0] hlt hT (fun a ha=>by simp at ha;subst ha;exact .inr (.inr rfl))
end
end Go.Proofs.YtldmcdeibiclkaaGreatDoor.U
end
section
namespace Go.Proofs.YtldmcdeibiclkaaGreatDoor.U
open Go.Conc
open Go.ConcN (upd upd_same upd_ne sumTo sumTo_upd sumTo_congr sumTo_le le_sumTo RelBy)
set_option maxRecDepth 100000
theorem mSt_fn (M:Mn) (c:Frame) (cs:List Frame):(mSt M c cs).frame.fn=68:=by kernel_rfl
theorem mSt2_fn (M:Mn) (c:Frame) (cs:List Frame):(mSt2 M c cs).frame.fn=68:=by kernel_rfl
theorem mCh_feed' (M:Mn) {n:Nat} (hn:n=1∨n=4∨n=16∨n=64) (h:M.count=n) (c:Frame) (cs:List Frame) (r:Nat):feed Pg (pendS (mCh M c cs)) [.ref r]=some ([.nw (.chan n #[] false 0 0 false)],.inl (.value (.chan (some r)))):=by
 rcases hn with rfl|rfl|rfl|rfl
 ·exact mCh_feed_1 M h c cs r
 ·exact mCh_feed_4 M h c cs r
 ·exact mCh_feed_16 M h c cs r
 ·exact mCh_feed_64 M h c cs r
theorem mCh2_feed' (M:Mn) {n:Nat} (hn:n=1∨n=4∨n=16∨n=64) (h:M.count=n) (c:Frame) (cs:List Frame) (r:Nat):feed Pg (pendS (mCh2 M c cs)) [.ref r]=some ([.nw (.chan n #[] false 0 0 false)],.inl (.value (.chan (some r)))):=by
 rcases hn with rfl|rfl|rfl|rfl
 ·exact mCh2_feed_1 M h c cs r
 ·exact mCh2_feed_4 M h c cs r
 ·exact mCh2_feed_16 M h c cs r
 ·exact mCh2_feed_64 M h c cs r
theorem mGo0_glide (M:Mn) {n nW:Nat} (hn:n=1∨n=4∨n=16∨n=64) (hw:(n=1∧nW=1)∨(n≠1∧nW=4)) (h:M.count=n) (c:Frame) (cs:List Frame): ∃xs,Glide Pg true 12 (mGo0 M c cs) (mHead M xs (c::cs) nW (0:Nat)):=by
 rcases hn with rfl|rfl|rfl|rfl
 ·obtain rfl:nW=1:=by omega
  have:=(mGo0_slid_1 M h c cs).glide;rw [mGo0_head_1 M h] at this;exact ⟨_,this⟩
 ·obtain rfl:nW=4:=by omega
  have:=(mGo0_slid_4 M h c cs).glide;rw [mGo0_head_4 M h] at this;exact ⟨_,this⟩
 ·obtain rfl:nW=4:=by omega
  have:=(mGo0_slid_16 M h c cs).glide;rw [mGo0_head_16 M h] at this;exact ⟨_,this⟩
 ·obtain rfl:nW=4:=by omega
  have:=(mGo0_slid_64 M h c cs).glide;rw [mGo0_head_64 M h] at this;exact ⟨_,this⟩
def addObj (v:World) (o:Obj):World:={v with heap:=v.heap.push o}
theorem addObj_size (v:World) (o:Obj):(addObj v o).heap.size=v.heap.size+1:=by simp [addObj]
theorem addObj_get (v:World) (o:Obj) (b:Nat):(addObj v o).heap[b]? =if b=v.heap.size then some o else v.heap[b]? :=by
 show (v.heap.push o)[b]? =_
 rw [Array.getElem?_push]
theorem addObj_set (v:World) (x y:Value) (τ:TypeId) {b:Nat} (hb:b=v.heap.size):(addObj v (.cells #[x] τ)).setCell ⟨b,0,none⟩ y=addObj v (.cells #[y] τ):=by
 subst hb
 unfold addObj World.setCell
 simp only [World.mk.injEq,and_true]
 apply Array.ext
 ·simp
 ·intro i h1 h2
  have h3:i< v.heap.size+1:=by simpa using h2
  simp only [Array.getElem_modify,Array.getElem_push]
  by_cases hi:v.heap.size=i
  ·subst hi;simp
  ·simp [hi,show i< v.heap.size by omega]
section
variable {L:Lim} {T:Tab} {Goal:Frame→List Frame→World→Prop} {X:PC L}
def lots0 (X:PC L):Lots where
 ro b:=b< X.E.v0.heap.size∧¬ X.Sh b
 ow k b:=k=0∧(b=X.M.bT∨b=X.M.bN∨b=X.M.bB)
 qu b:=b=X.M.wg∨b=X.M.cN∨b=X.M.cB
def Th0 (X:PC L) (B:Nat) (t:Trace):Prop:=TP (lots0 X) X.Sh (fun k=>k=0) (fun _=>False) B t∧Deaf t 0=0∧NoRelease (stA' X) t
def Ok0 (X:PC L) (B:Nat) (e:Event):Prop:=∃b,(b=X.M.bN∨b=X.M.bB)∧b< B∧e=⟨.cell ⟨b,0,none⟩,true,false⟩
theorem lots0_ok (O:PCOk T Goal X):LotsOk (lots0 X):=by
 have b1:=O.bT;have b2:=O.cN;have b3:=O.bN;have b4:=O.cB;have b5:=O.bB;have b6:=O.wg
 refine ⟨fun k k' b h h'=>h.1.trans h'.1.symm,fun k b h h'=>?_,fun k b h h'=>?_,fun b h h'=>?_⟩
 ·have:=h'.1;rcases h.2 with h|h|h<;> omega
 ·rcases h.2 with h|h|h<;> rcases h' with h'|h'|h'<;> omega
 ·have:=h.1;rcases h' with h'|h'|h'<;> omega
theorem kept0 (O:PCOk T Goal X) (c0:Nat):Kept (Th0 X) (Ok0 X) c0:=by
 refine ⟨fun B B' t fn pos es h hB hes=>⟨?_,?_,?_⟩,fun B i t fn pos es hi h hm=>⟨?_,?_,?_⟩,fun B t fn pos l hc h hl=>⟨?_,?_,?_⟩⟩
 ·refine (h.1.grow hB (fun k b x=> .inl x) (fun b x=> .inl x) (fun b x=> .inl x) (fun b x=>x)).app (lots0_ok O) rfl (.inl rfl) (fun op hop=>ofEvents_g hop) (fun op hop a ha=>?_) (fun op hop=>?_)
  ·obtain ⟨e,he,rfl⟩:=Go.Conc.mem_ofEvents hop
   obtain ⟨b,hb,hbB,rfl⟩:=hes e he
   simp only [MemAct.ofEvent,MemAct.touch?,Option.some.injEq] at ha
   subst ha
   refine ⟨rfl,fun b' hb'=>?_⟩
   simp only [blk,Option.some.injEq] at hb'
   subst hb'
   exact .inl ⟨⟨rfl,.inr hb⟩,rfl⟩
  ·obtain ⟨e,he,rfl⟩:=Go.Conc.mem_ofEvents hop
   obtain ⟨b,hb,hbB,rfl⟩:=hes e he
   exact low_cell hbB _ _
 ·rw [Deaf_own,deafBehind_still (fun e he=>by obtain ⟨b,hb,hbB,rfl⟩:=hes e he;exact ⟨by simp,by simp⟩)]
  exact h.2.1
 ·refine h.2.2.app fun op hop=>?_
  obtain ⟨e,he,rfl⟩:=Go.Conc.mem_ofEvents hop
  obtain ⟨b,hb,hbB,rfl⟩:=hes e he
  simp [MemAct.ofEvent]
 ·exact h.1.mute (k:=i) (fun op hop=>ofEvents_g hop) (fun op hop=>by obtain ⟨e,he,rfl⟩:=Go.Conc.mem_ofEvents hop;exact touch_mute (hm e he)) (fun op hop=>by obtain ⟨e,he,rfl⟩:=Go.Conc.mem_ofEvents hop;exact low_mute (hm e he) B)
 ·rw [Deaf_other t (g':=i) (by omega) _ fun op hop=>ofEvents_g hop];exact h.2.1
 ·refine h.2.2.app fun op hop=>?_
  obtain ⟨e,he,rfl⟩:=Go.Conc.mem_ofEvents hop
  have:=hm e he
  obtain ⟨loc,wr,sy⟩:=e
  intro hx
  cases loc with
  |mark m=>simp only [MemAct.ofEvent,MemAct.mark.injEq] at hx;subst hx;simp [Event.mute] at this
  |_=>simp [Event.mute] at this
 ·refine h.1.still _ (fun op hop=>?_) (fun op hop=>?_)
  ·simp only [List.mem_map] at hop
   obtain ⟨a,ha,rfl⟩:=hop
   rcases hl a ha with ⟨r,cap,rfl⟩|⟨r,rfl⟩|rfl<;> rfl
  ·simp only [List.mem_map] at hop
   obtain ⟨a,ha,rfl⟩:=hop
   rcases hl a ha with ⟨r,cap,rfl⟩|⟨r,rfl⟩|rfl<;> exact hc
 ·rw [Deaf_still t 0 _ fun op hop=>?_];exact h.2.1
  simp only [List.mem_map] at hop
  obtain ⟨a,ha,rfl⟩:=hop
  rcases hl a ha with ⟨r,cap,rfl⟩|⟨r,rfl⟩|rfl<;> exact ⟨by simp,by simp⟩
 ·refine h.2.2.app fun op hop=>?_
  simp only [List.mem_toArray,List.mem_map] at hop
  obtain ⟨a,ha,rfl⟩:=hop
  rcases hl a ha with ⟨r,cap,rfl⟩|⟨r,rfl⟩|rfl<;> simp
def v8 (X:PC L):World:=addObj (addObj (addObj (addObj (addObj (addObj X.E.v0 (.cells #[X.M.txt] 79)) (.chan X.E.n #[] false 0 0 false)) (.cells #[.chan (some X.M.cN)] 178)) (.chan X.E.n #[] false 0 0 false)) (.cells #[.chan (some X.M.cB)] 179)) (.cells #[.int .u64 0,.int .u32 0] 188)
theorem phase0 (O:PCOk T Goal X):To0 (Th0 X) X.n0 (m0 X.M X.c X.cs) X.E.v0 (mGo0 X.M X.c X.cs) (v8 X):=by
 have b1:=O.bT;have b2:=O.cN;have b3:=O.bN;have b4:=O.cB;have b5:=O.bB;have b6:=O.wg
 have K:=kept0 O 0
 have hn:=O.n0
 let V1:=addObj X.E.v0 (.cells #[X.M.txt] 79)
 let V2:=addObj V1 (.chan X.E.n #[] false 0 0 false)
 let V3:=addObj V2 (.cells #[.chan none] 178)
 let V4:=addObj V2 (.cells #[.chan (some X.M.cN)] 178)
 let V5:=addObj V4 (.chan X.E.n #[] false 0 0 false)
 let V6:=addObj V5 (.cells #[.chan none] 179)
 let V7:=addObj V5 (.cells #[.chan (some X.M.cB)] 179)
 let V8:=addObj V7 (.cells #[.int .u64 0,.int .u32 0] 188)
 have z1:V1.heap.size=X.E.v0.heap.size+1:=addObj_size _ _
 have z2:V2.heap.size=X.E.v0.heap.size+2:=by rw [addObj_size,z1]
 have z3:V3.heap.size=X.E.v0.heap.size+3:=by rw [addObj_size,z2]
 have z4:V4.heap.size=X.E.v0.heap.size+3:=by rw [addObj_size,z2]
 have z5:V5.heap.size=X.E.v0.heap.size+4:=by rw [addObj_size,z4]
 have z6:V6.heap.size=X.E.v0.heap.size+5:=by rw [addObj_size,z5]
 have z7:V7.heap.size=X.E.v0.heap.size+5:=by rw [addObj_size,z5]
 have z8:V8.heap.size=X.E.v0.heap.size+6:=by rw [addObj_size,z7]
 have hnil: ∀B,∀e∈(#[]:Array Event),Ok0 X B e:=fun B e he=>by simp at he
 have s1:To0 (Th0 X) X.n0 (m0 X.M X.c X.cs) X.E.v0 (mBox X.M X.c X.cs) X.E.v0:= .glide K hn (m0_slid X.M X.c X.cs).glide
 have s2:To0 (Th0 X) X.n0 (mBox X.M X.c X.cs) X.E.v0 (fin (mBox X.M X.c X.cs) (ptr X.M.bT)) V1:= .op K hn (mBox_op _ _ _) (mBox_feed X.M X.c X.cs X.M.bT) (es:=#[]) (fun d=>⟨b1,rfl,rfl⟩) (by omega) (seen_empty _) (hnil _)
 have s3:To0 (Th0 X) X.n0 (fin (mBox X.M X.c X.cs) (ptr X.M.bT)) V1 (mCh X.M X.c X.cs) V1:= .glide K hn (mCh_slid X.M X.c X.cs).glide
 have s4:To0 (Th0 X) X.n0 (mCh X.M X.c X.cs) V1 (mAl X.M X.c X.cs) V2:= .op K hn (mCh_op _ _ _) (mCh_feed' X.M O.nn O.count X.c X.cs X.M.cN) (es:=#[]) (fun d=>⟨by show X.M.cN=V1.heap.size;omega,rfl,rfl⟩) (by omega) (seen_empty _) (hnil _)
 have s5:To0 (Th0 X) X.n0 (mAl X.M X.c X.cs) V2 (mSt X.M X.c X.cs) V3:= .op K hn (mAl_op _ _ _) (mAl_feed X.M X.c X.cs X.M.bN) (es:=#[]) (fun d=>⟨by show X.M.bN=V2.heap.size;omega,rfl,rfl⟩) (by omega) (seen_empty _) (hnil _)
 have g3:V3.heap[X.M.bN]? =some (.cells #[.chan none] 178):=by rw [addObj_get,if_pos (by omega)]
 have s6:To0 (Th0 X) X.n0 (mSt X.M X.c X.cs) V3 (fin (mSt X.M X.c X.cs) undef) V4:=by
  refine .skip K hn (mSt_op _ _ _) (mSt_feed X.M X.c X.cs) (es:=#[⟨.cell ⟨X.M.bN,0,none⟩,true,false⟩]) (es':=#[⟨.cell ⟨X.M.bN,0,none⟩,true,false⟩]) (fun d=>⟨by simp,by simp,⟨.chan none,by simp [World.cell?,World.at,g3]⟩,by simp [World.frozen?,World.at,g3],?_,rfl⟩) (by omega) (by rw [mSt_fn];exact seen_st _) (fun e he=>?_)
  ·rw [show (V3.at d).setCell ⟨X.M.bN,0,none⟩ (.chan (some X.M.cN))=(V3.setCell ⟨X.M.bN,0,none⟩ (.chan (some X.M.cN))).at d from rfl,addObj_set V2 _ _ _ (by omega)]
  ·simp at he;exact ⟨X.M.bN,.inl rfl,by omega,he⟩
 have s7:To0 (Th0 X) X.n0 (fin (mSt X.M X.c X.cs) undef) V4 (mCh2 X.M X.c X.cs) V4:= .glide K hn (mCh2_slid X.M X.c X.cs).glide
 have s8:To0 (Th0 X) X.n0 (mCh2 X.M X.c X.cs) V4 (mAl2 X.M X.c X.cs) V5:= .op K hn (mCh2_op _ _ _) (mCh2_feed' X.M O.nn O.count X.c X.cs X.M.cB) (es:=#[]) (fun d=>⟨by show X.M.cB=V4.heap.size;omega,rfl,rfl⟩) (by omega) (seen_empty _) (hnil _)
 have s9:To0 (Th0 X) X.n0 (mAl2 X.M X.c X.cs) V5 (mSt2 X.M X.c X.cs) V6:= .op K hn (mAl2_op _ _ _) (mAl2_feed X.M X.c X.cs X.M.bB) (es:=#[]) (fun d=>⟨by show X.M.bB=V5.heap.size;omega,rfl,rfl⟩) (by omega) (seen_empty _) (hnil _)
 have g6:V6.heap[X.M.bB]? =some (.cells #[.chan none] 179):=by rw [addObj_get,if_pos (by omega)]
 have s10:To0 (Th0 X) X.n0 (mSt2 X.M X.c X.cs) V6 (fin (mSt2 X.M X.c X.cs) undef) V7:=by
  refine .skip K hn (mSt2_op _ _ _) (mSt2_feed X.M X.c X.cs) (es:=#[⟨.cell ⟨X.M.bB,0,none⟩,true,false⟩]) (es':=#[⟨.cell ⟨X.M.bB,0,none⟩,true,false⟩]) (fun d=>⟨by simp,by simp,⟨.chan none,by simp [World.cell?,World.at,g6]⟩,by simp [World.frozen?,World.at,g6],?_,rfl⟩) (by omega) (by rw [mSt2_fn];exact seen_st _) (fun e he=>?_)
  ·rw [show (V6.at d).setCell ⟨X.M.bB,0,none⟩ (.chan (some X.M.cB))=(V6.setCell ⟨X.M.bB,0,none⟩ (.chan (some X.M.cB))).at d from rfl,addObj_set V5 _ _ _ (by omega)]
  ·simp at he;exact ⟨X.M.bB,.inr rfl,by omega,he⟩
 have s11:To0 (Th0 X) X.n0 (fin (mSt2 X.M X.c X.cs) undef) V7 (mWg X.M X.c X.cs) V7:= .glide K hn (mWg_slid X.M X.c X.cs).glide
 have s12:To0 (Th0 X) X.n0 (mWg X.M X.c X.cs) V7 (mGo0 X.M X.c X.cs) V8:= .op K hn (mWg_op _ _ _) (mWg_feed X.M X.c X.cs X.M.wg) (es:=#[]) (fun d=>⟨by show X.M.wg=V7.heap.size;omega,rfl,rfl⟩) (by omega) (seen_empty _) (hnil _)
 exact s1.trans (s2.trans (s3.trans (s4.trans (s5.trans (s6.trans (s7.trans (s8.trans (s9.trans (s10.trans (s11.trans s12))))))))))
theorem pool_begin (O:PCOk T Goal X) {gs:Array Goroutine} {u:World} {t:Trace} {q:Nat→Nat} (H:At0 (Th0 X) X.n0 (mGo0 X.M X.c X.cs) (v8 X) gs u t q): ∃s,PI T Goal X s gs u t:=by
 have b1:=O.bT;have b2:=O.cN;have b3:=O.bN;have b4:=O.cB;have b5:=O.bB;have b6:=O.wg
 have hnW:=O.nW
 obtain ⟨xs,hg⟩:=mGo0_glide X.M O.nn O.nw O.count X.c X.cs
 obtain ⟨d,rfl⟩:=H.world
 let s:PS:={mt:= .dis 0 34 xs,j:=0,ws:=fun _=> .quit 0,ow:=fun _ _=>False,q:=q,bufN:=[],rN:=0,bufB:=[],st:=0,sm:=0}
 have hz:(v8 X).heap.size=X.E.v0.heap.size+6:=by unfold v8;simp only [addObj_size]
 have hlt: ∀b,b< X.E.v0.heap.size→(v8 X).heap[b]? =X.E.v0.heap[b]? :=fun b hb=>by
  unfold v8
  simp only [addObj_get,addObj_size]
  rw [if_neg (by omega),if_neg (by omega),if_neg (by omega),if_neg (by omega),if_neg (by omega),if_neg (by omega)]
 refine ⟨s,⟨H.size,⟨_,H.main,hg.trans (lane_head O xs (by omega)),by omega⟩,fun k hk=>absurd hk (Nat.not_lt_zero _),fun i g hi _ hgi=>H.leavers.old i g hi hgi,H.leavers.above⟩,⟨⟨by show _≤(v8 X).heap.size;omega,fun b hb=>hlt b hb⟩,by show _< (v8 X).heap.size;omega,?_,?_,?_,?_,⟨0,?_⟩,?_,rfl,rfl,rfl⟩,?_,?_,?_⟩
 ·show (v8 X).heap[_]? =_
  unfold v8;simp only [addObj_get,addObj_size]
  rw [if_neg (by omega),if_neg (by omega),if_neg (by omega),if_neg (by omega),if_neg (by omega),if_pos (by omega)]
 ·show (v8 X).heap[_]? =_
  unfold v8;simp only [addObj_get,addObj_size]
  rw [if_neg (by omega),if_neg (by omega),if_neg (by omega),if_pos (by omega)]
 ·show (v8 X).heap[_]? =_
  unfold v8;simp only [addObj_get,addObj_size]
  rw [if_neg (by omega),if_pos (by omega)]
 ·show (v8 X).heap[_]? =_
  unfold v8;simp only [addObj_get,addObj_size]
  rw [if_neg (by omega),if_neg (by omega),if_neg (by omega),if_neg (by omega),if_pos (by omega)]
  rfl
 ·show (v8 X).heap[_]? =_
  unfold v8;simp only [addObj_get,addObj_size]
  rw [if_neg (by omega),if_neg (by omega),if_pos (by omega)]
  rfl
 ·show (v8 X).heap[_]? =_
  unfold v8;simp only [addObj_get,addObj_size]
  rw [if_pos (by omega)]
  rfl
 ·exact ⟨rfl,Nat.zero_le _,rfl,fun i hi=>absurd hi (Nat.not_lt_zero _),Nat.le_refl _,fun i hi=>(by cases hi),fun i hi=>(by cases hi),fun k hk=>absurd hk (Nat.not_lt_zero _),fun k hk=>absurd hk (Nat.not_lt_zero _)⟩
 ·exact .opn rfl (fun k hk=>absurd hk (Nat.not_lt_zero _)) (by show 0=(sumTo 0 _+0)*KK';simp [sumTo]) rfl (fun _ _ _ _ h=>by cases h)
 ·refine ⟨?_,fun i b hi=>absurd hi (Nat.not_lt_zero _),fun i i' b hi=>absurd hi (Nat.not_lt_zero _),fun k hk=>absurd hk (Nat.not_lt_zero _),H.trace.2.2,H.trace.2.1,fun _ _ h=>by cases h⟩
  have l1:(fun k=>k=0∨isWk X s k)=(fun k=>k=0):=by
   funext k;apply propext
   show (k=0∨(X.n0≤k∧k< X.n0+0))↔k=0
   omega
  have l2:isWk X s=(fun _=>False):=by
   funext k;apply propext
   exact ⟨fun h=>by have h1:X.n0≤k:=h.1;have h2:k< X.n0+0:=h.2;omega,False.elim⟩
  rw [l1,l2]
  refine H.trace.1.share (fun k hk=>hk) (fun k b hb=>?_) (fun b hb=>?_) (fun b=>Iff.rfl)
  ·obtain ⟨i,hi,_⟩:=hb
   exact absurd hi (Nat.not_lt_zero _)
  ·rcases hb with hb|hb
   ·exact .inl hb
   ·exact .inr ⟨rfl,hb⟩
end
end Go.Proofs.YtldmcdeibiclkaaGreatDoor.U
end
