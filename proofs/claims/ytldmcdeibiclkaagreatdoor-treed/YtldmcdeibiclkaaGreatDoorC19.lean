/-
  Toward: treed_holds, each node's digest is that of its children's, for every argument of Treed. THE POOL's MACHINE: a step of one leaves the others where they are.
  THE POOL's MACHINE: the trace, the measure, idle steps.
-/
import Derived.Test.YtldmcdeibiclkaaGreatDoorC18
set_option linter.unusedVariables false
set_option linter.unusedSimpArgs false
set_option maxRecDepth 4000
section
namespace Go.Proofs.YtldmcdeibiclkaaGreatDoor.U
open Go.Conc
open Go.ConcN (upd upd_same upd_ne sumTo sumTo_upd sumTo_congr RelBy)
theorem Glide.run {P:Program} {m:Bool} {n:Nat} {g g1:Goroutine} (h:Glide P m n g g1) (h1:g1.status= .running):g.status= .running:=by
 cases h with
 |refl=>exact h1
 |step hs _ _=>exact hs
theorem Glide.cases' {P:Program} {m:Bool} {n:Nat} {g g1:Goroutine} (h:Glide P m n g g1):(n=0∧g=g1)∨∃k g',n=k+1∧(∀w,stepG P m g w= .go g' w #[])∧Glide P m k g' g1:=by
 cases h with
 |refl=>exact .inl ⟨rfl,rfl⟩
 |step _ hs h=>exact .inr ⟨_,_,rfl,hs,h⟩
section
variable {L:Lim} {T:Tab} {Goal:Frame→List Frame→World→Prop} {X:PC L}
theorem WAt.stable {ow:Nat→Prop} {d:Nat} {g:Goroutine} {v v2:World} {σ:Wk} (h:WAt T Goal X ow d g v σ) (hs:v.heap.size≤v2.heap.size) (ho: ∀t,(∃r,X.E.ρ r t)∨ow t→v2.heap[t]? =v.heap[t]?):WAt T Goal X ow d g v2 σ:=by
 cases σ with
 |text i l xs s=>obtain ⟨h1,h2,Y,h3,h4⟩:=h;exact ⟨h1,h2,Y,h3,h4.stable hs ho⟩
 |summ i l xs s=>obtain ⟨h1,h2,Y,h3,h4⟩:=h;exact ⟨h1,h2,Y,h3,h4.stable hs ho⟩
 |_=>exact h
theorem gOps_status (p:Pl) (xs:Nat→Value) (l:List Nat):(gOps p xs l).status= .running:=by kernel_rfl
theorem WAt.status {ow:Nat→Prop} {d:Nat} {g:Goroutine} {v:World} {σ:Wk} (h:WAt T Goal X ow d g v σ):(σ.parked=false∧(g.status= .running∨g.status= .finished))∨(∃xs,σ= .park xs∧g=parkedG X xs):=by
 cases σ with
 |load n=>exact .inl ⟨rfl,.inl (h.1.run (load_op _).2.1)⟩
 |recv n xs=>exact .inl ⟨rfl,.inl (h.1.run (recv_op _ _).2.1)⟩
 |park xs=>exact .inr ⟨xs,rfl,h.1⟩
 |woken xs=>exact .inl ⟨rfl,.inl (by rw [h.1])⟩
 |draw n i xs=>exact .inl ⟨rfl,.inl (h.1.run (draw_status _ _))⟩
 |ops i l xs=>exact .inl ⟨rfl,.inl (by rw [h.1];exact gOps_status _ _ _)⟩
 |text i l xs s=>obtain ⟨_,_,Y,_,h4⟩:=h;exact .inl ⟨rfl,.inl h4.running⟩
 |summ i l xs s=>obtain ⟨_,_,Y,_,h4⟩:=h;exact .inl ⟨rfl,.inl h4.running⟩
 |conv n xs=>exact .inl ⟨rfl,.inl (h.1.run (anConv_op _ _).2.1)⟩
 |relm xs=>exact .inl ⟨rfl,.inl (by rw [h.1];exact anRelm_status _ _)⟩
 |dis n xs=>exact .inl ⟨rfl,.inl (h.1.run (anDis_status _ _))⟩
 |add n xs=>exact .inl ⟨rfl,.inl (h.1.run (anAdd_op _ _).2.1)⟩
 |ld4 n xs=>exact .inl ⟨rfl,.inl (h.1.run (alLd_op _ _ _).2.1)⟩
 |st3 n xs=>exact .inl ⟨rfl,.inl (h.1.run (alSt_op _ _ _).2.1)⟩
 |sem2 n xs=>exact .inl ⟨rfl,.inl (h.1.run (alSem_op _ _ _).2.1)⟩
 |quit q=>exact .inl ⟨rfl,(show QuitsD Pg q d g from h).status⟩
theorem recvCases_eq (X:PC L):recvCases X.p=#[rcase X.M.cN (.int .i64 0)]:=rfl
theorem WAt.woken {ow:Nat→Prop} {d:Nat} {g:Goroutine} {v:World} {σ:Wk} (h:WAt T Goal X ow d g v σ) (a a':Goroutine) {v1:World} (hc:σ.parked=true→∃cap buf s r tm,v1.heap[X.M.cN]? =some (.chan cap buf false s r tm)):Go.Conc.woken Pg a a' v1 g=g:=by
 rcases h.status with ⟨_,hs⟩|⟨xs,rfl,rfl⟩
 ·unfold Go.Conc.woken
  split
  ·exact again_running _ hs
  ·rfl
 ·obtain ⟨cap,buf,s,r,tm,hc⟩:=hc rfl
  unfold parkedG
  rw [recvCases_eq]
  exact woken_recv_open _ _ hc
theorem mGo_status' (M:Mn) (xs:Nat→Value) (cs:List Frame) {nW i:Nat} (h:(nW=1∨nW=4)∧i< nW):(mGo M xs cs nW i).status= .running:=by
 obtain ⟨h1,h2⟩:=h
 rcases h1 with rfl|rfl
 ·obtain rfl:i=0:=by omega
  exact mGo_status_1_0 M xs cs
 ·rcases (show i=0∨i=1∨i=2∨i=3 by omega) with rfl|rfl|rfl|rfl
  ·exact mGo_status_4_0 M xs cs
  ·exact mGo_status_4_1 M xs cs
  ·exact mGo_status_4_2 M xs cs
  ·exact mGo_status_4_3 M xs cs
theorem apEn_status' (c:Frame) (cs:List Frame) (wg:Nat) {k:Nat} (h:2≤k∧k≤4):(apEn c cs wg (k*KK':Nat)).status= .running:=by
 rcases (show k=2∨k=3∨k=4 by omega) with rfl|rfl|rfl
 ·exact apEn_status_8589934592 c cs wg
 ·exact apEn_status_12884901888 c cs wg
 ·exact apEn_status_17179869184 c cs wg
theorem awCas_op' (c:Frame) (cs:List Frame) (wg:Nat) (ys:Nat→Value) {k:Nat} (h:1≤k∧k≤4):AtOp Pg true (awCas c cs wg ys (k*KK':Nat)):=by
 rcases (show k=1∨k=2∨k=3∨k=4 by omega) with rfl|rfl|rfl|rfl
 ·exact awCas_op_4294967296 c cs wg ys
 ·exact awCas_op_8589934592 c cs wg ys
 ·exact awCas_op_12884901888 c cs wg ys
 ·exact awCas_op_17179869184 c cs wg ys
theorem awCv_op' (c:Frame) (cs:List Frame) (wg:Nat) (ys:Nat→Value) {k:Nat} (h:1≤k∧k≤4):AtOp Pg true (awCv c cs wg ys (k*KK':Nat)):=by
 rcases (show k=1∨k=2∨k=3∨k=4 by omega) with rfl|rfl|rfl|rfl
 ·exact awCv_op_4294967296 c cs wg ys
 ·exact awCv_op_8589934592 c cs wg ys
 ·exact awCv_op_12884901888 c cs wg ys
 ·exact awCv_op_17179869184 c cs wg ys
theorem awWr_status' (c:Frame) (cs:List Frame) (wg:Nat) (ys:Nat→Value) {k:Nat} (h:1≤k∧k≤4):(awWr c cs wg ys (k*KK':Nat)).status= .running:=by
 rcases (show k=1∨k=2∨k=3∨k=4 by omega) with rfl|rfl|rfl|rfl
 ·exact awWr_status_4294967296 c cs wg ys
 ·exact awWr_status_8589934592 c cs wg ys
 ·exact awWr_status_12884901888 c cs wg ys
 ·exact awWr_status_17179869184 c cs wg ys
theorem PCOk.nW (O:PCOk T Goal X):X.nW=1∨X.nW=4:=O.nw.imp (·.2) (·.2)
theorem MAt.status (O:PCOk T Goal X) {h:Goroutine} {mt:Mt} (hm:MAt X h mt):(isBlk mt=false∧h.status= .running)∨∃xs ys,mt= .blk xs ys∧h= {awSem (X.wc xs) X.ds X.M.wg ys with status:= .blocked}:=by
 cases mt with
 |dis i n xs=>exact .inl ⟨rfl,hm.1.run (apDis_status _ _ _)⟩
 |add i n xs=>exact .inl ⟨rfl,hm.1.run (apAdd_op _ _ _).2.1⟩
 |cv i n xs=>exact .inl ⟨rfl,hm.1.run (apCv_op _ _ _).2.1⟩
 |rd i xs=>exact .inl ⟨rfl,by rw [hm.1];exact apRd_status _ _ _⟩
 |en1 i n xs=>exact .inl ⟨rfl,hm.1.run (apEn1_status _ _ _)⟩
 |en i n k xs=>exact .inl ⟨rfl,hm.1.run (apEn_status' _ _ _ hm.2.2)⟩
 |go i n xs=>exact .inl ⟨rfl,hm.1.run (mGo_status' _ _ _ ⟨O.nW,hm.2⟩)⟩
 |ld j n xs=>exact .inl ⟨rfl,hm.1.run (mLd_op _ _ _ _).2.1⟩
 |sd j n xs=>exact .inl ⟨rfl,hm.1.run (mSd_op _ _ _ _).2.1⟩
 |lc n xs=>exact .inl ⟨rfl,Glide.run hm (mLc_op _ _ _ _).2.1⟩
 |cl xs=>exact .inl ⟨rfl,by rw [show h=_ from hm];exact (mCl_op _ _ _ _).2.1⟩
 |wd n xs=>exact .inl ⟨rfl,Glide.run hm (awDis_status _ _ _)⟩
 |wl n xs ys=>exact .inl ⟨rfl,Glide.run hm (awLd_op _ _ _ _).2.1⟩
 |zen n xs ys=>exact .inl ⟨rfl,Glide.run hm (awZ_status _ _ _ _)⟩
 |zc n xs ys=>exact .inl ⟨rfl,Glide.run hm (awZc_op _ _ _ _).2.1⟩
 |za xs ys=>exact .inl ⟨rfl,by rw [show h=_ from hm];exact awZa_status _ _ _ _⟩
 |cas k n xs ys=>exact .inl ⟨rfl,hm.1.run (awCas_op' _ _ _ _ hm.2).2.1⟩
 |hcv k n xs ys=>exact .inl ⟨rfl,hm.1.run (awCv_op' _ _ _ _ hm.2).2.1⟩
 |hwr k xs ys=>exact .inl ⟨rfl,by rw [hm.1];exact awWr_status' _ _ _ _ hm.2⟩
 |sem n xs ys=>exact .inl ⟨rfl,Glide.run hm (awSem_op _ _ _ _).2.1⟩
 |blk xs ys=>exact .inr ⟨xs,ys,rfl,hm⟩
 |l2 n xs ys=>exact .inl ⟨rfl,Glide.run hm (awL2_op _ _ _ _).2.1⟩
 |en2 n xs ys=>exact .inl ⟨rfl,Glide.run hm (awEn_status _ _ _ _)⟩
 |ac n xs ys=>exact .inl ⟨rfl,Glide.run hm (awAc_op _ _ _ _).2.1⟩
 |aq xs ys=>exact .inl ⟨rfl,by rw [show h=_ from hm];exact awAq_status _ _ _ _⟩
 |fin n xs=>exact .inl ⟨rfl,Glide.run hm (mLb_op _ _ _ _).2.1⟩
theorem MAt.woken (O:PCOk T Goal X) {h:Goroutine} {mt:Mt} (hm:MAt X h mt) (a a':Goroutine) (v1:World): ∃mt',MAt X (Go.Conc.woken Pg a a' v1 h) mt'∧(mt'=mt∨∃xs ys,mt= .blk xs ys∧mt'= .sem 0 xs ys)∧(mayWake Pg a=true→a'.status= .running→isBlk mt'=false):=by
 rcases hm.status O with ⟨hb,hs⟩|⟨xs,ys,rfl,rfl⟩
 ·exact ⟨mt,by rw [woken_run hs];exact hm,.inl rfl,fun _ _=>hb⟩
 ·unfold Go.Conc.woken
  split
  ·refine ⟨.sem 0 xs ys,?_,.inr ⟨xs,ys,rfl,rfl⟩,fun _ _=>rfl⟩
   show Glide Pg true 0 _ _
   have e:Goroutine.again v1 {awSem (X.wc xs) X.ds X.M.wg ys with status:= .blocked}=awSem (X.wc xs) X.ds X.M.wg ys:=rfl
   rw [e]
   exact .refl _
  ·rename_i hw
   refine ⟨_,hm,.inl rfl,fun h1 h2=>absurd ?_ hw⟩
   rw [h1,h2]
   rfl
theorem ofEvents_g {g:Nat} {fn:FuncId} {pos:String} {es:Array Event} {op:MemOp} (h:op∈MemOp.ofEvents g fn pos es):op.g=g:=by
 obtain ⟨e,_,rfl⟩:=Go.Conc.mem_ofEvents h
 rfl
theorem Gs.mainGo {s s':PS} {gs:Array Goroutine} {v v1:World} {t:Trace} (H:Gs T Goal X s gs v t) (O:PCOk T Goal X) {h h1:Goroutine} {es:Array Event} (hM:MAt X h1 s'.mt) (hs:v.heap.size≤v1.heap.size)
  (ho: ∀b,((∃r,X.E.ρ r b)∨∃k,k< s.j∧s.ow k b)→v1.heap[b]? =v.heap[b]?) (hpark: ∀k,k< s.j→(s.ws k).parked=true→∃cap buf a b tm,v1.heap[X.M.cN]? =some (.chan cap buf false a b tm))
  (e1:s'.j=s.j) (e2:s'.ws=s.ws) (e3:s'.ow=s.ow) (e4:s'.q=s.q) (fn:FuncId) (pos:String):
  Gs T Goal X s' ((gs.map (Go.Conc.woken Pg h h1 v1)).setIfInBounds 0 h1) v1 (t++MemOp.ofEvents 0 fn pos es):=by
 have hsz:0< gs.size:=by rw [H.size];have:=O.n0;omega
 have hdf: ∀i,i≠0→Deaf (t++MemOp.ofEvents 0 fn pos es) i=Deaf t i:=fun i hi=>Deaf_other t (Ne.symm hi) _ fun op hop=>ofEvents_g hop
 refine ⟨by simp [H.size,e1],⟨h1,by simp [hsz],hM⟩,fun k hk=>?_,fun i g hi hn hg=>?_,fun i hi=>?_⟩
 ·rw [e1] at hk
  obtain ⟨g,hg,hw⟩:=H.work k hk
  have hne:0≠X.n0+k:=by have:=O.n0;omega
  refine ⟨g,?_,?_⟩
  ·rw [Array.getElem?_setIfInBounds_ne hne,Array.getElem?_map,hg]
   simp only [Option.map_some]
   rw [hw.woken h h1 (hpark k hk)]
  ·rw [hdf _ (by omega),e2,e3]
   exact hw.stable hs fun b hb=>ho b (hb.imp id fun x=>⟨k,hk,x⟩)
 ·have hne:0≠i:=by omega
  rw [Array.getElem?_setIfInBounds_ne hne,Array.getElem?_map] at hg
  obtain ⟨y,hy,rfl⟩:=Option.map_eq_some_iff.1 hg
  have hq:=H.leav i y hi hn hy
  rw [woken_quitsD hq,hdf _ (by omega),e4]
  exact hq
 ·rw [hdf i (by simp at hi;omega)]
  exact H.above i (by simpa using hi)
theorem Gs.workGo {s s':PS} {gs:Array Goroutine} {v v1:World} {t:Trace} (H:Gs T Goal X s gs v t) (O:PCOk T Goal X) {k:Nat} (hk:k< s.j) {g g1:Goroutine} {es:Array Event} {fn:FuncId} {pos:String} (hW:WAt T Goal X (s'.ow k) (deafBehind (Deaf t (X.n0+k)) es) g1 v1 (s'.ws k)) (hs:v.heap.size≤v1.heap.size)
  (ho: ∀b,((∃r,X.E.ρ r b)∨∃i,i< s.j∧i≠k∧s.ow i b)→v1.heap[b]? =v.heap[b]?) (hpark: ∀i,i< s.j→(s.ws i).parked=true→∃cap buf a b tm,v1.heap[X.M.cN]? =some (.chan cap buf false a b tm))
  (hm: ∀h,gs[0]? =some h→MAt X h s.mt→MAt X (Go.Conc.woken Pg g g1 v1 h) s'.mt)
  (e1:s'.j=s.j) (e2: ∀i,i≠k→s'.ws i=s.ws i) (e3: ∀i,i≠k→s'.ow i=s.ow i) (e4:s'.q=s.q):
  Gs T Goal X s' ((gs.map (Go.Conc.woken Pg g g1 v1)).setIfInBounds (X.n0+k) g1) v1 (t++MemOp.ofEvents (X.n0+k) fn pos es):=by
 have hn0:=O.n0
 have hsz:X.n0+k< gs.size:=by rw [H.size];omega
 have hdf: ∀i,i≠X.n0+k→Deaf (t++MemOp.ofEvents (X.n0+k) fn pos es) i=Deaf t i:=fun i hi=>Deaf_other t (Ne.symm hi) _ fun op hop=>ofEvents_g hop
 obtain ⟨h,h0,hM⟩:=H.main
 refine ⟨by simp [H.size,e1],⟨_,?_,hm h h0 hM⟩,fun i hi=>?_,fun i x hi hn hg=>?_,fun i hi=>?_⟩
 ·rw [Array.getElem?_setIfInBounds_ne (by omega),Array.getElem?_map,h0]
  rfl
 ·rw [e1] at hi
  by_cases hik:i=k
  ·subst hik
   refine ⟨g1,by rw [Array.getElem?_setIfInBounds_self_of_lt (by simpa using hsz)],?_⟩
   rw [Deaf_own]
   exact hW
  ·obtain ⟨x,hx,hw⟩:=H.work i hi
   refine ⟨x,?_,?_⟩
   ·rw [Array.getElem?_setIfInBounds_ne (by omega),Array.getElem?_map,hx]
    simp only [Option.map_some]
    rw [hw.woken g g1 (hpark i hi)]
   ·rw [hdf _ (by omega),e2 i hik,e3 i hik]
    exact hw.stable hs fun b hb=>ho b (hb.imp id fun x=>⟨i,hi,hik,x⟩)
 ·rw [Array.getElem?_setIfInBounds_ne (by omega),Array.getElem?_map] at hg
  obtain ⟨y,hy,rfl⟩:=Option.map_eq_some_iff.1 hg
  have hq:=H.leav i y hi hn hy
  rw [woken_quitsD hq,hdf _ (by omega),e4]
  exact hq
 ·simp only [Array.size_setIfInBounds,Array.size_map] at hi
  rw [hdf i (by rw [H.size] at hi;omega)]
  exact H.above i hi
end
end Go.Proofs.YtldmcdeibiclkaaGreatDoor.U
end
section
namespace Go.Proofs.YtldmcdeibiclkaaGreatDoor.U
open Go.Conc
open Go.ConcN (upd upd_same upd_ne sumTo sumTo_upd sumTo_congr RelBy)
section
variable {L:Lim} {T:Tab} {Goal:Frame→List Frame→World→Prop} {X:PC L}
theorem lots_ok (O:PCOk T Goal X) {s:PS} {v:World} (h1: ∀i b,i< s.j→s.ow i b→X.M.wg< b∧b< v.heap.size) (h2: ∀i i' b,i< s.j→i'< s.j→s.ow i b→s.ow i' b→i=i'):LotsOk (lots X s):=by
 have e1:=O.bT;have e2:=O.cN;have e3:=O.bN;have e4:=O.cB;have e5:=O.bB;have e6:=O.wg
 refine ⟨?_,?_,?_,?_⟩
 ·rintro k k' b ⟨i,hi,rfl,hb⟩ ⟨i',hi',rfl,hb'⟩
  rw [h2 i i' b hi hi' hb hb']
 ·rintro k b ⟨i,hi,rfl,hb⟩ hr
  have:=(h1 i b hi hb).1
  rcases hr with ⟨hr,_⟩|hr|hr|hr<;> omega
 ·rintro k b ⟨i,hi,rfl,hb⟩ hq
  have:=(h1 i b hi hb).1
  rcases hq with hq|hq|hq<;> omega
 ·intro b hr hq
  rcases hr with ⟨hr,_⟩|hr|hr|hr<;> rcases hq with hq|hq|hq<;> omega
theorem Tr.step {s s':PS} {v v1:World} {t:Trace} (H:Tr X s v t) (O:PCOk T Goal X) {g:Nat} (hg:g=0∨isWk X s g) {es:Array Event} {fn:FuncId} {pos:String} (hj:s'.j=s.j) (hv:v.heap.size≤v1.heap.size)
  (how: ∀i b,i< s.j→s'.ow i b→s.ow i b∨(v.heap.size≤b∧b< v1.heap.size∧g=X.n0+i)) (hwg:X.M.wg< v.heap.size)
  (hok: ∀e∈es,∀a,(MemAct.ofEvent e).touch? =some a→a.loc.isMemory=true∧OkT (lots X s') g a) (hlow: ∀e∈es,(MemAct.ofEvent e).low v1.heap.size)
  (hrel: ∀k,k< s.j→(s'.ws k).rel=true→∃r,RelBy (stA' X) (t++MemOp.ofEvents g fn pos es) (X.n0+k) r) (hnr: ∀e∈es,e.loc≠.mark (.release (stA' X)))
  (hd:(if g=0 then deafBehind (Deaf t 0) es else Deaf t 0)=s'.mt.deaf)
  (hacq: ∀n xs,s'.mt= .fin n xs→∃q,(t++MemOp.ofEvents g fn pos es).act? q=some (.mark (.acquire (stA' X)))∧(t++MemOp.ofEvents g fn pos es).g? q=some 0∧(t++MemOp.ofEvents g fn pos es).heard q∧∀k,k< s.j→∃r,RelBy (stA' X) (t++MemOp.ofEvents g fn pos es) (X.n0+k) r∧r< q):
  Tr X s' v1 (t++MemOp.ofEvents g fn pos es):=by
 have own': ∀i b,i< s'.j→s'.ow i b→X.M.wg< b∧b< v1.heap.size:=fun i b hi hb=>by
  rw [hj] at hi
  rcases how i b hi hb with hb|⟨h1,h2,_⟩
  ·have:=H.own i b hi hb;omega
  ·omega
 have apart': ∀i i' b,i< s'.j→i'< s'.j→s'.ow i b→s'.ow i' b→i=i':=fun i i' b hi hi' hb hb'=>by
  rw [hj] at hi hi'
  rcases how i b hi hb with hb|⟨h1,h2,h3⟩<;> rcases how i' b hi' hb' with hb'|⟨h1',h2',h3'⟩
  ·exact H.apart i i' b hi hi' hb hb'
  ·have:=(H.own i b hi hb).2;omega
  ·have:=(H.own i' b hi' hb').2;omega
  ·omega
 have hlive:(fun k=>k=0∨isWk X s' k)=(fun k=>k=0∨isWk X s k):=by funext k;simp only [isWk,hj]
 have hwk:isWk X s'=isWk X s:=by funext k;simp only [isWk,hj]
 refine ⟨?_,own',apart',fun k hk=>hrel k (hj ▸ hk),?_,?_,fun n xs e=>hj ▸ hacq n xs e⟩
 ·rw [hlive,hwk]
  have h1:TP (lots X s') X.Sh (fun k=>k=0∨isWk X s k) (isWk X s) v1.heap.size t:=by
   refine H.tp.grow hv (fun k b=>?_) (fun b hb=> .inl hb) (fun b hb=> .inl hb) (fun b hb=>hb)
   rintro ⟨i,hi,rfl,hb⟩
   rw [hj] at hi
   rcases how i b hi hb with hb|⟨h1,_⟩
   ·exact .inl ⟨i,hi,rfl,hb⟩
   ·exact .inr h1
  refine h1.app (lots_ok O (v:=v1) own' apart') (k:=g) hg hg (fun op hop=>ofEvents_g hop) (fun op hop a ha=>?_) (fun op hop=>?_)
  ·obtain ⟨e,he,rfl⟩:=Go.Conc.mem_ofEvents hop
   exact hok e he a ha
  ·obtain ⟨e,he,rfl⟩:=Go.Conc.mem_ofEvents hop
   exact hlow e he
 ·refine H.norel.app fun op hop=>?_
  obtain ⟨e,he,rfl⟩:=Go.Conc.mem_ofEvents hop
  intro e2
  have:=hnr e he
  obtain ⟨loc,wr,sy⟩:=e
  simp only at e2
  cases loc with
  |mark m=>simp only [MemAct.ofEvent,MemAct.mark.injEq] at e2;exact this (by rw [e2])
  |cell a=>simp [MemAct.ofEvent] at e2
  |obj r=>cases wr<;> cases sy<;> simp [MemAct.ofEvent] at e2
  |output=>simp [MemAct.ofEvent] at e2
  |goroutines=>simp [MemAct.ofEvent] at e2
 ·by_cases h0:g=0
  ·subst h0
   rw [Deaf_own]
   simpa using hd
  ·rw [Deaf_other t h0 _ fun op hop=>ofEvents_g hop]
   simpa [h0] using hd
theorem rel_other {s:PS} {v:World} {t:Trace} (H:Tr X s v t) {g:Nat} {u:Trace} (hu: ∀op∈u,op.g=g) {k:Nat} (hk:k< s.j) (hne:g≠X.n0+k) (hr:(s.ws k).rel=true): ∃r,RelBy (stA' X) (t++u) (X.n0+k) r:=by
 obtain ⟨r,hr⟩:=H.rel k hk hr
 exact ⟨r,RelBy.appOther hr hu hne⟩
def Dec (Goal:Frame→List Frame→World→Prop) (X:PC L) (s' s:PS):Prop:=
 s'.phi X< s.phi X∨(s'.phi X=s.phi X∧TStep (Nxt Qg Goal) 4 s'.kap s.kap)∨(s'.phi X=s.phi X∧s'.kap=s.kap∧s'.eff X< s.eff X)
structure Like (σ σ':Wk):Prop where
 rank:σ'.rank=σ.rank
 cnt:σ'.cnt=σ.cnt
 tree:σ'.tree=σ.tree
 job:σ'.job=σ.job
 parked:σ'.parked=σ.parked
 rel:σ'.rel=σ.rel
def MLike (mt mt':Mt):Prop:=mt'=mt∨∃xs ys,mt= .blk xs ys∧mt'= .sem 0 xs ys
theorem MLike.facts {mt mt':Mt} (h:MLike mt mt'):(∀c,mt'.rank c=mt.rank c)∧mt'.sent X=mt.sent X∧mt'.on X=mt.on X∧mt'.shut=mt.shut∧mt'.pend=mt.pend∧mt'.deaf=mt.deaf∧isOpen mt'=isOpen mt∧isReg mt'=isReg mt∧(isBlk mt=false→isBlk mt'=false)∧mt'.idle≤mt.idle+1∧(∀k n xs ys,mt'= .cas k n xs ys→mt= .cas k n xs ys)∧∀n xs,mt'= .fin n xs→mt= .fin n xs:=by
 rcases h with rfl|⟨xs,ys,rfl,rfl⟩
 ·exact ⟨fun _=>rfl,rfl,rfl,rfl,rfl,rfl,rfl,rfl,id,Nat.le_succ _,fun _ _ _ _=>id,fun _ _=>id⟩
 ·refine ⟨fun _=>rfl,rfl,rfl,rfl,rfl,rfl,rfl,rfl,fun _=>rfl,by simp [Mt.idle],fun _ _ _ _ h=>(by cases h),fun _ _ h=>(by cases h)⟩
def PS.wk (s:PS) (mt:Mt) (k:Nat) (σ:Wk) (ow:Nat→Prop):PS:={s with mt:=mt,ws:=upd s.ws k σ,ow:=upd s.ow k ow}
theorem PS.wk_self (s:PS) (mt:Mt) (k:Nat) (σ:Wk) (ow:Nat→Prop):(s.wk mt k σ ow).ws k=σ∧(s.wk mt k σ ow).ow k=ow:=⟨upd_same ..,upd_same ..⟩
theorem PS.wk_ne (s:PS) (mt:Mt) {k i:Nat} (σ:Wk) (ow:Nat→Prop) (h:i≠k):(s.wk mt k σ ow).ws i=s.ws i∧(s.wk mt k σ ow).ow i=s.ow i:=⟨upd_ne _ _ h,upd_ne _ _ h⟩
theorem PS.wk_sum (s:PS) (mt:Mt) {k:Nat} (hk:k< s.j) (σ:Wk) (ow:Nat→Prop) (φ:Wk→Nat):sumTo s.j (fun i=>φ ((s.wk mt k σ ow).ws i))+φ (s.ws k)=sumTo s.j (fun i=>φ (s.ws i))+φ σ:=sumTo_upd s.ws σ φ hk
theorem PS.wk_c (s:PS) (mt:Mt) {k:Nat} (hk:k< s.j) (σ:Wk) (ow:Nat→Prop):(s.wk mt k σ ow).c+(s.ws k).cnt=s.c+σ.cnt:=sumTo_upd s.ws σ Wk.cnt hk
theorem PS.wk_kap (s:PS) (mt:Mt) {k:Nat} (σ:Wk) (ow:Nat→Prop) (h:σ.tree=(s.ws k).tree):(s.wk mt k σ ow).kap=s.kap:=by
 funext i
 unfold PS.kap
 by_cases hi:i=k
 ·subst hi
  rw [(s.wk_self mt i σ ow).1,h]
  rfl
 ·rw [(s.wk_ne mt σ ow hi).1]
  rfl
theorem Ac.like {s:PS} {mt':Mt} (H:Ac X s) (hm:MLike s.mt mt') {k:Nat} {σ:Wk} (hl:Like (s.ws k) σ) (ow:Nat→Prop):Ac X (s.wk mt' k σ ow):=by
 obtain ⟨_,f2,f3,f4,_⟩:=hm.facts (X:=X)
 have hws: ∀i,((s.wk mt' k σ ow).ws i).job=(s.ws i).job∧((s.wk mt' k σ ow).ws i).parked=(s.ws i).parked∧((s.wk mt' k σ ow).ws i).rank=(s.ws i).rank:=fun i=>by
  by_cases hi:i=k
  ·subst hi;rw [(s.wk_self mt' i σ ow).1];exact ⟨hl.job,hl.parked,hl.rank⟩
  ·rw [(s.wk_ne mt' σ ow hi).1];exact ⟨rfl,rfl,rfl⟩
 refine ⟨H.on.trans f3.symm,f2 ▸ H.sent,(H.got).trans f2.symm,fun i hi=>?_,?_,H.okN,H.okB,fun i hi hp=>?_,fun i hi hr=>?_⟩
 ·rcases H.cover i (f2 ▸ hi) with h|h|⟨k',h1,h2⟩
  ·exact .inl h
  ·exact .inr (.inl h)
  ·exact .inr (.inr ⟨k',h1,(hws k').1.trans h2⟩)
 ·have e:sumTo s.j (fun i=>if ((s.wk mt' k σ ow).ws i).job.isSome then 1 else 0)=sumTo s.j (fun i=>if (s.ws i).job.isSome then 1 else 0):=sumTo_congr fun i _=>by rw [(hws i).1]
  show s.bufN.length+sumTo s.j (fun i=>if ((s.wk mt' k σ ow).ws i).job.isSome then 1 else 0)+s.bufB.length≤mt'.sent X
  rw [e,f2]
  exact H.count
 ·rw [(hws i).2.1] at hp
  have:=H.park i hi hp
  exact ⟨this.1,f4.trans this.2⟩
 ·rw [(hws i).2.2] at hr
  have:=H.gone i hi hr
  exact ⟨f4.trans this.1,this.2⟩
theorem Wg.like (X:PC L) {s:PS} {mt':Mt} (H:Wg s) (hm:MLike s.mt mt') {k:Nat} (hk:k< s.j) {σ:Wk} (hl:Like (s.ws k) σ) (ow:Nat→Prop):Wg (s.wk mt' k σ ow):=by
 obtain ⟨_,_,_,_,f5,_,f7,f8,f9,_,f11,_⟩:=hm.facts (X:=X)
 have hc:(s.wk mt' k σ ow).c=s.c:=by have:=s.wk_c mt' hk σ ow;rw [hl.cnt] at this;omega
 have hr: ∀i,((s.wk mt' k σ ow).ws i).rank=(s.ws i).rank:=fun i=>by
  by_cases hi:i=k
  ·subst hi;rw [(s.wk_self mt' i σ ow).1];exact hl.rank
  ·rw [(s.wk_ne mt' σ ow hi).1]
 cases H with
 |opn h1 h2 h3 h4 h5=>exact .opn (f7.trans h1) (fun i hi=>by rw [hr i];exact h2 i hi) (by rw [hc];show s.st=(s.c+mt'.pend)*KK';rw [f5];exact h3) h4 (fun k n xs ys e=>by rw [hc];exact h5 k n xs ys (f11 k n xs ys e))
 |reg h1 h2 h3 h4 h5=>exact .reg (f8.trans h1) (fun i hi=>by rw [hr i];exact h2 i hi) (by rw [hc];exact h3) (by rw [hc];exact h4) h5
 |last q h1 h2 h3 h4 h5 h6 h7=>exact .last q (f8.trans h1) h2 (by rw [hr q];exact h3) (by rw [hr q];exact h4) (fun i hi hq=>by rw [hr i];exact h5 i hi hq) (by rw [hr q];exact h6) h7
 |sema h1 h2 h3 h4 h5=>exact .sema (f8.trans h1) (f9 h2) (fun i hi=>by rw [hr i];exact h3 i hi) h4 h5
 |done h1 h2 h3 h4 h5=>exact .done (f7.trans h1) (f8.trans h2) (fun i hi=>by rw [hr i];exact h3 i hi) h4 h5
theorem Wd.same {s s':PS} {v:World} (H:Wd X s v) (e1:s'.bufN=s.bufN) (e2:s'.mt.shut=s.mt.shut) (e3:s'.mt.sent X=s.mt.sent X) (e4:s'.rN=s.rN) (e5:s'.bufB=s.bufB) (e6:s'.st=s.st) (e7:s'.sm=s.sm):Wd X s' v:=
 ⟨H.old,H.size,H.bT,H.bN,H.bB,by rw [e1,e2,e3,e4];exact H.cN,by rw [e5];exact H.cB,by rw [e6,e7];exact H.wg,H.tape,H.os,H.output⟩
theorem Wd.away {s:PS} {v v1:World} (O:PCOk T Goal X) (H:Wd X s v) (hs:v.heap.size≤v1.heap.size) (ho: ∀b,b≤X.M.wg→v1.heap[b]? =v.heap[b]?) (ht:v1.tape=v.tape) (h2:v1.os=v.os) (h3:v1.output=v.output):Wd X s v1:=by
 have e1:=O.bT;have e2:=O.cN;have e3:=O.bN;have e4:=O.cB;have e5:=O.bB;have e6:=O.wg
 refine ⟨⟨Nat.le_trans H.old.1 hs,fun b hb=>by rw [ho b (by omega)];exact H.old.2 b hb⟩,Nat.lt_of_lt_of_le H.size hs,?_,?_,?_,?_,?_,?_,ht.trans H.tape,h2.trans H.os,h3.trans H.output⟩
 ·rw [ho _ (by omega)];exact H.bT
 ·rw [ho _ (by omega)];exact H.bN
 ·rw [ho _ (by omega)];exact H.bB
 ·rw [ho _ (by omega)];exact H.cN
 ·obtain ⟨sB,h⟩:=H.cB;exact ⟨sB,by rw [ho _ (by omega)];exact h⟩
 ·rw [ho _ (Nat.le_refl _)];exact H.wg
theorem Wd.at {s:PS} {v:World} (H:Wd X s v) (d:Nat):Wd X s (v.at d):=⟨H.old,H.size,H.bT,H.bN,H.bB,H.cN,H.cB,H.wg,H.tape,H.os,H.output⟩
theorem Tr.at {s:PS} {v:World} {t:Trace} (H:Tr X s v t) (d:Nat):Tr X s (v.at d) t:=⟨H.tp,H.own,H.apart,H.rel,H.norel,H.d0,H.acq⟩
theorem Gs.at {s:PS} {gs:Array Goroutine} {v:World} {t:Trace} (H:Gs T Goal X s gs v t) (d:Nat):Gs T Goal X s gs (v.at d) t:=
 ⟨H.size,H.main,fun k hk=>let ⟨g,hg,hw⟩:=H.work k hk;⟨g,hg,hw.stable (Nat.le_refl _) fun _ _=>rfl⟩,H.leav,H.above⟩
theorem PI.at {s:PS} {gs:Array Goroutine} {v:World} {t:Trace} (H:PI T Goal X s gs v t) (d:Nat):PI T Goal X s gs (v.at d) t:=⟨H.gs.at d,H.wd.at d,H.ac,H.wg,H.tr.at d⟩
end
end Go.Proofs.YtldmcdeibiclkaaGreatDoor.U
end
