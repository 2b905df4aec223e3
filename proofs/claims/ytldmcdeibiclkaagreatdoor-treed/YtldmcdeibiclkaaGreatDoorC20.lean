/-
  Toward: treed_holds, each node's digest is that of its children's, for every argument of Treed. THE POOL's MACHINE: the steps of a worker's own.
  THE POOL's MACHINE: a worker from its start to its calls.
-/
import Derived.Test.YtldmcdeibiclkaaGreatDoorC19
set_option linter.unusedVariables false
set_option linter.unusedSimpArgs false
set_option maxRecDepth 4000
section
namespace Go.Proofs.YtldmcdeibiclkaaGreatDoor.U
open Go.Conc
open Go.ConcN (upd upd_same upd_ne sumTo sumTo_upd sumTo_congr RelBy)
section
variable {L:Lim} {T:Tab} {Goal:Frame→List Frame→World→Prop} {X:PC L}
def StepsTo (T:Tab) (Goal:Frame→List Frame→World→Prop) (X:PC L) (s:PS) (gs:Array Goroutine) (v:World) (sl:Option (Nat×Nat)) (t:Trace) (i:Nat):Prop:=
 ∃s' gs' v' ops,runT Pg (crowd gs v sl) i=(.next (crowd gs' v' sl),ops)∧PI T Goal X s' gs' v' (t++ops)∧Dec Goal X s' s
theorem dec_rank {s:PS} {k:Nat} (hk:k< s.j) {σ:Wk} (hr:σ.rank< (s.ws k).rank) (hc:σ.cnt=(s.ws k).cnt) (mt':Mt) (hm:MLike s.mt mt') (ow:Nat→Prop) (st sm:Nat):Dec Goal X {s.wk mt' k σ ow with st:=st,sm:=sm} s:=by
 refine .inl ?_
 have h1:=s.wk_sum mt' hk σ ow Wk.rank
 have h2:=s.wk_c mt' hk σ ow
 have h3:({s.wk mt' k σ ow with st:=st,sm:=sm}:PS).c=s.c:=by
  show (s.wk mt' k σ ow).c=s.c
  omega
 unfold PS.phi
 rw [h3]
 have h4:=(hm.facts (X:=X)).1 s.c
 show mt'.rank s.c+sumTo s.j (fun i=>((s.wk mt' k σ ow).ws i).rank)+12*s.c+60*(X.E.n - s.rN)< s.mt.rank s.c+sumTo s.j (fun i=>(s.ws i).rank)+12*s.c+60*(X.E.n - s.rN)
 omega
theorem workGo (O:PCOk T Goal X) {s:PS} {gs:Array Goroutine} {v:World} {sl:Option (Nat×Nat)} {t:Trace} (H:PI T Goal X s gs v t) {k:Nat} (hk:k< s.j) {g:Goroutine} (hg:gs[X.n0+k]? =some g) {g1:Goroutine} {v1:World} {es:Array Event} (e:stepG Pg false g v= .go g1 v1 es)
  (σ:Wk) (ow:Nat→Prop) (st sm:Nat)
  (hW:WAt T Goal X ow (deafBehind (Deaf t (X.n0+k)) es) g1 v1 σ) (hs:v.heap.size≤v1.heap.size)
  (hoth: ∀b,b< v.heap.size→¬ s.ow k b→b≠X.M.wg→v1.heap[b]? =v.heap[b]?) (how: ∀b,ow b→s.ow k b∨(v.heap.size≤b∧b< v1.heap.size))
  (hwgb:v1.heap[X.M.wg]? =some (.cells #[.int .u64 st,.int .u32 sm] 188)) (ht:v1.tape=v.tape∧v1.os=v.os∧v1.output=v.output)
  (hac: ∀mt',MLike s.mt mt'→Ac X (s.wk mt' k σ ow))
  (hwg: ∀mt',MLike s.mt mt'→(mayWake Pg g=true→g1.status= .running→isBlk mt'=false)→Wg {s.wk mt' k σ ow with st:=st,sm:=sm})
  (hev: ∀e∈es,∀a,(MemAct.ofEvent e).touch? =some a→a.loc.isMemory=true∧OkT (lots X (s.wk s.mt k σ ow)) (X.n0+k) a) (hlow: ∀e∈es,(MemAct.ofEvent e).low v1.heap.size)
  (hrel:σ.rel=true→∃r,RelBy (stA' X) (t++MemOp.ofEvents (X.n0+k) g.frame.fn g.frame.place es) (X.n0+k) r) (hnr: ∀e∈es,e.loc≠.mark (.release (stA' X)))
  (hfin: ∀n xs,s.mt= .fin n xs→False)
  (hdec: ∀mt',MLike s.mt mt'→Dec Goal X {s.wk mt' k σ ow with st:=st,sm:=sm} s):StepsTo T Goal X s gs v sl t (X.n0+k):=by
 have hn0:=O.n0
 have e1:=O.bT;have e2:=O.cN;have e3:=O.bN;have e4:=O.cB;have e5:=O.bB;have e6:=O.wg
 have hne0:(X.n0+k==0)=false:=by simp;omega
 have hrun:=runT_crowd_go (P:=Pg) (sl:=sl) (i:=X.n0+k) hg (by rw [hne0];exact e)
 obtain ⟨h,h0,hM⟩:=H.gs.main
 obtain ⟨mt',hM',hml,hbl⟩:=hM.woken O g g1 v1
 have hfacts:=MLike.facts (X:=X) hml
 have hown: ∀b,b≤X.M.wg→¬ s.ow k b:=fun b hb ho=>by have:=(H.tr.own k b hk ho).1;omega
 have hsame: ∀b,b< X.M.wg→v1.heap[b]? =v.heap[b]? :=fun b hb=>hoth b (by have:=H.wd.size;omega) (hown b (by omega)) (by omega)
 refine ⟨{s.wk mt' k σ ow with st:=st,sm:=sm},_,v1,_,hrun,⟨?_,?_,?_,hwg mt' hml hbl,?_⟩,hdec mt' hml⟩
 ·refine H.gs.workGo O hk (s':={s.wk mt' k σ ow with st:=st,sm:=sm}) ?_ hs ?_ ?_ ?_ rfl (fun i hi=>(s.wk_ne mt' σ ow hi).1) (fun i hi=>(s.wk_ne mt' σ ow hi).2) rfl
  ·show WAt T Goal X ((s.wk mt' k σ ow).ow k) _ g1 v1 ((s.wk mt' k σ ow).ws k)
   rw [(s.wk_self mt' k σ ow).1,(s.wk_self mt' k σ ow).2]
   exact hW
  ·rintro b (⟨r,hr⟩|⟨i,hi,hik,hb⟩)
   ·exact hsame b (by have:=(O.K.dom r b hr).2;omega)
   ·have h1:=H.tr.own i b hi hb
    exact hoth b h1.2 (fun hx=>hik (H.tr.apart i k b hi hk hb hx)) (by omega)
  ·intro i hi hp
   have hcn:=H.wd.cN
   rw [(H.ac.park i hi hp).2,← hsame _ (by omega)] at hcn
   exact ⟨_,_,_,_,_,hcn⟩
  ·intro h' h0' _
   rw [h0] at h0'
   cases h0'
   exact hM'
 ·refine ⟨⟨Nat.le_trans H.wd.old.1 hs,fun b hb=>by rw [hsame b (by omega)];exact H.wd.old.2 b hb⟩,Nat.lt_of_lt_of_le H.wd.size hs,?_,?_,?_,?_,?_,hwgb,ht.1.trans H.wd.tape,ht.2.1.trans H.wd.os,ht.2.2.trans H.wd.output⟩
  ·rw [hsame _ (by omega)];exact H.wd.bT
  ·rw [hsame _ (by omega)];exact H.wd.bN
  ·rw [hsame _ (by omega)];exact H.wd.bB
  ·rw [hsame _ (by omega)]
   show _=some (Obj.chan X.E.n (s.bufN.map X.num).toArray mt'.shut (mt'.sent X) s.rN false)
   rw [hfacts.2.1,hfacts.2.2.2.1]
   exact H.wd.cN
  ·obtain ⟨sB,h⟩:=H.wd.cB
   exact ⟨sB,by rw [hsame _ (by omega)];exact h⟩
 ·have:=hac mt' hml
  exact ⟨this.on,this.sent,this.got,this.cover,this.count,this.okN,this.okB,this.park,this.gone⟩
 ·refine H.tr.step O (s':={s.wk mt' k σ ow with st:=st,sm:=sm}) (.inr ⟨by omega,by omega⟩) rfl hs (fun i b hi hb=>?_) H.wd.size hev hlow (fun i hi hr=>?_) hnr ?_ (fun n xs h=>(hfin n xs (hfacts.2.2.2.2.2.2.2.2.2.2.2 n xs h)).elim)
  ·by_cases hik:i=k
   ·subst hik
    have hb':ow b:=by have:=(s.wk_self mt' i σ ow).2;rw [← this];exact hb
    exact (how b hb').imp id fun x=>⟨x.1,x.2,rfl⟩
   ·have:=(s.wk_ne mt' σ ow hik).2
    exact .inl (by rw [← this];exact hb)
  ·by_cases hik:i=k
   ·subst hik
    have:=(s.wk_self mt' i σ ow).1
    exact hrel (by rw [← this];exact hr)
   ·have:=(s.wk_ne mt' σ ow hik).1
    exact rel_other H.tr (fun op hop=>ofEvents_g hop) hi (by omega) (by rw [← this];exact hr)
  ·rw [if_neg (by omega),H.tr.d0]
   exact hfacts.2.2.2.2.2.1.symm
theorem workIdle (O:PCOk T Goal X) {s:PS} {gs:Array Goroutine} {v:World} {sl:Option (Nat×Nat)} {t:Trace} (H:PI T Goal X s gs v t) (hfin: ∀n xs,s.mt= .fin n xs→False) {k:Nat} (hk:k< s.j) {g:Goroutine} (hg:gs[X.n0+k]? =some g) {g1:Goroutine} (e: ∀w,stepG Pg false g w= .go g1 w #[])
  {σ:Wk} (hl:Like (s.ws k) σ) (hi:σ.idle+1=(s.ws k).idle) (hW:WAt T Goal X (s.ow k) (Deaf t (X.n0+k)) g1 v σ):StepsTo T Goal X s gs v sl t (X.n0+k):=by
 refine workGo O H hk hg (e v) σ (s.ow k) s.st s.sm hW (Nat.le_refl _) (fun _ _ _ _=>rfl) (fun b hb=> .inl hb) H.wd.wg ⟨rfl,rfl,rfl⟩ (fun mt' hm=>H.ac.like hm hl _) (fun mt' hm _=>?_) (fun e he=>by simp at he) (fun e he=>by simp at he) (fun hr=>?_) (fun e he=>by simp at he) hfin (fun mt' hm=>?_)
 ·exact H.wg.like X hm hk hl _
 ·obtain ⟨r,hr⟩:=H.tr.rel k hk (hl.rel ▸ hr)
  exact ⟨r,RelBy.still hr fun op hop=>by obtain ⟨e,he,_⟩:=Go.Conc.mem_ofEvents hop;simp at he⟩
 ·have h1:=s.wk_sum mt' hk σ (s.ow k) Wk.rank
  have h2:=s.wk_c mt' hk σ (s.ow k)
  have h5:=s.wk_sum mt' hk σ (s.ow k) Wk.idle
  rw [hl.rank] at h1
  rw [hl.cnt] at h2
  have hf:=hm.facts (X:=X)
  have h3:(s.wk mt' k σ (s.ow k)).c=s.c:=by omega
  refine .inr (.inr ⟨?_,s.wk_kap mt' σ (s.ow k) hl.tree,?_⟩)
  ·show mt'.rank (s.wk mt' k σ (s.ow k)).c+sumTo s.j (fun i=>((s.wk mt' k σ (s.ow k)).ws i).rank)+12*(s.wk mt' k σ (s.ow k)).c+60*(X.E.n - s.rN)=s.mt.rank s.c+sumTo s.j (fun i=>(s.ws i).rank)+12*s.c+60*(X.E.n - s.rN)
   rw [h3,hf.1 s.c]
   omega
  ·show mt'.idle+2*sumTo s.j (fun i=>((s.wk mt' k σ (s.ow k)).ws i).idle)+2*sumTo X.n0 s.q< s.mt.idle+2*sumTo s.j (fun i=>(s.ws i).idle)+2*sumTo X.n0 s.q
   have:=hf.2.2.2.2.2.2.2.2.2.1
   omega
end
end Go.Proofs.YtldmcdeibiclkaaGreatDoor.U
end
section
namespace Go.Proofs.YtldmcdeibiclkaaGreatDoor.U
open Go.Conc
open Go.ConcN (upd upd_same upd_ne sumTo sumTo_upd sumTo_congr RelBy)
section
variable {L:Lim} {T:Tab} {Goal:Frame→List Frame→World→Prop} {X:PC L}
theorem Ac.wk {s:PS} (H:Ac X s) {k:Nat} {σ:Wk} (ow:Nat→Prop) (hj:σ.job=(s.ws k).job) (hp:σ.parked=true→s.bufN= []∧s.mt.shut=false) (hg:σ.rank≤7→s.mt.shut=true∧s.bufN= []): ∀mt',MLike s.mt mt'→Ac X (s.wk mt' k σ ow):=by
 intro mt' hm
 obtain ⟨_,f2,f3,f4,_⟩:=hm.facts (X:=X)
 have hws: ∀i,((s.wk mt' k σ ow).ws i).job=(s.ws i).job:=fun i=>by
  by_cases hi:i=k
  ·subst hi;rw [(s.wk_self mt' i σ ow).1];exact hj
  ·rw [(s.wk_ne mt' σ ow hi).1]
 refine ⟨H.on.trans f3.symm,f2 ▸ H.sent,(H.got).trans f2.symm,fun i hi=>?_,?_,H.okN,H.okB,fun i hi hpp=>?_,fun i hi hr=>?_⟩
 ·rcases H.cover i (f2 ▸ hi) with h|h|⟨k',h1,h2⟩
  ·exact .inl h
  ·exact .inr (.inl h)
  ·exact .inr (.inr ⟨k',h1,(hws k').trans h2⟩)
 ·have e:sumTo s.j (fun i=>if ((s.wk mt' k σ ow).ws i).job.isSome then 1 else 0)=sumTo s.j (fun i=>if (s.ws i).job.isSome then 1 else 0):=sumTo_congr fun i _=>by rw [hws i]
  show s.bufN.length+sumTo s.j (fun i=>if ((s.wk mt' k σ ow).ws i).job.isSome then 1 else 0)+s.bufB.length≤mt'.sent X
  rw [e,f2]
  exact H.count
 ·by_cases hik:i=k
  ·subst hik
   rw [(s.wk_self mt' i σ ow).1] at hpp
   exact ⟨(hp hpp).1,f4.trans (hp hpp).2⟩
  ·rw [(s.wk_ne mt' σ ow hik).1] at hpp
   have:=H.park i hi hpp
   exact ⟨this.1,f4.trans this.2⟩
 ·by_cases hik:i=k
  ·subst hik
   rw [(s.wk_self mt' i σ ow).1] at hr
   exact ⟨f4.trans (hg hr).1,(hg hr).2⟩
  ·rw [(s.wk_ne mt' σ ow hik).1] at hr
   have:=H.gone i hi hr
   exact ⟨f4.trans this.1,this.2⟩
theorem Wg.wk4 (X:PC L) {s:PS} (H:Wg s) {k:Nat} (hk:k< s.j) {σ:Wk} (ow:Nat→Prop) (h1:4≤(s.ws k).rank) (h2:4≤σ.rank) (hc:σ.cnt=(s.ws k).cnt): ∀mt',MLike s.mt mt'→Wg {s.wk mt' k σ ow with st:=s.st,sm:=s.sm}:=by
 intro mt' hm
 obtain ⟨_,_,_,_,f5,_,f7,f8,f9,_,f11,_⟩:=hm.facts (X:=X)
 have hcc:(s.wk mt' k σ ow).c=s.c:=by have:=s.wk_c mt' hk σ ow;omega
 have hr: ∀i,noLast s→i< s.j→((s.wk mt' k σ ow).ws i).rank=0∨4≤((s.wk mt' k σ ow).ws i).rank:=fun i hn hi=>by
  by_cases hik:i=k
  ·subst hik;rw [(s.wk_self mt' i σ ow).1];exact .inr h2
  ·rw [(s.wk_ne mt' σ ow hik).1];exact hn i hi
 cases H with
 |opn a1 a2 a3 a4 a5=>exact .opn (f7.trans a1) (fun i hi=>hr i a2 hi) (by show s.st=((s.wk mt' k σ ow).c+mt'.pend)*KK';rw [hcc,f5];exact a3) a4 (fun q n xs ys e=>by show (s.wk mt' k σ ow).c≤q;rw [hcc];exact a5 q n xs ys (f11 q n xs ys e))
 |reg a1 a2 a3 a4 a5=>exact .reg (f8.trans a1) (fun i hi=>hr i a2 hi) (by show 1≤(s.wk mt' k σ ow).c;rw [hcc];exact a3) (by show s.st=(s.wk mt' k σ ow).c*KK'+1;rw [hcc];exact a4) a5
 |last q a1 a2 a3 a4 a5 a6 a7=>
  by_cases hq:k=q
  ·subst hq;omega
  ·have:=a5 k hk hq;omega
 |sema a1 a2 a3 a4 a5=>have:=a3 k hk;omega
 |done a1 a2 a3 a4 a5=>have:=a3 k hk;omega
theorem ev_box (O:PCOk T Goal X) (s':PS) (g b:Nat) (hb:b=X.M.bT∨b=X.M.bN∨b=X.M.bB): ∀e∈(#[⟨.cell ⟨b,0,none⟩,false,false⟩]:Array Event),∀a,(MemAct.ofEvent e).touch? =some a→a.loc.isMemory=true∧OkT (lots X s') g a:=by
 have _:=O
 intro e he a ha
 simp at he
 subst he
 simp only [MemAct.ofEvent,MemAct.touch?,Option.some.injEq] at ha
 subst ha
 refine ⟨rfl,fun c hc=>?_⟩
 simp only [blk,Option.some.injEq] at hc
 subst hc
 exact .inr (.inl ⟨.inr hb,rfl,rfl⟩)
theorem low_cell {B:Nat} {a:Addr} (h:a.block< B) (wr sy:Bool):(MemAct.ofEvent ⟨.cell a,wr,sy⟩).low B:=by
 simp only [MemAct.ofEvent,MemAct.low,Loc.low]
 exact h
theorem gOps_fn (p:Pl) (xs:Nat→Value) (l:List Nat):(gOps p xs l).frame.fn=89:=by kernel_rfl
theorem seen_w (b:Nat):seen Pg 89 #[⟨.cell ⟨b,0,none⟩,false,false⟩]=#[⟨.cell ⟨b,0,none⟩,false,false⟩]:=by kernel_rfl
theorem w_load (O:PCOk T Goal X) {s:PS} {gs:Array Goroutine} {v:World} {sl:Option (Nat×Nat)} {t:Trace} (H:PI T Goal X s gs v t) (hfin: ∀n xs,s.mt= .fin n xs→False) {k:Nat} (hk:k< s.j) (hσ:s.ws k= .load 0):StepsTo T Goal X s gs v sl t (X.n0+k):=by
 obtain ⟨g,hg,hW⟩:=H.gs.work k hk
 rw [hσ] at hW
 obtain ⟨hgl,hd⟩:=hW
 cases hgl
 have e6:=O.wg;have e3:=O.bN
 have hc:v.cell? ⟨X.M.bN,0,none⟩=some (.chan (some X.M.cN)):=by simp [World.cell?,H.wd.bN]
 have e:=AtOp.value (load_op X.p) (load_feed X.p (.chan (some X.M.cN))) (w:=v) (w':=v) (es:=#[⟨.cell ⟨X.M.bN,0,none⟩,false,false⟩]) ⟨hc,rfl,rfl⟩
 rw [load_seen] at e
 have hr:(s.ws k).rank=10:=by rw [hσ];rfl
 refine workGo O H hk hg e (.recv 5 fun _=>undef) (s.ow k) s.st s.sm ⟨?_,hd⟩ (Nat.le_refl _) (fun _ _ _ _=>rfl) (fun b hb=> .inl hb) H.wd.wg ⟨rfl,rfl,rfl⟩
  (H.ac.wk _ (by rw [hσ];rfl) (fun h=>by cases h) (fun h=>by simp [Wk.rank] at h)) (fun mt' hm _=>H.wg.wk4 X hk _ (by omega) (by simp [Wk.rank]) (by rw [hσ];rfl) mt' hm)
  (ev_box O _ _ _ (.inr (.inl rfl))) (fun e he=>by simp at he;subst he;exact low_cell (show X.M.bN< v.heap.size by have:=H.wd.size;omega) _ _) (fun h=>by cases h) (fun e he=>by simp at he;subst he;simp) hfin (fun mt' hm=>dec_rank hk (by rw [hσ];simp [Wk.rank]) (by rw [hσ];rfl) mt' hm _ _ _)
 have:=(loaded_slid X.p).glide
 rw [recv_first] at this
 exact this
theorem w_draw (O:PCOk T Goal X) {s:PS} {gs:Array Goroutine} {v:World} {sl:Option (Nat×Nat)} {t:Trace} (H:PI T Goal X s gs v t) (hfin: ∀n xs,s.mt= .fin n xs→False) {k:Nat} (hk:k< s.j) {i:Nat} {xs:Nat→Value} (hσ:s.ws k= .draw 0 i xs):StepsTo T Goal X s gs v sl t (X.n0+k):=by
 obtain ⟨g,hg,hW⟩:=H.gs.work k hk
 rw [hσ] at hW
 obtain ⟨hgl,hd,hi,h4⟩:=hW
 cases hgl
 have hw:=schedule_whole (v.tape v.drawn (.order 89 4))
 have e:=draw_step X.p xs v
 generalize Region.schedule true opsR (v.tape v.drawn (.order 89 4))=l at hw e
 simp only [whole,Bool.and_eq_true,decide_eq_true_eq,List.all_eq_true] at hw
 obtain ⟨⟨hgood,hall⟩,hlen⟩:=hw
 have hc: ∀j,j< 8→l.contains j=false→False:=fun j hj h=>by
  have:=hall j (List.mem_range.2 hj)
  rw [h] at this;cases this
 have hr:(s.ws k).rank=60:=by rw [hσ];rfl
 refine workGo O H hk hg e (.ops i l xs) (s.ow k) s.st s.sm ⟨rfl,hd,?_,hgood,hi,h4,fun h=>(hc 0 (by omega) h).elim,fun h=>(hc 1 (by omega) h).elim,fun h=>(hc 2 (by omega) h).elim,fun h=>(hc 3 (by omega) h).elim,fun h=>(hc 4 (by omega) h).elim,fun h=>(hc 5 (by omega) h).elim,fun h=>(hc 6 (by omega) h).elim⟩ (Nat.le_refl _) (fun _ _ _ _=>rfl) (fun b hb=> .inl hb) H.wd.wg ⟨rfl,rfl,rfl⟩
  (H.ac.wk _ (by rw [hσ];rfl) (fun h=>by cases h) (fun h=>by simp [Wk.rank] at h;omega)) (fun mt' hm _=>H.wg.wk4 X hk _ (by omega) (by simp only [Wk.rank];omega) (by rw [hσ];rfl) mt' hm)
  (fun e he=>by simp at he) (fun e he=>by simp at he) (fun h=>by cases h) (fun e he=>by simp at he) hfin (fun mt' hm=>dec_rank hk (by rw [hσ];simp only [Wk.rank];omega) (by rw [hσ];rfl) mt' hm _ _ _)
 rintro rfl
 simp at hlen
theorem contains_cons_ne {j m:Nat} (l:List Nat) (h:m≠j):(j::l).contains m=l.contains m:=by
 simp only [List.contains_cons]
 have:(m==j)=false:=by simp [h]
 rw [this,Bool.false_or]
theorem good_cons {j:Nat} {l:List Nat} (h:good (j::l)=true):headOk j l=true∧good l=true:=by
 simpa [good] using h
theorem ne_nil_of {l:List Nat} {m:Nat} (h:l.contains m=true):l≠[]:=by rintro rfl;simp at h
theorem w_opv (O:PCOk T Goal X) {s:PS} {gs:Array Goroutine} {v:World} {sl:Option (Nat×Nat)} {t:Trace} (H:PI T Goal X s gs v t) (hfin: ∀n xs,s.mt= .fin n xs→False) {k:Nat} (hk:k< s.j) {i j:Nat} {l:List Nat} {xs xs':Nat→Value} (hσ:s.ws k= .ops i (j::l) xs) {es:Array Event}
  (e:stepG Pg false (gOps X.p xs (j::l)) v= .go (gOps X.p xs' l) v es) (hes:es=#[]∨∃b,(b=X.M.bT∨b=X.M.bN∨b=X.M.bB)∧es=#[⟨.cell ⟨b,0,none⟩,false,false⟩]) (hne:l≠[]) (ho:OpsOk Goal X i l xs'):StepsTo T Goal X s gs v sl t (X.n0+k):=by
 obtain ⟨g,hg,hW⟩:=H.gs.work k hk
 rw [hσ] at hW
 obtain ⟨rfl,hd,_,_⟩:=hW
 have e6:=O.wg;have e3:=O.bN;have e1:=O.bT;have e5:=O.bB
 have hr:(s.ws k).rank=21+2*(l.length+1):=by rw [hσ];rfl
 have hdf:deafBehind (Deaf t (X.n0+k)) es=0:=by
  rcases hes with rfl|⟨b,_,rfl⟩
  ·exact hd
  ·exact hd
 refine workGo O H hk hg e (.ops i l xs') (s.ow k) s.st s.sm ⟨rfl,hdf,hne,ho⟩ (Nat.le_refl _) (fun _ _ _ _=>rfl) (fun b hb=> .inl hb) H.wd.wg ⟨rfl,rfl,rfl⟩
  (H.ac.wk _ (by rw [hσ];rfl) (fun h=>by cases h) (fun h=>by simp only [Wk.rank] at h;omega)) (fun mt' hm _=>H.wg.wk4 X hk _ (by omega) (by simp only [Wk.rank];omega) (by rw [hσ];rfl) mt' hm) ?_ ?_ (fun h=>by cases h) ?_ hfin (fun mt' hm=>dec_rank hk (by rw [hσ];simp only [Wk.rank,List.length_cons];omega) (by rw [hσ];rfl) mt' hm _ _ _)
 ·rcases hes with rfl|⟨b,hb,rfl⟩
  ·intro e he;simp at he
  ·exact ev_box O _ _ b hb
 ·rcases hes with rfl|⟨b,hb,rfl⟩
  ·intro e he;simp at he
  ·intro e he;simp at he;subst he;exact low_cell (show b< v.heap.size by have:=H.wd.size;omega) _ _
 ·rcases hes with rfl|⟨b,hb,rfl⟩
  ·intro e he;simp at he
  ·intro e he;simp at he;subst he;simp
theorem w_ops0 (O:PCOk T Goal X) {s:PS} {gs:Array Goroutine} {v:World} {sl:Option (Nat×Nat)} {t:Trace} (H:PI T Goal X s gs v t) (hfin: ∀n xs,s.mt= .fin n xs→False) {k:Nat} (hk:k< s.j) {i j:Nat} {l:List Nat} {xs:Nat→Value} (hσ:s.ws k= .ops i (j::l) xs) (hj:j=0∨j=1∨j=2∨j=3∨j=6):StepsTo T Goal X s gs v sl t (X.n0+k):=by
 obtain ⟨g,hg,hW⟩:=H.gs.work k hk
 rw [hσ] at hW
 obtain ⟨_,_,_,ho⟩:=hW
 obtain ⟨hh,hgd⟩:=good_cons ho.good
 rcases hj with rfl|rfl|rfl|rfl|rfl
 ·have hne:l≠[]:=ne_nil_of (m:=7) hh
  have hc:v.cell? ⟨X.M.bB,0,none⟩=some (.chan (some X.M.cB)):=by simp [World.cell?,H.wd.bB]
  have e:=AtOp.value (op0 X.p xs l) (op0_feed X.p xs l (.chan (some X.M.cB))) (w:=v) (w':=v) (es:=#[⟨.cell ⟨X.M.bB,0,none⟩,false,false⟩]) ⟨hc,rfl,rfl⟩
  rw [op0_next,gOps_fn,seen_w] at e
  refine w_opv O H hfin hk hσ e (.inr ⟨_,.inr (.inr rfl),rfl⟩) hne ⟨hgd,ho.lt,ho.x4,fun _=>rfl,fun h=>ho.d1 (by rw [contains_cons_ne _ (by omega)];exact h),fun h=>ho.d2 (by rw [contains_cons_ne _ (by omega)];exact h),fun h=>ho.d3 (by rw [contains_cons_ne _ (by omega)];exact h),fun h h5=>ho.d4 (by rw [contains_cons_ne _ (by omega)];exact h) (by rw [contains_cons_ne _ (by omega)];exact h5),fun h=>ho.d5 (by rw [contains_cons_ne _ (by omega)];exact h),fun h=>ho.d6 (by rw [contains_cons_ne _ (by omega)];exact h)⟩
 ·have hne:l≠[]:=ne_nil_of (m:=6) hh
  have e:=(op1_slid X.p xs l).step.2.1 v
  rw [op1_next] at e
  refine w_opv O H hfin hk hσ e (.inl rfl) hne ⟨hgd,ho.lt,ho.x4,fun h=>ho.d0 (by rw [contains_cons_ne _ (by omega)];exact h),fun _=>ho.x4,fun h=>ho.d2 (by rw [contains_cons_ne _ (by omega)];exact h),fun h=>ho.d3 (by rw [contains_cons_ne _ (by omega)];exact h),fun h h5=>ho.d4 (by rw [contains_cons_ne _ (by omega)];exact h) (by rw [contains_cons_ne _ (by omega)];exact h5),fun h=>ho.d5 (by rw [contains_cons_ne _ (by omega)];exact h),fun h=>ho.d6 (by rw [contains_cons_ne _ (by omega)];exact h)⟩
 ·have hne:l≠[]:=ne_nil_of (m:=4) hh
  have hc:v.cell? ⟨X.M.bT,0,none⟩=some X.M.txt:=by simp [World.cell?,H.wd.bT]
  have e:=AtOp.value (op2 X.p xs l) (op2_feed X.p xs l X.M.txt) (w:=v) (w':=v) (es:=#[⟨.cell ⟨X.M.bT,0,none⟩,false,false⟩]) ⟨hc,rfl,rfl⟩
  rw [op2_next,gOps_fn,seen_w] at e
  refine w_opv O H hfin hk hσ e (.inr ⟨_,.inl rfl,rfl⟩) hne ⟨hgd,ho.lt,ho.x4,fun h=>ho.d0 (by rw [contains_cons_ne _ (by omega)];exact h),fun h=>ho.d1 (by rw [contains_cons_ne _ (by omega)];exact h),fun _=>O.txt,fun h=>ho.d3 (by rw [contains_cons_ne _ (by omega)];exact h),fun h h5=>ho.d4 (by rw [contains_cons_ne _ (by omega)];exact h) (by rw [contains_cons_ne _ (by omega)];exact h5),fun h=>ho.d5 (by rw [contains_cons_ne _ (by omega)];exact h),fun h=>ho.d6 (by rw [contains_cons_ne _ (by omega)];exact h)⟩
 ·have hne:l≠[]:=ne_nil_of (m:=4) hh
  have e:=(op3_slid X.p xs l).step.2.1 v
  rw [op3_next] at e
  refine w_opv O H hfin hk hσ e (.inl rfl) hne ⟨hgd,ho.lt,ho.x4,fun h=>ho.d0 (by rw [contains_cons_ne _ (by omega)];exact h),fun h=>ho.d1 (by rw [contains_cons_ne _ (by omega)];exact h),fun h=>ho.d2 (by rw [contains_cons_ne _ (by omega)];exact h),fun _=>ho.x4,fun h h5=>ho.d4 (by rw [contains_cons_ne _ (by omega)];exact h) (by rw [contains_cons_ne _ (by omega)];exact h5),fun h=>ho.d5 (by rw [contains_cons_ne _ (by omega)];exact h),fun h=>ho.d6 (by rw [contains_cons_ne _ (by omega)];exact h)⟩
 ·simp only [headOk,Bool.and_eq_true,Bool.not_eq_true'] at hh
  have hne:l≠[]:=ne_nil_of (m:=7) hh.2
  have x10:xs 10=X.num i:=ho.d1 (by rw [contains_cons_ne _ (by omega)];exact hh.1.1)
  have x14:xs 14= .int .u64 (X.a i):=ho.d5 (by rw [contains_cons_ne _ (by omega)];exact hh.1.2)
  have hxs:upd (upd xs 10 (X.num i)) 14 (.int .u64 (X.a i))=xs:=by
   rw [← x10,upd_self,← x14,upd_self]
  have e:=(op6_slid X.p xs l (IntKind.i64.wrap (X.E.first+i)) (X.a i)).step.2.1 v
  rw [op6_next] at e
  change stepG Pg false (gOps X.p (upd (upd xs 10 (X.num i)) 14 (.int .u64 (X.a i))) (6::l)) v= .go (gOps X.p (upd (upd (upd xs 10 (X.num i)) 14 (.int .u64 (X.a i))) 15 (X.fnd i)) l) v #[] at e
  rw [hxs] at e
  refine w_opv O H hfin hk hσ e (.inl rfl) hne ⟨hgd,ho.lt,ho.x4,fun h=>ho.d0 (by rw [contains_cons_ne _ (by omega)];exact h),fun h=>ho.d1 (by rw [contains_cons_ne _ (by omega)];exact h),fun h=>ho.d2 (by rw [contains_cons_ne _ (by omega)];exact h),fun h=>ho.d3 (by rw [contains_cons_ne _ (by omega)];exact h),fun h h5=>ho.d4 (by rw [contains_cons_ne _ (by omega)];exact h) (by rw [contains_cons_ne _ (by omega)];exact h5),fun h=>ho.d5 (by rw [contains_cons_ne _ (by omega)];exact h),fun _=>rfl⟩
end
end Go.Proofs.YtldmcdeibiclkaaGreatDoor.U
end
