/-
  Toward: treed_holds, each node's digest is that of its children's, for every argument of Treed. THE POOL's MACHINE: the starter starts a worker, sends a number, closes the channel; WHATEVER the starter does.
-/
import Derived.Test.YtldmcdeibiclkaaGreatDoorC24
set_option linter.unusedVariables false
set_option linter.unusedSimpArgs false
set_option maxRecDepth 4000
section
namespace Go.Proofs.YtldmcdeibiclkaaGreatDoor.U
open Go.Conc
open Go.ConcN (upd upd_same upd_ne sumTo sumTo_upd sumTo_congr sumTo_le le_sumTo RelBy)
set_option maxRecDepth 100000
theorem mSd_self (M:Mn) (xs:Nat→Value) (cs:List Frame) (j:Int):gOf (mSd M xs cs j) (mSd M xs cs j).frame=mSd M xs cs j:=by kernel_rfl
section
variable {L:Lim} {T:Tab} {Goal:Frame→List Frame→World→Prop} {X:PC L}
theorem start_one (O:PCOk T Goal X) {s:PS} {gs:Array Goroutine} {v:World} {sl:Option (Nat×Nat)} {t:Trace} (H:PI T Goal X s gs v t) {h h1:Goroutine} (h0:gs[0]? =some h) {i:Nat} {xs:Nat→Value} (hmt:s.mt= .go i 0 xs) (e:stepG Pg true h v= .spawn h1 (gChild X.p) v #[]) {mt':Mt} (hM:MAt X h1 mt')
  (e1:mt'.sent X=0) (e2:mt'.shut=false) (e3:mt'.on X=i+1) (e4:mt'.pend=0) (e5:mt'.deaf=0) (e6:isOpen mt'=true) (e7: ∀k n xs ys,mt'≠.cas k n xs ys) (e8: ∀n xs,mt'≠.fin n xs) (e9: ∀c,mt'.rank c+22< s.mt.rank s.c):StepsTo T Goal X s gs v sl t 0:=by
 have hn0:=O.n0
 obtain ⟨a1,a2,a3,a4⟩:=open_of H.wg (by rw [hmt];rfl)
 rw [hmt] at a2
 have a2':s.st=(s.c+1)*KK':=a2
 have hj:s.j=i:=by rw [H.ac.on,hmt];rfl
 have hsz:=H.gs.size
 have hrun:=runT_crowd_spawn (P:=Pg) (sl:=sl) (i:=0) h0 (show stepG Pg (0==0) h v=_ from e)
 have hz: ∀fn pos,MemOp.ofEvents 0 fn pos #[]=#[]:=fun fn pos=>by simp [ofEvents_eq]
 rw [hz] at hrun
 let s':PS:={s with mt:=mt',j:=s.j+1,ws:=upd s.ws s.j (.load 7),ow:=upd s.ow s.j (fun _=>False)}
 have hw: ∀k,k< s.j→s'.ws k=s.ws k:=fun k hk=>upd_ne _ _ (by omega)
 have ho: ∀k,k< s.j→s'.ow k=s.ow k:=fun k hk=>upd_ne _ _ (by omega)
 have hwj:s'.ws s.j= .load 7:=upd_same _ _ _
 have hoj:s'.ow s.j=fun _=>False:=upd_same _ _ _
 have hsum: ∀f:Wk→Nat,sumTo (s.j+1) (fun k=>f (s'.ws k))=sumTo s.j (fun k=>f (s.ws k))+f (.load 7):=fun f=>by
  show sumTo s.j (fun k=>f (s'.ws k))+f (s'.ws s.j)=_
  rw [hwj,sumTo_congr fun k hk=>by rw [hw k hk]]
 have hc:s'.c=s.c+1:=hsum Wk.cnt
 let x:MemOp:={g:=0,fn:=h.frame.fn,pos:=h.frame.place,act:= .go gs.size}
 let y:MemOp:={g:=gs.size,fn:=(gChild X.p).frame.fn,pos:=h.frame.place,act:= .start}
 have hxy:((#[]:Trace).push x).push y=#[x,y]:=rfl
 have hrun':runT Pg (crowd gs v sl) 0=(.next (crowd ((gs.setIfInBounds 0 h1).push (gChild X.p)) v sl),#[x,y]):=hrun
 have hstill: ∀k,Deaf (t++#[x,y]) k=Deaf t k:=fun k=>Deaf_still t k [x,y] (by intro op hop;simp at hop;rcases hop with rfl|rfl<;> exact ⟨by simp [x,y],by simp [x,y]⟩)
 refine ⟨s',_,_,_,hrun',⟨?_,?_,?_,?_,?_⟩,.inl ?_⟩
 ·refine ⟨by simp [hsz,s'];omega,⟨h1,?_,hM⟩,fun k hk=>?_,fun k g hk hkn hg=>?_,fun k hk=>?_⟩
  ·rw [Array.getElem?_push,if_neg (by rw [Array.size_setIfInBounds];omega),Array.getElem?_setIfInBounds_self_of_lt (by omega)]
  ·rw [hstill]
   have hk':k< s.j+1:=hk
   rcases Nat.lt_or_ge k s.j with hlt|hge
   ·obtain ⟨g,hg,hW⟩:=H.gs.work k hlt
    refine ⟨g,?_,by rw [hw k hlt,ho k hlt];exact hW⟩
    rw [Array.getElem?_push,if_neg (by simp;omega),Array.getElem?_setIfInBounds_ne (by omega)]
    exact hg
   ·obtain rfl:k=s.j:=by omega
    refine ⟨gChild X.p,by rw [Array.getElem?_push,if_pos (by simp [hsz])],?_⟩
    rw [hwj,hoj]
    exact ⟨(child_slid X.p).glide,H.gs.above _ (by omega)⟩
  ·rw [hstill]
   rw [Array.getElem?_push,if_neg (by simp;omega),Array.getElem?_setIfInBounds_ne (by omega)] at hg
   exact H.gs.leav k g hk hkn hg
  ·rw [hstill]
   simp at hk
   exact H.gs.above k (by omega)
 ·exact H.wd.same rfl (by rw [e2,hmt];rfl) (by rw [e1,hmt];rfl) rfl rfl rfl rfl
 ·have hs0:s.mt.sent X=0:=by rw [hmt];rfl
  refine ⟨by show s.j+1=mt'.on X;rw [e3,hj],by show mt'.sent X≤_;omega,by show s.rN+s.bufN.length=mt'.sent X;rw [e1,H.ac.got,hs0],fun m hm=>?_,?_,H.ac.okN,H.ac.okB,fun k hk hp=>?_,fun k hk hr=>?_⟩
  ·have:m< mt'.sent X:=hm
   omega
  ·have this:sumTo (s.j+1) (fun k=>if (s'.ws k).job.isSome then 1 else 0)=sumTo s.j (fun k=>if (s.ws k).job.isSome then 1 else 0)+0:=hsum (fun x=>if x.job.isSome then 1 else 0)
   have h2:=H.ac.count
   show s.bufN.length+sumTo (s.j+1) (fun k=>if (s'.ws k).job.isSome then 1 else 0)+s.bufB.length≤mt'.sent X
   omega
  ·have hk':k< s.j+1:=hk
   rcases Nat.lt_or_ge k s.j with hlt|hge
   ·rw [hw k hlt] at hp
    exact ⟨(H.ac.park k hlt hp).1,e2⟩
   ·obtain rfl:k=s.j:=by omega
    rw [hwj] at hp
    cases hp
  ·have hk':k< s.j+1:=hk
   rcases Nat.lt_or_ge k s.j with hlt|hge
   ·rw [hw k hlt] at hr
    have:=(H.ac.gone k hlt hr).1
    rw [hmt] at this
    cases this
   ·obtain rfl:k=s.j:=by omega
    rw [hwj] at hr
    simp [Wk.rank] at hr
 ·refine .opn e6 (fun k hk=>?_) ?_ a3 (fun k n xs ys h=>absurd h (e7 k n xs ys))
  ·have hk':k< s.j+1:=hk
   rcases Nat.lt_or_ge k s.j with hlt|hge
   ·rw [hw k hlt];exact a1 k hlt
   ·obtain rfl:k=s.j:=by omega
    rw [hwj];exact .inr (by simp [Wk.rank])
  ·show s.st=(s'.c+mt'.pend)*KK'
   rw [hc,e4];exact a2'
 ·have hd0:Deaf t 0=0:=by rw [H.tr.d0,hmt];rfl
  have hf:=H.tr.tp.fork (.inl rfl) (k:=gs.size) (by omega) (fun hx=>by have:=hx.2;omega) (fun b hb=>by obtain ⟨i,hi,he,_⟩:=hb;omega) (x:=x) (y:=y) ⟨rfl,rfl⟩ ⟨rfl,rfl⟩ hd0 (H.gs.above _ (Nat.le_refl _))
  have l1:(fun k=>(k=0∨isWk X s k)∨k=gs.size)=(fun k=>k=0∨isWk X s' k):=by
   funext k
   apply propext
   show ((k=0∨(X.n0≤k∧k< X.n0+s.j))∨k=gs.size)↔(k=0∨(X.n0≤k∧k< X.n0+(s.j+1)))
   omega
  have l2:(fun k=>isWk X s k∨k=gs.size)=isWk X s':=by
   funext k
   apply propext
   show ((X.n0≤k∧k< X.n0+s.j)∨k=gs.size)↔(X.n0≤k∧k< X.n0+(s.j+1))
   omega
  rw [l1,l2] at hf
  have hnt: ∀op∈(#[x,y]:Trace),op.act.touch? =none:=fun op hop=>by simp at hop;rcases hop with rfl|rfl<;> rfl
  refine ⟨hf.grow (Nat.le_refl _) (fun k b=>?_) (fun b hb=> .inl hb) (fun b hb=> .inl hb) (fun b hb=>hb),fun k b hk hb=>?_,fun k k' b hk hk' hb hb'=>?_,fun k hk hr=>?_,H.tr.norel.app fun op hop=>?_,by rw [hstill,hd0];exact e5.symm,fun n xs hx=>absurd hx (e8 n xs)⟩
  ·rintro ⟨k',hk',rfl,hb⟩
   have hk2:k'< s.j+1:=hk'
   rcases Nat.lt_or_ge k' s.j with hlt|hge
   ·rw [ho k' hlt] at hb;exact .inl ⟨k',hlt,rfl,hb⟩
   ·obtain rfl:k'=s.j:=by omega
    rw [hoj] at hb;exact hb.elim
  ·have hk2:k< s.j+1:=hk
   rcases Nat.lt_or_ge k s.j with hlt|hge
   ·rw [ho k hlt] at hb;exact H.tr.own k b hlt hb
   ·obtain rfl:k=s.j:=by omega
    rw [hoj] at hb;exact hb.elim
  ·have hk2:k< s.j+1:=hk
   have hk3:k'< s.j+1:=hk'
   rcases Nat.lt_or_ge k s.j with hlt|hge
   ·rcases Nat.lt_or_ge k' s.j with hlt'|hge'
    ·rw [ho k hlt] at hb;rw [ho k' hlt'] at hb';exact H.tr.apart k k' b hlt hlt' hb hb'
    ·obtain rfl:k'=s.j:=by omega
     rw [hoj] at hb';exact hb'.elim
   ·obtain rfl:k=s.j:=by omega
    rw [hoj] at hb;exact hb.elim
  ·have hk2:k< s.j+1:=hk
   rcases Nat.lt_or_ge k s.j with hlt|hge
   ·rw [hw k hlt] at hr
    obtain ⟨r,hrr⟩:=H.tr.rel k hlt hr
    exact ⟨r,RelBy.still hrr hnt⟩
   ·obtain rfl:k=s.j:=by omega
    rw [hwj] at hr;cases hr
  ·simp at hop;rcases hop with rfl|rfl<;> simp [x,y]
 ·have h1:=hsum Wk.rank
  have h2:=e9 s'.c
  show mt'.rank s'.c+sumTo (s.j+1) (fun k=>(s'.ws k).rank)+12*s'.c+60*(X.E.n - s.rN)< s.mt.rank s.c+sumTo s.j (fun k=>(s.ws k).rank)+12*s.c+60*(X.E.n - s.rN)
  simp only [Wk.rank] at h1 ⊢
  omega
theorem m_go (O:PCOk T Goal X) {s:PS} {gs:Array Goroutine} {v:World} {sl:Option (Nat×Nat)} {t:Trace} (H:PI T Goal X s gs v t) {h:Goroutine} (h0:gs[0]? =some h) (hm:MAt X h s.mt) {i:Nat} {xs:Nat→Value} (hmt:s.mt= .go i 0 xs):StepsTo T Goal X s gs v sl t 0:=by
 rw [hmt] at hm
 obtain ⟨hgl,hi⟩:=hm
 cases hgl
 obtain ⟨e,xs',hg⟩:=lane_spawn O xs hi
 have hnW:=O.nW
 rcases Nat.lt_or_ge (i+1) X.nW with hlt|hge
 ·refine start_one O H h0 hmt (e v) (mt':= .dis (i+1) 31 xs') ⟨hg.trans ((lane_next O xs' (i:=i+1) (by omega)).1 hlt),hlt⟩ rfl rfl rfl rfl rfl rfl (fun _ _ _ _ h=>by cases h) (fun _ _ h=>by cases h) (fun c=>?_)
  rw [hmt]
  simp only [Mt.rank]
  omega
 ·have hin:i+1=X.nW:=by omega
  obtain ⟨xs2,hg2⟩:=(lane_next O xs' (i:=i+1) (by omega)).2 hin
  refine start_one O H h0 hmt (e v) (mt':= .ld 0 37 xs2) ⟨hg.trans hg2,by have:=O.nn;omega⟩ rfl rfl hin.symm rfl rfl rfl (fun _ _ _ _ h=>by cases h) (fun _ _ h=>by cases h) (fun c=>?_)
  rw [hmt]
  simp only [Mt.rank]
  omega
theorem Gs.commM {s s':PS} {gs:Array Goroutine} {v v1:World} {t:Trace} (O:PCOk T Goal X) (H:Gs T Goal X s gs v t) {h1:Goroutine} (hM:MAt X h1 s'.mt) (e1:s'.j=s.j) (e2:s'.ws=s.ws) (e3:s'.ow=s.ow) (e5:s'.q=s.q) {u:List MemOp} (h3: ∀op∈u,noDeaf op.act)
  (hs:v.heap.size≤v1.heap.size) (ho: ∀b,((∃r,X.E.ρ r b)∨∃i,i< s.j∧s.ow i b)→v1.heap[b]? =v.heap[b]?):Gs T Goal X s' (gs.setIfInBounds 0 h1) v1 (t++u.toArray):=by
 have hn0:=O.n0
 have hdf: ∀i,Deaf (t++u.toArray) i=Deaf t i:=fun i=>Deaf_still t i u h3
 refine ⟨by simp [H.size,e1],⟨h1,by rw [Array.getElem?_setIfInBounds_self_of_lt (by rw [H.size];omega)],hM⟩,fun i hi=>?_,fun i x hi hn hg=>?_,fun i hi=>?_⟩
 ·rw [e1] at hi
  rw [hdf,e2,e3]
  obtain ⟨x,hx,hw⟩:=H.work i hi
  refine ⟨x,by rw [Array.getElem?_setIfInBounds_ne (by omega)];exact hx,?_⟩
  exact hw.stable hs fun b hb=>ho b (hb.imp id fun x=>⟨i,hi,x⟩)
 ·rw [Array.getElem?_setIfInBounds_ne (by omega)] at hg
  rw [hdf,e5]
  exact H.leav i x hi hn hg
 ·rw [hdf]
  exact H.above i (by simpa using hi)
theorem sent_to (O:PCOk T Goal X) (xs:Nat→Value) {j:Nat} (hj:j< X.E.n): ∃mt',MAt X (mSent X.M xs X.ds j) mt'∧mt'.sent X=j+1∧mt'.shut=false∧mt'.on X=X.nW∧mt'.pend=0∧mt'.deaf=0∧isOpen mt'=true∧(∀k n xs ys,mt'≠.cas k n xs ys)∧(∀n xs,mt'≠.fin n xs)∧∀c c' n xs,mt'.rank c< (Mt.sd j n xs).rank c':=by
 have hn:=O.nn
 have h1:=(mSent_slid X.M xs X.ds j).glide
 rw [mSent_next,wrap_small (by omega) (by omega)] at h1
 have hl:=lane_send O (xsM (nxN Pg true 9 (mSent X.M xs X.ds j))) (j:=j+1) (by omega)
 rcases Nat.lt_or_ge (j+1) X.E.n with hlt|hge
 ·refine ⟨.ld (j+1) 22 _,⟨h1.trans (hl.1 hlt),hlt⟩,rfl,rfl,rfl,rfl,rfl,rfl,(fun _ _ _ _ h=>by cases h),(fun _ _ h=>by cases h),fun c c' n xs=>?_⟩
  simp only [Mt.rank]
  omega
 ·have he:j+1=X.E.n:=by omega
  refine ⟨.lc 16 _,h1.trans (hl.2 he),he.symm,rfl,rfl,rfl,rfl,rfl,(fun _ _ _ _ h=>by cases h),(fun _ _ h=>by cases h),fun c c' n xs=>?_⟩
  simp only [Mt.rank]
  omega
theorem m_sd (O:PCOk T Goal X) {s:PS} {gs:Array Goroutine} {v:World} {sl:Option (Nat×Nat)} {t:Trace} (H:PI T Goal X s gs v t) {h:Goroutine} (h0:gs[0]? =some h) (hm:MAt X h s.mt) {j:Nat} {xs:Nat→Value} (hmt:s.mt= .sd j 0 xs):StepsTo T Goal X s gs v sl t 0:=by
 rw [hmt] at hm
 obtain ⟨hgl,hj⟩:=hm
 cases hgl
 have hn0:=O.n0
 have b1:=O.bT;have b2:=O.cN;have b3:=O.bN;have b4:=O.cB;have b5:=O.bB;have b6:=O.wg
 obtain ⟨a1,a2,a3,a4⟩:=open_of H.wg (by rw [hmt];rfl)
 rw [hmt] at a2
 have a2':s.st=s.c*KK':=a2
 have e:stepG Pg (0==0) (mSd X.M xs X.ds j) v= .comm (mSd X.M xs X.ds j) #[scase X.M.cN (X.num j) (.tuple #[])] true .send v #[]:=by
  have hc:=AtOp.comm (mSd_op X.M xs X.ds j) (mSd_feed X.M xs X.ds j) (w:=v) (w':=v) (es:=#[]) ⟨rfl,rfl⟩
  rw [seen_empty,mSd_self] at hc
  unfold sendCases at hc
  rw [O.first] at hc
  exact hc
 have hz: ∀fn pos,MemOp.ofEvents 0 fn pos #[]=#[]:=fun fn pos=>by simp [ofEvents_eq]
 have hcN:=H.wd.cN
 have hsh:s.mt.shut=false:=by rw [hmt];rfl
 have hst:s.mt.sent X=j:=by rw [hmt];rfl
 rw [hsh,hst] at hcN
 have hcl:X.M.cN< v.heap.size:=by have:=H.wd.size;omega
 have hgot:=H.ac.got
 rw [hst] at hgot
 have hcount:=H.ac.count
 rw [hst] at hcount
 have hon:s.j=X.nW:=by rw [H.ac.on,hmt];rfl
 obtain ⟨mt',hM',f1,f2,f3,f4,f5,f6,f7,f8,f9⟩:=sent_to O xs hj
 have hown: ∀i b,i< s.j→s.ow i b→b≠X.M.cN:=fun i b hi hb h=>by have:=(H.tr.own i b hi hb).1;omega
 have hsent:(mSd X.M xs X.ds j).finishComm Pg #[scase X.M.cN (X.num j) (.tuple #[])] .send 0 undef false=mSent X.M xs X.ds j:=by
  unfold mSent sendCases
  rw [O.first]
  rfl
 by_cases hp:partners (gs.setIfInBounds 0 ph) X.M.cN false= []
 ·
  have hroom:(s.bufN.map X.num).toArray.size< X.E.n:=by simp;omega
  have hrun:=crowd_send_room (P:=Pg) (sl:=sl) h0 e hcN hroom hp
  rw [hz,Array.empty_append,hsent] at hrun
  have ep:(s.bufN.map X.num).toArray.push (X.num j)=((s.bufN++ [j]).map X.num).toArray:=by simp
  rw [ep] at hrun
  obtain ⟨c1,c2,c3,c4,c5,c6⟩:=setChan_facts v X.M.cN X.E.n ((s.bufN++ [j]).map X.num).toArray false (j+1) s.rN false hcl
  let s':PS:={s with mt:=mt',bufN:=s.bufN++ [j]}
  refine ⟨s',_,_,_,hrun,⟨?_,?_,?_,?_,?_⟩,.inl ?_⟩
  ·refine H.gs.commM O (s':=s') hM' rfl rfl rfl rfl (u:=[_,_]) ?_ (by rw [c1];exact Nat.le_refl _) ?_
   ·intro op hop;simp at hop;rcases hop with rfl|rfl<;> exact ⟨by simp,by simp⟩
   ·rintro b (⟨r,hr⟩|⟨m,hm,hb'⟩)
    ·exact c3 b (by have:=(O.K.dom r b hr).2;omega)
    ·exact c3 b (hown m b hm hb')
  ·refine ⟨⟨by rw [c1];exact H.wd.old.1,fun b hb'=>by rw [c3 b (by omega)];exact H.wd.old.2 b hb'⟩,by rw [c1];exact H.wd.size,?_,?_,?_,?_,?_,?_,H.wd.tape,H.wd.os,H.wd.output⟩
   ·rw [c3 _ (by omega)];exact H.wd.bT
   ·rw [c3 _ (by omega)];exact H.wd.bN
   ·rw [c3 _ (by omega)];exact H.wd.bB
   ·rw [c2];show _=some (Obj.chan X.E.n ((s.bufN++ [j]).map X.num).toArray mt'.shut (mt'.sent X) s.rN false);rw [f1,f2]
   ·obtain ⟨sB,hB⟩:=H.wd.cB;exact ⟨sB,by rw [c3 _ (by omega)];exact hB⟩
   ·rw [c3 _ (by omega)];exact H.wd.wg
  ·refine ⟨by show s.j=mt'.on X;rw [f3,hon],by show mt'.sent X≤_;omega,by show s.rN+(s.bufN++ [j]).length=mt'.sent X;simp;omega,fun m hm=>?_,?_,fun m hm=>?_,H.ac.okB,fun m hm hpk=>?_,fun m hm hr=>?_⟩
   ·have hm':m< mt'.sent X:=hm
    rcases Nat.lt_or_ge m j with hlt|hge
    ·rcases H.ac.cover m (by omega) with h|h|h
     ·exact .inl (by show m∈s.bufN++ [j];simp [h])
     ·exact .inr (.inl h)
     ·exact .inr (.inr h)
    ·exact .inl (by show m∈s.bufN++ [j];simp;omega)
   ·show (s.bufN++ [j]).length+sumTo s.j (fun k=>if (s.ws k).job.isSome then 1 else 0)+s.bufB.length≤mt'.sent X
    simp only [List.length_append,List.length_cons,List.length_nil]
    omega
   ·have hm':m∈s.bufN++ [j]:=hm
    simp at hm'
    rcases hm' with h|rfl
    ·exact H.ac.okN m h
    ·exact hj
   ·
    exfalso
    obtain ⟨g,hg,hW⟩:=H.gs.work m hm
    rcases hW.status with ⟨hx,_⟩|⟨ys,hx,rfl⟩
    ·rw [show (s.ws m).parked=true from hpk] at hx;cases hx
    ·have:(X.n0+m,0)∈partners (gs.setIfInBounds 0 ph) X.M.cN false:=by
      refine mem_partners.2 ⟨_,by rw [Array.getElem?_setIfInBounds_ne (by omega)];exact hg,?_⟩
      unfold parkedG
      rw [recvCases_eq,offersAt_parked_recv]
      simp
     rw [hp] at this
     cases this
   ·have:=(H.ac.gone m hm hr).1
    rw [hsh] at this;cases this
  ·refine .opn f6 a1 ?_ a3 (fun k n xs ys h=>absurd h (f7 k n xs ys))
   show s.st=(s.c+mt'.pend)*KK'
   rw [f4];exact a2'
  ·refine H.tr.still (s':=s') rfl rfl (fun m hm hrl=>hrl) (by show mt'.deaf=_;rw [f5,hmt];rfl) c1 (fun n xs h=>f8 n xs h) (u:=[_,_]) ?_ ?_ ?_ ?_
   ·intro op hop;simp at hop;rcases hop with rfl|rfl<;> rfl
   ·intro op hop;simp at hop;rcases hop with rfl|rfl<;> exact hcl
   ·intro op hop;simp at hop;rcases hop with rfl|rfl<;> exact ⟨by simp,by simp⟩
   ·intro op hop;simp at hop;rcases hop with rfl|rfl<;> simp
  ·have:=f9 s.c s.c 0 xs
   rw [← hmt] at this
   show mt'.rank s.c+sumTo s.j (fun m=>(s.ws m).rank)+12*s.c+60*(X.E.n - s.rN)< s.mt.rank s.c+sumTo s.j (fun m=>(s.ws m).rank)+12*s.c+60*(X.E.n - s.rN)
   omega
 ·
  have hall: ∀m k,(m,k)∈partners (gs.setIfInBounds 0 ph) X.M.cN false→k=0∧m≠0∧∃gj zj shj,gs[m]? =some (parked gj #[rcase X.M.cN zj] shj):=by
   intro m k hmk
   obtain ⟨g,hg,ho⟩:=mem_partners.1 hmk
   rcases getElem?_stand gs 0 m g hg with ⟨_,rfl⟩|⟨hm0,hg⟩
   ·cases ho
   ·rcases offers_of O H.gs hg with ⟨k',ys,_,_,_,rfl⟩|h'
    ·unfold parkedG at ho hg
     rw [recvCases_eq] at ho hg
     rw [offersAt_parked_recv,if_pos rfl] at ho
     exact ⟨by simpa using ho,hm0,_,_,_,hg⟩
    ·rw [h'] at ho;cases ho
  obtain ⟨m,gj,zj,shj,d,hm0,hgm,hrun⟩:=crowd_send_meets_some (P:=Pg) (sl:=sl) h0 e hcN hp hall
  obtain ⟨k,ys,hk,rfl,hσ,hgk⟩: ∃k ys,k< s.j∧m=X.n0+k∧s.ws k= .park ys∧parked gj #[rcase X.M.cN zj] shj=parkedG X ys:=by
   rcases offers_of O H.gs hgm with h|h'
   ·exact h
   ·have:=h' X.M.cN false
    rw [offersAt_parked_recv,if_pos rfl] at this
    cases this
  have hoff:=congrArg Goroutine.offers hgk
  have hfc:gj.finishComm Pg #[rcase X.M.cN zj] shj 0 (X.num j) true=(gRecv X.p ys).finishComm Pg #[rcase X.M.cN (.int .i64 0)] (.recv true) 0 (X.num j) true:=by
   have hoff':some ((#[rcase X.M.cN zj]:Array CommCase),shj)=some ((#[rcase X.M.cN (.int .i64 0)]:Array CommCase),CommShape.recv true):=hoff
   simp only [Option.some.injEq,Prod.mk.injEq] at hoff'
   rw [← finishComm_parked Pg gj _ #[rcase X.M.cN zj] _ shj,hgk,hoff'.1,hoff'.2]
   unfold parkedG
   exact finishComm_parked Pg (gRecv X.p ys) _ _ _ _ _ _ _
  obtain ⟨hbN,_⟩:=H.ac.park k hk (by rw [hσ];rfl)
  rw [hz,Array.empty_append,hsent,hfc,hbN] at hrun
  have hcl':X.M.cN< (v.at d).heap.size:=hcl
  obtain ⟨c1,c2,c3,c4,c5,c6⟩:=setChan_facts (v.at d) X.M.cN X.E.n (([]:List Nat).map X.num).toArray false (j+1) (s.rN+1) false hcl'
  have k1:(v.at d).heap=v.heap:=rfl
  rw [k1] at c1 c3
  have hr:(s.ws k).rank=8∧(s.ws k).job=none∧(s.ws k).cnt=1:=by rw [hσ];exact ⟨rfl,rfl,rfl⟩
  let σ:Wk:= .draw 11 j (gotXs ys (IntKind.i64.wrap (X.E.first+j)))
  let s':PS:={s with mt:=mt',ws:=upd s.ws k σ,rN:=s.rN+1}
  let s1:PS:={s with ws:=upd s.ws k σ,rN:=s.rN+1}
  have hsw: ∀m,m≠k→upd s.ws k σ m=s.ws m:=fun m hm=>upd_ne _ _ hm
  have hsk:upd s.ws k σ k=σ:=upd_same _ _ _
  have hrs: ∀f:Wk→Nat,sumTo s.j (fun m=>f (upd s.ws k σ m))+f (s.ws k)=sumTo s.j (fun m=>f (s.ws m))+f σ:=fun f=>sumTo_upd s.ws σ f hk
  have hst8: ∀b,((∃r,X.E.ρ r b)∨∃i,i< s.j∧s.ow i b)→((v.at d).setChan X.M.cN X.E.n (([]:List Nat).map X.num).toArray false (j+1) (s.rN+1) false).heap[b]? =v.heap[b]? :=by
   rintro b (⟨r,hr⟩|⟨m,hm,hb'⟩)
   ·exact c3 b (by have:=(O.K.dom r b hr).2;omega)
   ·exact c3 b (hown m b hm hb')
  refine ⟨s',_,_,_,hrun,⟨?_,?_,?_,?_,?_⟩,.inl ?_⟩
  ·have hg1:=H.gs.comm O hk (s':=s1) (g1:=(gRecv X.p ys).finishComm Pg #[rcase X.M.cN (.int .i64 0)] (.recv true) 0 (X.num j) true) rfl hsw rfl rfl rfl (u:=[{g:=0,fn:=(mSd X.M xs X.ds j).frame.fn,pos:=(mSd X.M xs X.ds j).frame.place,act:= .send X.M.cN j},{g:=X.n0+k,fn:=gj.frame.fn,pos:=gj.frame.place,act:= .recv X.M.cN s.rN X.E.n},{g:=0,fn:=(mSd X.M xs X.ds j).frame.fn,pos:=(mSd X.M xs X.ds j).frame.place,act:= .sendDone X.M.cN j},{g:=X.n0+k,fn:=gj.frame.fn,pos:=gj.frame.place,act:= .recvDone X.M.cN s.rN}])
    (v1:=(v.at d).setChan X.M.cN X.E.n (([]:List Nat).map X.num).toArray false (j+1) (s.rN+1) false) ?_ ?_ (by rw [c1];exact Nat.le_refl _) hst8
   ·have hg2:=hg1.commM O (s':=s') (h1:=mSent X.M xs X.ds j) hM' rfl rfl rfl rfl (u:=[]) (fun op hop=>by cases hop) (Nat.le_refl _) (fun _ _=>rfl)
    simpa using hg2
   ·intro op hop;simp at hop;rcases hop with rfl|rfl|rfl|rfl<;> exact ⟨by simp,by simp⟩
   ·show WAt T Goal X (s.ow k) _ _ _ (upd s.ws k σ k)
    rw [hsk]
    have hd:Deaf t (X.n0+k)=0:=by
     obtain ⟨g,hg,hW⟩:=H.gs.work k hk
     rw [hσ] at hW
     exact hW.2
    refine ⟨?_,hd,hj,rfl⟩
    have hgd:=(got_slid X.p ys (IntKind.i64.wrap (X.E.first+j))).glide
    rw [got_draw] at hgd
    exact hgd
  ·refine ⟨⟨by rw [c1];exact H.wd.old.1,fun b hb'=>by rw [c3 b (by omega)];exact H.wd.old.2 b hb'⟩,by rw [c1];exact H.wd.size,?_,?_,?_,?_,?_,?_,H.wd.tape,H.wd.os,H.wd.output⟩
   ·rw [c3 _ (by omega)];exact H.wd.bT
   ·rw [c3 _ (by omega)];exact H.wd.bN
   ·rw [c3 _ (by omega)];exact H.wd.bB
   ·rw [c2];show _=some (Obj.chan X.E.n (s.bufN.map X.num).toArray mt'.shut (mt'.sent X) (s.rN+1) false);rw [f1,f2,hbN]
   ·obtain ⟨sB,hB⟩:=H.wd.cB;exact ⟨sB,by rw [c3 _ (by omega)];exact hB⟩
   ·rw [c3 _ (by omega)];exact H.wd.wg
  ·rw [hbN] at hgot hcount
   simp only [List.length_nil] at hgot hcount
   refine ⟨by show s.j=mt'.on X;rw [f3,hon],by show mt'.sent X≤_;omega,by show s.rN+1+s.bufN.length=mt'.sent X;rw [hbN,f1];simp;omega,fun i hi=>?_,?_,H.ac.okN,H.ac.okB,fun i hi hpk=>?_,fun i hi hr=>?_⟩
   ·have hi':i< mt'.sent X:=hi
    rcases Nat.lt_or_ge i j with hlt|hge
    ·rcases H.ac.cover i (by omega) with h|h|⟨k',h1,h2⟩
     ·exact .inl h
     ·exact .inr (.inl h)
     ·refine .inr (.inr ⟨k',h1,?_⟩)
      have:k'≠k:=fun e=>by rw [e,hr.2.1] at h2;cases h2
      show (upd s.ws k σ k').job=some i
      rw [hsw k' this];exact h2
    ·obtain rfl:i=j:=by omega
     exact .inr (.inr ⟨k,hk,by show (upd s.ws k σ k).job=some i;rw [hsk];rfl⟩)
   ·have:=hrs (fun x=>if x.job.isSome then 1 else 0)
    rw [hr.2.1] at this
    have this:sumTo s.j (fun m=>if (upd s.ws k σ m).job.isSome then 1 else 0)+0=sumTo s.j (fun m=>if (s.ws m).job.isSome then 1 else 0)+1:=this
    show s.bufN.length+sumTo s.j (fun m=>if (upd s.ws k σ m).job.isSome then 1 else 0)+s.bufB.length≤mt'.sent X
    rw [hbN,f1]
    simp only [List.length_nil]
    omega
   ·have hpk':(upd s.ws k σ i).parked=true:=hpk
    by_cases hik:i=k
    ·subst hik;rw [hsk] at hpk';cases hpk'
    ·rw [hsw i hik] at hpk'
     exact ⟨(H.ac.park i hi hpk').1,f2⟩
   ·have hr':(upd s.ws k σ i).rank≤7:=hr
    by_cases hik:i=k
    ·subst hik;rw [hsk] at hr';simp [σ,Wk.rank] at hr'
    ·rw [hsw i hik] at hr'
     have:=(H.ac.gone i hi hr').1
     rw [hsh] at this;cases this
  ·have hcc:s'.c=s.c:=by
    have:=hrs Wk.cnt
    rw [hr.2.2] at this
    have this:sumTo s.j (fun m=>(upd s.ws k σ m).cnt)+1=sumTo s.j (fun m=>(s.ws m).cnt)+1:=this
    show sumTo s.j (fun m=>(upd s.ws k σ m).cnt)=sumTo s.j (fun m=>(s.ws m).cnt)
    omega
   refine .opn f6 (fun i hi=>?_) ?_ a3 (fun k n xs ys h=>absurd h (f7 k n xs ys))
   ·show (upd s.ws k σ i).rank=0∨4≤(upd s.ws k σ i).rank
    by_cases hik:i=k
    ·subst hik;rw [hsk];exact .inr (by simp [σ,Wk.rank])
    ·rw [hsw i hik];exact a1 i hi
   ·show s.st=(s'.c+mt'.pend)*KK'
    rw [f4,hcc];exact a2'
  ·refine H.tr.still (s':=s') rfl rfl (fun i hi hrl=>?_) (by show mt'.deaf=_;rw [f5,hmt];rfl) c1 (fun n xs h=>f8 n xs h) (u:=[_,_,_,_]) ?_ ?_ ?_ ?_
   ·have hrl':(upd s.ws k σ i).rel=true:=hrl
    by_cases hik:i=k
    ·subst hik;rw [hsk] at hrl';cases hrl'
    ·rw [hsw i hik] at hrl';exact hrl'
   ·intro op hop;simp at hop;rcases hop with rfl|rfl|rfl|rfl<;> rfl
   ·intro op hop;simp at hop;rcases hop with rfl|rfl|rfl|rfl<;> exact hcl
   ·intro op hop;simp at hop;rcases hop with rfl|rfl|rfl|rfl<;> exact ⟨by simp,by simp⟩
   ·intro op hop;simp at hop;rcases hop with rfl|rfl|rfl|rfl<;> simp
  ·have hcc:s'.c=s.c:=by
    have:=hrs Wk.cnt
    rw [hr.2.2] at this
    have this:sumTo s.j (fun m=>(upd s.ws k σ m).cnt)+1=sumTo s.j (fun m=>(s.ws m).cnt)+1:=this
    show sumTo s.j (fun m=>(upd s.ws k σ m).cnt)=sumTo s.j (fun m=>(s.ws m).cnt)
    omega
   have h1:=hrs Wk.rank
   have h2:=f9 s.c s.c 0 xs
   rw [← hmt] at h2
   rw [hr.1] at h1
   rw [hbN] at hgot
   simp only [List.length_nil] at hgot
   show mt'.rank s'.c+sumTo s.j (fun m=>(upd s.ws k σ m).rank)+12*s'.c+60*(X.E.n - (s.rN+1))< s.mt.rank s.c+sumTo s.j (fun m=>(s.ws m).rank)+12*s.c+60*(X.E.n - s.rN)
   rw [hcc]
   have hσr:σ.rank=60:=rfl
   rw [hσr] at h1
   omega
end
end Go.Proofs.YtldmcdeibiclkaaGreatDoor.U
end
