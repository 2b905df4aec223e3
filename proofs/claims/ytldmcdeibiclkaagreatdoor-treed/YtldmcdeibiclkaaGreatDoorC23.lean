/-
  Toward: treed_holds, each node's digest is that of its children's, for every argument of Treed. THE POOL's MACHINE: a worker sends a digest; WHATEVER a worker does; a leaver slips.
  THE POOL's MACHINE: the starter's own steps.
-/
import Derived.Test.YtldmcdeibiclkaaGreatDoorC22
set_option linter.unusedVariables false
set_option linter.unusedSimpArgs false
set_option maxRecDepth 4000
section
namespace Go.Proofs.YtldmcdeibiclkaaGreatDoor.U
open Go.Conc
open Go.ConcN (upd upd_same upd_ne sumTo sumTo_upd sumTo_congr sumTo_le le_sumTo RelBy)
section
variable {L:Lim} {T:Tab} {Goal:Frame→List Frame→World→Prop} {X:PC L}
theorem Wg.copy {s s':PS} (H:Wg s) (e1:s'.mt=s.mt) (e2:s'.j=s.j) (e3:s'.ws=s.ws) (e4:s'.st=s.st) (e5:s'.sm=s.sm):Wg s':=by
 have hc:s'.c=s.c:=by unfold PS.c;rw [e2,e3]
 cases H with
 |opn a1 a2 a3 a4 a5=>exact .opn (by rw [e1];exact a1) (fun k hk=>by rw [e3];exact a2 k (e2 ▸ hk)) (by rw [e4,hc,e1];exact a3) (e5.trans a4) (fun k n xs ys h=>by rw [hc];exact a5 k n xs ys (e1 ▸ h))
 |reg a1 a2 a3 a4 a5=>exact .reg (by rw [e1];exact a1) (fun k hk=>by rw [e3];exact a2 k (e2 ▸ hk)) (by rw [hc];exact a3) (by rw [e4,hc];exact a4) (e5.trans a5)
 |last q a1 a2 a3 a4 a5 a6 a7=>exact .last q (by rw [e1];exact a1) (by rw [e2];exact a2) (by rw [e3];exact a3) (by rw [e3];exact a4) (fun i hi hq=>by rw [e3];exact a5 i (e2 ▸ hi) hq) (by rw [e4,e3];exact a6) (e5.trans a7)
 |sema a1 a2 a3 a4 a5=>exact .sema (by rw [e1];exact a1) (by rw [e1];exact a2) (fun k hk=>by rw [e3];exact a3 k (e2 ▸ hk)) (e4.trans a4) (e5.trans a5)
 |done a1 a2 a3 a4 a5=>exact .done (by rw [e1];exact a1) (by rw [e1];exact a2) (fun k hk=>by rw [e3];exact a3 k (e2 ▸ hk)) (e4.trans a4) (e5.trans a5)
theorem w_send (O:PCOk T Goal X) {s:PS} {gs:Array Goroutine} {v:World} {sl:Option (Nat×Nat)} {t:Trace} (H:PI T Goal X s gs v t) (hfin: ∀n xs,s.mt= .fin n xs→False) {k:Nat} (hk:k< s.j) {i:Nat} {l:List Nat} {xs:Nat→Value} (hσ:s.ws k= .ops i (7::l) xs):StepsTo T Goal X s gs v sl t (X.n0+k):=by
 obtain ⟨g,hg,hW⟩:=H.gs.work k hk
 rw [hσ] at hW
 obtain ⟨rfl,hd,_,ho⟩:=hW
 obtain ⟨hh,_⟩:=good_cons ho.good
 simp only [headOk,List.isEmpty_iff] at hh
 subst hh
 have hn0:=O.n0
 have e2:=O.cN;have e6:=O.wg;have e4:=O.cB;have e1:=O.bT;have e3:=O.bN;have e5:=O.bB
 have hne0:(X.n0+k==0)=false:=by simp;omega
 have x9:xs 9= .chan (some X.M.cB):=ho.d0 (by decide)
 have x15:xs 15=X.fnd i:=ho.d6 (by decide)
 have hr:(s.ws k).rank=23∧(s.ws k).job=some i∧(s.ws k).cnt=1:=by rw [hσ];exact ⟨rfl,rfl,rfl⟩
 have e:stepG Pg (X.n0+k==0) (gOps X.p xs [7]) v= .comm (gOps X.p xs [7]) #[scase X.M.cB (X.fnd i) (.tuple #[])] true .send v #[]:=by
  have hc:=AtOp.comm (op7 X.p xs []) (op7_feed X.p xs []) (w:=v) (w':=v) (es:=#[]) ⟨rfl,rfl⟩
  rw [seen_empty,gOps_self,x9,x15] at hc
  rw [hne0]
  exact hc
 have hz: ∀fn pos,MemOp.ofEvents (X.n0+k) fn pos #[]=#[]:=fun fn pos=>by simp [ofEvents_eq]
 obtain ⟨sB,hcB⟩:=H.wd.cB
 have hcl:X.M.cB< v.heap.size:=by have:=H.wd.size;omega
 have hjs:=wk_job_sum hk (.recv 5 xs)
 have hcount:=H.ac.count
 have hsent:=H.ac.sent
 rw [hr.2.1] at hjs
 have hjs':sumTo s.j (fun m=>if ((upd s.ws k (.recv 5 xs)) m).job.isSome then 1 else 0)+1=sumTo s.j (fun m=>if (s.ws m).job.isSome then 1 else 0)+0:=hjs
 have hroom:(s.bufB.map X.fnd).toArray.size< X.E.n:=by simp;omega
 have hrun:=crowd_send_room (P:=Pg) (sl:=sl) hg e hcB hroom (no_partners O H.gs (X.n0+k) X.M.cB false (.inr (by omega)))
 rw [hz,Array.empty_append,gOps_sent] at hrun
 have ep:(s.bufB.map X.fnd).toArray.push (X.fnd i)=((s.bufB++ [i]).map X.fnd).toArray:=by simp
 rw [ep] at hrun
 obtain ⟨c1,c2,c3,c4,c5,c6⟩:=setChan_facts v X.M.cB X.E.n ((s.bufB++ [i]).map X.fnd).toArray false (sB+1) 0 false hcl
 have hown: ∀i b,i< s.j→s.ow i b→b≠X.M.cB:=fun i b hi hb h=>by have:=(H.tr.own i b hi hb).1;omega
 let s':PS:={s with ws:=upd s.ws k (.recv 5 xs),bufB:=s.bufB++ [i]}
 have hsw: ∀m,m≠k→s'.ws m=s.ws m:=fun m hm=>upd_ne _ _ hm
 have hsk:s'.ws k= .recv 5 xs:=upd_same _ _ _
 refine ⟨s',_,_,_,hrun,⟨?_,?_,?_,?_,?_⟩,.inl ?_⟩
 ·refine H.gs.comm O hk (s':=s') rfl hsw rfl rfl rfl (u:=[_,_]) ?_ ?_ (by rw [c1];exact Nat.le_refl _) ?_
  ·intro op hop;simp at hop;rcases hop with rfl|rfl<;> exact ⟨by simp,by simp⟩
  ·rw [hsk]
   refine ⟨?_,hd⟩
   have hgd:=(sent_slid X.p xs).glide
   rw [sent_recv] at hgd
   exact hgd
  ·rintro b (⟨r,hr⟩|⟨m,hm,hb'⟩)
   ·exact c3 b (by have:=(O.K.dom r b hr).2;omega)
   ·exact c3 b (hown m b hm hb')
 ·refine ⟨⟨by rw [c1];exact H.wd.old.1,fun b hb'=>by rw [c3 b (by omega)];exact H.wd.old.2 b hb'⟩,by rw [c1];exact H.wd.size,?_,?_,?_,?_,⟨sB+1,c2⟩,?_,H.wd.tape,H.wd.os,H.wd.output⟩
  ·rw [c3 _ (by omega)];exact H.wd.bT
  ·rw [c3 _ (by omega)];exact H.wd.bN
  ·rw [c3 _ (by omega)];exact H.wd.bB
  ·rw [c3 _ (by omega)];exact H.wd.cN
  ·rw [c3 _ (by omega)];exact H.wd.wg
 ·refine ⟨H.ac.on,H.ac.sent,H.ac.got,fun m hm=>?_,?_,H.ac.okN,fun m hm=>?_,fun m hm hp=>?_,fun m hm hrk=>?_⟩
  ·rcases H.ac.cover m hm with h|h|⟨k',h1,h2⟩
   ·exact .inl h
   ·exact .inr (.inl (by show m∈s.bufB++ [i];simp [h]))
   ·by_cases hkk:k'=k
    ·subst hkk
     rw [hr.2.1] at h2
     cases h2
     exact .inr (.inl (by show i∈s.bufB++ [i];simp))
    ·exact .inr (.inr ⟨k',h1,by rw [hsw k' hkk];exact h2⟩)
  ·show s.bufN.length+sumTo s.j (fun m=>if ((upd s.ws k (.recv 5 xs)) m).job.isSome then 1 else 0)+(s.bufB++ [i]).length≤s.mt.sent X
   simp only [List.length_append,List.length_cons,List.length_nil]
   omega
  ·have hm':m∈s.bufB++ [i]:=hm
   simp at hm'
   rcases hm' with h|rfl
   ·exact H.ac.okB m h
   ·exact ho.lt
  ·by_cases hmk:m=k
   ·subst hmk;rw [hsk] at hp;cases hp
   ·rw [hsw m hmk] at hp
    exact H.ac.park m hm hp
  ·by_cases hmk:m=k
   ·subst hmk;rw [hsk] at hrk;simp [Wk.rank] at hrk
   ·rw [hsw m hmk] at hrk
    exact H.ac.gone m hm hrk
 ·have:=H.wg.wk4 X hk (σ:= .recv 5 xs) (s.ow k) (by omega) (by simp [Wk.rank]) (by rw [hr.2.2];rfl) s.mt (.inl rfl)
  exact this.copy rfl rfl rfl rfl rfl
 ·refine H.tr.still (s':=s') rfl rfl (fun m hm hrl=>?_) rfl c1 (fun n xs h=>hfin n xs h) (u:=[_,_]) ?_ ?_ ?_ ?_
  ·by_cases hmk:m=k
   ·subst hmk;rw [hsk] at hrl;cases hrl
   ·rw [hsw m hmk] at hrl;exact hrl
  ·intro op hop;simp at hop;rcases hop with rfl|rfl<;> rfl
  ·intro op hop;simp at hop;rcases hop with rfl|rfl<;> exact hcl
  ·intro op hop;simp at hop;rcases hop with rfl|rfl<;> exact ⟨by simp,by simp⟩
  ·intro op hop;simp at hop;rcases hop with rfl|rfl<;> simp
 ·have h1:=sumTo_upd s.ws (.recv 5 xs) Wk.rank hk
  have h2:=sumTo_upd s.ws (.recv 5 xs) Wk.cnt hk
  have h1':sumTo s.j (fun m=>((upd s.ws k (.recv 5 xs)) m).rank)+(s.ws k).rank=sumTo s.j (fun m=>(s.ws m).rank)+9:=h1
  have h2':sumTo s.j (fun m=>((upd s.ws k (.recv 5 xs)) m).cnt)+(s.ws k).cnt=sumTo s.j (fun m=>(s.ws m).cnt)+1:=h2
  have h3:s'.c=s.c:=by show sumTo s.j (fun m=>((upd s.ws k (.recv 5 xs)) m).cnt)=_;unfold PS.c;omega
  show s.mt.rank s'.c+sumTo s.j (fun m=>((upd s.ws k (.recv 5 xs)) m).rank)+12*s'.c+60*(X.E.n - s.rN)< s.mt.rank s.c+sumTo s.j (fun m=>(s.ws m).rank)+12*s.c+60*(X.E.n - s.rN)
  rw [h3]
  omega
theorem worker_step (O:PCOk T Goal X) {s:PS} {gs:Array Goroutine} {v:World} {sl:Option (Nat×Nat)} {t:Trace} (H:PI T Goal X s gs v t) (hfin: ∀n xs,s.mt= .fin n xs→False) {k:Nat} (hk:k< s.j) {g:Goroutine} (hg:gs[X.n0+k]? =some g) (hrun:g.status= .running):StepsTo T Goal X s gs v sl t (X.n0+k):=by
 obtain ⟨g',hg',hW⟩:=H.gs.work k hk
 rw [hg] at hg'
 cases hg'
 cases hσ:s.ws k with
 |load n=>
  cases n with
  |zero=>exact w_load O H hfin hk hσ
  |succ n=>
   rw [hσ] at hW
   rcases hW.1.cases' with ⟨h,_⟩|⟨m,g1,h,hst,hgl⟩
   ·cases h
   ·cases h;exact workIdle O H hfin hk hg hst (σ:= .load n) (by rw [hσ];exact ⟨rfl,rfl,rfl,rfl,rfl,rfl⟩) (by rw [hσ];rfl) ⟨hgl,hW.2⟩
 |recv n xs=>
  cases n with
  |zero=>exact w_recv O H hfin hk (.inl hσ)
  |succ n=>
   rw [hσ] at hW
   rcases hW.1.cases' with ⟨h,_⟩|⟨m,g1,h,hst,hgl⟩
   ·cases h
   ·cases h;exact workIdle O H hfin hk hg hst (σ:= .recv n xs) (by rw [hσ];exact ⟨rfl,rfl,rfl,rfl,rfl,rfl⟩) (by rw [hσ];rfl) ⟨hgl,hW.2⟩
 |park xs=>rw [hσ] at hW;rw [hW.1] at hrun;cases hrun
 |woken xs=>exact w_recv O H hfin hk (.inr hσ)
 |draw n i xs=>
  cases n with
  |zero=>exact w_draw O H hfin hk hσ
  |succ n=>
   rw [hσ] at hW
   rcases hW.1.cases' with ⟨h,_⟩|⟨m,g1,h,hst,hgl⟩
   ·cases h
   ·cases h;exact workIdle O H hfin hk hg hst (σ:= .draw n i xs) (by rw [hσ];exact ⟨rfl,rfl,rfl,rfl,rfl,rfl⟩) (by rw [hσ];rfl) ⟨hgl,hW.2⟩
 |ops i l xs=>
  cases l with
  |nil=>rw [hσ] at hW;exact absurd rfl hW.2.2.1
  |cons j l=>
   rw [hσ] at hW
   have hh:=(good_cons hW.2.2.2.good).1
   match j,hh with
   |0,_=>exact w_ops0 O H hfin hk hσ (.inl rfl)
   |1,_=>exact w_ops0 O H hfin hk hσ (.inr (.inl rfl))
   |2,_=>exact w_ops0 O H hfin hk hσ (.inr (.inr (.inl rfl)))
   |3,_=>exact w_ops0 O H hfin hk hσ (.inr (.inr (.inr (.inl rfl))))
   |4,_=>exact w_enter O H hfin hk hσ (.inl rfl)
   |5,_=>exact w_enter O H hfin hk hσ (.inr rfl)
   |6,_=>exact w_ops0 O H hfin hk hσ (.inr (.inr (.inr (.inr rfl))))
   |7,_=>exact w_send O H hfin hk hσ
 |text i l xs x=>exact w_call O H hfin hk (.inl hσ)
 |summ i l xs x=>exact w_call O H hfin hk (.inr hσ)
 |conv n xs=>
  cases n with
  |zero=>exact w_conv O H hfin hk hσ
  |succ n=>
   rw [hσ] at hW
   rcases hW.1.cases' with ⟨h,_⟩|⟨m,g1,h,hst,hgl⟩
   ·cases h
   ·cases h;exact workIdle O H hfin hk hg hst (σ:= .conv n xs) (by rw [hσ];exact ⟨rfl,rfl,rfl,rfl,rfl,rfl⟩) (by rw [hσ];rfl) ⟨hgl,hW.2⟩
 |relm xs=>exact w_relm O H hfin hk hσ
 |dis n xs=>
  cases n with
  |zero=>exact w_dis O H hfin hk hσ
  |succ n=>
   rw [hσ] at hW
   rcases hW.1.cases' with ⟨h,_⟩|⟨m,g1,h,hst,hgl⟩
   ·cases h
   ·cases h;exact workIdle O H hfin hk hg hst (σ:= .dis n xs) (by rw [hσ];exact ⟨rfl,rfl,rfl,rfl,rfl,rfl⟩) (by rw [hσ];rfl) ⟨hgl,hW.2⟩
 |add n xs=>
  cases n with
  |zero=>exact w_add O H hfin hk hσ
  |succ n=>
   rw [hσ] at hW
   rcases hW.1.cases' with ⟨h,_⟩|⟨m,g1,h,hst,hgl⟩
   ·cases h
   ·cases h;exact workIdle O H hfin hk hg hst (σ:= .add n xs) (by rw [hσ];exact ⟨rfl,rfl,rfl,rfl,rfl,rfl⟩) (by rw [hσ];rfl) ⟨hgl,hW.2⟩
 |ld4 n xs=>
  cases n with
  |zero=>exact w_ld4 O H hfin hk hσ
  |succ n=>
   rw [hσ] at hW
   rcases hW.1.cases' with ⟨h,_⟩|⟨m,g1,h,hst,hgl⟩
   ·cases h
   ·cases h;exact workIdle O H hfin hk hg hst (σ:= .ld4 n xs) (by rw [hσ];exact ⟨rfl,rfl,rfl,rfl,rfl,rfl⟩) (by rw [hσ];rfl) ⟨hgl,hW.2⟩
 |st3 n xs=>
  cases n with
  |zero=>exact w_st3 O H hfin hk hσ
  |succ n=>
   rw [hσ] at hW
   rcases hW.1.cases' with ⟨h,_⟩|⟨m,g1,h,hst,hgl⟩
   ·cases h
   ·cases h;exact workIdle O H hfin hk hg hst (σ:= .st3 n xs) (by rw [hσ];exact ⟨rfl,rfl,rfl,rfl,rfl,rfl⟩) (by rw [hσ];rfl) ⟨hgl,hW.2⟩
 |sem2 n xs=>
  cases n with
  |zero=>exact w_sem2 O H hfin hk hσ
  |succ n=>
   rw [hσ] at hW
   rcases hW.1.cases' with ⟨h,_⟩|⟨m,g1,h,hst,hgl⟩
   ·cases h
   ·cases h;exact workIdle O H hfin hk hg hst (σ:= .sem2 n xs) (by rw [hσ];exact ⟨rfl,rfl,rfl,rfl,rfl,rfl⟩) (by rw [hσ];rfl) ⟨hgl,hW.2⟩
 |quit q=>exact w_quit O H hfin hk hσ hg hrun
theorem leaver_step (O:PCOk T Goal X) {s:PS} {gs:Array Goroutine} {v:World} {sl:Option (Nat×Nat)} {t:Trace} (H:PI T Goal X s gs v t) (hfin: ∀n xs,s.mt= .fin n xs→False) {i:Nat} (hi:0< i) (hin:i< X.n0) {g:Goroutine} (hg:gs[i]? =some g) (hrun:g.status= .running):StepsTo T Goal X s gs v sl t i:=by
 have hq:=H.gs.leav i g hi hin hg
 cases hqi:s.q i with
 |zero=>rw [hqi] at hq;rw [hq.1] at hrun;cases hrun
 |succ q=>
  rw [hqi] at hq
  rcases hq with ⟨hf,_⟩|⟨_,g1,es,hm,hst,hq⟩
  ·rw [hf] at hrun;cases hrun
  have hne0:(i==0)=false:=by simp;omega
  have hrunT:=runT_crowd_go (P:=Pg) (sl:=sl) (i:=i) hg (by rw [hne0];exact hst v)
  obtain ⟨h,h0,hM⟩:=H.gs.main
  obtain ⟨mt',hM',hml,_⟩:=hM.woken O g g1 v
  have hfacts:=MLike.facts (X:=X) hml
  have hlt:i< gs.size:=(Array.getElem?_eq_some_iff.1 hg).1
  have hdf: ∀j,j≠i→Deaf (t++MemOp.ofEvents i g.frame.fn g.frame.place es) j=Deaf t j:=fun j hj=>Deaf_other t (Ne.symm hj) _ fun op hop=>ofEvents_g hop
  have htn: ∀op∈MemOp.ofEvents i g.frame.fn g.frame.place es,op.act.touch? =none:=fun op hop=>by obtain ⟨e,he,rfl⟩:=Go.Conc.mem_ofEvents hop;exact touch_mute (hm e he)
  let s':PS:={s with mt:=mt',q:=upd s.q i q}
  have hsum:sumTo X.n0 (upd s.q i q)+(q+1)=sumTo X.n0 s.q+q:=by
   have:=sumTo_upd s.q q id hin
   simpa [hqi] using this
  refine ⟨s',_,v,_,hrunT,⟨?_,H.wd.same rfl hfacts.2.2.2.1 hfacts.2.1 rfl rfl rfl rfl,?_,?_,?_⟩,.inr (.inr ⟨?_,rfl,?_⟩)⟩
  ·refine ⟨by simp [H.gs.size,s'],⟨_,by rw [Array.getElem?_setIfInBounds_ne (by omega),Array.getElem?_map,h0];rfl,hM'⟩,fun k hk=>?_,fun j x hj hjn hx=>?_,fun j hj=>?_⟩
   ·obtain ⟨x,hx,hw⟩:=H.gs.work k hk
    refine ⟨x,?_,by rw [hdf _ (by omega)];exact hw⟩
    rw [Array.getElem?_setIfInBounds_ne (by omega),Array.getElem?_map,hx]
    simp only [Option.map_some]
    rw [hw.woken g g1 (fun hp=>?_)]
    have hcn:=H.wd.cN
    rw [(H.ac.park k hk hp).2] at hcn
    exact ⟨_,_,_,_,_,hcn⟩
   ·by_cases hji:i=j
    ·subst hji
     rw [Array.getElem?_setIfInBounds_self_of_lt (by simpa using hlt)] at hx
     obtain rfl:=Option.some.inj hx
     show QuitsD Pg (upd s.q i q i) _ g1
     rw [upd_same,Deaf_own]
     exact hq
    ·rw [Array.getElem?_setIfInBounds_ne hji,Array.getElem?_map] at hx
     obtain ⟨y,hy,rfl⟩:=Option.map_eq_some_iff.1 hx
     have hqj:=H.gs.leav j y hj hjn hy
     show QuitsD Pg (upd s.q i q j) _ _
     rw [woken_quitsD hqj,upd_ne _ _ (Ne.symm hji),hdf _ (Ne.symm hji)]
     exact hqj
   ·simp only [Array.size_setIfInBounds,Array.size_map] at hj
    rw [hdf j (by omega)]
    exact H.gs.above j hj
  ·exact ⟨H.ac.on.trans hfacts.2.2.1.symm,hfacts.2.1 ▸ H.ac.sent,H.ac.got.trans hfacts.2.1.symm,fun m hm=>H.ac.cover m (hfacts.2.1 ▸ hm),by show _≤mt'.sent X;rw [hfacts.2.1];exact H.ac.count,H.ac.okN,H.ac.okB,fun m hm hp=>⟨(H.ac.park m hm hp).1,hfacts.2.2.2.1.trans (H.ac.park m hm hp).2⟩,fun m hm hr=>⟨hfacts.2.2.2.1.trans (H.ac.gone m hm hr).1,(H.ac.gone m hm hr).2⟩⟩
  ·obtain ⟨_,_,_,_,f5,_,f7,f8,f9,_,f11,_⟩:=hfacts
   cases H.wg with
   |opn a1 a2 a3 a4 a5=>exact .opn (f7.trans a1) a2 (by show s.st=(s.c+mt'.pend)*KK';rw [f5];exact a3) a4 (fun k n xs ys h=>a5 k n xs ys (f11 k n xs ys h))
   |reg a1 a2 a3 a4 a5=>exact .reg (f8.trans a1) a2 a3 a4 a5
   |last q a1 a2 a3 a4 a5 a6 a7=>exact .last q (f8.trans a1) a2 a3 a4 a5 a6 a7
   |sema a1 a2 a3 a4 a5=>exact .sema (f8.trans a1) (f9 a2) a3 a4 a5
   |done a1 a2 a3 a4 a5=>exact .done (f7.trans a1) (f8.trans a2) a3 a4 a5
  ·refine ⟨?_,H.tr.own,H.tr.apart,fun k hk hr=>?_,?_,?_,fun n xs h=>(hfin n xs (hfacts.2.2.2.2.2.2.2.2.2.2.2 n xs h)).elim⟩
   ·exact H.tr.tp.mute (k:=i) (fun op hop=>ofEvents_g hop) htn (fun op hop=>by obtain ⟨e,he,rfl⟩:=Go.Conc.mem_ofEvents hop;exact low_mute (hm e he) _)
   ·obtain ⟨r,hr⟩:=H.tr.rel k hk hr
    exact ⟨r,RelBy.still hr htn⟩
   ·refine H.tr.norel.app fun op hop=>?_
    obtain ⟨e,he,rfl⟩:=Go.Conc.mem_ofEvents hop
    have:=hm e he
    obtain ⟨loc,wr,sy⟩:=e
    cases loc with
    |mark m=>cases m<;> simp_all [Event.mute,MemAct.ofEvent]
    |_=>simp [Event.mute] at this
   ·rw [hdf 0 (by omega),H.tr.d0]
    exact hfacts.2.2.2.2.2.1.symm
  ·show mt'.rank s.c+sumTo s.j (fun k=>(s.ws k).rank)+12*s.c+60*(X.E.n - s.rN)=s.mt.rank s.c+sumTo s.j (fun k=>(s.ws k).rank)+12*s.c+60*(X.E.n - s.rN)
   rw [hfacts.1]
  ·show mt'.idle+2*sumTo s.j (fun k=>(s.ws k).idle)+2*sumTo X.n0 (upd s.q i q)< s.mt.idle+2*sumTo s.j (fun k=>(s.ws k).idle)+2*sumTo X.n0 s.q
   have:=hfacts.2.2.2.2.2.2.2.2.2.1
   omega
end
end Go.Proofs.YtldmcdeibiclkaaGreatDoor.U
end
section
namespace Go.Proofs.YtldmcdeibiclkaaGreatDoor.U
open Go.Conc
open Go.ConcN (upd upd_same upd_ne sumTo sumTo_upd sumTo_congr sumTo_le le_sumTo RelBy)
section
variable {L:Lim} {T:Tab} {Goal:Frame→List Frame→World→Prop} {X:PC L}
theorem lane_head (O:PCOk T Goal X) (xs:Nat→Value) {i:Nat} (hi:i< X.nW):Glide Pg true 22 (mHead X.M xs X.ds X.nW i) (apDis (X.mc i xs) X.ds X.M.wg):=by
 have key:Glide Pg true 10 (mHead X.M xs X.ds X.nW i) (ap0 (X.mc i xs) X.ds X.M.wg):=by
  unfold PC.mc
  rcases O.nW with h|h<;> rw [h] at hi ⊢
  ·obtain rfl:i=0:=by omega
   have:=(mHead_slid_1_0 X.M xs X.ds).glide
   rw [mHead_add_1_0] at this
   exact this
  ·rcases (show i=0∨i=1∨i=2∨i=3 by omega) with rfl|rfl|rfl|rfl
   ·have:=(mHead_slid_4_0 X.M xs X.ds).glide;rw [mHead_add_4_0] at this;exact this
   ·have:=(mHead_slid_4_1 X.M xs X.ds).glide;rw [mHead_add_4_1] at this;exact this
   ·have:=(mHead_slid_4_2 X.M xs X.ds).glide;rw [mHead_add_4_2] at this;exact this
   ·have:=(mHead_slid_4_3 X.M xs X.ds).glide;rw [mHead_add_4_3] at this;exact this
 exact key.trans (ap0_slid _ _ _).glide
theorem lane_go (O:PCOk T Goal X) (xs:Nat→Value) {i:Nat} (hi:i< X.nW):Glide Pg true 3 (backM (X.mc i xs) X.ds) (mGo X.M xs X.ds X.nW i):=by
 unfold PC.mc
 rcases O.nW with h|h<;> rw [h] at hi ⊢
 ·obtain rfl:i=0:=by omega
  exact (mGo_slid_1_0 X.M xs X.ds).glide
 ·rcases (show i=0∨i=1∨i=2∨i=3 by omega) with rfl|rfl|rfl|rfl
  ·exact (mGo_slid_4_0 X.M xs X.ds).glide
  ·exact (mGo_slid_4_1 X.M xs X.ds).glide
  ·exact (mGo_slid_4_2 X.M xs X.ds).glide
  ·exact (mGo_slid_4_3 X.M xs X.ds).glide
theorem lane_spawn (O:PCOk T Goal X) (xs:Nat→Value) {i:Nat} (hi:i< X.nW):(∀w,stepG Pg true (mGo X.M xs X.ds X.nW i) w= .spawn (fin (mGo X.M xs X.ds X.nW i) unit) (gChild X.p) w #[])∧∃xs',Glide Pg true 9 (fin (mGo X.M xs X.ds X.nW i) unit) (mHead X.M xs' X.ds X.nW ((i+1:Nat):Int)):=by
 rcases O.nW with h|h<;> rw [h] at hi ⊢
 ·obtain rfl:i=0:=by omega
  have:=(mNext_slid_1_0 X.M xs X.ds).glide;rw [mNext_head_1_0] at this
  exact ⟨fun w=>mGo_step_1_0 X.M xs X.ds w,_,this⟩
 ·rcases (show i=0∨i=1∨i=2∨i=3 by omega) with rfl|rfl|rfl|rfl
  ·have:=(mNext_slid_4_0 X.M xs X.ds).glide;rw [mNext_head_4_0] at this
   exact ⟨fun w=>mGo_step_4_0 X.M xs X.ds w,_,this⟩
  ·have:=(mNext_slid_4_1 X.M xs X.ds).glide;rw [mNext_head_4_1] at this
   exact ⟨fun w=>mGo_step_4_1 X.M xs X.ds w,_,this⟩
  ·have:=(mNext_slid_4_2 X.M xs X.ds).glide;rw [mNext_head_4_2] at this
   exact ⟨fun w=>mGo_step_4_2 X.M xs X.ds w,_,this⟩
  ·have:=(mNext_slid_4_3 X.M xs X.ds).glide;rw [mNext_head_4_3] at this
   exact ⟨fun w=>mGo_step_4_3 X.M xs X.ds w,_,this⟩
theorem lane_send (O:PCOk T Goal X) (xs:Nat→Value) {j:Nat} (hj:j≤X.E.n):(j< X.E.n→Glide Pg true 13 (mSend X.M xs X.ds j) (mLd X.M xs X.ds j))∧(j=X.E.n→Glide Pg true 7 (mSend X.M xs X.ds j) (mLc X.M xs X.ds X.E.n)):=by
 have _:=hj
 have h1:=(mSend_slid X.M xs X.ds j).glide
 rw [mSend_test,O.count] at h1
 constructor
 ·intro h
  rw [show decide ((j:Int)< (X.E.n:Int))=true by simp;omega] at h1
  exact h1.trans (mTest_slid X.M xs X.ds j).glide
 ·intro h
  subst h
  rw [show decide ((X.E.n:Int)< (X.E.n:Int))=false by simp] at h1
  exact h1.trans (mTestF_slid X.M xs X.ds X.E.n).glide
theorem lane_next (O:PCOk T Goal X) (xs:Nat→Value) {i:Nat} (hi:i≤X.nW):(i< X.nW→Glide Pg true 22 (mHead X.M xs X.ds X.nW i) (apDis (X.mc i xs) X.ds X.M.wg))∧(i=X.nW→∃xs',Glide Pg true 28 (mHead X.M xs X.ds X.nW i) (mLd X.M xs' X.ds (0:Nat))):=by
 have _:=hi
 refine ⟨fun h=>lane_head O xs h,fun h=>?_⟩
 subst h
 have hn:0< X.E.n:=by have:=O.nn;omega
 have key: ∃xs',Glide Pg true 15 (mHead X.M xs X.ds X.nW X.nW) (mSend X.M xs' X.ds (0:Nat)):=by
  rcases O.nW with h|h<;> rw [h]
  ·have:=(mStart_slid_1 X.M xs X.ds).glide;rw [mStart_send_1] at this;exact ⟨_,this⟩
  ·have:=(mStart_slid_4 X.M xs X.ds).glide;rw [mStart_send_4] at this;exact ⟨_,this⟩
 obtain ⟨xs',h1⟩:=key
 exact ⟨xs',h1.trans ((lane_send O xs' (Nat.zero_le _)).1 hn)⟩
theorem mainStep (O:PCOk T Goal X) {s s':PS} {gs:Array Goroutine} {v v1:World} {sl:Option (Nat×Nat)} {t:Trace} (H:PI T Goal X s gs v t) {h h1:Goroutine} (h0:gs[0]? =some h) {es:Array Event} (e:stepG Pg true h v= .go h1 v1 es) (hM:MAt X h1 s'.mt)
  (e1:s'.j=s.j) (e2:s'.ws=s.ws) (e3:s'.ow=s.ow) (e4:s'.q=s.q) (e5:s'.bufN=s.bufN) (e6:s'.rN=s.rN) (e7:s'.bufB=s.bufB) (e8:s'.mt.sent X=s.mt.sent X) (e9:s'.mt.shut=s.mt.shut) (e10:s'.mt.on X=s.mt.on X)
  (hs:v1.heap.size=v.heap.size) (hoth: ∀b,b≠X.M.wg→v1.heap[b]? =v.heap[b]?) (hwgb:v1.heap[X.M.wg]? =some (.cells #[.int .u64 s'.st,.int .u32 s'.sm] 188)) (ht:v1.tape=v.tape∧v1.os=v.os∧v1.output=v.output) (hwg:Wg s')
  (hev: ∀e∈es,∀a,(MemAct.ofEvent e).touch? =some a→a.loc.isMemory=true∧OkT (lots X s') 0 a) (hlow: ∀e∈es,(MemAct.ofEvent e).low v.heap.size) (hnr: ∀e∈es,e.loc≠.mark (.release (stA' X))) (hd:deafBehind s.mt.deaf es=s'.mt.deaf)
  (hacq: ∀n xs,s'.mt= .fin n xs→∃q,(t++MemOp.ofEvents 0 h.frame.fn h.frame.place es).act? q=some (.mark (.acquire (stA' X)))∧(t++MemOp.ofEvents 0 h.frame.fn h.frame.place es).g? q=some 0∧(t++MemOp.ofEvents 0 h.frame.fn h.frame.place es).heard q∧∀k,k< s.j→∃r,RelBy (stA' X) (t++MemOp.ofEvents 0 h.frame.fn h.frame.place es) (X.n0+k) r∧r< q)
  (hdec:Dec Goal X s' s):StepsTo T Goal X s gs v sl t 0:=by
 have hn0:=O.n0
 have b1:=O.bT;have b2:=O.cN;have b3:=O.bN;have b4:=O.cB;have b5:=O.bB;have b6:=O.wg
 have hrun:=runT_crowd_go (P:=Pg) (sl:=sl) (i:=0) h0 (show stepG Pg (0==0) h v=_ from e)
 refine ⟨s',_,v1,_,hrun,⟨?_,?_,?_,hwg,?_⟩,hdec⟩
 ·refine H.gs.mainGo O hM (by rw [hs];exact Nat.le_refl _) ?_ ?_ e1 e2 e3 e4 _ _
  ·rintro b (⟨r,hr⟩|⟨k,hk,hb⟩)
   ·exact hoth b (by have:=(O.K.dom r b hr).2;omega)
   ·exact hoth b (by have:=(H.tr.own k b hk hb).1;omega)
  ·intro i hi hp
   have hcn:=H.wd.cN
   rw [(H.ac.park i hi hp).2,← hoth _ (by omega)] at hcn
   exact ⟨_,_,_,_,_,hcn⟩
 ·refine ⟨⟨by rw [hs];exact H.wd.old.1,fun b hb=>by rw [hoth b (by omega)];exact H.wd.old.2 b hb⟩,by rw [hs];exact H.wd.size,?_,?_,?_,?_,?_,hwgb,ht.1.trans H.wd.tape,ht.2.1.trans H.wd.os,ht.2.2.trans H.wd.output⟩
  ·rw [hoth _ (by omega)];exact H.wd.bT
  ·rw [hoth _ (by omega)];exact H.wd.bN
  ·rw [hoth _ (by omega)];exact H.wd.bB
  ·rw [hoth _ (by omega),e5,e6,e8,e9];exact H.wd.cN
  ·obtain ⟨sB,h⟩:=H.wd.cB;exact ⟨sB,by rw [hoth _ (by omega),e7];exact h⟩
 ·refine ⟨e1.trans (H.ac.on.trans e10.symm),e8 ▸ H.ac.sent,by rw [e5,e6,e8];exact H.ac.got,fun m hm=>?_,?_,by rw [e5];exact H.ac.okN,by rw [e7];exact H.ac.okB,fun m hm hp=>?_,fun m hm hr=>?_⟩
  ·rw [e5,e7,e1,e2];exact H.ac.cover m (e8 ▸ hm)
  ·rw [e5,e7,e8,e1,e2];exact H.ac.count
  ·rw [e2] at hp;rw [e5,e9];exact H.ac.park m (e1 ▸ hm) hp
  ·rw [e2] at hr;rw [e5,e9];exact H.ac.gone m (e1 ▸ hm) hr
 ·refine H.tr.step O (s':=s') (.inl rfl) e1 (by rw [hs];exact Nat.le_refl _) (fun i b hi hb=> .inl (by rw [← e3];exact hb)) H.wd.size hev (fun e he=>by rw [hs];exact hlow e he) (fun k hk hr=>?_) hnr (by simp only [if_true];rw [H.tr.d0];exact hd) hacq
  rw [e2] at hr
  exact rel_other H.tr (fun op hop=>ofEvents_g hop) hk (by omega) hr
structure MSame (X:PC L) (mt mt':Mt):Prop where
 rank: ∀c,mt'.rank c=mt.rank c
 sent:mt'.sent X=mt.sent X
 on:mt'.on X=mt.on X
 shut:mt'.shut=mt.shut
 pend:mt'.pend=mt.pend
 deaf:mt'.deaf=mt.deaf
 opn:isOpen mt'=isOpen mt
 reg:isReg mt'=isReg mt
 blk:isBlk mt'=isBlk mt
 cas: ∀k n xs ys,mt'= .cas k n xs ys→∃n',mt= .cas k n' xs ys
 nfin: ∀n xs,mt'≠.fin n xs
theorem Wg.msame {s:PS} {mt':Mt} (H:Wg s) (hm:MSame X s.mt mt'):Wg {s with mt:=mt'}:=by
 cases H with
 |opn a1 a2 a3 a4 a5=>exact .opn (hm.opn.trans a1) a2 (by show s.st=(s.c+mt'.pend)*KK';rw [hm.pend];exact a3) a4 (fun k n xs ys h=>by obtain ⟨n',h'⟩:=hm.cas k n xs ys h;exact a5 k n' xs ys h')
 |reg a1 a2 a3 a4 a5=>exact .reg (hm.reg.trans a1) a2 a3 a4 a5
 |last q a1 a2 a3 a4 a5 a6 a7=>exact .last q (hm.reg.trans a1) a2 a3 a4 a5 a6 a7
 |sema a1 a2 a3 a4 a5=>exact .sema (hm.reg.trans a1) (hm.blk.trans a2) a3 a4 a5
 |done a1 a2 a3 a4 a5=>exact .done (hm.opn.trans a1) (hm.reg.trans a2) a3 a4 a5
theorem mainIdle (O:PCOk T Goal X) {s:PS} {gs:Array Goroutine} {v:World} {sl:Option (Nat×Nat)} {t:Trace} (H:PI T Goal X s gs v t) {h h1:Goroutine} (h0:gs[0]? =some h) (e: ∀w,stepG Pg true h w= .go h1 w #[]) {mt':Mt} (hM:MAt X h1 mt') (hm:MSame X s.mt mt') (hi:mt'.idle+1=s.mt.idle):StepsTo T Goal X s gs v sl t 0:=by
 refine mainStep O H (s':={s with mt:=mt'}) h0 (e v) hM rfl rfl rfl rfl rfl rfl rfl hm.sent hm.shut hm.on rfl (fun _ _=>rfl) H.wd.wg ⟨rfl,rfl,rfl⟩ (H.wg.msame hm) (fun e he=>by simp at he) (fun e he=>by simp at he) (fun e he=>by simp at he) hm.deaf.symm (fun n xs h=>absurd h (hm.nfin n xs)) (.inr (.inr ⟨?_,rfl,?_⟩))
 ·show mt'.rank s.c+sumTo s.j (fun k=>(s.ws k).rank)+12*s.c+60*(X.E.n - s.rN)=s.mt.rank s.c+sumTo s.j (fun k=>(s.ws k).rank)+12*s.c+60*(X.E.n - s.rN)
  rw [hm.rank]
 ·show mt'.idle+2*sumTo s.j (fun k=>(s.ws k).idle)+2*sumTo X.n0 s.q< s.mt.idle+2*sumTo s.j (fun k=>(s.ws k).idle)+2*sumTo X.n0 s.q
  omega
theorem dec_main {s s':PS} (e1:s'.j=s.j) (e2:s'.ws=s.ws) (e6:s'.rN=s.rN) (h:s'.mt.rank s.c< s.mt.rank s.c):Dec Goal X s' s:=by
 refine .inl ?_
 have hc:s'.c=s.c:=by unfold PS.c;rw [e1,e2]
 unfold PS.phi
 rw [hc,e1,e2,e6]
 omega
end
end Go.Proofs.YtldmcdeibiclkaaGreatDoor.U
end
