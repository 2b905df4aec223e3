/-
  Toward: treed_holds, each node's digest is that of its children's, for every argument of Treed. WHERE THE FIRST OF TWO RELATED PIECES HALTS: it panics, or the run ends; no list of deferred calls has come to be.
  ONE GOROUTINE BESIDE ITSELF (by the relation of two programs, both of them this one): on another tape that answers alike it does the same.
  ONE GOROUTINE BESIDE ITSELF: its step.
-/
import Derived.Test.YtldmcdeibiclkaaGreatDoorC02
import Derived.Test.YtldmcdeibiclkaaGreatDoorC11
set_option linter.unusedVariables false
set_option linter.unusedSimpArgs false
set_option maxRecDepth 4000
section
namespace Go.Proofs.YtldmcdeibiclkaaGreatDoor.U
def DefOk (w:World):Prop:=∀(r:Nat) d,w.heap[r]? =some (.deferred d)→d=none∨d=some []
theorem _root_.Go.Sem.runT_growsU_halt {α:Type} (P:Program): ∀(p:Sem α) (w:World) (es:Array Event) {h:Halt} {w1:World} {es1:Array Event},p.runT P w es=(.halt h w1,es1)→w.heap.size≤w1.heap.size:=by
 intro p
 induction p with
 |pure a=>intro w es h w1 es1 hr;cases hr
 |load m a k ih=>
  intro w es h w1 es1 hr
  rw [Sem.runT] at hr
  split at hr
  ·exact ih _ _ _ hr
  ·split at hr
   ·exact ih _ _ _ hr
   ·cases hr;exact Nat.le_refl _
 |store m a x k ih=>
  intro w es h w1 es1 hr
  by_cases h1: ∃c,x= .agg c
  ·obtain ⟨c,rfl⟩:=h1;simp only [Sem.runT] at hr;cases hr;exact Nat.le_refl _
  by_cases h2: ∃c,x= .tuple c
  ·obtain ⟨c,rfl⟩:=h2;simp only [Sem.runT] at hr;cases hr;exact Nat.le_refl _
  rw [Sem.runT.eq_5 _ _ _ _ _ _ _ (fun c e=>h1 ⟨c,e⟩) (fun c e=>h2 ⟨c,e⟩)] at hr
  split at hr
  ·split at hr
   ·cases hr;exact Nat.le_refl _
   ·have:=ih _ _ hr
    simpa [World.setCell] using this
  ·split at hr
   ·rename_i w' l he
    unfold World.farStore at he
    split at he
    ·split at he
     ·rename_i r hh
      cases he
      have h3:=viewStore_size hh
      have:=ih _ _ hr
      rw [h3.1] at this
      exact this
     ·cases he
    ·cases he
   ·cases hr;exact Nat.le_refl _
 |new o k ih=>
  intro w es h w1 es1 hr
  have:=ih _ _ _ hr
  simp only [Array.size_push] at this
  omega
 |shape r k ih=>intro w es h w1 es1 hr;exact ih _ _ _ hr
 |freeze a n k ih=>
  intro w es h w1 es1 hr
  have:=ih _ _ hr
  have h2:(w.freeze a n).heap.size=w.heap.size:=by unfold World.freeze;split<;> simp
  rw [h2] at this
  exact this
 |frozen a k ih=>intro w es h w1 es1 hr;exact ih _ _ _ hr
 |getObj r k ih=>
  intro w es h w1 es1 hr
  rw [Sem.runT] at hr
  split at hr
  ·cases hr;exact Nat.le_refl _
  ·exact ih _ _ _ hr
  ·cases hr;exact Nat.le_refl _
 |setObj r o k ih=>
  intro w es h w1 es1 hr
  rw [Sem.runT] at hr
  split at hr
  ·cases hr;exact Nat.le_refl _
  ·have:=ih _ _ hr
   simpa using this
  ·cases hr;exact Nat.le_refl _
 |choose q k ih=>
  intro w es h w1 es1 hr
  rw [Sem.runT] at hr
  split at hr
  ·exact ih _ _ _ hr
  ·have:=ih _ _ _ hr
   exact this
 |sys c k ih=>
  intro w es h w1 es1 hr
  have:=ih _ _ _ hr
  rw [(sys_size w c).1] at this
  exact this
 |program k ih=>intro w es h w1 es1 hr;exact ih _ _ _ hr
 |mark m k ih=>intro w es h w1 es1 hr;exact ih _ _ hr
 |halt h=>intro w es h w1 es1 hr;cases hr;exact Nat.le_refl _
section
variable {P:Program} {G:Array Func} {L:Lim} {C:FuncId→Code→Prop} {τ:Tri} {k₀:Kd} {N:Nat}
theorem DefOk.modify {w:World} (h:DefOk w) {r:Nat} {f:Obj→Obj} (hf: ∀o d,w.heap[r]? =some o→f o= .deferred d→d=none∨d=some []):DefOk {w with heap:=w.heap.modify r f}:=by
 intro r' d hd
 simp only [Array.getElem?_modify] at hd
 split at hd
 ·rename_i e
  subst e
  obtain ⟨o,ho,he⟩:=Option.map_eq_some_iff.1 hd
  exact hf o d ho he
 ·exact h r' d hd
theorem noCell_tame (w:World) (a:Addr) (s:String):Tame (w.noCell a s):=by
 unfold World.noCell
 split<;> trivial
theorem farLoad_tame {w:World} {a:Addr} (ho: ∀o,w.heap[a.block]? =some o→Known L τ o) (b:Bool): ∃h,w.farLoad P a b= .error h∧Tame h:=by
 unfold World.farLoad
 split
 ·rename_i he
  rcases ho _ he with ⟨q,hq⟩|⟨_,_,_,hq⟩<;> cases hq
 ·exact ⟨_,rfl,noCell_tame _ _ _⟩
theorem farStore_tame {w:World} {a:Addr} {x:Value} (ho: ∀o,w.heap[a.block]? =some o→Known L τ o) (b:Bool): ∃h,w.farStore P a x b= .error h∧Tame h:=by
 unfold World.farStore
 split
 ·rename_i he
  rcases ho _ he with ⟨q,hq⟩|⟨_,_,_,hq⟩<;> cases hq
 ·exact ⟨_,rfl,noCell_tame _ _ _⟩
theorem SemR.halts (hb:Fit τ) {α β:Type} {R:α→β→Prop} {p:Sem α} {q:Sem β} (h:SemR P G L C τ k₀ R p q):
  ∀(w v:World) (es:Array Event) (hh:Halt) (w1:World) (es1:Array Event),Sync L C τ k₀ N w v→DefOk w→p.runT (gp P G) w es=(.halt hh w1,es1)→w1.heap.size≤N→(∀r s,τ.un r s→r< N)→Tame hh∧DefOk w1:=by
 induction h with
 |pure hR=>intro w v es hh w1 es1 _ _ hr _ _;cases hr
 |@load a b k l hab _ ih=>
  intro w v es hh w1 es1 hs hd hr hN hpn
  rw [Sem.runT] at hr
  cases hc:w.cell? a with
  |none=>
   obtain ⟨hx,he,ht⟩:=farLoad_tame (P:=gp P G) (L:=L) (τ:=τ) (hs.known (.inl hab.1)) (Mode.plain== .atomic)
   rw [hc] at hr
   simp only [he] at hr
   cases hr
   exact ⟨ht,hd⟩
  |some y=>
   rw [hc] at hr
   obtain ⟨z,hz,hyz⟩:=hs.cell hab hc
   exact ih y z hyz w v _ hh w1 es1 hs hd hr hN hpn
 |@loadX a b k l hab _ ih=>
  intro w v es hh w1 es1 hs hd hr hN hpn
  rw [Sem.runT] at hr
  cases hc:w.cell? a with
  |none=>
   obtain ⟨hx,he,ht⟩:=farLoad_tame (P:=gp P G) (L:=L) (τ:=τ) (hs.known (.inr hab.1)) (Mode.plain== .atomic)
   rw [hc] at hr
   simp only [he] at hr
   cases hr
   exact ⟨ht,hd⟩
  |some y=>
   rw [hc] at hr
   obtain ⟨z,hz,hyz⟩:=hs.cellX hab hc
   exact ih y z hyz w v _ hh w1 es1 hs hd hr hN hpn
 |@store a b x y k l hab hxy _ ih=>
  intro w v es hh w1 es1 hs hd hr hN hpn
  by_cases h1: ∃c,x= .agg c
  ·obtain ⟨c,rfl⟩:=h1;simp only [Sem.runT] at hr;cases hr;exact ⟨trivial,hd⟩
  by_cases h2: ∃c,x= .tuple c
  ·obtain ⟨c,rfl⟩:=h2;simp only [Sem.runT] at hr;cases hr;exact ⟨trivial,hd⟩
  rw [Sem.runT.eq_5 _ _ _ _ _ _ _ (fun c e=>h1 ⟨c,e⟩) (fun c e=>h2 ⟨c,e⟩)] at hr
  cases hc:w.cell? a with
  |none=>
   obtain ⟨hx,he,ht⟩:=farStore_tame (P:=gp P G) (L:=L) (τ:=τ) (x:=x) (hs.known (.inl (hb.own _ _ hab.1))) (Mode.plain== .atomic)
   rw [hc] at hr
   simp only [he] at hr
   cases hr
   exact ⟨ht,hd⟩
  |some y0=>
   rw [hc] at hr
   obtain ⟨hsp,_⟩:=cell?_of hc
   by_cases hfz:w.frozen? a=true
   ·simp only [hfz,if_true] at hr;cases hr;exact ⟨trivial,hd⟩
   ·simp only [hfz,Bool.false_eq_true,if_false] at hr
    refine ih _ _ _ hh w1 es1 (hs.stored hb hab hsp hxy) ?_ hr hN hpn
    refine hd.modify fun o d ho he=>?_
    cases o<;> simp only at he<;> first|cases he|skip
    exact hd _ d ho
 |@storeX a b x y k l hab hxy _ ih=>
  intro w v es hh w1 es1 hs hd hr hN hpn
  by_cases h1: ∃c,x= .agg c
  ·obtain ⟨c,rfl⟩:=h1;simp only [Sem.runT] at hr;cases hr;exact ⟨trivial,hd⟩
  by_cases h2: ∃c,x= .tuple c
  ·obtain ⟨c,rfl⟩:=h2;simp only [Sem.runT] at hr;cases hr;exact ⟨trivial,hd⟩
  rw [Sem.runT.eq_5 _ _ _ _ _ _ _ (fun c e=>h1 ⟨c,e⟩) (fun c e=>h2 ⟨c,e⟩)] at hr
  cases hc:w.cell? a with
  |none=>
   obtain ⟨hx,he,ht⟩:=farStore_tame (P:=gp P G) (L:=L) (τ:=τ) (x:=x) (hs.known (.inr hab.1)) (Mode.plain== .atomic)
   rw [hc] at hr
   simp only [he] at hr
   cases hr
   exact ⟨ht,hd⟩
  |some y0=>
   rw [hc] at hr
   obtain ⟨hsp,_⟩:=cell?_of hc
   by_cases hfz:w.frozen? a=true
   ·simp only [hfz,if_true] at hr;cases hr;exact ⟨trivial,hd⟩
   ·simp only [hfz,Bool.false_eq_true,if_false] at hr
    refine ih _ _ _ hh w1 es1 (hs.boxed hb hab hsp hxy) ?_ hr hN hpn
    refine hd.modify fun o d ho he=>?_
    cases o<;> simp only at he<;> first|cases he|skip
    exact hd _ d ho
 |@new o q k l hk ho _ ih=>
  intro w v es hh w1 es1 hs hd hr hN hpn
  rw [Sem.runT] at hr
  have hg:=Sem.runT_growsU_halt (gp P G) _ _ _ hr
  simp only [Array.size_push] at hg
  have hp:τ.own w.heap.size v.heap.size:=by have:=hs.next (by omega);rw [hk] at this;exact this
  refine ih _ _ hp _ _ _ hh w1 es1 (hs.push hb (by omega) (KR.ofAll hb (hb.own _ _ hp) ho)) ?_ hr hN hpn
  intro r d hx
  simp only [Array.getElem?_push] at hx
  split at hx
  ·cases hx
   cases ho
  ·exact hd r d hx
 |@newX xs ys e f k l hk ho _ ih=>
  intro w v es hh w1 es1 hs hd hr hN hpn
  rw [Sem.runT] at hr
  have hg:=Sem.runT_growsU_halt (gp P G) _ _ _ hr
  simp only [Array.size_push] at hg
  have hp:τ.box w.heap.size v.heap.size:=by have:=hs.next (by omega);rw [hk] at this;exact this
  refine ih _ _ hp _ _ _ hh w1 es1 (hs.push hb (by omega) (KR.ofBox (e:=e) (f:=f) hb hp ho)) ?_ hr hN hpn
  intro r d hx
  simp only [Array.getElem?_push] at hx
  split at hx
  ·cases hx
  ·exact hd r d hx
 |@newL o q k l hk ho _ ih=>
  intro w v es hh w1 es1 hs hd hr hN hpn
  rw [Sem.runT] at hr
  have hg:=Sem.runT_growsU_halt (gp P G) _ _ _ hr
  simp only [Array.size_push] at hg
  have hp:τ.lp w.heap.size v.heap.size:=by have:=hs.next (by omega);rw [hk] at this;exact this
  refine ih _ _ hp _ _ _ hh w1 es1 (hs.push hb (by omega) (KR.ofLp hb hp ho)) ?_ hr hN hpn
  intro r d hx
  simp only [Array.getElem?_push] at hx
  split at hx
  ·cases hx
   cases ho with
   |deferred hdd=>exact hdd
  ·exact hd r d hx
 |@getL r s k l hrs _ ih=>
  intro w v es hh w1 es1 hs hd hr hN hpn
  rw [Sem.runT] at hr
  cases hc:w.heap[r]? with
  |none=>rw [hc] at hr;cases hr;exact ⟨trivial,hd⟩
  |some o=>
   obtain ⟨o',q,h1,h2,h3⟩:=hs.loops r s hrs (Array.getElem?_eq_some_iff.1 hc).1
   rw [hc] at h1;cases h1
   rw [hc] at hr
   have h3':=h3
   cases h3 with
   |_=>exact ih _ _ h3' w v _ hh w1 es1 hs hd hr hN hpn
 |@setL r s o q k l hrs ho _ ih=>
  intro w v es hh w1 es1 hs hd hr hN hpn
  rw [Sem.runT] at hr
  cases hc:w.heap[r]? with
  |none=>rw [hc] at hr;cases hr;exact ⟨trivial,hd⟩
  |some o0=>
   obtain ⟨o',q0,h1,h2,h3⟩:=hs.loops r s hrs (Array.getElem?_eq_some_iff.1 hc).1
   rw [hc] at h1;cases h1
   rw [hc] at hr
   rw [set_eq_modify] at hr
   have hd1:DefOk {w with heap:=w.heap.modify r fun _=>o}:=hd.modify fun _ d _ he=>by
    subst he
    cases ho with
    |deferred hdd=>exact hdd
   have hs1:Sync L C τ k₀ N {w with heap:=w.heap.modify r fun _=>o} {v with heap:=v.heap.modify s fun _=>q}:=hs.turn hb (Tri.un_lp hrs) fun _ _ _=>KR.ofLp hb hrs ho
   cases h3 with
   |_=>exact ih _ _ _ hh w1 es1 hs1 hd1 hr hN hpn
 |@shape r s k l hrs _ ih=>intro w v es hh w1 es1 hs hd hr hN hpn;exact ih _ w v es hh w1 es1 hs hd hr hN hpn
 |@freeze a b n k l hab _ ih=>
  intro w v es hh w1 es1 hs hd hr hN hpn
  refine ih _ _ _ hh w1 es1 (hs.froze hb hab n) ?_ hr hN hpn
  unfold World.freeze
  split
  ·exact hd
  ·refine hd.modify fun o d ho he=>?_
   cases o<;> simp only at he<;> first|cases he|skip
   exact hd _ d ho
 |@frozen a b k l hab _ ih=>intro w v es hh w1 es1 hs hd hr hN hpn;exact ih _ w v es hh w1 es1 hs hd hr hN hpn
 |@getObj r s k l hrs _ ih=>
  intro w v es hh w1 es1 hs hd hr hN hpn
  rw [Sem.runT] at hr
  cases hc:w.heap[r]? with
  |none=>rw [hc] at hr;cases hr;exact ⟨trivial,hd⟩
  |some o=>
   obtain ⟨o',q,h1,h2,h3⟩:=hs.obj r s hrs (Array.getElem?_eq_some_iff.1 hc).1
   rw [hc] at h1;cases h1
   rw [hc] at hr
   have h3':=h3
   cases h3 with
   |cells e f hx=>cases hr;exact ⟨trivial,hd⟩
   |_=>exact ih _ _ h3' w v _ hh w1 es1 hs hd hr hN hpn
 |@setObj r s o q k l hrs ho hnc _ ih=>
  intro w v es hh w1 es1 hs hd hr hN hpn
  rw [Sem.runT] at hr
  cases hc:w.heap[r]? with
  |none=>rw [hc] at hr;cases hr;exact ⟨trivial,hd⟩
  |some o0=>
   obtain ⟨o',q0,h1,h2,h3⟩:=hs.obj r s (hb.own _ _ hrs) (Array.getElem?_eq_some_iff.1 hc).1
   rw [hc] at h1;cases h1
   rw [hc] at hr
   rw [set_eq_modify] at hr
   have hd1:DefOk {w with heap:=w.heap.modify r fun _=>o}:=hd.modify fun _ d _ he=>by
    subst he
    cases ho
   have hs1:Sync L C τ k₀ N {w with heap:=w.heap.modify r fun _=>o} {v with heap:=v.heap.modify s fun _=>q}:=hs.turn hb (.inl (hb.own _ _ hrs)) fun _ _ _=>KR.ofAll hb (hb.own _ _ hrs) ho
   cases h3 with
   |cells e f hx=>cases hr;exact ⟨trivial,hd⟩
   |_=>exact ih _ _ _ hh w1 es1 hs1 hd1 hr hN hpn
 |@choose qq k l _ ih=>
  intro w v es hh w1 es1 hs hd hr hN hpn
  rw [Sem.runT] at hr
  by_cases hf:qq.forced=true
  ·simp only [hf,if_true] at hr
   exact ih 0 w v es hh w1 es1 hs hd hr hN hpn
  ·simp only [hf,Bool.false_eq_true,if_false] at hr
   exact ih _ {w with drawn:=w.drawn+1} v _ hh w1 es1 ⟨hs.held,hs.fut⟩ hd hr hN hpn
 |program _ ih=>intro w v es hh w1 es1 hs hd hr hN hpn;exact ih w v es hh w1 es1 hs hd hr hN hpn
 |programL _ ih=>intro w v es hh w1 es1 hs hd hr hN hpn;exact ih w v es hh w1 es1 hs hd hr hN hpn
 |noRoom _ ih=>intro w v es hh w1 es1 hs hd hr hN hpn;exact ih w v _ hh w1 es1 hs hd hr hN hpn
 |doom qq hx=>
  intro w v es hh w1 es1 hs hd hr hN hpn
  obtain ⟨h2,w2,es2,e,ht,hk⟩:=hx w es
  rw [e] at hr
  cases hr
  exact ⟨ht,fun r d hx=>hd r d (hk r d hx)⟩
end
end Go.Proofs.YtldmcdeibiclkaaGreatDoor.U
end
section
namespace Go.Proofs.YtldmcdeibiclkaaGreatDoor.U
open Go.Conc
def Dg (τ:Tri):Prop:=∀r s,τ.un r s→r=s
section
variable {P:Program} {L:Lim} {T:Tab} {τ:Tri}
theorem AR.dg {π:Nat→Nat→Prop} (hp: ∀r s,π r s→r=s) {a b:Addr} (h:AR π a b):a=b:=by
 obtain ⟨ab,ao,as⟩:=a
 obtain ⟨bb,bo,bs⟩:=b
 obtain ⟨h1,h2,h3⟩:=h
 have h1:=hp _ _ h1
 simp only at h1 h2 h3
 subst h1 h2 h3
 rfl
theorem VR.dg (hj:L.junk=junkOf) {π:Nat→Nat→Prop} (hp: ∀r s,π r s→r=s) {v w:Value} (h:VR L π v w):v=w:=by
 have arr: ∀(zs:Array (Value×Value)),(∀z∈zs,z.1=z.2)→zs.map (·.1)=zs.map (·.2):=fun zs hz=>Array.map_congr_left fun z h=>hz z h
 induction h with
 |junk s=>rw [hj];rfl
 |ptr h=>rw [h.dg hp]
 |slice n c h=>rw [h.dg hp]
 |map h=>rw [hp _ _ h]
 |func xs ys hf _ _ ihx ihy=>rw [arr xs ihx,arr ys ihy]
 |iface t _ ih=>rw [ih]
 |agg xs _ ih=>rw [arr xs ih]
 |tuple xs _ ih=>rw [arr xs ih]
 |_=>rfl
theorem XR.dg {α:Type} {R:α→α→Prop} (hR: ∀a b,R a b→a=b) {xs ys:Array α} (h:XR R xs ys):xs=ys:=by
 obtain ⟨zs,rfl,rfl,hz⟩:=h
 exact Array.map_congr_left fun z h=>hR _ _ (hz z h)
theorem L2.dg {α:Type} {R:α→α→Prop} (hR: ∀a b,R a b→a=b) {xs ys:List α} (h:L2 R xs ys):xs=ys:=by
 induction h with
 |nil=>rfl
 |cons h _ ih=>rw [hR _ _ h,ih]
theorem NR.dg {π:Nat→Nat→Prop} (hp: ∀r s,π r s→r=s): ∀{a b:Option Nat},NR π a b→a=b
 |none,none,_=>rfl
 |some _,some _,h=>by rw [hp _ _ h]
theorem FunV.dg (hj:L.junk=junkOf) (hd:Dg τ) {p:FuncId→Prop} {n:Nat} {v w:Value} (h:FunV L p n τ v w):v=w:=by
 rcases h with ⟨rfl,rfl⟩|⟨rfl,rfl⟩|⟨f,xs,ys,rfl,rfl,_,hx,_⟩
 ·rfl
 ·rfl
 ·rw [hx.dg fun _ _ h=>VR.dg hj (fun r s x=>hd r s (.inl x)) h]
theorem CR.dg (hj:L.junk=junkOf) (hb:TriOk τ) (hd:Dg τ) {c:Col} {v w:Value} (h:CR L τ c v w):v=w:=by
 cases c with
 |any=>exact VR.dg hj (fun r s x=>hd r s (.inl x)) h
 |own=>exact VR.dg hj (fun r s x=>hd r s (.inl (hb.own r s x))) h
 |box=>exact VR.dg hj (fun r s x=>hd r s (.inr (.inl x))) h
 |yld=>
  rcases h with ⟨rfl,rfl⟩|⟨l,m,rfl,rfl,h⟩
  ·rfl
  ·rw [hd _ _ (.inr (.inr h))]
 |itr=>exact FunV.dg hj hd h
 |loc=>exact FunV.dg hj hd h
theorem TR.dg (hj:L.junk=junkOf) (hb:TriOk τ) (hd:Dg τ) {f:FuncId} {xs ys:Array Value} (h:TR L τ f xs ys):xs=ys:=by
 apply Array.ext h.1.symm
 intro i h1 h2
 exact CR.dg hj hb hd (h.2 i _ _ (Array.getElem?_eq_getElem h1) (Array.getElem?_eq_getElem h2))
theorem OR.dg (hj:L.junk=junkOf) (hd:Dg τ) {o q:Obj} (h:OR L τ o q):o=q:=by
 have va: ∀a b,VR L τ.all a b→a=b:=fun a b h=>VR.dg hj (fun r s x=>hd r s (.inl x)) h
 cases h with
 |cells e f h=>rw [h.dg va]
 |map c h=>rw [h.dg fun a b hab=>by cases a;cases b;obtain ⟨h1,h2,h3⟩:=hab;simp only at h1 h2 h3;rw [va _ _ h1,va _ _ h2,h3]]
 |stringIter=>rfl
 |mapIter a b c h=>rw [h.dg fun r s x=>hd r s (.inl x)]
 |number l h=>rw [h.dg fun r s x=>hd r s (.inl x)]
theorem PR'.dg (hj:L.junk=junkOf) (hb:TriOk τ) (hd:Dg τ) {C:FuncId→Code→Prop} {o q:Obj} (h:PR' L C τ o q):o=q:=by
 cases h with
 |@loop k l h1 h2 h3 h4 h5 h6 h7 h8=>
  obtain ⟨a1,a2,a3,a4,a5,a6,a7,a8⟩:=k
  obtain ⟨b1,b2,b3,b4,b5,b6,b7,b8⟩:=l
  simp only at h1 h2 h3 h4 h5 h6 h7 h8
  have h4':=TR.dg hj hb hd h4
  have h8':=hd _ _ (.inr (.inr h8))
  subst h1 h2 h3 h4' h5 h6 h7 h8'
  rfl
 |deferred=>rfl
theorem KR.dg (hj:L.junk=junkOf) (hb:TriOk τ) (hd:Dg τ) {C:FuncId→Code→Prop} {r s:Nat} {o q:Obj} (h:KR L C τ r s o q) (hu:τ.un r s):o=q:=by
 rcases hu with hu|hu|hu
 ·exact OR.dg hj hd (h.all hu)
 ·obtain ⟨xs,ys,e,f,rfl,rfl,hx⟩:=h.box hu
  rw [hx.dg fun a b h=>VR.dg hj (fun r s x=>hd r s (.inl (hb.own r s x))) h]
 ·exact PR'.dg hj hb hd (h.lp hu)
theorem ItemR.dg (hd:Dg τ) {f:FuncId} {a b:Item} (h:ItemR P L T τ f a b):a=b:=by
 cases h with
 |inRangeFunc h=>rw [hd _ _ (.inr (.inr h))]
 |endRangeFunc h=>rw [hd _ _ (.inr (.inr h))]
 |_=>rfl
theorem MarkR.dg (hd:Dg τ) {a b:Deferred} (h:MarkR τ a b):a=b:=by
 cases h with
 |collected h=>rw [hd _ _ (.inr (.inr h))]
theorem FrR.dg (hj:L.junk=junkOf) (hb:TriOk τ) (hd:Dg τ) {fr gr:Frame} (h:FrR P L T τ fr gr):fr=gr:=by
 obtain ⟨a1,a2,a3,a4,a5,a6,a7⟩:=fr
 obtain ⟨b1,b2,b3,b4,b5,b6,b7⟩:=gr
 obtain ⟨h1,_,_,h3,h4,h5,h6,_,h8,h9⟩:=h
 simp only at h1 h3 h4 h5 h6 h8 h9
 have e3:=TR.dg hj hb hd h3
 have e4:=h4.dg fun _ _ h=>ItemR.dg hd h
 have e5:=h5.dg fun _ _ h=>MarkR.dg hd h
 have e9:=h9.dg fun r s x=>hd r s (.inr (.inr x))
 have e8:=h8.1.trans h8.2.symm
 subst h1 e3 e4 e5 h6 e9 e8
 rfl
theorem ChR.dg (hj:L.junk=junkOf) (hb:TriOk τ) (hd:Dg τ) {c:Col} {cs ds:List Frame} (h:ChR P L T τ c cs ds):cs=ds:=by
 induction h with
 |nil=>rfl
 |cons h _ _ ih=>rw [FrR.dg hj hb hd h,ih]
end
end Go.Proofs.YtldmcdeibiclkaaGreatDoor.U
end
section
namespace Go.Proofs.YtldmcdeibiclkaaGreatDoor.U
open Go.Conc
section
variable {P:Program} {L:Lim} {T:Tab} {τ:Tri}
structure Asked (P:Program) (L:Lim) (T:Tab):Prop where
 stat:Stat P P.funcs L T
 junk:L.junk=junkOf
 np: ¬ L.fn T.pool
structure OkI (P:Program) (L:Lim) (T:Tab) (τ:Tri) (fr:Frame) (cs:List Frame) (w:World):Prop where
 dg:Dg τ
 frame:FrR P L T τ fr fr
 callers:ChR P L T τ (retCol L fr) cs cs
 bot:BotOk fr cs
 fit:Fit τ
 flat:Flat T τ
 dom: ∀r s,τ.un r s→r< w.heap.size
 obj: ∀r s,τ.un r s→∃o q,w.heap[r]? =some o∧w.heap[s]? =some q∧KR L (CC P L T) τ r s o q
 def_:DefOk w
def OkS (P:Program) (L:Lim) (T:Tab) (fr:Frame) (cs:List Frame) (w:World):Prop:=∃τ,OkI P L T τ fr cs w
variable {fr:Frame} {cs B:List Frame} {w:World}
abbrev extS (τ:Tri) (w:World) (N:Nat) (k:Kd):Tri:=τ.ext w.heap.size w.heap.size (N - w.heap.size) k
theorem OkI.dom2 (h:OkI P L T τ fr cs w): ∀r s,τ.un r s→r< w.heap.size∧s< w.heap.size:=fun r s x=>⟨h.dom r s x,by rw [← h.dg r s x];exact h.dom r s x⟩
theorem OkI.dgx (h:OkI P L T τ fr cs w) (N:Nat) (k:Kd):Dg (extS τ w N k):=fun r s x=>by
 rcases Tri.ext_un.1 x with x|⟨i,_,rfl,rfl⟩
 ·exact h.dg r s x
 ·rfl
theorem OkI.fitx (h:OkI P L T τ fr cs w) (N:Nat) (k:Kd):Fit (extS τ w N k):=Tri.ext_fit h.fit h.dom2
theorem OkI.domx (h:OkI P L T τ fr cs w) {N:Nat} (hN:w.heap.size≤N) (k:Kd): ∀r s,(extS τ w N k).un r s→r< N:=fun r s x=>by
 rcases Tri.ext_un.1 x with x|⟨i,hi,rfl,rfl⟩
 ·exact Nat.lt_of_lt_of_le (h.dom r s x) hN
 ·omega
theorem OkI.sync (h:OkI P L T τ fr cs w) (t:Nat→Question→Nat) {N:Nat} (hN:w.heap.size≤N) (k:Kd):Sync L (CC P L T) (extS τ w N k) k N w {w with tape:=t}:=by
 refine ⟨fun r s hr hl=>?_,fun i hi=>Tri.ext_kd (by omega)⟩
 rcases Tri.ext_un.1 hr with hr|⟨i,hi,rfl,rfl⟩
 ·obtain ⟨o,q,h1,h2,h3⟩:=h.obj r s hr
  exact ⟨o,q,h1,h2,h3.mono' (Tri.le_ext ..) (h.fitx N k) hr⟩
 ·omega
theorem PR'.defOk {C:FuncId→Code→Prop} {d:Option (List Deferred)} {q:Obj} (h:PR' L C τ (.deferred d) q):d=none∨d=some []:=by
 cases h with
 |deferred h=>exact h
theorem KR.defOk {C:FuncId→Code→Prop} {r s:Nat} {d:Option (List Deferred)} {q:Obj} (h:KR L C τ r s (.deferred d) q) (hu:τ.un r s):d=none∨d=some []:=by
 rcases hu with hu|hu|hu
 ·have:=h.all hu
  cases this
 ·obtain ⟨xs,ys,e,f,e1,_⟩:=h.box hu
  cases e1
 ·exact (h.lp hu).defOk
theorem OkI.behind (h:OkI P L T τ fr cs w) {k:Kd} {v w1 v1:World} {es fs es1 fs1:Array Event} (hg:w.heap.size≤w1.heap.size) (hB:Both L (CC P L T) (extS τ w w1.heap.size k) k w1.heap.size w v w1 v1 es fs es1 fs1):DefOk w1:=by
 intro r d hd
 have hr:=(Array.getElem?_eq_some_iff.1 hd).1
 by_cases hu: ∃s,(extS τ w w1.heap.size k).un r s
 ·obtain ⟨s,hu⟩:=hu
  obtain ⟨o,q,h1,h2,h3⟩:=hB.sync.held r s hu hr
  rw [hd] at h1
  cases h1
  exact h3.defOk hu
 ·have hlt:r< w.heap.size:=Nat.lt_of_not_le fun hle=>hu ⟨r,Tri.ext_un.2 (.inr ⟨r - w.heap.size,by omega,by omega,by omega⟩)⟩
  have ha:=hB.away0 r hlt fun s hx=>hu ⟨s,by
   rcases hx with hx|hx|hx
   ·exact .inl ((h.fitx w1.heap.size k).own _ _ hx)
   ·exact .inr (.inl hx)
   ·exact .inr (.inr hx)⟩
  rw [ha] at hd
  exact h.def_ r d hd
theorem OkI.step (A:Asked P L T) (h:OkI P L T τ fr cs w) (hlast:fr.mode= .returning→fr.defers= []→cs≠[]) {m:Bool} {g1:Goroutine} {w1:World} {es:Array Event}
  (e:stepG P m {frame:=fr,callers:=cs++B,status:= .running,dying:=none} w= .go g1 w1 es) (hf:Fine g1):
  ∃fr1 cs1,g1= {frame:=fr1,callers:=cs1++B,status:= .running,dying:=none}∧OkS P L T fr1 cs1 w1∧w1.tape=w.tape∧w.drawn≤w1.drawn∧
   ∀t:Nat→Question→Nat,(∀i q,w.drawn≤i→i< w1.drawn→t i q=w.tape i q)→
    stepG P m {frame:=fr,callers:=cs++B,status:= .running,dying:=none} {w with tape:=t}= .go g1 {w1 with tape:=t} es:=by
 have sim: ∀(t:Nat→Question→Nat) N,w.heap.size≤N→w1.heap.size≤N→(∀j q,w.drawn+j< w1.drawn→t (w.drawn+j) q=w.tape (w.drawn+j) q)→_:=fun t N hN hN2 ht=>
  sim_step (P:=P) (G:=P.funcs) (B:=B) (D:=B) (A.stat.env (h.fitx N (kdOf L fr)) (Tri.ext_flat h.flat)) A.stat.let_ (Tri.ext_flat h.flat) (h.domx hN _) rfl (h.sync t hN _) m m (h.frame.mono (Tri.le_ext ..)) (h.callers.mono (Tri.le_ext ..)) h.bot
   hlast g1 w1 es e hf hN2 ht
 have hsz:w.heap.size≤w1.heap.size:=by
  obtain ⟨_,_,_,_,_,hB⟩:=sim w.tape (max w.heap.size w1.heap.size) (by omega) (by omega) (fun _ _ _=>rfl)
  exact hB.grow
 obtain ⟨h1,v1,fs,e2,hG,hB⟩:=sim w.tape w1.heap.size hsz (Nat.le_refl _) (fun _ _ _=>rfl)
 have e2':stepG P m {frame:=fr,callers:=cs++B,status:= .running,dying:=none} w= .go h1 v1 fs:=e2
 rw [e] at e2'
 cases e2'
 obtain ⟨cs1,ds1,c1,c2,c3,c4⟩:=hG.callers
 have hcs:cs1=ds1:=List.append_cancel_right (c1.symm.trans c2)
 subst hcs
 have run1: ∀{τ:Tri} {a b:Frame},TopR P P.funcs L T τ a b→FrR P L T τ a b:=fun h=>by
  cases h with
  |run h=>exact h
  |pool h=>exact absurd h A.np
 refine ⟨g1.frame,cs1,?_,⟨extS τ w w1.heap.size (kdOf L fr),h.dgx _ _,run1 hG.frame,c3,c4,h.fitx _ _,Tri.ext_flat h.flat,h.domx hsz _,fun r s hx=>hB.sync.held r s hx (h.domx hsz _ r s hx),h.behind hsz hB⟩,hB.tape0,hB.draw,fun t ht=>?_⟩
 ·obtain ⟨a1,a2,a3,a4,a5⟩:=g1
  have s1:=hG.status.1
  have s2:=hG.dying.1
  have s3:=hG.offers.1
  simp only at s1 s2 s3 c1
  subst s1 s2 s3 c1
  rfl
 ·obtain ⟨h2,v2,fs2,e3,hG2,hB2⟩:=sim t w1.heap.size hsz (Nat.le_refl _) (fun j q hj=>ht _ q (Nat.le_add_right _ _) hj)
  obtain ⟨cs2,ds2,d1,d2,d3,d4⟩:=hG2.callers
  have hbx:=(h.fitx w1.heap.size (kdOf L fr)).toTriOk
  have hdx:=h.dgx w1.heap.size (kdOf L fr)
  have hg:h2=g1:=by
   have k1:=FrR.dg A.junk hbx hdx (run1 hG2.frame)
   have k2:=ChR.dg A.junk hbx hdx d3
   have s1:=hG2.status
   have s2:=hG2.dying
   have s3:=hG2.offers
   clear hG2 hG hf e e2 hB hB2 sim
   obtain ⟨a1,a2,a3,a4,a5⟩:=g1
   obtain ⟨b1,b2,b3,b4,b5⟩:=h2
   simp only at s1 s2 s3 d1 d2 k1
   rw [d1,d2,k1,k2,s1.1,s1.2,s2.1,s2.2,s3.1,s3.2]
  have hw:v2= {w1 with tape:=t}:=by
   have z1:=hB2.size
   have z2:=hB2.drawn
   have z3:=hB2.tape
   have z4:=hB2.os
   have z5:=hB2.output
   have z6:=hB2.os0
   have z7:=hB2.output0
   have hheap:v2.heap=w1.heap:=by
    apply Array.ext_getElem?
    intro r
    by_cases hr:r< w1.heap.size
    ·by_cases hu: ∃s,(extS τ w w1.heap.size (kdOf L fr)).un r s
     ·obtain ⟨s,hu⟩:=hu
      obtain ⟨o,q,y1,y2,y3⟩:=hB2.sync.held r s hu hr
      have ers:=hdx r s hu
      subst ers
      rw [y1,y2,KR.dg A.junk hbx hdx y3 hu]
     ·have hlt:r< w.heap.size:=Nat.lt_of_not_le fun hle=>hu ⟨r,Tri.ext_un.2 (.inr ⟨r - w.heap.size,by omega,by omega,by omega⟩)⟩
      have un: ∀{r s},(extS τ w w1.heap.size (kdOf L fr)).mine r s→(extS τ w w1.heap.size (kdOf L fr)).un r s:=fun hx=>by
       rcases hx with hx|hx|hx
       ·exact .inl (hbx.own _ _ hx)
       ·exact .inr (.inl hx)
       ·exact .inr (.inr hx)
      have y:=hB2.away r hlt fun r' hx=>hu ⟨r,by have:=hdx _ _ (un hx);subst this;exact un hx⟩
      have y':=hB2.away0 r hlt fun s hx=>hu ⟨s,un hx⟩
      rw [y,y']
    ·have z1':v2.heap.size=w1.heap.size:=by simpa [Nat.add_comm] using z1
     rw [Array.getElem?_eq_none (by omega),Array.getElem?_eq_none (by omega)]
   have z2':v2.drawn=w1.drawn:=by simpa [Nat.add_comm] using z2
   obtain ⟨q1,q2,q3,q4,q5⟩:=v2
   obtain ⟨p1,p2,p3,p4,p5⟩:=w1
   simp only at hheap z2' z3 z4 z5 z6 z7 ⊢
   rw [hheap,z2',z3,z4,z5,← z6,← z7]
  have hes:fs2=es:=by
   obtain ⟨zs,y1,y2,y3⟩:=hB2.events
   rw [y1,y2]
   congr 1
   refine Array.map_congr_left fun z hz=>?_
   obtain ⟨z1,z2⟩:=z
   have un: ∀{r s},(extS τ w w1.heap.size (kdOf L fr)).mine r s→r=s:=fun hx=>hdx _ _ (by
    rcases hx with hx|hx|hx
    ·exact .inl (hbx.own _ _ hx)
    ·exact .inr (.inl hx)
    ·exact .inr (.inr hx))
   have hx:EvR (extS τ w w1.heap.size (kdOf L fr)) z1 z2:=y3 _ hz
   cases hx with
   |cell h=>rw [AR.dg hdx h]
   |write h=>rw [AR.dg (fun _ _ x=>un x) h]
   |obj h=>rw [hdx _ _ h]
   |set h=>rw [un h]
   |noRoom=>rfl
  rw [← hg,← hw,← hes]
  exact e3
end
end Go.Proofs.YtldmcdeibiclkaaGreatDoor.U
end
