/-
  Toward: treed_holds, each node's digest is that of its children's, for every argument of Treed. ADEQUACY: where the first of two related pieces runs to its end, the second does, in a related world; what each lists is related; blocks out of the relation stand.
-/
import Derived.Test.YtldmcdeibiclkaaGreatDoorC01
set_option linter.unusedVariables false
set_option linter.unusedSimpArgs false
set_option maxRecDepth 4000
section
namespace Go.Proofs.YtldmcdeibiclkaaGreatDoor.U
def Tri.mine (τ:Tri) (r s:Nat):Prop:=τ.own r s∨τ.box r s∨τ.lp r s
inductive EvR (τ:Tri):Event→Event→Prop
 |cell {a b:Addr}:AR τ.un a b→EvR τ ⟨.cell a,false,false⟩ ⟨.cell b,false,false⟩
 |write {a b:Addr}:AR τ.mine a b→EvR τ ⟨.cell a,true,false⟩ ⟨.cell b,true,false⟩
 |obj {r s:Nat}:τ.un r s→EvR τ ⟨.obj r,false,false⟩ ⟨.obj s,false,false⟩
 |set {r s:Nat}:τ.mine r s→EvR τ ⟨.obj r,true,false⟩ ⟨.obj s,true,false⟩
 |noRoom:EvR τ ⟨.mark .noRoom,false,true⟩ ⟨.mark .noRoom,false,true⟩
structure BiU (π:Nat→Nat→Prop):Prop where
 fn: ∀r s t,π r s→π r t→s=t
 inj: ∀r s t,π r t→π s t→r=s
structure Fit (τ:Tri):Prop extends TriOk τ,BiU τ.un
structure KR (L:Lim) (C:FuncId→Code→Prop) (τ:Tri) (r s:Nat) (o q:Obj):Prop where
 all:τ.all r s→OR L τ o q
 box:τ.box r s→∃xs ys e f,o= .cells xs e f∧q= .cells ys e f∧XR (VR L τ.own) xs ys
 lp:τ.lp r s→PR' L C τ o q
structure Sync (L:Lim) (C:FuncId→Code→Prop) (τ:Tri) (k₀:Kd) (N:Nat) (w v:World):Prop where
 held: ∀r s,τ.un r s→r< w.heap.size→∃o q,w.heap[r]? =some o∧v.heap[s]? =some q∧KR L C τ r s o q
 fut: ∀i,w.heap.size+i< N→τ.kd k₀ (w.heap.size+i) (v.heap.size+i)
structure Both (L:Lim) (C:FuncId→Code→Prop) (τ:Tri) (k₀:Kd) (N:Nat) (w v w1 v1:World) (es fs es1 fs1:Array Event):Prop where
 sync:Sync L C τ k₀ N w1 v1
 size:v1.heap.size+w.heap.size=v.heap.size+w1.heap.size
 grow:w.heap.size≤w1.heap.size
 drawn:v1.drawn+w.drawn=v.drawn+w1.drawn
 draw:w.drawn≤w1.drawn
 tape:v1.tape=v.tape
 os:v1.os=v.os
 output:v1.output=v.output
 tape0:w1.tape=w.tape
 os0:w1.os=w.os
 output0:w1.output=w.output
 away: ∀s,s< v.heap.size→(∀r,¬ τ.mine r s)→v1.heap[s]? =v.heap[s]?
 away0: ∀r,r< w.heap.size→(∀s,¬ τ.mine r s)→w1.heap[r]? =w.heap[r]?
 events: ∃zs:Array (Event×Event),es1=es++zs.map (·.1)∧fs1=fs++zs.map (·.2)∧∀z∈zs,EvR τ z.1 z.2
section
variable {P:Program} {G:Array Func} {L:Lim} {C:FuncId→Code→Prop} {τ:Tri} {k₀:Kd} {N:Nat}
theorem Fit.mine (hb:Fit τ) {r s:Nat} (h:τ.mine r s):τ.un r s:=h.imp (hb.own _ _) id
theorem Tri.un_box {r s:Nat} (h:τ.box r s):τ.un r s:= .inr (.inl h)
theorem Tri.un_lp {r s:Nat} (h:τ.lp r s):τ.un r s:= .inr (.inr h)
theorem Fit.biAll (hb:Fit τ):BiU τ.all:=⟨fun _ _ _ h k=>hb.fn _ _ _ (.inl h) (.inl k),fun _ _ _ h k=>hb.inj _ _ _ (.inl h) (.inl k)⟩
theorem Fit.kd (hb:Fit τ) {r s:Nat} (h:τ.kd k₀ r s):τ.un r s:=by
 cases k₀ with
 |own=>exact .inl (hb.own _ _ h)
 |box=>exact Tri.un_box h
 |lp=>exact Tri.un_lp h
theorem Sync.obj {w v:World} (h:Sync L C τ k₀ N w v): ∀r s,τ.all r s→r< w.heap.size→∃o q,w.heap[r]? =some o∧v.heap[s]? =some q∧OR L τ o q:=fun r s hr hl=>
 let ⟨o,q,h1,h2,h3⟩:=h.held r s (.inl hr) hl;⟨o,q,h1,h2,h3.all hr⟩
theorem Sync.boxes {w v:World} (h:Sync L C τ k₀ N w v): ∀r s,τ.box r s→r< w.heap.size→∃xs ys e f,w.heap[r]? =some (.cells xs e f)∧v.heap[s]? =some (.cells ys e f)∧XR (VR L τ.own) xs ys:=fun r s hr hl=>by
 obtain ⟨o,q,h1,h2,h3⟩:=h.held r s (.inr (.inl hr)) hl
 obtain ⟨xs,ys,e,f,rfl,rfl,hx⟩:=h3.box hr
 exact ⟨xs,ys,e,f,h1,h2,hx⟩
theorem Sync.loops {w v:World} (h:Sync L C τ k₀ N w v): ∀r s,τ.lp r s→r< w.heap.size→∃o q,w.heap[r]? =some o∧v.heap[s]? =some q∧PR' L C τ o q:=fun r s hr hl=>
 let ⟨o,q,h1,h2,h3⟩:=h.held r s (.inr (.inr hr)) hl;⟨o,q,h1,h2,h3.lp hr⟩
theorem KR.ofAll (hb:Fit τ) {r s:Nat} (hr:τ.all r s) {o q:Obj} (h:OR L τ o q):KR L C τ r s o q:=
 ⟨fun _=>h,fun h2=>(hb.two _ _ _ hr h2).elim,fun h2=>(hb.two' _ _ _ hr h2).elim⟩
theorem KR.ofBox (hb:Fit τ) {r s:Nat} (hr:τ.box r s) {xs ys:Array Value} {e:TypeId} {f:Nat×Nat} (h:XR (VR L τ.own) xs ys):KR L C τ r s (.cells xs e f) (.cells ys e f):=
 ⟨fun h2=>(hb.two _ _ _ h2 hr).elim,fun _=>⟨xs,ys,e,f,rfl,rfl,h⟩,fun h2=>(hb.two'' _ _ _ hr h2).elim⟩
theorem KR.ofLp (hb:Fit τ) {r s:Nat} (hr:τ.lp r s) {o q:Obj} (h:PR' L C τ o q):KR L C τ r s o q:=
 ⟨fun h2=>(hb.two' _ _ _ h2 hr).elim,fun h2=>(hb.two'' _ _ _ h2 hr).elim,fun _=>h⟩
theorem Sync.lt {w v:World} (h:Sync L C τ k₀ N w v) {r s:Nat} (hr:τ.un r s) (hl:r< w.heap.size):s< v.heap.size:=by
 obtain ⟨o,q,_,h2,_⟩:=h.held r s hr hl
 exact (Array.getElem?_eq_some_iff.1 h2).1
theorem Sync.later {w v:World} (h:Sync L C τ k₀ N w v) (hb:Fit τ) {r s:Nat} (hr:τ.un r s) (hl: ¬ r< w.heap.size) (hN:r< N):v.heap.size≤s:=by
 obtain ⟨i,rfl⟩: ∃i,r=w.heap.size+i:=⟨r - w.heap.size,by omega⟩
 obtain rfl:=hb.fn _ _ _ (hb.kd (h.fut i hN)) hr
 omega
theorem Both.refl {w v:World} {es fs:Array Event} (h:Sync L C τ k₀ N w v):Both L C τ k₀ N w v w v es fs es fs:=
 ⟨h,rfl,Nat.le_refl _,rfl,Nat.le_refl _,rfl,rfl,rfl,rfl,rfl,rfl,fun _ _ _=>rfl,fun _ _ _=>rfl,#[],by simp,by simp,by simp⟩
theorem Both.ev {w v:World} {es fs:Array Event} {e f:Event} (h:Sync L C τ k₀ N w v) (he:EvR τ e f):Both L C τ k₀ N w v w v es fs (es.push e) (fs.push f):=
 ⟨h,rfl,Nat.le_refl _,rfl,Nat.le_refl _,rfl,rfl,rfl,rfl,rfl,rfl,fun _ _ _=>rfl,fun _ _ _=>rfl,#[(e,f)],by simp,by simp,by simpa using he⟩
theorem Both.trans {w v w1 v1 w2 v2:World} {es fs es1 fs1 es2 fs2:Array Event} (h:Both L C τ k₀ N w v w1 v1 es fs es1 fs1) (k:Both L C τ k₀ N w1 v1 w2 v2 es1 fs1 es2 fs2):
  Both L C τ k₀ N w v w2 v2 es fs es2 fs2:=by
 have h1:=h.size;have h2:=k.size;have h3:=h.drawn;have h4:=k.drawn;have h5:=h.grow;have h6:=h.draw;have h7:=k.grow;have h8:=k.draw
 refine ⟨k.sync,by omega,by omega,by omega,by omega,k.tape.trans h.tape,k.os.trans h.os,k.output.trans h.output,k.tape0.trans h.tape0,k.os0.trans h.os0,k.output0.trans h.output0,fun s hl ha=>?_,fun r hl ha=>?_,?_⟩
 ·rw [k.away s (by omega) ha,h.away s hl ha]
 ·rw [k.away0 r (by omega) ha,h.away0 r hl ha]
 ·obtain ⟨zs,e1,e2,e3⟩:=h.events
  obtain ⟨ys,f1,f2,f3⟩:=k.events
  exact ⟨zs++ys,by rw [f1,e1];simp,by rw [f2,e2];simp,fun z hz=>(Array.mem_append.1 hz).elim (e3 z) (f3 z)⟩
theorem Both.front {w v w1 v1:World} {es fs:Array Event} (h:Both L C τ k₀ N w v w1 v1 #[] #[] es fs) (es0 fs0:Array Event):Both L C τ k₀ N w v w1 v1 es0 fs0 (es0++es) (fs0++fs):=by
 obtain ⟨a1,a2,a3,a4,a5,a6,a7,a8,a9,a10,a11,a12,a13,zs,z1,z2,z3⟩:=h
 exact ⟨a1,a2,a3,a4,a5,a6,a7,a8,a9,a10,a11,a12,a13,zs,by rw [z1];simp,by rw [z2];simp,z3⟩
theorem cell_of_none {w:World} {a:Addr} {c:Array Value} {e:TypeId} {f:Nat×Nat} (h:w.heap[a.block]? =some (.cells c e f)):w.cell? a=if a.spot.isSome then none else c[a.off]? :=by
 unfold World.cell?
 rw [h]
theorem cell?_of {w:World} {a:Addr} {v:Value} (h:w.cell? a=some v):a.spot=none∧∃c e f,w.heap[a.block]? =some (.cells c e f)∧c[a.off]? =some v:=by
 unfold World.cell? at h
 split at h
 ·rename_i c e f he
  split at h
  ·cases h
  ·rename_i hs
   refine ⟨by cases hsp:a.spot<;> simp_all,c,e,f,he,h⟩
 ·cases h
theorem Sync.cell {w v:World} (h:Sync L C τ k₀ N w v) {a b:Addr} (hab:AR τ.all a b) {x:Value} (hx:w.cell? a=some x): ∃y,v.cell? b=some y∧VR L τ.all x y:=by
 obtain ⟨hs,c,e,f,he,hc⟩:=cell?_of hx
 obtain ⟨o,q,h1,h2,h3⟩:=h.obj _ _ hab.1 (Array.getElem?_eq_some_iff.1 he).1
 rw [he] at h1;cases h1
 cases h3 with
 |cells e f hxr=>
  rcases hxr.get? a.off with ⟨h4,_⟩|⟨x',y',h4,h5,h6⟩
  ·rw [h4] at hc;cases hc
  ·rw [h4] at hc;cases hc
   refine ⟨y',?_,h6⟩
   rw [cell_of_none h2,hab.2.2,hs,hab.2.1]
   simpa using h5
theorem Sync.cellX {w v:World} (h:Sync L C τ k₀ N w v) {a b:Addr} (hab:AR τ.box a b) {x:Value} (hx:w.cell? a=some x): ∃y,v.cell? b=some y∧VR L τ.own x y:=by
 obtain ⟨hs,c,e,f,he,hc⟩:=cell?_of hx
 obtain ⟨xs,ys,e0,f0,h1,h2,h3⟩:=h.boxes _ _ hab.1 (Array.getElem?_eq_some_iff.1 he).1
 rw [he] at h1;cases h1
 rcases h3.get? a.off with ⟨h4,_⟩|⟨x',y',h4,h5,h6⟩
 ·rw [h4] at hc;cases hc
 ·rw [h4] at hc;cases hc
  refine ⟨y',?_,h6⟩
  rw [cell_of_none h2,hab.2.2,hs,hab.2.1]
  simpa using h5
def Known (L:Lim) (τ:Tri) (o:Obj):Prop:=(∃q,OR L τ o q)∨∃xs e f,o= .cells xs e f
theorem Sync.known {w v:World} (h:Sync L C τ k₀ N w v) {r s:Nat} (hr:τ.all r s∨τ.box r s): ∀o,w.heap[r]? =some o→Known L τ o:=fun o ho=>by
 rcases hr with hr|hr
 ·obtain ⟨o',q,h1,_,h3⟩:=h.obj r s hr (Array.getElem?_eq_some_iff.1 ho).1
  rw [ho] at h1;cases h1
  exact .inl ⟨q,h3⟩
 ·obtain ⟨xs,ys,e,f,h1,_,_⟩:=h.boxes r s hr (Array.getElem?_eq_some_iff.1 ho).1
  rw [ho] at h1;cases h1
  exact .inr ⟨_,_,_,rfl⟩
theorem noCell_of {w:World} {a:Addr} (ho: ∀o,w.heap[a.block]? =some o→Known L τ o) (b:Bool): ∃h,w.farLoad P a b= .error h:=by
 unfold World.farLoad
 split
 ·rename_i he
  rcases ho _ he with ⟨q,hq⟩|⟨_,_,_,hq⟩<;> cases hq
 ·exact ⟨_,rfl⟩
theorem noCell_store {w:World} {a:Addr} {x:Value} (ho: ∀o,w.heap[a.block]? =some o→Known L τ o) (b:Bool): ∃h,w.farStore P a x b= .error h:=by
 unfold World.farStore
 split
 ·rename_i he
  rcases ho _ he with ⟨q,hq⟩|⟨_,_,_,hq⟩<;> cases hq
 ·exact ⟨_,rfl⟩
theorem Sync.shape {w v:World} (h:Sync L C τ k₀ N w v) {r s:Nat} (hr:τ.all r s) (hl:r< w.heap.size):v.shape? s=w.shape? r:=by
 obtain ⟨o,q,h1,h2,h3⟩:=h.obj r s hr hl
 unfold World.shape?
 rw [h1,h2]
 cases h3<;> simp
 rename_i hx
 exact hx.size
theorem Sync.frozen {w v:World} (h:Sync L C τ k₀ N w v) {a b:Addr} (hab:AR τ.all a b∨AR τ.box a b) (hl:a.block< w.heap.size):v.frozen? b=w.frozen? a:=by
 rcases hab with hab|hab
 ·obtain ⟨o,q,h1,h2,h3⟩:=h.obj _ _ hab.1 hl
  unfold World.frozen?
  rw [h1,h2]
  cases h3<;> simp [hab.2.1]
 ·obtain ⟨xs,ys,e,f,h1,h2,h3⟩:=h.boxes _ _ hab.1 hl
  unfold World.frozen?
  rw [h1,h2]
  simp [hab.2.1]
theorem Sync.turn {w v:World} (h:Sync L C τ k₀ N w v) (hb:Fit τ) {r s:Nat} (hr:τ.un r s) {f g:Obj→Obj} (hfg: ∀o q,KR L C τ r s o q→KR L C τ r s (f o) (g q)):
  Sync L C τ k₀ N {w with heap:=w.heap.modify r f} {v with heap:=v.heap.modify s g}:=by
 refine ⟨fun r' s' hr' hl=>?_,fun i hi=>?_⟩
 ·simp only [Array.size_modify] at hl
  obtain ⟨o,q,h1,h2,h3⟩:=h.held r' s' hr' hl
  by_cases e:r=r'
  ·subst e
   obtain rfl:=hb.fn _ _ _ hr hr'
   exact ⟨f o,g q,by simp [Array.getElem?_modify,h1],by simp [Array.getElem?_modify,h2],hfg _ _ h3⟩
  ·have e':s≠s':=fun x=>e (hb.inj _ _ _ hr (x ▸ hr'))
   exact ⟨o,q,by simp [Array.getElem?_modify,h1,e],by simp [Array.getElem?_modify,h2,e'],h3⟩
 ·simp only [Array.size_modify] at hi ⊢
  exact h.fut i hi
theorem Sync.boxed (hb:Fit τ) {w v:World} (h:Sync L C τ k₀ N w v) {a b:Addr} (hab:AR τ.box a b) (hsp:a.spot=none) {x y:Value} (hxy:VR L τ.own x y):Sync L C τ k₀ N (w.setCell a x) (v.setCell b y):=by
 have hbsp:b.spot=none:=hab.2.2.trans hsp
 refine h.turn hb (Tri.un_box hab.1) fun o q ho=>?_
 obtain ⟨xs,ys,e,f,rfl,rfl,hx⟩:=ho.box hab.1
 simp only [hsp,hbsp,hab.2.1]
 exact KR.ofBox hb hab.1 (hx.set hxy _)
theorem away_modify {v:World} {s t:Nat} {r:Nat} {g:Obj→Obj} (hr:τ.mine r s) (ha: ∀r,¬ τ.mine r t):(v.heap.modify s g)[t]? =v.heap[t]? :=by
 rw [Array.getElem?_modify]
 split
 ·rename_i e;subst e;exact absurd hr (ha r)
 ·rfl
theorem away_modify0 {w:World} {s t:Nat} {r:Nat} {g:Obj→Obj} (hr:τ.mine r s) (ha: ∀s,¬ τ.mine t s):(w.heap.modify r g)[t]? =w.heap[t]? :=by
 rw [Array.getElem?_modify]
 split
 ·rename_i e;subst e;exact absurd hr (ha s)
 ·rfl
theorem set_eq_modify (h:Array Obj) (r:Nat) (o:Obj):h.setIfInBounds r o=h.modify r fun _=>o:=by
 apply Array.ext_getElem?
 intro i
 rw [Array.getElem?_setIfInBounds,Array.getElem?_modify]
 split
 ·rename_i e
  subst e
  split
  ·simp [*]
  ·rename_i hl
   simp [Nat.le_of_not_lt hl]
 ·rfl
theorem viewStore_size {p:Program} {w w1:World} {a k:Addr} {u:TypeId} {x:Value} {b:Bool} {l:List Addr} (h:w.viewStore p a u k x b= .ok (w1,l)):w1.heap.size=w.heap.size∧w1.drawn=w.drawn:=by
 unfold World.viewStore at h
 simp only [bind,Except.bind,pure,Except.pure] at h
 repeat' split at h
 all_goals first
  |(cases h;done)
  |(simp only [Except.ok.injEq,Prod.mk.injEq] at h;obtain ⟨rfl,_⟩:=h;simp)
theorem ask_size {α:Type}: ∀(k:Ask α) (w:World),(w.ask k).2.heap=w.heap∧w.drawn≤(w.ask k).2.drawn
 | .done a,w=>⟨rfl,Nat.le_refl _⟩
 | .ask what range k,w=>by
  unfold World.ask
  dsimp only
  split
  ·exact ask_size (k 0) w
  ·obtain ⟨h1,h2⟩:=ask_size (k ((Question.extern what range).cut (w.tape w.drawn (Question.extern what range)))) {w with drawn:=w.drawn+1}
   exact ⟨h1,Nat.le_trans (Nat.le_succ _) h2⟩
theorem sys_size (w:World) (c:Sys):(w.sys c).2.heap=w.heap∧w.drawn≤(w.sys c).2.drawn:=by
 have h:=ask_size (Kernel.perform c w.os) w
 unfold World.sys
 split
 ·exact ⟨rfl,Nat.le_refl _⟩
 ·rename_i r os w' _ he
  rw [he] at h
  exact h
theorem Mild.sys {P:Program} (c:Sys):Mild P (Go.sys c):=fun w es=> .inl ⟨_,(w.sys c).2,_,rfl,fun r d h=>by rw [(sys_size w c).1] at h;exact h⟩
theorem _root_.Go.Sem.runT_growsU {α:Type} (P:Program): ∀(p:Sem α) (w:World) (es:Array Event) {a:α} {w1:World} {es1:Array Event},p.runT P w es=(.ok a w1,es1)→w.heap.size≤w1.heap.size∧w.drawn≤w1.drawn:=by
 intro p
 induction p with
 |pure a=>
  intro w es a w1 es1 hr
  simp only [Sem.runT,Prod.mk.injEq,Result.ok.injEq] at hr
  obtain ⟨⟨rfl,rfl⟩,rfl⟩:=hr
  exact ⟨Nat.le_refl _,Nat.le_refl _⟩
 |load m a k ih=>
  intro w es x w1 es1 hr
  rw [Sem.runT] at hr
  split at hr
  ·exact ih _ _ _ hr
  ·split at hr
   ·exact ih _ _ _ hr
   ·cases hr
 |store m a x k ih=>
  intro w es y w1 es1 hr
  by_cases h1: ∃c,x= .agg c
  ·obtain ⟨c,rfl⟩:=h1;simp [Sem.runT] at hr
  by_cases h2: ∃c,x= .tuple c
  ·obtain ⟨c,rfl⟩:=h2;simp [Sem.runT] at hr
  rw [Sem.runT.eq_5 _ _ _ _ _ _ _ (fun c e=>h1 ⟨c,e⟩) (fun c e=>h2 ⟨c,e⟩)] at hr
  split at hr
  ·split at hr
   ·cases hr
   ·have:=ih _ _ hr
    simpa [World.setCell] using this
  ·split at hr
   ·rename_i w' l he
    unfold World.farStore at he
    split at he
    ·split at he
     ·rename_i r hh
      cases he
      have h3:=viewStore_size hh
      have:=ih _ _ hr
      rw [h3.1,h3.2] at this
      exact this
     ·cases he
    ·cases he
   ·cases hr
 |new o k ih=>
  intro w es x w1 es1 hr
  have:=ih _ _ _ hr
  simp at this
  exact ⟨by omega,this.2⟩
 |shape r k ih=>intro w es x w1 es1 hr;exact ih _ _ _ hr
 |freeze a n k ih=>
  intro w es x w1 es1 hr
  have:=ih _ _ hr
  have h2:(w.freeze a n).heap.size=w.heap.size∧(w.freeze a n).drawn=w.drawn:=by unfold World.freeze;split<;> simp
  rw [h2.1,h2.2] at this
  exact this
 |frozen a k ih=>intro w es x w1 es1 hr;exact ih _ _ _ hr
 |getObj r k ih=>
  intro w es x w1 es1 hr
  rw [Sem.runT] at hr
  split at hr
  ·cases hr
  ·exact ih _ _ _ hr
  ·cases hr
 |setObj r o k ih=>
  intro w es x w1 es1 hr
  rw [Sem.runT] at hr
  split at hr
  ·cases hr
  ·have:=ih _ _ hr
   simpa using this
  ·cases hr
 |choose q k ih=>
  intro w es x w1 es1 hr
  rw [Sem.runT] at hr
  split at hr
  ·exact ih _ _ _ hr
  ·have:=ih _ _ _ hr
   exact ⟨this.1,Nat.le_trans (Nat.le_succ _) this.2⟩
 |sys c k ih=>
  intro w es x w1 es1 hr
  have:=ih _ _ _ hr
  have h2:=sys_size w c
  rw [h2.1] at this
  exact ⟨this.1,Nat.le_trans h2.2 this.2⟩
 |program k ih=>intro w es x w1 es1 hr;exact ih _ _ _ hr
 |mark m k ih=>intro w es x w1 es1 hr;exact ih _ _ hr
 |halt h=>intro w es x w1 es1 hr;simp [Sem.runT] at hr
theorem Sync.push (hb:Fit τ) {w v:World} (hs:Sync L C τ k₀ N w v) (hsz:w.heap.size< N) {o q:Obj} (ho:KR L C τ w.heap.size v.heap.size o q):Sync L C τ k₀ N {w with heap:=w.heap.push o} {v with heap:=v.heap.push q}:=by
 have hp:τ.kd k₀ w.heap.size v.heap.size:=by simpa using hs.fut 0 (by simpa using hsz)
 refine ⟨fun r' s' hr' hl=>?_,fun i hi=>?_⟩
 ·simp only [Array.size_push] at hl
  by_cases e:r'=w.heap.size
  ·subst e
   obtain rfl:=hb.fn _ _ _ (hb.kd hp) hr'
   exact ⟨o,q,by simp,by simp,ho⟩
  ·obtain ⟨o',q',h1,h2,h3⟩:=hs.held r' s' hr' (by omega)
   have l1:=(Array.getElem?_eq_some_iff.1 h1).1
   have l2:=(Array.getElem?_eq_some_iff.1 h2).1
   exact ⟨o',q',by simp [Array.getElem?_push,h1];omega,by simp [Array.getElem?_push,h2];omega,h3⟩
 ·simp only [Array.size_push] at hi ⊢
  have:=hs.fut (i+1) (by omega)
  rw [show w.heap.size+1+i=w.heap.size+(i+1) by omega,show v.heap.size+1+i=v.heap.size+(i+1) by omega]
  exact this
theorem Sync.next {w v:World} (hs:Sync L C τ k₀ N w v) (hsz:w.heap.size< N):τ.kd k₀ w.heap.size v.heap.size:=by simpa using hs.fut 0 (by simpa using hsz)
theorem Sync.stored (hb:Fit τ) {w v:World} (hs:Sync L C τ k₀ N w v) {a b:Addr} (hab:AR τ.own a b) (hsp:a.spot=none) {x y:Value} (hxy:VR L τ.all x y):Sync L C τ k₀ N (w.setCell a x) (v.setCell b y):=by
 have hbsp:b.spot=none:=hab.2.2.trans hsp
 have hra:=hb.own _ _ hab.1
 refine hs.turn hb (.inl hra) fun o q ho=>KR.ofAll hb hra ?_
 cases ho.all hra with
 |cells e f hx=>
  refine .cells e f ?_
  rw [hsp,hbsp,hab.2.1]
  exact hx.set hxy _
 |map c h=>exact .map c h
 |stringIter s p=>exact .stringIter s p
 |mapIter a b c h=>exact .mapIter a b c h
 |number l h=>exact .number l h
theorem Sync.froze (hb:Fit τ) {w v:World} (hs:Sync L C τ k₀ N w v) {a b:Addr} (hab:AR τ.own a b) (n:Nat):Sync L C τ k₀ N (w.freeze a n) (v.freeze b n):=by
 have hra:=hb.own _ _ hab.1
 unfold World.freeze
 split
 ·exact hs
 ·refine hs.turn hb (.inl hra) fun o q ho=>KR.ofAll hb hra ?_
  cases ho.all hra with
  |cells e f hx=>obtain ⟨lo,hi⟩:=f;simp only [hab.2.1];exact .cells e _ hx
  |map c h=>exact .map c h
  |stringIter s p=>exact .stringIter s p
  |mapIter a b c h=>exact .mapIter a b c h
  |number l h=>exact .number l h
theorem SemR.adequate (hb:Fit τ) {α β:Type} {R:α→β→Prop} {p:Sem α} {q:Sem β} (h:SemR P G L C τ k₀ R p q):
  ∀(w v:World) (es fs:Array Event) (a:α) (w1:World) (es1:Array Event),Sync L C τ k₀ N w v→p.runT (gp P G) w es=(.ok a w1,es1)→w1.heap.size≤N→
   (∀j q,w.drawn+j< w1.drawn→v.tape (v.drawn+j) q=w.tape (w.drawn+j) q)→(∀r s,τ.un r s→r< N)→
   ∃b v1 fs1,q.runT P v fs=(.ok b v1,fs1)∧R a b∧Both L C τ k₀ N w v w1 v1 es fs es1 fs1:=by
 have stores: ∀{a b:Addr} {x y:Value},(AR τ.own a b∧VR L τ.all x y∨AR τ.box a b∧VR L τ.own x y)→∀{k:Sem α} {l:Sem β},
   (∀(w v:World) (es fs:Array Event) (a:α) (w1:World) (es1:Array Event),Sync L C τ k₀ N w v→k.runT (gp P G) w es=(.ok a w1,es1)→w1.heap.size≤N→
    (∀j q,w.drawn+j< w1.drawn→v.tape (v.drawn+j) q=w.tape (w.drawn+j) q)→(∀r s,τ.un r s→r< N)→∃b v1 fs1,l.runT P v fs=(.ok b v1,fs1)∧R a b∧Both L C τ k₀ N w v w1 v1 es fs es1 fs1)→
   ∀(w v:World) (es fs:Array Event) (r:α) (w1:World) (es1:Array Event),Sync L C τ k₀ N w v→(Sem.store .plain a x k).runT (gp P G) w es=(.ok r w1,es1)→w1.heap.size≤N→
    (∀j q,w.drawn+j< w1.drawn→v.tape (v.drawn+j) q=w.tape (w.drawn+j) q)→(∀r s,τ.un r s→r< N)→∃b' v1 fs1,(Sem.store .plain b y l).runT P v fs=(.ok b' v1,fs1)∧R r b'∧Both L C τ k₀ N w v w1 v1 es fs es1 fs1:=by
  intro a b x y hor k l ih w v es fs r w1 es1 hs hr hN ht hd
  have hab:AR τ.all a b∨AR τ.box a b:=hor.imp (fun h=>h.1.mono hb.own) (fun h=>h.1)
  have hxy:VR L τ.all x y:=hor.elim (fun h=>h.2) (fun h=>h.2.mono hb.own)
  have hnt:(∀c,x≠.agg c)∧∀c,x≠.tuple c:=by
   constructor
   ·rintro c rfl;simp [Sem.runT] at hr
   ·rintro c rfl;simp [Sem.runT] at hr
  have hnt':(∀c,y≠.agg c)∧∀c,y≠.tuple c:=by
   cases hxy<;> first|exact absurd rfl (hnt.2 _)|exact absurd rfl (hnt.1 _)|exact ⟨by assumption,by assumption⟩|exact ⟨by simp,by simp⟩
  rw [Sem.runT.eq_5 _ _ _ _ _ _ _ hnt.1 hnt.2] at hr
  cases hc:w.cell? a with
  |none=>
   obtain ⟨hh,he⟩:=noCell_store (P:=gp P G) (L:=L) (τ:=τ) (x:=x) (hs.known (hab.imp (·.1) (·.1))) (Mode.plain== .atomic)
   rw [hc] at hr
   simp only [he] at hr
   cases hr
  |some y0=>
   rw [hc] at hr
   obtain ⟨hsp,cc,ee,ff,hblk,hcc⟩:=cell?_of hc
   have hal:a.block< w.heap.size:=(Array.getElem?_eq_some_iff.1 hblk).1
   by_cases hfz:w.frozen? a=true
   ·simp only [hfz,if_true] at hr;cases hr
   simp only [hfz,Bool.false_eq_true,if_false] at hr
   obtain ⟨z,hz⟩: ∃z,v.cell? b=some z:=hab.elim (fun h=>let ⟨z,hz,_⟩:=hs.cell h hc;⟨z,hz⟩) (fun h=>let ⟨z,hz,_⟩:=hs.cellX h hc;⟨z,hz⟩)
   have hs1:Sync L C τ k₀ N (w.setCell a x) (v.setCell b y):=hor.elim (fun h=>hs.stored hb h.1 hsp h.2) (fun h=>hs.boxed hb h.1 hsp h.2)
   obtain ⟨b',v1,fs1,e1,e2,e3⟩:=ih (w.setCell a x) (v.setCell b y) (es.push ⟨.cell a,true,false⟩) (fs.push ⟨.cell b,true,false⟩) r w1 es1 hs1 hr hN ht hd
   refine ⟨b',v1,fs1,?_,e2,?_⟩
   ·rw [Sem.runT.eq_5 _ _ _ _ _ _ _ hnt'.1 hnt'.2,hz]
    simp only [hs.frozen hab hal,hfz,Bool.false_eq_true,if_false]
    exact e1
   ·refine Both.trans ?_ e3
    exact ⟨hs1,by simp [World.setCell],by simp [World.setCell],by simp [World.setCell],by simp [World.setCell],rfl,rfl,rfl,rfl,rfl,rfl,fun s hl ha=>away_modify (hor.elim (fun h=> .inl h.1.1) (fun h=> .inr (.inl h.1.1))) ha,fun t hl ha=>away_modify0 (hor.elim (fun h=> .inl h.1.1) (fun h=> .inr (.inl h.1.1))) ha,⟨#[(⟨.cell a,true,false⟩,⟨.cell b,true,false⟩)],by simp,by simp,by simp;exact .write (hor.elim (fun h=>⟨.inl h.1.1,h.1.2⟩) (fun h=>⟨.inr (.inl h.1.1),h.1.2⟩))⟩⟩
 induction h with
 |pure hR=>
  intro w v es fs a w1 es1 hs hr _ _ _
  simp only [Sem.runT,Prod.mk.injEq,Result.ok.injEq] at hr
  obtain ⟨⟨rfl,rfl⟩,rfl⟩:=hr
  exact ⟨_,v,fs,rfl,hR,.refl hs⟩
 |@load a b k l hab _ ih=>
  intro w v es fs x w1 es1 hs hr hN ht hd
  rw [Sem.runT] at hr
  cases hc:w.cell? a with
  |none=>
   obtain ⟨hh,he⟩:=noCell_of (P:=gp P G) (L:=L) (τ:=τ) (hs.known (.inl hab.1)) (Mode.plain== .atomic)
   rw [hc] at hr
   simp only [he] at hr
   cases hr
  |some y=>
   rw [hc] at hr
   obtain ⟨z,hz,hyz⟩:=hs.cell hab hc
   obtain ⟨b',v1,fs1,e1,e2,e3⟩:=ih y z hyz w v (es.push ⟨.cell a,false,false⟩) (fs.push ⟨.cell b,false,false⟩) x w1 es1 hs hr hN ht hd
   refine ⟨b',v1,fs1,?_,e2,?_⟩
   ·rw [Sem.runT,hz];exact e1
   ·refine Both.trans ?_ e3
    exact Both.ev hs (.cell ⟨.inl hab.1,hab.2⟩)
 |@loadX a b k l hab _ ih=>
  intro w v es fs x w1 es1 hs hr hN ht hd
  rw [Sem.runT] at hr
  cases hc:w.cell? a with
  |none=>
   obtain ⟨hh,he⟩:=noCell_of (P:=gp P G) (L:=L) (τ:=τ) (hs.known (.inr hab.1)) (Mode.plain== .atomic)
   rw [hc] at hr
   simp only [he] at hr
   cases hr
  |some y=>
   rw [hc] at hr
   obtain ⟨z,hz,hyz⟩:=hs.cellX hab hc
   obtain ⟨b',v1,fs1,e1,e2,e3⟩:=ih y z hyz w v (es.push ⟨.cell a,false,false⟩) (fs.push ⟨.cell b,false,false⟩) x w1 es1 hs hr hN ht hd
   refine ⟨b',v1,fs1,?_,e2,?_⟩
   ·rw [Sem.runT,hz];exact e1
   ·refine Both.trans ?_ e3
    exact Both.ev hs (.cell ⟨.inr (.inl hab.1),hab.2⟩)
 |@store a b x y k l hab hxy _ ih=>exact stores (.inl ⟨hab,hxy⟩) ih
 |@storeX a b x y k l hab hxy _ ih=>exact stores (.inr ⟨hab,hxy⟩) ih
 |@new o q k l hk ho _ ih=>
  intro w v es fs x w1 es1 hs hr hN ht hd
  rw [Sem.runT] at hr
  have hsz:w.heap.size< N:=by
   refine Nat.lt_of_lt_of_le ?_ hN
   have:=(Sem.runT_growsU (gp P G) _ _ _ hr).1
   simp only [Array.size_push] at this
   omega
  have hp:τ.own w.heap.size v.heap.size:=by have:=hs.next hsz;rw [hk] at this;exact this
  have hs1:=hs.push hb hsz (KR.ofAll hb (hb.own _ _ hp) ho)
  obtain ⟨b',v1,fs1,e1,e2,e3⟩:=ih w.heap.size v.heap.size hp _ _ es fs x w1 es1 hs1 hr hN ht hd
  refine ⟨b',v1,fs1,by rw [Sem.runT];exact e1,e2,Both.trans ?_ e3⟩
  refine ⟨hs1,by simp;omega,by simp,rfl,Nat.le_refl _,rfl,rfl,rfl,rfl,rfl,rfl,fun s hl ha=>by simp [Array.getElem?_push];omega,fun s hl ha=>by simp [Array.getElem?_push];omega,#[],by simp,by simp,by simp⟩
 |@newX xs ys e f k l hk ho _ ih=>
  intro w v es fs x w1 es1 hs hr hN ht hd
  rw [Sem.runT] at hr
  have hsz:w.heap.size< N:=by
   refine Nat.lt_of_lt_of_le ?_ hN
   have:=(Sem.runT_growsU (gp P G) _ _ _ hr).1
   simp only [Array.size_push] at this
   omega
  have hp:τ.box w.heap.size v.heap.size:=by have:=hs.next hsz;rw [hk] at this;exact this
  have hs1:=hs.push hb hsz (KR.ofBox (e:=e) (f:=f) hb hp ho)
  obtain ⟨b',v1,fs1,e1,e2,e3⟩:=ih w.heap.size v.heap.size hp _ _ es fs x w1 es1 hs1 hr hN ht hd
  refine ⟨b',v1,fs1,by rw [Sem.runT];exact e1,e2,Both.trans ?_ e3⟩
  refine ⟨hs1,by simp;omega,by simp,rfl,Nat.le_refl _,rfl,rfl,rfl,rfl,rfl,rfl,fun s hl ha=>by simp [Array.getElem?_push];omega,fun s hl ha=>by simp [Array.getElem?_push];omega,#[],by simp,by simp,by simp⟩
 |@newL o q k l hk ho _ ih=>
  intro w v es fs x w1 es1 hs hr hN ht hd
  rw [Sem.runT] at hr
  have hsz:w.heap.size< N:=by
   refine Nat.lt_of_lt_of_le ?_ hN
   have:=(Sem.runT_growsU (gp P G) _ _ _ hr).1
   simp only [Array.size_push] at this
   omega
  have hp:τ.lp w.heap.size v.heap.size:=by have:=hs.next hsz;rw [hk] at this;exact this
  have hs1:=hs.push hb hsz (KR.ofLp hb hp ho)
  obtain ⟨b',v1,fs1,e1,e2,e3⟩:=ih w.heap.size v.heap.size hp _ _ es fs x w1 es1 hs1 hr hN ht hd
  refine ⟨b',v1,fs1,by rw [Sem.runT];exact e1,e2,Both.trans ?_ e3⟩
  refine ⟨hs1,by simp;omega,by simp,rfl,Nat.le_refl _,rfl,rfl,rfl,rfl,rfl,rfl,fun s hl ha=>by simp [Array.getElem?_push];omega,fun s hl ha=>by simp [Array.getElem?_push];omega,#[],by simp,by simp,by simp⟩
 |@getL r s k l hrs _ ih=>
  intro w v es fs x w1 es1 hs hr hN ht hd
  rw [Sem.runT] at hr
  cases hc:w.heap[r]? with
  |none=>rw [hc] at hr;cases hr
  |some o=>
   obtain ⟨o',q,h1,h2,h3⟩:=hs.loops r s hrs (Array.getElem?_eq_some_iff.1 hc).1
   rw [hc] at h1;cases h1
   rw [hc] at hr
   have h3':=h3
   cases h3 with
   |_=>
    obtain ⟨b',v1,fs1,e1,e2,e3⟩:=ih _ _ h3' w v (es.push ⟨.obj r,false,false⟩) (fs.push ⟨.obj s,false,false⟩) x w1 es1 hs hr hN ht hd
    refine ⟨b',v1,fs1,by rw [Sem.runT,h2];exact e1,e2,Both.trans ?_ e3⟩
    exact Both.ev hs (.obj (Tri.un_lp hrs))
 |@setL r s o q k l hrs ho _ ih=>
  intro w v es fs x w1 es1 hs hr hN ht hd
  rw [Sem.runT] at hr
  cases hc:w.heap[r]? with
  |none=>rw [hc] at hr;cases hr
  |some o0=>
   obtain ⟨o',q0,h1,h2,h3⟩:=hs.loops r s hrs (Array.getElem?_eq_some_iff.1 hc).1
   rw [hc] at h1;cases h1
   rw [hc] at hr
   have hch:o.isChan=false∧q.isChan=false:=by cases ho<;> exact ⟨rfl,rfl⟩
   rw [set_eq_modify,hch.1] at hr
   have hs1:Sync L C τ k₀ N {w with heap:=w.heap.modify r fun _=>o} {v with heap:=v.heap.modify s fun _=>q}:=hs.turn hb (Tri.un_lp hrs) fun _ _ _=>KR.ofLp hb hrs ho
   cases h3 with
   |_=>
    obtain ⟨b',v1,fs1,e1,e2,e3⟩:=ih _ _ (es.push ⟨.obj r,true,false⟩) (fs.push ⟨.obj s,true,false⟩) x w1 es1 hs1 hr hN ht hd
    refine ⟨b',v1,fs1,by rw [Sem.runT,h2,set_eq_modify,hch.2];exact e1,e2,Both.trans ?_ e3⟩
    exact ⟨hs1,by simp,by simp,rfl,Nat.le_refl _,rfl,rfl,rfl,rfl,rfl,rfl,fun t hl ha=>away_modify (.inr (.inr hrs)) ha,fun t hl ha=>away_modify0 (.inr (.inr hrs)) ha,⟨#[(⟨.obj r,true,false⟩,⟨.obj s,true,false⟩)],by simp,by simp,by simp;exact .set (.inr (.inr hrs))⟩⟩
 |@shape r s k l hrs _ ih=>
  intro w v es fs x w1 es1 hs hr hN ht hd
  rw [Sem.runT] at hr
  by_cases hl:r< w.heap.size
  ·obtain ⟨b',v1,fs1,e1,e2,e3⟩:=ih _ w v es fs x w1 es1 hs hr hN ht hd
   exact ⟨b',v1,fs1,by rw [Sem.runT,hs.shape hrs hl];exact e1,e2,e3⟩
  ·
   have hn:w.shape? r=none:=by unfold World.shape?;simp [Nat.le_of_not_lt hl]
   have hv:v.shape? s=none:=by
    have:=hs.later hb (.inl hrs) hl (hd _ _ (.inl hrs))
    unfold World.shape?
    rw [Array.getElem?_eq_none (by omega)]
   rw [hn] at hr
   obtain ⟨b',v1,fs1,e1,e2,e3⟩:=ih _ w v es fs x w1 es1 hs hr hN ht hd
   exact ⟨b',v1,fs1,by rw [Sem.runT,hv];exact e1,e2,e3⟩
 |@freeze a b n k l hab _ ih=>
  intro w v es fs x w1 es1 hs hr hN ht hd
  rw [Sem.runT] at hr
  have hs1:Sync L C τ k₀ N (w.freeze a n) (v.freeze b n):=hs.froze hb hab n
  have hf: ∀(w:World) (a:Addr),(w.freeze a n).heap.size=w.heap.size∧(w.freeze a n).drawn=w.drawn∧(w.freeze a n).tape=w.tape∧(w.freeze a n).os=w.os∧(w.freeze a n).output=w.output:=fun w a=>by
   unfold World.freeze;split<;> simp
  obtain ⟨b',v1,fs1,e1,e2,e3⟩:=ih _ _ es fs x w1 es1 hs1 hr hN (by rw [(hf w a).2.1,(hf w a).2.2.1,(hf v b).2.1,(hf v b).2.2.1];exact ht) hd
  refine ⟨b',v1,fs1,by rw [Sem.runT];exact e1,e2,Both.trans ?_ e3⟩
  refine ⟨hs1,by rw [(hf w a).1,(hf v b).1],by rw [(hf w a).1];exact Nat.le_refl _,by rw [(hf w a).2.1,(hf v b).2.1],by rw [(hf w a).2.1];exact Nat.le_refl _,(hf v b).2.2.1,(hf v b).2.2.2.1,(hf v b).2.2.2.2,(hf w a).2.2.1,(hf w a).2.2.2.1,(hf w a).2.2.2.2,fun s hl ha=>?_,fun s hl ha=>?_,#[],by simp,by simp,by simp⟩
  ·unfold World.freeze
   split
   ·rfl
   ·exact away_modify (.inl hab.1) ha
  ·unfold World.freeze
   split
   ·rfl
   ·exact away_modify0 (.inl hab.1) ha
 |@frozen a b k l hab _ ih=>
  intro w v es fs x w1 es1 hs hr hN ht hd
  rw [Sem.runT] at hr
  by_cases hl:a.block< w.heap.size
  ·obtain ⟨b',v1,fs1,e1,e2,e3⟩:=ih _ w v es fs x w1 es1 hs hr hN ht hd
   exact ⟨b',v1,fs1,by rw [Sem.runT,hs.frozen (.inl hab) hl];exact e1,e2,e3⟩
  ·have hn:w.frozen? a=false:=by unfold World.frozen?;simp [Nat.le_of_not_lt hl]
   have hv:v.frozen? b=false:=by
    have:=hs.later hb (.inl hab.1) hl (hd _ _ (.inl hab.1))
    unfold World.frozen?
    rw [Array.getElem?_eq_none (by omega)]
   rw [hn] at hr
   obtain ⟨b',v1,fs1,e1,e2,e3⟩:=ih _ w v es fs x w1 es1 hs hr hN ht hd
   exact ⟨b',v1,fs1,by rw [Sem.runT,hv];exact e1,e2,e3⟩
 |@getObj r s k l hrs _ ih=>
  intro w v es fs x w1 es1 hs hr hN ht hd
  rw [Sem.runT] at hr
  cases hc:w.heap[r]? with
  |none=>rw [hc] at hr;cases hr
  |some o=>
   obtain ⟨o',q,h1,h2,h3⟩:=hs.obj r s hrs (Array.getElem?_eq_some_iff.1 hc).1
   rw [hc] at h1;cases h1
   rw [hc] at hr
   have hch:o.isChan=false∧q.isChan=false:=by cases h3<;> exact ⟨rfl,rfl⟩
   have h3':=h3
   cases h3 with
   |cells e f hx=>cases hr
   |_=>
    obtain ⟨b',v1,fs1,e1,e2,e3⟩:=ih _ _ h3' w v (es.push ⟨.obj r,false,false⟩) (fs.push ⟨.obj s,false,false⟩) x w1 es1 hs hr hN ht hd
    refine ⟨b',v1,fs1,by rw [Sem.runT,h2];exact e1,e2,Both.trans ?_ e3⟩
    exact Both.ev hs (.obj (.inl hrs))
 |@setObj r s o q k l hrs ho hnc _ ih=>
  intro w v es fs x w1 es1 hs hr hN ht hd
  rw [Sem.runT] at hr
  cases hc:w.heap[r]? with
  |none=>rw [hc] at hr;cases hr
  |some o0=>
   obtain ⟨o',q0,h1,h2,h3⟩:=hs.obj r s (hb.own _ _ hrs) (Array.getElem?_eq_some_iff.1 hc).1
   rw [hc] at h1;cases h1
   rw [hc] at hr
   have hch:o.isChan=false∧q.isChan=false:=by cases ho<;> exact ⟨rfl,rfl⟩
   rw [set_eq_modify,hch.1] at hr
   have hs1:Sync L C τ k₀ N {w with heap:=w.heap.modify r fun _=>o} {v with heap:=v.heap.modify s fun _=>q}:=hs.turn hb (.inl (hb.own _ _ hrs)) fun _ _ _=>KR.ofAll hb (hb.own _ _ hrs) ho
   cases h3 with
   |cells e f hx=>cases hr
   |_=>
    obtain ⟨b',v1,fs1,e1,e2,e3⟩:=ih _ _ (es.push ⟨.obj r,true,false⟩) (fs.push ⟨.obj s,true,false⟩) x w1 es1 hs1 hr hN ht hd
    refine ⟨b',v1,fs1,by rw [Sem.runT,h2,set_eq_modify,hch.2];exact e1,e2,Both.trans ?_ e3⟩
    exact ⟨hs1,by simp,by simp,rfl,Nat.le_refl _,rfl,rfl,rfl,rfl,rfl,rfl,fun t hl ha=>away_modify (.inl hrs) ha,fun t hl ha=>away_modify0 (.inl hrs) ha,⟨#[(⟨.obj r,true,false⟩,⟨.obj s,true,false⟩)],by simp,by simp,by simp;exact .set (.inl hrs)⟩⟩
 |@choose qq k l _ ih=>
  intro w v es fs x w1 es1 hs hr hN ht hd
  rw [Sem.runT] at hr
  by_cases hf:qq.forced=true
  ·simp only [hf,if_true] at hr
   obtain ⟨b',v1,fs1,e1,e2,e3⟩:=ih 0 w v es fs x w1 es1 hs hr hN ht hd
   exact ⟨b',v1,fs1,by rw [Sem.runT];simp only [hf,if_true];exact e1,e2,e3⟩
  ·simp only [hf,Bool.false_eq_true,if_false] at hr
   have hdr:=(Sem.runT_growsU (gp P G) _ _ _ hr).2
   simp only at hdr
   have htape:v.tape v.drawn qq=w.tape w.drawn qq:=by simpa using ht 0 qq (by omega)
   have hs1:Sync L C τ k₀ N {w with drawn:=w.drawn+1} {v with drawn:=v.drawn+1}:=⟨hs.held,hs.fut⟩
   obtain ⟨b',v1,fs1,e1,e2,e3⟩:=ih _ _ _ es fs x w1 es1 hs1 hr hN (fun j q hj=>by
    have:=ht (j+1) q (by simp only at hj;omega)
    simpa [Nat.add_assoc,Nat.add_comm 1 j] using this) hd
   refine ⟨b',v1,fs1,by rw [Sem.runT];simp only [hf,Bool.false_eq_true,if_false,htape];exact e1,e2,Both.trans ?_ e3⟩
   exact ⟨hs1,rfl,Nat.le_refl _,by simp;omega,by simp,rfl,rfl,rfl,rfl,rfl,rfl,fun _ _ _=>rfl,fun _ _ _=>rfl,#[],by simp,by simp,by simp⟩
 |program _ ih=>
  intro w v es fs x w1 es1 hs hr hN ht hd
  rw [Sem.runT] at hr
  obtain ⟨b',v1,fs1,e1,e2,e3⟩:=ih w v es fs x w1 es1 hs hr hN ht hd
  exact ⟨b',v1,fs1,by rw [Sem.runT];exact e1,e2,e3⟩
 |programL _ ih=>
  intro w v es fs x w1 es1 hs hr hN ht hd
  rw [Sem.runT] at hr
  exact ih w v es fs x w1 es1 hs hr hN ht hd
 |noRoom _ ih=>
  intro w v es fs x w1 es1 hs hr hN ht hd
  rw [Sem.runT] at hr
  obtain ⟨b',v1,fs1,e1,e2,e3⟩:=ih w v _ (fs.push ⟨.mark .noRoom,false,true⟩) x w1 es1 hs hr hN ht hd
  refine ⟨b',v1,fs1,by rw [Sem.runT];exact e1,e2,Both.trans ?_ e3⟩
  exact Both.ev hs (.noRoom)
 |doom qq hh=>
  intro w v es fs x w1 es1 hs hr hN ht hd
  obtain ⟨_,_,_,e,_,_⟩:=hh w es
  rw [e] at hr
  cases hr
end
end Go.Proofs.YtldmcdeibiclkaaGreatDoor.U
end
