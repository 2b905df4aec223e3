/-
  One call of a script: the law's world with a base and counts; which pair it speaks of.
  Contract: step: a kind that does nothing.
  Contract: step: a Put.
-/
import Derived.Test.YtldmcdeibiclkaaGreatQ27
import Derived.Test.YtldmcdeibiclkaaGreatQ24
set_option linter.unusedVariables false
set_option linter.unusedSimpArgs false

namespace Go.Proofs.YtldmcdeibiclkaaGreat
open Go.RowKit

/-- The law's world: all that it may turn lies from B on; so many calls have been made. -/
structure LawB (B N : Nat) (w : World) (wb : Nat) (pv hv : Value) (gs : List PG) (hs : List Nat) : Prop where
  law : LawAt w wb pv hv gs hs
  wbB : B ≤ wb
  pvB : ∀ k, pv.ownBlock = some k → B ≤ k
  hvB : ∀ k, hv.ownBlock = some k → B ≤ k
  gsB : ∀ g ∈ gs, (∀ n, n < 64 → B ≤ g.bm n) ∧ B ≤ g.rb
  len : ∀ g ∈ gs, g.l.length ≤ N
  gl : gs.length ≤ N + 2
  hl : hs.length ≤ 3 * N
  base : B ≤ w.heap.size

theorem LawB.below {B N : Nat} {w w1 : World} {wb : Nat} {pv hv : Value} {gs : List PG} {hs : List Nat} (h : LawB B N w wb pv hv gs hs) (hb : Below w.heap.size w w1) : LawB B N w1 wb pv hv gs hs :=
  ⟨h.law.below hb, h.wbB, h.pvB, h.hvB, h.gsB, h.len, h.gl, h.hl, Nat.le_trans h.base hb.size⟩
theorem LawB.more {B N N' : Nat} {w : World} {wb : Nat} {pv hv : Value} {gs : List PG} {hs : List Nat} (h : LawB B N w wb pv hv gs hs) (hN : N ≤ N') : LawB B N' w wb pv hv gs hs :=
  ⟨h.law, h.wbB, h.pvB, h.hvB, h.gsB, fun g hg => Nat.le_trans (h.len g hg) hN, by have := h.gl; omega, by have := h.hl; omega, h.base⟩

theorem wrap_small {x : Int} (h1 : -9223372036854775808 ≤ x) (h2 : x ≤ 9223372036854775807) : IntKind.i64.wrap x = x := by
  simp [IntKind.wrap, IntKind.bits, IntKind.signed]
  omega

theorem tmod_lo (m n : Int) (h : 0 < n) : -n < m.tmod n := by
  rcases Int.le_total 0 m with hm | hm
  · have := Int.tmod_nonneg n hm; omega
  · have h1 : m.tmod n = -((-m).tmod n) := by rw [Int.neg_tmod, Int.neg_neg]
    have h2 := Int.tmod_lt_of_pos (-m) h
    omega

/-- Which pair a number speaks of: the rest q, and the place p. -/
theorem which_pair (m : Int) (n : Nat) (hn : 0 < n) : ∃ (q : Int) (p : Nat), m.tmod n = q ∧ -(n : Int) < q ∧ q < n ∧ (q + n).tmod n = p ∧ (q + n) % (n : Int) = p ∧ p < n := by
  have hn' : (0 : Int) < n := by omega
  have h2 := Int.tmod_lt_of_pos m hn'
  have h3 := tmod_lo m n hn'
  have h5 : (m.tmod n + n).tmod n < n := Int.tmod_lt_of_pos _ hn'
  have h6 : (m.tmod n + n).tmod n = (m.tmod n + n) % (n : Int) := Int.tmod_eq_emod_of_nonneg (by omega)
  have h4 : 0 ≤ (m.tmod n + n) % (n : Int) := Int.emod_nonneg _ (by omega)
  exact ⟨m.tmod n, ((m.tmod n + n).tmod n).toNat, rfl, h3, h2, by omega, by omega, by omega⟩

/-- The boxes of a call and of its pair. -/
def StepBox (W : World) (ob pb : Nat) (o : OpG) (b rb : Nat) : Prop :=
  W.heap[ob]? = some (.cells (opV o) 36) ∧ W.heap[pb]? = some (.cells #[.pointer (some ⟨b, 0, none⟩), .pointer (some ⟨rb, 0, none⟩)] 47)
theorem StepBox.below {W W' : World} {ob pb : Nat} {o : OpG} {b rb : Nat} (h : StepBox W ob pb o b rb) (hb : Below W.heap.size W W') : StepBox W' ob pb o b rb := ⟨heap_keep h.1 hb, heap_keep h.2 hb⟩
theorem StepBox.fr {X : Nat → Prop} {W W' : World} {ob pb : Nat} {o : OpG} {b rb : Nat} (h : StepBox W ob pb o b rb) (hF : Fr X W W') (h1 : ¬ X ob) (h2 : ¬ X pb) : StepBox W' ob pb o b rb := ⟨hF.heap h.1 h1, hF.heap h.2 h2⟩
theorem StepBox.cells {W : World} {ob pb : Nat} {b rb : Nat} {kind m a oo : Int} {s t : ByteArray} {c : Ctx} (h : StepBox W ob pb ⟨kind, m, a, oo, s, t, c⟩ b rb) :
    W.cell? ⟨ob, 0, none⟩ = some (.int .i64 kind) ∧ W.cell? ⟨ob, 1, none⟩ = some (.int .i64 m) ∧ W.cell? ⟨ob, 2, none⟩ = some (.int .i64 a) ∧ W.cell? ⟨ob, 3, none⟩ = some (.int .i64 oo) ∧ W.cell? ⟨ob, 4, none⟩ = some (.string s) ∧ W.cell? ⟨ob, 5, none⟩ = some (.string t) ∧
    W.cell? ⟨ob, 6, none⟩ = some (.int .i64 (c 0)) ∧ W.cell? ⟨ob, 7, none⟩ = some (.int .i64 (c 1)) ∧ W.cell? ⟨ob, 8, none⟩ = some (.int .i64 (c 2)) ∧ W.cell? ⟨ob, 9, none⟩ = some (.int .i64 (c 3)) ∧
    W.cell? ⟨pb, 0, none⟩ = some (.pointer (some ⟨b, 0, none⟩)) ∧ W.cell? ⟨pb, 1, none⟩ = some (.pointer (some ⟨rb, 0, none⟩)) := by
  have e1 := (cells_of0 h.1).1
  have e2 := (cells_of0 h.2).1
  exact ⟨e1 0, e1 1, e1 2, e1 3, e1 4, e1 5, e1 6, e1 7, e1 8, e1 9, e2 0, e2 1⟩

/-- The maps of a replica. -/
def mapsX (bm : Nat → Nat) (k : Nat) : Prop := ∃ n, n < 64 ∧ k = bm n

theorem PairAt.not_maps {w : World} {g : PG} (h : PairAt w g) {k : Nat} {t : TypeId} {cur : Array Value} (hk : w.heap[k]? = some (.cells cur t)) : ¬ mapsX g.bm k := by
  rintro ⟨n, hn, e⟩
  obtain ⟨es, c, hm⟩ := h.kinds.2.1 n hn
  rw [e, hm] at hk; cases hk

/-- The reference is as it was where only the replica's maps have turned. -/
theorem PairAt.tied_maps {w w1 : World} {g : PG} (h : PairAt w g) (hF : Fr (mapsX g.bm) w w1) : TiedAt w1 g.rb g.num g.sv g.l g.K :=
  h.tied.frame hF (h.not_maps h.tied.ref.1) (fun k cur hk => h.not_maps hk) fun s k o m c e => by
    obtain ⟨cur, hh⟩ := row_typed (h.tied.at_ s).2 k o m c e
    exact h.not_maps hh

/-- One pair has turned, on both sides alike. -/
theorem LawAt.turned {w V w5 w6 : World} {wb : Nat} {pv hv : Value} {gs : List PG} {hs : List Nat} (h : LawAt w wb pv hv gs hs) (p : Nat) (hpl : p < gs.length) (K' : Know) (hK : KInv K') (hV : Below w.heap.size w V) {sv' : Value} {l' : List RKey}
    (hrep : RepAt w5 gs[p].b gs[p].bm gs[p].num K') (hF5 : Fr (mapsX gs[p].bm) V w5) (htied : TiedAt w6 gs[p].rb gs[p].num sv' l' K') (hl : l'.length ≤ gs[p].l.length + 1) (hF6 : Fr (fun k => k = gs[p].rb) w5 w6) :
    ∃ gs', LawAt w6 wb pv hv gs' hs ∧ gs'.length = gs.length ∧ (∀ g' ∈ gs', ∃ g ∈ gs, g'.bm = g.bm ∧ g'.rb = g.rb ∧ g'.l.length ≤ g.l.length + 1) ∧ Fr (fun k => ∃ g ∈ gs, mapsX g.bm k ∨ k = g.rb) w w6 := by
  have hp := h.pairs gs[p] (List.getElem_mem hpl)
  have hFw5 : Fr (mapsX gs[p].bm) w w5 := (Fr.of_below hV).trans hF5
  have hF : Fr (fun k => (∃ n, n < 64 ∧ k = gs[p].bm n) ∨ k = gs[p].rb) w w6 := (hFw5.weaken fun k e => Or.inl e).trans (hF6.weaken fun k e => Or.inr e)
  have hrb5 : w5.heap[gs[p].rb]? = some (.cells #[.int .i64 gs[p].num, gs[p].sv] 45) := (hp.tied_maps hFw5).ref.1
  have hrep6 : RepAt w6 gs[p].b gs[p].bm gs[p].num K' := by
    obtain ⟨A, h1, _⟩ := hrep.1
    refine hF6.rep hrep (fun e => ?_) (fun n hn e => ?_) (fun g cur hg e => ?_)
    · rw [e, hrb5] at h1; exact absurd h1 (by simp)
    · obtain ⟨es, c, hm, _⟩ := hrep.2.1 n hn
      rw [e, hrb5] at hm; cases hm
    · have e' : g = gs[p].rb := e
      rw [e', hrb5] at hg; exact absurd hg (by simp)
  refine ⟨gs.set p ⟨gs[p].b, gs[p].bm, gs[p].num, K', gs[p].rb, sv', l'⟩, h.upd p hpl _ rfl rfl rfl ⟨hrep6, htied, hK, hp.num⟩ hF, by simp, fun g' hg' => ?_, hF.weaken fun k e => ⟨gs[p], List.getElem_mem hpl, e⟩⟩
  rcases mem_set_or hg' with rfl | ⟨j, hj, _, rfl⟩
  · exact ⟨gs[p], List.getElem_mem hpl, rfl, rfl, hl⟩
  · exact ⟨gs[j], List.getElem_mem hj, rfl, rfl, by omega⟩
end Go.Proofs.YtldmcdeibiclkaaGreat

namespace Go.Proofs.YtldmcdeibiclkaaGreat
open Go.RowKit

set_option maxRecDepth 100000 in
set_option maxHeartbeats 4000000 in
theorem step_none (wb : Nat) (pv hv : Value) (gs : List PG) (hs : List Nat) (o : OpG) (w : World) (h : LawAt w wb pv hv gs hs) (h0 : 0 < gs.length) (hlen : gs.length ≤ 4000000000000) (hm1 : -9223372036854775808 ≤ o.m) (hm2 : o.m ≤ 9223372036854775807) (hk : o.kind < 1) :
    Calls Tryz.prog 9 #[.pointer (some ⟨wb, 0, none⟩), .agg (opV o)] w fun e w' => e = .returned (.bool true) ∧ Below w.heap.size w w' := by
  have hrow := h.prow
  obtain ⟨ad, cap, rfl, hcap, hlc⟩ := row_lenA hrow
  have c0 : w.cell? ⟨wb, 0, none⟩ = some (.slice ad gs.length cap) := (cells_of0 h.blk).1 0
  obtain ⟨q, p, hq, hq1, hq2, hpe, hpe', hpl⟩ := which_pair o.m gs.length h0
  obtain ⟨g, cap', hsv, _, _, hg, hcells⟩ := row_cellA hrow h0
  cases hsv
  obtain ⟨f0, f1⟩ := flatP_get gs p hpl
  have p0 := hcells _ _ (by omega) f0
  have p1 := hcells _ _ (by omega) f1
  have hwb : wb < w.heap.size := (Array.getElem?_eq_some_iff.1 h.blk).1
  generalize gs[p] = gp at *
  generalize gp.b = pb at *
  generalize gp.rb = prb at *
  have i0 : (0 : Int) ≤ (p : Int) := by omega
  have i1 : (p : Int) < (gs.length : Int) := by omega
  have n1 : (0 : Int) < (gs.length : Int) := by omega
  clear h hrow hcells f0 f1
  generalize gs.length = gl at *
  have n2 : ¬ gl = 0 := by omega
  have n3 : ¬ (gl : Int) = 0 := by omega
  have n4 : ((gl : Int) == 0) = false := by simpa using n2
  have w1 : IntKind.i64.wrap (q + (gl : Int)) = q + gl := wrap_small (by omega) (by omega)
  have w2 : IntKind.i64.wrap q = q := wrap_small (by omega) (by omega)
  have w3 : IntKind.i64.wrap (p : Int) = p := wrap_small (by omega) (by omega)
  have hpq : q % (gl : Int) = p := by rw [← hpe', Int.add_emod_right]
  obtain ⟨kind, m, a, ob, s, t, c⟩ := o
  have k1 : (kind == 1) = false := beq_eq_false_iff_ne.2 (by have : kind < 1 := hk; omega)
  have k2 : (kind == 2) = false := beq_eq_false_iff_ne.2 (by have : kind < 1 := hk; omega)
  have k3 : (kind == 3) = false := beq_eq_false_iff_ne.2 (by have : kind < 1 := hk; omega)
  have k4 : (kind == 4) = false := beq_eq_false_iff_ne.2 (by have : kind < 1 := hk; omega)
  have k5 : (kind == 5) = false := beq_eq_false_iff_ne.2 (by have : kind < 1 := hk; omega)
  have k6 : (kind == 6) = false := beq_eq_false_iff_ne.2 (by have : kind < 1 := hk; omega)
  have k7 : (kind == 7) = false := beq_eq_false_iff_ne.2 (by have : kind < 1 := hk; omega)
  have k8 : (kind == 8) = false := beq_eq_false_iff_ne.2 (by have : kind < 1 := hk; omega)
  have k9 : (kind == 9) = false := beq_eq_false_iff_ne.2 (by have : kind < 1 := hk; omega)
  have k10 : (kind == 10) = false := beq_eq_false_iff_ne.2 (by have : kind < 1 := hk; omega)
  simp only [opV] at *
  go_enter Tryz.func9, Tryz.ntmps9
  go_upto_region 4 with fail
  obtain ⟨W0, hW0⟩ : ∃ W, W = w.alloc (.cells #[.int .i64 kind, .int .i64 m, .int .i64 a, .int .i64 ob, .string s, .string t, .int .i64 (c 0), .int .i64 (c 1), .int .i64 (c 2), .int .i64 (c 3)] 36) := ⟨_, rfl⟩
  rw [← hW0]
  have HB0 : Hid (Below w.heap.size w W0) := (by rw [hW0]; exact (Below.refl _ _).alloc (Nat.le_refl _) _)
  have z0 : W0.heap.size = w.heap.size + 1 := by rw [hW0]; simp
  have HOp : Hid (W0.heap[w.heap.size]? = some (.cells #[.int .i64 kind, .int .i64 m, .int .i64 a, .int .i64 ob, .string s, .string t, .int .i64 (c 0), .int .i64 (c 1), .int .i64 (c 2), .int .i64 (c 3)] 36)) := (by rw [hW0]; exact heap_alloc_new w _)
  have y1 : W0.cell? ⟨w.heap.size, 1, none⟩ = some (.int .i64 m) := (cells_of0 HOp.out).1 1
  have b0 := cell_keep c0 HB0.out
  have b1 := cell_keep p0 HB0.out
  have b2 := cell_keep p1 HB0.out
  have hmk : Hid (∀ w', Below W0.heap.size W0 w' → w'.cell? ⟨wb, 0, none⟩ = some (.slice (some ⟨g, 0, none⟩) gl cap) ∧ w'.cell? ⟨g, p * 2, none⟩ = some (.pointer (some ⟨pb, 0, none⟩)) ∧ w'.cell? ⟨g, p * 2 + 1, none⟩ = some (.pointer (some ⟨prb, 0, none⟩)) ∧ w'.cell? ⟨w.heap.size, 1, none⟩ = some (.int .i64 m)) := fun w' hw => ⟨cell_keep b0 hw, cell_keep b1 hw, cell_keep b2 hw, cell_keep y1 hw⟩
  clear hW0 c0 p0 p1 b0 b1 b2 y1
  go_region_held3 (fun w' => w'.cell? ⟨wb, 0, none⟩ = some (.slice (some ⟨g, 0, none⟩) gl cap) ∧ w'.cell? ⟨g, p * 2, none⟩ = some (.pointer (some ⟨pb, 0, none⟩)) ∧ w'.cell? ⟨g, p * 2 + 1, none⟩ = some (.pointer (some ⟨prb, 0, none⟩)) ∧ w'.cell? ⟨w.heap.size, 1, none⟩ = some (.int .i64 m))
    ((refine hmk.out _ ?_; simp (maxDischargeDepth := 12) [Below.refl, Below.drew, Below.alloc, Below.setCell]; done))
    (fail)
  all_goals
    clear hpe hpe' hpq w1 w2 w3 n4
    try rw [z0]
    obtain ⟨W2, hW2⟩ : ∃ W, W = (W0.alloc (.cells #[.pointer (some ⟨pb, 0, none⟩), .pointer (some ⟨prb, 0, none⟩)] 47)).drew := ⟨_, rfl⟩
    rw [← hW2]
    have HB2 : Hid (Below w.heap.size w W2) := (by rw [hW2]; exact (HB0.out.alloc (by omega) _).drew)
    have HX2 : Hid (StepBox W2 w.heap.size (w.heap.size + 1) ⟨kind, m, a, ob, s, t, c⟩ pb prb) := (by
      rw [hW2]
      refine ⟨(Below.heap_alloc W0 _ _ (by omega)).trans HOp.out, ?_⟩
      rw [← z0]
      exact heap_alloc_new W0 _)
    have z2 : W2.heap.size = w.heap.size + 2 := by rw [hW2]; simp; omega
    obtain ⟨x0, x1, x2, x3, x4, x5, x6, x7, x8, x9, y0, y1⟩ := HX2.out.cells
    clear hW2 hmk z0 HOp HB0
    go_wp2
    go_ret
    exact ⟨rfl, HB2.out⟩
end Go.Proofs.YtldmcdeibiclkaaGreat

namespace Go.Proofs.YtldmcdeibiclkaaGreat
open Go.RowKit

set_option maxRecDepth 100000 in
set_option maxHeartbeats 4000000 in
theorem step_put (wb : Nat) (pv hv : Value) (gs : List PG) (hs : List Nat) (o : OpG) (w : World) (h : LawAt w wb pv hv gs hs) (h0 : 0 < gs.length) (hlen : gs.length ≤ 4000000000000) (hm1 : -9223372036854775808 ≤ o.m) (hm2 : o.m ≤ 9223372036854775807) (hk : o.kind = 2) (hl : ∀ g ∈ gs, g.l.length ≤ 1900000000000) (hos : o.s.size ≤ maxLen) (hot : o.t.size ≤ maxLen) (hb1 : -9223372036854775808 ≤ o.b) (hb2 : o.b ≤ 9223372036854775807) :
    Calls Tryz.prog 9 #[.pointer (some ⟨wb, 0, none⟩), .agg (opV o)] w fun e w' => e = .returned (.bool true) ∧ ∃ gs', LawAt w' wb pv hv gs' hs ∧ gs'.length = gs.length ∧ (∀ g' ∈ gs', ∃ g ∈ gs, g'.bm = g.bm ∧ g'.rb = g.rb ∧ g'.l.length ≤ g.l.length + 1) ∧ Fr (fun k => ∃ g ∈ gs, mapsX g.bm k ∨ k = g.rb) w w' := by
  have hrow := h.prow
  obtain ⟨ad, cap, rfl, hcap, hlc⟩ := row_lenA hrow
  have c0 : w.cell? ⟨wb, 0, none⟩ = some (.slice ad gs.length cap) := (cells_of0 h.blk).1 0
  obtain ⟨q, p, hq, hq1, hq2, hpe, hpe', hpl⟩ := which_pair o.m gs.length h0
  obtain ⟨g, cap', hsv, _, _, hg, hcells⟩ := row_cellA hrow h0
  cases hsv
  obtain ⟨f0, f1⟩ := flatP_get gs p hpl
  have p0 := hcells _ _ (by omega) f0
  have p1 := hcells _ _ (by omega) f1
  have hwb : wb < w.heap.size := (Array.getElem?_eq_some_iff.1 h.blk).1
  have HSeen : Hid (∀ W, Below w.heap.size w W → Calls Tryz.prog 12 #[.pointer (some ⟨wb, 0, none⟩), .agg (opV o)] W fun e w' => ∃ c : Ctx, e = .returned (ctxV c) ∧ Below W.heap.size W w') := fun W hW => seen_any wb _ hv gs hs o W (h.below hW) h0 hlen hl hos hb1 hb2
  obtain ⟨er, her⟩ : ∃ er : Ctx → Int, ∀ x, putErr gs[p].K gs[p].num o.s o.t x = er x := ⟨_, fun _ => rfl⟩
  have HPut : Hid (∀ x W, Below w.heap.size w W → Calls Tryz.prog 13 #[.pointer (some ⟨gs[p].b, 0, none⟩), .string o.s, .string o.t, ctxV x] W fun e w' => e = .returned (.int .i64 (er x)) ∧ RepAt w' gs[p].b gs[p].bm gs[p].num (putK gs[p].K gs[p].num o.s o.t x) ∧ Fr (mapsX gs[p].bm) W w') := fun x W hW => by
    have := put_all gs[p].b gs[p].num gs[p].bm gs[p].K o.s o.t x W ((h.pairs _ (List.getElem_mem hpl)).rep.below hW) (h.pairs _ (List.getElem_mem hpl)).inv (h.pairs _ (List.getElem_mem hpl)).num hos hot
    rw [her] at this
    exact this
  have HRef : Hid (∀ x W V, Below w.heap.size w V → Fr (mapsX gs[p].bm) V W → Calls Tryz.prog 14 #[.pointer (some ⟨gs[p].rb, 0, none⟩), .string o.s, .string o.t, ctxV x] W fun e w' => e = .returned (.int .i64 (er x)) ∧ (∃ sv' l', TiedAt w' gs[p].rb gs[p].num sv' l' (putK gs[p].K gs[p].num o.s o.t x) ∧ l'.length ≤ gs[p].l.length + 1) ∧ Fr (fun k => k = gs[p].rb) W w') := fun x W V hV hF => by
    have := refPut_all gs[p].rb gs[p].num gs[p].sv gs[p].l gs[p].K o.s o.t x W (((h.pairs _ (List.getElem_mem hpl)).below hV).tied_maps hF) (h.pairs _ (List.getElem_mem hpl)).inv (h.pairs _ (List.getElem_mem hpl)).num (hl _ (List.getElem_mem hpl)) hos hot
    rw [her] at this
    exact this
  have HFin : Hid (∀ x V w5 w' sv' l', Below w.heap.size w V → RepAt w5 gs[p].b gs[p].bm gs[p].num (putK gs[p].K gs[p].num o.s o.t x) → Fr (mapsX gs[p].bm) V w5 → TiedAt w' gs[p].rb gs[p].num sv' l' (putK gs[p].K gs[p].num o.s o.t x) → l'.length ≤ gs[p].l.length + 1 → Fr (fun k => k = gs[p].rb) w5 w' → ∃ gs', LawAt w' wb (.slice (some ⟨g, 0, none⟩) gs.length cap) hv gs' hs ∧ gs'.length = gs.length ∧ (∀ g' ∈ gs', ∃ g ∈ gs, g'.bm = g.bm ∧ g'.rb = g.rb ∧ g'.l.length ≤ g.l.length + 1) ∧ Fr (fun k => ∃ g ∈ gs, mapsX g.bm k ∨ k = g.rb) w w') := fun x V w5 w' sv' l' hV h1 h2 h3 h4 h5 => h.turned p hpl _ (put_inv (h.pairs _ (List.getElem_mem hpl)).inv (h.pairs _ (List.getElem_mem hpl)).num) hV h1 h2 h3 h4 h5
  have hbm : ∀ n, n < 64 → gs[p].bm n < w.heap.size := fun n hn => by
    obtain ⟨es, c, hm⟩ := (h.pairs _ (List.getElem_mem hpl)).kinds.2.1 n hn
    exact (Array.getElem?_eq_some_iff.1 hm).1
  have HBm : Hid (∀ k, w.heap.size ≤ k → ¬ mapsX gs[p].bm k) := fun k hk ⟨n, hn, e⟩ => by have := hbm n hn; omega
  clear her hbm
  generalize gs[p] = gp at *
  generalize gp.b = pb at *
  generalize gp.rb = prb at *
  have i0 : (0 : Int) ≤ (p : Int) := by omega
  have i1 : (p : Int) < (gs.length : Int) := by omega
  have n1 : (0 : Int) < (gs.length : Int) := by omega
  clear h hrow hcells f0 f1
  generalize gs.length = gl at *
  have n2 : ¬ gl = 0 := by omega
  have n3 : ¬ (gl : Int) = 0 := by omega
  have n4 : ((gl : Int) == 0) = false := by simpa using n2
  have w1 : IntKind.i64.wrap (q + (gl : Int)) = q + gl := wrap_small (by omega) (by omega)
  have w2 : IntKind.i64.wrap q = q := wrap_small (by omega) (by omega)
  have w3 : IntKind.i64.wrap (p : Int) = p := wrap_small (by omega) (by omega)
  have hpq : q % (gl : Int) = p := by rw [← hpe', Int.add_emod_right]
  obtain ⟨kind, m, a, ob, s, t, c⟩ := o
  have k1 : (kind == 1) = false := beq_eq_false_iff_ne.2 (by have : kind = 2 := hk; omega)
  have k2 : (kind == 2) = true := beq_iff_eq.2 hk
  clear hk
  simp only [opV] at *
  go_enter Tryz.func9, Tryz.ntmps9
  go_upto_region 4 with fail
  obtain ⟨W0, hW0⟩ : ∃ W, W = w.alloc (.cells #[.int .i64 kind, .int .i64 m, .int .i64 a, .int .i64 ob, .string s, .string t, .int .i64 (c 0), .int .i64 (c 1), .int .i64 (c 2), .int .i64 (c 3)] 36) := ⟨_, rfl⟩
  rw [← hW0]
  have HB0 : Hid (Below w.heap.size w W0) := (by rw [hW0]; exact (Below.refl _ _).alloc (Nat.le_refl _) _)
  have z0 : W0.heap.size = w.heap.size + 1 := by rw [hW0]; simp
  have HOp : Hid (W0.heap[w.heap.size]? = some (.cells #[.int .i64 kind, .int .i64 m, .int .i64 a, .int .i64 ob, .string s, .string t, .int .i64 (c 0), .int .i64 (c 1), .int .i64 (c 2), .int .i64 (c 3)] 36)) := (by rw [hW0]; exact heap_alloc_new w _)
  have y1 : W0.cell? ⟨w.heap.size, 1, none⟩ = some (.int .i64 m) := (cells_of0 HOp.out).1 1
  have b0 := cell_keep c0 HB0.out
  have b1 := cell_keep p0 HB0.out
  have b2 := cell_keep p1 HB0.out
  have hmk : Hid (∀ w', Below W0.heap.size W0 w' → w'.cell? ⟨wb, 0, none⟩ = some (.slice (some ⟨g, 0, none⟩) gl cap) ∧ w'.cell? ⟨g, p * 2, none⟩ = some (.pointer (some ⟨pb, 0, none⟩)) ∧ w'.cell? ⟨g, p * 2 + 1, none⟩ = some (.pointer (some ⟨prb, 0, none⟩)) ∧ w'.cell? ⟨w.heap.size, 1, none⟩ = some (.int .i64 m)) := fun w' hw => ⟨cell_keep b0 hw, cell_keep b1 hw, cell_keep b2 hw, cell_keep y1 hw⟩
  clear hW0 c0 p0 p1 b0 b1 b2 y1
  go_region_held3 (fun w' => w'.cell? ⟨wb, 0, none⟩ = some (.slice (some ⟨g, 0, none⟩) gl cap) ∧ w'.cell? ⟨g, p * 2, none⟩ = some (.pointer (some ⟨pb, 0, none⟩)) ∧ w'.cell? ⟨g, p * 2 + 1, none⟩ = some (.pointer (some ⟨prb, 0, none⟩)) ∧ w'.cell? ⟨w.heap.size, 1, none⟩ = some (.int .i64 m))
    ((refine hmk.out _ ?_; simp (maxDischargeDepth := 12) [Below.refl, Below.drew, Below.alloc, Below.setCell]; done))
    (fail)
  all_goals
    clear hpe hpe' hpq w1 w2 w3 n4
    try rw [z0]
    obtain ⟨W2, hW2⟩ : ∃ W, W = (W0.alloc (.cells #[.pointer (some ⟨pb, 0, none⟩), .pointer (some ⟨prb, 0, none⟩)] 47)).drew := ⟨_, rfl⟩
    rw [← hW2]
    have HB2 : Hid (Below w.heap.size w W2) := (by rw [hW2]; exact (HB0.out.alloc (by omega) _).drew)
    have HX2 : Hid (StepBox W2 w.heap.size (w.heap.size + 1) ⟨kind, m, a, ob, s, t, c⟩ pb prb) := (by
      rw [hW2]
      refine ⟨(Below.heap_alloc W0 _ _ (by omega)).trans HOp.out, ?_⟩
      rw [← z0]
      exact heap_alloc_new W0 _)
    have z2 : W2.heap.size = w.heap.size + 2 := by rw [hW2]; simp; omega
    obtain ⟨x0, x1, x2, x3, x4, x5, x6, x7, x8, x9, y0, y1⟩ := HX2.out.cells
    clear hW2 hmk z0 HOp HB0
    go_upto_region 8 with (first
      | (go_at_call 12; refine Calls.mono (HSeen.out _ HB2.out) ?_; rintro e w3 ⟨cx, rfl, hb3⟩))
    have z3 := hb3.size
    obtain ⟨W4, hW4⟩ : ∃ W, W = w3.alloc (.cells #[.int .i64 (cx 0), .int .i64 (cx 1), .int .i64 (cx 2), .int .i64 (cx 3)] 34) := ⟨_, rfl⟩
    rw [← hW4]
    have HB4 : Hid (Below w.heap.size w W4) := (by rw [hW4]; exact (HB2.out.trans (hb3.mono (by omega))).alloc (by omega) _)
    have HX4 : Hid (StepBox W4 w.heap.size (w.heap.size + 1) ⟨kind, m, a, ob, s, t, c⟩ pb prb) := (by rw [hW4]; exact (HX2.out.below hb3).below ((Below.refl _ _).alloc (Nat.le_refl _) _))
    have HC4 : Hid (W4.heap[w3.heap.size]? = some (.cells #[.int .i64 (cx 0), .int .i64 (cx 1), .int .i64 (cx 2), .int .i64 (cx 3)] 34)) := (by rw [hW4]; exact heap_alloc_new w3 _)
    clear hW4 hb3 x0 x1 x2 x3 x4 x5 x6 x7 x8 x9 y0 y1
    obtain ⟨x0, x1, x2, x3, x4, x5, x6, x7, x8, x9, y0, y1⟩ := HX4.out.cells
    have q0 := (cells_of0 HC4.out).1 0
    have q1 := (cells_of0 HC4.out).1 1
    have q2 := (cells_of0 HC4.out).1 2
    have q3 := (cells_of0 HC4.out).1 3
    go_upto_region 9 with (first
      | (go_at_call 13; refine Calls.mono (HPut.out cx _ HB4.out) ?_; rintro e w5 ⟨rfl, hrep5, hF5⟩))
    have HRep5 : Hid _ := hrep5
    have HF5 : Hid (Fr (mapsX _) W4 w5) := hF5
    have HX5 : Hid (StepBox w5 w.heap.size (w.heap.size + 1) ⟨kind, m, a, ob, s, t, c⟩ pb prb) := HX4.out.fr hF5 (HBm.out _ (Nat.le_refl _)) (HBm.out _ (by omega))
    have HC5 : Hid (w5.heap[w3.heap.size]? = some (.cells #[.int .i64 (cx 0), .int .i64 (cx 1), .int .i64 (cx 2), .int .i64 (cx 3)] 34)) := hF5.heap HC4.out (HBm.out _ (by omega))
    clear hrep5 hF5 x0 x1 x2 x3 x4 x5 x6 x7 x8 x9 y0 y1 q0 q1 q2 q3
    obtain ⟨x0, x1, x2, x3, x4, x5, x6, x7, x8, x9, y0, y1⟩ := HX5.out.cells
    have q0 := (cells_of0 HC5.out).1 0
    have q1 := (cells_of0 HC5.out).1 1
    have q2 := (cells_of0 HC5.out).1 2
    have q3 := (cells_of0 HC5.out).1 3
    go_wp2_with (first
      | (go_at_call 14; refine Calls.mono (HRef.out cx _ W4 HB4.out HF5.out) ?_; rintro e w6 ⟨rfl, ⟨sv', l', ht6, hl6⟩, hF6⟩; have HT6 : Hid _ := ht6; have HF6 : Hid _ := hF6; clear ht6 hF6))
    go_ret
    exact ⟨by simp, HFin.out cx W4 w5 w6 sv' l' HB4.out HRep5.out HF5.out HT6.out hl6 HF6.out⟩
end Go.Proofs.YtldmcdeibiclkaaGreat
