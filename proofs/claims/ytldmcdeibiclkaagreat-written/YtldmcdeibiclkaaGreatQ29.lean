/-
  Contract: step: a Delete.
  Contract: step: a Get.
  Contract: step: a question for the keys.
-/
import Derived.Test.YtldmcdeibiclkaaGreatQ28
set_option linter.unusedVariables false
set_option linter.unusedSimpArgs false

namespace Go.Proofs.YtldmcdeibiclkaaGreat
open Go.RowKit

set_option maxRecDepth 100000 in
set_option maxHeartbeats 4000000 in
theorem step_del (wb : Nat) (pv hv : Value) (gs : List PG) (hs : List Nat) (o : OpG) (w : World) (h : LawAt w wb pv hv gs hs) (h0 : 0 < gs.length) (hlen : gs.length ≤ 4000000000000) (hm1 : -9223372036854775808 ≤ o.m) (hm2 : o.m ≤ 9223372036854775807) (hk : o.kind = 3) (hl : ∀ g ∈ gs, g.l.length ≤ 1900000000000) (hos : o.s.size ≤ maxLen) (hot : o.t.size ≤ maxLen) (hb1 : -9223372036854775808 ≤ o.b) (hb2 : o.b ≤ 9223372036854775807) :
    Calls Tryz.prog 9 #[.pointer (some ⟨wb, 0, none⟩), .agg (opV o)] w fun e w' => e = .returned (.bool true) ∧ ∃ gs', LawAt w' wb pv hv gs' hs ∧ gs'.length = gs.length ∧ (∀ g' ∈ gs', ∃ g ∈ gs, g'.bm = g.bm ∧ g'.rb = g.rb ∧ g'.l.length ≤ g.l.length + 1) ∧ Fr (fun k => ∃ g ∈ gs, mapsX g.bm k ∨ k = g.rb) w w' := by
  have hrow := h.prow
  obtain ⟨ad, cap, rfl, hcap, hlc⟩ := row_lenA hrow
  have c0 : w.cell? ⟨wb, 0, none⟩ = some (.slice ad gs.length cap) := (cells_of0 h.blk).1 0
  obtain ⟨q, p, hq, hq1, hq2, hpe, hpe', hpl⟩ := which_pair o.m gs.length h0
  obtain ⟨g, cap', hsv, _, _, hg, hcells⟩ := row_cellA hrow h0
  cases hsv
  obtain ⟨f0, f1⟩ := flatP_get gs p hpl
  have p0 := hcells _ _ (by omega) f0
  have p1 := hcells _ _ (by omega) f1
  have hwb : wb < w.heap.size := (Array.getElem?_eq_some_iff.1 h.blk).1
  have HSeen : Hid (∀ W, Below w.heap.size w W → Calls Tryz.prog 12 #[.pointer (some ⟨wb, 0, none⟩), .agg (opV o)] W fun e w' => ∃ c : Ctx, e = .returned (ctxV c) ∧ Below W.heap.size W w') := fun W hW => seen_any wb _ hv gs hs o W (h.below hW) h0 hlen hl hos hb1 hb2
  obtain ⟨er, her⟩ : ∃ er : Ctx → Int, ∀ x, delErr gs[p].K o.s x = er x := ⟨_, fun _ => rfl⟩
  have HPut : Hid (∀ x W, Below w.heap.size w W → Calls Tryz.prog 15 #[.pointer (some ⟨gs[p].b, 0, none⟩), .string o.s, ctxV x] W fun e w' => e = .returned (.int .i64 (er x)) ∧ RepAt w' gs[p].b gs[p].bm gs[p].num (delK gs[p].K o.s x) ∧ Fr (mapsX gs[p].bm) W w') := fun x W hW => by
    have := del_all gs[p].b gs[p].num gs[p].bm gs[p].K o.s x W ((h.pairs _ (List.getElem_mem hpl)).rep.below hW) (h.pairs _ (List.getElem_mem hpl)).inv hos
    rw [her] at this
    exact this
  have HRef : Hid (∀ x W V, Below w.heap.size w V → Fr (mapsX gs[p].bm) V W → Calls Tryz.prog 16 #[.pointer (some ⟨gs[p].rb, 0, none⟩), .string o.s, ctxV x] W fun e w' => e = .returned (.int .i64 (er x)) ∧ (∃ sv' l', TiedAt w' gs[p].rb gs[p].num sv' l' (delK gs[p].K o.s x) ∧ l'.length ≤ gs[p].l.length + 1) ∧ Fr (fun k => k = gs[p].rb) W w') := fun x W V hV hF => by
    have := refDel_all gs[p].rb gs[p].num gs[p].sv gs[p].l gs[p].K o.s x W (((h.pairs _ (List.getElem_mem hpl)).below hV).tied_maps hF) (h.pairs _ (List.getElem_mem hpl)).inv (hl _ (List.getElem_mem hpl)) hos
    rw [her] at this
    exact this
  have HFin : Hid (∀ x V w5 w' sv' l', Below w.heap.size w V → RepAt w5 gs[p].b gs[p].bm gs[p].num (delK gs[p].K o.s x) → Fr (mapsX gs[p].bm) V w5 → TiedAt w' gs[p].rb gs[p].num sv' l' (delK gs[p].K o.s x) → l'.length ≤ gs[p].l.length + 1 → Fr (fun k => k = gs[p].rb) w5 w' → ∃ gs', LawAt w' wb (.slice (some ⟨g, 0, none⟩) gs.length cap) hv gs' hs ∧ gs'.length = gs.length ∧ (∀ g' ∈ gs', ∃ g ∈ gs, g'.bm = g.bm ∧ g'.rb = g.rb ∧ g'.l.length ≤ g.l.length + 1) ∧ Fr (fun k => ∃ g ∈ gs, mapsX g.bm k ∨ k = g.rb) w w') := fun x V w5 w' sv' l' hV h1 h2 h3 h4 h5 => h.turned p hpl _ (del_inv (h.pairs _ (List.getElem_mem hpl)).inv) hV h1 h2 h3 h4 h5
  have hbm : ∀ n, n < 64 → gs[p].bm n < w.heap.size := fun n hn => by
    obtain ⟨es, c, hm⟩ := (h.pairs _ (List.getElem_mem hpl)).kinds.2.1 n hn
    exact (Array.getElem?_eq_some_iff.1 hm).1
  have HBm : Hid (∀ k, w.heap.size ≤ k → ¬ mapsX gs[p].bm k) := fun k hk ⟨n, hn, e⟩ => by have := hbm n hn; omega
  clear her hbm
  generalize gs[p] = gp at *
  generalize gp.b = pb at *
  generalize gp.rb = prb at *
  have i0 : (0 : Int) ≤ (p : Int) := by omega
  have i1 : (p : Int) < (gs.length : Int) := by omega
  have n1 : (0 : Int) < (gs.length : Int) := by omega
  clear h hrow hcells f0 f1
  generalize gs.length = gl at *
  have n2 : ¬ gl = 0 := by omega
  have n3 : ¬ (gl : Int) = 0 := by omega
  have n4 : ((gl : Int) == 0) = false := by simpa using n2
  have w1 : IntKind.i64.wrap (q + (gl : Int)) = q + gl := wrap_small (by omega) (by omega)
  have w2 : IntKind.i64.wrap q = q := wrap_small (by omega) (by omega)
  have w3 : IntKind.i64.wrap (p : Int) = p := wrap_small (by omega) (by omega)
  have hpq : q % (gl : Int) = p := by rw [← hpe', Int.add_emod_right]
  obtain ⟨kind, m, a, ob, s, t, c⟩ := o
  have k1 : (kind == 1) = false := beq_eq_false_iff_ne.2 (by have : kind = 3 := hk; omega)
  have k2 : (kind == 2) = false := beq_eq_false_iff_ne.2 (by have : kind = 3 := hk; omega)
  have k3 : (kind == 3) = true := beq_iff_eq.2 hk
  clear hk
  simp only [opV] at *
  go_enter Tryz.func9, Tryz.ntmps9
  go_upto_region 4 with fail
  obtain ⟨W0, hW0⟩ : ∃ W, W = w.alloc (.cells #[.int .i64 kind, .int .i64 m, .int .i64 a, .int .i64 ob, .string s, .string t, .int .i64 (c 0), .int .i64 (c 1), .int .i64 (c 2), .int .i64 (c 3)] 36) := ⟨_, rfl⟩
  rw [← hW0]
  have HB0 : Hid (Below w.heap.size w W0) := (by rw [hW0]; exact (Below.refl _ _).alloc (Nat.le_refl _) _)
  have z0 : W0.heap.size = w.heap.size + 1 := by rw [hW0]; simp
  have HOp : Hid (W0.heap[w.heap.size]? = some (.cells #[.int .i64 kind, .int .i64 m, .int .i64 a, .int .i64 ob, .string s, .string t, .int .i64 (c 0), .int .i64 (c 1), .int .i64 (c 2), .int .i64 (c 3)] 36)) := (by rw [hW0]; exact heap_alloc_new w _)
  have y1 : W0.cell? ⟨w.heap.size, 1, none⟩ = some (.int .i64 m) := (cells_of0 HOp.out).1 1
  have b0 := cell_keep c0 HB0.out
  have b1 := cell_keep p0 HB0.out
  have b2 := cell_keep p1 HB0.out
  have hmk : Hid (∀ w', Below W0.heap.size W0 w' → w'.cell? ⟨wb, 0, none⟩ = some (.slice (some ⟨g, 0, none⟩) gl cap) ∧ w'.cell? ⟨g, p * 2, none⟩ = some (.pointer (some ⟨pb, 0, none⟩)) ∧ w'.cell? ⟨g, p * 2 + 1, none⟩ = some (.pointer (some ⟨prb, 0, none⟩)) ∧ w'.cell? ⟨w.heap.size, 1, none⟩ = some (.int .i64 m)) := fun w' hw => ⟨cell_keep b0 hw, cell_keep b1 hw, cell_keep b2 hw, cell_keep y1 hw⟩
  clear hW0 c0 p0 p1 b0 b1 b2 y1
  go_region_held3 (fun w' => w'.cell? ⟨wb, 0, none⟩ = some (.slice (some ⟨g, 0, none⟩) gl cap) ∧ w'.cell? ⟨g, p * 2, none⟩ = some (.pointer (some ⟨pb, 0, none⟩)) ∧ w'.cell? ⟨g, p * 2 + 1, none⟩ = some (.pointer (some ⟨prb, 0, none⟩)) ∧ w'.cell? ⟨w.heap.size, 1, none⟩ = some (.int .i64 m))
    ((refine hmk.out _ ?_; simp (maxDischargeDepth := 12) [Below.refl, Below.drew, Below.alloc, Below.setCell]; done))
    (fail)
  all_goals
    clear hpe hpe' hpq w1 w2 w3 n4
    try rw [z0]
    obtain ⟨W2, hW2⟩ : ∃ W, W = (W0.alloc (.cells #[.pointer (some ⟨pb, 0, none⟩), .pointer (some ⟨prb, 0, none⟩)] 47)).drew := ⟨_, rfl⟩
    rw [← hW2]
    have HB2 : Hid (Below w.heap.size w W2) := (by rw [hW2]; exact (HB0.out.alloc (by omega) _).drew)
    have HX2 : Hid (StepBox W2 w.heap.size (w.heap.size + 1) ⟨kind, m, a, ob, s, t, c⟩ pb prb) := (by
      rw [hW2]
      refine ⟨(Below.heap_alloc W0 _ _ (by omega)).trans HOp.out, ?_⟩
      rw [← z0]
      exact heap_alloc_new W0 _)
    have z2 : W2.heap.size = w.heap.size + 2 := by rw [hW2]; simp; omega
    obtain ⟨x0, x1, x2, x3, x4, x5, x6, x7, x8, x9, y0, y1⟩ := HX2.out.cells
    clear hW2 hmk z0 HOp HB0
    go_upto_region 13 with (first
      | (go_at_call 12; refine Calls.mono (HSeen.out _ HB2.out) ?_; rintro e w3 ⟨cx, rfl, hb3⟩))
    have z3 := hb3.size
    obtain ⟨W4, hW4⟩ : ∃ W, W = w3.alloc (.cells #[.int .i64 (cx 0), .int .i64 (cx 1), .int .i64 (cx 2), .int .i64 (cx 3)] 34) := ⟨_, rfl⟩
    rw [← hW4]
    have HB4 : Hid (Below w.heap.size w W4) := (by rw [hW4]; exact (HB2.out.trans (hb3.mono (by omega))).alloc (by omega) _)
    have HX4 : Hid (StepBox W4 w.heap.size (w.heap.size + 1) ⟨kind, m, a, ob, s, t, c⟩ pb prb) := (by rw [hW4]; exact (HX2.out.below hb3).below ((Below.refl _ _).alloc (Nat.le_refl _) _))
    have HC4 : Hid (W4.heap[w3.heap.size]? = some (.cells #[.int .i64 (cx 0), .int .i64 (cx 1), .int .i64 (cx 2), .int .i64 (cx 3)] 34)) := (by rw [hW4]; exact heap_alloc_new w3 _)
    clear hW4 hb3 x0 x1 x2 x3 x4 x5 x6 x7 x8 x9 y0 y1
    obtain ⟨x0, x1, x2, x3, x4, x5, x6, x7, x8, x9, y0, y1⟩ := HX4.out.cells
    have q0 := (cells_of0 HC4.out).1 0
    have q1 := (cells_of0 HC4.out).1 1
    have q2 := (cells_of0 HC4.out).1 2
    have q3 := (cells_of0 HC4.out).1 3
    go_upto_region 14 with (first
      | (go_at_call 15; refine Calls.mono (HPut.out cx _ HB4.out) ?_; rintro e w5 ⟨rfl, hrep5, hF5⟩))
    have HRep5 : Hid _ := hrep5
    have HF5 : Hid (Fr (mapsX _) W4 w5) := hF5
    have HX5 : Hid (StepBox w5 w.heap.size (w.heap.size + 1) ⟨kind, m, a, ob, s, t, c⟩ pb prb) := HX4.out.fr hF5 (HBm.out _ (Nat.le_refl _)) (HBm.out _ (by omega))
    have HC5 : Hid (w5.heap[w3.heap.size]? = some (.cells #[.int .i64 (cx 0), .int .i64 (cx 1), .int .i64 (cx 2), .int .i64 (cx 3)] 34)) := hF5.heap HC4.out (HBm.out _ (by omega))
    clear hrep5 hF5 x0 x1 x2 x3 x4 x5 x6 x7 x8 x9 y0 y1 q0 q1 q2 q3
    obtain ⟨x0, x1, x2, x3, x4, x5, x6, x7, x8, x9, y0, y1⟩ := HX5.out.cells
    have q0 := (cells_of0 HC5.out).1 0
    have q1 := (cells_of0 HC5.out).1 1
    have q2 := (cells_of0 HC5.out).1 2
    have q3 := (cells_of0 HC5.out).1 3
    go_wp2_with (first
      | (go_at_call 16; refine Calls.mono (HRef.out cx _ W4 HB4.out HF5.out) ?_; rintro e w6 ⟨rfl, ⟨sv', l', ht6, hl6⟩, hF6⟩; have HT6 : Hid _ := ht6; have HF6 : Hid _ := hF6; clear ht6 hF6))
    go_ret
    exact ⟨by simp, HFin.out cx W4 w5 w6 sv' l' HB4.out HRep5.out HF5.out HT6.out hl6 HF6.out⟩
end Go.Proofs.YtldmcdeibiclkaaGreat

namespace Go.Proofs.YtldmcdeibiclkaaGreat
open Go.RowKit

set_option maxRecDepth 100000 in
set_option maxHeartbeats 4000000 in
theorem step_get (wb : Nat) (pv hv : Value) (gs : List PG) (hs : List Nat) (o : OpG) (w : World) (h : LawAt w wb pv hv gs hs) (h0 : 0 < gs.length) (hlen : gs.length ≤ 4000000000000) (hm1 : -9223372036854775808 ≤ o.m) (hm2 : o.m ≤ 9223372036854775807) (hk : o.kind = 4) (hhl : hs.length ≤ 7000000000000) (hl : ∀ g ∈ gs, g.l.length ≤ 1900000000000) (hos : o.s.size ≤ maxLen) (hot : o.t.size ≤ maxLen) :
    Calls Tryz.prog 9 #[.pointer (some ⟨wb, 0, none⟩), .agg (opV o)] w fun e w' => e = .returned (.bool true) ∧ ∃ (hv' : Value) (hs' : List Nat), LawAt w' wb pv hv' gs hs' ∧ hs'.length = hs.length + 3 ∧ Fr (fun k => k = wb ∨ hv.ownBlock = some k) w w' ∧ ∀ k, hv'.ownBlock = some k → hv.ownBlock = some k ∨ w.heap.size ≤ k := by
  have hrow := h.prow
  obtain ⟨ad, cap, rfl, hcap, hlc⟩ := row_lenA hrow
  have c0 : w.cell? ⟨wb, 0, none⟩ = some (.slice ad gs.length cap) := (cells_of0 h.blk).1 0
  obtain ⟨q, p, hq, hq1, hq2, hpe, hpe', hpl⟩ := which_pair o.m gs.length h0
  obtain ⟨g, cap', hsv, _, _, hg, hcells⟩ := row_cellA hrow h0
  cases hsv
  obtain ⟨f0, f1⟩ := flatP_get gs p hpl
  have p0 := hcells _ _ (by omega) f0
  have p1 := hcells _ _ (by omega) f1
  have hwb : wb < w.heap.size := (Array.getElem?_eq_some_iff.1 h.blk).1
  have HG : Hid (∀ W, Below w.heap.size w W → Calls Tryz.prog 17 #[.pointer (some ⟨wb, 0, none⟩), .agg #[.pointer (some ⟨gs[p].b, 0, none⟩), .pointer (some ⟨gs[p].rb, 0, none⟩)], .agg (opV o)] W fun e w' => e = .returned (.bool true) ∧ ∃ (hv' : Value) (hs' : List Nat), LawAt w' wb (.slice (some ⟨g, 0, none⟩) gs.length cap) hv' gs hs' ∧ hs'.length = hs.length + 3 ∧ Fr (fun k => k = wb ∨ hv.ownBlock = some k) w w' ∧ ∀ k, hv'.ownBlock = some k → hv.ownBlock = some k ∨ w.heap.size ≤ k) := fun W hW =>
    (gets_any wb _ hv gs hs gs[p] o W (h.below hW) (List.getElem_mem hpl) (by omega) (hl _ (List.getElem_mem hpl)) hos hot).mono fun e w' ⟨he, hv', hs', h1, h2, h3, h4⟩ => ⟨he, hv', hs', h1, h2, (Fr.of_below hW).trans h3, fun k hk => (h4 k hk).imp id fun h => Nat.le_trans hW.size h⟩
  generalize gs[p] = gp at *
  generalize gp.b = pb at *
  generalize gp.rb = prb at *
  have i0 : (0 : Int) ≤ (p : Int) := by omega
  have i1 : (p : Int) < (gs.length : Int) := by omega
  have n1 : (0 : Int) < (gs.length : Int) := by omega
  clear h hrow hcells f0 f1
  generalize gs.length = gl at *
  have n2 : ¬ gl = 0 := by omega
  have n3 : ¬ (gl : Int) = 0 := by omega
  have n4 : ((gl : Int) == 0) = false := by simpa using n2
  have w1 : IntKind.i64.wrap (q + (gl : Int)) = q + gl := wrap_small (by omega) (by omega)
  have w2 : IntKind.i64.wrap q = q := wrap_small (by omega) (by omega)
  have w3 : IntKind.i64.wrap (p : Int) = p := wrap_small (by omega) (by omega)
  have hpq : q % (gl : Int) = p := by rw [← hpe', Int.add_emod_right]
  obtain ⟨kind, m, a, ob, s, t, c⟩ := o
  have k1 : (kind == 1) = false := beq_eq_false_iff_ne.2 (by have : kind = 4 := hk; omega)
  have k2 : (kind == 2) = false := beq_eq_false_iff_ne.2 (by have : kind = 4 := hk; omega)
  have k3 : (kind == 3) = false := beq_eq_false_iff_ne.2 (by have : kind = 4 := hk; omega)
  have k4 : (kind == 4) = true := beq_iff_eq.2 hk
  clear hk
  simp only [opV] at *
  go_enter Tryz.func9, Tryz.ntmps9
  go_upto_region 4 with fail
  obtain ⟨W0, hW0⟩ : ∃ W, W = w.alloc (.cells #[.int .i64 kind, .int .i64 m, .int .i64 a, .int .i64 ob, .string s, .string t, .int .i64 (c 0), .int .i64 (c 1), .int .i64 (c 2), .int .i64 (c 3)] 36) := ⟨_, rfl⟩
  rw [← hW0]
  have HB0 : Hid (Below w.heap.size w W0) := (by rw [hW0]; exact (Below.refl _ _).alloc (Nat.le_refl _) _)
  have z0 : W0.heap.size = w.heap.size + 1 := by rw [hW0]; simp
  have HOp : Hid (W0.heap[w.heap.size]? = some (.cells #[.int .i64 kind, .int .i64 m, .int .i64 a, .int .i64 ob, .string s, .string t, .int .i64 (c 0), .int .i64 (c 1), .int .i64 (c 2), .int .i64 (c 3)] 36)) := (by rw [hW0]; exact heap_alloc_new w _)
  have y1 : W0.cell? ⟨w.heap.size, 1, none⟩ = some (.int .i64 m) := (cells_of0 HOp.out).1 1
  have b0 := cell_keep c0 HB0.out
  have b1 := cell_keep p0 HB0.out
  have b2 := cell_keep p1 HB0.out
  have hmk : Hid (∀ w', Below W0.heap.size W0 w' → w'.cell? ⟨wb, 0, none⟩ = some (.slice (some ⟨g, 0, none⟩) gl cap) ∧ w'.cell? ⟨g, p * 2, none⟩ = some (.pointer (some ⟨pb, 0, none⟩)) ∧ w'.cell? ⟨g, p * 2 + 1, none⟩ = some (.pointer (some ⟨prb, 0, none⟩)) ∧ w'.cell? ⟨w.heap.size, 1, none⟩ = some (.int .i64 m)) := fun w' hw => ⟨cell_keep b0 hw, cell_keep b1 hw, cell_keep b2 hw, cell_keep y1 hw⟩
  clear hW0 c0 p0 p1 b0 b1 b2 y1
  go_region_held3 (fun w' => w'.cell? ⟨wb, 0, none⟩ = some (.slice (some ⟨g, 0, none⟩) gl cap) ∧ w'.cell? ⟨g, p * 2, none⟩ = some (.pointer (some ⟨pb, 0, none⟩)) ∧ w'.cell? ⟨g, p * 2 + 1, none⟩ = some (.pointer (some ⟨prb, 0, none⟩)) ∧ w'.cell? ⟨w.heap.size, 1, none⟩ = some (.int .i64 m))
    ((refine hmk.out _ ?_; simp (maxDischargeDepth := 12) [Below.refl, Below.drew, Below.alloc, Below.setCell]; done))
    (fail)
  all_goals
    clear hpe hpe' hpq w1 w2 w3 n4
    try rw [z0]
    obtain ⟨W2, hW2⟩ : ∃ W, W = (W0.alloc (.cells #[.pointer (some ⟨pb, 0, none⟩), .pointer (some ⟨prb, 0, none⟩)] 47)).drew := ⟨_, rfl⟩
    rw [← hW2]
    have HB2 : Hid (Below w.heap.size w W2) := (by rw [hW2]; exact (HB0.out.alloc (by omega) _).drew)
    have HX2 : Hid (StepBox W2 w.heap.size (w.heap.size + 1) ⟨kind, m, a, ob, s, t, c⟩ pb prb) := (by
      rw [hW2]
      refine ⟨(Below.heap_alloc W0 _ _ (by omega)).trans HOp.out, ?_⟩
      rw [← z0]
      exact heap_alloc_new W0 _)
    have z2 : W2.heap.size = w.heap.size + 2 := by rw [hW2]; simp; omega
    obtain ⟨x0, x1, x2, x3, x4, x5, x6, x7, x8, x9, y0, y1⟩ := HX2.out.cells
    clear hW2 hmk z0 HOp HB0
    go_wp2_with (first
      | (go_at_call 17; refine Calls.mono (HG.out _ HB2.out) ?_; rintro e w3 ⟨rfl, hres⟩; have HRes : Hid _ := hres; clear hres))
    go_ret
    exact ⟨rfl, HRes.out⟩
end Go.Proofs.YtldmcdeibiclkaaGreat

namespace Go.Proofs.YtldmcdeibiclkaaGreat
open Go.RowKit

set_option maxRecDepth 100000 in
set_option maxHeartbeats 4000000 in
theorem step_keys (wb : Nat) (pv hv : Value) (gs : List PG) (hs : List Nat) (o : OpG) (w : World) (h : LawAt w wb pv hv gs hs) (h0 : 0 < gs.length) (hlen : gs.length ≤ 4000000000000) (hm1 : -9223372036854775808 ≤ o.m) (hm2 : o.m ≤ 9223372036854775807) (hk : o.kind = 5) (hhl : hs.length ≤ 7000000000000) (hl : ∀ g ∈ gs, g.l.length ≤ 1900000000000) :
    Calls Tryz.prog 9 #[.pointer (some ⟨wb, 0, none⟩), .agg (opV o)] w fun e w' => e = .returned (.bool true) ∧ ∃ (hv' : Value) (hs' : List Nat), LawAt w' wb pv hv' gs hs' ∧ hs'.length = hs.length + 2 ∧ Fr (fun k => k = wb ∨ hv.ownBlock = some k) w w' ∧ ∀ k, hv'.ownBlock = some k → hv.ownBlock = some k ∨ w.heap.size ≤ k := by
  have hrow := h.prow
  obtain ⟨ad, cap, rfl, hcap, hlc⟩ := row_lenA hrow
  have c0 : w.cell? ⟨wb, 0, none⟩ = some (.slice ad gs.length cap) := (cells_of0 h.blk).1 0
  obtain ⟨q, p, hq, hq1, hq2, hpe, hpe', hpl⟩ := which_pair o.m gs.length h0
  obtain ⟨g, cap', hsv, _, _, hg, hcells⟩ := row_cellA hrow h0
  cases hsv
  obtain ⟨f0, f1⟩ := flatP_get gs p hpl
  have p0 := hcells _ _ (by omega) f0
  have p1 := hcells _ _ (by omega) f1
  have hwb : wb < w.heap.size := (Array.getElem?_eq_some_iff.1 h.blk).1
  have HG : Hid (∀ W, Below w.heap.size w W → Calls Tryz.prog 18 #[.pointer (some ⟨wb, 0, none⟩), .agg #[.pointer (some ⟨gs[p].b, 0, none⟩), .pointer (some ⟨gs[p].rb, 0, none⟩)]] W fun e w' => e = .returned (.bool true) ∧ ∃ (hv' : Value) (hs' : List Nat), LawAt w' wb (.slice (some ⟨g, 0, none⟩) gs.length cap) hv' gs hs' ∧ hs'.length = hs.length + 2 ∧ Fr (fun k => k = wb ∨ hv.ownBlock = some k) w w' ∧ ∀ k, hv'.ownBlock = some k → hv.ownBlock = some k ∨ w.heap.size ≤ k) := fun W hW =>
    (lawKeys_any wb _ hv gs hs gs[p] W (h.below hW) (List.getElem_mem hpl) (by omega) (hl _ (List.getElem_mem hpl))).mono fun e w' ⟨he, hv', hs', h1, h2, h3, h4⟩ => ⟨he, hv', hs', h1, h2, (Fr.of_below hW).trans h3, fun k hk => (h4 k hk).imp id fun h => Nat.le_trans hW.size h⟩
  generalize gs[p] = gp at *
  generalize gp.b = pb at *
  generalize gp.rb = prb at *
  have i0 : (0 : Int) ≤ (p : Int) := by omega
  have i1 : (p : Int) < (gs.length : Int) := by omega
  have n1 : (0 : Int) < (gs.length : Int) := by omega
  clear h hrow hcells f0 f1
  generalize gs.length = gl at *
  have n2 : ¬ gl = 0 := by omega
  have n3 : ¬ (gl : Int) = 0 := by omega
  have n4 : ((gl : Int) == 0) = false := by simpa using n2
  have w1 : IntKind.i64.wrap (q + (gl : Int)) = q + gl := wrap_small (by omega) (by omega)
  have w2 : IntKind.i64.wrap q = q := wrap_small (by omega) (by omega)
  have w3 : IntKind.i64.wrap (p : Int) = p := wrap_small (by omega) (by omega)
  have hpq : q % (gl : Int) = p := by rw [← hpe', Int.add_emod_right]
  obtain ⟨kind, m, a, ob, s, t, c⟩ := o
  have k1 : (kind == 1) = false := beq_eq_false_iff_ne.2 (by have : kind = 5 := hk; omega)
  have k2 : (kind == 2) = false := beq_eq_false_iff_ne.2 (by have : kind = 5 := hk; omega)
  have k3 : (kind == 3) = false := beq_eq_false_iff_ne.2 (by have : kind = 5 := hk; omega)
  have k4 : (kind == 4) = false := beq_eq_false_iff_ne.2 (by have : kind = 5 := hk; omega)
  have k5 : (kind == 5) = true := beq_iff_eq.2 hk
  clear hk
  simp only [opV] at *
  go_enter Tryz.func9, Tryz.ntmps9
  go_upto_region 4 with fail
  obtain ⟨W0, hW0⟩ : ∃ W, W = w.alloc (.cells #[.int .i64 kind, .int .i64 m, .int .i64 a, .int .i64 ob, .string s, .string t, .int .i64 (c 0), .int .i64 (c 1), .int .i64 (c 2), .int .i64 (c 3)] 36) := ⟨_, rfl⟩
  rw [← hW0]
  have HB0 : Hid (Below w.heap.size w W0) := (by rw [hW0]; exact (Below.refl _ _).alloc (Nat.le_refl _) _)
  have z0 : W0.heap.size = w.heap.size + 1 := by rw [hW0]; simp
  have HOp : Hid (W0.heap[w.heap.size]? = some (.cells #[.int .i64 kind, .int .i64 m, .int .i64 a, .int .i64 ob, .string s, .string t, .int .i64 (c 0), .int .i64 (c 1), .int .i64 (c 2), .int .i64 (c 3)] 36)) := (by rw [hW0]; exact heap_alloc_new w _)
  have y1 : W0.cell? ⟨w.heap.size, 1, none⟩ = some (.int .i64 m) := (cells_of0 HOp.out).1 1
  have b0 := cell_keep c0 HB0.out
  have b1 := cell_keep p0 HB0.out
  have b2 := cell_keep p1 HB0.out
  have hmk : Hid (∀ w', Below W0.heap.size W0 w' → w'.cell? ⟨wb, 0, none⟩ = some (.slice (some ⟨g, 0, none⟩) gl cap) ∧ w'.cell? ⟨g, p * 2, none⟩ = some (.pointer (some ⟨pb, 0, none⟩)) ∧ w'.cell? ⟨g, p * 2 + 1, none⟩ = some (.pointer (some ⟨prb, 0, none⟩)) ∧ w'.cell? ⟨w.heap.size, 1, none⟩ = some (.int .i64 m)) := fun w' hw => ⟨cell_keep b0 hw, cell_keep b1 hw, cell_keep b2 hw, cell_keep y1 hw⟩
  clear hW0 c0 p0 p1 b0 b1 b2 y1
  go_region_held3 (fun w' => w'.cell? ⟨wb, 0, none⟩ = some (.slice (some ⟨g, 0, none⟩) gl cap) ∧ w'.cell? ⟨g, p * 2, none⟩ = some (.pointer (some ⟨pb, 0, none⟩)) ∧ w'.cell? ⟨g, p * 2 + 1, none⟩ = some (.pointer (some ⟨prb, 0, none⟩)) ∧ w'.cell? ⟨w.heap.size, 1, none⟩ = some (.int .i64 m))
    ((refine hmk.out _ ?_; simp (maxDischargeDepth := 12) [Below.refl, Below.drew, Below.alloc, Below.setCell]; done))
    (fail)
  all_goals
    clear hpe hpe' hpq w1 w2 w3 n4
    try rw [z0]
    obtain ⟨W2, hW2⟩ : ∃ W, W = (W0.alloc (.cells #[.pointer (some ⟨pb, 0, none⟩), .pointer (some ⟨prb, 0, none⟩)] 47)).drew := ⟨_, rfl⟩
    rw [← hW2]
    have HB2 : Hid (Below w.heap.size w W2) := (by rw [hW2]; exact (HB0.out.alloc (by omega) _).drew)
    have HX2 : Hid (StepBox W2 w.heap.size (w.heap.size + 1) ⟨kind, m, a, ob, s, t, c⟩ pb prb) := (by
      rw [hW2]
      refine ⟨(Below.heap_alloc W0 _ _ (by omega)).trans HOp.out, ?_⟩
      rw [← z0]
      exact heap_alloc_new W0 _)
    have z2 : W2.heap.size = w.heap.size + 2 := by rw [hW2]; simp; omega
    obtain ⟨x0, x1, x2, x3, x4, x5, x6, x7, x8, x9, y0, y1⟩ := HX2.out.cells
    clear hW2 hmk z0 HOp HB0
    go_wp2_with (first
      | (go_at_call 18; refine Calls.mono (HG.out _ HB2.out) ?_; rintro e w3 ⟨rfl, hres⟩; have HRes : Hid _ := hres; clear hres))
    go_ret
    exact ⟨rfl, HRes.out⟩
end Go.Proofs.YtldmcdeibiclkaaGreat
