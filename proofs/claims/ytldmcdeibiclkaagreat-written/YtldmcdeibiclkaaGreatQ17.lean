/-
  Contracts of the reference: Put, done.
-/
import Derived.Test.YtldmcdeibiclkaaGreatQ16
set_option linter.unusedVariables false
set_option linter.unusedSimpArgs false

namespace Go.Proofs.YtldmcdeibiclkaaGreat
open Go.RowKit

theorem bump_at (c : Ctx) (n : Nat) : bump c n n = c n + 1 := by simp [bump]

set_option maxRecDepth 100000 in
set_option maxHeartbeats 4000000 in
theorem refPut_ok (b n : Nat) (sv : Value) (l : List RKey) (name na value : ByteArray) (seen c : Ctx) (av : Option Addr) (cv : Nat) (vl : List Ver) (w : World) (h : RefAt w b n sv l) (hsl : ∀ q ∈ l, ∃ ad m cap, q.2.2 = .slice ad m cap) (hlen : l.length ≤ 1900000000000) (hf : findK l name = (na, c, .slice av vl.length cv)) (hv : ASl w (.slice av vl.length cv) vl) (hr : ∀ v ∈ vl, v.rep < 4) (hvl : vl.length ≤ 100000) (hs : name.size ≤ maxLen) (hkey : keyB name = true) (hsd : soundB seen = true) (hn4 : n < 4) (hv12 : value.size ≤ 12) (hlim : (unseenL vl seen).length < 20) (hd2 : c n < 1000000) (hd3 : seen n < 1000000) (hbn : 0 ≤ bothC c seen n) :
    Calls Tryz.prog 14 #[.pointer (some ⟨b, 0, none⟩), .string name, .string value, ctxV seen] w fun e w' => e = .returned (.int .i64 0) ∧ ∃ sv' ad' cap', w'.heap[b]? = some (.cells #[.int .i64 n, sv'] 45) ∧ w'.ownsRow w.heap.size 82 6 sv' (setK l (na, bump (bothC c seen) n, .slice ad' ((unseenL vl seen).length + 1) cap')).length (flatK (setK l (na, bump (bothC c seen) n, .slice ad' ((unseenL vl seen).length + 1) cap'))) ∧ w'.ownsRow w.heap.size 88 3 (.slice ad' ((unseenL vl seen).length + 1) cap') ((unseenL vl seen).length + 1) (flatV (insL (unseenL vl seen) (n, bothC c seen n + 1, value))) ∧ Fr (fun k => k = b) w w' := by
  have HCK : Hid (∀ W, Calls Tryz.prog 36 #[.string name] W fun e w' => e = .returned (.bool true) ∧ w' = W) := fun W => by
    have := refKey_any name W hs; rw [hkey] at this; exact this
  have HCX : Hid (∀ W, Calls Tryz.prog 37 #[ctxV seen] W fun e w' => e = .returned (.bool true) ∧ Below W.heap.size W w') := fun W => by
    have := refContext_any seen W; rw [hsd] at this; exact this
  have HKey : Hid (∀ W, Below w.heap.size w W → Calls Tryz.prog 38 #[.pointer (some ⟨b, 0, none⟩), .string name] W fun e w' => e = .returned (keyV (na, c, .slice av vl.length cv)) ∧ Below W.heap.size W w') := fun W hW => by
    have := refKeyOf_any b n sv l name W (h.below hW) hsl hlen; rw [hf] at this; exact this
  have HUn : Hid (∀ W, Below w.heap.size w W → Calls Tryz.prog 39 #[.slice av vl.length cv, ctxV seen] W fun e w' => ∃ v', e = .returned v' ∧ w'.ownsRow W.heap.size 88 3 v' (unseenL vl seen).length (flatV (unseenL vl seen)) ∧ Below W.heap.size W w') := fun W hW => refUnseen_any _ vl seen W (ownsRow_below hv hW (Nat.le_refl _)) hr hvl
  have hbs : b < w.heap.size := (Array.getElem?_eq_some_iff.1 h.1).1
  have HUL : Hid ((unseenL vl seen).length ≤ 100000) := Nat.le_trans (List.length_filter_le _ _) hvl
  have HN : Hid (∀ W, Below w.heap.size w W → W.cell? ⟨b, 0, none⟩ = some (.int .i64 n)) := fun W hW => by rw [(cells_of0 (h.below hW).1).1]; rfl
  have HSet : Hid (∀ cx ad' u' cap' W, Below w.heap.size w W → Calls Tryz.prog 42 #[.pointer (some ⟨b, 0, none⟩), keyV (na, cx, .slice ad' u' cap')] W fun e w' => e = .returned (.tuple #[]) ∧ ∃ sv', w'.heap[b]? = some (.cells #[.int .i64 n, sv'] 45) ∧ w'.ownsRow W.heap.size 82 6 sv' (setK l (na, cx, .slice ad' u' cap')).length (flatK (setK l (na, cx, .slice ad' u' cap'))) ∧ Fr (fun k => k = b) W w') := fun cx ad' u' cap' W hW => refSet_any b n sv l na cx ad' u' cap' W (h.below hW) hsl hlen
  have HBoth : Hid (∀ W, Calls Tryz.prog 40 #[ctxV c, ctxV seen] W fun e w' => e = .returned (ctxV (bothC c seen)) ∧ Below W.heap.size W w') := fun W => refBoth_any c seen W
  have hbb : bothC c seen n < 1000000 := by unfold bothC; rw [Int.max_def]; split <;> omega
  clear hs hkey hsd hsl h hf hv hr
  obtain ⟨u, hu⟩ : ∃ u, (unseenL vl seen).length = u := ⟨_, rfl⟩
  rw [hu] at HUL hlim ⊢
  have HNu : Hid ((unseenL vl seen).length = u) := hu
  have HPut : Hid (∀ ad4 cap4 W, ASl W (.slice ad4 u cap4) (unseenL vl seen) → Calls Tryz.prog 41 #[(.slice ad4 u cap4), .agg #[.int .i64 n, .int .i64 (bothC c seen n + 1), .string value]] W fun e w' => ∃ v', e = .returned v' ∧ w'.ownsRow W.heap.size 88 3 v' (u + 1) (flatV (insL (unseenL vl seen) (n, bothC c seen n + 1, value))) ∧ Below W.heap.size W w') := fun ad4 cap4 W hW => by
    have := refPutL_any (.slice ad4 u cap4) (unseenL vl seen) n (bothC c seen n + 1) value W hW (by omega); rw [HNu.out] at this; exact this
  clear hu
  have n0 : (0 : Int) ≤ (n : Int) := by omega
  have n4 : (n : Int) < 4 := by omega
  have hdv : (value.size : Int) ≤ 12 := by omega
  have hd : (u : Int) < 20 := by omega
  go_enter Tryz.func14, Tryz.ntmps14
  go_upto_region 10 with (first
    | (go_at_call 36; refine Calls.mono (HCK.out _) ?_; rintro e w1 ⟨rfl, rfl⟩)
    | (go_at_call 37; refine Calls.mono (HCX.out _) ?_; rintro e w1 ⟨rfl, hb1⟩; obtain ⟨z1, hx1, hB1⟩ := box_keep hb1; have HB1 : Hid (Below w.heap.size w w1) := hB1; have HX1 : Hid (w1.heap[w.heap.size]? = some (.cells #[.int .i64 (seen 0), .int .i64 (seen 1), .int .i64 (seen 2), .int .i64 (seen 3)] 34)) := hx1; clear hb1 hx1 hB1)
    | (go_at_call 38; refine Calls.mono (HKey.out _ HB1.out) ?_; rintro e w2 ⟨rfl, hb2⟩; have HB2 : Hid (Below w.heap.size w w2) := HB1.out.trans (hb2.mono (by omega)); have z2 := hb2.size; have HX2 : Hid (w2.heap[w.heap.size]? = some (.cells #[.int .i64 (seen 0), .int .i64 (seen 1), .int .i64 (seen 2), .int .i64 (seen 3)] 34)) := (by rw [hb2.block _ (by omega)]; exact HX1.out); have x2 : ∀ X o, (w2.alloc X).cell? ⟨w.heap.size, o, none⟩ = #[Value.int .i64 (seen 0), .int .i64 (seen 1), .int .i64 (seen 2), .int .i64 (seen 3)][o]? := (fun X o => by rw [World.cell?_alloc_lt _ _ _ (show w.heap.size < w2.heap.size by omega)]; exact (cells_of0 HX2.out).1 o); clear hb2))
  obtain ⟨W3, hW3⟩ : ∃ W, W = w2.alloc (.cells #[.string na, .int .i64 (c 0), .int .i64 (c 1), .int .i64 (c 2), .int .i64 (c 3), .slice av vl.length cv] 82) := ⟨_, rfl⟩
  rw [← hW3]
  have HK3 : Hid (W3.heap[w2.heap.size]? = some (.cells #[.string na, .int .i64 (c 0), .int .i64 (c 1), .int .i64 (c 2), .int .i64 (c 3), .slice av vl.length cv] 82)) := (by rw [hW3]; exact heap_alloc_new w2 _)
  have HX3 : Hid (W3.heap[w.heap.size]? = some (.cells #[.int .i64 (seen 0), .int .i64 (seen 1), .int .i64 (seen 2), .int .i64 (seen 3)] 34)) := (by rw [hW3, Below.heap_alloc _ _ _ (show w.heap.size < w2.heap.size by omega)]; exact HX2.out)
  have HB3 : Hid (Below w.heap.size w W3) := (by rw [hW3]; exact HB2.out.alloc (by omega) _)
  have z3 : W3.heap.size = w2.heap.size + 1 := by rw [hW3, size_allocW]
  have k3 : ∀ o, W3.cell? ⟨w2.heap.size, o, none⟩ = #[Value.string na, .int .i64 (c 0), .int .i64 (c 1), .int .i64 (c 2), .int .i64 (c 3), .slice av vl.length cv][o]? := (cells_of0 HK3.out).1
  have x3 : ∀ o, W3.cell? ⟨w.heap.size, o, none⟩ = #[Value.int .i64 (seen 0), .int .i64 (seen 1), .int .i64 (seen 2), .int .i64 (seen 3)][o]? := (cells_of0 HX3.out).1
  clear hW3 x2
  go_upto_region 11 with (first
    | (go_at_call 39; refine Calls.mono (HUn.out _ HB3.out) ?_; rintro e w4 ⟨v', rfl, hown, hb4⟩; rw [HNu.out] at hown; obtain ⟨ad4, cap4, rfl, hcap4, -⟩ := row_lenA hown; have z4 := hb4.size; have HO4 : Hid (w4.ownsRow W3.heap.size 88 3 (.slice ad4 u cap4) u (flatV (unseenL vl seen))) := hown; have HB4 : Hid (Below w.heap.size w w4) := HB3.out.trans (hb4.mono (by omega)); have HK4 : Hid (w4.heap[w2.heap.size]? = some (.cells #[.string na, .int .i64 (c 0), .int .i64 (c 1), .int .i64 (c 2), .int .i64 (c 3), .slice av vl.length cv] 82)) := (by rw [hb4.block _ (by omega)]; exact HK3.out); have HX4 : Hid (w4.heap[w.heap.size]? = some (.cells #[.int .i64 (seen 0), .int .i64 (seen 1), .int .i64 (seen 2), .int .i64 (seen 3)] 34)) := (by rw [hb4.block _ (by omega)]; exact HX3.out); have k4 : ∀ o, w4.cell? ⟨w2.heap.size, o, none⟩ = #[Value.string na, .int .i64 (c 0), .int .i64 (c 1), .int .i64 (c 2), .int .i64 (c 3), .slice av vl.length cv][o]? := (cells_of0 HK4.out).1; have f4 : ∀ o, w4.frozen? ⟨w2.heap.size, o, none⟩ = false := (cells_of0 HK4.out).2; have x4 : ∀ o, w4.cell? ⟨w.heap.size, o, none⟩ = #[Value.int .i64 (seen 0), .int .i64 (seen 1), .int .i64 (seen 2), .int .i64 (seen 3)][o]? := (cells_of0 HX4.out).1; have hul := HUL.out; clear hown hb4 k3 x3))
  have cn : w4.cell? ⟨b, 0, none⟩ = some (.int .i64 n) := HN.out _ HB4.out
  have ck : w4.cell? ⟨w2.heap.size, 1 + n, none⟩ = some (.int .i64 (c n)) := by
    rw [k4]; rcases lt4 hn4 with rfl | rfl | rfl | rfl <;> rfl
  have cx : w4.cell? ⟨w.heap.size, n, none⟩ = some (.int .i64 (seen n)) := by
    rw [x4]; rcases lt4 hn4 with rfl | rfl | rfl | rfl <;> rfl
  have ka0 : w4.cell? ⟨w2.heap.size, 1, none⟩ = some (.int .i64 (c 0)) := k4 1
  have xa0 : w4.cell? ⟨w.heap.size, 0, none⟩ = some (.int .i64 (seen 0)) := x4 0
  have ka1 : w4.cell? ⟨w2.heap.size, 2, none⟩ = some (.int .i64 (c 1)) := k4 2
  have xa1 : w4.cell? ⟨w.heap.size, 1, none⟩ = some (.int .i64 (seen 1)) := x4 1
  have ka2 : w4.cell? ⟨w2.heap.size, 3, none⟩ = some (.int .i64 (c 2)) := k4 3
  have xa2 : w4.cell? ⟨w.heap.size, 2, none⟩ = some (.int .i64 (seen 2)) := x4 2
  have ka3 : w4.cell? ⟨w2.heap.size, 4, none⟩ = some (.int .i64 (c 3)) := k4 4
  have xa3 : w4.cell? ⟨w.heap.size, 3, none⟩ = some (.int .i64 (seen 3)) := x4 3
  clear k4 x4
  go_upto_region 14 with (first
    | (go_at_call 40; refine Calls.mono (HBoth.out _) ?_; rintro e w6 ⟨rfl, hb6⟩; have z6 := hb6.size; have HB6 : Hid (Below w.heap.size w w6) := HB4.out.trans (hb6.mono (by omega)); have HK6 : Hid (w6.heap[w2.heap.size]? = some (.cells #[.string na, .int .i64 (c 0), .int .i64 (c 1), .int .i64 (c 2), .int .i64 (c 3), .slice av vl.length cv] 82)) := (by rw [hb6.block _ (by omega)]; exact HK4.out); have HO6 : Hid (w6.ownsRow W3.heap.size 88 3 (.slice ad4 u cap4) u (flatV (unseenL vl seen))) := ownsRow_below HO4.out hb6 (Nat.le_refl _); have k6 : ∀ o, w6.cell? ⟨w2.heap.size, o, none⟩ = #[Value.string na, .int .i64 (c 0), .int .i64 (c 1), .int .i64 (c 2), .int .i64 (c 3), .slice av vl.length cv][o]? := (cells_of0 HK6.out).1; have f6 : ∀ o, w6.frozen? ⟨w2.heap.size, o, none⟩ = false := (cells_of0 HK6.out).2; clear hb6))
  obtain ⟨W7, hW7⟩ : ∃ W, W = (((w6.setCell ⟨w2.heap.size, 1, none⟩ (.int .i64 (bothC c seen 0))).setCell ⟨w2.heap.size, 2, none⟩ (.int .i64 (bothC c seen 1))).setCell ⟨w2.heap.size, 3, none⟩ (.int .i64 (bothC c seen 2))).setCell ⟨w2.heap.size, 4, none⟩ (.int .i64 (bothC c seen 3)) := ⟨_, rfl⟩
  rw [← hW7]
  have HK7 : Hid (W7.heap[w2.heap.size]? = some (.cells #[.string na, .int .i64 (bothC c seen 0), .int .i64 (bothC c seen 1), .int .i64 (bothC c seen 2), .int .i64 (bothC c seen 3), .slice av vl.length cv] 82)) := (by rw [hW7, heap_set (heap_set (heap_set (heap_set HK6.out)))]; rfl)
  have hle : w.heap.size ≤ w2.heap.size := by omega
  have HB7 : Hid (Below w.heap.size w W7) := (by rw [hW7]; exact (((HB6.out.setCell hle _).setCell hle _).setCell hle _).setCell hle _)
  have hlo : w2.heap.size < W3.heap.size := by omega
  have HO7 : Hid (W7.ownsRow W3.heap.size 88 3 (.slice ad4 u cap4) u (flatV (unseenL vl seen))) := (by rw [hW7]; exact row_set_low (row_set_low (row_set_low (row_set_low HO6.out hlo) hlo) hlo) hlo)
  have zz : W7.heap.size = w6.heap.size := by rw [hW7]; simp [World.setCell]
  have c7 : W7.cell? ⟨w2.heap.size, 1 + n, none⟩ = some (.int .i64 (bothC c seen n)) := by
    rw [(cells_of0 HK7.out).1]; rcases lt4 hn4 with rfl | rfl | rfl | rfl <;> rfl
  have f7 : ∀ o, W7.frozen? ⟨w2.heap.size, o, none⟩ = false := (cells_of0 HK7.out).2
  have n7 : W7.cell? ⟨b, 0, none⟩ = some (.int .i64 n) := HN.out _ HB7.out
  clear hW7 k6 f6 f4 cn ck cx ka0 ka1 ka2 ka3 xa0 xa1 xa2 xa3
  go_upto_region 15 with fail
  obtain ⟨W9, hW9⟩ : ∃ W, W = W7.setCell ⟨w2.heap.size, 1 + n, none⟩ (.int .i64 (bothC c seen n + 1)) := ⟨_, rfl⟩
  rw [← hW9]
  have HK9 : Hid (W9.heap[w2.heap.size]? = some (.cells #[.string na, .int .i64 (bump (bothC c seen) n 0), .int .i64 (bump (bothC c seen) n 1), .int .i64 (bump (bothC c seen) n 2), .int .i64 (bump (bothC c seen) n 3), .slice av vl.length cv] 82)) := (by rw [hW9, heap_set HK7.out]; rcases lt4 hn4 with rfl | rfl | rfl | rfl <;> rfl)
  have HB9 : Hid (Below w.heap.size w W9) := (by rw [hW9]; exact HB7.out.setCell hle _)
  have HO9 : Hid (W9.ownsRow W3.heap.size 88 3 (.slice ad4 u cap4) u (flatV (unseenL vl seen))) := (by rw [hW9]; exact row_set_low HO7.out hlo)
  have z9 : W9.heap.size = W7.heap.size := by rw [hW9]; simp [World.setCell]
  clear hW9 c7 f7 n7
  have hmk : Hid (∀ w', Below W9.heap.size W9 w' → w'.cell? ⟨b, 0, none⟩ = some (.int .i64 n) ∧ w'.cell? ⟨w2.heap.size, 1 + n, none⟩ = some (.int .i64 (bothC c seen n + 1)) ∧ ASl w' (.slice ad4 u cap4) (unseenL vl seen)) := fun w' hw => by
    refine ⟨HN.out _ (HB9.out.trans (hw.mono (by omega))), ?_, ?_⟩
    · rw [hw.cell (p := ⟨w2.heap.size, 1 + n, none⟩) (show w2.heap.size < W9.heap.size by omega), (cells_of0 HK9.out).1, ← bump_at]
      rcases lt4 hn4 with rfl | rfl | rfl | rfl <;> rfl
    · have := ownsRow_base (ownsRow_below HO9.out hw (Nat.le_refl _)) (Nat.zero_le _)
      unfold ASl; rw [HNu.out]; exact this
  have hmk2 : Hid (∀ w' x, Below W9.heap.size W9 w' → (w'.setCell ⟨w2.heap.size, 5, none⟩ x).cell? ⟨b, 0, none⟩ = some (.int .i64 n) ∧ (w'.setCell ⟨w2.heap.size, 5, none⟩ x).cell? ⟨w2.heap.size, 1 + n, none⟩ = some (.int .i64 (bothC c seen n + 1)) ∧ ASl (w'.setCell ⟨w2.heap.size, 5, none⟩ x) (.slice ad4 u cap4) (unseenL vl seen)) := fun w' x hw => by
    have hk : w'.heap[w2.heap.size]? = some (.cells #[.string na, .int .i64 (bump (bothC c seen) n 0), .int .i64 (bump (bothC c seen) n 1), .int .i64 (bump (bothC c seen) n 2), .int .i64 (bump (bothC c seen) n 3), .slice av vl.length cv] 82) := by rw [hw.block _ (by omega)]; exact HK9.out
    refine ⟨?_, ?_, ?_⟩
    · rw [set_far (show b ≠ w2.heap.size by omega)]; exact (hmk.out w' hw).1
    · rw [(cells_of0 (heap_set hk)).1, ← bump_at]
      rcases lt4 hn4 with rfl | rfl | rfl | rfl <;> rfl
    · have := ownsRow_base (row_set_low (o := 5) (val := x) (ownsRow_below HO9.out hw (Nat.le_refl _)) hlo) (Nat.zero_le _)
      unfold ASl; rw [HNu.out]; exact this
  go_region_held3 (fun w' => w'.cell? ⟨b, 0, none⟩ = some (.int .i64 n) ∧ w'.cell? ⟨w2.heap.size, 1 + n, none⟩ = some (.int .i64 (bothC c seen n + 1)) ∧ ASl w' (.slice ad4 u cap4) (unseenL vl seen))
    (first | (refine hmk2.out _ _ ?_; (simp (maxDischargeDepth := 12) [B1]; done)) | (refine hmk.out _ ?_; first | (simp (maxDischargeDepth := 12) [Below.refl, Below.drew]; done) | (simp (maxDischargeDepth := 12) [B1]; done)))
    (first | (go_at_call 41; refine Calls.mono (HPut.out _ _ _ (by go_split_ands; assumption)) ?_; rintro e w8 ⟨v', rfl, hown8, hb8⟩; obtain ⟨ad8, cap8, rfl, hcap8, -⟩ := row_lenA hown8; have HO8 : Hid (w8.ownsRow W9.heap.size 88 3 (.slice ad8 (u + 1) cap8) (u + 1) (flatV (insL (unseenL vl seen) (n, bothC c seen n + 1, value)))) := hown8; have B1 : Below W9.heap.size W9 w8 := afterAny hb8 (by simp [Below.refl, Below.drew]); have HK8 : Hid (w8.heap[w2.heap.size]? = some (.cells #[.string na, .int .i64 (bump (bothC c seen) n 0), .int .i64 (bump (bothC c seen) n 1), .int .i64 (bump (bothC c seen) n 2), .int .i64 (bump (bothC c seen) n 3), .slice av vl.length cv] 82)) := (by rw [B1.block _ (by omega)]; exact HK9.out); have k8 : ∀ o, w8.cell? ⟨w2.heap.size, o, none⟩ = #[Value.string na, .int .i64 (bump (bothC c seen) n 0), .int .i64 (bump (bothC c seen) n 1), .int .i64 (bump (bothC c seen) n 2), .int .i64 (bump (bothC c seen) n 3), .slice av vl.length cv][o]? := (cells_of0 HK8.out).1; have f8 : ∀ o, w8.frozen? ⟨w2.heap.size, o, none⟩ = false := (cells_of0 HK8.out).2; clear hown8 hb8))
  have z8 := B1.size
  have HB8 : Hid (Below w.heap.size w w8) := HB9.out.trans (B1.mono (by omega))
  clear B1
  go_upto_region 16 with fail
  obtain ⟨WA, hWA⟩ : ∃ W, W = w8.setCell ⟨w2.heap.size, 5, none⟩ (.slice ad8 (u + 1) cap8) := ⟨_, rfl⟩
  rw [← hWA]
  have HKA : Hid (WA.heap[w2.heap.size]? = some (.cells #[.string na, .int .i64 (bump (bothC c seen) n 0), .int .i64 (bump (bothC c seen) n 1), .int .i64 (bump (bothC c seen) n 2), .int .i64 (bump (bothC c seen) n 3), .slice ad8 (u + 1) cap8] 82)) := (by rw [hWA, heap_set HK8.out]; rfl)
  have HBA : Hid (Below w.heap.size w WA) := (by rw [hWA]; exact HB8.out.setCell hle _)
  have HOA : Hid (WA.ownsRow W9.heap.size 88 3 (.slice ad8 (u + 1) cap8) (u + 1) (flatV (insL (unseenL vl seen) (n, bothC c seen n + 1, value)))) := (by rw [hWA]; exact row_set_low HO8.out (by omega))
  have kA : ∀ o, WA.cell? ⟨w2.heap.size, o, none⟩ = #[Value.string na, .int .i64 (bump (bothC c seen) n 0), .int .i64 (bump (bothC c seen) n 1), .int .i64 (bump (bothC c seen) n 2), .int .i64 (bump (bothC c seen) n 3), .slice ad8 (u + 1) cap8][o]? := (cells_of0 HKA.out).1
  have zA := HBA.out.size
  clear hWA k8 f8
  go_wp2_with (first
    | (go_at_call 42; refine Calls.mono (HSet.out (bump (bothC c seen) n) ad8 (u + 1) cap8 _ HBA.out) ?_; rintro e wB ⟨rfl, sv', hb8, hr8, hF8⟩; have R1 : Hid (wB.heap[b]? = some (.cells #[.int .i64 n, sv'] 45)) := hb8; have R2 : Hid (wB.ownsRow WA.heap.size 82 6 sv' (setK l (na, bump (bothC c seen) n, (.slice ad8 (u + 1) cap8))).length (flatK (setK l (na, bump (bothC c seen) n, (.slice ad8 (u + 1) cap8))))) := hr8; have R3 : Hid (Fr (fun k => k = b) WA wB) := hF8; clear hb8 hr8 hF8))
  go_ret
  refine ⟨rfl, sv', ad8, cap8, R1.out, ownsRow_base R2.out (by omega), ?_, (Fr.of_below HBA.out).trans R3.out⟩
  refine ownsRow_base (Fr.row R3.out HOA.out fun g o l' c' hv e => ?_) (by omega)
  rcases HOA.out.2 with ⟨h1, _⟩ | ⟨g1, cap1, cur1, hv1, hg1, _⟩
  · rw [h1] at hv; cases hv
  · rw [hv1] at hv; cases hv; omega
end Go.Proofs.YtldmcdeibiclkaaGreat
