/-
  Contracts of the small functions of package state: what each call answers and what becomes of the world.
-/
import Derived.Test.YtldmcdeibiclkaaDoorRows
import Derived.Test.YtldmcdeibiclkaaDoorDefs
import Derived.WalkKit
import Derived.WalkSpells
import Derived.WalkLawsBesides
import Derived.Deep.QuietTactic
import Derived.BigQuiet
set_option linter.unusedVariables false
set_option linter.unusedSimpArgs false
namespace Go.Proofs.YtldmcdeibiclkaaDoor
open Go.RowKit

/-- Indexing an array of four by value. -/
theorem index4 (W : World) (a b c d : Value) :
    (Instr.index 69 (.agg #[a, b, c, d]) (.int .i64 0)).run Tryd.prog W = .ok a W ∧
    (Instr.index 69 (.agg #[a, b, c, d]) (.int .i64 1)).run Tryd.prog W = .ok b W ∧
    (Instr.index 69 (.agg #[a, b, c, d]) (.int .i64 2)).run Tryd.prog W = .ok c W ∧
    (Instr.index 69 (.agg #[a, b, c, d]) (.int .i64 3)).run Tryd.prog W = .ok d W :=
  ⟨by kernel_rfl, by kernel_rfl, by kernel_rfl, by kernel_rfl⟩

theorem sound_of {c : Ctx} (h : ∀ j, j < 4 → 0 ≤ c j ∧ c j ≤ 1000000) : soundB c = true := by
  simp only [soundB, okN, Bool.and_eq_true, decide_eq_true_eq]
  exact ⟨h 0 (by omega), h 1 (by omega), h 2 (by omega), h 3 (by omega)⟩
theorem sound_not {c : Ctx} {k : Nat} (hk : k < 4) (h : ¬ (0 ≤ c k ∧ c k ≤ 1000000)) : soundB c = false := by
  cases hs : soundB c with
  | false => rfl
  | true =>
    simp only [soundB, okN, Bool.and_eq_true, decide_eq_true_eq] at hs
    rcases lt4 hk with rfl | rfl | rfl | rfl
    · exact absurd hs.1 h
    · exact absurd hs.2.1 h
    · exact absurd hs.2.2.1 h
    · exact absurd hs.2.2.2 h

set_option maxRecDepth 100000 in
set_option maxHeartbeats 1000000 in
theorem sound_any (c : Ctx) (w : World) :
    Calls Tryd.prog 18 #[ctxV c] w fun e w' => e = .returned (.bool (soundB c)) ∧ Below w.heap.size w w' := by
  go_enter Tryd.func18, Tryd.ntmps18
  go_wp2
  go_loop [6] (fun i => ∃ k : Nat, k ≤ 4 ∧ i = .int .i64 k ∧ ∀ j, j < k → 0 ≤ c j ∧ c j ≤ 1000000) (fun i => 4 - (intOf i).toNat)
  case atStart => exact ⟨0, by omega, rfl, fun j hj => by omega⟩
  case round =>
    obtain ⟨k, hk, rfl, hall⟩ := hrel
    have Hall := (show Hid _ from hall)
    clear hall
    by_cases hlt : k < 4
    · by_cases hb : 0 ≤ c k ∧ c k ≤ 1000000
      · obtain ⟨hb1, hb2⟩ := hb
        have hall' : Hid (∀ j, j < k + 1 → 0 ≤ c j ∧ c j ≤ 1000000) := fun j hj => by
          by_cases e : j = k
          · subst e; exact ⟨hb1, hb2⟩
          · exact Hall.out j (by omega)
        clear Hall
        rcases lt4 hlt with rfl | rfl | rfl | rfl
        all_goals
          have hix := index4
          go_wp2
          exact ⟨⟨_, by omega, by go_num, hall'.out⟩, by simp [intOf]⟩
      · have hs : Hid (soundB c = false) := sound_not hlt hb
        clear Hall
        have hb' : c k < 0 ∨ 1000000 < c k := by omega
        clear hb
        rcases hb' with hb' | hb'
        all_goals
          try (have hb0 : 0 ≤ c k := by omega)
          rcases lt4 hlt with rfl | rfl | rfl | rfl
          all_goals
            have hix := index4
            go_wp2
            go_ret
            exact ⟨ret_bool hs.out.symm, (Below.refl _ _).alloc (Nat.le_refl _) _⟩
    · obtain rfl : k = 4 := by omega
      have hs : Hid (soundB c = true) := sound_of Hall.out
      clear Hall
      go_wp2
      go_ret
      exact ⟨ret_bool hs.out.symm, (Below.refl _ _).alloc (Nat.le_refl _) _⟩

theorem below_drewN {B : Nat} {a w : World} (h : Below B a w) (n : Nat) : Below B a (w.drewN n) := ⟨h.os, h.tape, h.output, h.size, h.block⟩

set_option maxHeartbeats 400000 in
theorem hasSeen_any (c : Ctx) (r : Nat) (n : Int) (w : World) (hr : r < 4) :
    Calls Tryd.prog 34 #[ctxV c, .agg #[.int .i64 r, .int .i64 n]] w fun e w' => e = .returned (.bool (decide (n ≤ c r))) ∧ Below w.heap.size w w' := by
  rcases lt4 hr with rfl | rfl | rfl | rfl
  all_goals
    go_enter Tryd.func34, Tryd.ntmps34
    go_wp2
    go_quiet (fail)
    go_wp2
    go_ret
    exact ⟨rfl, below_drewN (((Below.refl _ _).alloc (Nat.le_refl _) _).alloc (by simp) _) _⟩

theorem grow_max {d x y : Int} (h : d = x) : (if d < y then y else d) = max x y := by
  subst h; rw [Int.max_def]; split <;> split <;> omega

set_option maxRecDepth 100000 in
set_option maxHeartbeats 1000000 in
theorem greater_any (a b : Ctx) (w : World) :
    Calls Tryd.prog 28 #[ctxV a, ctxV b] w fun e w' => e = .returned (ctxV (bothC a b)) ∧ Below w.heap.size w w' := by
  go_enter Tryd.func28, Tryd.ntmps28
  go_wp2
  go_loopw [8] (fun i w' => ∃ k : Nat, k ≤ 4 ∧ i = .int .i64 k ∧ ∃ d0 d1 d2 d3 : Int, w' = ((w.alloc (.cells #[.int .i64 d0, .int .i64 d1, .int .i64 d2, .int .i64 d3] 69)).alloc (.cells #[.int .i64 (b 0), .int .i64 (b 1), .int .i64 (b 2), .int .i64 (b 3)] 69)).alloc (.cells #[.int .i64 0, .int .i64 0, .int .i64 0, .int .i64 0] 69) ∧ Hid (d0 = if 0 < k then bothC a b 0 else a 0) ∧ Hid (d1 = if 1 < k then bothC a b 1 else a 1) ∧ Hid (d2 = if 2 < k then bothC a b 2 else a 2) ∧ Hid (d3 = if 3 < k then bothC a b 3 else a 3)) (fun i _ => 4 - (intOf i).toNat)
  case atStart => exact ⟨0, by omega, rfl, _, _, _, _, rfl, rfl, rfl, rfl, rfl⟩
  case round =>
    obtain ⟨k, hk, rfl, d0, d1, d2, d3, rfl, h0, h1, h2, h3⟩ := hrel
    by_cases hlt : k < 4
    · have hix := index4
      rcases lt4 hlt with rfl | rfl | rfl | rfl
      · go_wp2
        exact ⟨⟨1, by omega, rfl, _, _, _, _, rfl, grow_max h0.out, h1, h2, h3⟩, by simp [intOf]⟩
      · go_wp2
        exact ⟨⟨2, by omega, rfl, _, _, _, _, rfl, h0, grow_max h1.out, h2, h3⟩, by simp [intOf]⟩
      · go_wp2
        exact ⟨⟨3, by omega, rfl, _, _, _, _, rfl, h0, h1, grow_max h2.out, h3⟩, by simp [intOf]⟩
      · go_wp2
        exact ⟨⟨4, by omega, rfl, _, _, _, _, rfl, h0, h1, h2, grow_max h3.out⟩, by simp [intOf]⟩
    · obtain rfl : k = 4 := by omega
      go_wp2
      refine bodyPost_ret (v := ctxV (bothC a b)) ?_ rfl ⟨rfl, ?_⟩
      · simp [results, Tryd.results28, go_sem]
        exact ⟨h0.out, h1.out, h2.out, h3.out⟩
      · exact (((Below.refl _ _).alloc (Nat.le_refl _) _).alloc (by simp) _).alloc (by simp; omega) _
end Go.Proofs.YtldmcdeibiclkaaDoor
