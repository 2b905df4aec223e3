/-
  Contract: everywhere: where right answers true of each replica, the answer is true.
-/
import Derived.Test.YtldmcdeibiclkaaDoorN3
set_option linter.unusedVariables false
set_option linter.unusedSimpArgs false
namespace Go.Proofs.YtldmcdeibiclkaaDoor
open Go.RowKit

set_option maxRecDepth 100000 in
set_option maxHeartbeats 400000 in
theorem everywhere_true (bt nr cap : Nat) (ad : Option Addr) (w : World) (h0 : w.cell? ⟨bt, 0, none⟩ = some (.slice ad nr cap)) (hnr : nr ≤ 4)
    (hr : ∀ i, i < nr → ∀ W, Below w.heap.size w W → Calls Tryd.prog 15 #[.pointer (some ⟨bt, 0, none⟩), .int .i64 i] W fun e w' => e = .returned (.bool true) ∧ Below W.heap.size W w') :
    Calls Tryd.prog 7 #[.pointer (some ⟨bt, 0, none⟩)] w fun e w' => e = .returned (.bool true) ∧ Below w.heap.size w w' := by
  have HR : Hid _ := hr
  have H0 : Hid (∀ W, Below w.heap.size w W → W.cell? ⟨bt, 0, none⟩ = some (.slice ad nr cap)) := fun W hW => cell_keep h0 hW
  clear hr
  go_enter Tryd.func7, Tryd.ntmps7
  go_wp2
  go_loopw [3] (fun iv wr => ∃ i : Nat, i ≤ nr ∧ iv = .int .i64 i ∧ Below w.heap.size w wr) (fun iv _ => nr - (intOf iv).toNat)
  case atStart => exact ⟨0, by omega, rfl, Below.refl _ _⟩
  case round =>
    obtain ⟨i, hi, rfl, hbel⟩ := hrel
    have c0 := H0.out _ hbel
    by_cases hlt : i < nr
    · have i1 : (i : Int) < (nr : Int) := by omega
      go_wp2_with (go_at_call 15; refine Calls.mono (HR.out i hlt _ hbel) ?_; rintro e w1 ⟨rfl, hb1⟩; have B1 := below_keep hbel hb1; clear hb1)
      exact ⟨⟨i + 1, by omega, by go_num, B1⟩, by simp [intOf]; omega⟩
    · have hie : ¬ (i : Int) < (nr : Int) := by omega
      go_wp2
      go_ret
      exact ⟨rfl, hbel⟩
end Go.Proofs.YtldmcdeibiclkaaDoor
