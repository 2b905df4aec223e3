/-
  A frame: many cells of a block set.
-/
import Derived.Test.YtldmcdeibiclkaaDoorG0
import Derived.Test.YtldmcdeibiclkaaDoorN2
set_option linter.unusedVariables false
set_option linter.unusedSimpArgs false
namespace Go.Proofs.YtldmcdeibiclkaaDoor
open Go.RowKit

section
variable {X Y : Nat → Prop} {w w1 w2 : World}
theorem Fr.setCells (h : Fr X w w1) {b : Nat} (hb : w.heap.size ≤ b ∨ X b) : ∀ (vs : List Value) (o : Nat), Fr X w (w1.setCells b o vs) := by
  intro vs
  induction vs generalizing w1 with
  | nil => intro o; exact h
  | cons v vs ih => intro o; rw [World.setCells]; exact ih (h.setCell hb v) (o + 1)
end
end Go.Proofs.YtldmcdeibiclkaaDoor
