/-
  Contract: slices.SortFunc over a row of versions, by their dots.
-/
import Derived.Test.YtldmcdeibiclkaaDoorW3
import Derived.Test.YtldmcdeibiclkaaDoorSH
set_option linter.unusedVariables false
set_option linter.unusedSimpArgs false
namespace Go.Proofs
open Go.Shelf Go.RowKit Go.Lib Go.Sort
namespace YtldmcdeibiclkaaDoor

theorem cmpI_lt (x y : Int) : cmpI x y < 0 ↔ x < y := by
  unfold cmpI; split <;> (try split) <;> omega
theorem cmpI_eq (x y : Int) : cmpI x y = 0 ↔ x = y := by
  unfold cmpI; split <;> (try split) <;> omega

/-- The order of versions: by rising replicas, then numbers. -/
def ltV (a b : Ver) : Bool := decide (a.rep < b.rep ∨ a.rep = b.rep ∧ a.n < b.n)

theorem ltOf_cmpV : ltOf cmpV = ltV := by
  funext a b
  unfold ltOf cmpV ltV orI
  rw [decide_eq_decide]
  by_cases h : cmpI a.rep b.rep = 0
  · rw [if_pos h, cmpI_lt]; have := (cmpI_eq _ _).1 h; omega
  · rw [if_neg h, cmpI_lt]; have : ¬ (a.rep : Int) = b.rep := fun e => h ((cmpI_eq _ _).2 e); omega

theorem swoV : SWO (ltOf cmpV) := by
  rw [ltOf_cmpV]
  exact { irrefl := fun x => by simp [ltV], trans := fun x y z h1 h2 => by simp [ltV] at *; omega, ntrans := fun x y z h1 h2 => by simp [ltV] at *; omega }

theorem cmpLaysV (blk off size : Nat) (w : World) : CmpLays Tryd.prog 30 #[] encV 3 cmpV blk off size w :=
  fun _ _ _ _ (x y : Ver) => byDot_any x.rep x.n y.rep y.n x.val y.val _

theorem sortV_any (blk off cap : Nat) (d : Array Ver) (w : World) (hH : HoldsK encV 3 w blk off d) (hblk : blk < w.heap.size) (hsz : d.size < 4611686018427387904) :
    Calls Tryd.prog 29 #[.slice (some ⟨blk, off, none⟩) d.size cap, .func (.func 30) #[] #[]] w fun e w' => e = .returned (.tuple #[]) ∧ ∃ d' n os, PermIn 0 d.size d d' ∧ SortedIn ltV 0 d.size d' ∧ w' = sortWorldK encV 3 w blk off n d' os := by
  have eg : ∀ args w, (callFunc 30 args).run Tryd.prog w = .ok (.enter 30 args) w := enters_of Tryd.func30 (by kernel_rfl) rfl
  have hcon := AnyQ.slices_SortFunc Tryd.sortV 3 Tryd.isAgg91 Tryd.sizeOf91 encV (fun _ => rfl) (fun x v hv => by simp [encV] at hv; rcases hv with rfl | rfl | rfl <;> rfl) cmpV swoV 30 #[] blk off cap d w eg (cmpLaysV blk off d.size w) hH hblk hsz
  rw [ltOf_cmpV] at hcon
  exact hcon
end YtldmcdeibiclkaaDoor
end Go.Proofs
