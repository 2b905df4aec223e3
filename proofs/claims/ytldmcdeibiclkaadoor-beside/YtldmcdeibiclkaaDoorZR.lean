/-
  The zero value of a replica.
-/
import Derived.Test.YtldmcdeibiclkaaDoorRows
import Derived.Test.YtldmcdeibiclkaaDoorDefs
import Derived.WalkKit
set_option linter.unusedVariables false
set_option linter.unusedSimpArgs false
namespace Go.Proofs.YtldmcdeibiclkaaDoor
open Go.RowKit

theorem zero_of {P : Program} {t : TypeId} {z : Value} (h : (P.info? t).map (·.zero) = some (some z)) (w : World) : (zeroValue t).run P w = .ok z w := by
  cases hq : P.info? t with
  | none => simp [hq] at h
  | some i =>
    have hz : i.zero = some z := by simpa [hq] using h
    simp [zeroValue, typeInfo, hq, hz]

/-- The cells of a replica that is not made yet. -/
def zRep : Array Value := #[Value.int .i64 0] ++ Array.replicate 64 (Value.map none)
theorem zRep_size : zRep.size = 65 := by simp [zRep]
theorem zRep_ne : (zRep = #[]) = False := by simp [zRep]
theorem Tryd.infoRep : (Tryd.prog.info? 68).map (·.zero) = some (some (.agg zRep)) := by kernel_rfl
theorem Tryd.zeroRep (w : World) : (zeroValue 68).run Tryd.prog w = .ok (.agg zRep) w := zero_of Tryd.infoRep w
end Go.Proofs.YtldmcdeibiclkaaDoor
