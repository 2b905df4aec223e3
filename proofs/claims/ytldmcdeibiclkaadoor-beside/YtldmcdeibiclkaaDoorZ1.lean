/-
  The zero values of the greater types.
-/
import Derived.Test.YtldmcdeibiclkaaDoorRows
import Derived.Test.YtldmcdeibiclkaaDoorDefs
import Derived.WalkKit
import Derived.Test.YtldmcdeibiclkaaDoorZR
set_option linter.unusedVariables false
set_option linter.unusedSimpArgs false
namespace Go.Proofs.YtldmcdeibiclkaaDoor
open Go.RowKit

/-- A set's cells, when it is empty. -/
def zSet : Array Value := Array.replicate 80 (Value.bool false)
theorem zSet_size : zSet.size = 80 := by simp [zSet]
theorem Tryd.infoSet : (Tryd.prog.info? 35).map (·.zero) = some (some (.agg zSet)) := by kernel_rfl
theorem Tryd.zeroSetV (w : World) : (zeroValue 35).run Tryd.prog w = .ok (.agg zSet) w := zero_of Tryd.infoSet w
/-- A memory's cells, when nothing is remembered. -/
def zMem : Array Value := Array.replicate 4 (Value.int .i64 0) ++ zSet
theorem zMem_size : zMem.size = 84 := by simp [zMem, zSet]
theorem Tryd.infoMem : (Tryd.prog.info? 59).map (·.zero) = some (some (.agg zMem)) := by kernel_rfl
theorem Tryd.zeroMem (w : World) : (zeroValue 59).run Tryd.prog w = .ok (.agg zMem) w := zero_of Tryd.infoMem w
/-- A net's cells, when nothing is there. -/
def zNet : Array Value := (List.replicate 2 (Value.slice none 0 0) ++ (List.replicate 1920 (Value.bool false) ++ (List.replicate 5 (Value.slice none 0 0) ++ List.replicate 12 (Value.int .i64 0)))).toArray
theorem zNet_size : zNet.size = 1939 := by
  unfold zNet
  rw [List.size_toArray]
  simp only [List.length_append, List.length_replicate]
set_option maxRecDepth 1000000 in
theorem Tryd.infoNet : (Tryd.prog.info? 44).map (·.zero) = some (some (.agg zNet)) := by kernel_rfl
theorem Tryd.zeroNet (w : World) : (zeroValue 44).run Tryd.prog w = .ok (.agg zNet) w := zero_of Tryd.infoNet w
end Go.Proofs.YtldmcdeibiclkaaDoor
