/-
  DERIVED. GIVEN WITH THE SEED: THE CARDS: each row of YtldmcdeibiclkaaDoorRows.lean that lists a variable, with what it lists TIED to the program's text (the seventh form; the later family's looks); each row that meets fmt, with fmt's text TOLD by the authors' own Lean function (tested against real Go, not proved from fmt's source: count such statements apart). THE CARD IS WHAT COUNTS. Prove the row's statement (the work); the ties are given (YtldmcdeibiclkaaDoorTie.lean); close each card by the builder's one call (the guide's Derived/Test/ToyasCard.lean, 'card_holds'). Laid BY PROGRAM, IN A SANDBOX (cutbox-door.mjs). By AI agents, Wed Nov 11 2026. No macro, syntax, notation, axiom, sorry.
-/
import Derived.Test.YtldmcdeibiclkaaDoorRows
import GoSem.ClaimSeven
namespace Go.Proofs.YtldmcdeibiclkaaDoor
namespace Rows

/-- THE TIED CARD OF 'attunekeep.Beside'. -/
def besideCard : Claim7 := { stood := { row := besideRow, standIns := [], harness := (true, "5ffed931096eb8d77dd1f061b29029d4e5132b70fed51e558317e2c97b31f7ed"), looks := false }, kinds := [], alts := [], laidByText := true, laidKinds := [.data], laidTests := true, laidLooks := .later }
def BesideCardSaid : Prop := Claim7.holds Tryd.pinned (.plain (OpenSpec.ofChange besideSpec)) besideCard

/-- THE SECOND FORM's CARD OF 'attunekeep.Beside'. -/
def besideUptoCard : Claim7 := { stood := { row := besideUptoRow, standIns := [], harness := (true, "5ffed931096eb8d77dd1f061b29029d4e5132b70fed51e558317e2c97b31f7ed"), looks := false }, kinds := [], alts := [], laidByText := true, laidKinds := [.data], laidTests := true, laidLooks := .later }
def BesideUptoCardSaid : Prop := Claim7.holds Tryd.pinned (.plain (OpenSpec.upto besideSpec)) besideUptoCard
end Rows
end Go.Proofs.YtldmcdeibiclkaaDoor
