/-
  DERIVED. GIVEN WITH THE SEED: THE CARDS: each row of YtldmcdeibiclkaaGreatDoorRows.lean that lists a variable, with what it lists TIED to the program's text (the seventh form; the later family's looks); each row that meets fmt, with fmt's text TOLD by the authors' own Lean function (tested against real Go, not proved from fmt's source: count such statements apart). THE CARD IS WHAT COUNTS. Prove the row's statement (the work); the ties are given (YtldmcdeibiclkaaGreatDoorTie.lean); close each card by the builder's one call (the guide's Derived/Test/ToyasCard.lean, 'card_holds'). Laid BY PROGRAM, IN A SANDBOX (cutbox-door.mjs). By AI agents, Wed Nov 11 2026. No macro, syntax, notation, axiom, sorry.
-/
import Derived.Test.YtldmcdeibiclkaaGreatDoorRows
import GoSem.ClaimSeven
namespace Go.Proofs.YtldmcdeibiclkaaGreatDoor
namespace Rows

/-- THE TIED CARD OF 'attunekeep.Treed'. -/
def treedCard : Claim7 := { stood := { row := treedRow, standIns := [], harness := (true, "2f9dc5bf55d92071f4730260db1339f7727122cc9a01b6a126291da367013288"), looks := true }, kinds := [], alts := [], goes := true, laidByText := true, laidKinds := [.data], laidTests := true, laidLooks := .later }
def TreedCardSaid : Prop := Claim7.holds Tryz.pinned (.plain (OpenSpec.ofChange treedSpec)) treedCard

/-- THE TIED CARD OF 'attunekeep.Causal'. -/
def causalCard : Claim7 := { stood := { row := causalRow, standIns := [], harness := (true, "2f9dc5bf55d92071f4730260db1339f7727122cc9a01b6a126291da367013288"), looks := true }, kinds := [], alts := [], goes := true, laidByText := true, laidKinds := [.data], laidTests := true, laidLooks := .later }
def CausalCardSaid : Prop := Claim7.holds Tryz.pinned (.plain (OpenSpec.ofChange causalSpec)) causalCard

/-- THE TIED CARD OF 'attunekeep.Converged'. -/
def convergedCard : Claim7 := { stood := { row := convergedRow, standIns := [], harness := (true, "2f9dc5bf55d92071f4730260db1339f7727122cc9a01b6a126291da367013288"), looks := true }, kinds := [], alts := [], goes := true, laidByText := true, laidKinds := [.data], laidTests := true, laidLooks := .later }
def ConvergedCardSaid : Prop := Claim7.holds Tryz.pinned (.plain (OpenSpec.ofChange convergedSpec)) convergedCard

/-- THE TIED CARD OF 'attunekeep.Settled'. -/
def settledCard : Claim7 := { stood := { row := settledRow, standIns := [], harness := (true, "2f9dc5bf55d92071f4730260db1339f7727122cc9a01b6a126291da367013288"), looks := true }, kinds := [], alts := [], goes := true, laidByText := true, laidKinds := [.data], laidTests := true, laidLooks := .later }
def SettledCardSaid : Prop := Claim7.holds Tryz.pinned (.plain (OpenSpec.ofChange settledSpec)) settledCard

/-- THE SECOND FORM's CARD OF 'attunekeep.Treed'. -/
def treedUptoCard : Claim7 := { stood := { row := treedUptoRow, standIns := [], harness := (true, "2f9dc5bf55d92071f4730260db1339f7727122cc9a01b6a126291da367013288"), looks := true }, kinds := [], alts := [], goes := true, laidByText := true, laidKinds := [.data], laidTests := true, laidLooks := .later }
def TreedUptoCardSaid : Prop := Claim7.holds Tryz.pinned (.plain (OpenSpec.upto treedSpec)) treedUptoCard

/-- THE SECOND FORM's CARD OF 'attunekeep.Causal'. -/
def causalUptoCard : Claim7 := { stood := { row := causalUptoRow, standIns := [], harness := (true, "2f9dc5bf55d92071f4730260db1339f7727122cc9a01b6a126291da367013288"), looks := true }, kinds := [], alts := [], goes := true, laidByText := true, laidKinds := [.data], laidTests := true, laidLooks := .later }
def CausalUptoCardSaid : Prop := Claim7.holds Tryz.pinned (.plain (OpenSpec.upto causalSpec)) causalUptoCard

/-- THE SECOND FORM's CARD OF 'attunekeep.Converged'. -/
def convergedUptoCard : Claim7 := { stood := { row := convergedUptoRow, standIns := [], harness := (true, "2f9dc5bf55d92071f4730260db1339f7727122cc9a01b6a126291da367013288"), looks := true }, kinds := [], alts := [], goes := true, laidByText := true, laidKinds := [.data], laidTests := true, laidLooks := .later }
def ConvergedUptoCardSaid : Prop := Claim7.holds Tryz.pinned (.plain (OpenSpec.upto convergedSpec)) convergedUptoCard

/-- THE SECOND FORM's CARD OF 'attunekeep.Settled'. -/
def settledUptoCard : Claim7 := { stood := { row := settledUptoRow, standIns := [], harness := (true, "2f9dc5bf55d92071f4730260db1339f7727122cc9a01b6a126291da367013288"), looks := true }, kinds := [], alts := [], goes := true, laidByText := true, laidKinds := [.data], laidTests := true, laidLooks := .later }
def SettledUptoCardSaid : Prop := Claim7.holds Tryz.pinned (.plain (OpenSpec.upto settledSpec)) settledUptoCard
end Rows
end Go.Proofs.YtldmcdeibiclkaaGreatDoor
