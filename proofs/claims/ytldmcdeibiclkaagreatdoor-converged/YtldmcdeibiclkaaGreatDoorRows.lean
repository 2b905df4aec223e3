/-
  NARROWER THAN 'FOR EVERY INPUT', by the rows' own cells (each row's printed sentence says how): Treed: laid · Causal: laid · Converged: laid · Settled: laid.
  DERIVED. THE GIVEN ROWS OF THIS SEAT. 4 by the template 'for every input the law returns true; each argument reads behind the call as it read before'; 0 by the template 'total and deterministic' (their statements: YtldmcdeibiclkaaGreatDoorTotals.lean).
  GIVEN WITH THE SEED: the statements are not yours to turn. If you find one false, say at which input.
  Laid BY PROGRAM, IN A SANDBOX (cutbox-rows.mjs): the forced cells as the released guide's own fill.sh prints them over the translation 42c8e6cc2379b151… (all of the seat's roots in one cut). By AI agents, Wed Nov 11 2026. No macro, syntax, notation, axiom, sorry.
-/
import Derived.Test.YtldmcdeibiclkaaGreatDoorChecked
import GoSem.Claim
import GoSem.ClaimJoined
import GoSem.ClaimMapViews
import Derived.JoinedTies
import Derived.KernelRfl
namespace Go.Proofs.YtldmcdeibiclkaaGreatDoor
/- THE CELL 'sum', in the pinned program and in every row, IS THE sha256 OF THE DUMP (.gsa) THAT YtldmcdeibiclkaaGreatDoorProg.lean LOADS. Nothing in Lean hashes anything: it is a label: what it is worth is what the hold of that sum in a sandbox is worth. -/
noncomputable def Tryz.pinned : Pinned := { name := "ytldmcdeibiclkaagreatdoor", sum := "42c8e6cc2379b1510139f719e0aa096c2cd600eed14a37e77260d7bbfd52f7a8", checked := Tryz.checked }
namespace Rows
def none {H : Type} : Left H := { results := [], args := [] }

/- WHAT THE LISTED PACKAGE-LEVEL VARIABLES READ AS WHEN THE CALL BEGINS. Each datum BY PROGRAM (the guide's laid-datum.mjs) off the statement by which the dump's own 'gosem.cut.vars' lays the variable. In a bare row this is a premise. The card (YtldmcdeibiclkaaGreatDoorCards.lean) ties it to the program's text. -/
def laid_attune_attunekeep_keys {H : Type} : DataW H := .agg [.lit (.string [97]), .lit (.string [98]), .lit (.string [122, 122])]

/-- 'attunekeep.Treed': WHATEVER THE INPUT: true; the input reads as it did. -/
def treedSpec : ChangeSpec := { name := "treed", fn := fun _ => fun
  | [d1, d2, d3] => { results := [.lit (.bool true)], args := [d1, d2, d3] }
  | _ => none }
def treedRow : OpenClaim := { program := "ytldmcdeibiclkaagreatdoor", sum := "42c8e6cc2379b1510139f719e0aa096c2cd600eed14a37e77260d7bbfd52f7a8", func := "attune/attunekeep.Treed", spec := "treed", inPlace := ["(*sync.WaitGroup).Add", "internal/race.ReleaseMerge", "internal/race.Disable", "internal/race.Enable", "internal/synctest.IsInBubble", "internal/synctest.Associate[sync.WaitGroup]", "sync.fatal", "sync/atomic.OrUint64", "sync/atomic.AddUint64", "internal/race.Read", "sync/atomic.LoadUint64", "sync/atomic.StoreUint64", "internal/synctest.Disassociate[sync.WaitGroup]", "sync.runtime_Semrelease", "(*sync.WaitGroup).Done", "(*sync.WaitGroup).Wait", "internal/race.Acquire", "internal/synctest.IsAssociated[sync.WaitGroup]", "sync/atomic.CompareAndSwapUint64", "internal/race.Write", "sync.runtime_SemacquireWaitGroup"], unfollowed := true, recurses := true, named := ["attune/attunekeep.keys"], leaving := true, apart := false, laid := [("attune/attunekeep.keys", laid_attune_attunekeep_keys)] }
def TreedSaid : Prop := treedRow.holds Tryz.pinned (OpenSpec.ofChange treedSpec)

/-- ITS FALSE NEIGHBOUR: 'it returns false'. Refute it at one input. -/
def treedWrong : ChangeSpec := { name := "treed", fn := fun _ => fun
  | [d1, d2, d3] => { results := [.lit (.bool false)], args := [d1, d2, d3] }
  | _ => none }
def TreedWrongFalsely : Prop := treedRow.holds Tryz.pinned (OpenSpec.ofChange treedWrong)

/-- 'attunekeep.Causal': WHATEVER THE INPUT: true; the input reads as it did. -/
def causalSpec : ChangeSpec := { name := "causal", fn := fun _ => fun
  | [d] => { results := [.lit (.bool true)], args := [d] }
  | _ => none }
def causalRow : OpenClaim := { program := "ytldmcdeibiclkaagreatdoor", sum := "42c8e6cc2379b1510139f719e0aa096c2cd600eed14a37e77260d7bbfd52f7a8", func := "attune/attunekeep.Causal", spec := "causal", inPlace := ["(*sync.WaitGroup).Add", "internal/race.ReleaseMerge", "internal/race.Disable", "internal/race.Enable", "internal/synctest.IsInBubble", "internal/synctest.Associate[sync.WaitGroup]", "sync.fatal", "sync/atomic.OrUint64", "sync/atomic.AddUint64", "internal/race.Read", "sync/atomic.LoadUint64", "sync/atomic.StoreUint64", "internal/synctest.Disassociate[sync.WaitGroup]", "sync.runtime_Semrelease", "(*sync.WaitGroup).Done", "(*sync.WaitGroup).Wait", "internal/race.Acquire", "internal/synctest.IsAssociated[sync.WaitGroup]", "sync/atomic.CompareAndSwapUint64", "internal/race.Write", "sync.runtime_SemacquireWaitGroup"], unfollowed := true, recurses := true, named := ["attune/attunekeep.keys"], leaving := true, apart := false, laid := [("attune/attunekeep.keys", laid_attune_attunekeep_keys)] }
def CausalSaid : Prop := causalRow.holds Tryz.pinned (OpenSpec.ofChange causalSpec)

/-- ITS FALSE NEIGHBOUR: 'it returns false'. Refute it at one input. -/
def causalWrong : ChangeSpec := { name := "causal", fn := fun _ => fun
  | [d] => { results := [.lit (.bool false)], args := [d] }
  | _ => none }
def CausalWrongFalsely : Prop := causalRow.holds Tryz.pinned (OpenSpec.ofChange causalWrong)

/-- 'attunekeep.Converged': WHATEVER THE INPUT: true; the input reads as it did. -/
def convergedSpec : ChangeSpec := { name := "converged", fn := fun _ => fun
  | [d] => { results := [.lit (.bool true)], args := [d] }
  | _ => none }
def convergedRow : OpenClaim := { program := "ytldmcdeibiclkaagreatdoor", sum := "42c8e6cc2379b1510139f719e0aa096c2cd600eed14a37e77260d7bbfd52f7a8", func := "attune/attunekeep.Converged", spec := "converged", inPlace := ["(*sync.WaitGroup).Add", "internal/race.ReleaseMerge", "internal/race.Disable", "internal/race.Enable", "internal/synctest.IsInBubble", "internal/synctest.Associate[sync.WaitGroup]", "sync.fatal", "sync/atomic.OrUint64", "sync/atomic.AddUint64", "internal/race.Read", "sync/atomic.LoadUint64", "sync/atomic.StoreUint64", "internal/synctest.Disassociate[sync.WaitGroup]", "sync.runtime_Semrelease", "(*sync.WaitGroup).Done", "(*sync.WaitGroup).Wait", "internal/race.Acquire", "internal/synctest.IsAssociated[sync.WaitGroup]", "sync/atomic.CompareAndSwapUint64", "internal/race.Write", "sync.runtime_SemacquireWaitGroup"], unfollowed := true, recurses := true, named := ["attune/attunekeep.keys"], leaving := true, apart := false, laid := [("attune/attunekeep.keys", laid_attune_attunekeep_keys)] }
def ConvergedSaid : Prop := convergedRow.holds Tryz.pinned (OpenSpec.ofChange convergedSpec)

/-- ITS FALSE NEIGHBOUR: 'it returns false'. Refute it at one input. -/
def convergedWrong : ChangeSpec := { name := "converged", fn := fun _ => fun
  | [d] => { results := [.lit (.bool false)], args := [d] }
  | _ => none }
def ConvergedWrongFalsely : Prop := convergedRow.holds Tryz.pinned (OpenSpec.ofChange convergedWrong)

/-- 'attunekeep.Settled': WHATEVER THE INPUT: true; the input reads as it did. -/
def settledSpec : ChangeSpec := { name := "settled", fn := fun _ => fun
  | [d1, d2] => { results := [.lit (.bool true)], args := [d1, d2] }
  | _ => none }
def settledRow : OpenClaim := { program := "ytldmcdeibiclkaagreatdoor", sum := "42c8e6cc2379b1510139f719e0aa096c2cd600eed14a37e77260d7bbfd52f7a8", func := "attune/attunekeep.Settled", spec := "settled", inPlace := ["(*sync.WaitGroup).Add", "internal/race.ReleaseMerge", "internal/race.Disable", "internal/race.Enable", "internal/synctest.IsInBubble", "internal/synctest.Associate[sync.WaitGroup]", "sync.fatal", "sync/atomic.OrUint64", "sync/atomic.AddUint64", "internal/race.Read", "sync/atomic.LoadUint64", "sync/atomic.StoreUint64", "internal/synctest.Disassociate[sync.WaitGroup]", "sync.runtime_Semrelease", "(*sync.WaitGroup).Done", "(*sync.WaitGroup).Wait", "internal/race.Acquire", "internal/synctest.IsAssociated[sync.WaitGroup]", "sync/atomic.CompareAndSwapUint64", "internal/race.Write", "sync.runtime_SemacquireWaitGroup"], unfollowed := true, recurses := true, named := ["attune/attunekeep.keys"], leaving := true, apart := false, laid := [("attune/attunekeep.keys", laid_attune_attunekeep_keys)] }
def SettledSaid : Prop := settledRow.holds Tryz.pinned (OpenSpec.ofChange settledSpec)

/-- ITS FALSE NEIGHBOUR: 'it returns false'. Refute it at one input. -/
def settledWrong : ChangeSpec := { name := "settled", fn := fun _ => fun
  | [d1, d2] => { results := [.lit (.bool false)], args := [d1, d2] }
  | _ => none }
def SettledWrongFalsely : Prop := settledRow.holds Tryz.pinned (OpenSpec.ofChange settledWrong)

/- THE SECOND FORM. 'bulk': how many values and letters a reading holds, each counted each time it is reached (what is shared counts as often as it is met; a slice's spare places count too). A statement '..UptoSaid' is the law's where the arguments, and the package variables that the reading takes, are together of bulk at most 1048576: NARROWER than '..Said'. Prove '..Said' where nothing that the law and all that it calls make is longer than what came in: it says more and counts as full. Else prove '..UptoSaid'. A law counts once. -/
mutual
def uptoBulk {H : Type} : DataW H → Nat
  | .lit (.string bytes) => bytes.length + 1
  | .lit _ => 1
  | .nil => 1
  | .ptr d => uptoBulk d + 1
  | .slice elems spare => uptoBulkAll elems + uptoBulkAll spare + 1
  | .agg parts => uptoBulkAll parts + 1
  | .iface _ d => uptoBulk d + 1
  | .map entries => uptoBulkEntries entries + 1
  | .held _ => 1
def uptoBulkAll {H : Type} : List (DataW H) → Nat
  | [] => 0
  | d :: r => uptoBulk d + uptoBulkAll r
def uptoBulkEntries {H : Type} : List (Lit × DataW H) → Nat
  | [] => 0
  | x :: r => uptoBulkEntry x + uptoBulkEntries r
def uptoBulkEntry {H : Type} : Lit × DataW H → Nat
  | (.string bytes, d) => bytes.length + uptoBulk d + 1
  | (_, d) => uptoBulk d + 1
 end
def uptoSmall : (H : Type) → List (DataW H) → Bool := fun _ ds => decide (uptoBulkAll ds ≤ 1048576)
def OpenSpec.upto (s : _root_.Go.ChangeSpec) : _root_.Go.OpenSpec := { _root_.Go.OpenSpec.ofChange s with cond := some uptoSmall }

/-- 'attunekeep.Treed', WHERE WHAT IT READS IS OF BULK AT MOST 1048576: true; the input reads as it did. -/
def treedUptoRow : OpenClaim := { program := "ytldmcdeibiclkaagreatdoor", sum := "42c8e6cc2379b1510139f719e0aa096c2cd600eed14a37e77260d7bbfd52f7a8", func := "attune/attunekeep.Treed", spec := "treed", inPlace := ["(*sync.WaitGroup).Add", "internal/race.ReleaseMerge", "internal/race.Disable", "internal/race.Enable", "internal/synctest.IsInBubble", "internal/synctest.Associate[sync.WaitGroup]", "sync.fatal", "sync/atomic.OrUint64", "sync/atomic.AddUint64", "internal/race.Read", "sync/atomic.LoadUint64", "sync/atomic.StoreUint64", "internal/synctest.Disassociate[sync.WaitGroup]", "sync.runtime_Semrelease", "(*sync.WaitGroup).Done", "(*sync.WaitGroup).Wait", "internal/race.Acquire", "internal/synctest.IsAssociated[sync.WaitGroup]", "sync/atomic.CompareAndSwapUint64", "internal/race.Write", "sync.runtime_SemacquireWaitGroup"], unfollowed := true, recurses := true, named := ["attune/attunekeep.keys"], leaving := true, apart := false, laid := [("attune/attunekeep.keys", laid_attune_attunekeep_keys)], narrowed := true }
def TreedUptoSaid : Prop := treedUptoRow.holds Tryz.pinned (OpenSpec.upto treedSpec)

/-- 'attunekeep.Causal', WHERE WHAT IT READS IS OF BULK AT MOST 1048576: true; the input reads as it did. -/
def causalUptoRow : OpenClaim := { program := "ytldmcdeibiclkaagreatdoor", sum := "42c8e6cc2379b1510139f719e0aa096c2cd600eed14a37e77260d7bbfd52f7a8", func := "attune/attunekeep.Causal", spec := "causal", inPlace := ["(*sync.WaitGroup).Add", "internal/race.ReleaseMerge", "internal/race.Disable", "internal/race.Enable", "internal/synctest.IsInBubble", "internal/synctest.Associate[sync.WaitGroup]", "sync.fatal", "sync/atomic.OrUint64", "sync/atomic.AddUint64", "internal/race.Read", "sync/atomic.LoadUint64", "sync/atomic.StoreUint64", "internal/synctest.Disassociate[sync.WaitGroup]", "sync.runtime_Semrelease", "(*sync.WaitGroup).Done", "(*sync.WaitGroup).Wait", "internal/race.Acquire", "internal/synctest.IsAssociated[sync.WaitGroup]", "sync/atomic.CompareAndSwapUint64", "internal/race.Write", "sync.runtime_SemacquireWaitGroup"], unfollowed := true, recurses := true, named := ["attune/attunekeep.keys"], leaving := true, apart := false, laid := [("attune/attunekeep.keys", laid_attune_attunekeep_keys)], narrowed := true }
def CausalUptoSaid : Prop := causalUptoRow.holds Tryz.pinned (OpenSpec.upto causalSpec)

/-- 'attunekeep.Converged', WHERE WHAT IT READS IS OF BULK AT MOST 1048576: true; the input reads as it did. -/
def convergedUptoRow : OpenClaim := { program := "ytldmcdeibiclkaagreatdoor", sum := "42c8e6cc2379b1510139f719e0aa096c2cd600eed14a37e77260d7bbfd52f7a8", func := "attune/attunekeep.Converged", spec := "converged", inPlace := ["(*sync.WaitGroup).Add", "internal/race.ReleaseMerge", "internal/race.Disable", "internal/race.Enable", "internal/synctest.IsInBubble", "internal/synctest.Associate[sync.WaitGroup]", "sync.fatal", "sync/atomic.OrUint64", "sync/atomic.AddUint64", "internal/race.Read", "sync/atomic.LoadUint64", "sync/atomic.StoreUint64", "internal/synctest.Disassociate[sync.WaitGroup]", "sync.runtime_Semrelease", "(*sync.WaitGroup).Done", "(*sync.WaitGroup).Wait", "internal/race.Acquire", "internal/synctest.IsAssociated[sync.WaitGroup]", "sync/atomic.CompareAndSwapUint64", "internal/race.Write", "sync.runtime_SemacquireWaitGroup"], unfollowed := true, recurses := true, named := ["attune/attunekeep.keys"], leaving := true, apart := false, laid := [("attune/attunekeep.keys", laid_attune_attunekeep_keys)], narrowed := true }
def ConvergedUptoSaid : Prop := convergedUptoRow.holds Tryz.pinned (OpenSpec.upto convergedSpec)

/-- 'attunekeep.Settled', WHERE WHAT IT READS IS OF BULK AT MOST 1048576: true; the input reads as it did. -/
def settledUptoRow : OpenClaim := { program := "ytldmcdeibiclkaagreatdoor", sum := "42c8e6cc2379b1510139f719e0aa096c2cd600eed14a37e77260d7bbfd52f7a8", func := "attune/attunekeep.Settled", spec := "settled", inPlace := ["(*sync.WaitGroup).Add", "internal/race.ReleaseMerge", "internal/race.Disable", "internal/race.Enable", "internal/synctest.IsInBubble", "internal/synctest.Associate[sync.WaitGroup]", "sync.fatal", "sync/atomic.OrUint64", "sync/atomic.AddUint64", "internal/race.Read", "sync/atomic.LoadUint64", "sync/atomic.StoreUint64", "internal/synctest.Disassociate[sync.WaitGroup]", "sync.runtime_Semrelease", "(*sync.WaitGroup).Done", "(*sync.WaitGroup).Wait", "internal/race.Acquire", "internal/synctest.IsAssociated[sync.WaitGroup]", "sync/atomic.CompareAndSwapUint64", "internal/race.Write", "sync.runtime_SemacquireWaitGroup"], unfollowed := true, recurses := true, named := ["attune/attunekeep.keys"], leaving := true, apart := false, laid := [("attune/attunekeep.keys", laid_attune_attunekeep_keys)], narrowed := true }
def SettledUptoSaid : Prop := settledUptoRow.holds Tryz.pinned (OpenSpec.upto settledSpec)

end Rows
end Go.Proofs.YtldmcdeibiclkaaGreatDoor
