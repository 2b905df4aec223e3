/-
  The plain words of the proofs over package attunekeep: contexts, versions, what a context has seen, joining two contexts. No walk stands here.
-/
import Derived.Calls
set_option linter.unusedVariables false
set_option linter.unusedSimpArgs false
namespace Go.Proofs.YtldmcdeibiclkaaDoor

/-- A context: of each replica a number. -/
abbrev Ctx := Nat → Int

/-- A version: a dot and a value. -/
abbrev Ver := Nat × Int × ByteArray
abbrev Ver.rep (v : Ver) : Nat := v.1
abbrev Ver.n (v : Ver) : Int := v.2.1
abbrev Ver.val (v : Ver) : ByteArray := v.2.2

/-- A context's four cells, as a value. -/
abbrev ctxV (c : Ctx) : Value := .agg #[.int .i64 (c 0), .int .i64 (c 1), .int .i64 (c 2), .int .i64 (c 3)]

/-- A version's three cells. -/
def encV (v : Ver) : List Value := [.int .i64 v.rep, .int .i64 v.n, .string v.val]

/-- Has a context seen a dot? -/
def seenB (c : Ctx) (v : Ver) : Bool := decide (v.n ≤ c v.rep)

/-- Two contexts: replica by replica the greater number. -/
def bothC (a b : Ctx) : Ctx := fun i => max (a i) (b i)

/-- Is it one that a context may have? -/
def okN (n : Int) : Bool := decide (0 ≤ n ∧ n ≤ 1000000)
def soundB (c : Ctx) : Bool := okN (c 0) && (okN (c 1) && (okN (c 2) && okN (c 3)))

/-- pick's answer. -/
def pickS (c n : Int) : Int := (if c < 0 then -(c + 1) else c) % n

theorem pickS_range (c n : Int) (hn : 1 ≤ n) : 0 ≤ pickS c n ∧ pickS c n < n :=
  ⟨Int.emod_nonneg _ (by omega), Int.emod_lt_of_pos _ (by omega)⟩

theorem lt4 {r : Nat} (h : r < 4) : r = 0 ∨ r = 1 ∨ r = 2 ∨ r = 3 := by omega

theorem ret_int {k : IntKind} {a b : Int} (h : a = b) : Ending.returned (.int k a) = .returned (.int k b) := by rw [h]
theorem ret_bool {a b : Bool} (h : a = b) : Ending.returned (.bool a) = .returned (.bool b) := by rw [h]
end Go.Proofs.YtldmcdeibiclkaaDoor
