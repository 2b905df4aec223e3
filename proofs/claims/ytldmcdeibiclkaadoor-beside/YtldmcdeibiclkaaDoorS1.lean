/-
  Contracts: the digest of a text, how many nodes a level has, and the segment of a key.
-/
import Derived.Test.YtldmcdeibiclkaaDoorW2
import Derived.Laws.Bits64
set_option linter.unusedVariables false
set_option linter.unusedSimpArgs false
namespace Go.Proofs.YtldmcdeibiclkaaDoor
open Go.RowKit

/-- A byte of a text, as a number. -/
def byteI (s : ByteArray) (k : Nat) : Int := if h : k < s.size then (s[k].toNat : Int) else 0
/-- The digest of the first k bytes of a text. -/
def fnvTo (s : ByteArray) : Nat → Int
  | 0 => 14695981039346656037
  | k + 1 => IntKind.u64.wrap (Go.bits .xor .u64 (fnvTo s k) (byteI s k) * 1099511628211)
/-- The digest of a text. -/
def fnv (s : ByteArray) : Int := fnvTo s s.size
/-- The segment of a key. -/
def segN (s : ByteArray) : Nat := (fnv s % 64).toNat

theorem fnvTo_range (s : ByteArray) : ∀ k, 0 ≤ fnvTo s k ∧ fnvTo s k < 18446744073709551616
  | 0 => by simp [fnvTo]
  | k + 1 => by
    simp only [fnvTo, IntKind.wrap_u64]
    exact ⟨Int.emod_nonneg _ (by decide), Int.emod_lt_of_pos _ (by decide)⟩
theorem segN_lt (s : ByteArray) : segN s < 64 := by
  unfold segN
  have h1 := Int.emod_nonneg (fnv s) (show (64 : Int) ≠ 0 by decide)
  have h2 := Int.emod_lt_of_pos (fnv s) (show (0 : Int) < 64 by decide)
  omega
theorem segN_int (s : ByteArray) : ((segN s : Nat) : Int) = fnv s % 64 := by
  unfold segN
  have h1 := Int.emod_nonneg (fnv s) (show (64 : Int) ≠ 0 by decide)
  omega

theorem wrap_byte (b : UInt8) : IntKind.u64.wrap (b.toNat : Int) = (b.toNat : Int) := by
  rw [IntKind.wrap_u64]
  have := b.toNat_lt
  omega
theorem byteI_lt (s : ByteArray) (k : Nat) (h : k < s.size) : byteI s k = (s[k].toNat : Int) := by simp [byteI, h]

set_option maxHeartbeats 400000 in
theorem sum_any (s : ByteArray) (w : World) (hs : s.size ≤ maxLen) :
    Calls Tryd.prog 32 #[.string s] w fun e w' => e = .returned (.int .u64 (fnv s)) ∧ w' = w := by
  unfold maxLen at hs
  go_enter Tryd.func32, Tryd.ntmps32
  go_wp2
  go_loop [3, 7] (fun d i => ∃ k : Nat, k ≤ s.size ∧ i = .int .i64 k ∧ d = .int .u64 (fnvTo s k)) (fun _ i => s.size - (intOf i).toNat)
  case atStart => exact ⟨0, by omega, rfl, rfl⟩
  case round =>
    obtain ⟨k, hk, rfl, rfl⟩ := hrel
    by_cases hlt : k < s.size
    · have g1 : (k : Int) < (s.size : Int) := by omega
      have g0 : (0 : Int) ≤ (k : Int) := by omega
      have hst : Hid (fnvTo s (k + 1) = IntKind.u64.wrap (Go.bits .xor .u64 (fnvTo s k) (s[k].toNat : Int) * 1099511628211)) := by
        show fnvTo s (k + 1) = _
        rw [fnvTo, byteI_lt s k hlt]
      go_wp2
      refine ⟨⟨k + 1, by omega, by go_num, ?_⟩, by simp [intOf]; omega⟩
      rw [hst.out, wrap_byte]
    · have hke : k = s.size := by omega
      go_wp2
      go_ret
      exact ⟨rfl, rfl⟩

set_option maxHeartbeats 400000 in
theorem width_3 (w : World) : Calls Tryd.prog 33 #[.int .i64 3] w fun e w' => e = .returned (.int .i64 64) ∧ w' = w := by
  go_enter Tryd.func33, Tryd.ntmps33
  go_wp2
  go_loop [3, 5] (fun c i => (i = .int .i64 0 ∧ c = .int .i64 1) ∨ (i = .int .i64 1 ∧ c = .int .i64 4) ∨ (i = .int .i64 2 ∧ c = .int .i64 16) ∨ (i = .int .i64 3 ∧ c = .int .i64 64)) (fun _ i => 3 - (intOf i).toNat)
  case atStart => exact Or.inl ⟨rfl, rfl⟩
  case round =>
    rcases hrel with ⟨rfl, rfl⟩ | ⟨rfl, rfl⟩ | ⟨rfl, rfl⟩ | ⟨rfl, rfl⟩
    · go_wp2
      exact ⟨Or.inr (Or.inl ⟨rfl, rfl⟩), by decide⟩
    · go_wp2
      exact ⟨Or.inr (Or.inr (Or.inl ⟨rfl, rfl⟩)), by decide⟩
    · go_wp2
      exact ⟨Or.inr (Or.inr (Or.inr ⟨rfl, rfl⟩)), by decide⟩
    · go_wp2
      go_ret
      exact ⟨rfl, rfl⟩

set_option maxHeartbeats 400000 in
theorem segmentOf_any (s : ByteArray) (w : World) (hs : s.size ≤ maxLen) :
    Calls Tryd.prog 26 #[.string s] w fun e w' => e = .returned (.int .i64 (segN s)) ∧ w' = w := by
  have HS : Hid _ := fun W => sum_any s W hs
  have h0 := (fnvTo_range s s.size).1
  have h1 := (fnvTo_range s s.size).2
  have hx : Hid (fnv s % 64 = (segN s : Int)) := (segN_int s).symm
  have hl := segN_lt s
  change 0 ≤ fnv s at h0
  change fnv s < _ at h1
  generalize fnv s = F at *
  go_enter Tryd.func26, Tryd.ntmps26
  go_wp2_with (first
    | (go_at_call 32; refine Calls.mono (HS.out _) ?_; rintro e w1 ⟨rfl, rfl⟩)
    | (go_at_call 33; refine (width_3 _).mono ?_; rintro e w1 ⟨rfl, rfl⟩))
  go_ret
  refine ⟨ret_int ?_, rfl⟩
  exact hx.out
end Go.Proofs.YtldmcdeibiclkaaDoor
