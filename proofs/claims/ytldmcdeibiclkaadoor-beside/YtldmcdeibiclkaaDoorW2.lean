/-
  Contracts: IsKey, IsValue, cmp.Compare, cmp.Or and the comparison of versions.
-/
import Derived.Test.YtldmcdeibiclkaaDoorRows
import Derived.Test.YtldmcdeibiclkaaDoorDefs
import Derived.WalkKit
import Derived.WalkSpells
import Derived.WalkLawsBesides
import Derived.Deep.QuietTactic
import Derived.BigQuiet
set_option linter.unusedVariables false
set_option linter.unusedSimpArgs false
namespace Go.Proofs.YtldmcdeibiclkaaDoor
open Go.RowKit

/-- A byte of a key. -/
def keyByte (b : UInt8) : Bool := decide (97 ≤ b.toNat ∧ b.toNat ≤ 122)
/-- Is a text a key? -/
def keyB (s : ByteArray) : Bool := decide (1 ≤ s.size ∧ s.size ≤ 8) && s.data.toList.all keyByte

set_option maxHeartbeats 400000 in
theorem isValue_any (s : ByteArray) (w : World) (hs : s.size ≤ maxLen) :
    Calls Tryd.prog 17 #[.string s] w fun e w' => e = .returned (.bool (decide (s.size ≤ 12))) ∧ w' = w := by
  unfold maxLen at hs
  go_enter Tryd.func17, Tryd.ntmps17
  go_wp2
  go_ret
  exact ⟨ret_bool (by simp; omega), rfl⟩

set_option maxHeartbeats 400000 in
theorem compare_any (x y : Int) (w : World) :
    Calls Tryd.prog 38 #[.int .i64 x, .int .i64 y] w fun e w' => e = .returned (.int .i64 (if x < y then -1 else if y < x then 1 else 0)) ∧ w' = w := by
  by_cases h1 : x < y
  · go_enter Tryd.func38, Tryd.ntmps38
    go_wp2
    go_ret
    exact ⟨rfl, rfl⟩
  · by_cases h2 : y < x
    · go_enter Tryd.func38, Tryd.ntmps38
      go_wp2
      go_ret
      exact ⟨rfl, rfl⟩
    · go_enter Tryd.func38, Tryd.ntmps38
      go_wp2
      go_ret
      exact ⟨rfl, rfl⟩

theorem key_all {s : ByteArray} (h1 : 1 ≤ s.size) (h2 : s.size ≤ 8) (h : ∀ j (h : j < s.size), keyByte s[j] = true) : keyB s = true := by
  simp only [keyB, Bool.and_eq_true, decide_eq_true_eq, List.all_eq_true]
  refine ⟨⟨h1, h2⟩, fun x hx => ?_⟩
  obtain ⟨j, hj, rfl⟩ := List.mem_iff_getElem.1 hx
  exact h j (by simpa using hj)
theorem key_not {s : ByteArray} {j : Nat} (hj : j < s.size) (h : ¬ (97 ≤ s[j].toNat ∧ s[j].toNat ≤ 122)) : keyB s = false := by
  simp only [keyB, Bool.and_eq_false_iff]
  right
  rw [List.all_eq_false]
  exact ⟨s[j], by simp [ByteArray.getElem_eq_getElem_data], by simpa [keyByte] using h⟩
theorem key_len {s : ByteArray} (h : ¬ (1 ≤ s.size ∧ s.size ≤ 8)) : keyB s = false := by
  simp only [keyB, Bool.and_eq_false_iff]
  exact Or.inl (decide_eq_false h)

set_option maxHeartbeats 400000 in
theorem isKey_any (s : ByteArray) (w : World) (hs : s.size ≤ maxLen) :
    Calls Tryd.prog 16 #[.string s] w fun e w' => e = .returned (.bool (keyB s)) ∧ w' = w := by
  unfold maxLen at hs
  by_cases hl : 1 ≤ s.size ∧ s.size ≤ 8
  · obtain ⟨hl1, hl2⟩ := hl
    go_enter Tryd.func16, Tryd.ntmps16
    go_wp2
    go_loop [14] (fun i => ∃ k : Nat, k ≤ s.size ∧ i = .int .i64 k ∧ Hid (∀ j (h : j < s.size), j < k → keyByte s[j] = true)) (fun i => s.size - (intOf i).toNat)
    case atStart => exact ⟨0, by omega, rfl, fun j hj => by omega⟩
    case round =>
      obtain ⟨k, hk, rfl, hall⟩ := hrel
      by_cases hlt : k < s.size
      · by_cases hb : 97 ≤ s[k].toNat ∧ s[k].toNat ≤ 122
        · obtain ⟨hb1, hb2⟩ := hb
          have hall' : Hid (∀ j (h : j < s.size), j < k + 1 → keyByte s[j] = true) := fun j h hj => by
            by_cases e : j = k
            · subst e; exact decide_eq_true ⟨hb1, hb2⟩
            · exact hall.out j h (by omega)
          go_wp2
          exact ⟨⟨k + 1, by omega, by go_num, hall'⟩, by simp [intOf]; omega⟩
        · have hs' : Hid (keyB s = false) := key_not hlt hb
          have hb' : s[k].toNat < 97 ∨ 122 < s[k].toNat := by omega
          clear hb hall
          rcases hb' with hb' | hb'
          · go_wp2
            go_ret
            exact ⟨ret_bool hs'.out.symm, rfl⟩
          · go_wp2
            go_ret
            exact ⟨ret_bool hs'.out.symm, rfl⟩
      · have hs' : Hid (keyB s = true) := key_all hl1 hl2 fun j h => hall.out j h (by omega)
        clear hall
        go_wp2
        go_ret
        exact ⟨ret_bool hs'.out.symm, rfl⟩
  · have hs' : Hid (keyB s = false) := key_len hl
    have hl' : s.size < 1 ∨ 8 < s.size := by omega
    clear hl
    rcases hl' with hl' | hl'
    · go_enter Tryd.func16, Tryd.ntmps16
      go_wp2
      go_ret
      exact ⟨ret_bool hs'.out.symm, rfl⟩
    · go_enter Tryd.func16, Tryd.ntmps16
      go_wp2
      go_ret
      exact ⟨ret_bool hs'.out.symm, rfl⟩
end Go.Proofs.YtldmcdeibiclkaaDoor
