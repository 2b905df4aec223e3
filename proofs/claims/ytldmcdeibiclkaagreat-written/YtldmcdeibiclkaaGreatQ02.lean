/-
  The plain words of the proofs over package attunekeep: contexts, versions, what a context has seen, joining two contexts. No walk stands here.
  Contracts of the small functions of package state: what each call answers and what becomes of the world.
  Contracts: IsKey, IsValue, cmp.Compare, cmp.Or and the comparison of versions.
  Contracts: cmp.Or at two numbers, and the comparison of two versions by their dots.
-/
import Derived.Calls
import Derived.Test.YtldmcdeibiclkaaGreatRows
import Derived.WalkKit
import Derived.WalkSpells
import Derived.WalkLawsBesides
import Derived.Deep.QuietTactic
import Derived.BigQuiet
import Derived.Deep.RegionHeld3
import Derived.Sort.Grow
set_option linter.unusedVariables false
set_option linter.unusedSimpArgs false

namespace Go.Proofs.YtldmcdeibiclkaaGreat

/-- A context: of each replica a number. -/
abbrev Ctx := Nat → Int

/-- A version: a dot and a value. -/
abbrev Ver := Nat × Int × ByteArray
abbrev Ver.rep (v : Ver) : Nat := v.1
abbrev Ver.n (v : Ver) : Int := v.2.1
abbrev Ver.val (v : Ver) : ByteArray := v.2.2

/-- A context's four cells, as a value. -/
abbrev ctxV (c : Ctx) : Value := .agg #[.int .i64 (c 0), .int .i64 (c 1), .int .i64 (c 2), .int .i64 (c 3)]

/-- A version's three cells. -/
def encV (v : Ver) : List Value := [.int .i64 v.rep, .int .i64 v.n, .string v.val]

/-- Has a context seen a dot? -/
def seenB (c : Ctx) (v : Ver) : Bool := decide (v.n ≤ c v.rep)

/-- Two contexts: replica by replica the greater number. -/
def bothC (a b : Ctx) : Ctx := fun i => max (a i) (b i)

/-- Is it one that a context may have? -/
def okN (n : Int) : Bool := decide (0 ≤ n ∧ n ≤ 1000000)
def soundB (c : Ctx) : Bool := okN (c 0) && (okN (c 1) && (okN (c 2) && okN (c 3)))

/-- pick's answer. -/
def pickS (c n : Int) : Int := (if c < 0 then -(c + 1) else c) % n

theorem pickS_range (c n : Int) (hn : 1 ≤ n) : 0 ≤ pickS c n ∧ pickS c n < n :=
  ⟨Int.emod_nonneg _ (by omega), Int.emod_lt_of_pos _ (by omega)⟩

theorem lt4 {r : Nat} (h : r < 4) : r = 0 ∨ r = 1 ∨ r = 2 ∨ r = 3 := by omega

theorem ret_int {k : IntKind} {a b : Int} (h : a = b) : Ending.returned (.int k a) = .returned (.int k b) := by rw [h]
theorem ret_bool {a b : Bool} (h : a = b) : Ending.returned (.bool a) = .returned (.bool b) := by rw [h]
end Go.Proofs.YtldmcdeibiclkaaGreat

namespace Go.Proofs.YtldmcdeibiclkaaGreat
open Go.RowKit

/-- Indexing an array of four by value. -/
theorem index4 (W : World) (a b c d : Value) :
    (Instr.index 70 (.agg #[a, b, c, d]) (.int .i64 0)).run Tryz.prog W = .ok a W ∧
    (Instr.index 70 (.agg #[a, b, c, d]) (.int .i64 1)).run Tryz.prog W = .ok b W ∧
    (Instr.index 70 (.agg #[a, b, c, d]) (.int .i64 2)).run Tryz.prog W = .ok c W ∧
    (Instr.index 70 (.agg #[a, b, c, d]) (.int .i64 3)).run Tryz.prog W = .ok d W :=
  ⟨by kernel_rfl, by kernel_rfl, by kernel_rfl, by kernel_rfl⟩

theorem sound_of {c : Ctx} (h : ∀ j, j < 4 → 0 ≤ c j ∧ c j ≤ 1000000) : soundB c = true := by
  simp only [soundB, okN, Bool.and_eq_true, decide_eq_true_eq]
  exact ⟨h 0 (by omega), h 1 (by omega), h 2 (by omega), h 3 (by omega)⟩
theorem sound_not {c : Ctx} {k : Nat} (hk : k < 4) (h : ¬ (0 ≤ c k ∧ c k ≤ 1000000)) : soundB c = false := by
  cases hs : soundB c with
  | false => rfl
  | true =>
    simp only [soundB, okN, Bool.and_eq_true, decide_eq_true_eq] at hs
    rcases lt4 hk with rfl | rfl | rfl | rfl
    · exact absurd hs.1 h
    · exact absurd hs.2.1 h
    · exact absurd hs.2.2.1 h
    · exact absurd hs.2.2.2 h

set_option maxRecDepth 100000 in
set_option maxHeartbeats 1000000 in
theorem sound_any (c : Ctx) (w : World) :
    Calls Tryz.prog 31 #[ctxV c] w fun e w' => e = .returned (.bool (soundB c)) ∧ Below w.heap.size w w' := by
  go_enter Tryz.func31, Tryz.ntmps31
  go_wp2
  go_loop [6] (fun i => ∃ k : Nat, k ≤ 4 ∧ i = .int .i64 k ∧ ∀ j, j < k → 0 ≤ c j ∧ c j ≤ 1000000) (fun i => 4 - (intOf i).toNat)
  case atStart => exact ⟨0, by omega, rfl, fun j hj => by omega⟩
  case round =>
    obtain ⟨k, hk, rfl, hall⟩ := hrel
    have Hall := (show Hid _ from hall)
    clear hall
    by_cases hlt : k < 4
    · by_cases hb : 0 ≤ c k ∧ c k ≤ 1000000
      · obtain ⟨hb1, hb2⟩ := hb
        have hall' : Hid (∀ j, j < k + 1 → 0 ≤ c j ∧ c j ≤ 1000000) := fun j hj => by
          by_cases e : j = k
          · subst e; exact ⟨hb1, hb2⟩
          · exact Hall.out j (by omega)
        clear Hall
        rcases lt4 hlt with rfl | rfl | rfl | rfl
        all_goals
          have hix := index4
          go_wp2
          exact ⟨⟨_, by omega, by go_num, hall'.out⟩, by simp [intOf]⟩
      · have hs : Hid (soundB c = false) := sound_not hlt hb
        clear Hall
        have hb' : c k < 0 ∨ 1000000 < c k := by omega
        clear hb
        rcases hb' with hb' | hb'
        all_goals
          try (have hb0 : 0 ≤ c k := by omega)
          rcases lt4 hlt with rfl | rfl | rfl | rfl
          all_goals
            have hix := index4
            go_wp2
            go_ret
            exact ⟨ret_bool hs.out.symm, (Below.refl _ _).alloc (Nat.le_refl _) _⟩
    · obtain rfl : k = 4 := by omega
      have hs : Hid (soundB c = true) := sound_of Hall.out
      clear Hall
      go_wp2
      go_ret
      exact ⟨ret_bool hs.out.symm, (Below.refl _ _).alloc (Nat.le_refl _) _⟩

theorem below_drewN {B : Nat} {a w : World} (h : Below B a w) (n : Nat) : Below B a (w.drewN n) := ⟨h.os, h.tape, h.output, h.size, h.block⟩

set_option maxHeartbeats 400000 in
theorem hasSeen_any (c : Ctx) (r : Nat) (n : Int) (w : World) (hr : r < 4) :
    Calls Tryz.prog 85 #[ctxV c, .agg #[.int .i64 r, .int .i64 n]] w fun e w' => e = .returned (.bool (decide (n ≤ c r))) ∧ Below w.heap.size w w' := by
  rcases lt4 hr with rfl | rfl | rfl | rfl
  all_goals
    go_enter Tryz.func85, Tryz.ntmps85
    go_wp2
    go_quiet (fail)
    go_wp2
    go_ret
    exact ⟨rfl, below_drewN (((Below.refl _ _).alloc (Nat.le_refl _) _).alloc (by simp) _) _⟩

theorem grow_max {d x y : Int} (h : d = x) : (if d < y then y else d) = max x y := by
  subst h; rw [Int.max_def]; split <;> split <;> omega

set_option maxRecDepth 100000 in
set_option maxHeartbeats 1000000 in
theorem greater_any (a b : Ctx) (w : World) :
    Calls Tryz.prog 60 #[ctxV a, ctxV b] w fun e w' => e = .returned (ctxV (bothC a b)) ∧ Below w.heap.size w w' := by
  go_enter Tryz.func60, Tryz.ntmps60
  go_wp2
  go_loopw [8] (fun i w' => ∃ k : Nat, k ≤ 4 ∧ i = .int .i64 k ∧ ∃ d0 d1 d2 d3 : Int, w' = ((w.alloc (.cells #[.int .i64 d0, .int .i64 d1, .int .i64 d2, .int .i64 d3] 70)).alloc (.cells #[.int .i64 (b 0), .int .i64 (b 1), .int .i64 (b 2), .int .i64 (b 3)] 70)).alloc (.cells #[.int .i64 0, .int .i64 0, .int .i64 0, .int .i64 0] 70) ∧ Hid (d0 = if 0 < k then bothC a b 0 else a 0) ∧ Hid (d1 = if 1 < k then bothC a b 1 else a 1) ∧ Hid (d2 = if 2 < k then bothC a b 2 else a 2) ∧ Hid (d3 = if 3 < k then bothC a b 3 else a 3)) (fun i _ => 4 - (intOf i).toNat)
  case atStart => exact ⟨0, by omega, rfl, _, _, _, _, rfl, rfl, rfl, rfl, rfl⟩
  case round =>
    obtain ⟨k, hk, rfl, d0, d1, d2, d3, rfl, h0, h1, h2, h3⟩ := hrel
    by_cases hlt : k < 4
    · have hix := index4
      rcases lt4 hlt with rfl | rfl | rfl | rfl
      · go_wp2
        exact ⟨⟨1, by omega, rfl, _, _, _, _, rfl, grow_max h0.out, h1, h2, h3⟩, by simp [intOf]⟩
      · go_wp2
        exact ⟨⟨2, by omega, rfl, _, _, _, _, rfl, h0, grow_max h1.out, h2, h3⟩, by simp [intOf]⟩
      · go_wp2
        exact ⟨⟨3, by omega, rfl, _, _, _, _, rfl, h0, h1, grow_max h2.out, h3⟩, by simp [intOf]⟩
      · go_wp2
        exact ⟨⟨4, by omega, rfl, _, _, _, _, rfl, h0, h1, h2, grow_max h3.out⟩, by simp [intOf]⟩
    · obtain rfl : k = 4 := by omega
      go_wp2
      refine bodyPost_ret (v := ctxV (bothC a b)) ?_ rfl ⟨rfl, ?_⟩
      · simp [results, Tryz.results60, go_sem]
        exact ⟨h0.out, h1.out, h2.out, h3.out⟩
      · exact (((Below.refl _ _).alloc (Nat.le_refl _) _).alloc (by simp) _).alloc (by simp; omega) _
end Go.Proofs.YtldmcdeibiclkaaGreat

namespace Go.Proofs.YtldmcdeibiclkaaGreat
open Go.RowKit

/-- A byte of a key. -/
def keyByte (b : UInt8) : Bool := decide (97 ≤ b.toNat ∧ b.toNat ≤ 122)
/-- Is a text a key? -/
def keyB (s : ByteArray) : Bool := decide (1 ≤ s.size ∧ s.size ≤ 8) && s.data.toList.all keyByte

set_option maxHeartbeats 400000 in
theorem isValue_any (s : ByteArray) (w : World) (hs : s.size ≤ maxLen) :
    Calls Tryz.prog 30 #[.string s] w fun e w' => e = .returned (.bool (decide (s.size ≤ 12))) ∧ w' = w := by
  unfold maxLen at hs
  go_enter Tryz.func30, Tryz.ntmps30
  go_wp2
  go_ret
  exact ⟨ret_bool (by simp; omega), rfl⟩

set_option maxHeartbeats 400000 in
theorem compare_any (x y : Int) (w : World) :
    Calls Tryz.prog 89 #[.int .i64 x, .int .i64 y] w fun e w' => e = .returned (.int .i64 (if x < y then -1 else if y < x then 1 else 0)) ∧ w' = w := by
  by_cases h1 : x < y
  · go_enter Tryz.func89, Tryz.ntmps89
    go_wp2
    go_ret
    exact ⟨rfl, rfl⟩
  · by_cases h2 : y < x
    · go_enter Tryz.func89, Tryz.ntmps89
      go_wp2
      go_ret
      exact ⟨rfl, rfl⟩
    · go_enter Tryz.func89, Tryz.ntmps89
      go_wp2
      go_ret
      exact ⟨rfl, rfl⟩

theorem key_all {s : ByteArray} (h1 : 1 ≤ s.size) (h2 : s.size ≤ 8) (h : ∀ j (h : j < s.size), keyByte s[j] = true) : keyB s = true := by
  simp only [keyB, Bool.and_eq_true, decide_eq_true_eq, List.all_eq_true]
  refine ⟨⟨h1, h2⟩, fun x hx => ?_⟩
  obtain ⟨j, hj, rfl⟩ := List.mem_iff_getElem.1 hx
  exact h j (by simpa using hj)
theorem key_not {s : ByteArray} {j : Nat} (hj : j < s.size) (h : ¬ (97 ≤ s[j].toNat ∧ s[j].toNat ≤ 122)) : keyB s = false := by
  simp only [keyB, Bool.and_eq_false_iff]
  right
  rw [List.all_eq_false]
  exact ⟨s[j], by simp [ByteArray.getElem_eq_getElem_data], by simpa [keyByte] using h⟩
theorem key_len {s : ByteArray} (h : ¬ (1 ≤ s.size ∧ s.size ≤ 8)) : keyB s = false := by
  simp only [keyB, Bool.and_eq_false_iff]
  exact Or.inl (decide_eq_false h)

set_option maxHeartbeats 400000 in
theorem isKey_any (s : ByteArray) (w : World) (hs : s.size ≤ maxLen) :
    Calls Tryz.prog 29 #[.string s] w fun e w' => e = .returned (.bool (keyB s)) ∧ w' = w := by
  unfold maxLen at hs
  by_cases hl : 1 ≤ s.size ∧ s.size ≤ 8
  · obtain ⟨hl1, hl2⟩ := hl
    go_enter Tryz.func29, Tryz.ntmps29
    go_wp2
    go_loop [14] (fun i => ∃ k : Nat, k ≤ s.size ∧ i = .int .i64 k ∧ Hid (∀ j (h : j < s.size), j < k → keyByte s[j] = true)) (fun i => s.size - (intOf i).toNat)
    case atStart => exact ⟨0, by omega, rfl, fun j hj => by omega⟩
    case round =>
      obtain ⟨k, hk, rfl, hall⟩ := hrel
      by_cases hlt : k < s.size
      · by_cases hb : 97 ≤ s[k].toNat ∧ s[k].toNat ≤ 122
        · obtain ⟨hb1, hb2⟩ := hb
          have hall' : Hid (∀ j (h : j < s.size), j < k + 1 → keyByte s[j] = true) := fun j h hj => by
            by_cases e : j = k
            · subst e; exact decide_eq_true ⟨hb1, hb2⟩
            · exact hall.out j h (by omega)
          go_wp2
          exact ⟨⟨k + 1, by omega, by go_num, hall'⟩, by simp [intOf]; omega⟩
        · have hs' : Hid (keyB s = false) := key_not hlt hb
          have hb' : s[k].toNat < 97 ∨ 122 < s[k].toNat := by omega
          clear hb hall
          rcases hb' with hb' | hb'
          · go_wp2
            go_ret
            exact ⟨ret_bool hs'.out.symm, rfl⟩
          · go_wp2
            go_ret
            exact ⟨ret_bool hs'.out.symm, rfl⟩
      · have hs' : Hid (keyB s = true) := key_all hl1 hl2 fun j h => hall.out j h (by omega)
        clear hall
        go_wp2
        go_ret
        exact ⟨ret_bool hs'.out.symm, rfl⟩
  · have hs' : Hid (keyB s = false) := key_len hl
    have hl' : s.size < 1 ∨ 8 < s.size := by omega
    clear hl
    rcases hl' with hl' | hl'
    · go_enter Tryz.func29, Tryz.ntmps29
      go_wp2
      go_ret
      exact ⟨ret_bool hs'.out.symm, rfl⟩
    · go_enter Tryz.func29, Tryz.ntmps29
      go_wp2
      go_ret
      exact ⟨ret_bool hs'.out.symm, rfl⟩
end Go.Proofs.YtldmcdeibiclkaaGreat

namespace Go.Proofs.YtldmcdeibiclkaaGreat
open Go.RowKit

/-- Or's answer, of two. -/
def orI (x y : Int) : Int := if x = 0 then y else x

set_option maxHeartbeats 1000000 in
theorem or_any (b off cap : Nat) (x y : Int) (w : World) (h0 : w.cell? ⟨b, off, none⟩ = some (.int .i64 x)) (h1 : w.cell? ⟨b, off + 1, none⟩ = some (.int .i64 y)) :
    Calls Tryz.prog 88 #[.slice (some ⟨b, off, none⟩) 2 cap] w fun e w' => e = .returned (.int .i64 (orI x y)) ∧ w' = w := by
  go_enter Tryz.func88, Tryz.ntmps88
  go_wp2
  go_loop [8] (fun i => ∃ k : Nat, k ≤ 2 ∧ i = .int .i64 k ∧ Hid ((0 < k → x = 0) ∧ (1 < k → y = 0))) (fun i => 2 - (intOf i).toNat)
  case atStart => exact ⟨0, by omega, rfl, fun h => by omega, fun h => by omega⟩
  case round =>
    obtain ⟨k, hk, rfl, hall⟩ := hrel
    by_cases hlt : k < 2
    · have hk' : k = 0 ∨ k = 1 := by omega
      rcases hk' with rfl | rfl
      · by_cases hx : x = 0
        · subst hx
          go_wp2
          exact ⟨⟨1, by omega, rfl, fun _ => by trivial, fun h => by omega⟩, by simp [intOf]⟩
        · have hx' : (x == 0) = false := by simp [hx]
          have hx2 : (x != 0) = true := by simp [hx]
          go_wp2
          go_ret
          exact ⟨ret_int (by simp [orI, hx]), rfl⟩
      · have hx := hall.out.1 (by omega)
        subst hx
        by_cases hy : y = 0
        · subst hy
          go_wp2
          exact ⟨⟨2, by omega, rfl, fun _ => by trivial, fun _ => by trivial⟩, by simp [intOf]⟩
        · have hy' : (y == 0) = false := by simp [hy]
          have hy2 : (y != 0) = true := by simp [hy]
          go_wp2
          go_ret
          exact ⟨ret_int (by simp [orI]), rfl⟩
    · obtain rfl : k = 2 := by omega
      have hx := hall.out.1 (by omega)
      have hy := hall.out.2 (by omega)
      subst hx hy
      go_wp2
      go_ret
      exact ⟨ret_int (by simp [orI]), rfl⟩

/-- Compare's answer. -/
def cmpI (x y : Int) : Int := if x < y then -1 else if y < x then 1 else 0
/-- byDot's answer. -/
def cmpV (a b : Ver) : Int := orI (cmpI a.rep b.rep) (cmpI a.n b.n)

set_option maxHeartbeats 2000000 in
theorem byDot_any (ra na rb nb : Int) (va vb : ByteArray) (w : World) :
    Calls Tryz.prog 62 #[.agg #[.int .i64 ra, .int .i64 na, .string va], .agg #[.int .i64 rb, .int .i64 nb, .string vb]] w fun e w' => e = .returned (.int .i64 (orI (cmpI ra rb) (cmpI na nb))) ∧ ∃ q os', w' = Go.Sort.grow (w.drewN q) os' := by
  have hc1 : ∀ W, Calls Tryz.prog 89 #[.int .i64 ra, .int .i64 rb] W fun e w' => e = .returned (.int .i64 (cmpI ra rb)) ∧ w' = W := fun W => compare_any ra rb W
  have hc2 : ∀ W, Calls Tryz.prog 89 #[.int .i64 na, .int .i64 nb] W fun e w' => e = .returned (.int .i64 (cmpI na nb)) ∧ w' = W := fun W => compare_any na nb W
  have H1 : Hid _ := hc1
  have H2 : Hid _ := hc2
  clear hc1 hc2
  generalize cmpI ra rb = r1 at *
  generalize cmpI na nb = r2 at *
  go_enter Tryz.func62, Tryz.ntmps62
  go_wp2
  go_region_held3 (fun w' => w'.cell? ⟨w.heap.size, 0, none⟩ = some (.int .i64 ra) ∧ w'.cell? ⟨w.heap.size, 1, none⟩ = some (.int .i64 na) ∧ w'.cell? ⟨w.heap.size + 1, 0, none⟩ = some (.int .i64 rb) ∧ w'.cell? ⟨w.heap.size + 1, 1, none⟩ = some (.int .i64 nb)) (go_keep) (first
    | (go_at_call_of 89 (Value.int .i64 ra); refine (H1.out _).mono ?_; rintro e w' ⟨rfl, rfl⟩)
    | (go_at_call_of 89 (Value.int .i64 na); refine (H2.out _).mono ?_; rintro e w' ⟨rfl, rfl⟩)
    | (go_at_call 88; refine (or_any _ _ _ r1 r2 _ (by go_simp) (by go_simp)).mono ?_; rintro e w' ⟨rfl, rfl⟩))
  go_wp2
  go_ret
  exact ⟨rfl, 1, _, by rw [Go.Sort.alloc_eq_grow, Go.Sort.alloc_eq_grow, Go.Sort.alloc_eq_grow, Go.Sort.grow_grow, Go.Sort.grow_grow]; rfl⟩
end Go.Proofs.YtldmcdeibiclkaaGreat
