/-
  Contracts: cmp.Or at two numbers, and the comparison of two versions by their dots.
-/
import Derived.Test.YtldmcdeibiclkaaDoorW2
import Derived.Deep.RegionHeld3
import Derived.Sort.Grow
set_option linter.unusedVariables false
set_option linter.unusedSimpArgs false
namespace Go.Proofs.YtldmcdeibiclkaaDoor
open Go.RowKit

/-- Or's answer, of two. -/
def orI (x y : Int) : Int := if x = 0 then y else x

set_option maxHeartbeats 1000000 in
theorem or_any (b off cap : Nat) (x y : Int) (w : World) (h0 : w.cell? ⟨b, off, none⟩ = some (.int .i64 x)) (h1 : w.cell? ⟨b, off + 1, none⟩ = some (.int .i64 y)) :
    Calls Tryd.prog 37 #[.slice (some ⟨b, off, none⟩) 2 cap] w fun e w' => e = .returned (.int .i64 (orI x y)) ∧ w' = w := by
  go_enter Tryd.func37, Tryd.ntmps37
  go_wp2
  go_loop [8] (fun i => ∃ k : Nat, k ≤ 2 ∧ i = .int .i64 k ∧ Hid ((0 < k → x = 0) ∧ (1 < k → y = 0))) (fun i => 2 - (intOf i).toNat)
  case atStart => exact ⟨0, by omega, rfl, fun h => by omega, fun h => by omega⟩
  case round =>
    obtain ⟨k, hk, rfl, hall⟩ := hrel
    by_cases hlt : k < 2
    · have hk' : k = 0 ∨ k = 1 := by omega
      rcases hk' with rfl | rfl
      · by_cases hx : x = 0
        · subst hx
          go_wp2
          exact ⟨⟨1, by omega, rfl, fun _ => by trivial, fun h => by omega⟩, by simp [intOf]⟩
        · have hx' : (x == 0) = false := by simp [hx]
          have hx2 : (x != 0) = true := by simp [hx]
          go_wp2
          go_ret
          exact ⟨ret_int (by simp [orI, hx]), rfl⟩
      · have hx := hall.out.1 (by omega)
        subst hx
        by_cases hy : y = 0
        · subst hy
          go_wp2
          exact ⟨⟨2, by omega, rfl, fun _ => by trivial, fun _ => by trivial⟩, by simp [intOf]⟩
        · have hy' : (y == 0) = false := by simp [hy]
          have hy2 : (y != 0) = true := by simp [hy]
          go_wp2
          go_ret
          exact ⟨ret_int (by simp [orI]), rfl⟩
    · obtain rfl : k = 2 := by omega
      have hx := hall.out.1 (by omega)
      have hy := hall.out.2 (by omega)
      subst hx hy
      go_wp2
      go_ret
      exact ⟨ret_int (by simp [orI]), rfl⟩

/-- Compare's answer. -/
def cmpI (x y : Int) : Int := if x < y then -1 else if y < x then 1 else 0
/-- byDot's answer. -/
def cmpV (a b : Ver) : Int := orI (cmpI a.rep b.rep) (cmpI a.n b.n)

set_option maxHeartbeats 2000000 in
theorem byDot_any (ra na rb nb : Int) (va vb : ByteArray) (w : World) :
    Calls Tryd.prog 30 #[.agg #[.int .i64 ra, .int .i64 na, .string va], .agg #[.int .i64 rb, .int .i64 nb, .string vb]] w fun e w' => e = .returned (.int .i64 (orI (cmpI ra rb) (cmpI na nb))) ∧ ∃ q os', w' = Go.Sort.grow (w.drewN q) os' := by
  have hc1 : ∀ W, Calls Tryd.prog 38 #[.int .i64 ra, .int .i64 rb] W fun e w' => e = .returned (.int .i64 (cmpI ra rb)) ∧ w' = W := fun W => compare_any ra rb W
  have hc2 : ∀ W, Calls Tryd.prog 38 #[.int .i64 na, .int .i64 nb] W fun e w' => e = .returned (.int .i64 (cmpI na nb)) ∧ w' = W := fun W => compare_any na nb W
  have H1 : Hid _ := hc1
  have H2 : Hid _ := hc2
  clear hc1 hc2
  generalize cmpI ra rb = r1 at *
  generalize cmpI na nb = r2 at *
  go_enter Tryd.func30, Tryd.ntmps30
  go_wp2
  go_region_held3 (fun w' => w'.cell? ⟨w.heap.size, 0, none⟩ = some (.int .i64 ra) ∧ w'.cell? ⟨w.heap.size, 1, none⟩ = some (.int .i64 na) ∧ w'.cell? ⟨w.heap.size + 1, 0, none⟩ = some (.int .i64 rb) ∧ w'.cell? ⟨w.heap.size + 1, 1, none⟩ = some (.int .i64 nb)) (go_keep) (first
    | (go_at_call_of 38 (Value.int .i64 ra); refine (H1.out _).mono ?_; rintro e w' ⟨rfl, rfl⟩)
    | (go_at_call_of 38 (Value.int .i64 na); refine (H2.out _).mono ?_; rintro e w' ⟨rfl, rfl⟩)
    | (go_at_call 37; refine (or_any _ _ _ r1 r2 _ (by go_simp) (by go_simp)).mono ?_; rintro e w' ⟨rfl, rfl⟩))
  go_wp2
  go_ret
  exact ⟨rfl, 1, _, by rw [Go.Sort.alloc_eq_grow, Go.Sort.alloc_eq_grow, Go.Sort.alloc_eq_grow, Go.Sort.grow_grow, Go.Sort.grow_grow]; rfl⟩
end Go.Proofs.YtldmcdeibiclkaaDoor
