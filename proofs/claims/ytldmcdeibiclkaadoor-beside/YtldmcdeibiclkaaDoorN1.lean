/-
  Contracts: pick, and dice.next: a number below n; the place moves on, or there is none left.
-/
import Derived.Test.YtldmcdeibiclkaaDoorW15
set_option linter.unusedVariables false
set_option linter.unusedSimpArgs false
namespace Go.Proofs.YtldmcdeibiclkaaDoor
open Go.RowKit

set_option maxHeartbeats 400000 in
theorem pick_any (c n : Int) (w : World) (h1 : -9223372036854775808 ≤ c) (h2 : c ≤ 9223372036854775807) (hn : 1 ≤ n) (hn2 : n ≤ 1000) :
    Calls Tryd.prog 12 #[.int .i64 c, .int .i64 n] w fun e w' => e = .returned (.int .i64 (pickS c n)) ∧ w' = w := by
  by_cases h : c < 0
  · go_enter Tryd.func12, Tryd.ntmps12
    go_wp2
    go_ret
    refine ⟨ret_int ?_, rfl⟩
    rw [pickS, if_pos h, ← Int.neg_tmod, Int.tmod_eq_emod_of_nonneg (by omega)]
  · go_enter Tryd.func12, Tryd.ntmps12
    go_wp2
    go_ret
    refine ⟨ret_int ?_, rfl⟩
    rw [pickS, if_neg (by omega)]

/-- A list of raw numbers lies in memory. -/
def CodeAt (w : World) (ad : Option Addr) (n : Nat) : Prop := n = 0 ∨ ∃ b off, ad = some ⟨b, off, none⟩ ∧ ∀ j, j < n → ∃ z : Int, w.cell? ⟨b, off + j, none⟩ = some (.int .i64 z) ∧ -9223372036854775808 ≤ z ∧ z ≤ 9223372036854775807

/-- The dice lie at block bx: so many numbers, and the place. -/
def DiceAt (w : World) (bx : Nat) (ad : Option Addr) (n cap at' : Nat) : Prop :=
  w.heap[bx]? = some (.cells #[.slice ad n cap, .int .i64 at'] 25) ∧ at' ≤ n ∧ n ≤ 9223372036854775807 ∧ CodeAt w ad n

set_option maxRecDepth 100000 in
set_option maxHeartbeats 400000 in
theorem next_end (bx : Nat) (ad : Option Addr) (n cap at' : Nat) (m : Int) (w : World) (h : DiceAt w bx ad n cap at') (he : n ≤ at') :
    Calls Tryd.prog 5 #[.pointer (some ⟨bx, 0, none⟩), .int .i64 m] w fun e w' => e = .returned (.int .i64 0) ∧ ∃ q, w' = w.drewN q := by
  obtain ⟨hb, hle, hn, _⟩ := h
  obtain ⟨c, f⟩ := cells_of0 hb
  have hge : ((n : Int) ≤ (at' : Int)) := by omega
  clear hb
  go_enter Tryd.func5, Tryd.ntmps5
  go_wp2
  go_quiet (fail)
  go_wp2
  go_ret
  exact ⟨rfl, _, rfl⟩

set_option maxRecDepth 100000 in
set_option maxHeartbeats 400000 in
theorem next_more (bx b off n cap at' : Nat) (m z : Int) (w : World) (hb : w.heap[bx]? = some (.cells #[.slice (some ⟨b, off, none⟩) n cap, .int .i64 at'] 25)) (hlt : at' < n) (hn : n ≤ 9223372036854775807) (hz : w.cell? ⟨b, off + at', none⟩ = some (.int .i64 z)) (hz1 : -9223372036854775808 ≤ z) (hz2 : z ≤ 9223372036854775807) (hm : 1 ≤ m) (hm2 : m ≤ 1000) :
    Calls Tryd.prog 5 #[.pointer (some ⟨bx, 0, none⟩), .int .i64 m] w fun e w' => e = .returned (.int .i64 (pickS z m)) ∧ ∃ q, w' = (w.drewN q).setCell ⟨bx, 1, none⟩ (.int .i64 (at' + 1)) := by
  obtain ⟨c, f⟩ := cells_of0 hb
  have hlt' : ((at' : Int) < (n : Int)) := by omega
  have h0 : (0 : Int) ≤ (at' : Int) := by omega
  have hlt2 : ¬ ((n : Int) ≤ (at' : Int)) := by omega
  have hbig : (at' : Int) + 1 ≤ 9223372036854775807 := by omega
  have HP : Hid (∀ W, Calls Tryd.prog 12 #[.int .i64 z, .int .i64 m] W fun e w' => e = .returned (.int .i64 (pickS z m)) ∧ w' = W) := fun W => pick_any z m W hz1 hz2 hm hm2
  generalize pickS z m = r at *
  have hd : decide (n ≤ at') = false := by simpa using hlt
  clear hb hz1 hz2 hlt2
  go_enter Tryd.func5, Tryd.ntmps5
  go_wp2
  go_quiet (fail)
  go_wp2
  go_quiet ((go_at_call 12; refine (HP.out _).mono ?_; rintro e w' ⟨rfl, rfl⟩; exact ⟨rfl, _, rfl⟩))
  go_wp2
  go_ret
  exact ⟨rfl, _, rfl⟩

/-- What a call of next leaves: a number below m; the dice stand on; nothing else that was there turns. -/
theorem next_any (bx : Nat) (ad : Option Addr) (n cap at' : Nat) (m : Int) (w : World) (h : DiceAt w bx ad n cap at') (hnb : 0 < n → ∀ b off, ad = some ⟨b, off, none⟩ → b ≠ bx) (hm : 1 ≤ m) (hm2 : m ≤ 1000) :
    Calls Tryd.prog 5 #[.pointer (some ⟨bx, 0, none⟩), .int .i64 m] w fun e w' => ∃ (r : Nat) (at2 : Nat), e = .returned (.int .i64 r) ∧ (r : Int) < m ∧ DiceAt w' bx ad n cap at2 ∧ at' ≤ at2 ∧ w.grownBy w' (some bx) ∧ w'.heap.size = w.heap.size := by
  by_cases he : n ≤ at'
  · refine (next_end bx ad n cap at' m w h he).mono ?_
    rintro e w' ⟨rfl, q, rfl⟩
    exact ⟨0, at', rfl, by omega, h, Nat.le_refl _, ⟨rfl, rfl, rfl, Nat.le_refl _, fun _ _ _ => rfl⟩, rfl⟩
  · obtain ⟨hb, hle, hn, hc⟩ := h
    rcases hc with hc | ⟨b, off, rfl, hall⟩
    · omega
    · obtain ⟨z, hz, hz1, hz2⟩ := hall at' (by omega)
      have hr := pickS_range z m hm
      refine (next_more bx b off n cap at' m z w hb (by omega) hn hz hz1 hz2 hm hm2).mono ?_
      rintro e w' ⟨rfl, q, rfl⟩
      obtain ⟨r, hr'⟩ := Int.eq_ofNat_of_zero_le hr.1
      have hbne := hnb (by omega) b off rfl
      refine ⟨r, at' + 1, by rw [hr'], by omega, ⟨?_, by omega, hn, Or.inr ⟨b, off, rfl, fun j hj => ?_⟩⟩, by omega, ⟨rfl, rfl, rfl, by simp [World.setCell], fun k hk hne => ?_⟩, by simp [World.setCell]⟩
      · have := heap_set (w := w.drewN q) (o := 1) (v := .int .i64 (at' + 1)) (show (w.drewN q).heap[bx]? = _ from hb)
        simpa using this
      · obtain ⟨z', h1, h2, h3⟩ := hall j hj
        exact ⟨z', by rw [set_far hbne]; exact h1, h2, h3⟩
      · exact Below.heap_setCell (w.drewN q) ⟨bx, 1, none⟩ _ k (fun e => hne (by rw [e]))
end Go.Proofs.YtldmcdeibiclkaaDoor
