/-
  Contract: Put where it is refused: no key, or too many versions or writes.
  Contracts: what the program refuses: New, Put, Delete and Get.
-/
import Derived.Test.YtldmcdeibiclkaaGreatQ07
import Derived.Test.YtldmcdeibiclkaaGreatQ09
set_option linter.unusedVariables false
set_option linter.unusedSimpArgs false

namespace Go.Proofs.YtldmcdeibiclkaaGreat
open Go.RowKit

set_option maxRecDepth 100000 in
set_option maxHeartbeats 2000000 in
theorem put_limit (b num : Nat) (bm : Nat → Nat) (K : Know) (key val : ByteArray) (seen : Ctx) (w : World) (h : RepAt w b bm num K) (hK : KOk K) (hkey : keyB key = true) (hks : key.size ≤ 8) (hvs : val.size ≤ 12) (hseen : soundB seen = true) (hnum : num < 4)
    (hn : 20 ≤ (unseenL (K key).2 seen).length ∨ (unseenL (K key).2 seen).length < 20 ∧ 1000000 ≤ bothC (K key).1 seen num) :
    Calls Tryz.prog 13 #[.pointer (some ⟨b, 0, none⟩), .string key, .string val, ctxV seen] w fun e w' => e = .returned (.int .i64 6) ∧ Below w.heap.size w w' := by
  have hb := h.1
  obtain ⟨es, clock, hm, hk, hall, _⟩ := h.2.1 _ (segN_lt key)
  obtain ⟨sv, hent, hvs0⟩ := hall key rfl
  obtain ⟨ad, cap, rfl, hcap⟩ := hvs0.len
  have hlk : ∀ W : World, W.heap[bm (segN key)]? = some (.map es clock) → (Instr.lookup 63 (.map (some (bm (segN key)))) (.string key) false).run Tryz.prog W = .ok (stV (K key).1 (.slice ad (K key).2.length cap)) W := fun W hW => by
    rw [lookup_run W _ es clock key hW hk, hent]
  have HSeg : Hid (∀ W, RepBlk W b bm num → Calls Tryz.prog 32 #[.pointer (some ⟨b, 0, none⟩), .string key] W fun e w' => e = .returned (.map (some (bm (segN key)))) ∧ Below W.heap.size W w' ∧ w'.heap.size = W.heap.size) := fun W hW => segOf_below b num bm key W (by unfold maxLen; omega) hW
  have hbc0 : w.cell? ⟨b, 0, none⟩ = some (.int .i64 num) := hb.num
  have HBlk : Hid (∀ W, Below w.heap.size w W → RepBlk W b bm num) := fun W hW => (h.below hW).1
  have HL : Hid ((K key).2.length ≤ 100000) := (hK key).2.1
  have HR : Hid (∀ v ∈ (K key).2, v.rep < 4) := (hK key).1
  generalize (K key).1 = c at *
  generalize (K key).2 = l at *
  have HV : Hid _ := hvs0
  have HN : Hid _ := hn
  have HCK : Hid _ := isKey_any key
  have HCV : Hid _ := isValue_any val
  have HSO : Hid _ := sound_any seen
  have hvd : decide (val.size ≤ 12) = true := by simpa using hvs
  clear hvs0 hall hent hK hn h
  generalize hbms : bm (segN key) = bms at *
  have HBMS : Hid _ := hbms
  clear hbms
  go_enter Tryz.func13, Tryz.ntmps13
  go_wp2_with (first
    | (go_at_call 29; refine (HCK.out _ (by unfold maxLen; omega)).mono ?_; rw [hkey]; rintro e w1 ⟨rfl, rfl⟩)
    | (go_at_call 30; refine (HCV.out _ (by unfold maxLen; omega)).mono ?_; rw [hvd]; rintro e w1 ⟨rfl, rfl⟩)
    | (go_at_call 31; refine (HSO.out _).mono ?_; rw [hseen]; rintro e w2 ⟨rfl, hb2⟩; obtain ⟨c2, hB2, hz2⟩ := afterSound hb2; clear hb2))
  have hmk : Hid (∀ w', Below w2.heap.size w2 w' → RepBlk w' b bm num ∧ w'.cell? ⟨b, 0, none⟩ = some (.int .i64 num) ∧ (Instr.lookup 63 (.map (some bms)) (.string key) false).run Tryz.prog w' = .ok (stV c (.slice ad l.length cap)) w' ∧ VSl w' (.slice ad l.length cap) l ∧ w'.cell? ⟨w.heap.size + 1, 0, none⟩ = some (.int .i64 (seen 0)) ∧ w'.cell? ⟨w.heap.size + 1, 1, none⟩ = some (.int .i64 (seen 1)) ∧ w'.cell? ⟨w.heap.size + 1, 2, none⟩ = some (.int .i64 (seen 2)) ∧ w'.cell? ⟨w.heap.size + 1, 3, none⟩ = some (.int .i64 (seen 3))) := fun w' hw =>
    ⟨HBlk.out _ (below_keep hB2 hw), cell_keep (cell_keep hbc0 hB2) hw, hlk w' (heap_keep (heap_keep hm hB2) hw), (VSl.below HV.out hB2).below hw, cell_keep (c2 0) hw, cell_keep (c2 1) hw, cell_keep (c2 2) hw, cell_keep (c2 3) hw⟩
  have HB2 : Hid _ := hB2
  clear hB2 c2 hlk
  go_region_held3 (fun w' => RepBlk w' b bm num ∧ w'.cell? ⟨b, 0, none⟩ = some (.int .i64 num) ∧ (Instr.lookup 63 (.map (some bms)) (.string key) false).run Tryz.prog w' = .ok (stV c (.slice ad l.length cap)) w' ∧ VSl w' (.slice ad l.length cap) l ∧ w'.cell? ⟨w.heap.size + 1, 0, none⟩ = some (.int .i64 (seen 0)) ∧ w'.cell? ⟨w.heap.size + 1, 1, none⟩ = some (.int .i64 (seen 1)) ∧ w'.cell? ⟨w.heap.size + 1, 2, none⟩ = some (.int .i64 (seen 2)) ∧ w'.cell? ⟨w.heap.size + 1, 3, none⟩ = some (.int .i64 (seen 3)))
    ((refine hmk.out _ ?_; first | (simp (maxDischargeDepth := 12) [Below.refl, Below.drew, Below.alloc, Below.setCell]; done) | (simp (maxDischargeDepth := 12) [Below.refl, Below.drew, Below.alloc, Below.setCell, B3, y3]; done) | (simp (maxDischargeDepth := 12) [Below.refl, Below.drew, Below.alloc, Below.setCell, B6, y6]; done) | (simp (maxDischargeDepth := 12) [Below.refl, Below.drew, Below.alloc, Below.setCell, B4, y4, y3, y6]; done)))
    (first
      | (go_at_call 32; refine Calls.mono (HSeg.out _ (by go_split_ands; assumption)) ?_; rintro e w6 ⟨rfl, hb6, z6⟩; obtain ⟨s1, s2⟩ := oldReads hb6; (try simp only [World.size_drew, size_allocW] at z6); have B6 : Below w2.heap.size w2 w6 := afterAny hb6 (by first | (simp (maxDischargeDepth := 12) [Below.refl, Below.drew, Below.alloc]; done) | (simp (maxDischargeDepth := 12) [Below.refl, Below.drew, Below.alloc, B3, y3]; done)); have y6 := B6.size; (try (have x6 : w2.heap.size < w6.heap.size := by omega)); (try (have x6' : w3.heap.size < w6.heap.size := by omega)); clear hb6)
      | (go_at_call 34; refine (clone_any val _ (by omega)).mono ?_; rintro e w3 ⟨rfl, hb3⟩; obtain ⟨q1, q2⟩ := oldReads hb3; have B3 : Below w2.heap.size w2 w3 := afterAny hb3 (by first | (simp (maxDischargeDepth := 12) [Below.refl, Below.drew, Below.alloc]; done) | (simp (maxDischargeDepth := 12) [Below.refl, Below.drew, Below.alloc, B6, y6]; done)); have y3 := B3.size; have z3 := hb3.size; (try simp only [World.size_drew, size_allocW] at z3); (try (have x3 : w2.heap.size < w3.heap.size := by omega)); (try (have x3' : w6.heap.size < w3.heap.size := by omega)); clear hb3)
      | (go_at_call 33; refine (stPut_limit c _ l num val seen _ (by go_split_ands; assumption) HR.out HL.out hnum HN.out).mono ?_; rintro e w4 ⟨rfl, hb4⟩; obtain ⟨p1, p2⟩ := oldReads hb4; have B4 : Below w2.heap.size w2 w4 := afterAny hb4 (by first | (simp (maxDischargeDepth := 12) [Below.refl, Below.drew, Below.alloc, B3, y3]; done) | (simp (maxDischargeDepth := 12) [Below.refl, Below.drew, Below.alloc, B6, y6]; done)); have y4 := B4.size; clear hb4))
  all_goals
    go_wp2_with (go_at_call 35; go_must (refine (keep_err b key (fun _ => 0) (.slice none 0 0) 6 _ (by decide)).mono ?_); rintro e w5 ⟨rfl, hb5⟩; have B5 : Below w2.heap.size w2 w5 := afterAny hb5 (by simp (maxDischargeDepth := 12) [Below.refl, Below.drew, Below.alloc, Below.setCell, B4, y4, y3, y6]); clear hb5)
    go_ret
    exact ⟨rfl, below_keep HB2.out B5⟩

set_option maxRecDepth 100000 in
set_option maxHeartbeats 400000 in
theorem put_noKey (b : Nat) (key val : ByteArray) (seen : Ctx) (w : World) (hkey : keyB key = false) (hks : key.size ≤ 8) :
    Calls Tryz.prog 13 #[.pointer (some ⟨b, 0, none⟩), .string key, .string val, ctxV seen] w fun e w' => e = .returned (.int .i64 2) ∧ Below w.heap.size w w' := by
  have HCK : Hid _ := isKey_any key
  go_enter Tryz.func13, Tryz.ntmps13
  go_wp2_with (go_at_call 29; refine (HCK.out _ (by unfold maxLen; omega)).mono ?_; rw [hkey]; rintro e w1 ⟨rfl, rfl⟩)
  go_ret
  exact ⟨rfl, ((Below.refl _ _).alloc (Nat.le_refl _) _).alloc (by simp) _⟩
end Go.Proofs.YtldmcdeibiclkaaGreat

namespace Go.Proofs.YtldmcdeibiclkaaGreat
open Go.RowKit

set_option maxRecDepth 100000 in
set_option maxHeartbeats 1000000 in
theorem new_bad (n : Int) (w : World) (hn : n < 0 ∨ 3 < n) :
    Calls Tryz.prog 11 #[.int .i64 n] w fun e w' => e = .returned (.tuple #[.pointer none, .int .i64 1]) ∧ w' = w := by
  rcases hn with hn | hn
  · go_enter Tryz.func11, Tryz.ntmps11
    go_wp2
    go_ret2
    exact ⟨rfl, rfl⟩
  · have h0 : 0 ≤ n := by omega
    have h4 : 4 ≤ n := by omega
    go_enter Tryz.func11, Tryz.ntmps11
    go_wp2
    go_ret2
    exact ⟨rfl, rfl⟩

set_option maxRecDepth 100000 in
set_option maxHeartbeats 1000000 in
theorem get_bad (b : Nat) (key : ByteArray) (w : World) (hkey : keyB key = false) (hks : key.size ≤ maxLen) :
    Calls Tryz.prog 66 #[.pointer (some ⟨b, 0, none⟩), .string key] w fun e w' => e = .returned (.tuple #[.slice none 0 0, ctxV fun _ => 0, .int .i64 2]) ∧ Below w.heap.size w w' := by
  have HCK : Hid _ := isKey_any key
  go_enter Tryz.func66, Tryz.ntmps66
  go_wp2_with (go_at_call 29; refine (HCK.out _ hks).mono ?_; rw [hkey]; rintro e w1 ⟨rfl, rfl⟩)
  refine bodyPost_ret (v := .tuple #[.slice none 0 0, ctxV fun _ => 0, .int .i64 2]) ?_ rfl ⟨rfl, ?_⟩
  · simp [results, Tryz.results66, go_sem]
  · simp (maxDischargeDepth := 12) [Below.refl, Below.drew, Below.alloc, Below.setCell]

set_option maxRecDepth 100000 in
set_option maxHeartbeats 1000000 in
theorem put_key (b : Nat) (key val : ByteArray) (seen : Ctx) (w : World) (hkey : keyB key = false) (hks : key.size ≤ maxLen) :
    Calls Tryz.prog 13 #[.pointer (some ⟨b, 0, none⟩), .string key, .string val, ctxV seen] w fun e w' => e = .returned (.int .i64 2) ∧ Below w.heap.size w w' := by
  have HCK : Hid _ := isKey_any key
  go_enter Tryz.func13, Tryz.ntmps13
  go_wp2_with (go_at_call 29; refine (HCK.out _ hks).mono ?_; rw [hkey]; rintro e w1 ⟨rfl, rfl⟩)
  go_ret
  exact ⟨rfl, ((Below.refl _ _).alloc (Nat.le_refl _) _).alloc (by simp) _⟩

set_option maxRecDepth 100000 in
set_option maxHeartbeats 1000000 in
theorem put_value (b : Nat) (key val : ByteArray) (seen : Ctx) (w : World) (hkey : keyB key = true) (hks : key.size ≤ maxLen) (hvs : val.size ≤ maxLen) (hv : 12 < val.size) :
    Calls Tryz.prog 13 #[.pointer (some ⟨b, 0, none⟩), .string key, .string val, ctxV seen] w fun e w' => e = .returned (.int .i64 3) ∧ Below w.heap.size w w' := by
  have HCK : Hid _ := isKey_any key
  have HCV : Hid (∀ W, Calls Tryz.prog 30 #[.string val] W fun e w' => e = .returned (.bool false) ∧ w' = W) := fun W => by
    have := isValue_any val W hvs
    rw [show decide (val.size ≤ 12) = false from decide_eq_false (by omega)] at this
    exact this
  go_enter Tryz.func13, Tryz.ntmps13
  go_wp2_with (first
    | (go_at_call 29; refine (HCK.out _ hks).mono ?_; rw [hkey]; rintro e w1 ⟨rfl, rfl⟩)
    | (go_at_call 30; refine (HCV.out _).mono ?_; rintro e w1 ⟨rfl, rfl⟩))
  go_ret
  exact ⟨rfl, ((Below.refl _ _).alloc (Nat.le_refl _) _).alloc (by simp) _⟩

set_option maxRecDepth 100000 in
set_option maxHeartbeats 1000000 in
theorem put_seen (b : Nat) (key val : ByteArray) (seen : Ctx) (w : World) (hkey : keyB key = true) (hks : key.size ≤ maxLen) (hv : val.size ≤ 12) (hsd : soundB seen = false) :
    Calls Tryz.prog 13 #[.pointer (some ⟨b, 0, none⟩), .string key, .string val, ctxV seen] w fun e w' => e = .returned (.int .i64 4) ∧ Below w.heap.size w w' := by
  have HCK : Hid _ := isKey_any key
  have HSO : Hid _ := sound_any seen
  have HCV : Hid (∀ W, Calls Tryz.prog 30 #[.string val] W fun e w' => e = .returned (.bool true) ∧ w' = W) := fun W => by
    have := isValue_any val W (by unfold maxLen; omega)
    rw [show decide (val.size ≤ 12) = true from decide_eq_true hv] at this
    exact this
  go_enter Tryz.func13, Tryz.ntmps13
  go_wp2_with (first
    | (go_at_call 29; refine (HCK.out _ hks).mono ?_; rw [hkey]; rintro e w1 ⟨rfl, rfl⟩)
    | (go_at_call 30; refine (HCV.out _).mono ?_; rintro e w1 ⟨rfl, rfl⟩)
    | (go_at_call 31; refine (HSO.out _).mono ?_; rw [hsd]; rintro e w2 ⟨rfl, hb2⟩; obtain ⟨c2, hB2, hz2⟩ := afterSound hb2; clear hb2))
  go_ret
  exact ⟨rfl, hB2⟩

set_option maxRecDepth 100000 in
set_option maxHeartbeats 1000000 in
theorem del_key (b : Nat) (key : ByteArray) (seen : Ctx) (w : World) (hkey : keyB key = false) (hks : key.size ≤ maxLen) :
    Calls Tryz.prog 15 #[.pointer (some ⟨b, 0, none⟩), .string key, ctxV seen] w fun e w' => e = .returned (.int .i64 2) ∧ Below w.heap.size w w' := by
  have HCK : Hid _ := isKey_any key
  go_enter Tryz.func15, Tryz.ntmps15
  go_wp2_with (go_at_call 29; refine (HCK.out _ hks).mono ?_; rw [hkey]; rintro e w1 ⟨rfl, rfl⟩)
  go_ret
  exact ⟨rfl, ((Below.refl _ _).alloc (Nat.le_refl _) _).alloc (by simp) _⟩

set_option maxRecDepth 100000 in
set_option maxHeartbeats 1000000 in
theorem del_seen (b : Nat) (key : ByteArray) (seen : Ctx) (w : World) (hkey : keyB key = true) (hks : key.size ≤ maxLen) (hsd : soundB seen = false) :
    Calls Tryz.prog 15 #[.pointer (some ⟨b, 0, none⟩), .string key, ctxV seen] w fun e w' => e = .returned (.int .i64 4) ∧ Below w.heap.size w w' := by
  have HCK : Hid _ := isKey_any key
  have HSO : Hid _ := sound_any seen
  go_enter Tryz.func15, Tryz.ntmps15
  go_wp2_with (first
    | (go_at_call 29; refine (HCK.out _ hks).mono ?_; rw [hkey]; rintro e w1 ⟨rfl, rfl⟩)
    | (go_at_call 31; refine (HSO.out _).mono ?_; rw [hsd]; rintro e w2 ⟨rfl, hb2⟩; obtain ⟨c2, hB2, hz2⟩ := afterSound hb2; clear hb2))
  go_ret
  exact ⟨rfl, hB2⟩
end Go.Proofs.YtldmcdeibiclkaaGreat
