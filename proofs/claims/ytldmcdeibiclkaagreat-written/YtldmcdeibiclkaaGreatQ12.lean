/-
  A frame: all blocks that were there, but those that are named, are as they were.
  Contracts of the reference: isKey, isContext, saw, both, ahead.
  Contract of the reference: unseen: the versions that a context has not seen, in a new list.
-/
import Derived.Test.YtldmcdeibiclkaaGreatQ09
import Derived.Test.YtldmcdeibiclkaaGreatQ05
import Derived.Deep.RegionHeld3
set_option linter.unusedVariables false
set_option linter.unusedSimpArgs false

namespace Go.Proofs.YtldmcdeibiclkaaGreat
open Go.RowKit

/-- From w to w' no block of w has turned but those of X. -/
structure Fr (X : Nat → Prop) (w w' : World) : Prop where
  os : w'.os = w.os
  tape : w'.tape = w.tape
  output : w'.output = w.output
  size : w.heap.size ≤ w'.heap.size
  block : ∀ k, k < w.heap.size → ¬ X k → w'.heap[k]? = w.heap[k]?

section
variable {X Y : Nat → Prop} {w w1 w2 : World}
theorem Fr.refl (X : Nat → Prop) (w : World) : Fr X w w := ⟨rfl, rfl, rfl, Nat.le_refl _, fun _ _ _ => rfl⟩
theorem Fr.trans (h : Fr X w w1) (h' : Fr X w1 w2) : Fr X w w2 :=
  ⟨h'.os.trans h.os, h'.tape.trans h.tape, h'.output.trans h.output, Nat.le_trans h.size h'.size, fun k hk hn => (h'.block k (Nat.lt_of_lt_of_le hk h.size) hn).trans (h.block k hk hn)⟩
theorem Fr.weaken (h : Fr X w w1) (hX : ∀ k, X k → Y k) : Fr Y w w1 := ⟨h.os, h.tape, h.output, h.size, fun k hk hn => h.block k hk fun e => hn (hX k e)⟩
theorem Fr.below (h : Fr X w w1) (hb : Below w1.heap.size w1 w2) : Fr X w w2 :=
  ⟨hb.os.trans h.os, hb.tape.trans h.tape, hb.output.trans h.output, Nat.le_trans h.size hb.size, fun k hk hn => (hb.block k (Nat.lt_of_lt_of_le hk h.size)).trans (h.block k hk hn)⟩
theorem Fr.of_below (hb : Below w.heap.size w w1) : Fr X w w1 := (Fr.refl X w).below hb
theorem Fr.grown {row : Option Nat} (h : Fr X w w1) (hg : w1.grownBy w2 row) (hr : ∀ k, row = some k → k < w.heap.size → X k) : Fr X w w2 :=
  ⟨hg.os.trans h.os, hg.tape.trans h.tape, hg.output.trans h.output, Nat.le_trans h.size hg.size, fun k hk hn => (hg.block k (Nat.lt_of_lt_of_le hk h.size) (fun e => hn (hr k e.symm hk))).trans (h.block k hk hn)⟩
theorem Fr.drew (h : Fr X w w1) : Fr X w w1.drew := ⟨h.os, h.tape, h.output, h.size, h.block⟩
theorem Fr.drewN (h : Fr X w w1) (q : Nat) : Fr X w (w1.drewN q) := ⟨h.os, h.tape, h.output, h.size, h.block⟩
theorem Fr.alloc (h : Fr X w w1) (o : Obj) : Fr X w (w1.alloc o) := h.below ((Below.refl _ _).alloc (Nat.le_refl _) o)
theorem Fr.setCell (h : Fr X w w1) {b o : Nat} (hb : w.heap.size ≤ b ∨ X b) (v : Value) : Fr X w (w1.setCell ⟨b, o, none⟩ v) :=
  ⟨h.os, h.tape, h.output, by simpa [World.setCell] using h.size, fun k hk hn => by
    have hne : k ≠ b := fun e => by
      rcases hb with hb | hb
      · omega
      · exact hn (e ▸ hb)
    rw [Below.heap_setCell _ _ _ _ hne]
    exact h.block k hk hn⟩
theorem Fr.toBelow {B : Nat} (h : Fr X w w1) (hX : ∀ k, X k → B ≤ k) (hB : B ≤ w.heap.size) : Below B w w1 :=
  ⟨h.os, h.tape, h.output, h.size, fun k hk => h.block k (by omega) fun e => by have := hX k e; omega⟩
theorem Fr.heap (h : Fr X w w1) {k : Nat} {o : Obj} (hk : w.heap[k]? = some o) (hn : ¬ X k) : w1.heap[k]? = some o := by
  rw [h.block k (Array.getElem?_eq_some_iff.1 hk).1 hn]; exact hk
theorem Fr.cell (h : Fr X w w1) {b o : Nat} {v : Value} (hc : w.cell? ⟨b, o, none⟩ = some v) (hn : ¬ X b) : w1.cell? ⟨b, o, none⟩ = some v := by
  rw [World.cell?_of_block (h.block b (World.block_lt_of_cell? w _ hc) hn)]; exact hc
theorem Fr.row {B n size : Nat} {t : TypeId} {v : Value} {xs : List Value} (h : Fr X w w1) (hr : w.ownsRow B t size v n xs) (hn : ∀ g o l c, v = .slice (some ⟨g, o, none⟩) l c → ¬ X g) : w1.ownsRow B t size v n xs := by
  obtain ⟨h1, h2⟩ := hr
  refine ⟨h1, ?_⟩
  rcases h2 with h2 | ⟨g, cap, cur, hv, hg, hh, r⟩
  · exact Or.inl h2
  · exact Or.inr ⟨g, cap, cur, hv, hg, h.heap hh (hn _ _ _ _ hv), r⟩
theorem Fr.rep {b num : Nat} {bm : Nat → Nat} {K : Know} (h : Fr X w w1) (hr : RepAt w b bm num K) (hb : ¬ X b) (hm : ∀ n, n < 64 → ¬ X (bm n)) (hv : ∀ g cur, w.heap[g]? = some (.cells cur 117 (0, 0)) → ¬ X g) : RepAt w1 b bm num K :=
  hr.keep (h.block _ hr.1.lt hb) (fun n hn => h.block _ (hr.2.1 n hn).lt (hm n hn)) fun g hg ⟨cur, hc⟩ => h.block g hg (hv g cur hc)
end
end Go.Proofs.YtldmcdeibiclkaaGreat

namespace Go.Proofs.YtldmcdeibiclkaaGreat
open Go.RowKit

set_option maxHeartbeats 400000 in
theorem refKey_any (s : ByteArray) (w : World) (hs : s.size ≤ maxLen) :
    Calls Tryz.prog 36 #[.string s] w fun e w' => e = .returned (.bool (keyB s)) ∧ w' = w := by
  unfold maxLen at hs
  go_enter Tryz.func36, Tryz.ntmps36
  go_wp2
  go_loop [3] (fun i => ∃ k : Nat, k ≤ s.size ∧ i = .int .i64 k ∧ Hid (∀ j (h : j < s.size), j < k → keyByte s[j] = true)) (fun i => s.size - (intOf i).toNat)
  case atStart => exact ⟨0, by omega, rfl, fun j hj => by omega⟩
  case round =>
    obtain ⟨k, hk, rfl, hall⟩ := hrel
    by_cases hlt : k < s.size
    · by_cases hb : 97 ≤ s[k].toNat ∧ s[k].toNat ≤ 122
      · obtain ⟨hb1, hb2⟩ := hb
        have hall' : Hid (∀ j (h : j < s.size), j < k + 1 → keyByte s[j] = true) := fun j h hj => by
          by_cases e : j = k
          · subst e; exact decide_eq_true ⟨hb1, hb2⟩
          · exact hall.out j h (by omega)
        go_wp2
        exact ⟨⟨k + 1, by omega, by go_num, hall'⟩, by simp [intOf]; omega⟩
      · have hs' : Hid (keyB s = false) := key_not hlt hb
        have hb' : s[k].toNat < 97 ∨ 122 < s[k].toNat := by omega
        clear hb hall
        rcases hb' with hb' | hb'
        · go_wp2
          go_ret
          exact ⟨ret_bool hs'.out.symm, rfl⟩
        · go_wp2
          go_ret
          exact ⟨ret_bool hs'.out.symm, rfl⟩
    · by_cases hl : 1 ≤ s.size ∧ s.size ≤ 8
      · have hs' : Hid (keyB s = true) := key_all hl.1 hl.2 fun j h => hall.out j h (by omega)
        have h1 : (1 : Int) ≤ (s.size : Int) := by omega
        have h2 : (s.size : Int) ≤ 8 := by omega
        clear hall hl
        go_wp2
        go_ret
        exact ⟨ret_bool hs'.out.symm, rfl⟩
      · have hs' : Hid (keyB s = false) := key_len hl
        have hl' : s.size < 1 ∨ 8 < s.size := by omega
        clear hl hall
        rcases hl' with hl' | hl'
        · have h1 : ¬ (1 : Int) ≤ (s.size : Int) := by omega
          go_wp2
          go_ret
          exact ⟨ret_bool hs'.out.symm, rfl⟩
        · have h1 : (1 : Int) ≤ (s.size : Int) := by omega
          have h2 : ¬ (s.size : Int) ≤ 8 := by omega
          go_wp2
          go_ret
          exact ⟨ret_bool hs'.out.symm, rfl⟩

set_option maxRecDepth 100000 in
set_option maxHeartbeats 1000000 in
theorem refContext_any (c : Ctx) (w : World) :
    Calls Tryz.prog 37 #[ctxV c] w fun e w' => e = .returned (.bool (soundB c)) ∧ Below w.heap.size w w' := by
  go_enter Tryz.func37, Tryz.ntmps37
  go_wp2
  go_loop [3] (fun i => ∃ k : Nat, k ≤ 4 ∧ i = .int .i64 k ∧ ∀ j, j < k → 0 ≤ c j ∧ c j ≤ 1000000) (fun i => 4 - (intOf i).toNat)
  case atStart => exact ⟨0, by omega, rfl, fun j hj => by omega⟩
  case round =>
    obtain ⟨k, hk, rfl, hall⟩ := hrel
    have Hall := (show Hid _ from hall)
    clear hall
    by_cases hlt : k < 4
    · by_cases hb : 0 ≤ c k ∧ c k ≤ 1000000
      · obtain ⟨hb1, hb2⟩ := hb
        have hall' : Hid (∀ j, j < k + 1 → 0 ≤ c j ∧ c j ≤ 1000000) := fun j hj => by
          by_cases e : j = k
          · subst e; exact ⟨hb1, hb2⟩
          · exact Hall.out j (by omega)
        clear Hall
        rcases lt4 hlt with rfl | rfl | rfl | rfl
        all_goals
          go_wp2
          exact ⟨⟨_, by omega, by go_num, hall'.out⟩, by simp [intOf]⟩
      · have hs : Hid (soundB c = false) := sound_not hlt hb
        clear Hall
        have hb' : c k < 0 ∨ 1000000 < c k := by omega
        clear hb
        rcases hb' with hb' | hb'
        all_goals
          try (have hb0 : 0 ≤ c k := by omega)
          rcases lt4 hlt with rfl | rfl | rfl | rfl
          all_goals
            go_wp2
            go_ret
            exact ⟨ret_bool hs.out.symm, (Below.refl _ _).alloc (Nat.le_refl _) _⟩
    · obtain rfl : k = 4 := by omega
      have hs : Hid (soundB c = true) := sound_of Hall.out
      clear Hall
      go_wp2
      go_ret
      exact ⟨ret_bool hs.out.symm, (Below.refl _ _).alloc (Nat.le_refl _) _⟩

/-- A version as a value. -/
abbrev verV (v : Ver) : Value := .agg #[.int .i64 v.rep, .int .i64 v.n, .string v.val]

set_option maxRecDepth 100000 in
set_option maxHeartbeats 1000000 in
theorem refSaw_any (c : Ctx) (r : Nat) (n : Int) (s : ByteArray) (w : World) (hr : r < 4) :
    Calls Tryz.prog 64 #[ctxV c, .agg #[.int .i64 r, .int .i64 n, .string s]] w fun e w' => e = .returned (.bool (decide (n ≤ c r))) ∧ Below w.heap.size w w' := by
  rcases lt4 hr with rfl | rfl | rfl | rfl
  all_goals
    go_enter Tryz.func64, Tryz.ntmps64
    go_wp2
    go_quiet (fail)
    go_wp2
    go_ret
    exact ⟨rfl, below_drewN (((Below.refl _ _).alloc (Nat.le_refl _) _).alloc (by simp) _) _⟩

set_option maxRecDepth 100000 in
set_option maxHeartbeats 1000000 in
theorem refAhead_any (r1 r2 : Nat) (n1 n2 : Int) (s1 s2 : ByteArray) (w : World) :
    Calls Tryz.prog 65 #[.agg #[.int .i64 r1, .int .i64 n1, .string s1], .agg #[.int .i64 r2, .int .i64 n2, .string s2]] w fun e w' => e = .returned (.bool (ltV (r1, n1, s1) (r2, n2, s2))) ∧ Below w.heap.size w w' := by
  have HL : Hid (ltV (r1, n1, s1) (r2, n2, s2) = decide (r1 < r2 ∨ r1 = r2 ∧ n1 < n2)) := rfl
  by_cases h1 : r1 < r2
  · have h1' : (r1 : Int) < (r2 : Int) := by omega
    go_enter Tryz.func65, Tryz.ntmps65
    go_wp2
    go_ret
    exact ⟨ret_bool (by rw [HL.out]; simp [h1]), ((Below.refl _ _).alloc (Nat.le_refl _) _).alloc (by simp) _⟩
  · have h1' : ¬ (r1 : Int) < (r2 : Int) := by omega
    by_cases h2 : r1 = r2
    · have h2' : (r1 : Int) = (r2 : Int) := by omega
      subst h2
      go_enter Tryz.func65, Tryz.ntmps65
      go_wp2
      go_ret
      exact ⟨ret_bool (by rw [HL.out]; simp), ((Below.refl _ _).alloc (Nat.le_refl _) _).alloc (by simp) _⟩
    · have h2' : ¬ (r1 : Int) = (r2 : Int) := by omega
      have h2b : ((r1 : Int) == (r2 : Int)) = false := by simp; omega
      go_enter Tryz.func65, Tryz.ntmps65
      go_wp2
      go_ret
      exact ⟨ret_bool (by rw [HL.out]; simp [h1, h2]), ((Below.refl _ _).alloc (Nat.le_refl _) _).alloc (by simp) _⟩
end Go.Proofs.YtldmcdeibiclkaaGreat

namespace Go.Proofs.YtldmcdeibiclkaaGreat
open Go.RowKit

/-- A slice value holds these versions (of package api). -/
def ASl (w : World) (sv : Value) (l : List Ver) : Prop := w.ownsRow 0 88 3 sv l.length (flatV l)

theorem row_cellA {w : World} {B : Nat} {e : TypeId} {size : Nat} {v : Value} {n : Nat} {xs : List Value} (h : w.ownsRow B e size v n xs) (hn : 0 < n) :
    ∃ g cap, v = .slice (some ⟨g, 0, none⟩) n cap ∧ n ≤ cap ∧ cap ≤ maxLen ∧ g < w.heap.size ∧ ∀ t u, t < n * size → xs[t]? = some u → w.cell? ⟨g, t, none⟩ = some u := by
  rcases h.2 with ⟨_, h0⟩ | ⟨g, cap, cur, hv, _, hh, hnc, hc, _, ht⟩
  · omega
  · refine ⟨g, cap, hv, hnc, hc, (Array.getElem?_eq_some_iff.1 hh).1, fun t u h1 h2 => ?_⟩
    rw [← ht, List.getElem?_take, if_pos h1] at h2
    simp only [World.cell?, hh]
    simpa using h2
theorem row_lenA {w : World} {B : Nat} {e : TypeId} {size : Nat} {v : Value} {n : Nat} {xs : List Value} (h : w.ownsRow B e size v n xs) : ∃ ad cap, v = .slice ad n cap ∧ (cap : Int) ≤ 9223372036854775807 ∧ n ≤ cap := by
  rcases h.2 with ⟨h1, h2⟩ | ⟨g, cap, cur, hv, _, _, h3, h4, _⟩
  · exact ⟨_, _, by rw [h1, h2], by simp, by omega⟩
  · exact ⟨_, _, hv, by unfold maxLen at h4; omega, h3⟩

set_option maxRecDepth 100000 in
set_option maxHeartbeats 1000000 in
theorem refUnseen_any (sv : Value) (l : List Ver) (seen : Ctx) (w : World) (h : ASl w sv l) (hr : ∀ v ∈ l, v.rep < 4) (hlen : l.length ≤ 100000) :
    Calls Tryz.prog 39 #[sv, ctxV seen] w fun e w' => ∃ v', e = .returned v' ∧ w'.ownsRow w.heap.size 88 3 v' (unseenL l seen).length (flatV (unseenL l seen)) ∧ Below w.heap.size w w' := by
  obtain ⟨ad, cap, rfl, hcap, hlc⟩ := row_lenA h
  have H : Hid (ASl w (.slice ad l.length cap) l) := h
  have HR : Hid _ := hr
  clear h hr
  go_enter Tryz.func39, Tryz.ntmps39
  go_wp2
  go_loopw [5, 6] (fun lf i wr => ∃ k : Nat, k ≤ l.length ∧ i = .int .i64 k ∧ Hid (wr.ownsRow (w.heap.size + 1) 88 3 lf (unseenL (l.take k) seen).length (flatV (unseenL (l.take k) seen))) ∧ Hid (Below (w.heap.size + 1) (w.alloc (.cells #[.int .i64 (seen 0), .int .i64 (seen 1), .int .i64 (seen 2), .int .i64 (seen 3)] 34)) wr)) (fun _ i _ => l.length - (intOf i).toNat)
  case atStart => exact ⟨0, by omega, rfl, ⟨by simp [flatV, unseenL], Or.inl ⟨rfl, by simp [unseenL]⟩⟩, Below.refl _ _⟩
  case round =>
    obtain ⟨k, hk, rfl, hown, hbel⟩ := hrel
    by_cases hlt : k < l.length
    · obtain ⟨g, cap', hsv', _, _, hg, hcells⟩ := row_cellA H.out (by omega)
      cases hsv'
      obtain ⟨f0, f1, f2⟩ := flatV_get l k hlt
      have c0 := hcells _ _ (by omega) f0
      have c1 := hcells _ _ (by omega) f1
      have c2 := hcells _ _ (by omega) f2
      have hrk : Hid (l[k].rep < 4) := HR.out _ (List.getElem_mem hlt)
      have HS : Hid _ := unseen_snoc l seen k hlt
      clear f0 f1 f2 hcells
      generalize hrr : l[k].rep = r at *
      generalize hnn : l[k].n = n at *
      generalize hvv : l[k].val = s at *
      have Hvk : Hid (l[k] = (r, n, s)) := by rw [← hrr, ← hnn, ← hvv]; rfl
      clear hrr hnn hvv
      have HBel : Hid (Below (w.heap.size + 1) (w.alloc (.cells #[.int .i64 (seen 0), .int .i64 (seen 1), .int .i64 (seen 2), .int .i64 (seen 3)] 34)) wr) := hbel.out
      have hsz : w.heap.size + 1 ≤ wr.heap.size := by have := hbel.out.size; simp at this; omega
      have hmk : Hid (∀ w', Below wr.heap.size wr w' → w'.cell? ⟨g, k * 3, none⟩ = some (.int .i64 r) ∧ w'.cell? ⟨g, k * 3 + 1, none⟩ = some (.int .i64 n) ∧ w'.cell? ⟨g, k * 3 + 2, none⟩ = some (.string s) ∧ w'.cell? ⟨w.heap.size, 0, none⟩ = some (.int .i64 (seen 0)) ∧ w'.cell? ⟨w.heap.size, 1, none⟩ = some (.int .i64 (seen 1)) ∧ w'.cell? ⟨w.heap.size, 2, none⟩ = some (.int .i64 (seen 2)) ∧ w'.cell? ⟨w.heap.size, 3, none⟩ = some (.int .i64 (seen 3))) := fun w' hw => by
        have hg' : g < wr.heap.size := by omega
        have hold : ∀ o, w'.cell? ⟨g, o, none⟩ = w.cell? ⟨g, o, none⟩ := fun o => by
          rw [hw.cell (p := ⟨g, o, none⟩) hg', HBel.out.cell (p := ⟨g, o, none⟩) (show g < w.heap.size + 1 by omega), World.cell?_alloc_lt _ _ _ hg]
        have hbox : ∀ o, w'.cell? ⟨w.heap.size, o, none⟩ = #[Value.int .i64 (seen 0), .int .i64 (seen 1), .int .i64 (seen 2), .int .i64 (seen 3)][o]? := fun o => by
          rw [hw.cell (p := ⟨w.heap.size, o, none⟩) (show w.heap.size < wr.heap.size by omega), HBel.out.cell (p := ⟨w.heap.size, o, none⟩) (show w.heap.size < w.heap.size + 1 by omega)]
          exact (cells_of0 (heap_alloc_new w _)).1 o
        exact ⟨(hold _).trans c0, (hold _).trans c1, (hold _).trans c2, hbox 0, hbox 1, hbox 2, hbox 3⟩
      have g63 : (k : Int) < (l.length : Int) := by omega
      have k0 : (0 : Int) ≤ (k : Int) := by omega
      have HW : Hid (∀ w1, Below wr.heap.size wr w1 → w1.ownsRow (w.heap.size + 1) 88 3 u5 (unseenL (List.take k l) seen).length (flatV (unseenL (List.take k l) seen))) := fun w1 hw => ownsRow_below hown.out hw (Nat.le_refl _)
      have HSaw : Hid (∀ W, Calls Tryz.prog 64 #[ctxV seen, .agg #[.int .i64 r, .int .i64 n, .string s]] W fun e w' => e = .returned (.bool (decide (n ≤ seen r))) ∧ Below W.heap.size W w') := fun W => refSaw_any seen r n s W hrk.out
      have hseq : seenB seen l[k] = decide (n ≤ seen r) := by rw [Hvk.out]; rfl
      have HQ : Hid _ := hseq
      clear hseq c0 c1 c2 hbel hown
      go_wp2_with fail
      go_region_held3 (fun w' => w'.cell? ⟨g, k * 3, none⟩ = some (.int .i64 r) ∧ w'.cell? ⟨g, k * 3 + 1, none⟩ = some (.int .i64 n) ∧ w'.cell? ⟨g, k * 3 + 2, none⟩ = some (.string s) ∧ w'.cell? ⟨w.heap.size, 0, none⟩ = some (.int .i64 (seen 0)) ∧ w'.cell? ⟨w.heap.size, 1, none⟩ = some (.int .i64 (seen 1)) ∧ w'.cell? ⟨w.heap.size, 2, none⟩ = some (.int .i64 (seen 2)) ∧ w'.cell? ⟨w.heap.size, 3, none⟩ = some (.int .i64 (seen 3)))
        ((refine hmk.out _ ?_; first | (simp (maxDischargeDepth := 12) [Below.refl, Below.drew]; done) | (simp (maxDischargeDepth := 12) [B1]; done)))
        (first | (go_at_call 64; refine Calls.mono (HSaw.out _) ?_; rintro e w1 ⟨rfl, hb1⟩; have B1 : Below wr.heap.size wr w1 := afterAny hb1 (by simp [Below.refl, Below.drew]); clear hb1))
      obtain ⟨e0, e1, e2, _⟩ := hmk.out _ B1
      have HB1 : Hid (Below wr.heap.size wr w1) := B1
      have z1 := B1.size
      clear B1
      by_cases hseen : n ≤ seen r
      · have HS' : Hid (unseenL (List.take (k + 1) l) seen = unseenL (List.take k l) seen) := by
          have := HS.out; rw [HQ.out, if_pos (by simpa using hseen), List.append_nil] at this; exact this
        have hd : decide (n ≤ seen r) = true := by simpa using hseen
        clear hseen
        go_wp2
        exact ⟨⟨k + 1, by omega, by go_num, by rw [HS'.out]; exact HW.out _ HB1.out, HBel.out.trans (HB1.out.mono (by omega))⟩, by simp [intOf]; omega⟩
      · have HS' : Hid (unseenL (List.take (k + 1) l) seen = unseenL (List.take k l) seen ++ [(r, n, s)]) := by
          have := HS.out; rw [HQ.out, if_neg (by simpa using hseen), Hvk.out] at this; exact this
        obtain ⟨i0, hi0, hz0, hz1, hz2⟩ := info_parts Tryz.infoApi
        have hd : decide (n ≤ seen r) = false := by simpa using hseen
        clear hseen
        have hul : Hid ((unseenL (List.take k l) seen).length ≤ 100000) := Nat.le_trans (List.length_filter_le _ _) (by simp; omega)
        have HW1 : Hid (w1.ownsRow (w.heap.size + 1) 88 3 u5 (unseenL (List.take k l) seen).length (flatV (unseenL (List.take k l) seen))) := HW.out _ HB1.out
        go_wp2_with (first
          | (at_builtin; refine wpList_append_lies _ rfl _ _ _ rfl (w.heap.size + 1) 88 i0 _ 3 32 Tryz.underlying67 hi0 hz0 hz1 hz2 rfl (by omega) u5 _ _ rfl (HW1.out.alloc _) ⟨w1.heap.size, 0, none⟩ 1 1 [.int .i64 r, .int .i64 n, .string s] rfl rfl (World.news_of_block (cs := #[.int .i64 r, .int .i64 n, .string s]) (t := 88) (fr := (0, 0)) (heap_alloc_new w1 _)) (by simp [Value.oneCell']) (by omega) (by have := hul.out; unfold maxLen; omega) (by have := hul.out; omega) (by simp; omega) (w1.heap.size + 1) (by simp) ?_; intro gg capn w2 hown2 hgrow hat hlt2))
        refine ⟨⟨k + 1, by omega, by go_num, ?_, ?_⟩, by simp [intOf]; omega⟩
        · rw [HS'.out, flatV_append, List.length_append]; exact hown2
        · have hB := (HBel.out.trans (HB1.out.mono (by omega))).alloc (by omega) (.cells #[.int .i64 r, .int .i64 n, .string s] 88)
          refine hB.grown hgrow (by simp; omega) fun q hq => ?_
          rcases HW1.out.2 with ⟨h1, _⟩ | ⟨g1, cap1, cur1, hv1, hg1, _⟩
          · rw [h1] at hq; cases hq
          · rw [hv1] at hq; simp [Value.ownBlock] at hq; omega
    · have hkl : k = l.length := by omega
      have HK : Hid (List.take k l = l) := List.take_of_length_le (by omega)
      have HO : Hid (wr.ownsRow (w.heap.size + 1) 88 3 u5 (unseenL (List.take k l) seen).length (flatV (unseenL (List.take k l) seen))) := hown.out
      clear hown
      go_wp2
      go_ret
      refine ⟨_, rfl, ?_, ?_⟩
      · have := HO.out; rw [HK.out] at this; exact ownsRow_base this (by omega)
      · exact ((Below.refl _ _).alloc (Nat.le_refl _) _).trans (hbel.out.mono (by omega))
end Go.Proofs.YtldmcdeibiclkaaGreat
