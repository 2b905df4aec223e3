/-
  A frame: all blocks that were there, but those that are named, are as they were.
-/
import Derived.Test.YtldmcdeibiclkaaDoorW15
set_option linter.unusedVariables false
set_option linter.unusedSimpArgs false
namespace Go.Proofs.YtldmcdeibiclkaaDoor
open Go.RowKit

/-- From w to w' no block of w has turned but those of X. -/
structure Fr (X : Nat → Prop) (w w' : World) : Prop where
  os : w'.os = w.os
  tape : w'.tape = w.tape
  output : w'.output = w.output
  size : w.heap.size ≤ w'.heap.size
  block : ∀ k, k < w.heap.size → ¬ X k → w'.heap[k]? = w.heap[k]?

section
variable {X Y : Nat → Prop} {w w1 w2 : World}
theorem Fr.refl (X : Nat → Prop) (w : World) : Fr X w w := ⟨rfl, rfl, rfl, Nat.le_refl _, fun _ _ _ => rfl⟩
theorem Fr.trans (h : Fr X w w1) (h' : Fr X w1 w2) : Fr X w w2 :=
  ⟨h'.os.trans h.os, h'.tape.trans h.tape, h'.output.trans h.output, Nat.le_trans h.size h'.size, fun k hk hn => (h'.block k (Nat.lt_of_lt_of_le hk h.size) hn).trans (h.block k hk hn)⟩
theorem Fr.weaken (h : Fr X w w1) (hX : ∀ k, X k → Y k) : Fr Y w w1 := ⟨h.os, h.tape, h.output, h.size, fun k hk hn => h.block k hk fun e => hn (hX k e)⟩
theorem Fr.below (h : Fr X w w1) (hb : Below w1.heap.size w1 w2) : Fr X w w2 :=
  ⟨hb.os.trans h.os, hb.tape.trans h.tape, hb.output.trans h.output, Nat.le_trans h.size hb.size, fun k hk hn => (hb.block k (Nat.lt_of_lt_of_le hk h.size)).trans (h.block k hk hn)⟩
theorem Fr.of_below (hb : Below w.heap.size w w1) : Fr X w w1 := (Fr.refl X w).below hb
theorem Fr.grown {row : Option Nat} (h : Fr X w w1) (hg : w1.grownBy w2 row) (hr : ∀ k, row = some k → k < w.heap.size → X k) : Fr X w w2 :=
  ⟨hg.os.trans h.os, hg.tape.trans h.tape, hg.output.trans h.output, Nat.le_trans h.size hg.size, fun k hk hn => (hg.block k (Nat.lt_of_lt_of_le hk h.size) (fun e => hn (hr k e.symm hk))).trans (h.block k hk hn)⟩
theorem Fr.drew (h : Fr X w w1) : Fr X w w1.drew := ⟨h.os, h.tape, h.output, h.size, h.block⟩
theorem Fr.drewN (h : Fr X w w1) (q : Nat) : Fr X w (w1.drewN q) := ⟨h.os, h.tape, h.output, h.size, h.block⟩
theorem Fr.alloc (h : Fr X w w1) (o : Obj) : Fr X w (w1.alloc o) := h.below ((Below.refl _ _).alloc (Nat.le_refl _) o)
theorem Fr.setCell (h : Fr X w w1) {b o : Nat} (hb : w.heap.size ≤ b ∨ X b) (v : Value) : Fr X w (w1.setCell ⟨b, o, none⟩ v) :=
  ⟨h.os, h.tape, h.output, by simpa [World.setCell] using h.size, fun k hk hn => by
    have hne : k ≠ b := fun e => by
      rcases hb with hb | hb
      · omega
      · exact hn (e ▸ hb)
    rw [Below.heap_setCell _ _ _ _ hne]
    exact h.block k hk hn⟩
theorem Fr.toBelow {B : Nat} (h : Fr X w w1) (hX : ∀ k, X k → B ≤ k) (hB : B ≤ w.heap.size) : Below B w w1 :=
  ⟨h.os, h.tape, h.output, h.size, fun k hk => h.block k (by omega) fun e => by have := hX k e; omega⟩
theorem Fr.heap (h : Fr X w w1) {k : Nat} {o : Obj} (hk : w.heap[k]? = some o) (hn : ¬ X k) : w1.heap[k]? = some o := by
  rw [h.block k (Array.getElem?_eq_some_iff.1 hk).1 hn]; exact hk
theorem Fr.cell (h : Fr X w w1) {b o : Nat} {v : Value} (hc : w.cell? ⟨b, o, none⟩ = some v) (hn : ¬ X b) : w1.cell? ⟨b, o, none⟩ = some v := by
  rw [World.cell?_of_block (h.block b (World.block_lt_of_cell? w _ hc) hn)]; exact hc
theorem Fr.row {B n size : Nat} {t : TypeId} {v : Value} {xs : List Value} (h : Fr X w w1) (hr : w.ownsRow B t size v n xs) (hn : ∀ g o l c, v = .slice (some ⟨g, o, none⟩) l c → ¬ X g) : w1.ownsRow B t size v n xs := by
  obtain ⟨h1, h2⟩ := hr
  refine ⟨h1, ?_⟩
  rcases h2 with h2 | ⟨g, cap, cur, hv, hg, hh, r⟩
  · exact Or.inl h2
  · exact Or.inr ⟨g, cap, cur, hv, hg, h.heap hh (hn _ _ _ _ hv), r⟩
theorem Fr.rep {b num : Nat} {bm : Nat → Nat} {K : Know} (h : Fr X w w1) (hr : RepAt w b bm num K) (hb : ¬ X b) (hm : ∀ n, n < 64 → ¬ X (bm n)) (hv : ∀ g cur, w.heap[g]? = some (.cells cur 91 (0, 0)) → ¬ X g) : RepAt w1 b bm num K :=
  hr.keep (h.block _ hr.1.lt hb) (fun n hn => h.block _ (hr.2.1 n hn).lt (hm n hn)) fun g hg ⟨cur, hc⟩ => h.block g hg (hv g cur hc)
end
end Go.Proofs.YtldmcdeibiclkaaDoor
