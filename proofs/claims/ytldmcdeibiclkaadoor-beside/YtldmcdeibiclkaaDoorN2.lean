/-
  Contract: all: what is in one of two sets.
-/
import Derived.Test.YtldmcdeibiclkaaDoorW10
import Derived.Test.YtldmcdeibiclkaaDoorW15
import Derived.Test.YtldmcdeibiclkaaDoorZ1
import Derived.Deep.MidRow
set_option linter.unusedVariables false
set_option linter.unusedSimpArgs false
namespace Go.Proofs.YtldmcdeibiclkaaDoor
open Go.RowKit

/-- A set's cells. -/
def bits (s : Nat → Bool) : Array Value := ((List.range 80).map fun j => Value.bool (s j)).toArray
theorem bits_size (s : Nat → Bool) : (bits s).size = 80 := by simp [bits]
theorem bits_get (s : Nat → Bool) (j : Nat) (h : j < 80) : (bits s)[j]? = some (.bool (s j)) := by simp [bits, h]

theorem new2 (w : World) (X Y Z : Obj) : (((w.alloc X).alloc Y).alloc Z).heap[w.heap.size + 1]? = some Y := by
  rw [Below.heap_alloc _ _ _ (by simp)]
  simpa using heap_alloc_new (w.alloc X) Y

theorem bits_cong {s t : Nat → Bool} (h : ∀ j, j < 80 → s j = t j) : bits s = bits t := by
  apply Array.ext_getElem?
  intro j
  by_cases hj : j < 80
  · rw [bits_get _ _ hj, bits_get _ _ hj, h j hj]
  · rw [Array.getElem?_eq_none (by rw [bits_size]; omega), Array.getElem?_eq_none (by rw [bits_size]; omega)]
theorem range_bits {w : World} {b : Nat} {C : Array Value} {t : TypeId} {fr : Nat × Nat} (h : w.heap[b]? = some (.cells C t fr)) : w.rangeAt b 0 C.toList := fun j v hv => by
  simp only [World.cell?, h, Nat.zero_add]
  simpa using hv
theorem Tryd.sizeSet : (Tryd.prog.info? 35).map (·.size) = some 80 := by kernel_rfl

theorem bits_one (s : Nat → Bool) : ∀ v ∈ (bits s).toList, v.oneCell' = true := by
  intro v hv
  simp [bits] at hv
  obtain ⟨j, _, rfl⟩ := hv
  rfl
theorem store_bits {w : World} {b : Nat} {C : Array Value} {t : TypeId} (hC : C.size = 80) (h : w.heap[b]? = some (.cells C t)) (s : Nat → Bool) :
    (storeCells ⟨b, 0, none⟩ (bits s).toList).run Tryd.prog w = .ok () (w.setCells b 0 (bits s).toList) := by
  obtain ⟨e, f⟩ := cells_of0 h
  have := run_storeCells_cells (P := Tryd.prog) b 0 (bits s).toList 0 w (fun j hj => by
      have hj' : j < 80 := by simpa [bits_size] using hj
      simp [e, hC, hj']) (fun j hj => by simpa using f j) (bits_one s)
  simpa using this
theorem after_set (b : Nat) (t : TypeId) : ∀ (vs : List Value) (o : Nat) (w : World) (C : Array Value), w.heap[b]? = some (.cells C t) → ∃ C', (w.setCells b o vs).heap[b]? = some (.cells C' t) ∧ C'.size = C.size ∧ ∀ j, C'[j]? = if o ≤ j ∧ j < o + vs.length ∧ j < C.size then vs[j - o]? else C[j]?
  | [], o, w, C, h => ⟨C, by simpa [World.setCells] using h, rfl, fun j => by rw [if_neg (by simp; omega)]⟩
  | v :: vs, o, w, C, h => by
    obtain ⟨C', h1, h2, h3⟩ := after_set b t vs (o + 1) (w.setCell ⟨b, o, none⟩ v) (C.setIfInBounds o v) (heap_set h)
    refine ⟨C', by rw [World.setCells]; exact h1, by simpa using h2, fun j => ?_⟩
    rw [h3, Array.getElem?_setIfInBounds, Array.size_setIfInBounds]
    by_cases h5 : o = j
    · subst h5
      rw [if_neg (by omega), if_pos rfl]
      by_cases h6 : o < C.size
      · rw [if_pos h6, if_pos (by simp; omega)]; simp
      · rw [if_neg h6, if_neg (by omega)]; rw [Array.getElem?_eq_none (by omega)]
    · rw [if_neg h5]
      by_cases h6 : o + 1 ≤ j ∧ j < o + 1 + vs.length ∧ j < C.size
      · rw [if_pos h6, if_pos (by simp; omega)]
        rw [show j - o = (j - (o + 1)) + 1 by omega]; simp
      · rw [if_neg h6, if_neg (by simp; omega)]
theorem after_bits {w : World} {b : Nat} {C : Array Value} {t : TypeId} (h : w.heap[b]? = some (.cells C t)) (F : Array Value) (hs : C.size = F.size) : (w.setCells b 0 F.toList).heap[b]? = some (.cells F t) := by
  obtain ⟨C', h1, h2, h3⟩ := after_set b t F.toList 0 w C h
  rw [h1]
  congr 2
  apply Array.ext_getElem?
  intro j
  rw [h3]
  by_cases hj : j < F.size
  · rw [if_pos ⟨by omega, by simp; omega, by omega⟩]; simp
  · rw [if_neg (by simp; omega), Array.getElem?_eq_none (by omega), Array.getElem?_eq_none (by omega)]

theorem below_setCells {B : Nat} {a : World} {b : Nat} : ∀ (vs : List Value) {w : World}, Below B a w → B ≤ b → ∀ o, Below B a (w.setCells b o vs)
  | [], _, h, _, _ => h
  | v :: vs, _, h, hb, o => by rw [World.setCells]; exact below_setCells vs (h.setCell (p := ⟨b, o, none⟩) hb v) hb (o + 1)

/-- What holds of the world ahead of a round of all. -/
def AllRel (w : World) (a b : Nat → Bool) (k : Nat) (wr : World) : Prop :=
  wr.heap[w.heap.size]? = some (.cells (bits fun j => if j < k then a j || b j else a j) 35) ∧ wr.heap[w.heap.size + 1]? = some (.cells (bits b) 35) ∧ wr.heap[w.heap.size + 1 + 1]? = some (.cells zSet 35) ∧ Below w.heap.size w wr

theorem bits_set (s : Nat → Bool) (k : Nat) (v : Bool) (hk : k < 80) : (bits s).setIfInBounds k (.bool v) = bits fun j => if j = k then v else s j := by
  apply Array.ext_getElem?
  intro j
  rw [Array.getElem?_setIfInBounds, bits_size]
  by_cases h : j < 80
  · rw [bits_get _ _ h]
    by_cases e : k = j
    · subst e; rw [bits_get _ _ hk]; simp [hk]
    · rw [if_neg e, bits_get _ _ h, if_neg (Ne.symm e)]
  · have h1 : (bits s)[j]? = none := by rw [Array.getElem?_eq_none]; rw [bits_size]; omega
    have h2 : (bits fun j => if j = k then v else s j)[j]? = none := by rw [Array.getElem?_eq_none]; rw [bits_size]; omega
    rw [h1, h2, if_neg (by omega)]

theorem AllRel.step {w wr : World} {a b : Nat → Bool} {k : Nat} (h : AllRel w a b k wr) (hk : k < 80) : AllRel w a b (k + 1) (wr.setCell ⟨w.heap.size, k, none⟩ (.bool (a k || b k))) := by
  obtain ⟨h1, h2, h3, h4⟩ := h
  refine ⟨?_, ?_, ?_, h4.setCell (Nat.le_refl _) _⟩
  · rw [heap_set h1, bits_set _ _ _ hk]
    congr 2
    congr 1
    funext j
    by_cases e : j = k
    · subst e; simp
    · by_cases hl : j < k
      · simp [e, hl, Nat.lt_succ_of_lt hl]
      · have : ¬ j < k + 1 := by omega
        simp [e, hl, this]
  · rw [Below.heap_setCell _ _ _ _ (by simp)]; exact h2
  · rw [Below.heap_setCell _ _ _ _ (by simp; omega)]; exact h3

set_option maxRecDepth 100000 in
set_option maxHeartbeats 400000 in
theorem all_any (a b : Nat → Bool) (w : World) :
    Calls Tryd.prog 25 #[.agg (bits a), .agg (bits b)] w fun e w' => e = .returned (.agg (bits fun j => a j || b j)) ∧ Below w.heap.size w w' := by
  have hz := Tryd.zeroSetV
  go_enter Tryd.func25, Tryd.ntmps25
  go_wp2
  go_loopw [5] (fun i wr => ∃ k : Nat, k ≤ 80 ∧ i = .int .i64 k ∧ AllRel w a b k wr) (fun i _ => 80 - (intOf i).toNat)
  case atStart => exact ⟨0, by omega, rfl, new1 w _ _ _, by simpa using new2 w _ _ _, new3 w _ _ _, (((Below.refl _ _).alloc (Nat.le_refl _) _).alloc (by simp) _).alloc (by simp; omega) _⟩
  case round =>
    obtain ⟨k, hk, rfl, hrel⟩ := hrel
    by_cases hlt : k < 80
    · have g1 : (k : Int) < 80 := by omega
      have g0 : (0 : Int) ≤ (k : Int) := by omega
      obtain ⟨e0, f0⟩ := cells_of0 hrel.1
      obtain ⟨e1, f1⟩ := cells_of0 hrel.2.1
      have r0 : wr.cell? ⟨w.heap.size, k, none⟩ = some (.bool (a k)) := by rw [e0, bits_get _ _ hlt]; simp
      have r1 : wr.cell? ⟨w.heap.size + 1, k, none⟩ = some (.bool (b k)) := by rw [e1, bits_get _ _ hlt]
      have w0 := f0 k
      have hst : Hid _ := hrel.step hlt
      clear e0 f0 e1 f1 hrel
      cases ha : a k with
      | true =>
        rw [ha] at r0 hst
        go_wp2
        exact ⟨⟨k + 1, by omega, by go_num, hst.out⟩, by simp [intOf]; omega⟩
      | false =>
        rw [ha] at r0 hst
        rw [Bool.false_or] at hst
        go_wp2
        exact ⟨⟨k + 1, by omega, by go_num, hst.out⟩, by simp [intOf]; omega⟩
    · obtain rfl : k = 80 := by omega
      have hbits : (bits fun j => if j < 80 then a j || b j else a j) = bits fun j => a j || b j := bits_cong fun j hj => by simp [hj]
      have h1 := hrel.1
      rw [hbits] at h1
      have HR : Hid _ := hrel
      have hrange := range_bits h1
      clear hrel hbits h1
      go_wp2_with fail
      refine wp_load_mid 35 _ rfl w.heap.size 0 rfl _ _ hrange Tryd.underlying35 rfl (by rw [Tryd.sizeSet, Array.length_toList, bits_size]) ?_
      have hs80 : (bits fun j => a j || b j).size = 80 := bits_size _
      have hst := store_bits zSet_size HR.out.2.2.1 (fun j => a j || b j)
      generalize hF : (bits fun j => a j || b j) = F at *
      have HF : Hid _ := hF
      clear hF
      go_wp2
      have hfin := after_bits HR.out.2.2.1 F (by rw [zSet_size, hs80])
      refine bodyPost_ret (v := .agg F) ?_ rfl ⟨by rw [HF.out], ?_⟩
      · have hl := run_loadVar_mid (P := Tryd.prog) (wr.setCells (w.heap.size + 1 + 1) 0 F.toList) (w.heap.size + 1 + 1) 0 35 F.toList _ (range_bits hfin) Tryd.underlying35 rfl (by rw [Tryd.sizeSet, Array.length_toList, hs80])
        rw [Array.toArray_toList] at hl
        simp [results, Tryd.results25, asAddr, hl]
      · exact below_setCells _ HR.out.2.2.2 (by omega) _
end Go.Proofs.YtldmcdeibiclkaaDoor
