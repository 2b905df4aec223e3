/-
  Contract: slices.SortFunc on a row of versions that a call owns: the row then holds a permutation, sorted by dots; nothing else that was there turns.
-/
import Derived.Test.YtldmcdeibiclkaaDoorW4
import Derived.Test.YtldmcdeibiclkaaDoorW6
set_option linter.unusedVariables false
set_option linter.unusedSimpArgs false
namespace Go.Proofs.YtldmcdeibiclkaaDoor
open Go.Shelf Go.RowKit Go.Lib Go.Sort

theorem flat_eq (l : List Ver) : (flatK encV 3 l.toArray).toList = flatV l := by
  apply List.ext_getElem?
  intro t
  by_cases ht : t < l.length * 3
  · have hk : t / 3 < l.length := by omega
    obtain ⟨a, b, c⟩ := flatV_get l (t / 3) hk
    have e : (flatK encV 3 l.toArray).toList[t]? = some ((encV l[t / 3])[t % 3]!) := by
      have h1 := get_flatK encV 3 l.toArray t (by simpa using ht)
      rw [getElem!_pos _ t (by simpa using ht)] at h1
      rw [Array.getElem?_toList, Array.getElem?_eq_getElem (by simpa using ht), h1]
      congr 2
      simp [hk]
    rw [e]
    have h3 : t % 3 = 0 ∨ t % 3 = 1 ∨ t % 3 = 2 := by omega
    rcases h3 with h3 | h3 | h3
    · rw [h3]; rw [show (flatV l)[t]? = (flatV l)[t / 3 * 3]? by congr 1; omega, a]; rfl
    · rw [h3]; rw [show (flatV l)[t]? = (flatV l)[t / 3 * 3 + 1]? by congr 1; omega, b]; rfl
    · rw [h3]; rw [show (flatV l)[t]? = (flatV l)[t / 3 * 3 + 2]? by congr 1; omega, c]; rfl
  · rw [List.getElem?_eq_none (by simp; omega), List.getElem?_eq_none (by rw [flatV_length]; omega)]

theorem holds_of_owns {w : World} {g : Nat} {l : List Ver} {cur : Array Value} (hh : w.heap[g]? = some (.cells cur 91 (0, 0))) (ht : cur.toList.take (l.length * 3) = flatV l) : HoldsK encV 3 w g 0 l.toArray := by
  intro j hj
  have hj' : j < l.length * 3 := by simpa using hj
  refine ⟨?_, by simp [World.frozen?, hh]⟩
  simp only [World.cell?, hh, Nat.zero_add, id]
  rw [getElem!_pos _ j hj]
  have e1 : (flatK encV 3 l.toArray).toList[j]? = some (flatK encV 3 l.toArray)[j] := by rw [Array.getElem?_toList, Array.getElem?_eq_getElem hj]
  rw [flat_eq, ← ht, List.getElem?_take, if_pos hj'] at e1
  simpa using e1

theorem sortV_own (B : Nat) (v : Value) (l : List Ver) (w : World) (h : w.ownsRow B 91 3 v l.length (flatV l)) (hn : 0 < l.length) (hsz : l.length < 1000000) :
    Calls Tryd.prog 29 #[v, .func (.func 30) #[] #[]] w fun e w' => e = .returned (.tuple #[]) ∧ ∃ l' : List Ver, l'.Perm l ∧ l'.Pairwise (fun a b => ltV b a = false) ∧ w'.ownsRow B 91 3 v l'.length (flatV l') ∧ w.grownBy w' v.ownBlock := by
  obtain ⟨h1, h2⟩ := h
  rcases h2 with ⟨_, h2⟩ | ⟨g, cap, cur, rfl, hg, hh, hnc, hc, hs, ht⟩
  · omega
  have hglt : g < w.heap.size := (Array.getElem?_eq_some_iff.1 hh).1
  have hH : HoldsK encV 3 w g 0 l.toArray := holds_of_owns hh ht
  refine (sortV_any g 0 cap l.toArray w hH hglt (by simp; omega)).mono ?_
  rintro e w' ⟨rfl, d', n, os, hp, hso, rfl⟩
  refine ⟨rfl, d'.toList, ?_, ?_, ?_, ?_⟩
  · have := hp.2.2
    have e := hp.1
    simp only [List.size_toArray] at e this
    rw [Array.extract_eq_self_of_le (by omega), Array.extract_eq_self_of_le (by simp)] at this
    simpa using this
  · rw [List.pairwise_iff_getElem]
    intro i j hi hj hij
    have := hso i j (by omega) hij (by have := hp.1; simp at this hj ⊢; omega)
    rw [getElem!_pos d' j (by simpa using hj), getElem!_pos d' i (by simpa using hi)] at this
    simpa using this
  · have hsz' : d'.size = l.length := by simpa using hp.1
    have hb : (sortWorldK encV 3 w g 0 n d' os).heap[g]? = some (.cells (putCells id 0 (flatK encV 3 d') cur) 91 (0, 0)) := by
      unfold sortWorldK
      rw [heap_grow_old _ _ (by simpa [putRowK, putRow, mapBlock, Sort.ahead] using hglt)]
      simp [putRowK, putRow, mapBlock, Sort.ahead, Array.getElem?_modify, hh, onCells]
    refine ⟨by rw [flatV_length], Or.inr ⟨g, cap, _, by simp [hsz'], hg, hb, by simp [hsz']; exact hnc, hc, by simp [putCells, hs], ?_⟩⟩
    have hf : flatV d'.toList = (flatK encV 3 d').toList := by rw [← flat_eq]
    rw [hf]
    apply List.ext_getElem?
    intro t
    by_cases htl : t < l.length * 3
    · rw [List.getElem?_take, if_pos (by simp [hsz']; exact htl), Array.getElem?_toList, Array.getElem?_toList]
      have hF : t < (flatK encV 3 d').size := by simp [hsz']; exact htl
      have hC : t < cur.size := by rw [hs]; have := Nat.mul_le_mul_right 3 hnc; omega
      simp only [putCells, Array.getElem?_mapIdx, Array.getElem?_eq_getElem hC, Option.map_some, Array.getElem?_eq_getElem hF]
      rw [if_pos ⟨by omega, by omega⟩]
      simp only [id, Nat.sub_zero]
      rw [getElem!_pos _ t hF]
    · rw [List.getElem?_eq_none (by simp [hsz']; omega), List.getElem?_eq_none (by simp [hsz']; omega)]
  · refine ⟨rfl, rfl, rfl, by simp [sortWorldK, putRowK, putRow, mapBlock, Sort.ahead], fun k hk hne => ?_⟩
    unfold sortWorldK
    rw [heap_grow_old _ _ (by simp [putRowK, putRow, mapBlock, Sort.ahead]; omega)]
    simp only [putRowK, putRow, mapBlock, Sort.ahead, Array.getElem?_modify]
    rw [if_neg (fun e => hne (by subst e; rfl))]
end Go.Proofs.YtldmcdeibiclkaaDoor
