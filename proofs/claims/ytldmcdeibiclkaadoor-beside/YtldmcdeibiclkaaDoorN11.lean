/-
  How a memory, and a list of one, are built.
-/
import Derived.Test.YtldmcdeibiclkaaDoorN6c
import Derived.Laws.Tables
set_option linter.unusedVariables false
set_option linter.unusedSimpArgs false
namespace Go.Proofs.YtldmcdeibiclkaaDoor
open Go.RowKit

theorem foldl_set_get : ∀ (vs : List Value) (s off : Nat) (cells : Array Value) (t : Nat),
    ((vs.zipIdx s).foldl (fun cs (p : Value × Nat) => cs.setIfInBounds (off + p.2) p.1) cells)[t]? = if off + s ≤ t ∧ t < off + s + vs.length ∧ t < cells.size then vs[t - off - s]? else cells[t]?
  | [], s, off, cells, t => by
    simp only [List.zipIdx_nil, List.foldl_nil, List.length_nil]
    rw [if_neg (by omega)]
  | v :: vs, s, off, cells, t => by
    simp only [List.zipIdx_cons, List.foldl_cons]
    rw [foldl_set_get vs (s + 1) off _ t, Array.getElem?_setIfInBounds, Array.size_setIfInBounds]
    by_cases h : off + s = t
    · subst h
      rw [if_neg (by omega), if_pos rfl]
      by_cases h2 : off + s < cells.size
      · rw [if_pos h2, if_pos ⟨by omega, by rw [List.length_cons]; omega, h2⟩, show off + s - off - s = 0 by omega]; rfl
      · rw [if_neg h2, if_neg (by omega), Array.getElem?_eq_none (by omega)]
    · rw [if_neg h]
      by_cases h3 : off + (s + 1) ≤ t ∧ t < off + (s + 1) + vs.length ∧ t < cells.size
      · rw [if_pos h3, if_pos ⟨by omega, by rw [List.length_cons]; omega, h3.2.2⟩, show t - off - s = (t - off - (s + 1)) + 1 by omega]
        rfl
      · rw [if_neg h3, if_neg (by rw [List.length_cons]; omega)]
theorem foldl_set_size : ∀ (l : List (Value × Nat)) (off : Nat) (cells : Array Value), (l.foldl (fun cs (p : Value × Nat) => cs.setIfInBounds (off + p.2) p.1) cells).size = cells.size
  | [], _, _ => rfl
  | p :: l, off, cells => by rw [List.foldl_cons, foldl_set_size l, Array.size_setIfInBounds]

theorem fill_one (place : Nat → Option (Nat × Nat)) (cells cs : Array Value) (i off : Nat) (rest : List (Nat × Value)) (hp : place i = some (off, cs.size)) (hs : off + cs.size ≤ cells.size) :
    ∃ cells' : Array Value, Instr.fill place cells ((i, .agg cs) :: rest) = Instr.fill place cells' rest ∧ cells'.size = cells.size ∧ ∀ t, cells'[t]? = if off ≤ t ∧ t < off + cs.size then cs[t - off]? else cells[t]? := by
  refine ⟨(cs.zipIdx.foldl (fun cs' (p : Value × Nat) => cs'.setIfInBounds (off + p.2) p.1) cells), ?_, ?_, fun t => ?_⟩
  · have hc : (Value.agg cs).cells = cs := rfl
    rw [Instr.fill, hp]
    simp only [hc]
    rw [if_neg (by simp; omega)]
  · rw [← Array.foldl_toList]
    exact foldl_set_size _ off cells
  · rw [← Array.foldl_toList, Array.toList_zipIdx]
    have := foldl_set_get cs.toList 0 off cells t
    rw [this]
    simp only [Nat.add_zero, Array.length_toList, Nat.sub_zero, Array.getElem?_toList]
    by_cases h : off ≤ t ∧ t < off + cs.size
    · rw [if_pos ⟨h.1, h.2, by omega⟩, if_pos h]
    · rw [if_neg (fun e => h ⟨e.1, e.2.1⟩), if_neg h]

theorem Tryd.builtMem (a b : Array Value) : Tryd.prog.built 59 [(0, .agg a), (1, .agg b)] = Instr.fill (fun x => [(0, 4), (4, 80)][x]?) zMem [(0, .agg a), (1, .agg b)] := by kernel_rfl

theorem build_mem (w : World) (a b : Array Value) (ha : a.size = 4) (hb : b.size = 80) : (Instr.build 59 #[(0, .agg a), (1, .agg b)]).run Tryd.prog w = .ok (.agg (a ++ b)) w := by
  refine run_build (P := Tryd.prog) w _ _ _ ?_
  rw [Tryd.builtMem]
  obtain ⟨c1, h1, s1, g1⟩ := fill_one (fun x => [(0, 4), (4, 80)][x]?) zMem a 0 0 [(1, .agg b)] (by rw [ha]; rfl) (by rw [ha, zMem_size]; omega)
  obtain ⟨c2, h2, s2, g2⟩ := fill_one (fun x => [(0, 4), (4, 80)][x]?) c1 b 1 4 [] (by rw [hb]; rfl) (by rw [hb, s1, zMem_size]; omega)
  rw [h1, h2, Instr.fill]
  congr 1
  apply Array.ext_getElem?
  intro t
  rw [g2, g1, hb, ha, Array.getElem?_append, ha]
  rw [zMem_size] at s1
  by_cases h4 : t < 4
  · rw [if_neg (by omega), if_pos (by omega), if_pos h4]; rfl
  · rw [if_neg h4]
    by_cases h84 : t < 84
    · rw [if_pos (by omega)]
    · rw [if_neg (by omega), if_neg (by omega), Array.getElem?_eq_none (by rw [zMem_size]; omega), Array.getElem?_eq_none (by omega)]

theorem fill_whole (base cs : Array Value) (hb : base.size = 1 * 84) (hs : cs.size = 84) : Instr.fill (fun i => some (i * 84, 84)) base [(0, .agg cs)] = some cs := by
  obtain ⟨c1, h1, s1, g1⟩ := fill_one (fun i => some (i * 84, 84)) base cs 0 0 [] (by rw [hs]) (by rw [hs]; omega)
  rw [h1, Instr.fill]
  congr 1
  apply Array.ext_getElem?
  intro t
  rw [g1, hs]
  by_cases h : t < 84
  · rw [if_pos (by omega)]; rfl
  · rw [if_neg (by omega), Array.getElem?_eq_none (by omega), Array.getElem?_eq_none (by omega)]

theorem Tryd.sizeOfMem : (Tryd.prog.info? 59).map (fun i => (i.zero, i.size, i.bytes)) = some (some (.agg zMem), 84, 112) := by kernel_rfl

theorem buildSlice_mem (w : World) (cs : Array Value) (hs : cs.size = 84) : (Instr.buildSlice 38 1 #[(0, .agg cs)]).run Tryd.prog w = .ok (.slice (some ⟨w.heap.size, 0, none⟩) 1 1) (w.alloc (.cells cs 59)) := by
  obtain ⟨i0, hi0, hz0, hz1, hz2⟩ := info_parts Tryd.sizeOfMem
  have hu : Tryd.prog.underlying 38 = some (.slice 59) := Tryd.underlying38
  have hf : Instr.fill (fun i => some (i * 84, 84)) ((Array.range (1 * 84)).map ((Value.agg zMem).cells[· % (Value.agg zMem).cells.size]!)) [(0, .agg cs)] = some cs := fill_whole _ cs (by rw [Array.size_map, Array.size_range]) hs
  simp [Instr.buildSlice, run_underlying hu, sizeOf, typeInfo, zeroValue, hi0, hz0, hz1, hf, newRow]
end Go.Proofs.YtldmcdeibiclkaaDoor
