/-
  What the first region of deletes and of puts reads and makes.
-/
import Derived.Test.YtldmcdeibiclkaaDoorN6
set_option linter.unusedVariables false
set_option linter.unusedSimpArgs false
namespace Go.Proofs.YtldmcdeibiclkaaDoor
open Go.RowKit
attribute [local go_sem ↓] load_mem store_mem
attribute [local go_sem] okMem_ptr ldMem_ptr okSt_ptr stMem_ptr

theorem load_mem_exec (f : Operand → Value) (d : Option Tmp) (x : Operand) (ty : TypeId) (pos : String) (aft : Array Edge) (gd : Option (Nat × Bool)) (w : World) (h : okMem w (f x)) :
    (execOp f { dst := d, op := .load 59 x, type := ty, pos := pos, after := aft, guard := gd }).run Tryd.prog w = .ok (.value (ldMem w (f x))) w := by
  unfold okMem at h
  split at h
  · rename_i b o heq
    rw [heq, ldMem_ptr]
    unfold execOp
    simp only [heq, Instr.loadAt, Instr.sureAddr, Sem.run_bind, Sem.run_pure, Result.andThen_ok, run_loadVar_mid w b o 59 (rdC w b o) _ (rdC_range h) Tryd.underlying59 rfl (by rw [Tryd.sizeMem, rdC_length])]
  · exact h.elim
attribute [local go_sem ↓] load_mem_exec

/-- The r-th of what clients remember. -/
def memD (l : List Mem) (r : Nat) : Mem := l.getD r (fun _ => 0, fun _ => false)
theorem memD_eq (l : List Mem) (r : Nat) (h : r < l.length) : memD l r = l[r] := by
  unfold memD
  rw [List.getD_eq_getElem?_getD, List.getElem?_eq_getElem h]; rfl

theorem store_enc {W : World} {p : Nat} {C : Array Value} {t : TypeId} (hC : C.size = 84) (h : W.heap[p]? = some (.cells C t)) (m : Mem) :
    (storeCells ⟨p, 0, none⟩ (encM m)).run Tryd.prog W = .ok () (W.setCells p 0 (encM m)) := by
  obtain ⟨e, f⟩ := cells_of0 h
  have := run_storeCells_cells (P := Tryd.prog) p 0 (encM m) 0 W (fun j hj => by
      have hj' : j < 84 := by rwa [encM_length] at hj
      simp [e, hC, hj']) (fun j hj => by simpa using f j) (encM_one m)
  simpa using this
theorem after_enc {W : World} {p : Nat} {C : Array Value} {t : TypeId} (hC : C.size = 84) (h : W.heap[p]? = some (.cells C t)) (m : Mem) : (W.setCells p 0 (encM m)).heap[p]? = some (.cells (encM m).toArray t) := by
  have := after_bits h (encM m).toArray (by rw [hC, List.size_toArray, encM_length])
  simpa using this
theorem store_new (W : World) (m : Mem) : (storeCells ⟨W.heap.size, 0, none⟩ (encM m)).run Tryd.prog (W.alloc (.cells zMem 59)) = .ok () ((W.alloc (.cells zMem 59)).setCells W.heap.size 0 (encM m)) :=
  store_enc zMem_size (heap_alloc_new W _) m
theorem kept_new {w w1 : World} {bx : Nat} (hg : (w.drew.alloc (.cells zMem 59)).grownBy w1 (some bx)) (hbx : bx < w.heap.size) : w1.heap[w.heap.size]? = some (.cells zMem 59) := by
  rw [hg.block w.heap.size (by simp) (fun e => by cases e; omega)]
  exact heap_alloc_new w.drew _

/-- What the first region of deletes and of puts reads. -/
def MemIn (bt k : Nat) (g : NetG) (w' : World) : Prop :=
  w'.cell? ⟨bt, 1922 + k, none⟩ = some (g.mv k) ∧ (∀ r, r < (g.mem k).length → hasC w' (g.gm k) (r * 84)) ∧ (∀ r, r < (g.mem k).length → rdC w' (g.gm k) (r * 84) = encM (memD (g.mem k) r))

theorem NetAt.memIn {w : World} {B bt k : Nat} {g : NetG} (h : NetAt B w bt g) (hk : k < 3) : MemIn bt k g w := by
  have hx : ∀ r, r < (g.mem k).length → w.rangeAt (g.gm k) (r * 84) (encM (memD (g.mem k) r)) := fun r hr j v hv => by
    have hj : j < 84 := by have := (List.getElem?_eq_some_iff.1 hv).1; rwa [encM_length] at this
    obtain ⟨gw, cw, hwv, hw1, hw2, hcells⟩ := row_cell (h.hmem k hk) (by omega)
    cases hwv
    refine hcells _ _ ?_ ?_
    · omega
    · rw [flatM_get _ r hr j hj]
      rw [memD_eq _ _ hr] at hv
      exact hv
  refine ⟨?_, fun r hr => (rdC_of (hx r hr) (encM_length _)).2, fun r hr => (rdC_of (hx r hr) (encM_length _)).1⟩
  rw [(cells_of0 h.hT).1]; exact h.hmv k hk

theorem encM_bit (m : Mem) (j : Nat) (h : j < 80) : (encM m).toArray[4 + j]? = some (.bool (m.2 j)) := by
  rw [List.getElem?_toArray, encM, List.getElem?_append_right (by simp)]
  have := bits_get m.2 j h
  simp only [List.length_cons, List.length_nil]
  rw [show 4 + j - (0 + 1 + 1 + 1 + 1) = j by omega, Array.getElem?_toList]
  exact this
end Go.Proofs.YtldmcdeibiclkaaDoor
