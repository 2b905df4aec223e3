/-
  Loads and stores of a whole set.
-/
import Derived.Test.YtldmcdeibiclkaaDoorN6b
set_option linter.unusedVariables false
set_option linter.unusedSimpArgs false
namespace Go.Proofs.YtldmcdeibiclkaaDoor
open Go.RowKit

/-- The 80 cells from a place on. -/
def rdB (w : World) (b o : Nat) : List Value := (List.range 80).map fun j => (w.cell? ⟨b, o + j, none⟩).getD undef
def hasB (w : World) (b o : Nat) : Prop := ∀ j, j < 80 → (w.cell? ⟨b, o + j, none⟩).isSome = true
def okB (w : World) : Value → Prop
  | .pointer (some ⟨b, o, none⟩) => hasB w b o
  | _ => False
def ldB (w : World) : Value → Value
  | .pointer (some ⟨b, o, none⟩) => .agg (rdB w b o).toArray
  | _ => undef
theorem okB_ptr (w : World) (b o : Nat) : okB w (.pointer (some ⟨b, o, none⟩)) = hasB w b o := rfl
theorem ldB_ptr (w : World) (b o : Nat) : ldB w (.pointer (some ⟨b, o, none⟩)) = .agg (rdB w b o).toArray := rfl
theorem rdB_length (w : World) (b o : Nat) : (rdB w b o).length = 80 := by simp [rdB]
theorem rdB_range {w : World} {b o : Nat} (h : hasB w b o) : w.rangeAt b o (rdB w b o) := fun j v hv => by
  have hj : j < 80 := by have := (List.getElem?_eq_some_iff.1 hv).1; rwa [rdB_length] at this
  have := h j hj
  obtain ⟨u, hu⟩ := Option.isSome_iff_exists.1 this
  simp [rdB, hj, hu] at hv
  rw [hu, hv]
theorem rdB_of {w : World} {b o : Nat} {s : Nat → Bool} (h : ∀ j, j < 80 → w.cell? ⟨b, o + j, none⟩ = some (.bool (s j))) : (rdB w b o).toArray = bits s ∧ hasB w b o := by
  refine ⟨?_, fun j hj => by rw [h j hj]; rfl⟩
  unfold bits rdB
  congr 1
  refine List.map_congr_left fun j hj => ?_
  rw [h j (List.mem_range.1 hj)]; rfl
theorem rdB_drew (w : World) (b o : Nat) : rdB w.drew b o = rdB w b o := rfl
theorem hasB_drew (w : World) (b o : Nat) : hasB w.drew b o = hasB w b o := rfl

theorem load_set (d : Option Tmp) (x : Operand) (ty : TypeId) (pos : String) (aft : Array Edge) (gd : Option (Nat × Bool)) (a : Act) (w : World) (K : Act → World → Prop) (Q : Exit → Act → World → Prop) (h : okB w (a.eval x)) :
    Oper.wp Tryd.prog { dst := d, op := .load 35 x, type := ty, pos := pos, after := aft, guard := gd } a w K Q = K (a.put d (ldB w (a.eval x))) w := by
  unfold okB at h
  split at h
  · rename_i b o heq
    rw [heq, ldB_ptr]
    unfold Oper.wp execOp
    simp only [heq, Instr.loadAt, Instr.sureAddr, Sem.run_bind, Sem.run_pure, Result.andThen_ok, run_loadVar_mid w b o 35 (rdB w b o) _ (rdB_range h) Tryd.underlying35 rfl (by rw [Tryd.sizeSet, rdB_length])]
    rfl
  · exact h.elim

def thereB (w : World) (b o : Nat) : Prop := w.there b o 80
theorem thereB_drew (w : World) (b o : Nat) : thereB w.drew b o = thereB w b o := rfl
def okStB (w : World) : Value → Value → Prop
  | .pointer (some ⟨b, o, none⟩), .agg cs => thereB w b o ∧ ∃ s, cs = bits s
  | _, _ => False
def stB (w : World) : Value → Value → World
  | .pointer (some ⟨b, o, none⟩), .agg cs => w.setCells b o cs.toList
  | _, _ => w
theorem okStB_ptr (w : World) (b o : Nat) (s : Nat → Bool) : okStB w (.pointer (some ⟨b, o, none⟩)) (.agg (bits s)) = thereB w b o := by
  apply propext
  exact ⟨fun h => h.1, fun h => ⟨h, s, rfl⟩⟩
theorem stB_ptr (w : World) (b o : Nat) (cs : Array Value) : stB w (.pointer (some ⟨b, o, none⟩)) (.agg cs) = w.setCells b o cs.toList := rfl

theorem store_set (d : Option Tmp) (x y : Operand) (ty : TypeId) (pos : String) (aft : Array Edge) (gd : Option (Nat × Bool)) (a : Act) (w : World) (K : Act → World → Prop) (Q : Exit → Act → World → Prop) (h : okStB w (a.eval x) (a.eval y)) :
    Oper.wp Tryd.prog { dst := d, op := .store 35 x y, type := ty, pos := pos, after := aft, guard := gd } a w K Q = K (a.put d undef) (stB w (a.eval x) (a.eval y)) := by
  unfold okStB at h
  split at h
  · rename_i b o cs heq heq'
    obtain ⟨h1, s, rfl⟩ := h
    rw [heq, heq', stB_ptr]
    unfold Oper.wp execOp
    simp only [heq, heq', Instr.storeAt, Instr.sureAddr, Sem.run_bind, Sem.run_pure, Result.andThen_ok, run_storeVar_mid w b o 35 (bits s) (by rw [bits_size]; exact h1) (by rw [Tryd.sizeSet, bits_size]) (Array.all_eq_true_iff_forall_mem.2 (fun v hv => bits_one s v (by simpa using hv)))]
    rfl
  · exact h.elim

theorem thereB_of {w : World} {b o : Nat} {A : Array Value} {t : TypeId} (h : w.heap[b]? = some (.cells A t)) (hs : o + 80 ≤ A.size) : thereB w b o := fun j hj => by
  obtain ⟨e, f⟩ := cells_of0 h
  refine ⟨?_, f _⟩
  rw [e, Array.getElem?_eq_getElem (by omega)]; rfl

/-- A set is stored into the net's block. -/
theorem set_stored {w : World} {b o : Nat} {A : Array Value} {t : TypeId} (h : w.heap[b]? = some (.cells A t)) (hs : o + 80 ≤ A.size) (s : Nat → Bool) :
    ∃ A', (w.setCells b o (bits s).toList).heap[b]? = some (.cells A' t) ∧ A'.size = A.size ∧ (∀ j, j < 80 → A'[o + j]? = some (.bool (s j))) ∧ ∀ j, (j < o ∨ o + 80 ≤ j) → A'[j]? = A[j]? := by
  obtain ⟨A', h1, h2, h3⟩ := after_set b t (bits s).toList o w A h
  have hl : (bits s).toList.length = 80 := by rw [Array.length_toList, bits_size]
  refine ⟨A', h1, h2, fun j hj => ?_, fun j hj => ?_⟩
  · rw [h3, if_pos ⟨by omega, by omega, by omega⟩, show o + j - o = j by omega, Array.getElem?_toList]
    exact bits_get s j hj
  · rw [h3, if_neg (by omega)]
end Go.Proofs.YtldmcdeibiclkaaDoor
