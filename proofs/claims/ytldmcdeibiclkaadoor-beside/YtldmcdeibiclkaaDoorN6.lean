/-
  Loads and stores of a whole memory; the dice within a frame.
-/
import Derived.Test.YtldmcdeibiclkaaDoorN5
import Derived.Test.YtldmcdeibiclkaaDoorN1
import Derived.Deep.CutRange
set_option linter.unusedVariables false
set_option linter.unusedSimpArgs false
namespace Go.Proofs.YtldmcdeibiclkaaDoor
open Go.RowKit

/-- The 84 cells from a place on. -/
def rdC (w : World) (b o : Nat) : List Value := (List.range 84).map fun j => (w.cell? ⟨b, o + j, none⟩).getD undef
def hasC (w : World) (b o : Nat) : Prop := ∀ j, j < 84 → (w.cell? ⟨b, o + j, none⟩).isSome = true
def okMem (w : World) : Value → Prop
  | .pointer (some ⟨b, o, none⟩) => hasC w b o
  | _ => False
def ldMem (w : World) : Value → Value
  | .pointer (some ⟨b, o, none⟩) => .agg (rdC w b o).toArray
  | _ => undef
theorem okMem_ptr (w : World) (b o : Nat) : okMem w (.pointer (some ⟨b, o, none⟩)) = hasC w b o := rfl
theorem ldMem_ptr (w : World) (b o : Nat) : ldMem w (.pointer (some ⟨b, o, none⟩)) = .agg (rdC w b o).toArray := rfl
theorem rdC_length (w : World) (b o : Nat) : (rdC w b o).length = 84 := by simp [rdC]
theorem rdC_range {w : World} {b o : Nat} (h : hasC w b o) : w.rangeAt b o (rdC w b o) := fun j v hv => by
  have hj : j < 84 := by have := (List.getElem?_eq_some_iff.1 hv).1; rwa [rdC_length] at this
  have := h j hj
  obtain ⟨u, hu⟩ := Option.isSome_iff_exists.1 this
  simp [rdC, hj, hu] at hv
  rw [hu, hv]
theorem rdC_of {w : World} {b o : Nat} {cs : List Value} (h : w.rangeAt b o cs) (hl : cs.length = 84) : rdC w b o = cs ∧ hasC w b o := by
  refine ⟨?_, fun j hj => ?_⟩
  · apply List.ext_getElem?
    intro j
    by_cases hj : j < 84
    · have hc : cs[j]? = some cs[j] := List.getElem?_eq_getElem (by omega)
      rw [hc]
      simp [rdC, hj, h j _ hc]
    · rw [List.getElem?_eq_none (by rw [rdC_length]; omega), List.getElem?_eq_none (by omega)]
  · rw [h j _ (List.getElem?_eq_getElem (by omega))]; rfl
theorem Tryd.sizeMem : (Tryd.prog.info? 59).map (·.size) = some 84 := by kernel_rfl

theorem load_mem (d : Option Tmp) (x : Operand) (ty : TypeId) (pos : String) (aft : Array Edge) (gd : Option (Nat × Bool)) (a : Act) (w : World) (K : Act → World → Prop) (Q : Exit → Act → World → Prop) (h : okMem w (a.eval x)) :
    Oper.wp Tryd.prog { dst := d, op := .load 59 x, type := ty, pos := pos, after := aft, guard := gd } a w K Q = K (a.put d (ldMem w (a.eval x))) w := by
  unfold okMem at h
  split at h
  · rename_i b o heq
    rw [heq, ldMem_ptr]
    unfold Oper.wp execOp
    simp only [heq, Instr.loadAt, Instr.sureAddr, Sem.run_bind, Sem.run_pure, Result.andThen_ok, run_loadVar_mid w b o 59 (rdC w b o) _ (rdC_range h) Tryd.underlying59 rfl (by rw [Tryd.sizeMem, rdC_length])]
    rfl
  · exact h.elim

def okSt (w : World) : Value → Value → Prop
  | .pointer (some ⟨b, o, none⟩), .agg cs => w.there b o 84 ∧ cs.size = 84 ∧ cs.all (·.oneCell') = true
  | _, _ => False
def stMem (w : World) : Value → Value → World
  | .pointer (some ⟨b, o, none⟩), .agg cs => w.setCells b o cs.toList
  | _, _ => w
theorem okSt_ptr (w : World) (b o : Nat) (cs : Array Value) : okSt w (.pointer (some ⟨b, o, none⟩)) (.agg cs) = (w.there b o 84 ∧ cs.size = 84 ∧ cs.all (·.oneCell') = true) := rfl
theorem stMem_ptr (w : World) (b o : Nat) (cs : Array Value) : stMem w (.pointer (some ⟨b, o, none⟩)) (.agg cs) = w.setCells b o cs.toList := rfl

theorem store_mem (d : Option Tmp) (x y : Operand) (ty : TypeId) (pos : String) (aft : Array Edge) (gd : Option (Nat × Bool)) (a : Act) (w : World) (K : Act → World → Prop) (Q : Exit → Act → World → Prop) (h : okSt w (a.eval x) (a.eval y)) :
    Oper.wp Tryd.prog { dst := d, op := .store 59 x y, type := ty, pos := pos, after := aft, guard := gd } a w K Q = K (a.put d undef) (stMem w (a.eval x) (a.eval y)) := by
  unfold okSt at h
  split at h
  · rename_i b o cs heq heq'
    rw [heq, heq', stMem_ptr]
    unfold Oper.wp execOp
    simp only [heq, heq', Instr.storeAt, Instr.sureAddr, Sem.run_bind, Sem.run_pure, Result.andThen_ok, run_storeVar_mid w b o 59 cs (by rw [h.2.1]; exact h.1) (by rw [Tryd.sizeMem, h.2.1]) h.2.2]
    rfl
  · exact h.elim

theorem encM_one (m : Mem) : ∀ v ∈ encM m, v.oneCell' = true := by
  intro v hv
  simp only [encM, List.mem_append] at hv
  rcases hv with hv | hv
  · simp at hv; rcases hv with rfl | rfl | rfl | rfl <;> rfl
  · exact bits_one m.2 v hv

/-- From w on the dice have gone on, and blocks have come; nothing else has turned. -/
def Jx (w : World) (bx : Nat) (ad : Option Addr) (n cap : Nat) (w' : World) : Prop :=
  Fr (fun k => k = bx) w w' ∧ (∃ at2 : Nat, at2 ≤ n ∧ w'.heap[bx]? = some (.cells #[.slice ad n cap, .int .i64 at2] 25)) ∧ bx < w.heap.size

section
variable {w w1 w2 : World} {bx n cap : Nat} {ad : Option Addr}
theorem Jx.drew (h : Jx w bx ad n cap w1) : Jx w bx ad n cap w1.drew := ⟨h.1.drew, h.2.1, h.2.2⟩
theorem Jx.alloc (h : Jx w bx ad n cap w1) (X : Obj) : Jx w bx ad n cap (w1.alloc X) := by
  obtain ⟨h1, ⟨a, h2, h3⟩, h4⟩ := h
  exact ⟨h1.alloc X, ⟨a, h2, by rw [Below.heap_alloc _ _ _ (Array.getElem?_eq_some_iff.1 h3).1]; exact h3⟩, h4⟩
theorem Jx.below (h : Jx w bx ad n cap w1) (hb : Below w1.heap.size w1 w2) : Jx w bx ad n cap w2 := by
  obtain ⟨h1, ⟨a, h2, h3⟩, h4⟩ := h
  exact ⟨h1.below hb, ⟨a, h2, heap_keep h3 hb⟩, h4⟩
theorem Jx.setCell (h : Jx w bx ad n cap w1) {b o : Nat} (hb : w.heap.size ≤ b) (v : Value) : Jx w bx ad n cap (w1.setCell ⟨b, o, none⟩ v) := by
  obtain ⟨h1, ⟨a, h2, h3⟩, h4⟩ := h
  have hne : bx ≠ b := by omega
  exact ⟨h1.setCell (Or.inl hb) v, ⟨a, h2, by rw [Below.heap_setCell _ _ _ _ hne]; exact h3⟩, h4⟩
theorem Jx.setCells (h : Jx w bx ad n cap w1) {b : Nat} (hb : w.heap.size ≤ b) : ∀ (vs : List Value) (o : Nat), Jx w bx ad n cap (w1.setCells b o vs) := by
  intro vs
  induction vs generalizing w1 with
  | nil => intro o; exact h
  | cons v vs ih => intro o; rw [World.setCells]; exact ih (h.setCell hb v) (o + 1)
theorem Jx.toBelow {B : Nat} (h : Jx w bx ad n cap w1) (hb : B ≤ bx) : Below B w w1 :=
  h.1.toBelow (fun k e => by rw [e]; exact hb) (by have := h.2.2; omega)
theorem Jx.dice (h : Jx w bx ad n cap w1) (hn : n ≤ 9223372036854775807) (hc : CodeAt w ad n) (hnb : 0 < n → ∀ b off, ad = some ⟨b, off, none⟩ → b ≠ bx) : ∃ at2, DiceAt w1 bx ad n cap at2 := by
  obtain ⟨h1, ⟨a, h2, h3⟩, h4⟩ := h
  refine ⟨a, h3, h2, hn, ?_⟩
  rcases hc with hc | ⟨b, off, rfl, hall⟩
  · exact Or.inl hc
  · refine Or.inr ⟨b, off, rfl, fun j hj => ?_⟩
    obtain ⟨z, hz, hr⟩ := hall j hj
    exact ⟨z, h1.cell hz (hnb (by omega) b off rfl), hr⟩
theorem Jx.next {at2 : Nat} (h : Jx w bx ad n cap w1) (hg : w1.grownBy w2 (some bx)) (hd : DiceAt w2 bx ad n cap at2) : Jx w bx ad n cap w2 :=
  ⟨h.1.grown hg (fun k e _ => by cases e; rfl), ⟨at2, hd.2.1, hd.1⟩, h.2.2⟩
theorem Jx.start {at2 : Nat} (h : DiceAt w bx ad n cap at2) : Jx w bx ad n cap w :=
  ⟨Fr.refl _ _, ⟨at2, h.2.1, h.1⟩, (Array.getElem?_eq_some_iff.1 h.1).1⟩
end
end Go.Proofs.YtldmcdeibiclkaaDoor
