/-
  The plain mathematics of the statement Beside: a context and a set of writes say the same, and stay so.
-/
import Derived.Test.YtldmcdeibiclkaaDoorP3
import Derived.Test.YtldmcdeibiclkaaDoorW9
set_option linter.unusedVariables false
set_option linter.unusedSimpArgs false
namespace Go.Proofs.YtldmcdeibiclkaaDoor

/-- How many writes of one to a key there are. -/
def cntW : List Wr → Nat → Nat → Int
  | [], _, _ => 0
  | x :: ws, b, k => (if x.1 = b ∧ x.2.1 = k then 1 else 0) + cntW ws b k

theorem cntW_append (a c : List Wr) (b k : Nat) : cntW (a ++ c) b k = cntW a b k + cntW c b k := by
  induction a with
  | nil => simp [cntW]
  | cons x a ih => simp only [List.cons_append, cntW, ih]; omega
theorem cntW_nonneg (a : List Wr) (b k : Nat) : 0 ≤ cntW a b k := by
  induction a with
  | nil => simp [cntW]
  | cons x a ih => simp only [cntW]; split <;> omega
theorem cntW_le (a : List Wr) (b k : Nat) : cntW a b k ≤ a.length := by
  induction a with
  | nil => simp [cntW]
  | cons x a ih => simp only [cntW, List.length_cons]; split <;> omega

/-- Each write is one more than those of its replica to its key ahead of it. -/
def SeqOk (ws : List Wr) : Prop := ∀ (j : Nat) (x : Wr), ws[j]? = some x → x.2.2.1 = cntW (ws.take j) x.1 x.2.1 + 1

theorem cntW_take_mono (ws : List Wr) (b k : Nat) {i j : Nat} (h : i ≤ j) : cntW (ws.take i) b k ≤ cntW (ws.take j) b k := by
  obtain ⟨d, rfl⟩ := Nat.exists_eq_add_of_le h
  rw [List.take_add, cntW_append]
  have := cntW_nonneg ((ws.drop i).take d) b k
  omega

theorem SeqOk.num {ws : List Wr} (h : SeqOk ws) : NumOk ws := by
  intro i j x y hij hx hy h1 h2
  have e1 := h i x hx
  have e2 := h j y hy
  have hi : i < ws.length := (List.getElem?_eq_some_iff.1 hx).1
  have hxi : ws[i] = x := (List.getElem?_eq_some_iff.1 hx).2
  have e3 : cntW (ws.take (i + 1)) x.1 x.2.1 = cntW (ws.take i) x.1 x.2.1 + 1 := by
    rw [List.take_succ_eq_append_getElem hi, cntW_append, hxi]; simp [cntW]
  have e4 := cntW_take_mono ws x.1 x.2.1 (show i + 1 ≤ j from hij)
  rw [← h1, ← h2] at e2
  omega

theorem SeqOk.snoc {ws : List Wr} (h : SeqOk ws) (i k : Nat) (val : ByteArray) : SeqOk (ws ++ [(i, k, cntW ws i k + 1, val)]) := by
  intro j x hx
  by_cases hj : j < ws.length
  · rw [List.getElem?_append_left hj] at hx
    rw [List.take_append_of_le_length (by omega)]
    exact h j x hx
  · have hl : j = ws.length := by
      have := (List.getElem?_eq_some_iff.1 hx).1
      simp at this; omega
    subst hl
    obtain rfl : (i, k, cntW ws i k + 1, val) = x := by simpa using hx
    simp

/-- A write's number is at most as many as there are. -/
theorem SeqOk.le {ws : List Wr} (h : SeqOk ws) {j : Nat} {x : Wr} (hx : ws[j]? = some x) : 1 ≤ x.2.2.1 ∧ x.2.2.1 ≤ cntW ws x.1 x.2.1 := by
  have e := h j x hx
  have hj : j < ws.length := (List.getElem?_eq_some_iff.1 hx).1
  have hxj : ws[j] = x := (List.getElem?_eq_some_iff.1 hx).2
  have e3 : cntW (ws.take (j + 1)) x.1 x.2.1 = cntW (ws.take j) x.1 x.2.1 + 1 := by
    rw [List.take_succ_eq_append_getElem hj, cntW_append, hxj]; simp [cntW]
  have e4 := cntW_take_mono ws x.1 x.2.1 (show j + 1 ≤ ws.length from hj)
  rw [List.take_length] at e4
  have := cntW_nonneg (ws.take j) x.1 x.2.1
  omega

/-- A context has seen, of the writes to a key, just those of a set. -/
def Good (ws : List Wr) (k : Nat) (c : Ctx) (kn : Nat → Bool) : Prop :=
  (∀ (j : Nat) (x : Wr), ws[j]? = some x → (kn j = true ↔ x.2.1 = k ∧ x.2.2.1 ≤ c x.1)) ∧ (∀ j, ws.length ≤ j → kn j = false) ∧ ∀ b, 0 ≤ c b ∧ c b ≤ cntW ws b k

theorem Good.join {ws : List Wr} {k : Nat} {c d : Ctx} {kn m : Nat → Bool} (h : Good ws k c kn) (h' : Good ws k d m) : Good ws k (bothC c d) (fun j => kn j || m j) := by
  refine ⟨fun j x hx => ?_, fun j hj => ?_, fun b => ?_⟩
  · have e1 := h.1 j x hx
    have e2 := h'.1 j x hx
    simp only [Bool.or_eq_true, bothC]
    rw [e1, e2]
    constructor
    · rintro (⟨a, b⟩ | ⟨a, b⟩)
      · exact ⟨a, by omega⟩
      · exact ⟨a, by omega⟩
    · rintro ⟨a, b⟩
      by_cases q : x.2.2.1 ≤ c x.1
      · exact Or.inl ⟨a, q⟩
      · exact Or.inr ⟨a, by omega⟩
  · simp [h.2.1 j hj, h'.2.1 j hj]
  · have e1 := h.2.2 b
    have e2 := h'.2.2 b
    simp only [bothC]; omega

/-- Who does not know of the new write is as he was. -/
theorem Good.other {ws : List Wr} {k : Nat} {c : Ctx} {kn : Nat → Bool} (h : Good ws k c kn) (i k' : Nat) (val : ByteArray) : Good (ws ++ [(i, k', cntW ws i k' + 1, val)]) k c kn := by
  refine ⟨fun j x hx => ?_, fun j hj => h.2.1 j (by simp at hj; omega), fun b => ?_⟩
  · by_cases hj : j < ws.length
    · rw [List.getElem?_append_left hj] at hx
      exact h.1 j x hx
    · have hl : j = ws.length := by
        have := (List.getElem?_eq_some_iff.1 hx).1
        simp at this; omega
      subst hl
      obtain rfl : (i, k', cntW ws i k' + 1, val) = x := by simpa using hx
      rw [h.2.1 _ (Nat.le_refl _)]
      simp only [Bool.false_eq_true, false_iff, not_and]
      intro e
      subst e
      have := (h.2.2 i).2
      omega
  · have := h.2.2 b
    have e := cntW_nonneg [(i, k', cntW ws i k' + 1, val)] b k
    rw [cntW_append]; omega

/-- Who writes knows of it. -/
theorem Good.put {ws : List Wr} {k i : Nat} {c : Ctx} {kn kn' : Nat → Bool} {val : ByteArray} (hS : SeqOk ws) (h : Good ws k c kn) (hi : c i = cntW ws i k)
    (h1 : ∀ j, j < ws.length → kn' j = kn j) (h2 : kn' ws.length = true) (h3 : ∀ j, ws.length < j → kn' j = false) : Good (ws ++ [(i, k, cntW ws i k + 1, val)]) k (bump c i) kn' := by
  refine ⟨fun j x hx => ?_, fun j hj => h3 j (by simp at hj; omega), fun b => ?_⟩
  · by_cases hj : j < ws.length
    · rw [List.getElem?_append_left hj] at hx
      rw [h1 j hj, h.1 j x hx]
      refine and_congr_right fun e => ?_
      unfold bump
      by_cases q : x.1 = i
      · rw [if_pos q, q, hi]
        have hle := (hS.le hx).2
        rw [q, e] at hle
        constructor <;> intro <;> omega
      · rw [if_neg q]
    · have hl : j = ws.length := by
        have := (List.getElem?_eq_some_iff.1 hx).1
        simp at this; omega
      subst hl
      obtain rfl : (i, k, cntW ws i k + 1, val) = x := by simpa using hx
      rw [h2]
      simp [bump, hi]
  · have := h.2.2 b
    rw [cntW_append]
    unfold bump
    by_cases q : b = i
    · subst q; rw [if_pos rfl]; simp [cntW]; omega
    · rw [if_neg q]
      have e := cntW_nonneg [(i, k, cntW ws i k + 1, val)] b k
      omega
end Go.Proofs.YtldmcdeibiclkaaDoor
