/-
  The plain mathematics of the statement Beside: the versions that a context has not seen, among those that are expected.
-/
import Derived.Test.YtldmcdeibiclkaaDoorN3
set_option linter.unusedVariables false
set_option linter.unusedSimpArgs false
namespace Go.Proofs.YtldmcdeibiclkaaDoor

theorem filter_flatMap' {α β : Type} (p : β → Bool) (f : α → List β) : ∀ l : List α, (l.flatMap f).filter p = l.flatMap fun a => (f a).filter p
  | [] => rfl
  | a :: l => by simp only [List.flatMap_cons, List.filter_append, filter_flatMap' p f l]

theorem flatMap_congr' {α β : Type} {f g : α → List β} : ∀ l : List α, (∀ a ∈ l, f a = g a) → l.flatMap f = l.flatMap g
  | [], _ => rfl
  | a :: l, h => by
    simp only [List.flatMap_cons]
    rw [h a (by simp), flatMap_congr' l fun b hb => h b (by simp [hb])]

/-- A context that has seen, of the writes to a key, just those of a set: what it has not seen of the versions that are expected are those that are expected where this set is gone too. -/
theorem unseen_expected {ws : List Wr} {kn go m : Nat → Bool} {c : Ctx} {k : Nat} (hm : ∀ (j : Nat) (x : Wr), ws[j]? = some x → x.2.1 = k → (m j = true ↔ x.2.2.1 ≤ c x.1)) :
    unseenL (expected ws kn go k) c = expected ws kn (fun j => go j || m j) k := by
  unfold unseenL expected
  rw [filter_flatMap']
  refine flatMap_congr' _ fun b _ => ?_
  unfold ofBy
  rw [filter_flatMap']
  refine flatMap_congr' _ fun j _ => ?_
  cases hx : ws[j]? with
  | none => rfl
  | some x =>
    simp only
    by_cases h1 : x.2.1 = k
    · by_cases h2 : x.1 = b
      · have h := hm j x hx h1
        subst h2
        by_cases h3 : kn j = true
        · by_cases h4 : go j = true
          · simp [h4]
          · by_cases h5 : m j = true
            · have h6 := h.1 h5
              simp [h1, h3, h4, h5, seenB, h6]
            · have h6 : ¬ x.2.2.1 ≤ c x.1 := fun e => h5 (h.2 e)
              simp [h1, h3, h4, h5, seenB]
              exact Int.not_le.1 h6
        · simp [h3]
      · simp [h2]
    · simp [h1]

/-- A write that is new: the one version more. -/
theorem expected_len {ws : List Wr} {kn go : Nat → Bool} {k : Nat} : (expected ws kn go k).length ≤ 4 * ws.length := by
  have h1 : ∀ b m, (ofBy ws kn go k b m).length ≤ m := by
    intro b m
    induction m with
    | zero => simp [ofBy]
    | succ m ih =>
      cases hx : ws[m]? with
      | none =>
        have : ofBy ws kn go k b (m + 1) = ofBy ws kn go k b m := by simp [ofBy, List.range_succ, List.flatMap_append, hx]
        rw [this]; omega
      | some x =>
        by_cases h : x.2.1 = k ∧ x.1 = b ∧ kn m = true ∧ go m = false
        · rw [ofBy_hit hx h.1 h.2.1 h.2.2.1 h.2.2.2, List.length_append]; simp; omega
        · rw [ofBy_miss hx h]; omega
  have := h1 0 ws.length
  have := h1 1 ws.length
  have := h1 2 ws.length
  have := h1 3 ws.length
  simp [expected, List.range_succ]
  omega
end Go.Proofs.YtldmcdeibiclkaaDoor
