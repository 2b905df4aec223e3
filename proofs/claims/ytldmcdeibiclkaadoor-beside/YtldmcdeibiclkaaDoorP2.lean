/-
  The plain mathematics of the statement Beside: the versions that are expected stand in their order, and a row in that order that holds the same versions is the same row.
-/
import Derived.Test.YtldmcdeibiclkaaDoorP1
set_option linter.unusedVariables false
set_option linter.unusedSimpArgs false
namespace Go.Proofs.YtldmcdeibiclkaaDoor

/-- Of one replica's writes to one key a later one has a greater number. -/
def NumOk (ws : List Wr) : Prop := ∀ (i j : Nat) (x y : Wr), i < j → ws[i]? = some x → ws[j]? = some y → x.1 = y.1 → x.2.1 = y.2.1 → x.2.2.1 < y.2.2.1

theorem pairwise_weaken {α : Type} {R S : α → α → Prop} (h : ∀ a b, R a b → S a b) : ∀ {l : List α}, l.Pairwise R → l.Pairwise S
  | [], _ => List.Pairwise.nil
  | _ :: _, hl => List.pairwise_cons.2 ⟨fun b hb => h _ _ ((List.pairwise_cons.1 hl).1 b hb), pairwise_weaken h (List.pairwise_cons.1 hl).2⟩

theorem mem_ofBy {ws : List Wr} {kn go : Nat → Bool} {k b m : Nat} {v : Ver} (h : v ∈ ofBy ws kn go k b m) : ∃ j x, j < m ∧ ws[j]? = some x ∧ x.2.1 = k ∧ x.1 = b ∧ kn j = true ∧ go j = false ∧ v = (b, x.2.2.1, x.2.2.2) := by
  simp only [ofBy, List.mem_flatMap, List.mem_range] at h
  obtain ⟨j, hj, hv⟩ := h
  cases hx : ws[j]? with
  | none => simp [hx] at hv
  | some x =>
    simp only [hx] at hv
    by_cases hc : x.2.1 = k ∧ x.1 = b ∧ kn j = true ∧ go j = false
    · rw [if_pos hc] at hv
      exact ⟨j, x, hj, hx, hc.1, hc.2.1, hc.2.2.1, hc.2.2.2, by simpa using hv⟩
    · rw [if_neg hc] at hv; cases hv

theorem ofBy_sorted {ws : List Wr} (hN : NumOk ws) (kn go : Nat → Bool) (k b : Nat) : ∀ m, (ofBy ws kn go k b m).Pairwise fun u v => u.1 = v.1 ∧ u.2.1 < v.2.1
  | 0 => by simp [ofBy]
  | m + 1 => by
    have ih := ofBy_sorted hN kn go k b m
    cases hx : ws[m]? with
    | none =>
      have : ofBy ws kn go k b (m + 1) = ofBy ws kn go k b m := by simp [ofBy, List.range_succ, List.flatMap_append, hx]
      rw [this]; exact ih
    | some x =>
      by_cases h : x.2.1 = k ∧ x.1 = b ∧ kn m = true ∧ go m = false
      · rw [ofBy_hit hx h.1 h.2.1 h.2.2.1 h.2.2.2, List.pairwise_append]
        refine ⟨ih, List.pairwise_singleton _ _, fun u hu v hv => ?_⟩
        obtain ⟨j, y, hj, hy, y1, y2, _, _, rfl⟩ := mem_ofBy hu
        obtain rfl : v = (b, x.2.2.1, x.2.2.2) := by simpa using hv
        exact ⟨rfl, hN j m y x hj hy hx (by rw [y2, h.2.1]) (by rw [y1, h.1])⟩
      · rw [ofBy_miss hx h]; exact ih

theorem ltV_iff (a b : Ver) : ltV a b = true ↔ a.1 < b.1 ∨ a.1 = b.1 ∧ a.2.1 < b.2.1 := by simp [ltV]

/-- What is expected stands by rising replicas, then numbers, no dot twice. -/
theorem expected_sorted {ws : List Wr} (hN : NumOk ws) (kn go : Nat → Bool) (k : Nat) : (expected ws kn go k).Pairwise fun u v => ltV u v = true := by
  unfold expected
  rw [List.pairwise_flatMap]
  refine ⟨fun b _ => pairwise_weaken (fun _ _ h => (ltV_iff _ _).2 (Or.inr h)) (ofBy_sorted hN kn go k b ws.length), ?_⟩
  have hr : (List.range 4).Pairwise (· < ·) := List.pairwise_lt_range
  refine pairwise_weaken (fun b c hbc u hu v hv => ?_) hr
  obtain ⟨_, _, _, _, _, _, _, _, rfl⟩ := mem_ofBy hu
  obtain ⟨_, _, _, _, _, _, _, _, rfl⟩ := mem_ofBy hv
  exact (ltV_iff _ _).2 (Or.inl hbc)

/-- A row in order that holds what a row in strict order holds is that row. -/
theorem sorted_eq : ∀ (a b : List Ver), a.Perm b → a.Pairwise (fun u v => ltV v u = false) → b.Pairwise (fun u v => ltV u v = true) → a = b
  | [], b, hp, _, _ => by rw [List.nil_perm.1 hp]
  | u :: a, [], hp, _, _ => by simpa using hp.length_eq
  | u :: a, v :: b, hp, ha, hb => by
    have hu : u ∈ v :: b := hp.subset (by simp)
    have hv : v ∈ u :: a := hp.symm.subset (by simp)
    have huv : u = v := by
      rcases List.mem_cons.1 hu with h | h
      · exact h
      · rcases List.mem_cons.1 hv with h' | h'
        · exact h'.symm
        · have h1 := (List.pairwise_cons.1 hb).1 u h
          have h2 := (List.pairwise_cons.1 ha).1 v h'
          rw [h1] at h2; cases h2
    subst huv
    rw [sorted_eq a b (List.Perm.cons_inv hp) (List.pairwise_cons.1 ha).2 (List.pairwise_cons.1 hb).2]
end Go.Proofs.YtldmcdeibiclkaaDoor
