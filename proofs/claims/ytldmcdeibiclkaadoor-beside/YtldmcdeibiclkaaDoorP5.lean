/-
  The plain mathematics of the statement Beside: how many versions are expected.
-/
import Derived.Test.YtldmcdeibiclkaaDoorP4
set_option linter.unusedVariables false
set_option linter.unusedSimpArgs false
namespace Go.Proofs.YtldmcdeibiclkaaDoor

/-- Is there one below m? -/
def anyTo (f : Nat → Bool) : Nat → Bool
  | 0 => false
  | j + 1 => anyTo f j || f j
/-- How many are there below m? -/
def cntTo (f : Nat → Bool) : Nat → Nat
  | 0 => 0
  | j + 1 => cntTo f j + (if f j then 1 else 0)

theorem cntTo_congr {f g : Nat → Bool} : ∀ {m : Nat}, (∀ j, j < m → f j = g j) → cntTo f m = cntTo g m
  | 0, _ => rfl
  | m + 1, h => by rw [cntTo, cntTo, cntTo_congr (fun j hj => h j (by omega)), h m (by omega)]
theorem cntTo_any {f m : Nat → Bool} : ∀ {n : Nat}, (anyTo (fun j => f j && m j) n = false → cntTo (fun j => f j && !m j) n = cntTo f n) ∧ (anyTo (fun j => f j && m j) n = true → cntTo (fun j => f j && !m j) n < cntTo f n) ∧ cntTo (fun j => f j && !m j) n ≤ cntTo f n
  | 0 => ⟨fun _ => rfl, fun h => by simp [anyTo] at h, Nat.le_refl _⟩
  | n + 1 => by
    obtain ⟨h1, h2, h3⟩ := cntTo_any (f := f) (m := m) (n := n)
    simp only [anyTo, cntTo]
    generalize anyTo (fun j => f j && m j) n = A at *
    generalize cntTo (fun j => f j && !m j) n = x at *
    generalize cntTo f n = y at *
    rcases Bool.eq_false_or_eq_true (f n) with hf | hf <;> rcases Bool.eq_false_or_eq_true (m n) with hm | hm <;> simp only [hf, hm] <;> cases A <;> simp at * <;> omega

theorem ofBy_count {ws : List Wr} {kn go : Nat → Bool} {k : Nat} (hk : ∀ (j : Nat) (x : Wr), ws[j]? = some x → kn j = true → x.2.1 = k ∧ x.1 < 4) : ∀ m, m ≤ ws.length →
    (ofBy ws kn go k 0 m).length + (ofBy ws kn go k 1 m).length + (ofBy ws kn go k 2 m).length + (ofBy ws kn go k 3 m).length = cntTo (fun j => kn j && !go j) m
  | 0, _ => by simp [ofBy, cntTo]
  | m + 1, hm => by
    have ih := ofBy_count (go := go) hk m (by omega)
    obtain ⟨x, hx⟩ : ∃ x, ws[m]? = some x := ⟨ws[m], List.getElem?_eq_getElem (by omega)⟩
    rw [cntTo]
    by_cases h : kn m = true ∧ go m = false
    · obtain ⟨h1, h2⟩ := hk m x hx h.1
      have hb : ∀ b, (ofBy ws kn go k b (m + 1)).length = (ofBy ws kn go k b m).length + (if x.1 = b then 1 else 0) := fun b => by
        by_cases e : x.1 = b
        · rw [ofBy_hit hx h1 e h.1 h.2, if_pos e]; simp
        · rw [ofBy_miss hx (fun q => e q.2.1), if_neg e]; rfl
      rw [hb, hb, hb, hb, h.1, h.2]
      simp only [Bool.not_false, Bool.and_self, if_true]
      rcases lt4 h2 with e | e | e | e <;> rw [e] <;> simp <;> omega
    · have hb : ∀ b, ofBy ws kn go k b (m + 1) = ofBy ws kn go k b m := fun b => ofBy_miss hx (fun q => h q.2.2)
      rw [hb, hb, hb, hb, ih]
      have hf : (kn m && !go m) = false := by
        cases e1 : kn m <;> cases e2 : go m <;> simp_all
      rw [hf]; simp

theorem expected_count {ws : List Wr} {kn go : Nat → Bool} {k : Nat} (hk : ∀ (j : Nat) (x : Wr), ws[j]? = some x → kn j = true → x.2.1 = k ∧ x.1 < 4) : (expected ws kn go k).length = cntTo (fun j => kn j && !go j) ws.length := by
  rw [← ofBy_count hk _ (Nat.le_refl _), expected, four]
  simp only [List.length_append]
  omega

/-- How many a context has not seen of what is expected. -/
theorem unseen_count {ws : List Wr} {kn go m : Nat → Bool} {k : Nat} {c : Ctx} (hk : ∀ (j : Nat) (x : Wr), ws[j]? = some x → kn j = true → x.2.1 = k ∧ x.1 < 4) (hm : Good ws k c m) :
    (unseenL (expected ws kn go k) c).length = cntTo (fun j => (kn j && !go j) && !m j) ws.length := by
  rw [unseen_expected (m := m) (fun j x hx hxk => by rw [hm.1 j x hx]; exact ⟨fun h => h.2, fun h => ⟨hxk, h⟩⟩), expected_count hk]
  refine cntTo_congr fun j _ => ?_
  cases kn j <;> cases go j <;> cases m j <;> rfl

theorem unseen_none {ws : List Wr} {kn go m : Nat → Bool} {k : Nat} {c : Ctx} (hk : ∀ (j : Nat) (x : Wr), ws[j]? = some x → kn j = true → x.2.1 = k ∧ x.1 < 4) (hm : Good ws k c m) (h : anyTo (fun j => (kn j && !go j) && m j) ws.length = false) :
    (unseenL (expected ws kn go k) c).length = (expected ws kn go k).length := by
  rw [unseen_count hk hm, expected_count hk]
  exact cntTo_any.1 h
theorem unseen_some {ws : List Wr} {kn go m : Nat → Bool} {k : Nat} {c : Ctx} (hk : ∀ (j : Nat) (x : Wr), ws[j]? = some x → kn j = true → x.2.1 = k ∧ x.1 < 4) (hm : Good ws k c m) (h : anyTo (fun j => (kn j && !go j) && m j) ws.length = true) :
    (unseenL (expected ws kn go k) c).length < (expected ws kn go k).length := by
  rw [unseen_count hk hm, expected_count hk]
  exact cntTo_any.2.1 h

/-- A context that has seen just the writes of a set is sound, where there are few writes. -/
theorem Good.sound {ws : List Wr} {k : Nat} {c : Ctx} {m : Nat → Bool} (h : Good ws k c m) (hl : ws.length ≤ 80) : soundB c = true := by
  have hb : ∀ b, okN (c b) = true := fun b => by
    have h1 := h.2.2 b
    have h2 := cntW_le ws b k
    simp only [okN, decide_eq_true_eq]
    omega
  simp [soundB, hb]
end Go.Proofs.YtldmcdeibiclkaaDoor
