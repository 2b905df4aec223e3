/-
  The plain mathematics of the statement Beside: what a write makes of the versions that are expected.
-/
import Derived.Test.YtldmcdeibiclkaaDoorP2
set_option linter.unusedVariables false
set_option linter.unusedSimpArgs false
namespace Go.Proofs.YtldmcdeibiclkaaDoor

theorem ofBy_congr {ws ws' : List Wr} {kn go kn' go' : Nat → Bool} {k b m : Nat} (hw : ∀ j, j < m → ws'[j]? = ws[j]?) (hk : ∀ j, j < m → ((kn' j = true ∧ go' j = false) ↔ (kn j = true ∧ go j = false))) : ofBy ws' kn' go' k b m = ofBy ws kn go k b m := by
  unfold ofBy
  refine flatMap_congr' _ fun j hj => ?_
  have hj' := List.mem_range.1 hj
  rw [hw j hj']
  cases ws[j]? with
  | none => rfl
  | some x =>
    simp only
    have h := hk j hj'
    by_cases h1 : x.2.1 = k ∧ x.1 = b
    · by_cases h2 : kn j = true ∧ go j = false
      · rw [if_pos ⟨h1.1, h1.2, (h.2 h2).1, (h.2 h2).2⟩, if_pos ⟨h1.1, h1.2, h2.1, h2.2⟩]
      · rw [if_neg (fun e => h2 (h.1 ⟨e.2.2.1, e.2.2.2⟩)), if_neg (fun e => h2 ⟨e.2.2.1, e.2.2.2⟩)]
    · rw [if_neg (fun e => h1 ⟨e.1, e.2.1⟩), if_neg (fun e => h1 ⟨e.1, e.2.1⟩)]

theorem four (f : Nat → List Ver) : (List.range 4).flatMap f = f 0 ++ (f 1 ++ (f 2 ++ f 3)) := by
  simp [List.range_succ]

theorem perm_mid (a r : List Ver) (x : Ver) : ((a ++ [x]) ++ r).Perm ((a ++ r) ++ [x]) := by
  rw [List.append_assoc, List.append_assoc]
  exact List.perm_append_comm.append_left _

/-- One write more: the versions that are expected are those from before, and the new one. -/
theorem expected_put {ws : List Wr} {kn go kn' go' : Nat → Bool} {k i : Nat} {n : Int} {val : ByteArray} (hi : i < 4)
    (hk : ∀ j, j < ws.length → ((kn' j = true ∧ go' j = false) ↔ (kn j = true ∧ go j = false))) (hk1 : kn' ws.length = true) (hg1 : go' ws.length = false) :
    (expected (ws ++ [(i, k, n, val)]) kn' go' k).Perm (expected ws kn go k ++ [(i, n, val)]) := by
  have hw : ∀ j, j < ws.length → (ws ++ [(i, k, n, val)])[j]? = ws[j]? := fun j hj => List.getElem?_append_left hj
  have hl : (ws ++ [(i, k, n, val)])[ws.length]? = some (i, k, n, val) := by simp
  have hof : ∀ b, ofBy (ws ++ [(i, k, n, val)]) kn' go' k b (ws ++ [(i, k, n, val)]).length = ofBy ws kn go k b ws.length ++ (if i = b then [(b, n, val)] else []) := by
    intro b
    rw [List.length_append, List.length_singleton]
    by_cases e : i = b
    · rw [ofBy_hit hl rfl e hk1 hg1, ofBy_congr hw hk, if_pos e]
    · rw [ofBy_miss hl (fun h => e h.2.1), ofBy_congr hw hk, if_neg e, List.append_nil]
  unfold expected
  rw [four, four, hof, hof, hof, hof]
  generalize ofBy ws kn go k 0 ws.length = f0
  generalize ofBy ws kn go k 1 ws.length = f1
  generalize ofBy ws kn go k 2 ws.length = f2
  generalize ofBy ws kn go k 3 ws.length = f3
  rcases lt4 hi with rfl | rfl | rfl | rfl
  · rw [if_pos rfl, if_neg (by omega), if_neg (by omega), if_neg (by omega)]
    simp only [List.append_nil]
    exact perm_mid _ _ _
  · rw [if_neg (by omega), if_pos rfl, if_neg (by omega), if_neg (by omega)]
    simp only [List.append_nil]
    rw [List.append_assoc f0]
    exact (perm_mid _ _ _).append_left _
  · rw [if_neg (by omega), if_neg (by omega), if_pos rfl, if_neg (by omega)]
    simp only [List.append_nil]
    rw [List.append_assoc f0, List.append_assoc f1]
    exact ((perm_mid _ _ _).append_left _).append_left _
  · rw [if_neg (by omega), if_neg (by omega), if_neg (by omega), if_pos rfl]
    simp only [List.append_nil, List.append_assoc]
    exact List.Perm.refl _

/-- Another key's writes do not matter. -/
theorem expected_other {ws : List Wr} {kn go kn' go' : Nat → Bool} {k k' i : Nat} {n : Int} {val : ByteArray} (hne : k' ≠ k)
    (hk : ∀ j, j < ws.length → ((kn' j = true ∧ go' j = false) ↔ (kn j = true ∧ go j = false))) :
    expected (ws ++ [(i, k', n, val)]) kn' go' k = expected ws kn go k := by
  have hw : ∀ j, j < ws.length → (ws ++ [(i, k', n, val)])[j]? = ws[j]? := fun j hj => List.getElem?_append_left hj
  have hl : (ws ++ [(i, k', n, val)])[ws.length]? = some (i, k', n, val) := by simp
  unfold expected
  refine flatMap_congr' _ fun b _ => ?_
  rw [List.length_append, List.length_singleton, ofBy_miss hl (fun h => hne h.1), ofBy_congr hw hk]

/-- What Put leaves is what is expected then. -/
theorem put_expected {ws : List Wr} {kn go m kn' go' : Nat → Bool} {k i : Nat} {n : Int} {val : ByteArray} {c : Ctx} {l l' : List Ver} (hi : i < 4) (hl : l = expected ws kn go k)
    (hm : ∀ (j : Nat) (x : Wr), ws[j]? = some x → x.2.1 = k → (m j = true ↔ x.2.2.1 ≤ c x.1))
    (hp : l'.Perm (unseenL l c ++ [(i, n, val)])) (hs : l'.Pairwise fun a b => ltV b a = false) (hN : NumOk (ws ++ [(i, k, n, val)]))
    (hkn : ∀ j, j < ws.length → kn' j = (kn j || m j)) (hgo : ∀ j, j < ws.length → go' j = (go j || m j)) (hk1 : kn' ws.length = true) (hg1 : go' ws.length = false) :
    l' = expected (ws ++ [(i, k, n, val)]) kn' go' k := by
  rw [hl, unseen_expected hm] at hp
  refine sorted_eq _ _ (hp.trans (expected_put (kn := kn) (go := fun j => go j || m j) hi (fun j hj => ?_) hk1 hg1).symm) hs (expected_sorted hN _ _ _)
  rw [hkn j hj, hgo j hj]
  cases kn j <;> cases go j <;> cases m j <;> simp

/-- What Delete leaves is what is expected then. -/
theorem delete_expected {ws : List Wr} {kn go m kn' go' : Nat → Bool} {k : Nat} {c : Ctx}
    (hm : ∀ (j : Nat) (x : Wr), ws[j]? = some x → x.2.1 = k → (m j = true ↔ x.2.2.1 ≤ c x.1))
    (hkn : ∀ j, j < ws.length → kn' j = (kn j || m j)) (hgo : ∀ j, j < ws.length → go' j = (go j || m j)) :
    unseenL (expected ws kn go k) c = expected ws kn' go' k := by
  rw [unseen_expected hm]
  unfold expected
  refine flatMap_congr' _ fun b _ => (ofBy_congr (fun _ _ => rfl) fun j hj => ?_).symm
  rw [hkn j hj, hgo j hj]
  cases kn j <;> cases go j <;> cases m j <;> simp
end Go.Proofs.YtldmcdeibiclkaaDoor
