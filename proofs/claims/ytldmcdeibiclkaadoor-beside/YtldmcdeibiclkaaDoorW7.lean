/-
  Contracts: State.Delete and State.Put: what is left of a key's state, in new memory.
-/
import Derived.Test.YtldmcdeibiclkaaDoorW3
import Derived.Test.YtldmcdeibiclkaaDoorW6
set_option linter.unusedVariables false
set_option linter.unusedSimpArgs false
namespace Go.Proofs.YtldmcdeibiclkaaDoor
open Go.RowKit

theorem box3 {w w1 : World} {A B C : Array Value} {ta tb tc : TypeId} (hb : Below (w.heap.size + 3) (((w.alloc (.cells A ta)).alloc (.cells B tb)).alloc (.cells C tc)) w1) :
    (∀ o, w1.cell? ⟨w.heap.size, o, none⟩ = A[o]?) ∧ (∀ o, w1.cell? ⟨w.heap.size + 1, o, none⟩ = B[o]?) ∧ (∀ o, w1.cell? ⟨w.heap.size + 1 + 1, o, none⟩ = C[o]?) ∧ (∀ o, w1.frozen? ⟨w.heap.size, o, none⟩ = false) ∧ (∀ o, w1.frozen? ⟨w.heap.size + 1, o, none⟩ = false) ∧ (∀ o, w1.frozen? ⟨w.heap.size + 1 + 1, o, none⟩ = false) := by
  have e0 : w1.heap[w.heap.size]? = some (.cells A ta) := by
    rw [hb.block _ (by omega), Below.heap_alloc _ _ _ (by simp; omega), Below.heap_alloc _ _ _ (by simp)]
    exact heap_alloc_new w _
  have e1 : w1.heap[w.heap.size + 1]? = some (.cells B tb) := by
    rw [hb.block _ (by omega), Below.heap_alloc _ _ _ (by simp)]
    have := heap_alloc_new (w.alloc (.cells A ta)) (.cells B tb)
    simpa using this
  have e2 : w1.heap[w.heap.size + 1 + 1]? = some (.cells C tc) := by
    rw [hb.block _ (by omega)]
    have := heap_alloc_new ((w.alloc (.cells A ta)).alloc (.cells B tb)) (.cells C tc)
    simpa using this
  refine ⟨fun o => ?_, fun o => ?_, fun o => ?_, fun o => ?_, fun o => ?_, fun o => ?_⟩
  · simp [World.cell?, e0]
  · simp [World.cell?, e1]
  · simp [World.cell?, e2]
  · simp [World.frozen?, e0]
  · simp [World.frozen?, e1]
  · simp [World.frozen?, e2]

theorem VSl.len {w : World} {sv : Value} {l : List Ver} (h : VSl w sv l) : ∃ ad cap, sv = .slice ad l.length cap ∧ (cap : Int) ≤ 9223372036854775807 := by
  rcases h.2 with ⟨h1, h2⟩ | ⟨g, cap, cur, hv, _, _, _, h3, _⟩
  · exact ⟨_, _, by rw [h1, h2], by simp⟩
  · exact ⟨_, _, hv, by unfold maxLen at h3; omega⟩
theorem ownsRow_len {w : World} {B : Nat} {sv : Value} {l : List Ver} (h : w.ownsRow B 91 3 sv l.length (flatV l)) : ∃ ad cap, sv = .slice ad l.length cap := by
  rcases h.2 with ⟨h1, h2⟩ | ⟨g, cap, cur, hv, _⟩
  · exact ⟨_, _, by rw [h1, h2]⟩
  · exact ⟨_, _, hv⟩

/-- A state's five cells, as a value. -/
abbrev stV (c : Ctx) (sv : Value) : Value := .agg #[.int .i64 (c 0), .int .i64 (c 1), .int .i64 (c 2), .int .i64 (c 3), sv]

set_option maxRecDepth 100000 in
set_option maxHeartbeats 1000000 in
theorem stDelete_none (c : Ctx) (sv : Value) (l : List Ver) (seen : Ctx) (w : World) (h : VSl w sv l) (hr : ∀ v ∈ l, v.rep < 4) (hlen : l.length ≤ 100000) (hn : (unseenL l seen).length = l.length) :
    Calls Tryd.prog 24 #[stV c sv, ctxV seen] w fun e w' => e = .returned (.tuple #[stV (fun _ => 0) (.slice none 0 0), .int .i64 5]) ∧ Below w.heap.size w w' := by
  obtain ⟨ad, cap, rfl, hcap⟩ := h.len
  have H3 : Hid (∀ a b d, VSl (((w.alloc a).alloc b).alloc d) (.slice ad l.length cap) l) := fun a b d => ((World.ownsRow.alloc h a).alloc b).alloc d
  have HN : Hid _ := hn
  have HR : Hid _ := hr
  clear h hr hn
  go_enter Tryd.func24, Tryd.ntmps24
  go_wp2_with (go_at_call 27; refine (unseenBy_any c _ l seen _ (H3.out _ _ _) HR.out hlen).mono ?_; rintro e w1 ⟨v', rfl, hown, hb⟩; obtain ⟨ad', cap', hv'⟩ := ownsRow_len hown; rw [HN.out] at hv'; subst hv'; simp at hb; obtain ⟨b0, b1, b2, f0, f1, f2⟩ := box3 hb; have HO : Hid _ := hown; have HB : Hid _ := hb; clear hown hb)
  refine bodyPost_ret (v := .tuple #[stV (fun _ => 0) (.slice none 0 0), .int .i64 5]) ?_ rfl ⟨rfl, ?_⟩
  · simp [results, Tryd.results24, go_sem, b2]
  · exact ((((((((Below.refl _ _).alloc (Nat.le_refl _) _).alloc (by simp) _).alloc (by simp; omega) _).trans (HB.out.mono (by omega))).setCell (by simp; omega) _).setCell (by simp; omega) _).setCell (by simp; omega) _ |>.setCell (by simp; omega) _).setCell (by simp; omega) _

set_option maxRecDepth 100000 in
set_option maxHeartbeats 1000000 in
theorem stDelete_some (c : Ctx) (sv : Value) (l : List Ver) (seen : Ctx) (w : World) (h : VSl w sv l) (hr : ∀ v ∈ l, v.rep < 4) (hlen : l.length ≤ 100000) (hn : (unseenL l seen).length < l.length) :
    Calls Tryd.prog 24 #[stV c sv, ctxV seen] w fun e w' => ∃ v', e = .returned (.tuple #[stV (bothC c seen) v', .int .i64 0]) ∧ w'.ownsRow w.heap.size 91 3 v' (unseenL l seen).length (flatV (unseenL l seen)) ∧ Below w.heap.size w w' := by
  obtain ⟨ad, cap, rfl, hcap⟩ := h.len
  have H3 : Hid (∀ a b d, VSl (((w.alloc a).alloc b).alloc d) (.slice ad l.length cap) l) := fun a b d => ((World.ownsRow.alloc h a).alloc b).alloc d
  have HR : Hid _ := hr
  clear h hr
  have hne : (((unseenL l seen).length : Int) == (l.length : Int)) = false := by simp; omega
  go_enter Tryd.func24, Tryd.ntmps24
  go_wp2_with (first
    | (go_at_call 27; refine (unseenBy_any c _ l seen _ (H3.out _ _ _) HR.out hlen).mono ?_; rintro e w1 ⟨v', rfl, hown, hb⟩; obtain ⟨ad', cap', hv'⟩ := ownsRow_len hown; subst hv'; simp at hb; obtain ⟨b0, b1, b2, f0, f1, f2⟩ := box3 hb; have HO : Hid _ := hown; have HB : Hid _ := hb; clear hown hb)
    | (go_at_call 28; refine (greater_any c seen _).mono ?_; rintro e w2 ⟨rfl, hb2⟩; have hb3 := HB.out.trans (hb2.mono (by have := HB.out.size; simp at this; omega)); obtain ⟨b0, b1, b2, f0, f1, f2⟩ := box3 hb3; have HB3 : Hid _ := hb3; have HB2 : Hid _ := hb2; clear hb3 hb2))
  refine bodyPost_ret (v := .tuple #[stV (bothC c seen) (.slice ad' (unseenL l seen).length cap'), .int .i64 0]) ?_ rfl ⟨_, rfl, ?_, ?_⟩
  · simp [results, Tryd.results24, go_sem, b2]
  · have h1 := ownsRow_base HO.out (show w.heap.size + 3 ≤ _ by simp)
    have h2 := ownsRow_below h1 HB2.out (Nat.le_refl _)
    exact ownsRow_base (ownsRow_setCell_below (ownsRow_setCell_below (ownsRow_setCell_below (ownsRow_setCell_below (ownsRow_setCell_below h2 (by simp) _) (by simp) _) (by simp) _) (by simp) _) (by simp) _) (by omega)
  · exact ((((((((Below.refl _ _).alloc (Nat.le_refl _) _).alloc (by simp) _).alloc (by simp; omega) _).trans (HB3.out.mono (by omega))).setCell (by simp; omega) _).setCell (by simp; omega) _).setCell (by simp; omega) _ |>.setCell (by simp; omega) _).setCell (by simp; omega) _

end Go.Proofs.YtldmcdeibiclkaaDoor
