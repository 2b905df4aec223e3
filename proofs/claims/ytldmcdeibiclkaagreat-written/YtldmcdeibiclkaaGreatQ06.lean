/-
  Contract: State.Put: the versions that were not seen, and the new one, sorted, in new memory.
-/
import Derived.Test.YtldmcdeibiclkaaGreatQ05
set_option linter.unusedVariables false
set_option linter.unusedSimpArgs false

namespace Go.Proofs.YtldmcdeibiclkaaGreat
open Go.RowKit

/-- One more of a replica's. -/
def bump (c : Ctx) (r : Nat) : Ctx := fun i => if i = r then c i + 1 else c i

set_option maxRecDepth 100000 in
set_option maxHeartbeats 2000000 in
theorem stPut_limit (c : Ctx) (sv : Value) (l : List Ver) (rep : Nat) (val : ByteArray) (seen : Ctx) (w : World) (h : VSl w sv l) (hr : ∀ v ∈ l, v.rep < 4) (hlen : l.length ≤ 100000) (hrep : rep < 4)
    (hn : 20 ≤ (unseenL l seen).length ∨ (unseenL l seen).length < 20 ∧ 1000000 ≤ bothC c seen rep) :
    Calls Tryz.prog 33 #[stV c sv, .int .i64 rep, .string val, ctxV seen] w fun e w' => e = .returned (.tuple #[stV (fun _ => 0) (.slice none 0 0), .int .i64 6]) ∧ Below w.heap.size w w' := by
  obtain ⟨ad, cap, rfl, hcap⟩ := h.len
  have H3 : Hid (∀ a b d, VSl (((w.alloc a).alloc b).alloc d) (.slice ad l.length cap) l) := fun a b d => ((World.ownsRow.alloc h a).alloc b).alloc d
  have HR : Hid _ := hr
  clear h hr
  generalize hun : unseenL l seen = U at *
  have HU : Hid _ := hun
  clear hun
  rcases hn with hn | ⟨hn, hm⟩
  · rcases lt4 hrep with rfl | rfl | rfl | rfl
    all_goals
      go_enter Tryz.func33, Tryz.ntmps33
      go_wp2_with (first
        | (go_at_call 59; refine (unseenBy_any c _ l seen _ (H3.out _ _ _) HR.out hlen).mono ?_; rintro e w1 ⟨v', rfl, hown, hb⟩; rw [HU.out] at hown; obtain ⟨ad', cap', hv'⟩ := ownsRow_len hown; subst hv'; simp at hb; obtain ⟨b0, b1, b2, f0, f1, f2⟩ := box3 hb; have HO : Hid _ := hown; have HB : Hid _ := hb; clear hown hb)
        | (go_at_call 60; refine (greater_any c seen _).mono ?_; rintro e w2 ⟨rfl, hb2⟩; have hb3 := HB.out.trans (hb2.mono (by have := HB.out.size; simp at this; omega)); obtain ⟨b0, b1, b2, f0, f1, f2⟩ := box3 hb3; have HB3 : Hid _ := hb3; have HB2 : Hid _ := hb2; have z2 : w.heap.size + 1 + 1 < w2.heap.size := (by have := hb3.size; simp at this; omega); clear hb3 hb2))
      refine bodyPost_ret (v := .tuple #[stV (fun _ => 0) (.slice none 0 0), .int .i64 6]) ?_ rfl ⟨rfl, ?_⟩
      · simp [results, Tryz.results33, go_sem, b2, z2]
      · have base : Below w.heap.size w w2 := ((((Below.refl _ _).alloc (Nat.le_refl _) _).alloc (by simp) _).alloc (by simp; omega) _).trans (HB3.out.mono (by omega))
        repeat' (with_reducible (first | exact base | refine Below.setCell ?_ ?_ _ | refine Below.alloc ?_ ?_ _))
        all_goals (first | omega | (simp; omega))
  · rcases lt4 hrep with rfl | rfl | rfl | rfl
    all_goals
      go_enter Tryz.func33, Tryz.ntmps33
      go_wp2_with (first
        | (go_at_call 59; refine (unseenBy_any c _ l seen _ (H3.out _ _ _) HR.out hlen).mono ?_; rintro e w1 ⟨v', rfl, hown, hb⟩; rw [HU.out] at hown; obtain ⟨ad', cap', hv'⟩ := ownsRow_len hown; subst hv'; simp at hb; obtain ⟨b0, b1, b2, f0, f1, f2⟩ := box3 hb; have HO : Hid _ := hown; have HB : Hid _ := hb; clear hown hb)
        | (go_at_call 60; refine (greater_any c seen _).mono ?_; rintro e w2 ⟨rfl, hb2⟩; have hb3 := HB.out.trans (hb2.mono (by have := HB.out.size; simp at this; omega)); obtain ⟨b0, b1, b2, f0, f1, f2⟩ := box3 hb3; have HB3 : Hid _ := hb3; have HB2 : Hid _ := hb2; have z2 : w.heap.size + 1 + 1 < w2.heap.size := (by have := hb3.size; simp at this; omega); clear hb3 hb2))
      refine bodyPost_ret (v := .tuple #[stV (fun _ => 0) (.slice none 0 0), .int .i64 6]) ?_ rfl ⟨rfl, ?_⟩
      · simp [results, Tryz.results33, go_sem, b2, z2]
      · have base : Below w.heap.size w w2 := ((((Below.refl _ _).alloc (Nat.le_refl _) _).alloc (by simp) _).alloc (by simp; omega) _).trans (HB3.out.mono (by omega))
        repeat' (with_reducible (first | exact base | refine Below.setCell ?_ ?_ _ | refine Below.alloc ?_ ?_ _))
        all_goals (first | omega | (simp; omega))
end Go.Proofs.YtldmcdeibiclkaaGreat
