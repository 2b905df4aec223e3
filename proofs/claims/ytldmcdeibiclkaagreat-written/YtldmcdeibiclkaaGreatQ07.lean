/-
  Contract: State.Put where it is not refused: the versions that were not seen, and the new one, sorted, in new memory.
  The map of a replica: what a lookup and an update of a map with texts as keys come to.
-/
import Derived.Test.YtldmcdeibiclkaaGreatQ06
import Derived.Test.YtldmcdeibiclkaaGreatQ05
import Derived.Laws.StructEq
set_option linter.unusedVariables false
set_option linter.unusedSimpArgs false

namespace Go.Proofs.YtldmcdeibiclkaaGreat
open Go.RowKit

theorem new3 (w : World) (X Y Z : Obj) : (((w.alloc X).alloc Y).alloc Z).heap[w.heap.size + 1 + 1]? = some Z := by
  simpa using heap_alloc_new ((w.alloc X).alloc Y) Z
theorem new1 (w : World) (X Y Z : Obj) : (((w.alloc X).alloc Y).alloc Z).heap[w.heap.size]? = some X := by
  rw [Below.heap_alloc _ _ _ (by simp; omega), Below.heap_alloc _ _ _ (by simp)]
  exact heap_alloc_new w X
theorem ownBlock_lt {w : World} {base : Nat} {e : TypeId} {size : Nat} {v : Value} {n : Nat} {xs : List Value} (h : w.ownsRow base e size v n xs) {g : Nat} (hg : v.ownBlock = some g) : base ≤ g ∧ g < w.heap.size := by
  rcases h.2 with ⟨h1, _⟩ | ⟨g', cap, cur, hv, hb, hh, _⟩
  · rw [h1] at hg; cases hg
  · rw [hv] at hg
    have : g' = g := by simpa [Value.ownBlock] using hg
    subst this
    exact ⟨hb, (Array.getElem?_eq_some_iff.1 hh).1⟩

/-- Behind an append and a sort of a row that lies from base on: a block below it, and one that is not the row. -/
theorem far2 {w w3 w4 : World} {v v3 : Value} {X : Obj} {b : Nat} (hb : w.heap[b]? = some X) (h3 : w.grownBy w3 v.ownBlock) (h4 : w3.grownBy w4 v3.ownBlock) (n3 : some b ≠ v.ownBlock) (n4 : some b ≠ v3.ownBlock) : w4.heap[b]? = some X := by
  have hlt := (Array.getElem?_eq_some_iff.1 hb).1
  rw [h4.block b (Nat.lt_of_lt_of_le hlt h3.size) n4, h3.block b hlt n3, hb]

theorem box3r {w w1 : World} {A B C : Array Value} {ta tb tc : TypeId} (hb : Below (w.heap.size + 3) (((w.alloc (.cells A ta)).alloc (.cells B tb)).alloc (.cells C tc)) w1) :
    w1.heap[w.heap.size + 1 + 1]? = some (.cells C tc) := by
  rw [hb.block _ (by omega)]
  exact new3 w _ _ _
theorem cells_of {w : World} {b : Nat} {A : Array Value} {t : TypeId} (h : w.heap[b]? = some (.cells A t)) : (∀ o, w.cell? ⟨b, o, none⟩ = A[o]?) ∧ (∀ o, w.frozen? ⟨b, o, none⟩ = false) :=
  ⟨fun o => by simp [World.cell?, h], fun o => by simp [World.frozen?, h]⟩

set_option maxRecDepth 100000 in
set_option maxHeartbeats 2000000 in
theorem stPut_ok0 (c : Ctx) (sv : Value) (l : List Ver) (val : ByteArray) (seen : Ctx) (w : World) (h : VSl w sv l) (hr : ∀ v ∈ l, v.rep < 4) (hlen : l.length ≤ 100000)
    (hn : (unseenL l seen).length < 20) (h0 : 0 ≤ bothC c seen 0) (h1 : bothC c seen 0 < 1000000) :
    Calls Tryz.prog 33 #[stV c sv, .int .i64 (0 : Nat), .string val, ctxV seen] w fun e w' => ∃ v' l', e = .returned (.tuple #[stV (bump (bothC c seen) 0) v', .int .i64 0]) ∧ l'.Perm (unseenL l seen ++ [(0, bothC c seen 0 + 1, val)]) ∧ l'.Pairwise (fun a b => ltV b a = false) ∧ w'.ownsRow w.heap.size 117 3 v' l'.length (flatV l') ∧ Below w.heap.size w w' := by
  obtain ⟨ad, cap, rfl, hcap⟩ := h.len
  have H3 : Hid (∀ a b d, VSl (((w.alloc a).alloc b).alloc d) (.slice ad l.length cap) l) := fun a b d => ((World.ownsRow.alloc h a).alloc b).alloc d
  have HR : Hid _ := hr
  clear h hr
  generalize hun : unseenL l seen = U at *
  have HU : Hid _ := hun
  clear hun
  go_enter Tryz.func33, Tryz.ntmps33
  obtain ⟨i0, hi0, hz0, hz1, hz2⟩ := info_parts Tryz.infoVer
  go_wp2_with (first
    | (go_at_call 59; refine (unseenBy_any c _ l seen _ (H3.out _ _ _) HR.out hlen).mono ?_; rintro e w1 ⟨v', rfl, hown, hb⟩; rw [HU.out] at hown; obtain ⟨ad', cap', hv'⟩ := ownsRow_len hown; subst hv'; simp at hb; obtain ⟨b0, b1, b2, f0, f1, f2⟩ := box3 hb; have HO : Hid _ := ownsRow_base hown (show w.heap.size + 3 ≤ _ by simp); have HB : Hid _ := hb; clear hown hb)
    | (go_at_call 60; refine (greater_any c seen _).mono ?_; rintro e w2 ⟨rfl, hb2⟩; have hb3 := HB.out.trans (hb2.mono (by have := HB.out.size; simp at this; omega)); obtain ⟨b0, b1, b2, f0, f1, f2⟩ := box3 hb3; have HB3 : Hid _ := hb3; have HO2 : Hid (w2.ownsRow (w.heap.size + 3) 117 3 (.slice ad' U.length cap') U.length (flatV U)) := ownsRow_below HO.out hb2 (Nat.le_refl _); have z2 : w.heap.size + 1 + 1 < w2.heap.size := (by have := hb3.size; simp at this; omega); clear hb3 hb2)
    | (at_builtin; refine wpList_append_lies _ rfl _ _ _ rfl (w.heap.size + 3) 117 i0 _ 3 32 Tryz.underlying72 hi0 hz0 hz1 hz2 rfl (by omega) (.slice ad' U.length cap') _ _ rfl (((HO2.out.alloc _).alloc _).alloc _) ⟨w2.heap.size + 1 + 1, 0, none⟩ 1 1 [.int .i64 0, .int .i64 (bothC c seen 0 + 1), .string val] rfl rfl (World.news_of_block (cs := #[.int .i64 0, .int .i64 (bothC c seen 0 + 1), .string val]) (t := 117) (fr := (0, 0)) (new3 w2 _ _ _)) (by simp [Value.oneCell']) (by omega) (by unfold maxLen; omega) (by omega) (by simp; omega) (w2.heap.size + 1 + 1 + 1) (by simp) ?_; intro g capn w3 hown3 hgrow3 hat3 hlt3; have HW3 : Hid _ := hown3; have HG3 : Hid _ := hgrow3; have HA3 : Hid _ := hat3; clear hown3 hgrow3 hat3)
    | (go_at_call 61; refine (sortV_own (w.heap.size + 3) _ (U ++ [(0, bothC c seen 0 + 1, val)]) _ (by have := HW3.out; rw [List.length_append, flatV_append]; exact this) (by simp) (by simp; omega)).mono ?_; rintro e w4 ⟨rfl, l', hperm, hsort, hown4, hgrow4⟩; have hnr : ∀ b, b ≤ w2.heap.size → (b < w.heap.size + 3 ∨ b = w2.heap.size) → some b ≠ (Value.slice ad' U.length cap').ownBlock ∧ some b ≠ some g := (fun b hb hb' => by
        have key : ∀ q, (Value.slice ad' U.length cap').ownBlock = some q → b ≠ q := fun q hq => by have := ownBlock_lt HO2.out hq; omega
        refine ⟨fun e => key b e.symm rfl, fun e => ?_⟩
        rcases HA3.out with h | h
        · exact key g h (by simpa using e)
        · have : b = g := by simpa using e
          omega); obtain ⟨c4, _⟩ := cells_of (far2 (new1 w2 _ _ _) HG3.out hgrow4 (hnr _ (Nat.le_refl _) (Or.inr rfl)).1 (hnr _ (Nat.le_refl _) (Or.inr rfl)).2); obtain ⟨r4, fr4⟩ := cells_of (far2 (w := ((w2.alloc _).alloc _).alloc _) (b := w.heap.size + 1 + 1) (by rw [Below.heap_alloc _ _ _ (by simp; omega), Below.heap_alloc _ _ _ (by simp; omega), Below.heap_alloc _ _ _ z2]; exact box3r HB3.out) HG3.out hgrow4 (hnr _ (by omega) (Or.inl (by omega))).1 (hnr _ (by omega) (Or.inl (by omega))).2); have HN4 : Hid _ := hown4; have HG4 : Hid _ := hgrow4; have HP : Hid _ := hperm; have HS : Hid _ := hsort; clear hown4 hgrow4 hperm hsort hnr))
  refine bodyPost_ret (v := .tuple #[stV (bump (bothC c seen) 0) (.slice (some ⟨g, 0, none⟩) (U.length + 1) capn), .int .i64 0]) ?_ rfl ⟨_, l', rfl, HP.out, HS.out, ?_, ?_⟩
  · simp [results, Tryz.results33, go_sem, bump, r4]
  · exact ownsRow_base (ownsRow_setCell_below (ownsRow_setCell_below (ownsRow_setCell_below (ownsRow_setCell_below (ownsRow_setCell_below HN4.out (by simp) _) (by simp) _) (by simp) _) (by simp) _) (by simp) _) (by omega)
  · have base : Below w.heap.size w w2 := (((Below.refl _ _).alloc (Nat.le_refl _) _).alloc (by simp) _).alloc (by simp; omega) _ |>.trans (HB3.out.mono (by omega))
    have base3 : Below w.heap.size w w3 := (((base.alloc (by omega) _).alloc (by simp; omega) _).alloc (by simp; omega) _).grown HG3.out (by simp; omega) (fun q hq => by have := ownBlock_lt HO2.out hq; omega)
    have base4 : Below w.heap.size w w4 := base3.grown HG4.out base3.size (fun q hq => by have := ownBlock_lt HW3.out hq; omega)
    repeat' (with_reducible (first | exact base4 | refine Below.setCell ?_ ?_ _ | refine Below.alloc ?_ ?_ _))
    all_goals (first | omega | (simp; omega))
set_option maxRecDepth 100000 in
set_option maxHeartbeats 2000000 in
theorem stPut_ok1 (c : Ctx) (sv : Value) (l : List Ver) (val : ByteArray) (seen : Ctx) (w : World) (h : VSl w sv l) (hr : ∀ v ∈ l, v.rep < 4) (hlen : l.length ≤ 100000)
    (hn : (unseenL l seen).length < 20) (h0 : 0 ≤ bothC c seen 1) (h1 : bothC c seen 1 < 1000000) :
    Calls Tryz.prog 33 #[stV c sv, .int .i64 (1 : Nat), .string val, ctxV seen] w fun e w' => ∃ v' l', e = .returned (.tuple #[stV (bump (bothC c seen) 1) v', .int .i64 0]) ∧ l'.Perm (unseenL l seen ++ [(1, bothC c seen 1 + 1, val)]) ∧ l'.Pairwise (fun a b => ltV b a = false) ∧ w'.ownsRow w.heap.size 117 3 v' l'.length (flatV l') ∧ Below w.heap.size w w' := by
  obtain ⟨ad, cap, rfl, hcap⟩ := h.len
  have H3 : Hid (∀ a b d, VSl (((w.alloc a).alloc b).alloc d) (.slice ad l.length cap) l) := fun a b d => ((World.ownsRow.alloc h a).alloc b).alloc d
  have HR : Hid _ := hr
  clear h hr
  generalize hun : unseenL l seen = U at *
  have HU : Hid _ := hun
  clear hun
  go_enter Tryz.func33, Tryz.ntmps33
  obtain ⟨i0, hi0, hz0, hz1, hz2⟩ := info_parts Tryz.infoVer
  go_wp2_with (first
    | (go_at_call 59; refine (unseenBy_any c _ l seen _ (H3.out _ _ _) HR.out hlen).mono ?_; rintro e w1 ⟨v', rfl, hown, hb⟩; rw [HU.out] at hown; obtain ⟨ad', cap', hv'⟩ := ownsRow_len hown; subst hv'; simp at hb; obtain ⟨b0, b1, b2, f0, f1, f2⟩ := box3 hb; have HO : Hid _ := ownsRow_base hown (show w.heap.size + 3 ≤ _ by simp); have HB : Hid _ := hb; clear hown hb)
    | (go_at_call 60; refine (greater_any c seen _).mono ?_; rintro e w2 ⟨rfl, hb2⟩; have hb3 := HB.out.trans (hb2.mono (by have := HB.out.size; simp at this; omega)); obtain ⟨b0, b1, b2, f0, f1, f2⟩ := box3 hb3; have HB3 : Hid _ := hb3; have HO2 : Hid (w2.ownsRow (w.heap.size + 3) 117 3 (.slice ad' U.length cap') U.length (flatV U)) := ownsRow_below HO.out hb2 (Nat.le_refl _); have z2 : w.heap.size + 1 + 1 < w2.heap.size := (by have := hb3.size; simp at this; omega); clear hb3 hb2)
    | (at_builtin; refine wpList_append_lies _ rfl _ _ _ rfl (w.heap.size + 3) 117 i0 _ 3 32 Tryz.underlying72 hi0 hz0 hz1 hz2 rfl (by omega) (.slice ad' U.length cap') _ _ rfl (((HO2.out.alloc _).alloc _).alloc _) ⟨w2.heap.size + 1 + 1, 0, none⟩ 1 1 [.int .i64 1, .int .i64 (bothC c seen 1 + 1), .string val] rfl rfl (World.news_of_block (cs := #[.int .i64 1, .int .i64 (bothC c seen 1 + 1), .string val]) (t := 117) (fr := (0, 0)) (new3 w2 _ _ _)) (by simp [Value.oneCell']) (by omega) (by unfold maxLen; omega) (by omega) (by simp; omega) (w2.heap.size + 1 + 1 + 1) (by simp) ?_; intro g capn w3 hown3 hgrow3 hat3 hlt3; have HW3 : Hid _ := hown3; have HG3 : Hid _ := hgrow3; have HA3 : Hid _ := hat3; clear hown3 hgrow3 hat3)
    | (go_at_call 61; refine (sortV_own (w.heap.size + 3) _ (U ++ [(1, bothC c seen 1 + 1, val)]) _ (by have := HW3.out; rw [List.length_append, flatV_append]; exact this) (by simp) (by simp; omega)).mono ?_; rintro e w4 ⟨rfl, l', hperm, hsort, hown4, hgrow4⟩; have hnr : ∀ b, b ≤ w2.heap.size → (b < w.heap.size + 3 ∨ b = w2.heap.size) → some b ≠ (Value.slice ad' U.length cap').ownBlock ∧ some b ≠ some g := (fun b hb hb' => by
        have key : ∀ q, (Value.slice ad' U.length cap').ownBlock = some q → b ≠ q := fun q hq => by have := ownBlock_lt HO2.out hq; omega
        refine ⟨fun e => key b e.symm rfl, fun e => ?_⟩
        rcases HA3.out with h | h
        · exact key g h (by simpa using e)
        · have : b = g := by simpa using e
          omega); obtain ⟨c4, _⟩ := cells_of (far2 (new1 w2 _ _ _) HG3.out hgrow4 (hnr _ (Nat.le_refl _) (Or.inr rfl)).1 (hnr _ (Nat.le_refl _) (Or.inr rfl)).2); obtain ⟨r4, fr4⟩ := cells_of (far2 (w := ((w2.alloc _).alloc _).alloc _) (b := w.heap.size + 1 + 1) (by rw [Below.heap_alloc _ _ _ (by simp; omega), Below.heap_alloc _ _ _ (by simp; omega), Below.heap_alloc _ _ _ z2]; exact box3r HB3.out) HG3.out hgrow4 (hnr _ (by omega) (Or.inl (by omega))).1 (hnr _ (by omega) (Or.inl (by omega))).2); have HN4 : Hid _ := hown4; have HG4 : Hid _ := hgrow4; have HP : Hid _ := hperm; have HS : Hid _ := hsort; clear hown4 hgrow4 hperm hsort hnr))
  refine bodyPost_ret (v := .tuple #[stV (bump (bothC c seen) 1) (.slice (some ⟨g, 0, none⟩) (U.length + 1) capn), .int .i64 0]) ?_ rfl ⟨_, l', rfl, HP.out, HS.out, ?_, ?_⟩
  · simp [results, Tryz.results33, go_sem, bump, r4]
  · exact ownsRow_base (ownsRow_setCell_below (ownsRow_setCell_below (ownsRow_setCell_below (ownsRow_setCell_below (ownsRow_setCell_below HN4.out (by simp) _) (by simp) _) (by simp) _) (by simp) _) (by simp) _) (by omega)
  · have base : Below w.heap.size w w2 := (((Below.refl _ _).alloc (Nat.le_refl _) _).alloc (by simp) _).alloc (by simp; omega) _ |>.trans (HB3.out.mono (by omega))
    have base3 : Below w.heap.size w w3 := (((base.alloc (by omega) _).alloc (by simp; omega) _).alloc (by simp; omega) _).grown HG3.out (by simp; omega) (fun q hq => by have := ownBlock_lt HO2.out hq; omega)
    have base4 : Below w.heap.size w w4 := base3.grown HG4.out base3.size (fun q hq => by have := ownBlock_lt HW3.out hq; omega)
    repeat' (with_reducible (first | exact base4 | refine Below.setCell ?_ ?_ _ | refine Below.alloc ?_ ?_ _))
    all_goals (first | omega | (simp; omega))
set_option maxRecDepth 100000 in
set_option maxHeartbeats 2000000 in
theorem stPut_ok2 (c : Ctx) (sv : Value) (l : List Ver) (val : ByteArray) (seen : Ctx) (w : World) (h : VSl w sv l) (hr : ∀ v ∈ l, v.rep < 4) (hlen : l.length ≤ 100000)
    (hn : (unseenL l seen).length < 20) (h0 : 0 ≤ bothC c seen 2) (h1 : bothC c seen 2 < 1000000) :
    Calls Tryz.prog 33 #[stV c sv, .int .i64 (2 : Nat), .string val, ctxV seen] w fun e w' => ∃ v' l', e = .returned (.tuple #[stV (bump (bothC c seen) 2) v', .int .i64 0]) ∧ l'.Perm (unseenL l seen ++ [(2, bothC c seen 2 + 1, val)]) ∧ l'.Pairwise (fun a b => ltV b a = false) ∧ w'.ownsRow w.heap.size 117 3 v' l'.length (flatV l') ∧ Below w.heap.size w w' := by
  obtain ⟨ad, cap, rfl, hcap⟩ := h.len
  have H3 : Hid (∀ a b d, VSl (((w.alloc a).alloc b).alloc d) (.slice ad l.length cap) l) := fun a b d => ((World.ownsRow.alloc h a).alloc b).alloc d
  have HR : Hid _ := hr
  clear h hr
  generalize hun : unseenL l seen = U at *
  have HU : Hid _ := hun
  clear hun
  go_enter Tryz.func33, Tryz.ntmps33
  obtain ⟨i0, hi0, hz0, hz1, hz2⟩ := info_parts Tryz.infoVer
  go_wp2_with (first
    | (go_at_call 59; refine (unseenBy_any c _ l seen _ (H3.out _ _ _) HR.out hlen).mono ?_; rintro e w1 ⟨v', rfl, hown, hb⟩; rw [HU.out] at hown; obtain ⟨ad', cap', hv'⟩ := ownsRow_len hown; subst hv'; simp at hb; obtain ⟨b0, b1, b2, f0, f1, f2⟩ := box3 hb; have HO : Hid _ := ownsRow_base hown (show w.heap.size + 3 ≤ _ by simp); have HB : Hid _ := hb; clear hown hb)
    | (go_at_call 60; refine (greater_any c seen _).mono ?_; rintro e w2 ⟨rfl, hb2⟩; have hb3 := HB.out.trans (hb2.mono (by have := HB.out.size; simp at this; omega)); obtain ⟨b0, b1, b2, f0, f1, f2⟩ := box3 hb3; have HB3 : Hid _ := hb3; have HO2 : Hid (w2.ownsRow (w.heap.size + 3) 117 3 (.slice ad' U.length cap') U.length (flatV U)) := ownsRow_below HO.out hb2 (Nat.le_refl _); have z2 : w.heap.size + 1 + 1 < w2.heap.size := (by have := hb3.size; simp at this; omega); clear hb3 hb2)
    | (at_builtin; refine wpList_append_lies _ rfl _ _ _ rfl (w.heap.size + 3) 117 i0 _ 3 32 Tryz.underlying72 hi0 hz0 hz1 hz2 rfl (by omega) (.slice ad' U.length cap') _ _ rfl (((HO2.out.alloc _).alloc _).alloc _) ⟨w2.heap.size + 1 + 1, 0, none⟩ 1 1 [.int .i64 2, .int .i64 (bothC c seen 2 + 1), .string val] rfl rfl (World.news_of_block (cs := #[.int .i64 2, .int .i64 (bothC c seen 2 + 1), .string val]) (t := 117) (fr := (0, 0)) (new3 w2 _ _ _)) (by simp [Value.oneCell']) (by omega) (by unfold maxLen; omega) (by omega) (by simp; omega) (w2.heap.size + 1 + 1 + 1) (by simp) ?_; intro g capn w3 hown3 hgrow3 hat3 hlt3; have HW3 : Hid _ := hown3; have HG3 : Hid _ := hgrow3; have HA3 : Hid _ := hat3; clear hown3 hgrow3 hat3)
    | (go_at_call 61; refine (sortV_own (w.heap.size + 3) _ (U ++ [(2, bothC c seen 2 + 1, val)]) _ (by have := HW3.out; rw [List.length_append, flatV_append]; exact this) (by simp) (by simp; omega)).mono ?_; rintro e w4 ⟨rfl, l', hperm, hsort, hown4, hgrow4⟩; have hnr : ∀ b, b ≤ w2.heap.size → (b < w.heap.size + 3 ∨ b = w2.heap.size) → some b ≠ (Value.slice ad' U.length cap').ownBlock ∧ some b ≠ some g := (fun b hb hb' => by
        have key : ∀ q, (Value.slice ad' U.length cap').ownBlock = some q → b ≠ q := fun q hq => by have := ownBlock_lt HO2.out hq; omega
        refine ⟨fun e => key b e.symm rfl, fun e => ?_⟩
        rcases HA3.out with h | h
        · exact key g h (by simpa using e)
        · have : b = g := by simpa using e
          omega); obtain ⟨c4, _⟩ := cells_of (far2 (new1 w2 _ _ _) HG3.out hgrow4 (hnr _ (Nat.le_refl _) (Or.inr rfl)).1 (hnr _ (Nat.le_refl _) (Or.inr rfl)).2); obtain ⟨r4, fr4⟩ := cells_of (far2 (w := ((w2.alloc _).alloc _).alloc _) (b := w.heap.size + 1 + 1) (by rw [Below.heap_alloc _ _ _ (by simp; omega), Below.heap_alloc _ _ _ (by simp; omega), Below.heap_alloc _ _ _ z2]; exact box3r HB3.out) HG3.out hgrow4 (hnr _ (by omega) (Or.inl (by omega))).1 (hnr _ (by omega) (Or.inl (by omega))).2); have HN4 : Hid _ := hown4; have HG4 : Hid _ := hgrow4; have HP : Hid _ := hperm; have HS : Hid _ := hsort; clear hown4 hgrow4 hperm hsort hnr))
  refine bodyPost_ret (v := .tuple #[stV (bump (bothC c seen) 2) (.slice (some ⟨g, 0, none⟩) (U.length + 1) capn), .int .i64 0]) ?_ rfl ⟨_, l', rfl, HP.out, HS.out, ?_, ?_⟩
  · simp [results, Tryz.results33, go_sem, bump, r4]
  · exact ownsRow_base (ownsRow_setCell_below (ownsRow_setCell_below (ownsRow_setCell_below (ownsRow_setCell_below (ownsRow_setCell_below HN4.out (by simp) _) (by simp) _) (by simp) _) (by simp) _) (by simp) _) (by omega)
  · have base : Below w.heap.size w w2 := (((Below.refl _ _).alloc (Nat.le_refl _) _).alloc (by simp) _).alloc (by simp; omega) _ |>.trans (HB3.out.mono (by omega))
    have base3 : Below w.heap.size w w3 := (((base.alloc (by omega) _).alloc (by simp; omega) _).alloc (by simp; omega) _).grown HG3.out (by simp; omega) (fun q hq => by have := ownBlock_lt HO2.out hq; omega)
    have base4 : Below w.heap.size w w4 := base3.grown HG4.out base3.size (fun q hq => by have := ownBlock_lt HW3.out hq; omega)
    repeat' (with_reducible (first | exact base4 | refine Below.setCell ?_ ?_ _ | refine Below.alloc ?_ ?_ _))
    all_goals (first | omega | (simp; omega))
set_option maxRecDepth 100000 in
set_option maxHeartbeats 2000000 in
theorem stPut_ok3 (c : Ctx) (sv : Value) (l : List Ver) (val : ByteArray) (seen : Ctx) (w : World) (h : VSl w sv l) (hr : ∀ v ∈ l, v.rep < 4) (hlen : l.length ≤ 100000)
    (hn : (unseenL l seen).length < 20) (h0 : 0 ≤ bothC c seen 3) (h1 : bothC c seen 3 < 1000000) :
    Calls Tryz.prog 33 #[stV c sv, .int .i64 (3 : Nat), .string val, ctxV seen] w fun e w' => ∃ v' l', e = .returned (.tuple #[stV (bump (bothC c seen) 3) v', .int .i64 0]) ∧ l'.Perm (unseenL l seen ++ [(3, bothC c seen 3 + 1, val)]) ∧ l'.Pairwise (fun a b => ltV b a = false) ∧ w'.ownsRow w.heap.size 117 3 v' l'.length (flatV l') ∧ Below w.heap.size w w' := by
  obtain ⟨ad, cap, rfl, hcap⟩ := h.len
  have H3 : Hid (∀ a b d, VSl (((w.alloc a).alloc b).alloc d) (.slice ad l.length cap) l) := fun a b d => ((World.ownsRow.alloc h a).alloc b).alloc d
  have HR : Hid _ := hr
  clear h hr
  generalize hun : unseenL l seen = U at *
  have HU : Hid _ := hun
  clear hun
  go_enter Tryz.func33, Tryz.ntmps33
  obtain ⟨i0, hi0, hz0, hz1, hz2⟩ := info_parts Tryz.infoVer
  go_wp2_with (first
    | (go_at_call 59; refine (unseenBy_any c _ l seen _ (H3.out _ _ _) HR.out hlen).mono ?_; rintro e w1 ⟨v', rfl, hown, hb⟩; rw [HU.out] at hown; obtain ⟨ad', cap', hv'⟩ := ownsRow_len hown; subst hv'; simp at hb; obtain ⟨b0, b1, b2, f0, f1, f2⟩ := box3 hb; have HO : Hid _ := ownsRow_base hown (show w.heap.size + 3 ≤ _ by simp); have HB : Hid _ := hb; clear hown hb)
    | (go_at_call 60; refine (greater_any c seen _).mono ?_; rintro e w2 ⟨rfl, hb2⟩; have hb3 := HB.out.trans (hb2.mono (by have := HB.out.size; simp at this; omega)); obtain ⟨b0, b1, b2, f0, f1, f2⟩ := box3 hb3; have HB3 : Hid _ := hb3; have HO2 : Hid (w2.ownsRow (w.heap.size + 3) 117 3 (.slice ad' U.length cap') U.length (flatV U)) := ownsRow_below HO.out hb2 (Nat.le_refl _); have z2 : w.heap.size + 1 + 1 < w2.heap.size := (by have := hb3.size; simp at this; omega); clear hb3 hb2)
    | (at_builtin; refine wpList_append_lies _ rfl _ _ _ rfl (w.heap.size + 3) 117 i0 _ 3 32 Tryz.underlying72 hi0 hz0 hz1 hz2 rfl (by omega) (.slice ad' U.length cap') _ _ rfl (((HO2.out.alloc _).alloc _).alloc _) ⟨w2.heap.size + 1 + 1, 0, none⟩ 1 1 [.int .i64 3, .int .i64 (bothC c seen 3 + 1), .string val] rfl rfl (World.news_of_block (cs := #[.int .i64 3, .int .i64 (bothC c seen 3 + 1), .string val]) (t := 117) (fr := (0, 0)) (new3 w2 _ _ _)) (by simp [Value.oneCell']) (by omega) (by unfold maxLen; omega) (by omega) (by simp; omega) (w2.heap.size + 1 + 1 + 1) (by simp) ?_; intro g capn w3 hown3 hgrow3 hat3 hlt3; have HW3 : Hid _ := hown3; have HG3 : Hid _ := hgrow3; have HA3 : Hid _ := hat3; clear hown3 hgrow3 hat3)
    | (go_at_call 61; refine (sortV_own (w.heap.size + 3) _ (U ++ [(3, bothC c seen 3 + 1, val)]) _ (by have := HW3.out; rw [List.length_append, flatV_append]; exact this) (by simp) (by simp; omega)).mono ?_; rintro e w4 ⟨rfl, l', hperm, hsort, hown4, hgrow4⟩; have hnr : ∀ b, b ≤ w2.heap.size → (b < w.heap.size + 3 ∨ b = w2.heap.size) → some b ≠ (Value.slice ad' U.length cap').ownBlock ∧ some b ≠ some g := (fun b hb hb' => by
        have key : ∀ q, (Value.slice ad' U.length cap').ownBlock = some q → b ≠ q := fun q hq => by have := ownBlock_lt HO2.out hq; omega
        refine ⟨fun e => key b e.symm rfl, fun e => ?_⟩
        rcases HA3.out with h | h
        · exact key g h (by simpa using e)
        · have : b = g := by simpa using e
          omega); obtain ⟨c4, _⟩ := cells_of (far2 (new1 w2 _ _ _) HG3.out hgrow4 (hnr _ (Nat.le_refl _) (Or.inr rfl)).1 (hnr _ (Nat.le_refl _) (Or.inr rfl)).2); obtain ⟨r4, fr4⟩ := cells_of (far2 (w := ((w2.alloc _).alloc _).alloc _) (b := w.heap.size + 1 + 1) (by rw [Below.heap_alloc _ _ _ (by simp; omega), Below.heap_alloc _ _ _ (by simp; omega), Below.heap_alloc _ _ _ z2]; exact box3r HB3.out) HG3.out hgrow4 (hnr _ (by omega) (Or.inl (by omega))).1 (hnr _ (by omega) (Or.inl (by omega))).2); have HN4 : Hid _ := hown4; have HG4 : Hid _ := hgrow4; have HP : Hid _ := hperm; have HS : Hid _ := hsort; clear hown4 hgrow4 hperm hsort hnr))
  refine bodyPost_ret (v := .tuple #[stV (bump (bothC c seen) 3) (.slice (some ⟨g, 0, none⟩) (U.length + 1) capn), .int .i64 0]) ?_ rfl ⟨_, l', rfl, HP.out, HS.out, ?_, ?_⟩
  · simp [results, Tryz.results33, go_sem, bump, r4]
  · exact ownsRow_base (ownsRow_setCell_below (ownsRow_setCell_below (ownsRow_setCell_below (ownsRow_setCell_below (ownsRow_setCell_below HN4.out (by simp) _) (by simp) _) (by simp) _) (by simp) _) (by simp) _) (by omega)
  · have base : Below w.heap.size w w2 := (((Below.refl _ _).alloc (Nat.le_refl _) _).alloc (by simp) _).alloc (by simp; omega) _ |>.trans (HB3.out.mono (by omega))
    have base3 : Below w.heap.size w w3 := (((base.alloc (by omega) _).alloc (by simp; omega) _).alloc (by simp; omega) _).grown HG3.out (by simp; omega) (fun q hq => by have := ownBlock_lt HO2.out hq; omega)
    have base4 : Below w.heap.size w w4 := base3.grown HG4.out base3.size (fun q hq => by have := ownBlock_lt HW3.out hq; omega)
    repeat' (with_reducible (first | exact base4 | refine Below.setCell ?_ ?_ _ | refine Below.alloc ?_ ?_ _))
    all_goals (first | omega | (simp; omega))

theorem stPut_ok (c : Ctx) (sv : Value) (l : List Ver) (rep : Nat) (val : ByteArray) (seen : Ctx) (w : World) (h : VSl w sv l) (hr : ∀ v ∈ l, v.rep < 4) (hlen : l.length ≤ 100000) (hrep : rep < 4)
    (hn : (unseenL l seen).length < 20) (h0 : 0 ≤ bothC c seen rep) (h1 : bothC c seen rep < 1000000) :
    Calls Tryz.prog 33 #[stV c sv, .int .i64 rep, .string val, ctxV seen] w fun e w' => ∃ v' l', e = .returned (.tuple #[stV (bump (bothC c seen) rep) v', .int .i64 0]) ∧ l'.Perm (unseenL l seen ++ [(rep, bothC c seen rep + 1, val)]) ∧ l'.Pairwise (fun a b => ltV b a = false) ∧ w'.ownsRow w.heap.size 117 3 v' l'.length (flatV l') ∧ Below w.heap.size w w' := by
  rcases lt4 hrep with rfl | rfl | rfl | rfl
  · exact stPut_ok0 c sv l val seen w h hr hlen hn h0 h1
  · exact stPut_ok1 c sv l val seen w h hr hlen hn h0 h1
  · exact stPut_ok2 c sv l val seen w h hr hlen hn h0 h1
  · exact stPut_ok3 c sv l val seen w h hr hlen hn h0 h1
end Go.Proofs.YtldmcdeibiclkaaGreat

namespace Go.Proofs.YtldmcdeibiclkaaGreat
open Go.RowKit

theorem bytes_beq (a b : ByteArray) : (a == b) = decide (a = b) := by
  rw [beq_toListBytes, Bool.eq_iff_iff]
  simp only [ByteArray.toList_eq, beq_iff_eq, Array.toList_inj, decide_eq_true_eq]
  exact ⟨fun h => by cases a; cases b; simp_all, fun h => by rw [h]⟩

/-- All keys are texts. -/
def KeysOk (es : List MapEntry) : Prop := ∀ e ∈ es, ∃ k, e.key = .string k

/-- The entry's value at a key. -/
def entAt : List MapEntry → ByteArray → Option Value
  | [], _ => none
  | e :: es, s => match e.key with
    | .string k => if s = k then some e.val else entAt es s
    | _ => entAt es s

theorem findNow_none (s : ByteArray) : ∀ (es : List MapEntry) (i : Nat), KeysOk es → entAt es s = none → Instr.findNow .string (.string s) es i = some none
  | [], _, _, _ => rfl
  | e :: es, i, hk, h => by
    obtain ⟨k, he⟩ := hk e (by simp)
    simp only [entAt, he] at h
    by_cases hs : s = k
    · rw [if_pos hs] at h; cases h
    · rw [if_neg hs] at h
      have hsb : (s == k) = false := by rw [bytes_beq]; simpa using hs
      simp only [Instr.findNow, Instr.sameNow, he, hsb]
      exact findNow_none s es (i + 1) (fun e' h' => hk e' (by simp [h'])) h

theorem findNow_some (s : ByteArray) (v : Value) : ∀ (es : List MapEntry) (i : Nat), KeysOk es → entAt es s = some v → ∃ j, j < es.length ∧ Instr.findNow .string (.string s) es i = some (some (i + j, v)) ∧ (es[j]?).map (·.key) = some (.string s)
  | [], _, _, h => by cases h
  | e :: es, i, hk, h => by
    obtain ⟨k, he⟩ := hk e (by simp)
    simp only [entAt, he] at h
    by_cases hs : s = k
    · rw [if_pos hs] at h
      cases h
      subst hs
      exact ⟨0, by simp, by simp [Instr.findNow, Instr.sameNow, he, bytes_beq], by simp [he]⟩
    · rw [if_neg hs] at h
      have hsb : (s == k) = false := by rw [bytes_beq]; simpa using hs
      obtain ⟨j, hj, hf, hkey⟩ := findNow_some s v es (i + 1) (fun e' h' => hk e' (by simp [h'])) h
      refine ⟨j + 1, by simpa using hj, ?_, by simpa using hkey⟩
      simp only [Instr.findNow, Instr.sameNow, he, hsb]
      rw [hf]
      congr 3
      omega

theorem checkKey_string (w : World) (b : Bool) (n : Nat) (s : ByteArray) : (Instr.checkKey b (n + 1) 9 (.string s)).run Tryz.prog w = .ok () w := by
  have hs : Tryz.prog.underlying 9 = some .string := Tryz.underlying9
  simp only [Instr.checkKey, Sem.run_bind, run_underlying hs, Result.andThen_ok]
  rfl

/-- The zero state. -/
abbrev zeroSt : Value := .agg #[.int .i64 0, .int .i64 0, .int .i64 0, .int .i64 0, .slice none 0 0]

theorem lookup_run (w : World) (bm : Nat) (es : Array MapEntry) (clock : Nat) (s : ByteArray) (hm : w.heap[bm]? = some (.map es clock)) (hk : KeysOk es.toList) :
    (Instr.lookup 63 (.map (some bm)) (.string s) false).run Tryz.prog w = .ok ((entAt es.toList s).getD zeroSt) w := by
  have hu : Tryz.prog.underlying 63 = some (.map 9 74) := Tryz.underlying63
  have hs : Tryz.prog.underlying 9 = some .string := Tryz.underlying9
  have hck : ∀ b, (Instr.checkKey b 10000 9 (.string s)).run Tryz.prog w = .ok () w := fun b => checkKey_string w b 9999 s
  cases he : entAt es.toList s with
  | none =>
    have hf := findNow_none s es.toList 0 hk he
    simp [Instr.lookup, run_underlying hu, run_underlying hs, getObj, Sem.run, hm, hck, Instr.findKey, hf]
  | some v =>
    obtain ⟨j, hj, hf, hkey⟩ := findNow_some s v es.toList 0 hk he
    simp [Instr.lookup, run_underlying hu, run_underlying hs, getObj, Sem.run, hm, hck, Instr.findKey, hf]

theorem entAt_append (t : ByteArray) (e : MapEntry) (k : ByteArray) (he : e.key = .string k) : ∀ es : List MapEntry, KeysOk es → entAt (es ++ [e]) t = (entAt es t).or (if t = k then some e.val else none)
  | [], _ => by simp [entAt, he]
  | x :: es, hk => by
    obtain ⟨q, hq⟩ := hk x (by simp)
    simp only [List.cons_append, entAt, hq]
    by_cases h : t = q
    · simp [h]
    · rw [if_neg h, if_neg h]
      exact entAt_append t e k he es (fun e' h' => hk e' (by simp [h']))

theorem findNow_ge (s : ByteArray) : ∀ (es : List MapEntry) (i q : Nat) (v : Value), Instr.findNow .string (.string s) es i = some (some (q, v)) → i ≤ q
  | [], i, q, v, h => by simp [Instr.findNow] at h
  | e :: es, i, q, v, h => by
    simp only [Instr.findNow] at h
    split at h
    · simp at h; omega
    · have := findNow_ge s es (i + 1) q v h; omega
    · cases h

theorem entAt_modify (s t : ByteArray) (v v' : Value) (f : MapEntry → MapEntry) (hfk : ∀ e, (f e).key = .string s) (hfv : ∀ e, (f e).val = v') : ∀ (es : List MapEntry) (i j : Nat), KeysOk es → Instr.findNow .string (.string s) es i = some (some (i + j, v)) → entAt (es.modify j f) t = (if t = s then some v' else entAt es t) ∧ KeysOk (es.modify j f)
  | [], i, j, _, h => by simp [Instr.findNow] at h
  | e :: es, i, j, hk, h => by
    obtain ⟨k, he⟩ := hk e (by simp)
    by_cases hs : s = k
    · subst hs
      simp only [Instr.findNow, Instr.sameNow, he, bytes_beq, decide_true] at h
      have hj : j = 0 := by simp at h; omega
      subst hj
      refine ⟨?_, ?_⟩
      · simp only [List.modify_zero_cons, entAt, hfk, hfv, he]
        by_cases h' : t = s <;> simp [h']
      · intro x hx
        simp only [List.modify_zero_cons, List.mem_cons] at hx
        rcases hx with rfl | hx
        · exact ⟨s, hfk e⟩
        · exact hk x (by simp [hx])
    · have hsb : (s == k) = false := by rw [bytes_beq]; simpa using hs
      simp only [Instr.findNow, Instr.sameNow, he, hsb] at h
      have hj : 1 ≤ j := by
        rcases Nat.eq_zero_or_pos j with h0 | h0
        · subst h0
          have := findNow_ge s es (i + 1) _ _ h
          omega
        · exact h0
      obtain ⟨j', rfl⟩ : ∃ j', j = j' + 1 := ⟨j - 1, by omega⟩
      rw [show i + (j' + 1) = i + 1 + j' by omega] at h
      obtain ⟨h1, h2⟩ := entAt_modify s t v v' f hfk hfv es (i + 1) j' (fun e' h' => hk e' (by simp [h'])) h
      refine ⟨?_, ?_⟩
      · simp only [List.modify_succ_cons, entAt, he]
        rw [h1]
        by_cases h' : t = k
        · simp [h']
          intro q; exact absurd q (fun q => hs q.symm)
        · simp [h']
      · intro x hx
        simp only [List.modify_succ_cons, List.mem_cons] at hx
        rcases hx with rfl | hx
        · exact ⟨k, he⟩
        · exact h2 x hx

/-- No key twice, no stamp twice, each stamp below the map's clock, each key one of Q. -/
def Stamp (Q : ByteArray → Prop) (es : List MapEntry) (clock : Nat) : Prop :=
  (es.map (·.key)).Nodup ∧ (es.map (·.born)).Nodup ∧ (∀ e ∈ es, e.born < clock) ∧ ∀ e ∈ es, ∃ k, e.key = .string k ∧ Q k

theorem entAt_none {s : ByteArray} : ∀ {es : List MapEntry}, KeysOk es → entAt es s = none → ∀ e ∈ es, e.key ≠ .string s
  | [], _, _, e, he => by simp at he
  | x :: es, hk, h, e, he => by
    obtain ⟨q, hq⟩ := hk x (by simp)
    simp only [entAt, hq] at h
    by_cases hs : s = q
    · rw [if_pos hs] at h; cases h
    · rw [if_neg hs] at h
      simp only [List.mem_cons] at he
      rcases he with rfl | he
      · rw [hq]; intro e; injection e with e; exact hs e.symm
      · exact entAt_none (fun e' h' => hk e' (by simp [h'])) h e he

theorem map_modify {α β : Type} (g : α → β) (f : α → α) (l : List α) (j : Nat) (h : ∀ x, l[j]? = some x → g (f x) = g x) : (l.modify j f).map g = l.map g := by
  apply List.ext_getElem?
  intro i
  simp only [List.getElem?_map, List.getElem?_modify]
  by_cases e : j = i
  · subst e
    simp only [if_true]
    cases hx : l[j]? with
    | none => rfl
    | some x => simp [h x hx]
  · simp [e]

/-- A world with another map in a block. -/
def setMap (w : World) (bm : Nat) (es : Array MapEntry) (clock : Nat) : World := { w with heap := w.heap.setIfInBounds bm (.map es clock) }

theorem mapUpdate_run (bm : Nat) (es : Array MapEntry) (clock : Nat) (s : ByteArray) (v : Value) (hk : KeysOk es.toList) :
    ∃ es' clock', (∀ w : World, w.heap[bm]? = some (.map es clock) → (Instr.mapUpdate 63 (.map (some bm)) (.string s) v).run Tryz.prog w = .ok () (setMap w bm es' clock')) ∧ KeysOk es'.toList ∧ (∀ t, entAt es'.toList t = if t = s then some v else entAt es.toList t) ∧ ∀ Q, Q s → Stamp Q es.toList clock → Stamp Q es'.toList clock' := by
  have hu : Tryz.prog.underlying 63 = some (.map 9 74) := Tryz.underlying63
  have hs : Tryz.prog.underlying 9 = some .string := Tryz.underlying9
  have hck : ∀ w b, (Instr.checkKey b 10000 9 (.string s)).run Tryz.prog w = .ok () w := fun w b => checkKey_string w b 9999 s
  cases he : entAt es.toList s with
  | none =>
    have hf := findNow_none s es.toList 0 hk he
    refine ⟨es.push { key := .string s, val := v, born := clock }, clock + 1, ?_, ?_, ?_, ?_⟩
    · intro w hm
      simp [Instr.mapUpdate, run_underlying hu, run_underlying hs, getObj, setObj, Sem.run, hm, hck, Instr.findKey, hf, setMap]
    · intro x hx
      simp at hx
      rcases hx with hx | rfl
      · exact hk x (by simpa using hx)
      · exact ⟨s, rfl⟩
    · intro t
      rw [Array.toList_push, entAt_append t _ s rfl _ hk]
      by_cases h : t = s
      · subst h; simp [he]
      · simp [h]
    · rintro Q hQ ⟨s1, s2, s3, s4⟩
      rw [Array.toList_push]
      refine ⟨?_, ?_, fun e h => ?_, fun e h => ?_⟩
      · rw [List.map_append, List.nodup_append]
        refine ⟨s1, by simp, fun a ha b hb => ?_⟩
        simp at hb
        subst hb
        obtain ⟨x, hx, rfl⟩ := List.mem_map.1 ha
        exact entAt_none hk he x hx
      · rw [List.map_append, List.nodup_append]
        refine ⟨s2, by simp, fun a ha b hb => ?_⟩
        simp at hb
        subst hb
        obtain ⟨x, hx, rfl⟩ := List.mem_map.1 ha
        exact Nat.ne_of_lt (s3 x hx)
      · simp only [List.mem_append, List.mem_singleton] at h
        rcases h with h | rfl
        · have := s3 e h; omega
        · exact Nat.lt_succ_self _
      · simp only [List.mem_append, List.mem_singleton] at h
        rcases h with h | rfl
        · exact s4 e h
        · exact ⟨s, rfl, hQ⟩
  | some u =>
    obtain ⟨j, hj, hf, hkey⟩ := findNow_some s u es.toList 0 hk he
    have hkj : (es[j]?).map (·.key) = some (.string s) := by simpa using hkey
    have hsb : Instr.sameBits 10000 (.string s) (.string s) = true := by simp [Instr.sameBits, bytes_beq]
    refine ⟨es.modify j fun e => { e with key := .string s, val := v }, clock, ?_, ?_, ?_, ?_⟩
    · intro w hm
      simp [Instr.mapUpdate, run_underlying hu, run_underlying hs, getObj, setObj, Sem.run, hm, hck, Instr.findKey, hf, hkj, Instr.keyThatStays, hsb, setMap]
    · rw [Array.toList_modify]
      exact (entAt_modify s s u v _ (fun _ => rfl) (fun _ => rfl) es.toList 0 j hk hf).2
    · intro t
      rw [Array.toList_modify]
      exact (entAt_modify s t u v _ (fun _ => rfl) (fun _ => rfl) es.toList 0 j hk hf).1
    · rintro Q hQ ⟨s1, s2, s3, s4⟩
      rw [Array.toList_modify]
      have ek : (es.toList.modify j fun e => { e with key := .string s, val := v }).map (·.key) = es.toList.map (·.key) := map_modify _ _ _ _ fun x hx => by
        rw [hx] at hkey
        simp at hkey
        exact hkey.symm
      have eb : (es.toList.modify j fun e => { e with key := .string s, val := v }).map (·.born) = es.toList.map (·.born) := map_modify _ _ _ _ fun x hx => rfl
      refine ⟨by rw [ek]; exact s1, by rw [eb]; exact s2, fun e h => ?_, fun e h => ?_⟩
      · have : e.born ∈ (es.toList.modify j fun e => { e with key := .string s, val := v }).map (·.born) := List.mem_map.2 ⟨e, h, rfl⟩
        rw [eb] at this
        obtain ⟨x, hx, e1⟩ := List.mem_map.1 this
        rw [← e1]; exact s3 x hx
      · have : e.key ∈ (es.toList.modify j fun e => { e with key := .string s, val := v }).map (·.key) := List.mem_map.2 ⟨e, h, rfl⟩
        rw [ek] at this
        obtain ⟨x, hx, e1⟩ := List.mem_map.1 this
        obtain ⟨k, hk1, hk2⟩ := s4 x hx
        exact ⟨k, by rw [← e1]; exact hk1, hk2⟩
end Go.Proofs.YtldmcdeibiclkaaGreat
