/-
  Contract: Put of a value by a sound context.
-/
import Derived.Test.YtldmcdeibiclkaaGreatQ07
import Derived.Test.YtldmcdeibiclkaaGreatQ09
set_option linter.unusedVariables false
set_option linter.unusedSimpArgs false

namespace Go.Proofs.YtldmcdeibiclkaaGreat
open Go.RowKit

/-- A slice does not lie in that block. -/
def NR (sv : Value) (g : Nat) : Prop := ∀ a l c, sv = .slice (some a) l c → a.block ≠ g
theorem ownsRow_NR {w : World} {B n size : Nat} {t : TypeId} {v : Value} {xs : List Value} (h : w.ownsRow B t size v n xs) : ∀ g, g < B → NR v g := by
  intro g hg a l c hv e
  rcases h.2 with h2 | ⟨g', cap, cur, hv', hg', _⟩
  · rw [h2.1] at hv; cases hv
  · rw [hv'] at hv; cases hv; simp at e; omega
theorem VSl_alloc {w : World} {sv : Value} {l : List Ver} (h : VSl w sv l) (X : Obj) : VSl (w.alloc X) sv l := World.ownsRow.alloc h X
theorem VSl_set {w : World} {sv : Value} {l : List Ver} {g o : Nat} {v : Value} (h : VSl w sv l) (hn : NR sv g) : VSl (w.setCell ⟨g, o, none⟩ v) sv l := by
  obtain ⟨h1, h2⟩ := h
  refine ⟨h1, ?_⟩
  rcases h2 with h2 | ⟨g', cap, cur, hv, hg, hh, r⟩
  · exact Or.inl h2
  · refine Or.inr ⟨g', cap, cur, hv, hg, ?_, r⟩
    rw [Below.heap_setCell _ _ _ _ (hn _ _ _ hv)]; exact hh

set_option maxRecDepth 100000 in
set_option maxHeartbeats 2000000 in
theorem put_ok (b num : Nat) (bm : Nat → Nat) (K : Know) (key val : ByteArray) (seen : Ctx) (w : World) (h : RepAt w b bm num K) (hK : KOk K) (hkey : keyB key = true) (hks : key.size ≤ 8) (hvs : val.size ≤ 12) (hseen : soundB seen = true) (hnum : num < 4)
    (hn : (unseenL (K key).2 seen).length < 20) (h0 : 0 ≤ bothC (K key).1 seen num) (h1 : bothC (K key).1 seen num < 1000000) :
    Calls Tryz.prog 13 #[.pointer (some ⟨b, 0, none⟩), .string key, .string val, ctxV seen] w fun e w' => e = .returned (.int .i64 0) ∧ ∃ l', l'.Perm (unseenL (K key).2 seen ++ [(num, bothC (K key).1 seen num + 1, val)]) ∧ l'.Pairwise (fun a b => ltV b a = false) ∧ RepAt w' b bm num (updK K key (bump (bothC (K key).1 seen) num, l')) ∧ w.grownBy w' (some (bm (segN key))) := by
  have hb := h.1
  have HRep : Hid (RepAt w b bm num K) := h
  obtain ⟨es, clock, hm, hk, hall, _⟩ := h.2.1 _ (segN_lt key)
  obtain ⟨sv, hent, hvs0⟩ := hall key rfl
  obtain ⟨ad, cap, rfl, hcap⟩ := hvs0.len
  have hlk : ∀ W : World, W.heap[bm (segN key)]? = some (.map es clock) → (Instr.lookup 63 (.map (some (bm (segN key)))) (.string key) false).run Tryz.prog W = .ok (stV (K key).1 (.slice ad (K key).2.length cap)) W := fun W hW => by
    rw [lookup_run W _ es clock key hW hk, hent]
  have HSeg : Hid (∀ W, RepBlk W b bm num → Calls Tryz.prog 32 #[.pointer (some ⟨b, 0, none⟩), .string key] W fun e w' => e = .returned (.map (some (bm (segN key)))) ∧ Below W.heap.size W w' ∧ w'.heap.size = W.heap.size) := fun W hW => segOf_below b num bm key W (by unfold maxLen; omega) hW
  have hbc0 : w.cell? ⟨b, 0, none⟩ = some (.int .i64 num) := hb.num
  have HBlk : Hid (∀ W, Below w.heap.size w W → RepBlk W b bm num) := fun W hW => (h.below hW).1
  have HL : Hid ((K key).2.length ≤ 100000) := (hK key).2.1
  have HR : Hid (∀ v ∈ (K key).2, v.rep < 4) := (hK key).1
  generalize (K key).1 = c at *
  generalize (K key).2 = l at *
  have HV : Hid _ := hvs0
  have HN : Hid _ := And.intro hn (And.intro h0 h1)
  have HCK : Hid _ := isKey_any key
  have HCV : Hid _ := isValue_any val
  have HSO : Hid _ := sound_any seen
  have hvd : decide (val.size ≤ 12) = true := by simpa using hvs
  clear hvs0 hall hent hK hn h0 h1 h
  generalize hbms : bm (segN key) = bms at *
  have HBMS : Hid _ := hbms
  clear hbms
  go_enter Tryz.func13, Tryz.ntmps13
  go_wp2_with (first
    | (go_at_call 29; refine (HCK.out _ (by unfold maxLen; omega)).mono ?_; rw [hkey]; rintro e w1 ⟨rfl, rfl⟩)
    | (go_at_call 30; refine (HCV.out _ (by unfold maxLen; omega)).mono ?_; rw [hvd]; rintro e w1 ⟨rfl, rfl⟩)
    | (go_at_call 31; refine (HSO.out _).mono ?_; rw [hseen]; rintro e w2 ⟨rfl, hb2⟩; obtain ⟨c2, hB2, hz2⟩ := afterSound hb2; clear hb2))
  have hmk : Hid (∀ w', Below w2.heap.size w2 w' → RepBlk w' b bm num ∧ w'.cell? ⟨b, 0, none⟩ = some (.int .i64 num) ∧ (Instr.lookup 63 (.map (some bms)) (.string key) false).run Tryz.prog w' = .ok (stV c (.slice ad l.length cap)) w' ∧ VSl w' (.slice ad l.length cap) l ∧ w'.cell? ⟨w.heap.size + 1, 0, none⟩ = some (.int .i64 (seen 0)) ∧ w'.cell? ⟨w.heap.size + 1, 1, none⟩ = some (.int .i64 (seen 1)) ∧ w'.cell? ⟨w.heap.size + 1, 2, none⟩ = some (.int .i64 (seen 2)) ∧ w'.cell? ⟨w.heap.size + 1, 3, none⟩ = some (.int .i64 (seen 3))) := fun w' hw =>
    ⟨HBlk.out _ (below_keep hB2 hw), cell_keep (cell_keep hbc0 hB2) hw, hlk w' (heap_keep (heap_keep hm hB2) hw), (VSl.below HV.out hB2).below hw, cell_keep (c2 0) hw, cell_keep (c2 1) hw, cell_keep (c2 2) hw, cell_keep (c2 3) hw⟩
  have HB2 : Hid _ := hB2
  clear hB2 c2 hlk
  go_region_held3 (fun w' => RepBlk w' b bm num ∧ w'.cell? ⟨b, 0, none⟩ = some (.int .i64 num) ∧ (Instr.lookup 63 (.map (some bms)) (.string key) false).run Tryz.prog w' = .ok (stV c (.slice ad l.length cap)) w' ∧ VSl w' (.slice ad l.length cap) l ∧ w'.cell? ⟨w.heap.size + 1, 0, none⟩ = some (.int .i64 (seen 0)) ∧ w'.cell? ⟨w.heap.size + 1, 1, none⟩ = some (.int .i64 (seen 1)) ∧ w'.cell? ⟨w.heap.size + 1, 2, none⟩ = some (.int .i64 (seen 2)) ∧ w'.cell? ⟨w.heap.size + 1, 3, none⟩ = some (.int .i64 (seen 3)))
    ((refine hmk.out _ ?_; first | (simp (maxDischargeDepth := 12) [Below.refl, Below.drew, Below.alloc, Below.setCell]; done) | (simp (maxDischargeDepth := 12) [Below.refl, Below.drew, Below.alloc, Below.setCell, B3, y3]; done) | (simp (maxDischargeDepth := 12) [Below.refl, Below.drew, Below.alloc, Below.setCell, B6, y6]; done) | (simp (maxDischargeDepth := 12) [Below.refl, Below.drew, Below.alloc, Below.setCell, B4, y4, y3, y6]; done)))
    (first
      | (go_at_call 32; refine Calls.mono (HSeg.out _ (by go_split_ands; assumption)) ?_; rintro e w6 ⟨rfl, hb6, z6⟩; obtain ⟨s1, s2⟩ := oldReads hb6; (try simp only [World.size_drew, size_allocW] at z6); have B6 : Below w2.heap.size w2 w6 := afterAny hb6 (by first | (simp (maxDischargeDepth := 12) [Below.refl, Below.drew, Below.alloc]; done) | (simp (maxDischargeDepth := 12) [Below.refl, Below.drew, Below.alloc, B3, y3]; done)); have y6 := B6.size; (try (have x6 : w2.heap.size < w6.heap.size := by omega)); (try (have x6' : w3.heap.size < w6.heap.size := by omega)); clear hb6)
      | (go_at_call 34; refine (clone_any val _ (by omega)).mono ?_; rintro e w3 ⟨rfl, hb3⟩; obtain ⟨q1, q2⟩ := oldReads hb3; have B3 : Below w2.heap.size w2 w3 := afterAny hb3 (by first | (simp (maxDischargeDepth := 12) [Below.refl, Below.drew, Below.alloc]; done) | (simp (maxDischargeDepth := 12) [Below.refl, Below.drew, Below.alloc, B6, y6]; done)); have y3 := B3.size; have z3 := hb3.size; (try simp only [World.size_drew, size_allocW] at z3); (try (have x3 : w2.heap.size < w3.heap.size := by omega)); (try (have x3' : w6.heap.size < w3.heap.size := by omega)); clear hb3)
      | (go_at_call 33; refine (stPut_ok c _ l num val seen _ (by go_split_ands; assumption) HR.out HL.out hnum HN.out.1 HN.out.2.1 HN.out.2.2).mono ?_; rintro e w4 ⟨v', l', rfl, hperm, hsort, hown, hb4⟩; obtain ⟨ad', cap', hv'⟩ := ownsRow_len hown; subst hv'; have V4 := VSl.of_own hown; have N4 := ownsRow_NR hown; (try simp only [World.size_drew, size_allocW] at N4); (try (have n2 := N4 w2.heap.size (by omega))); (try (have n3 := N4 w3.heap.size (by omega))); (try (have n6 := N4 w6.heap.size (by omega))); clear N4; obtain ⟨p1, p2⟩ := oldReads hb4; have B4 : Below w2.heap.size w2 w4 := afterAny hb4 (by first | (simp (maxDischargeDepth := 12) [Below.refl, Below.drew, Below.alloc, B3, y3]; done) | (simp (maxDischargeDepth := 12) [Below.refl, Below.drew, Below.alloc, B6, y6]; done)); have y4 := B4.size; have HP : Hid _ := hperm; have HS : Hid _ := hsort; clear hown hb4 hperm hsort))
  all_goals
    go_wp2_with (go_at_call 35; go_must (refine (keep_ok b num bm K key (bump (bothC c seen) num) _ l' _ (by omega) (RepAt.below HRep.out (below_keep HB2.out (by simp (maxDischargeDepth := 12) [Below.refl, Below.drew, Below.alloc, Below.setCell, B4, y4, y3, y6]))) (by first | (simp [VSl_alloc, V4]; done) | (simp (maxDischargeDepth := 12) [VSl_set, V4, n2]; done) | (simp (maxDischargeDepth := 12) [VSl_set, V4, n3]; done) | (simp (maxDischargeDepth := 12) [VSl_set, V4, n6]; done))).mono ?_); rintro e w5 ⟨rfl, hrep5, hg5⟩; have B5 := grownBy_after (w := w2) (by simp (maxDischargeDepth := 12) [Below.refl, Below.drew, Below.alloc, Below.setCell, B4, y4, y3, y6]) hg5; have HR5 : Hid _ := hrep5; clear hrep5 hg5)
    go_ret
    exact ⟨rfl, l', HP.out, HS.out, HR5.out, by have g := grownBy_after HB2.out B5; rw [HBMS.out] at g; exact g⟩
end Go.Proofs.YtldmcdeibiclkaaGreat
