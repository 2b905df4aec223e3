/-
  Contract: Delete of a key by a sound context.
-/
import Derived.Test.YtldmcdeibiclkaaDoorW9
import Derived.Test.YtldmcdeibiclkaaDoorW14
set_option linter.unusedVariables false
set_option linter.unusedSimpArgs false
namespace Go.Proofs.YtldmcdeibiclkaaDoor
open Go.RowKit

theorem oldReads {W w1 : World} (hb : Below W.heap.size W w1) : (∀ b o, b < W.heap.size → w1.cell? ⟨b, o, none⟩ = W.cell? ⟨b, o, none⟩) ∧ (∀ b o, b < W.heap.size → w1.frozen? ⟨b, o, none⟩ = W.frozen? ⟨b, o, none⟩) :=
  ⟨fun b o h => hb.cell (p := ⟨b, o, none⟩) h, fun b o h => hb.frozen (p := ⟨b, o, none⟩) h⟩

theorem segOf_below (b num : Nat) (bm : Nat → Nat) (key : ByteArray) (w : World) (hs : key.size ≤ maxLen) (h : RepBlk w b bm num) :
    Calls Tryd.prog 19 #[.pointer (some ⟨b, 0, none⟩), .string key] w fun e w' => e = .returned (.map (some (bm (segN key)))) ∧ Below w.heap.size w w' ∧ w'.heap.size = w.heap.size := by
  refine (segOf_any b num bm key w hs h).mono ?_
  rintro e w' ⟨rfl, q, rfl⟩
  exact ⟨rfl, below_drewN (Below.refl _ _) q, rfl⟩

theorem VSl.below {w W : World} {sv : Value} {l : List Ver} (h : VSl w sv l) (hb : Below w.heap.size w W) : VSl W sv l := h.keep fun g hg _ => hb.block g hg

theorem cells_of0 {w : World} {b : Nat} {A : Array Value} {t : TypeId} (h : w.heap[b]? = some (.cells A t)) : (∀ o, w.cell? ⟨b, o, none⟩ = A[o]?) ∧ (∀ o, w.frozen? ⟨b, o, none⟩ = false) :=
  ⟨fun o => by simp [World.cell?, h], fun o => by simp [World.frozen?, h]⟩
theorem afterDrew {w w3 : World} (hb : Below w.drew.heap.size w.drew w3) : Hid (Below w.heap.size w w3) := below_keep (Below.refl _ _).drew hb
theorem afterAllocDrew {w w3 : World} {A : Array Value} {t : TypeId} (hb : Below (w.alloc (.cells A t)).drew.heap.size (w.alloc (.cells A t)).drew w3) : Hid (Below w.heap.size w w3) ∧ (∀ o, w3.cell? ⟨w.heap.size, o, none⟩ = A[o]?) ∧ (∀ o, w3.frozen? ⟨w.heap.size, o, none⟩ = false) :=
  ⟨below_keep ((Below.refl _ _).alloc (Nat.le_refl _) _).drew hb, cells_of0 (heap_keep (W := (w.alloc (.cells A t)).drew) (heap_alloc_new w _) hb)⟩
theorem afterAny {w W w3 : World} (hb : Below W.heap.size W w3) (h : Below w.heap.size w W) : Below w.heap.size w w3 := below_keep h hb
theorem afterSound {w w2 : World} {A B : Array Value} {ta tb : TypeId} (hb2 : Below ((w.alloc (.cells A ta)).alloc (.cells B tb)).heap.size ((w.alloc (.cells A ta)).alloc (.cells B tb)) w2) :
    (∀ o, w2.cell? ⟨w.heap.size + 1, o, none⟩ = B[o]?) ∧ Below w.heap.size w w2 ∧ w.heap.size + 1 < w2.heap.size := by
  have hsz : ((w.alloc (.cells A ta)).alloc (.cells B tb)).heap.size = w.heap.size + 2 := by simp
  rw [hsz] at hb2
  have e1 : w2.heap[w.heap.size + 1]? = some (.cells B tb) := by
    rw [hb2.block _ (by omega)]
    simpa using heap_alloc_new (w.alloc (.cells A ta)) (.cells B tb)
  exact ⟨fun o => by simp [World.cell?, e1], (((Below.refl _ _).alloc (Nat.le_refl _) _).alloc (by simp) _).trans (hb2.mono (by omega)), (Array.getElem?_eq_some_iff.1 e1).1⟩

set_option maxRecDepth 100000 in
set_option maxHeartbeats 400000 in
theorem delete_none (b num : Nat) (bm : Nat → Nat) (K : Know) (key : ByteArray) (seen : Ctx) (w : World) (h : RepAt w b bm num K) (hK : KOk K) (hkey : keyB key = true) (hks : key.size ≤ 8) (hseen : soundB seen = true)
    (hn : (unseenL (K key).2 seen).length = (K key).2.length) :
    Calls Tryd.prog 11 #[.pointer (some ⟨b, 0, none⟩), .string key, ctxV seen] w fun e w' => e = .returned (.int .i64 5) ∧ Below w.heap.size w w' := by
  have hb := h.1
  obtain ⟨es, clock, hm, hk, hall, _⟩ := h.2.1 _ (segN_lt key)
  obtain ⟨sv, hent, hvs⟩ := hall key rfl
  obtain ⟨ad, cap, rfl, hcap⟩ := hvs.len
  have hlk : ∀ W : World, W.heap[bm (segN key)]? = some (.map es clock) → (Instr.lookup 65 (.map (some (bm (segN key)))) (.string key) false).run Tryd.prog W = .ok (stV (K key).1 (.slice ad (K key).2.length cap)) W := fun W hW => by
    rw [lookup_run W _ es clock key hW hk, hent]
  have HSeg : Hid (∀ W, RepBlk W b bm num → Calls Tryd.prog 19 #[.pointer (some ⟨b, 0, none⟩), .string key] W fun e w' => e = .returned (.map (some (bm (segN key)))) ∧ Below W.heap.size W w' ∧ w'.heap.size = W.heap.size) := fun W hW => segOf_below b num bm key W (by unfold maxLen; omega) hW
  have HBlk : Hid (∀ W, Below w.heap.size w W → RepBlk W b bm num) := fun W hW => (h.below hW).1
  have HL : Hid ((K key).2.length ≤ 100000) := (hK key).2.1
  have HR : Hid (∀ v ∈ (K key).2, v.rep < 4) := (hK key).1
  generalize (K key).1 = c at *
  generalize (K key).2 = l at *
  have HV : Hid _ := hvs
  have HN : Hid _ := hn
  have HCK : Hid _ := isKey_any key
  have HSO : Hid _ := sound_any seen
  clear hvs hall hent hK hn h
  generalize hbms : bm (segN key) = bms at *
  have HBMS : Hid _ := hbms
  clear hbms
  go_enter Tryd.func11, Tryd.ntmps11
  go_wp2_with (first
    | (go_at_call 16; refine (HCK.out _ (by unfold maxLen; omega)).mono ?_; rw [hkey]; rintro e w1 ⟨rfl, rfl⟩)
    | (go_at_call 18; refine (HSO.out _).mono ?_; rw [hseen]; rintro e w2 ⟨rfl, hb2⟩; obtain ⟨c2, hB2, hz2⟩ := afterSound hb2; clear hb2))
  have hmk : Hid (∀ w', Below w2.heap.size w2 w' → RepBlk w' b bm num ∧ (Instr.lookup 65 (.map (some bms)) (.string key) false).run Tryd.prog w' = .ok (stV c (.slice ad l.length cap)) w' ∧ VSl w' (.slice ad l.length cap) l ∧ w'.cell? ⟨w.heap.size + 1, 0, none⟩ = some (.int .i64 (seen 0)) ∧ w'.cell? ⟨w.heap.size + 1, 1, none⟩ = some (.int .i64 (seen 1)) ∧ w'.cell? ⟨w.heap.size + 1, 2, none⟩ = some (.int .i64 (seen 2)) ∧ w'.cell? ⟨w.heap.size + 1, 3, none⟩ = some (.int .i64 (seen 3))) := fun w' hw =>
    ⟨HBlk.out _ (below_keep hB2 hw), hlk w' (heap_keep (heap_keep hm hB2) hw), (VSl.below HV.out hB2).below hw, cell_keep (c2 0) hw, cell_keep (c2 1) hw, cell_keep (c2 2) hw, cell_keep (c2 3) hw⟩
  have HB2 : Hid _ := hB2
  clear hB2 c2 hlk
  go_region_held3 (fun w' => RepBlk w' b bm num ∧ (Instr.lookup 65 (.map (some bms)) (.string key) false).run Tryd.prog w' = .ok (stV c (.slice ad l.length cap)) w' ∧ VSl w' (.slice ad l.length cap) l ∧ w'.cell? ⟨w.heap.size + 1, 0, none⟩ = some (.int .i64 (seen 0)) ∧ w'.cell? ⟨w.heap.size + 1, 1, none⟩ = some (.int .i64 (seen 1)) ∧ w'.cell? ⟨w.heap.size + 1, 2, none⟩ = some (.int .i64 (seen 2)) ∧ w'.cell? ⟨w.heap.size + 1, 3, none⟩ = some (.int .i64 (seen 3)))
    ((refine hmk.out _ ?_; first | (simp (maxDischargeDepth := 12) [Below.refl, Below.drew, Below.alloc, Below.setCell]; done) | (simp (maxDischargeDepth := 12) [Below.refl, Below.drew, Below.alloc, Below.setCell, B5, y5]; done) | (simp (maxDischargeDepth := 12) [Below.refl, Below.drew, Below.alloc, Below.setCell, B3, z3]; done)))
    (first | (go_at_call 19; refine Calls.mono (HSeg.out _ (by go_split_ands; assumption)) ?_; rintro e w5 ⟨rfl, hb5, z5⟩; obtain ⟨s1, s2⟩ := oldReads hb5; (try simp only [World.size_drew, size_allocW] at z5); have B5 : Below w2.heap.size w2 w5 := afterAny hb5 (by simp (maxDischargeDepth := 12) [Below.refl, Below.drew, Below.alloc]); have y5 := B5.size; clear hb5) | (go_at_call 24; refine (stDelete_none c _ l seen _ (by go_split_ands; assumption) HR.out HL.out HN.out).mono ?_; rintro e w3 ⟨rfl, hb3⟩; obtain ⟨q1, q2⟩ := oldReads hb3; have B3 : Below w2.heap.size w2 w3 := afterAny hb3 (by simp (maxDischargeDepth := 12) [Below.refl, Below.drew, Below.alloc, B5, y5]); have z3 := B3.size; clear hb3))
  all_goals
    go_wp2_with (go_at_call 22; refine (keep_err b key (fun _ => 0) (.slice none 0 0) 5 _ (by decide)).mono ?_; rintro e w4 ⟨rfl, hb4⟩; have B4 : Below w2.heap.size w2 w4 := afterAny hb4 (by simp (maxDischargeDepth := 12) [Below.refl, Below.drew, Below.alloc, Below.setCell, B3, z3]); clear hb4)
    go_ret
    exact ⟨rfl, below_keep HB2.out B4⟩

theorem size_allocW (w : World) (X : Obj) : (w.alloc X).heap.size = w.heap.size + 1 := by simp
theorem grownBy_after {w W w4 : World} {row : Option Nat} (h : Below w.heap.size w W) (hg : W.grownBy w4 row) : w.grownBy w4 row :=
  ⟨hg.os.trans h.os, hg.tape.trans h.tape, hg.output.trans h.output, Nat.le_trans h.size hg.size, fun k hk hn => (hg.block k (Nat.lt_of_lt_of_le hk h.size) hn).trans (h.block k hk)⟩
theorem VSl.of_own {w : World} {B : Nat} {v : Value} {l : List Ver} (h : w.ownsRow B 91 3 v l.length (flatV l)) : VSl w v l := ownsRow_base h (Nat.zero_le _)

set_option maxRecDepth 100000 in
set_option maxHeartbeats 400000 in
theorem delete_some (b num : Nat) (bm : Nat → Nat) (K : Know) (key : ByteArray) (seen : Ctx) (w : World) (h : RepAt w b bm num K) (hK : KOk K) (hkey : keyB key = true) (hks : key.size ≤ 8) (hseen : soundB seen = true)
    (hn : (unseenL (K key).2 seen).length < (K key).2.length) :
    Calls Tryd.prog 11 #[.pointer (some ⟨b, 0, none⟩), .string key, ctxV seen] w fun e w' => e = .returned (.int .i64 0) ∧ RepAt w' b bm num (updK K key (bothC (K key).1 seen, unseenL (K key).2 seen)) ∧ w.grownBy w' (some (bm (segN key))) := by
  have hb := h.1
  have HRep : Hid _ := h
  obtain ⟨es, clock, hm, hk, hall, _⟩ := h.2.1 _ (segN_lt key)
  obtain ⟨sv, hent, hvs⟩ := hall key rfl
  obtain ⟨ad, cap, rfl, hcap⟩ := hvs.len
  have hlk : ∀ W : World, W.heap[bm (segN key)]? = some (.map es clock) → (Instr.lookup 65 (.map (some (bm (segN key)))) (.string key) false).run Tryd.prog W = .ok (stV (K key).1 (.slice ad (K key).2.length cap)) W := fun W hW => by
    rw [lookup_run W _ es clock key hW hk, hent]
  have HSeg : Hid (∀ W, RepBlk W b bm num → Calls Tryd.prog 19 #[.pointer (some ⟨b, 0, none⟩), .string key] W fun e w' => e = .returned (.map (some (bm (segN key)))) ∧ Below W.heap.size W w' ∧ w'.heap.size = W.heap.size) := fun W hW => segOf_below b num bm key W (by unfold maxLen; omega) hW
  have HBlk : Hid (∀ W, Below w.heap.size w W → RepBlk W b bm num) := fun W hW => (h.below hW).1
  have HL : Hid ((K key).2.length ≤ 100000) := (hK key).2.1
  have HR : Hid (∀ v ∈ (K key).2, v.rep < 4) := (hK key).1
  generalize (K key).1 = c at *
  generalize (K key).2 = l at *
  have HV : Hid _ := hvs
  have HN : Hid _ := hn
  have HCK : Hid _ := isKey_any key
  have HSO : Hid _ := sound_any seen
  clear hvs hall hent hK hn h
  generalize hbms : bm (segN key) = bms at *
  have HBMS : Hid _ := hbms
  clear hbms
  go_enter Tryd.func11, Tryd.ntmps11
  go_wp2_with (first
    | (go_at_call 16; refine (HCK.out _ (by unfold maxLen; omega)).mono ?_; rw [hkey]; rintro e w1 ⟨rfl, rfl⟩)
    | (go_at_call 18; refine (HSO.out _).mono ?_; rw [hseen]; rintro e w2 ⟨rfl, hb2⟩; obtain ⟨c2, hB2, hz2⟩ := afterSound hb2; clear hb2))
  have hmk : Hid (∀ w', Below w2.heap.size w2 w' → RepBlk w' b bm num ∧ (Instr.lookup 65 (.map (some bms)) (.string key) false).run Tryd.prog w' = .ok (stV c (.slice ad l.length cap)) w' ∧ VSl w' (.slice ad l.length cap) l ∧ w'.cell? ⟨w.heap.size + 1, 0, none⟩ = some (.int .i64 (seen 0)) ∧ w'.cell? ⟨w.heap.size + 1, 1, none⟩ = some (.int .i64 (seen 1)) ∧ w'.cell? ⟨w.heap.size + 1, 2, none⟩ = some (.int .i64 (seen 2)) ∧ w'.cell? ⟨w.heap.size + 1, 3, none⟩ = some (.int .i64 (seen 3))) := fun w' hw =>
    ⟨HBlk.out _ (below_keep hB2 hw), hlk w' (heap_keep (heap_keep hm hB2) hw), (VSl.below HV.out hB2).below hw, cell_keep (c2 0) hw, cell_keep (c2 1) hw, cell_keep (c2 2) hw, cell_keep (c2 3) hw⟩
  have HB2 : Hid _ := hB2
  clear hB2 c2 hlk
  go_region_held3 (fun w' => RepBlk w' b bm num ∧ (Instr.lookup 65 (.map (some bms)) (.string key) false).run Tryd.prog w' = .ok (stV c (.slice ad l.length cap)) w' ∧ VSl w' (.slice ad l.length cap) l ∧ w'.cell? ⟨w.heap.size + 1, 0, none⟩ = some (.int .i64 (seen 0)) ∧ w'.cell? ⟨w.heap.size + 1, 1, none⟩ = some (.int .i64 (seen 1)) ∧ w'.cell? ⟨w.heap.size + 1, 2, none⟩ = some (.int .i64 (seen 2)) ∧ w'.cell? ⟨w.heap.size + 1, 3, none⟩ = some (.int .i64 (seen 3)))
    ((refine hmk.out _ ?_; first | (simp (maxDischargeDepth := 12) [Below.refl, Below.drew, Below.alloc, Below.setCell]; done) | (simp (maxDischargeDepth := 12) [Below.refl, Below.drew, Below.alloc, Below.setCell, B5, y5]; done) | (simp (maxDischargeDepth := 12) [Below.refl, Below.drew, Below.alloc, Below.setCell, B3, z3]; done)))
    (first | (go_at_call 19; refine Calls.mono (HSeg.out _ (by go_split_ands; assumption)) ?_; rintro e w5 ⟨rfl, hb5, z5⟩; obtain ⟨s1, s2⟩ := oldReads hb5; (try simp only [World.size_drew, size_allocW] at z5); have B5 : Below w2.heap.size w2 w5 := afterAny hb5 (by simp (maxDischargeDepth := 12) [Below.refl, Below.drew, Below.alloc]); have y5 := B5.size; clear hb5) | (go_at_call 24; refine (stDelete_some c _ l seen _ (by go_split_ands; assumption) HR.out HL.out HN.out).mono ?_; rintro e w3 ⟨v', rfl, hown, hb3⟩; obtain ⟨ad', cap', hv'⟩ := ownsRow_len hown; subst hv'; have O3 := hown; (try simp only [World.size_drew, size_allocW, z5] at O3); clear hown; obtain ⟨q1, q2⟩ := oldReads hb3; have B3 : Below w2.heap.size w2 w3 := afterAny hb3 (by simp (maxDischargeDepth := 12) [Below.refl, Below.drew, Below.alloc, B5, y5]); have z3 := B3.size; clear hb3))
  all_goals
    go_wp2_with (go_at_call 22; go_must (refine (keep_ok b num bm K key (bothC c seen) _ (unseenL l seen) _ (by omega) (RepAt.below HRep.out (below_keep HB2.out (by simp (maxDischargeDepth := 12) [Below.refl, Below.drew, Below.alloc, Below.setCell, B3, z3]))) (by first | (refine VSl.of_own (B := w2.heap.size) ?_; simp (maxDischargeDepth := 12) [World.ownsRow.alloc, O3]; done) | (refine VSl.of_own (B := w2.heap.size + 1) ?_; simp (maxDischargeDepth := 12) [ownsRow_setCell_below, O3]; done))).mono ?_); rintro e w4 ⟨rfl, hrep4, hg4⟩; have B5 := grownBy_after (w := w2) (by simp (maxDischargeDepth := 12) [Below.refl, Below.drew, Below.alloc, Below.setCell, B3, z3]) hg4; have HR4 : Hid _ := hrep4; clear hrep4 hg4)
    go_ret
    exact ⟨rfl, HR4.out, by have g := grownBy_after HB2.out B5; rw [HBMS.out] at g; exact g⟩
end Go.Proofs.YtldmcdeibiclkaaDoor
