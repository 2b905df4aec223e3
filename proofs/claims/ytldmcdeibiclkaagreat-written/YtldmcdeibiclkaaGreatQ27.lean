/-
  Contracts: told: the program's keys are the reference's; keys: asked twice, each answer written full by its owner and held.
  Contract: keys: the keys, asked twice; each answer is written full by its owner and held.
-/
import Derived.Test.YtldmcdeibiclkaaGreatQ26
import Derived.Test.YtldmcdeibiclkaaGreatQ22
import Derived.Test.YtldmcdeibiclkaaGreatQ23
set_option linter.unusedVariables false
set_option linter.unusedSimpArgs false

namespace Go.Proofs.YtldmcdeibiclkaaGreat
open Go.RowKit

theorem encT_get (N : List (List UInt8)) (k : Nat) (h : k < N.length) : (encT N)[k]? = some (.string ⟨N[k].toArray⟩) := by simp [encT, h]

set_option maxRecDepth 100000 in
set_option maxHeartbeats 4000000 in
theorem told_walk (b rb : Nat) (N : List (List UInt8)) (w : World) (hN : N.length ≤ 1900000000000)
    (h1 : ∀ W, Below w.heap.size w W → Calls Tryz.prog 68 #[.pointer (some ⟨b, 0, none⟩)] W fun e w' => ∃ v', e = .returned v' ∧ w'.ownsRow W.heap.size 9 1 v' N.length (encT N) ∧ Below W.heap.size W w')
    (h2 : ∀ W, Below w.heap.size w W → Calls Tryz.prog 69 #[.pointer (some ⟨rb, 0, none⟩)] W fun e w' => ∃ v', e = .returned v' ∧ w'.ownsRow W.heap.size 9 1 v' N.length (encT N) ∧ Below W.heap.size W w') :
    Calls Tryz.prog 46 #[.agg #[.pointer (some ⟨b, 0, none⟩), .pointer (some ⟨rb, 0, none⟩)]] w fun e w' => ∃ v', e = .returned (.tuple #[v', .bool true]) ∧ w'.ownsRow w.heap.size 9 1 v' N.length (encT N) ∧ Below w.heap.size w w' := by
  have H1 : Hid _ := h1
  have H2 : Hid _ := h2
  clear h1 h2
  go_enter Tryz.func46, Tryz.ntmps46
  go_upto_region 2 with (first
    | (go_at_call 68; refine Calls.mono (H1.out _ ((Below.refl _ _).alloc (Nat.le_refl _) _)) ?_; rintro e w1 ⟨v1, rfl, hown1, hb1⟩; obtain ⟨ad1, cap1, rfl, hcap1, hlc1⟩ := row_lenA hown1))
  have HO1 : Hid (w1.ownsRow (w.heap.size + 1) 9 1 (.slice ad1 N.length cap1) N.length (encT N)) := (show w1.ownsRow (w.heap.size + 1) 9 1 (.slice ad1 N.length cap1) N.length (encT N) by have := hown1; simpa using this)
  have B1 : Below (w.heap.size + 1) (w.alloc (.cells #[.pointer (some ⟨b, 0, none⟩), .pointer (some ⟨rb, 0, none⟩)] 47)) w1 := (by have := hb1; simpa using this)
  have z1 : w.heap.size + 1 ≤ w1.heap.size := (by have := B1.size; simpa using this)
  have HB1 : Hid (Below w.heap.size w w1) := ((Below.refl _ _).alloc (Nat.le_refl _) _).trans (B1.mono (by omega))
  have x1 : w1.cell? ⟨w.heap.size, 1, none⟩ = some (.pointer (some ⟨rb, 0, none⟩)) := by
    rw [B1.cell (p := ⟨w.heap.size, 1, none⟩) (show w.heap.size < w.heap.size + 1 by omega)]
    exact (cells_of0 (heap_alloc_new w _)).1 1
  clear hown1 hb1 B1
  go_upto_region 3 with (first
    | (go_at_call 69; refine Calls.mono (H2.out _ HB1.out) ?_; rintro e w3 ⟨v3, rfl, hown3, hb3⟩; obtain ⟨ad3, cap3, rfl, hcap3, hlc3⟩ := row_lenA hown3))
  have HB3 : Hid (Below w.heap.size w w3) := HB1.out.trans (hb3.mono (by omega))
  have HO3 : Hid (w3.ownsRow (w.heap.size + 1) 9 1 (.slice ad1 N.length cap1) N.length (encT N)) := ownsRow_below HO1.out hb3 (Nat.le_refl _)
  have HA3 : Hid (w3.ownsRow w1.heap.size 9 1 (.slice ad3 N.length cap3) N.length (encT N)) := hown3
  clear hown3 hb3 x1
  go_wp2
  go_loopw [6, 7] (fun r i wr => ∃ k : Nat, k ≤ N.length ∧ r = .bool true ∧ i = .int .i64 k ∧ ∃ q, wr = w3.drewN q) (fun _ i _ => N.length - (intOf i).toNat)
  case atStart => exact ⟨0, by omega, by simp, rfl, 0, rfl⟩
  case round =>
    obtain ⟨k, hk, rfl, rfl, q, rfl⟩ := hrel
    have k0 : (0 : Int) ≤ (k : Int) := by omega
    by_cases hlt : k < N.length
    · have k63 : (k : Int) < (N.length : Int) := by omega
      obtain ⟨g1, cap1', hs1, _, _, _, hc1⟩ := row_cellA HO3.out (by omega)
      cases hs1
      obtain ⟨g3, cap3', hs3, _, _, _, hc3⟩ := row_cellA HA3.out (by omega)
      cases hs3
      have f0 := encT_get N k hlt
      have a0 := hc1 _ _ (by omega) f0
      have b0 := hc3 _ _ (by omega) f0
      generalize (⟨N[k].toArray⟩ : ByteArray) = s at *
      clear f0 hc1 hc3
      go_wp2
      go_quiet (fail)
      go_wp2
      exact ⟨⟨k + 1, by omega, by simp, by go_num, _, rfl⟩, by simp [intOf]; omega⟩
    · obtain rfl : k = N.length := by omega
      go_wp2
      go_ret2
      exact ⟨_, rfl, ownsRow_base (show World.ownsRow (w3.drewN q) _ _ _ _ _ _ from HO3.out) (by omega), below_drewN HB3.out q⟩

/-- The program's keys are the reference's. -/
theorem told_pair (g : PG) (w : World) (h : PairAt w g) (hlen : g.l.length ≤ 1900000000000) :
    Calls Tryz.prog 46 #[.agg #[.pointer (some ⟨g.b, 0, none⟩), .pointer (some ⟨g.rb, 0, none⟩)]] w fun e w' => ∃ v' n xs, e = .returned (.tuple #[v', .bool true]) ∧ n ≤ 1900000000000 ∧ w'.ownsRow w.heap.size 9 1 v' n xs ∧ Below w.heap.size w w' := by
  have hl : (namesR g.l).length ≤ 1900000000000 := Nat.le_trans (namesR_length g.l) hlen
  refine (told_walk g.b g.rb (namesR g.l) w hl (fun W hW => ?_) (fun W hW => ?_)).mono ?_
  · refine (keys_any g.b g.num g.bm g.K W (h.rep.below hW) h.inv fun L h1 h2 => Nat.le_trans (subset_names h.tied h1 h2) hlen).mono ?_
    rintro e w' ⟨v', L, rfl, hL, ho, hb⟩
    refine ⟨v', rfl, ?_, hb⟩
    have e1 := sorted_names h.tied hL
    rw [e1, ← sortT_length, e1] at ho
    exact ho
  · have ht := h.tied.below hW
    refine (refKeys_any g.rb g.num g.sv g.l W ht.ref (fun q hq => ?_) hlen).mono ?_
    · obtain ⟨ad, m, cap, e1, e2⟩ := ht.slices q hq
      exact ⟨ad, m, cap, e1, by rw [e2]; have := (h.inv q.1).len; omega⟩
    · rintro e w' ⟨v', rfl, ho, hb⟩
      refine ⟨v', rfl, ?_, hb⟩
      rw [liveK_names] at ho
      rw [show (encT (namesR g.l)).length = (namesR g.l).length by simp [encT]] at ho
      exact ho
  · rintro e w' ⟨v', rfl, ho, hb⟩
    exact ⟨v', _, _, rfl, hl, ho, hb⟩
end Go.Proofs.YtldmcdeibiclkaaGreat

namespace Go.Proofs.YtldmcdeibiclkaaGreat
open Go.RowKit

set_option maxRecDepth 100000 in
set_option maxHeartbeats 4000000 in
theorem lawKeys_any (wb : Nat) (pv hv : Value) (gs : List PG) (hs : List Nat) (g : PG) (w : World) (h : LawAt w wb pv hv gs hs) (hg : g ∈ gs) (hlen : hs.length ≤ 8000000000000) (hl : g.l.length ≤ 1900000000000) :
    Calls Tryz.prog 18 #[.pointer (some ⟨wb, 0, none⟩), .agg #[.pointer (some ⟨g.b, 0, none⟩), .pointer (some ⟨g.rb, 0, none⟩)]] w fun e w' => e = .returned (.bool true) ∧ ∃ (hv' : Value) (hs' : List Nat), LawAt w' wb pv hv' gs hs' ∧ hs'.length = hs.length + 2 ∧ Fr (fun k => k = wb ∨ hv.ownBlock = some k) w w' ∧ ∀ k, hv'.ownBlock = some k → hv.ownBlock = some k ∨ w.heap.size ≤ k := by
  have HG : Hid (∀ W, Below w.heap.size w W → Calls Tryz.prog 46 #[.agg #[.pointer (some ⟨g.b, 0, none⟩), .pointer (some ⟨g.rb, 0, none⟩)]] W fun e w' => ∃ v' n xs, e = .returned (.tuple #[v', .bool true]) ∧ n ≤ 1900000000000 ∧ w'.ownsRow W.heap.size 9 1 v' n xs ∧ Below W.heap.size W w') := fun W hW => told_pair g W ((h.pairs g hg).below hW) hl
  have HS0 : Hid (LawS (fun k => k < w.heap.size) w wb pv hv gs hs) := h.toS
  generalize g.b = b at *
  generalize g.rb = rb at *
  clear h
  go_enter Tryz.func18, Tryz.ntmps18
  go_upto_region 1 with fail
  obtain ⟨W0, hW0⟩ : ∃ W, W = w.alloc (.cells #[.pointer (some ⟨b, 0, none⟩), .pointer (some ⟨rb, 0, none⟩)] 47) := ⟨_, rfl⟩
  rw [← hW0]
  have HB0 : Hid (Below w.heap.size w W0) := (by rw [hW0]; exact (Below.refl _ _).alloc (Nat.le_refl _) _)
  have z0 : W0.heap.size = w.heap.size + 1 := by rw [hW0]; simp
  have x0 : W0.cell? ⟨w.heap.size, 0, none⟩ = some (.pointer (some ⟨b, 0, none⟩)) := by rw [hW0]; exact (cells_of0 (heap_alloc_new w _)).1 0
  have x1 : W0.cell? ⟨w.heap.size, 1, none⟩ = some (.pointer (some ⟨rb, 0, none⟩)) := by rw [hW0]; exact (cells_of0 (heap_alloc_new w _)).1 1
  clear hW0
  go_upto_region 2 with (first
    | (go_at_call 46; refine Calls.mono (HG.out _ HB0.out) ?_; rintro e w1 ⟨v1, n1, xs1, rfl, hn1, hown1, hb1⟩; obtain ⟨ad1, cap1, rfl, hcap1, hlc1⟩ := row_lenA hown1))
  have HO1 : Hid (w1.ownsRow W0.heap.size 9 1 (.slice ad1 n1 cap1) n1 xs1) := hown1
  have HB1 : Hid (Below w.heap.size w w1) := HB0.out.trans (hb1.mono (by omega))
  have y0 := cell_keep x0 hb1
  have y1 := cell_keep x1 hb1
  have z1 := hb1.size
  clear hown1 hb1 x0 x1
  go_upto_region 3 with (first
    | (go_at_call 46; refine Calls.mono (HG.out _ HB1.out) ?_; rintro e w2 ⟨v2, n2, xs2, rfl, hn2, hown2, hb2⟩; obtain ⟨ad2, cap2, rfl, hcap2, hlc2⟩ := row_lenA hown2))
  have HO2 : Hid (w2.ownsRow w1.heap.size 9 1 (.slice ad2 n2 cap2) n2 xs2) := hown2
  have HP2 : Hid (w2.ownsRow W0.heap.size 9 1 (.slice ad1 n1 cap1) n1 xs1) := ownsRow_below HO1.out hb2 (Nat.le_refl _)
  have HB2 : Hid (Below w.heap.size w w2) := HB1.out.trans (hb2.mono (by omega))
  have z2 := hb2.size
  have HS2 : Hid (LawS (fun k => k < w.heap.size) w2 wb pv hv gs hs) := HS0.out.below HB2.out
  have L1 : Hid (∀ k, (Value.slice ad1 n1 cap1).ownBlock = some k → w.heap.size + 1 ≤ k ∧ k < w1.heap.size) := fun k e => by have := row_lo HO1.out e; omega
  have L2 : Hid (∀ k, (Value.slice ad2 n2 cap2).ownBlock = some k → w1.heap.size ≤ k ∧ k < w2.heap.size) := fun k e => row_lo HO2.out e
  have HK2 : Hid _ := keepT_any (fun k => k < w.heap.size) wb pv hv gs hs (.slice ad1 n1 cap1) n1 xs1 w2 HS2.out (by omega) (ownsRow_base HP2.out (Nat.zero_le _)) (by omega) (fun k e => by have := L1.out k e; omega)
  clear hown2 hb2 y0 y1
  go_upto_region 4 with (first
    | (go_at_call 47; refine Calls.mono HK2.out ?_; rintro e w4 ⟨rfl, hv4, h4, hS4, hF4, hN4⟩))
  have HS4 : Hid (LawS (fun k => (k < w.heap.size) ∨ (Value.slice ad1 n1 cap1).ownBlock = some k ∨ w2.heap.size ≤ k) w4 wb pv hv4 gs (hs ++ [h4])) := hS4
  have HF4 : Hid (Fr (fun k => k = wb ∨ hv.ownBlock = some k ∨ (Value.slice ad1 n1 cap1).ownBlock = some k) w2 w4) := hF4
  have HN4 : Hid (∀ k, hv4.ownBlock = some k → hv.ownBlock = some k ∨ w2.heap.size ≤ k) := hN4
  have HQ4 : Hid (w4.ownsRow w1.heap.size 9 1 (.slice ad2 n2 cap2) n2 xs2) := keep_other (hv0 := hv4) HS2.out hF4 HO2.out (by decide) (by decide) (fun k e e' => by have := L1.out k e'; have := L2.out k e; omega)
  have z4 := hF4.size
  have HK4 : Hid _ := keepT_any _ wb pv hv4 gs (hs ++ [h4]) (.slice ad2 n2 cap2) n2 xs2 w4 HS4.out (by simp; omega) (ownsRow_base HQ4.out (Nat.zero_le _)) (by omega) (fun k e => by
    have := L2.out k e
    rintro (e' | e' | e')
    · omega
    · have := L1.out k e'; omega
    · omega)
  clear hS4 hF4 hN4
  go_wp2_with (first
    | (go_at_call 47; refine Calls.mono HK4.out ?_; rintro e w6 ⟨rfl, hv6, h6, hS6, hF6, hN6⟩; have HS6 : Hid _ := hS6.law; have HF6 : Hid (Fr (fun k => k = wb ∨ hv4.ownBlock = some k ∨ (Value.slice ad2 n2 cap2).ownBlock = some k) w4 w6) := hF6; have HN6 : Hid (∀ k, hv6.ownBlock = some k → hv4.ownBlock = some k ∨ w4.heap.size ≤ k) := hN6; clear hS6 hF6 hN6))
  go_ret
  refine ⟨rfl, hv6, hs ++ [h4] ++ [h6], HS6.out, by simp, ?_, fun k e => ?_⟩
  · have z6 := HF6.out.size
    refine ⟨?_, ?_, ?_, by omega, fun k hk hn => ?_⟩
    · rw [HF6.out.os, HF4.out.os, HB2.out.os]
    · rw [HF6.out.tape, HF4.out.tape, HB2.out.tape]
    · rw [HF6.out.output, HF4.out.output, HB2.out.output]
    · have n4 : ¬ hv4.ownBlock = some k := fun e => by
        rcases HN4.out k e with hx | hx
        · exact hn (Or.inr hx)
        · omega
      rw [HF6.out.block k (by omega) (by rintro (e | e | e); exact hn (Or.inl e); exact n4 e; have := L2.out k e; omega), HF4.out.block k (by omega) (by rintro (e | e | e); exact hn (Or.inl e); exact hn (Or.inr e); have := L1.out k e; omega)]
      exact HB2.out.block k hk
  · rcases HN6.out k e with e | e
    · rcases HN4.out k e with e | e
      · exact Or.inl e
      · right; omega
    · right; omega
end Go.Proofs.YtldmcdeibiclkaaGreat
