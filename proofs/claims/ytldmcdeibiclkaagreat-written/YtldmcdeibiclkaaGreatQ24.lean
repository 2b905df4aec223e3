/-
  Contract: begin: a replica more, with a reference beside it, if it may be.
  Contracts: pick; seen: the context that goes in.
-/
import Derived.Test.YtldmcdeibiclkaaGreatQ19
import Derived.Test.YtldmcdeibiclkaaGreatQ23
import Derived.Deep.RegionHeld3
set_option linter.unusedVariables false
set_option linter.unusedSimpArgs false

namespace Go.Proofs.YtldmcdeibiclkaaGreat
open Go.RowKit

theorem Tryz.infoPair : (Tryz.prog.info? 47).map (fun i => (i.zero, i.size, i.bytes)) = some (some (.agg #[.pointer none, .pointer none]), 2, 16) := by kernel_rfl

set_option maxRecDepth 100000 in
set_option maxHeartbeats 4000000 in
theorem begin_bad (wb : Nat) (n : Int) (w : World) (hn : n < 0 ∨ 3 < n) :
    Calls Tryz.prog 8 #[.pointer (some ⟨wb, 0, none⟩), .int .i64 n] w fun e w' => e = .returned (.bool true) ∧ w' = w := by
  have HN : Hid _ := new_bad n w hn
  rcases hn with hn | hn
  · go_enter Tryz.func8, Tryz.ntmps8
    go_wp2_with (go_at_call 11; refine Calls.mono HN.out ?_; rintro e w1 ⟨rfl, rfl⟩)
    go_ret
    exact ⟨rfl, rfl⟩
  · have hn0 : ¬ n < 0 := by omega
    go_enter Tryz.func8, Tryz.ntmps8
    go_wp2_with (go_at_call 11; refine Calls.mono HN.out ?_; rintro e w1 ⟨rfl, rfl⟩)
    go_ret
    exact ⟨rfl, rfl⟩

set_option maxRecDepth 100000 in
set_option maxHeartbeats 4000000 in
theorem begin_walk (wb : Nat) (pv lv hv : Value) (n k : Nat) (xs : List Value) (w : World) (hblk : w.heap[wb]? = some (.cells #[pv, lv, hv] 30)) (hrow : w.ownsRow 0 47 2 pv k xs) (hk : k ≤ 4000000000000) (hn : n < 4) :
    Calls Tryz.prog 8 #[.pointer (some ⟨wb, 0, none⟩), .int .i64 n] w fun e w' => e = .returned (.bool true) ∧ ∃ (b : Nat) (bm : Nat → Nat) (rb : Nat) (pv' : Value), w.heap.size ≤ b ∧ (∀ m, m < 64 → w.heap.size ≤ bm m) ∧ w.heap.size ≤ rb ∧ RepAt w' b bm n noKeys ∧ w'.heap[rb]? = some (.cells #[.int .i64 n, .slice none 0 0] 45) ∧
      w'.heap[wb]? = some (.cells #[pv', lv, hv] 30) ∧ w'.ownsRow 0 47 2 pv' (k + 1) (xs ++ [.pointer (some ⟨b, 0, none⟩), .pointer (some ⟨rb, 0, none⟩)]) ∧ Fr (fun k => k = wb ∨ pv.ownBlock = some k) w w' ∧ ∀ k, pv'.ownBlock = some k → pv.ownBlock = some k ∨ w.heap.size ≤ k := by
  obtain ⟨ad, cap, rfl, hcap, hlc⟩ := row_lenA hrow
  obtain ⟨i0, hi0, hz0, hz1, hz2⟩ := info_parts Tryz.infoPair
  have hwb : wb < w.heap.size := (Array.getElem?_eq_some_iff.1 hblk).1
  have HN : Hid _ := new_ok n w hn
  have HB : Hid (w.heap[wb]? = some (.cells #[.slice ad k cap, lv, hv] 30)) := hblk
  have HR : Hid (w.ownsRow 0 47 2 (.slice ad k cap) k xs) := hrow
  have HNe : Hid (some wb ≠ (Value.slice ad k cap).ownBlock) := row_apart hrow hblk (by decide)
  have HNe2 : Hid (∀ j, w.heap.size ≤ j → some j ≠ (Value.slice ad k cap).ownBlock) := fun j hj e => by
    have := (hrow.lt j e.symm).2
    omega
  have n0 : ¬ (n : Int) < 0 := by omega
  have n3 : ¬ (3 : Int) < (n : Int) := by omega
  clear hblk hrow
  go_enter Tryz.func8, Tryz.ntmps8
  go_upto_region 6 with (first | (go_at_call 11; refine Calls.mono HN.out ?_; rintro e w1 ⟨b, bm, rfl, hb, hbm, hrep, hb1⟩))
  have HRep : Hid (RepAt w1 b bm n noKeys) := hrep
  have HB1 : Hid (Below w.heap.size w w1) := hb1
  have Hbm : Hid (∀ m, m < 64 → w.heap.size ≤ bm m) := hbm
  have z1 := hb1.size
  have HW1 : Hid (w1.heap[wb]? = some (.cells #[.slice ad k cap, lv, hv] 30)) := heap_keep HB.out hb1
  have HR1 : Hid (w1.ownsRow 0 47 2 (.slice ad k cap) k xs) := ownsRow_below HR.out hb1 (Nat.le_refl _)
  have c1 : w1.cell? ⟨wb, 0, none⟩ = some (.slice ad k cap) := (cells_of0 HW1.out).1 0
  have HT : Hid (∀ A B, ((w1.alloc A).alloc B).heap[w1.heap.size + 1]? = some B) := fun A B => by
    have := heap_alloc_new (w1.alloc A) B
    simpa using this
  have HBw : Hid (∀ A B, ((w1.alloc A).alloc B).heap[wb]? = some (.cells #[.slice ad k cap, lv, hv] 30)) := fun A B => by
    rw [Below.heap_alloc _ _ _ (by simp; omega), Below.heap_alloc _ _ _ (by omega)]; exact HW1.out
  clear hrep hb1 hbm
  go_wp2_with (first
    | (at_builtin; refine wpList_append_lies _ rfl _ _ _ rfl 0 47 i0 _ 2 16 Tryz.underlying26 hi0 hz0 hz1 hz2 rfl (by omega) (.slice ad k cap) _ _ rfl ((HR1.out.alloc _).alloc _) ⟨w1.heap.size + 1, 0, none⟩ 1 1 [.pointer (some ⟨b, 0, none⟩), .pointer (some ⟨w1.heap.size, 0, none⟩)] rfl rfl (World.news_of_block (cs := #[.pointer (some ⟨b, 0, none⟩), .pointer (some ⟨w1.heap.size, 0, none⟩)]) (t := 47) (fr := (0, 0)) (HT.out _ _)) (by simp [Value.oneCell']) (by omega) (by unfold maxLen; omega) (by omega) (Nat.zero_le _) _ rfl ?_; intro gg capn w4 hown4 hgrow4 hat4 hlt4; have HO4 : Hid (w4.ownsRow 0 47 2 (.slice (some ⟨gg, 0, none⟩) (k + 1) capn) (k + 1) (xs ++ [.pointer (some ⟨b, 0, none⟩), .pointer (some ⟨w1.heap.size, 0, none⟩)])) := hown4; have HG4 : Hid (World.grownBy ((w1.alloc (.cells #[.int .i64 n, .slice none 0 0] 45)).alloc (.cells #[.pointer (some ⟨b, 0, none⟩), .pointer (some ⟨w1.heap.size, 0, none⟩)] 47)) w4 (Value.slice ad k cap).ownBlock) := hgrow4; have hb4 := (HG4.out.block wb (by simp; omega) HNe.out).trans (HBw.out _ _); obtain ⟨c4, f4⟩ := cells_of0 hb4; have hc4 := c4 0; have hf4 := f4 0; have Hb4 : Hid (w4.heap[wb]? = some (.cells #[.slice ad k cap, lv, hv] 30)) := hb4; have HA4 : Hid ((Value.slice ad k cap).ownBlock = some gg ∨ gg = ((w1.alloc (.cells #[.int .i64 n, .slice none 0 0] 45)).alloc (.cells #[.pointer (some ⟨b, 0, none⟩), .pointer (some ⟨w1.heap.size, 0, none⟩)] 47)).heap.size) := hat4; clear hown4 hgrow4 hat4 hlt4 hb4 c4 f4))
  go_ret
  have hz := HG4.out.size
  simp only [size_allocW] at hz
  have hF4 : Fr (fun j => j = wb ∨ (Value.slice ad k cap).ownBlock = some j) w1 (w4.setCell ⟨wb, 0, none⟩ (.slice (some ⟨gg, 0, none⟩) (k + 1) capn)) :=
    Fr.setCell (X := fun j => j = wb ∨ (Value.slice ad k cap).ownBlock = some j) ((((Fr.refl _ w1).alloc _).alloc _).grown HG4.out fun j e _ => Or.inr e) (Or.inr (Or.inl rfl)) _
  have hX : ∀ j t cur, w1.heap[j]? = some (.cells cur t) → t ≠ 30 → t ≠ 47 → ¬ (j = wb ∨ (Value.slice ad k cap).ownBlock = some j) := by
    rintro j t cur hj t1 t2 (e | e)
    · rw [e, HW1.out] at hj; injection hj with hj; injection hj with _ hj; exact t1 hj.symm
    · exact row_apart HR1.out hj (Ne.symm t2) e.symm
  refine ⟨rfl, b, bm, w1.heap.size, .slice (some ⟨gg, 0, none⟩) (k + 1) capn, hb, Hbm.out, z1, ?_, ?_, ?_, ?_, ?_, ?_⟩
  · obtain ⟨A, h1, _⟩ := HRep.out.1
    refine hF4.rep HRep.out (hX _ _ _ h1 (by decide) (by decide)) (fun m hm => ?_) (fun g cur hg => hX g _ cur hg (by decide) (by decide))
    rintro (e | e)
    · have := Hbm.out m hm; omega
    · exact HNe2.out _ (Hbm.out m hm) e.symm
  · rw [Below.heap_setCell _ _ _ _ (show w1.heap.size ≠ wb by omega), HG4.out.block w1.heap.size (by simp only [size_allocW]; omega) (HNe2.out _ z1), Below.heap_alloc _ _ _ (by simp)]
    exact heap_alloc_new w1 _
  · rw [heap_set Hb4.out]; rfl
  · refine (Fr.setCell (X := fun k => k = wb) (Fr.refl _ _) (Or.inr rfl) _).rowT HO4.out fun g cur hg e => ?_
    have e' : g = wb := e
    rw [e', Hb4.out] at hg
    exact absurd hg (by simp)
  · exact (Fr.of_below HB1.out).trans hF4
  · intro j e
    have e' : gg = j := by simpa [Value.ownBlock] using e
    subst e'
    rcases HA4.out with h4 | h4
    · exact Or.inl h4
    · right
      rw [h4]; simp; omega

/-- A replica more. -/
theorem begin_ok (wb : Nat) (pv hv : Value) (gs : List PG) (hs : List Nat) (n : Nat) (w : World) (h : LawAt w wb pv hv gs hs) (hk : gs.length ≤ 4000000000000) (hn : n < 4) :
    Calls Tryz.prog 8 #[.pointer (some ⟨wb, 0, none⟩), .int .i64 n] w fun e w' => e = .returned (.bool true) ∧ ∃ (g : PG) (pv' : Value), LawAt w' wb pv' hv (gs ++ [g]) hs ∧ g.l = [] ∧ (∀ m, m < 64 → w.heap.size ≤ g.bm m) ∧ w.heap.size ≤ g.rb ∧ Fr (fun k => k = wb ∨ pv.ownBlock = some k) w w' ∧ ∀ k, pv'.ownBlock = some k → pv.ownBlock = some k ∨ w.heap.size ≤ k := by
  refine (begin_walk wb pv (.slice none 0 0) hv n gs.length (gs.flatMap encP) w h.blk h.prow hk hn).mono ?_
  rintro e w' ⟨rfl, b, bm, rb, pv', hb, hbm, hrb, hrep, href, hblk, hrow, hF, hN⟩
  have hX : ∀ j t cur, w.heap[j]? = some (.cells cur t) → t ≠ 30 → t ≠ 47 → ¬ (j = wb ∨ pv.ownBlock = some j) := by
    rintro j t cur hj t1 t2 (e | e)
    · rw [e, h.blk] at hj; injection hj with hj; injection hj with _ hj; exact t1 hj.symm
    · exact row_apart h.prow hj (Ne.symm t2) e.symm
  have hM : ∀ j es c, w.heap[j]? = some (.map es c) → ¬ (j = wb ∨ pv.ownBlock = some j) := by
    rintro j es c hj (e | e)
    · rw [e, h.blk] at hj; cases hj
    · obtain ⟨cur, hc⟩ : ∃ cur, w.heap[j]? = some (.cells cur 47) := by
        rcases h.prow.2 with ⟨h1, _⟩ | ⟨g, cap, c, hv, _, hh, _⟩
        · rw [h1] at e; cases e
        · rw [hv] at e; simp [Value.ownBlock] at e; subst e; exact ⟨c, hh⟩
      rw [hc] at hj; cases hj
  refine ⟨rfl, ⟨b, bm, n, noKeys, rb, .slice none 0 0, []⟩, pv', ⟨hblk, ?_, ?_, ?_, ?_, ?_⟩, rfl, hbm, hrb, hF, hN⟩
  · rw [List.length_append, List.length_singleton, List.flatMap_append]
    simpa [encP, ptrV] using hrow
  · exact hF.rowT h.hrow fun g cur hg => hX g _ cur hg (by decide) (by decide)
  · intro g hg
    rcases List.mem_append.1 hg with hg | hg
    · obtain ⟨⟨A, kb⟩, km, ⟨C, kr⟩⟩ := (h.pairs g hg).kinds
      refine (h.pairs g hg).frame hF (hX _ _ _ kb (by decide) (by decide)) (fun m hm => ?_) (hX _ _ _ kr (by decide) (by decide)) (fun k cur hk => hX k _ cur hk (by decide) (by decide)) (fun k cur hk => hX k _ cur hk (by decide) (by decide)) (fun k cur hk => hX k _ cur hk (by decide) (by decide))
      obtain ⟨es, c, hm⟩ := km m hm
      exact hM _ es c hm
    · rw [List.mem_singleton] at hg
      subst hg
      refine ⟨hrep, ⟨⟨href, World.ownsRow_nil _ _ _ _⟩, List.Pairwise.nil, fun s => ⟨rfl, World.ownsRow_nil _ _ _ _⟩⟩, KInv.none, hn⟩
  · have old : ∀ i (hi : i < gs.length), (∀ m, m < 64 → gs[i].bm m < w.heap.size) ∧ gs[i].rb < w.heap.size := fun i hi => by
      obtain ⟨_, km, ⟨C, kr⟩⟩ := (h.pairs gs[i] (List.getElem_mem hi)).kinds
      refine ⟨fun m hm => ?_, (Array.getElem?_eq_some_iff.1 kr).1⟩
      obtain ⟨es, c, hm⟩ := km m hm
      exact (Array.getElem?_eq_some_iff.1 hm).1
    intro i j hi hj hne
    rw [List.length_append, List.length_singleton] at hi hj
    by_cases e1 : i < gs.length
    · by_cases e2 : j < gs.length
      · rw [List.getElem_append_left e1, List.getElem_append_left e2]
        exact h.apart i j e1 e2 hne
      · have : j = gs.length := by omega
        subst this
        rw [List.getElem_append_left e1, List.getElem_append_right (by omega)]
        obtain ⟨o1, o2⟩ := old i e1
        simp only [Nat.sub_self, List.getElem_cons_zero]
        refine ⟨fun m m' hm hm' e => ?_, fun e => ?_⟩
        · have := o1 m hm
          have := hbm m' hm'
          have e' : gs[i].bm m = bm m' := e
          omega
        · have e' : gs[i].rb = rb := e
          omega
    · have : i = gs.length := by omega
      subst this
      have e2 : j < gs.length := by omega
      rw [List.getElem_append_left e2, List.getElem_append_right (by omega)]
      obtain ⟨o1, o2⟩ := old j e2
      simp only [Nat.sub_self, List.getElem_cons_zero]
      refine ⟨fun m m' hm hm' e => ?_, fun e => ?_⟩
      · have := o1 m' hm'
        have := hbm m hm
        have e' : bm m = gs[j].bm m' := e
        omega
      · have e' : rb = gs[j].rb := e
        omega
  · intro k hk
    obtain ⟨cur, ht⟩ := (h.holds k hk).typed
    exact (h.holds k hk).frame hF (hX _ _ _ ht (by decide) (by decide)) (fun g cur hg => hX g _ cur hg (by decide) (by decide)) (fun g cur hg => hX g _ cur hg (by decide) (by decide)) (fun g cur _ hg => hX g _ cur hg (by decide) (by decide)) (fun g cur _ hg => hX g _ cur hg (by decide) (by decide))
end Go.Proofs.YtldmcdeibiclkaaGreat

namespace Go.Proofs.YtldmcdeibiclkaaGreat
open Go.RowKit

set_option maxHeartbeats 400000 in
theorem pick_any (c n : Int) (w : World) (h1 : -9223372036854775808 ≤ c) (h2 : c ≤ 9223372036854775807) (hn : 1 ≤ n) (hn2 : n ≤ 9000000000000) :
    Calls Tryz.prog 25 #[.int .i64 c, .int .i64 n] w fun e w' => e = .returned (.int .i64 (pickS c n)) ∧ w' = w := by
  by_cases h : c < 0
  · go_enter Tryz.func25, Tryz.ntmps25
    go_wp2
    go_ret
    refine ⟨ret_int ?_, rfl⟩
    rw [pickS, if_pos h, ← Int.neg_tmod, Int.tmod_eq_emod_of_nonneg (by omega)]
  · go_enter Tryz.func25, Tryz.ntmps25
    go_wp2
    go_ret
    refine ⟨ret_int ?_, rfl⟩
    rw [pickS, if_neg (by omega)]

theorem flatP_get (gs : List PG) (k : Nat) (h : k < gs.length) : (gs.flatMap encP)[k * 2]? = some (.pointer (some ⟨gs[k].b, 0, none⟩)) ∧ (gs.flatMap encP)[k * 2 + 1]? = some (.pointer (some ⟨gs[k].rb, 0, none⟩)) := by
  induction gs generalizing k with
  | nil => simp at h
  | cons v l ih =>
    have e : (v :: l).flatMap encP = encP v ++ l.flatMap encP := by simp
    cases k with
    | zero => simp [e, encP, ptrV]
    | succ k =>
      have h' : k < l.length := by simpa using h
      have := ih k h'
      rw [e]
      have e1 : (k + 1) * 2 = (encP v).length + k * 2 := by simp [encP]; omega
      have e2 : (k + 1) * 2 + 1 = (encP v).length + (k * 2 + 1) := by simp [encP]; omega
      rw [e2, e1, List.getElem?_append_right (by omega), List.getElem?_append_right (by omega)]
      simpa using this

set_option maxRecDepth 100000 in
set_option maxHeartbeats 4000000 in
theorem seen_any (wb : Nat) (pv hv : Value) (gs : List PG) (hs : List Nat) (o : OpG) (w : World) (h : LawAt w wb pv hv gs hs) (h0 : 0 < gs.length) (hlen : gs.length ≤ 4000000000000) (hl : ∀ g ∈ gs, g.l.length ≤ 1900000000000) (hos : o.s.size ≤ maxLen) (hb1 : -9223372036854775808 ≤ o.b) (hb2 : o.b ≤ 9223372036854775807) :
    Calls Tryz.prog 12 #[.pointer (some ⟨wb, 0, none⟩), .agg (opV o)] w fun e w' => ∃ c : Ctx, e = .returned (ctxV c) ∧ Below w.heap.size w w' := by
  have hrow := h.prow
  obtain ⟨ad, cap, rfl, hcap, hlc⟩ := row_lenA hrow
  have c0 : w.cell? ⟨wb, 0, none⟩ = some (.slice ad gs.length cap) := (cells_of0 h.blk).1 0
  have hp := pickS_range o.b gs.length (by omega)
  obtain ⟨p, hpe⟩ : ∃ p : Nat, pickS o.b gs.length = (p : Int) := ⟨(pickS o.b gs.length).toNat, by omega⟩
  have hpl : p < gs.length := by omega
  obtain ⟨g, cap', hsv, _, _, hg, hcells⟩ := row_cellA hrow h0
  cases hsv
  obtain ⟨f0, f1⟩ := flatP_get gs p hpl
  have p0 := hcells _ _ (by omega) f0
  have p1 := hcells _ _ (by omega) f1
  have HGet : Hid (∀ W, Below w.heap.size w W → Calls Tryz.prog 28 #[.pointer (some ⟨gs[p].rb, 0, none⟩), .string o.s] W fun e w' => ∃ v' c', e = .returned (.tuple #[v', ctxV c', .int .i64 (if keyB o.s = true then 0 else 2)]) ∧ ASl w' v' (if keyB o.s = true then (gs[p].K o.s).2 else []) ∧ Below W.heap.size W w') := fun W hW =>
    (refGet_all gs[p].rb gs[p].num gs[p].sv gs[p].l gs[p].K o.s W ((h.pairs _ (List.getElem_mem hpl)).tied.below hW) (hl _ (List.getElem_mem hpl)) hos).mono fun e w' ⟨v', he, hr⟩ => ⟨v', _, he, hr⟩
  have HP : Hid (∀ W, Calls Tryz.prog 25 #[.int .i64 o.b, .int .i64 gs.length] W fun e w' => e = .returned (.int .i64 p) ∧ w' = W) := fun W => by
    have := pick_any o.b gs.length W hb1 hb2 (by omega) (by omega)
    rw [hpe] at this
    exact this
  have hwb : wb < w.heap.size := (Array.getElem?_eq_some_iff.1 h.blk).1
  generalize gs[p].b = pb at *
  generalize gs[p].rb = prb at *
  have i0 : (0 : Int) ≤ (p : Int) := by omega
  have i1 : (p : Int) < (gs.length : Int) := by omega
  clear h hrow hcells f0 f1 hp hpe
  obtain ⟨kind, m, a, ob, s, t, c⟩ := o
  simp only [opV] at *
  by_cases ha : a = 1
  · subst ha
    go_enter Tryz.func12, Tryz.ntmps12
    go_upto_region 3 with fail
    obtain ⟨W0, hW0⟩ : ∃ W, W = (w.alloc (.cells #[.int .i64 kind, .int .i64 m, .int .i64 1, .int .i64 ob, .string s, .string t, .int .i64 (c 0), .int .i64 (c 1), .int .i64 (c 2), .int .i64 (c 3)] 36)).alloc (.cells #[.int .i64 0, .int .i64 0, .int .i64 0, .int .i64 0] 34) := ⟨_, rfl⟩
    rw [← hW0]
    have HB0 : Hid (Below w.heap.size w W0) := (by rw [hW0]; exact ((Below.refl _ _).alloc (Nat.le_refl _) _).alloc (by simp) _)
    have z0 : w.heap.size + 2 = W0.heap.size := by rw [hW0]; simp
    have e1 := (cells_of0 (heap_alloc_new w (.cells #[.int .i64 kind, .int .i64 m, .int .i64 1, .int .i64 ob, .string s, .string t, .int .i64 (c 0), .int .i64 (c 1), .int .i64 (c 2), .int .i64 (c 3)] 36))).1
    have y3 : W0.cell? ⟨w.heap.size, 3, none⟩ = some (.int .i64 ob) := by rw [hW0, World.cell?_alloc_lt _ _ _ (by simp)]; exact e1 3
    have y4 : W0.cell? ⟨w.heap.size, 4, none⟩ = some (.string s) := by rw [hW0, World.cell?_alloc_lt _ _ _ (by simp)]; exact e1 4
    have HC0 : Hid (W0.heap[w.heap.size + 1]? = some (.cells #[.int .i64 0, .int .i64 0, .int .i64 0, .int .i64 0] 34)) := (by
      rw [hW0]
      have := heap_alloc_new (w.alloc (.cells #[.int .i64 kind, .int .i64 m, .int .i64 1, .int .i64 ob, .string s, .string t, .int .i64 (c 0), .int .i64 (c 1), .int .i64 (c 2), .int .i64 (c 3)] 36)) (.cells #[.int .i64 0, .int .i64 0, .int .i64 0, .int .i64 0] 34)
      rw [size_allocW] at this
      exact this)
    have b0 := cell_keep c0 HB0.out
    have b1 := cell_keep p0 HB0.out
    have b2 := cell_keep p1 HB0.out
    have hmk : Hid (∀ w', Below W0.heap.size W0 w' → w'.cell? ⟨wb, 0, none⟩ = some (.slice (some ⟨g, 0, none⟩) gs.length cap) ∧ w'.cell? ⟨g, p * 2, none⟩ = some (.pointer (some ⟨pb, 0, none⟩)) ∧ w'.cell? ⟨g, p * 2 + 1, none⟩ = some (.pointer (some ⟨prb, 0, none⟩)) ∧ w'.cell? ⟨w.heap.size, 3, none⟩ = some (.int .i64 ob)) := fun w' hw => ⟨cell_keep b0 hw, cell_keep b1 hw, cell_keep b2 hw, cell_keep y3 hw⟩
    clear hW0 e1 c0 p0 p1 b0 b1 b2 y3
    go_region_held3 (fun w' => w'.cell? ⟨wb, 0, none⟩ = some (.slice (some ⟨g, 0, none⟩) gs.length cap) ∧ w'.cell? ⟨g, p * 2, none⟩ = some (.pointer (some ⟨pb, 0, none⟩)) ∧ w'.cell? ⟨g, p * 2 + 1, none⟩ = some (.pointer (some ⟨prb, 0, none⟩)) ∧ w'.cell? ⟨w.heap.size, 3, none⟩ = some (.int .i64 ob))
      ((refine hmk.out _ ?_; simp (maxDischargeDepth := 12) [Below.refl, Below.drew, Below.alloc, Below.setCell]; done))
      (first | (go_at_call 25; refine Calls.mono (HP.out _) ?_; rintro e w1 ⟨rfl, rfl⟩))
    all_goals
      have hz1 : w.heap.size < W0.heap.size := by omega
      have HB1 : Hid (Below w.heap.size w (W0.alloc (.cells #[.pointer (some ⟨pb, 0, none⟩), .pointer (some ⟨prb, 0, none⟩)] 47)).drew) := (HB0.out.alloc (by omega) _).drew
      go_wp2_with (first
        | (go_at_call 28; refine Calls.mono (HGet.out _ HB1.out) ?_; rintro e w3 ⟨v3, c', rfl, hown3, hb3⟩; obtain ⟨ad3, cap3, rfl, hcap3, hlc3⟩ := row_lenA hown3; have HB3 : Hid (Below w.heap.size w w3) := HB1.out.trans (hb3.mono HB1.out.size); have hc3 : w3.heap[w.heap.size + 1]? = some (.cells #[.int .i64 0, .int .i64 0, .int .i64 0, .int .i64 0] 34) := heap_keep (W := (W0.alloc (.cells #[.pointer (some ⟨pb, 0, none⟩), .pointer (some ⟨prb, 0, none⟩)] 47)).drew) ((Below.heap_alloc W0 _ _ (show w.heap.size + 1 < W0.heap.size by omega)).trans HC0.out) hb3; have HC3 : Hid (w3.heap[w.heap.size + 1]? = some (.cells #[.int .i64 0, .int .i64 0, .int .i64 0, .int .i64 0] 34)) := hc3; have q0 := (cells_of0 hc3).1 0; have q1 := (cells_of0 hc3).1 1; have q2 := (cells_of0 hc3).1 2; have q3 := (cells_of0 hc3).1 3; have r0 := (cells_of0 hc3).2 0; have r1 := (cells_of0 hc3).2 1; have r2 := (cells_of0 hc3).2 2; have r3 := (cells_of0 hc3).2 3; have hz3 : w.heap.size + 1 < w3.heap.size := (Array.getElem?_eq_some_iff.1 hc3).1; clear hown3 hb3 hc3))
      all_goals
        obtain ⟨W9, hW9⟩ : ∃ W, W = ((((w3.setCell ⟨w.heap.size + 1, 0, none⟩ (.int .i64 (c' 0))).setCell ⟨w.heap.size + 1, 1, none⟩ (.int .i64 (c' 1))).setCell ⟨w.heap.size + 1, 2, none⟩ (.int .i64 (c' 2))).setCell ⟨w.heap.size + 1, 3, none⟩ (.int .i64 (c' 3))).alloc (.cells #[.int .i64 (c' 0), .int .i64 (c' 1), .int .i64 (c' 2), .int .i64 (c' 3)] 34) := ⟨_, rfl⟩
        rw [← hW9]
        have hle : w.heap.size ≤ w.heap.size + 1 := by omega
        have HB9 : Below w.heap.size w W9 := by rw [hW9]; exact ((((HB3.out.setCell hle _).setCell hle _).setCell hle _).setCell hle _).alloc (by simp [World.setCell]; omega) _
        have h9 : W9.heap[w.heap.size + 1]? = some (.cells #[.int .i64 (c' 0), .int .i64 (c' 1), .int .i64 (c' 2), .int .i64 (c' 3)] 34) := by
          rw [hW9, Below.heap_alloc _ _ _ (by simp [World.setCell]; omega), heap_set (heap_set (heap_set (heap_set HC3.out)))]; rfl
        have t0 := (cells_of0 h9).1 0
        have t1 := (cells_of0 h9).1 1
        have t2 := (cells_of0 h9).1 2
        have t3 := (cells_of0 h9).1 3
        clear hW9 h9
        refine bodyPost_ret (v := ctxV c') ?_ rfl ⟨⟨c', rfl⟩, HB9⟩
        simp [results, Tryz.results12, go_sem, t0, t1, t2, t3]
  · have ha' : (a != 1) = true := by simpa using ha
    go_enter Tryz.func12, Tryz.ntmps12
    go_wp2
    refine bodyPost_ret (v := ctxV c) ?_ rfl ⟨c, rfl, ?_⟩
    · simp [results, Tryz.results12, go_sem]
    · simp (maxDischargeDepth := 12) [Below.refl, Below.alloc, Below.setCell]
end Go.Proofs.YtldmcdeibiclkaaGreat
