/-
  Contract: step: one call of a script of the kinds up to Keys: the answer is the reference's, and all is as it must be behind it.
  Contract: plays, of the kinds up to Keys: for every script the answer is true; nothing that was there turns.
-/
import Derived.Test.YtldmcdeibiclkaaGreatQ28
import Derived.Test.YtldmcdeibiclkaaGreatQ29
import Derived.Test.YtldmcdeibiclkaaGreatQ20
set_option linter.unusedVariables false
set_option linter.unusedSimpArgs false

namespace Go.Proofs.YtldmcdeibiclkaaGreat
open Go.RowKit

/-- A call whose numbers and texts are such as there are. -/
structure OpOk (o : OpG) : Prop where
  m1 : -9223372036854775808 ≤ o.m
  m2 : o.m ≤ 9223372036854775807
  b1 : -9223372036854775808 ≤ o.b
  b2 : o.b ≤ 9223372036854775807
  s : o.s.size ≤ maxLen
  t : o.t.size ≤ maxLen

set_option maxRecDepth 100000 in
set_option maxHeartbeats 4000000 in
theorem step_new_walk (wb : Nat) (o : OpG) (w : World) (P : World → Prop) (hk : o.kind = 1) (hb : ∀ W, Below w.heap.size w W → Calls Tryz.prog 8 #[.pointer (some ⟨wb, 0, none⟩), .int .i64 o.a] W fun e w' => e = .returned (.bool true) ∧ P w') :
    Calls Tryz.prog 9 #[.pointer (some ⟨wb, 0, none⟩), .agg (opV o)] w fun e w' => e = .returned (.bool true) ∧ P w' := by
  have HB : Hid _ := hb
  obtain ⟨kind, m, a, ob, s, t, c⟩ := o
  have k1 : (kind == 1) = true := beq_iff_eq.2 hk
  clear hk hb
  simp only [opV] at *
  go_enter Tryz.func9, Tryz.ntmps9
  go_wp2_with (first
    | (go_at_call 8; refine Calls.mono (HB.out _ ((Below.refl _ _).alloc (Nat.le_refl _) _)) ?_; rintro e w3 ⟨rfl, hres⟩; have HRes : Hid _ := hres; clear hres))
  go_ret
  exact ⟨rfl, HRes.out⟩

theorem step_any (B N : Nat) (wb : Nat) (pv hv : Value) (gs : List PG) (hs : List Nat) (o : OpG) (w : World) (h : LawB B N w wb pv hv gs hs) (h0 : 0 < gs.length) (hN : N ≤ 1600000000000) (ho : OpOk o) (hk : o.kind ≤ 5) :
    Calls Tryz.prog 9 #[.pointer (some ⟨wb, 0, none⟩), .agg (opV o)] w fun e w' => e = .returned (.bool true) ∧ ∃ pv' hv' gs' hs', LawB B (N + 1) w' wb pv' hv' gs' hs' ∧ 0 < gs'.length ∧ Below B w w' := by
  have hgl := h.gl
  have hhl := h.hl
  have hle : ∀ g ∈ gs, g.l.length ≤ 1900000000000 := fun g hg => by have := h.len g hg; omega
  -- where only the row of holds has turned
  have holdOnly : ∀ {w' : World} {hv' : Value} {hs' : List Nat} {j : Nat}, LawAt w' wb pv hv' gs hs' → hs'.length = hs.length + j → j ≤ 3 → Fr (fun k => k = wb ∨ hv.ownBlock = some k) w w' → (∀ k, hv'.ownBlock = some k → hv.ownBlock = some k ∨ w.heap.size ≤ k) → LawB B (N + 1) w' wb pv hv' gs hs' ∧ Below B w w' := by
    intro w' hv' hs' j h1 h2 h3 h4 h5
    refine ⟨⟨h1, h.wbB, h.pvB, fun k e => ?_, h.gsB, fun g hg => by have := h.len g hg; omega, by omega, by omega, Nat.le_trans h.base h4.size⟩, h4.toBelow (fun k e => ?_) h.base⟩
    · rcases h5 k e with e | e
      · exact h.hvB k e
      · exact Nat.le_trans h.base e
    · rcases e with e | e
      · rw [e]; exact h.wbB
      · exact h.hvB k e
  -- where one pair has turned
  have pairOnly : ∀ {w' : World} {gs' : List PG}, LawAt w' wb pv hv gs' hs → gs'.length = gs.length → (∀ g' ∈ gs', ∃ g ∈ gs, g'.bm = g.bm ∧ g'.rb = g.rb ∧ g'.l.length ≤ g.l.length + 1) → Fr (fun k => ∃ g ∈ gs, mapsX g.bm k ∨ k = g.rb) w w' → LawB B (N + 1) w' wb pv hv gs' hs ∧ Below B w w' := by
    intro w' gs' h1 h2 h3 h4
    refine ⟨⟨h1, h.wbB, h.pvB, h.hvB, fun g' hg' => ?_, fun g' hg' => ?_, by omega, by omega, Nat.le_trans h.base h4.size⟩, h4.toBelow (fun k e => ?_) h.base⟩
    · obtain ⟨g, hg, e1, e2, _⟩ := h3 g' hg'
      rw [e1, e2]; exact h.gsB g hg
    · obtain ⟨g, hg, _, _, e3⟩ := h3 g' hg'
      have := h.len g hg
      omega
    · obtain ⟨g, hg, e | e⟩ := e
      · obtain ⟨n, hn, e⟩ := e
        rw [e]; exact (h.gsB g hg).1 n hn
      · rw [e]; exact (h.gsB g hg).2
  by_cases k1 : o.kind = 1
  · by_cases ha : 0 ≤ o.a ∧ o.a < 4
    · obtain ⟨n, hn⟩ : ∃ n : Nat, o.a = (n : Int) := ⟨o.a.toNat, by omega⟩
      refine step_new_walk wb o w (fun w' => ∃ pv' hv' gs' hs', LawB B (N + 1) w' wb pv' hv' gs' hs' ∧ 0 < gs'.length ∧ Below B w w') k1 fun W hW => ?_
      rw [hn]
      have hb := h.below hW
      refine (begin_ok wb pv hv gs hs n W hb.law (by omega) (by omega)).mono ?_
      rintro e w' ⟨he, g, pv', h1, h2, h3, h4, h5, h6⟩
      refine ⟨he, pv', hv, gs ++ [g], hs, ⟨h1, h.wbB, fun k e => ?_, h.hvB, fun g' hg' => ?_, fun g' hg' => ?_, by simp; omega, by omega, Nat.le_trans hb.base h5.size⟩, by simp, (hW.mono h.base).trans (h5.toBelow (fun k e => ?_) hb.base)⟩
      · rcases h6 k e with e | e
        · exact h.pvB k e
        · exact Nat.le_trans hb.base e
      · rcases List.mem_append.1 hg' with hg' | hg'
        · exact h.gsB g' hg'
        · rw [List.mem_singleton] at hg'
          rw [hg']
          exact ⟨fun m hm => Nat.le_trans hb.base (h3 m hm), Nat.le_trans hb.base h4⟩
      · rcases List.mem_append.1 hg' with hg' | hg'
        · have := h.len g' hg'; omega
        · rw [List.mem_singleton] at hg'
          rw [hg', h2]; simp
      · rcases e with e | e
        · rw [e]; exact h.wbB
        · exact h.pvB k e
    · refine step_new_walk wb o w (fun w' => ∃ pv' hv' gs' hs', LawB B (N + 1) w' wb pv' hv' gs' hs' ∧ 0 < gs'.length ∧ Below B w w') k1 fun W hW => ?_
      refine (begin_bad wb o.a W (by omega)).mono ?_
      rintro e w' ⟨he, rfl⟩
      exact ⟨he, pv, hv, gs, hs, (h.below hW).more (by omega), h0, hW.mono h.base⟩
  · by_cases k2 : o.kind = 2
    · refine (step_put wb pv hv gs hs o w h.law h0 (by omega) ho.m1 ho.m2 k2 hle ho.s ho.t ho.b1 ho.b2).mono ?_
      rintro e w' ⟨he, gs', h1, h2, h3, h4⟩
      obtain ⟨a, b⟩ := pairOnly h1 h2 h3 h4
      exact ⟨he, pv, hv, gs', hs, a, by omega, b⟩
    · by_cases k3 : o.kind = 3
      · refine (step_del wb pv hv gs hs o w h.law h0 (by omega) ho.m1 ho.m2 k3 hle ho.s ho.t ho.b1 ho.b2).mono ?_
        rintro e w' ⟨he, gs', h1, h2, h3, h4⟩
        obtain ⟨a, b⟩ := pairOnly h1 h2 h3 h4
        exact ⟨he, pv, hv, gs', hs, a, by omega, b⟩
      · by_cases k4 : o.kind = 4
        · refine (step_get wb pv hv gs hs o w h.law h0 (by omega) ho.m1 ho.m2 k4 (by omega) hle ho.s ho.t).mono ?_
          rintro e w' ⟨he, hv', hs', h1, h2, h3, h4⟩
          obtain ⟨a, b⟩ := holdOnly h1 h2 (by omega) h3 h4
          exact ⟨he, pv, hv', gs, hs', a, h0, b⟩
        · by_cases k5 : o.kind = 5
          · refine (step_keys wb pv hv gs hs o w h.law h0 (by omega) ho.m1 ho.m2 k5 (by omega) hle).mono ?_
            rintro e w' ⟨he, hv', hs', h1, h2, h3, h4⟩
            obtain ⟨a, b⟩ := holdOnly h1 h2 (by omega) h3 h4
            exact ⟨he, pv, hv', gs, hs', a, h0, b⟩
          · refine (step_none wb pv hv gs hs o w h.law h0 (by omega) ho.m1 ho.m2 (by omega)).mono ?_
            rintro e w' ⟨he, hb⟩
            exact ⟨he, pv, hv, gs, hs, (h.below hb).more (by omega), h0, hb.mono h.base⟩
end Go.Proofs.YtldmcdeibiclkaaGreat

namespace Go.Proofs.YtldmcdeibiclkaaGreat
open Go.RowKit

/-- A script lies in memory. -/
def ScriptAt (w : World) (ad : Option Addr) (n : Nat) (ops : Nat → OpG) : Prop :=
  n = 0 ∨ ∃ b off, ad = some ⟨b, off, none⟩ ∧ b < w.heap.size ∧ ∀ i, i < n → ∀ j, j < 10 → w.cell? ⟨b, off + i * 10 + j, none⟩ = (opV (ops i))[j]?

theorem law_start (w : World) : LawB w.heap.size 0 (w.alloc (.cells #[.slice none 0 0, .slice none 0 0, .slice none 0 0] 30)) w.heap.size (.slice none 0 0) (.slice none 0 0) [] [] where
  law := ⟨heap_alloc_new w _, World.ownsRow_nil _ _ _ _, World.ownsRow_nil _ _ _ _, fun g hg => by simp at hg, fun i j hi => by simp at hi, fun k hk => by simp at hk⟩
  wbB := Nat.le_refl _
  pvB := fun k e => by cases e
  hvB := fun k e => by cases e
  gsB := fun g hg => by simp at hg
  len := fun g hg => by simp at hg
  gl := by simp
  hl := by simp
  base := by simp

/-- A replica more, at the start. -/
theorem begin_law (B : Nat) (wb : Nat) (pv hv : Value) (gs : List PG) (hs : List Nat) (n : Nat) (w : World) (h : LawB B 0 w wb pv hv gs hs) (hg : gs.length < 2) (hn : n < 4) :
    Calls Tryz.prog 8 #[.pointer (some ⟨wb, 0, none⟩), .int .i64 n] w fun e w' => e = .returned (.bool true) ∧ ∃ pv' gs', LawB B 0 w' wb pv' hv gs' hs ∧ gs'.length = gs.length + 1 ∧ Below B w w' := by
  refine (begin_ok wb pv hv gs hs n w h.law (by omega) hn).mono ?_
  rintro e w' ⟨he, g, pv', h1, h2, h3, h4, h5, h6⟩
  have hl := h.hl
  refine ⟨he, pv', gs ++ [g], ⟨h1, h.wbB, fun k e => ?_, h.hvB, fun g' hg' => ?_, fun g' hg' => ?_, by simp; omega, by omega, Nat.le_trans h.base h5.size⟩, by simp, h5.toBelow (fun k e => ?_) h.base⟩
  · rcases h6 k e with e | e
    · exact h.pvB k e
    · exact Nat.le_trans h.base e
  · rcases List.mem_append.1 hg' with hg' | hg'
    · exact h.gsB g' hg'
    · rw [List.mem_singleton] at hg'
      rw [hg']
      exact ⟨fun m hm => Nat.le_trans h.base (h3 m hm), Nat.le_trans h.base h4⟩
  · rcases List.mem_append.1 hg' with hg' | hg'
    · exact h.len g' hg'
    · rw [List.mem_singleton] at hg'
      rw [hg', h2]; simp
  · rcases e with e | e
    · rw [e]; exact h.wbB
    · exact h.pvB k e

/-- The law's world is there, with a replica, and so many calls have been made. -/
def Played (B N : Nat) (w : World) (wb : Nat) : Prop := ∃ pv hv gs hs, LawB B N w wb pv hv gs hs ∧ 0 < gs.length

theorem step_played (B N wb : Nat) (o : OpG) (w : World) (h : Played B N w wb) (hN : N ≤ 1600000000000) (ho : OpOk o) (hk : o.kind ≤ 5) :
    Calls Tryz.prog 9 #[.pointer (some ⟨wb, 0, none⟩), .agg (opV o)] w fun e w' => e = .returned (.bool true) ∧ Played B (N + 1) w' wb ∧ Below B w w' := by
  obtain ⟨pv, hv, gs, hs, hl, h0⟩ := h
  refine (step_any B N wb pv hv gs hs o w hl h0 hN ho hk).mono ?_
  rintro e w' ⟨he, pv', hv', gs', hs', h1, h2, h3⟩
  exact ⟨he, ⟨pv', hv', gs', hs', h1, h2⟩, h3⟩
theorem looks_played (B N wb : Nat) (w : World) (h : Played B N w wb) (hN : N ≤ 1600000000000) :
    Calls Tryz.prog 10 #[.pointer (some ⟨wb, 0, none⟩)] w fun e w' => e = .returned (.bool true) ∧ ∃ q, w' = w.drewN q := by
  obtain ⟨pv, hv, gs, hs, hl, h0⟩ := h
  exact looks_any wb pv hv gs hs w hl.law (by have := hl.hl; omega)
theorem Played.below {B N wb : Nat} {w w' : World} (h : Played B N w wb) (hb : Below w.heap.size w w') : Played B N w' wb := by
  obtain ⟨pv, hv, gs, hs, hl, h0⟩ := h
  exact ⟨pv, hv, gs, hs, hl.below hb, h0⟩
theorem Played.more {B N N' wb : Nat} {w : World} (h : Played B N w wb) (hN : N ≤ N') : Played B N' w wb := by
  obtain ⟨pv, hv, gs, hs, hl, h0⟩ := h
  exact ⟨pv, hv, gs, hs, hl.more hN, h0⟩

def opA : OpG := ⟨2, 0, 0, 0, ⟨#[65]⟩, ⟨#[]⟩, fun _ => 0⟩
def opB : OpG := ⟨2, 0, 0, 0, ⟨#[97]⟩, ⟨#[120]⟩, fun _ => 0⟩
def opC : OpG := ⟨4, 0, 0, 0, ⟨#[97]⟩, ⟨#[]⟩, fun _ => 0⟩
theorem opA_ok : OpOk opA := ⟨by decide, by decide, by decide, by decide, by decide, by decide⟩
theorem opB_ok : OpOk opB := ⟨by decide, by decide, by decide, by decide, by decide, by decide⟩
theorem opC_ok : OpOk opC := ⟨by decide, by decide, by decide, by decide, by decide, by decide⟩

set_option maxRecDepth 100000 in
set_option maxHeartbeats 4000000 in
theorem plays_any (ad : Option Addr) (n cap : Nat) (ops : Nat → OpG) (w : World) (hs : ScriptAt w ad n ops) (hn : n ≤ 1500000000000) (hok : ∀ i, i < n → OpOk (ops i)) :
    Calls Tryz.prog 7 #[.slice ad n cap, .int .i64 2, .int .i64 5, .int .i64 5] w fun e w' => e = .returned (.bool true) ∧ Below w.heap.size w w' := by
  have HS : Hid (ScriptAt w ad n ops) := hs
  have HOk : Hid (∀ i, i < n → OpOk (ops i)) := hok
  have HL0 : Hid _ := law_start w
  clear hs hok
  go_enter Tryz.func7, Tryz.ntmps7
  go_upto_region 2 with fail
  obtain ⟨W0, hW0⟩ : ∃ W, W = w.alloc (.cells #[.slice none 0 0, .slice none 0 0, .slice none 0 0] 30) := ⟨_, rfl⟩
  rw [← hW0]
  have HB0 : Hid (Below w.heap.size w W0) := (by rw [hW0]; exact (Below.refl _ _).alloc (Nat.le_refl _) _)
  have HLw : Hid (LawB w.heap.size 0 W0 w.heap.size (.slice none 0 0) (.slice none 0 0) [] []) := (by rw [hW0]; exact HL0.out)
  have HA : Hid _ := begin_bad w.heap.size 4 W0 (Or.inr (by omega))
  have HB : Hid (Calls Tryz.prog 8 #[.pointer (some ⟨w.heap.size, 0, none⟩), .int .i64 0] W0 fun e w' => e = .returned (.bool true) ∧ ∃ pv' gs', LawB w.heap.size 0 w' w.heap.size pv' (.slice none 0 0) gs' [] ∧ gs'.length = ([] : List PG).length + 1 ∧ Below w.heap.size W0 w') := begin_law w.heap.size w.heap.size _ _ [] [] 0 W0 HLw.out (by simp) (by omega)
  clear hW0 HL0
  go_upto_region 3 with (first
    | (go_at_call 8; refine Calls.mono HA.out ?_; rintro e w1 ⟨rfl, rfl⟩))
  go_upto_region 4 with (first
    | (go_at_call 8; refine Calls.mono HB.out ?_; rintro e w2 ⟨rfl, pv1, gs1, hl1, hg1, hb1⟩))
  have HB1 : Hid (Below w.heap.size w w2) := HB0.out.trans hb1
  have HC : Hid (Calls Tryz.prog 8 #[.pointer (some ⟨w.heap.size, 0, none⟩), .int .i64 1] w2 fun e w' => e = .returned (.bool true) ∧ Played w.heap.size 0 w' w.heap.size ∧ Below w.heap.size w2 w') := (begin_law w.heap.size w.heap.size pv1 _ gs1 [] 1 w2 hl1 (by simp at hg1; omega) (by omega)).mono fun e w' ⟨he, pv', gs', h1, h2, h3⟩ => ⟨he, ⟨pv', _, gs', [], h1, by omega⟩, h3⟩
  clear hl1 hg1 hb1
  go_upto_region 7 with (first
    | (go_at_call 8; refine Calls.mono HC.out ?_; rintro e w3 ⟨rfl, hp3, hb3⟩))
  have HP3 : Hid (Played w.heap.size 0 w3 w.heap.size) := hp3
  have HB3 : Hid (Below w.heap.size w w3) := HB1.out.trans hb3
  have HD : Hid (Calls Tryz.prog 9 #[.pointer (some ⟨w.heap.size, 0, none⟩), .agg #[.int .i64 2, .int .i64 0, .int .i64 0, .int .i64 0, .string ⟨#[65]⟩, .string ⟨#[]⟩, .int .i64 0, .int .i64 0, .int .i64 0, .int .i64 0]] w3 fun e w' => e = .returned (.bool true) ∧ Played w.heap.size 1 w' w.heap.size ∧ Below w.heap.size w3 w') := step_played w.heap.size 0 w.heap.size opA w3 hp3 (by omega) opA_ok (by decide)
  clear hp3 hb3
  go_upto_region 8 with (first
    | (go_at_call 9; refine Calls.mono HD.out ?_; rintro e w4 ⟨rfl, hp4, hb4⟩))
  have HB4 : Hid (Below w.heap.size w w4) := HB3.out.trans hb4
  have HE : Hid (Calls Tryz.prog 9 #[.pointer (some ⟨w.heap.size, 0, none⟩), .agg #[.int .i64 2, .int .i64 0, .int .i64 0, .int .i64 0, .string ⟨#[97]⟩, .string ⟨#[120]⟩, .int .i64 0, .int .i64 0, .int .i64 0, .int .i64 0]] w4 fun e w' => e = .returned (.bool true) ∧ Played w.heap.size 2 w' w.heap.size ∧ Below w.heap.size w4 w') := step_played w.heap.size 1 w.heap.size opB w4 hp4 (by omega) opB_ok (by decide)
  clear hp4 hb4
  go_upto_region 9 with (first
    | (go_at_call 9; refine Calls.mono HE.out ?_; rintro e w5 ⟨rfl, hp5, hb5⟩))
  have HB5 : Hid (Below w.heap.size w w5) := HB4.out.trans hb5
  have HF : Hid (Calls Tryz.prog 9 #[.pointer (some ⟨w.heap.size, 0, none⟩), .agg #[.int .i64 4, .int .i64 0, .int .i64 0, .int .i64 0, .string ⟨#[97]⟩, .string ⟨#[]⟩, .int .i64 0, .int .i64 0, .int .i64 0, .int .i64 0]] w5 fun e w' => e = .returned (.bool true) ∧ Played w.heap.size 3 w' w.heap.size ∧ Below w.heap.size w5 w') := step_played w.heap.size 2 w.heap.size opC w5 hp5 (by omega) opC_ok (by decide)
  clear hp5 hb5
  go_upto_region 12 with (first
    | (go_at_call 9; refine Calls.mono HF.out ?_; rintro e w6 ⟨rfl, hp6, hb6⟩))
  have HB6 : Hid (Below w.heap.size w w6) := HB5.out.trans hb6
  have HP6 : Hid (Played w.heap.size 3 w6 w.heap.size) := hp6
  clear hp6 hb6
  go_wp2
  go_loopw [16] (fun i wr => ∃ k : Nat, k ≤ n ∧ i = .int .i64 k ∧ Hid (Played w.heap.size (k + 3) wr w.heap.size) ∧ Hid (Below w.heap.size w wr)) (fun i _ => n - (intOf i).toNat)
  case atStart => exact ⟨0, by omega, rfl, HP6.out, HB6.out⟩
  case round =>
    obtain ⟨k, hk, rfl, hpl, hbl⟩ := hrel
    have HP : Hid (Played w.heap.size (k + 3) wr w.heap.size) := hpl.out
    have HBl : Hid (Below w.heap.size w wr) := hbl.out
    clear hpl hbl
    have k0 : (0 : Int) ≤ (k : Int) := by omega
    by_cases hlt : k < n
    · have k63 : (k : Int) < (n : Int) := by omega
      rcases HS.out with h0 | ⟨b, off, rfl, hb, hcl⟩
      · omega
      have hz := HBl.out.size
      have ho := HOk.out k hlt
      have hc : ∀ j, j < 10 → wr.cell? ⟨b, off + k * 10 + j, none⟩ = (opV (ops k))[j]? := fun j hj => by
        rw [HBl.out.cell (p := ⟨b, off + k * 10 + j, none⟩) hb]; exact hcl k hlt j hj
      generalize ops k = o at *
      have HStep : Hid (o.kind ≤ 5 → ∀ W, Below wr.heap.size wr W → Calls Tryz.prog 9 #[.pointer (some ⟨w.heap.size, 0, none⟩), .agg (opV o)] W fun e w' => e = .returned (.bool true) ∧ Played w.heap.size (k + 1 + 3) w' w.heap.size ∧ Below w.heap.size W w') := fun hk5 W hW => by
        have := step_played w.heap.size (k + 3) w.heap.size o W (HP.out.below hW) (by omega) ho hk5
        rw [show k + 1 + 3 = k + 3 + 1 by omega]
        exact this
      have HLook : Hid (∀ W, Played w.heap.size (k + 1 + 3) W w.heap.size → Calls Tryz.prog 10 #[.pointer (some ⟨w.heap.size, 0, none⟩)] W fun e w' => e = .returned (.bool true) ∧ ∃ q, w' = W.drewN q) := fun W hW => looks_played w.heap.size (k + 1 + 3) w.heap.size W hW (by omega)
      have c0 := hc 0 (by omega)
      have c1 := hc 1 (by omega)
      have c2 := hc 2 (by omega)
      have c3 := hc 3 (by omega)
      have c4 := hc 4 (by omega)
      have c5 := hc 5 (by omega)
      have c6 := hc 6 (by omega)
      have c7 := hc 7 (by omega)
      have c8 := hc 8 (by omega)
      have c9 := hc 9 (by omega)
      rw [Nat.add_zero] at c0
      obtain ⟨kind, m, a, ob, s, t, c⟩ := o
      simp only [opV] at *
      clear hc hcl ho
      by_cases hk5 : kind ≤ 5
      · have HSt : Hid _ := HStep.out hk5
        go_wp2_with (first
          | (go_at_call 9; refine Calls.mono (HSt.out _ ((Below.refl _ _).alloc (Nat.le_refl _) _)) ?_; rintro e w7 ⟨rfl, hp7, hb7⟩; have HP7 : Hid (Played w.heap.size (k + 1 + 3) w7 w.heap.size) := hp7; have HB7 : Hid (Below w.heap.size w w7) := (HBl.out.alloc hz _).trans hb7; clear hp7 hb7)
          | (go_at_call 10; refine Calls.mono (HLook.out _ HP7.out) ?_; rintro e w8 ⟨rfl, q8, rfl⟩))
        exact ⟨⟨k + 1, by omega, by go_num, HP7.out.below (below_drewN (Below.refl _ _) q8), below_drewN HB7.out q8⟩, by simp [intOf]; omega⟩
      · have hk6 : 5 < kind := by omega
        go_wp2
        exact ⟨⟨k + 1, by omega, by go_num, (HP.out.below ((Below.refl _ _).alloc (Nat.le_refl _) _)).more (by omega), HBl.out.alloc hz _⟩, by simp [intOf]; omega⟩
    · obtain rfl : k = n := by omega
      go_wp2
      go_ret
      exact ⟨rfl, HBl.out⟩
end Go.Proofs.YtldmcdeibiclkaaGreat
