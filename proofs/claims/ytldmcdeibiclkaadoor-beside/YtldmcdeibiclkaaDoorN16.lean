/-
  Contract: Beside: whatever the numbers, the answer is true; nothing that was there turns.
-/
import Derived.Test.YtldmcdeibiclkaaDoorN15
set_option linter.unusedVariables false
set_option linter.unusedSimpArgs false
namespace Go.Proofs.YtldmcdeibiclkaaDoor
open Go.RowKit

theorem NetAt.below {B : Nat} {w w' : World} {bt : Nat} {g : NetG} (h : NetAt B w bt g) (hb : Below w.heap.size w w') : NetAt B w' bt g :=
  h.fr (X := fun _ => False) (Fr.of_below hb) ⟨fun e => e, fun e => e, fun _ _ e => e, fun _ _ _ _ e => e, fun _ _ _ e => e, fun _ _ _ e => e, fun _ _ _ e => e⟩

theorem NetAt.base {B B' : Nat} {w : World} {bt : Nat} {g : NetG} (h : NetAt B w bt g) (hB : B' ≤ B) : NetAt B' w bt g :=
  { h with
    hB := ⟨Nat.le_trans hB h.hB.1, fun i n hi hn => Nat.le_trans hB (h.hB.2 i n hi hn)⟩
    hw := ownsRow_base h.hw hB
    hmem := fun k hk => ownsRow_base (h.hmem k hk) hB }

theorem net_right {B : Nat} {w : World} {bt i : Nat} {g : NetG} {ks : Nat → ByteArray} (hN : NetAt B w bt g) (hI : NetInv ks g) (hK : KeysAt w ks) (hi : i < g.nr) : RightIn w bt g.br (g.b i) (g.bm i) i g.nr g.capr i g.A g.R g.wv (g.K i) g.ws (g.kn i) (g.go i) ks where
  hT := hN.hT
  h0 := hN.h0
  hR := hN.hR
  hi := ⟨hi, Nat.lt_of_lt_of_le hi hI.hnr.2, hI.hnr.2⟩
  hRi := hN.hRi i hi
  hrep := hN.hrep i hi
  hK := hI.hkok i hi
  h1 := hN.h1
  hw := ownsRow_base hN.hw (Nat.zero_le _)
  hlen := hI.hlen
  hkn := fun k j hk hj => hN.hkn i k j (Nat.lt_of_lt_of_le hi hI.hnr.2) hk hj
  hgo := fun k j hk hj => hN.hgo i k j (Nat.lt_of_lt_of_le hi hI.hnr.2) hk hj
  hks := fun k hk => ⟨hK.cell k hk, (hK.key k hk).1, (hK.key k hk).2⟩
  hex := fun k hk => hI.hex i k hi hk

theorem everywhere_net {B : Nat} {w : World} {bt : Nat} {g : NetG} {ks : Nat → ByteArray} (hN : NetAt B w bt g) (hI : NetInv ks g) (hK : KeysAt w ks) :
    Calls Tryd.prog 7 #[.pointer (some ⟨bt, 0, none⟩)] w fun e w' => e = .returned (.bool true) ∧ Below w.heap.size w w' := by
  refine everywhere_true bt g.nr g.capr (some ⟨g.br, 0, none⟩) w (by rw [(cells_of0 hN.hT).1]; exact hN.h0) hI.hnr.2 fun i hi W hW => ?_
  have hK' : KeysAt W ks := ⟨fun k hk => cell_keep (hK.cell k hk) hW, hK.key, hK.ne⟩
  exact right_true bt g.br (g.b i) (g.bm i) i g.nr g.capr i g.A g.R g.wv (g.K i) g.ws (g.kn i) (g.go i) ks W (net_right (hN.below hW) hI hK' hi)

theorem CodeAt.keep {w w' : World} {ad : Option Addr} {n : Nat} (h : CodeAt w ad n) (hb : Below w.heap.size w w') : CodeAt w' ad n := by
  rcases h with h | ⟨b, off, rfl, hall⟩
  · exact Or.inl h
  · refine Or.inr ⟨b, off, rfl, fun j hj => ?_⟩
    obtain ⟨z, hz, hr⟩ := hall j hj
    exact ⟨z, cell_keep hz hb, hr⟩

theorem DiceAt.keep {w w' : World} {bx n cap a : Nat} {ad : Option Addr} (h : DiceAt w bx ad n cap a) (hb : Below w.heap.size w w') : DiceAt w' bx ad n cap a :=
  ⟨heap_keep h.1 hb, h.2.1, h.2.2.1, h.2.2.2.keep hb⟩
theorem KeysAt.keep {w w' : World} {ks : Nat → ByteArray} (h : KeysAt w ks) (hb : Below w.heap.size w w') : KeysAt w' ks :=
  ⟨fun k hk => cell_keep (h.cell k hk) hb, h.key, h.ne⟩

set_option maxRecDepth 100000 in
set_option maxHeartbeats 20000000 in
theorem beside_true (ad : Option Addr) (n cap : Nat) (ks : Nat → ByteArray) (w : World) (hK : KeysAt w ks) (hC : CodeAt w ad n) (hn : n ≤ 9223372036854775807) (hnb : 0 < n → ∀ b off, ad = some ⟨b, off, none⟩ → b < w.heap.size) (h0 : 0 < w.heap.size) :
    Calls Tryd.prog 3 #[.slice ad n cap] w fun e w' => e = .returned (.bool true) ∧ Below w.heap.size w w' := by
  have ha : Below w.heap.size w (w.alloc (.cells #[.slice ad n cap, .int .i64 0] 25)) := (Below.refl _ _).alloc (Nat.le_refl _) _
  have hD : DiceAt (w.alloc (.cells #[.slice ad n cap, .int .i64 0] 25)) w.heap.size ad n cap 0 := ⟨heap_alloc_new w _, Nat.zero_le _, hn, hC.keep ha⟩
  have hnb' : 0 < n → ∀ b off, ad = some ⟨b, off, none⟩ → b ≠ w.heap.size := fun h b off e => by have := hnb h b off e; omega
  have HNx : Hid (Calls Tryd.prog 5 #[.pointer (some ⟨w.heap.size, 0, none⟩), .int .i64 4] (w.alloc (.cells #[.slice ad n cap, .int .i64 0] 25)) fun e w' => ∃ r : Nat, e = .returned (.int .i64 r) ∧ (r : Int) < 4 ∧ (∃ at2, DiceAt w' w.heap.size ad n cap at2) ∧ Below w.heap.size w w') := by
    refine (next_any w.heap.size ad n cap 0 4 _ hD hnb' (by omega) (by omega)).mono ?_
    rintro e w' ⟨r, at2, rfl, hr, hd, _, hg, _⟩
    refine ⟨r, rfl, hr, ⟨at2, hd⟩, ha.grown hg (by simp) (fun k e => by cases e; exact Nat.le_refl _)⟩
  have HBeg : Hid (∀ (r : Nat) (W : World), (r : Int) < 4 → w.heap.size ≤ W.heap.size → Calls Tryd.prog 4 #[.int .i64 (1 + (r : Int))] W fun e w' => ∃ bt g, e = .returned (.pointer (some ⟨bt, 0, none⟩)) ∧ NetAt w.heap.size w' bt g ∧ NetInv ks g ∧ Below W.heap.size W w') := by
    intro r W hr hW
    have := began_ok W.heap.size (1 + r) ks W (by omega) (by omega) (Nat.le_refl _)
    rw [show ((1 + r : Nat) : Int) = 1 + (r : Int) by omega] at this
    refine this.mono ?_
    rintro e w' ⟨bt, g, rfl, _, h2, h3, h4⟩
    exact ⟨bt, g, rfl, h2.base hW, h3, h4⟩
  have HKA : Hid (KeysAt w ks) := hK
  have HC : Hid (CodeAt w ad n) := hC
  clear hD hK hC ha
  go_enter Tryd.func3, Tryd.ntmps3
  go_wp2_with (first
    | (go_at_call 5; refine Calls.mono HNx.out ?_; rintro e w1 ⟨r, rfl, hr, hd1, hb1⟩; have HD1 : Hid _ := hd1; have HB1 : Hid (Below w.heap.size w w1) := hb1; clear hd1 hb1)
    | (go_at_call 4; refine Calls.mono (HBeg.out r _ hr HB1.out.size) ?_; rintro e w2 ⟨bt, g, rfl, hN, hI, hb2⟩; have HN : Hid (NetAt w.heap.size w2 bt g) := hN; have HI : Hid (NetInv ks g) := hI; have HB2 : Hid (Below w1.heap.size w1 w2) := hb2; clear hN hI hb2))
  have HS : Hid ((∃ g, NetAt w.heap.size w2 bt g ∧ NetInv ks g) ∧ (∃ at2, DiceAt w2 w.heap.size ad n cap at2) ∧ Below w.heap.size w w2) := by
    obtain ⟨at2, hd⟩ := HD1.out
    exact ⟨⟨g, HN.out, HI.out⟩, ⟨at2, hd.keep HB2.out⟩, below_keep HB1.out HB2.out⟩
  clear HN HI HB2 HB1 HD1 HNx HBeg
  go_loopw [5] (fun iv wr => ∃ i : Nat, i ≤ 120 ∧ iv = .int .i64 i ∧ (∃ g, NetAt w.heap.size wr bt g ∧ NetInv ks g) ∧ (∃ at2, DiceAt wr w.heap.size ad n cap at2) ∧ Below w.heap.size w wr) (fun iv _ => 120 - (intOf iv).toNat)
  case atStart => exact ⟨0, by omega, rfl, HS.out⟩
  case round =>
    obtain ⟨i, hi, rfl, ⟨g, hN, hI⟩, ⟨at2, hD⟩, hb⟩ := hrel
    have HBr : Hid (Below w.heap.size w wr) := hb
    have HLoc : Hid (∀ W, Below wr.heap.size wr W → Calls Tryd.prog 6 #[.pointer (some ⟨bt, 0, none⟩), .pointer (some ⟨w.heap.size, 0, none⟩)] W fun e w' => e = .returned (.bool true) ∧ Below w.heap.size w w' ∧ ∃ g', NetAt w.heap.size w' bt g' ∧ NetInv ks g' ∧ ∃ at2, DiceAt w' w.heap.size ad n cap at2) := fun W hW => by
      refine (local_true w.heap.size bt w.heap.size n cap at2 ad g ks W (hN.below hW) hI (HKA.out.keep (below_keep hb hW)) (hD.keep hW) hnb (Nat.le_refl _) h0).mono ?_
      rintro e w' ⟨rfl, h1, g', _, h2, h3, h4⟩
      exact ⟨rfl, (below_keep hb hW).trans h1, g', h2, h3, h4⟩
    obtain ⟨c, f⟩ := cells_of0 hD.1
    have c0 : ‹World›.cell? ⟨w.heap.size, 0, none⟩ = some (.slice ad n cap) := c 0
    have c1 : ‹World›.cell? ⟨w.heap.size, 1, none⟩ = some (.int .i64 at2) := c 1
    clear hb hN hI hD c f HS
    by_cases hi120 : i < 120
    · have i1 : (i : Int) < 120 := by omega
      by_cases hat : at2 < n
      · have a1 : (at2 : Int) < (n : Int) := by omega
        have hd1 : decide ((at2 : Int) < (n : Int)) = true := by simpa using hat
        go_wp2
        go_quiet (fail)
        go_wp2_with (first
          | (go_at_call 6; refine Calls.mono (HLoc.out _ (below_drewN (Below.refl _ _) _)) ?_; rintro e w4 ⟨rfl, hb4, g4, hN4, hI4, hd4⟩; have HB4 : Hid (Below w.heap.size w w4) := hb4; have HN4 : Hid (NetAt w.heap.size w4 bt g4) := hN4; have HI4 : Hid (NetInv ks g4) := hI4; have HD4 : Hid _ := hd4; clear hb4 hN4 hI4 hd4)
          | (go_at_call 7; refine (everywhere_net HN4.out HI4.out (HKA.out.keep HB4.out)).mono ?_; rintro e w5 ⟨rfl, hb5⟩; have HB5 : Hid (Below w4.heap.size w4 w5) := hb5; clear hb5))
        obtain ⟨at5, hd5⟩ := HD4.out
        exact ⟨⟨i + 1, by omega, by go_num, ⟨g4, HN4.out.below HB5.out, HI4.out⟩, ⟨at5, DiceAt.keep hd5 HB5.out⟩, below_keep HB4.out HB5.out⟩, by simp [intOf]; omega⟩
      · have a1 : ¬ (at2 : Int) < (n : Int) := by omega
        have hd1 : decide ((at2 : Int) < (n : Int)) = false := by simpa using hat
        go_wp2
        go_quiet (fail)
        go_wp2
        go_ret
        exact ⟨rfl, below_drewN HBr.out _⟩
    · have i1 : ¬ (i : Int) < 120 := by omega
      have hd0 : decide ((i : Int) < 120) = false := by simpa using i1
      go_wp2
      go_quiet (fail)
      go_wp2
      go_ret
      exact ⟨rfl, below_drewN HBr.out _⟩
end Go.Proofs.YtldmcdeibiclkaaDoor
