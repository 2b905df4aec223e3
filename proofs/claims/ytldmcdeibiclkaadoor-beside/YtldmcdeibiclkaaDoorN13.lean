/-
  Contract: local.
-/
import Derived.Test.YtldmcdeibiclkaaDoorN10
import Derived.Test.YtldmcdeibiclkaaDoorN12
set_option linter.unusedVariables false
set_option linter.unusedSimpArgs false
namespace Go.Proofs.YtldmcdeibiclkaaDoor
open Go.RowKit
attribute [local go_sem ↓] load_set Go.wp_at_zero Go.wp_at_succ build_exec bslice_wp
attribute [local go_sem] okB_ptr ldB_ptr rdB_drew hasB_drew okBld_agg bldM_agg okBS_agg aggC_agg bits_size encM_length

theorem mem_append_done {B : Nat} {wc w2 : World} {bt n size o gk gg L ck : Nat} {u v' : Value} {xs : List Value} {A1 C : Array Value} {t0 : TypeId}
    (hgrow : ((wc.alloc (.cells C t0)).drew).grownBy w2 (Value.slice (some ⟨gk, 0, none⟩) L ck).ownBlock) (hT2 : w2.heap[bt]? = some (.cells A1 44)) (hown : w2.ownsRow B 59 size v' n xs) (hat : (Value.slice (some ⟨gk, 0, none⟩) L ck).ownBlock = some gg ∨ gg = wc.heap.size + 1) :
    (w2.setCell ⟨bt, o, none⟩ u).ownsRow B 59 size v' n xs ∧ Fr (fun b => b = bt ∨ b = gk) wc (w2.setCell ⟨bt, o, none⟩ u) ∧ (gg = gk ∨ wc.heap.size ≤ gg) := by
  refine ⟨?_, ?_, ?_⟩
  · exact (Fr.setCell (X := fun b => b = bt) (Fr.refl _ w2) (Or.inr rfl) u).row' hown (fun b cur hb e => by rw [e, hT2] at hb; exact absurd (tag_ne hb) (by decide))
  · exact Fr.setCell (((Fr.refl (fun b => b = bt ∨ b = gk) wc).alloc _).drew.grown hgrow (fun q hq _ => by cases hq; exact Or.inr rfl)) (Or.inr (Or.inl rfl)) u
  · rcases hat with h | h
    · cases h; exact Or.inl rfl
    · exact Or.inr (by omega)

theorem remember_done {B : Nat} {w wc w2 : World} {bt bx n cap at' k : Nat} {ad : Option Addr} {g : NetG} (hN : NetAt B wc bt g) (hJ : Jx w bx ad n cap wc) (hD : DiceAt w bx ad n cap at') (hB : B ≤ bx) (hnb : 0 < n → ∀ b off, ad = some ⟨b, off, none⟩ → b < B) (hk : k < 3) (hF : Fr (fun b => b = bt ∨ b = g.gm k) wc w2) :
    Below B w w2 ∧ ∃ at2, DiceAt w2 bx ad n cap at2 := by
  obtain ⟨hgB, cur, hgc⟩ := row_block (hN.hmem k hk) (g.gm k) rfl
  have hbw : B ≤ wc.heap.size := by
    have := hN.hB.1
    have := (Array.getElem?_eq_some_iff.1 hN.hT).1
    omega
  have hb : Below B w w2 := (hJ.toBelow hB).trans (hF.toBelow (fun b e => by
    rcases e with e | e
    · rw [e]; exact hN.hB.1
    · rw [e]; exact hgB) hbw)
  refine ⟨hb, dice_fr hD hJ hF (fun e => ?_) hnb hb⟩
  obtain ⟨_, ⟨a, _, h3⟩, _⟩ := hJ
  rcases e with e | e
  · rw [e, hN.hT] at h3; exact absurd (tag_ne h3) (by decide)
  · rw [e, hgc] at h3; exact absurd (tag_ne h3) (by decide)

set_option maxRecDepth 100000 in
set_option maxHeartbeats 20000000 in
theorem local_true (B bt bx n cap at' : Nat) (ad : Option Addr) (g : NetG) (ks : Nat → ByteArray) (w : World) (hN : NetAt B w bt g) (hI : NetInv ks g) (hK : KeysAt w ks) (hD : DiceAt w bx ad n cap at') (hnb : 0 < n → ∀ b off, ad = some ⟨b, off, none⟩ → b < B) (hB : B ≤ bx) (hB0 : 0 < B) :
    Calls Tryd.prog 6 #[.pointer (some ⟨bt, 0, none⟩), .pointer (some ⟨bx, 0, none⟩)] w fun e w' => e = .returned (.bool true) ∧ Below B w w' ∧ ∃ g', g'.nr = g.nr ∧ NetAt B w' bt g' ∧ NetInv ks g' ∧ ∃ at2, DiceAt w' bx ad n cap at2 := by
  have hnb' : 0 < n → ∀ b off, ad = some ⟨b, off, none⟩ → b ≠ bx := fun h0 b off h => by have := hnb h0 b off h; omega
  have HJ : Hid (∀ w', Jx w bx ad n cap w' → NetAt B w' bt g) := fun w' h => hN.fr h.1 (hN.apart_tag hD.1 (by decide) (by decide) (by decide) (by decide) (by decide) (by decide))
  have HDice : Hid (∀ w', Jx w bx ad n cap w' → ∃ at2, DiceAt w' bx ad n cap at2) := fun w' h => h.dice hD.2.2.1 hD.2.2.2 hnb'
  have HNx : Hid (∀ (m : Int) W, 1 ≤ m → m ≤ 1000 → Jx w bx ad n cap W → Calls Tryd.prog 5 #[.pointer (some ⟨bx, 0, none⟩), .int .i64 m] W fun e w' => ∃ r : Nat, e = .returned (.int .i64 r) ∧ (r : Int) < m ∧ Jx w bx ad n cap w') := by
    intro m W h1 h2 hJW
    obtain ⟨a, hW⟩ := HDice.out W hJW
    refine (next_any bx ad n cap a m W hW hnb' h1 h2).mono ?_
    rintro e w' ⟨r, at2, rfl, hr, hd, _, hg, hz⟩
    exact ⟨r, rfl, hr, Jx.next hJW hg hd⟩
  have J0 : Hid (Jx w bx ad n cap w) := Jx.start hD
  have HI : Hid (NetInv ks g) := hI
  have HKA : Hid (KeysAt w ks) := hK
  have c0 : w.cell? ⟨bt, 0, none⟩ = some (.slice (some ⟨g.br, 0, none⟩) g.nr g.capr) := by rw [(cells_of0 hN.hT).1]; exact hN.h0
  have hnr1 : (1 : Int) ≤ (g.nr : Int) := by have := hI.hnr; omega
  have hnr4 : (g.nr : Int) ≤ 4 := by have := hI.hnr; omega
  obtain ⟨wad, wcap, hwv⟩ := row_len hN.hw
  have HT1 : Hid (∀ w', Jx w bx ad n cap w' → w'.cell? ⟨bt, 1, none⟩ = some (.slice wad g.ws.length wcap)) := fun w' h => by rw [(cells_of0 (HJ.out w' h).hT).1, (HJ.out w' h).h1, hwv]
  have HPuts : Hid (∀ (W : World) (i k : Nat), Jx w bx ad n cap W → i < g.nr → k < 3 → g.ws.length < 80 → Calls Tryd.prog 13 #[.pointer (some ⟨bt, 0, none⟩), .pointer (some ⟨bx, 0, none⟩), .int .i64 i, .int .i64 k] W fun e w' => e = .returned (.bool true) ∧ Below B w w' ∧ ∃ g', g'.nr = g.nr ∧ NetAt B w' bt g' ∧ NetInv ks g' ∧ ∃ at2, DiceAt w' bx ad n cap at2) := fun W i k hW hi hk hl => by
    obtain ⟨a, hDW⟩ := HDice.out W hW
    refine (puts_true B bt bx n cap a i k ad g ks W (HJ.out W hW) hI (hK.below hB0 (hW.toBelow hB)) hDW hnb hB hB0 hi hk hl).mono ?_
    rintro e w' ⟨rfl, hb, hr⟩
    exact ⟨rfl, (hW.toBelow hB).trans hb, hr⟩
  have HDels : Hid (∀ (W : World) (i k : Nat), Jx w bx ad n cap W → i < g.nr → k < 3 → Calls Tryd.prog 14 #[.pointer (some ⟨bt, 0, none⟩), .pointer (some ⟨bx, 0, none⟩), .int .i64 i, .int .i64 k] W fun e w' => e = .returned (.bool true) ∧ Below B w w' ∧ ∃ g', g'.nr = g.nr ∧ NetAt B w' bt g' ∧ NetInv ks g' ∧ ∃ at2, DiceAt w' bx ad n cap at2) := fun W i k hW hi hk => by
    obtain ⟨a, hDW⟩ := HDice.out W hW
    refine (deletes_true B bt bx n cap a i k ad g ks W (HJ.out W hW) hI (hK.below hB0 (hW.toBelow hB)) hDW hnb hB hB0 hi hk).mono ?_
    rintro e w' ⟨rfl, hb, hr⟩
    exact ⟨rfl, (hW.toBelow hB).trans hb, hr⟩
  have HD0 : Hid (DiceAt w bx ad n cap at') := hD
  clear hN hI hK hD hwv
  go_enter Tryd.func6, Tryd.ntmps6
  go_wp2_with (first
    | (go_at_call_of 5 (Value.int IntKind.i64 (g.nr : Int)); refine Calls.mono (HNx.out (g.nr : Int) _ hnr1 (by omega) J0.out) ?_; rintro e w1 ⟨ii, rfl, hii, hJ1⟩; have J1 : Hid (Jx w bx ad n cap w1) := hJ1; clear hJ1)
    | (go_at_call_of 5 (Value.int IntKind.i64 (3 : Int)); refine Calls.mono (HNx.out 3 _ (by omega) (by omega) J1.out) ?_; rintro e w2 ⟨kk, rfl, hkk, hJ2⟩; have J2 : Hid (Jx w bx ad n cap w2) := hJ2; clear hJ2)
    | (go_at_call_of 5 (Value.int IntKind.i64 (8 : Int)); refine Calls.mono (HNx.out 8 _ (by omega) (by omega) J2.out) ?_; rintro e w3 ⟨cc, rfl, hcc, hJ3⟩; have J3 : Hid (Jx w bx ad n cap w3) := hJ3; have t1 := HT1.out _ hJ3; clear hJ3)
    | (go_at_call 13; refine Calls.mono (HPuts.out _ ii kk J3.out (by omega) (by omega) (by omega)) ?_; rintro e w4 ⟨rfl, hres⟩; have HRes : Hid _ := hres; clear hres)
    | (go_at_call 14; refine Calls.mono (HDels.out _ ii kk J3.out (by omega) (by omega)) ?_; rintro e w4 ⟨rfl, hres⟩; have HRes : Hid _ := hres; clear hres))
  · go_ret
    exact ⟨rfl, HRes.out⟩
  · go_ret
    exact ⟨rfl, HRes.out⟩
  · go_ret
    exact ⟨rfl, HRes.out⟩
  have hii' : ii < g.nr := by omega
  have hkk' : kk < 3 := by omega
  have hii0 : (0 : Int) ≤ (ii : Int) := by omega
  have hkk0 : (0 : Int) ≤ (kk : Int) := by omega
  have hii4 : (ii : Int) < 4 := by omega
  have N3 : Hid (NetAt B w3 bt g) := HJ.out _ J3.out
  have K3 : Hid (KeysAt w3 ks) := HKA.out.below hB0 (J3.out.toBelow hB)
  have hmk : Hid (∀ w', Below w3.heap.size w3 w' → w'.cell? ⟨bt, 0, none⟩ = some (.slice (some ⟨g.br, 0, none⟩) g.nr g.capr) ∧ w'.cell? ⟨g.br, ii, none⟩ = some (.pointer (some ⟨g.b ii, 0, none⟩)) ∧ w'.cell? ⟨0, kk, none⟩ = some (.string (ks kk)) ∧ RepAt w' (g.b ii) (g.bm ii) ii (g.K ii)) := fun w' hw =>
    ⟨cell_keep (by rw [(cells_of0 N3.out.hT).1]; exact N3.out.h0) hw, cell_keep (by rw [(cells_of0 N3.out.hR).1]; exact N3.out.hRi ii hii') hw, cell_keep (K3.out.cell kk hkk') hw, (N3.out.hrep ii hii').below hw⟩
  have hget : Hid (∀ W, RepAt W (g.b ii) (g.bm ii) ii (g.K ii) → Calls Tryd.prog 10 #[.pointer (some ⟨g.b ii, 0, none⟩), .string (ks kk)] W fun e w' => ∃ v', e = .returned (.tuple #[v', ctxV (g.K ii (ks kk)).1, .int .i64 0]) ∧ w'.ownsRow W.heap.size 56 3 v' (g.K ii (ks kk)).2.length (flatV (g.K ii (ks kk)).2) ∧ Below W.heap.size W w') := fun W hW => get_ok (g.b ii) ii (g.bm ii) (g.K ii) (ks kk) W hW (HI.out.hkok ii hii') (K3.out.key kk hkk').1 (K3.out.key kk hkk').2
  have hw3 : Hid (w.heap.size ≤ w3.heap.size) := J3.out.1.size
  clear t1 HPuts HDels HNx
  generalize hcx : (g.K ii (ks kk)).1 = cx at *
  have HCX : Hid _ := hcx
  clear hcx
  go_cut [8, 9, 10] from 46 to 61 (fun lv pv ev wx => ev = .int .i64 0 ∧ ∃ q, pv = .pointer (some ⟨q, 0, none⟩) ∧ wx.cell? ⟨q, 0, none⟩ = some (.int .i64 (cx 0)) ∧ wx.cell? ⟨q, 1, none⟩ = some (.int .i64 (cx 1)) ∧ wx.cell? ⟨q, 2, none⟩ = some (.int .i64 (cx 2)) ∧ wx.cell? ⟨q, 3, none⟩ = some (.int .i64 (cx 3)) ∧ Jx w bx ad n cap wx)
  case first =>
    go_region_held3 (fun w' => w'.cell? ⟨bt, 0, none⟩ = some (.slice (some ⟨g.br, 0, none⟩) g.nr g.capr) ∧ w'.cell? ⟨g.br, ii, none⟩ = some (.pointer (some ⟨g.b ii, 0, none⟩)) ∧ w'.cell? ⟨0, kk, none⟩ = some (.string (ks kk)) ∧ RepAt w' (g.b ii) (g.bm ii) ii (g.K ii))
      ((refine hmk.out _ ?_; first | (simp (maxDischargeDepth := 12) [Below.refl, Below.drew, Below.alloc, Below.setCell]; done) | (simp (maxDischargeDepth := 12) [Below.refl, Below.drew, Below.alloc, Below.setCell, B4, z4]; done)))
      (first | (go_at_call 10; refine Calls.mono (hget.out _ (by go_split_ands; assumption)) ?_; rintro e w4 ⟨v', rfl, hown, hb4⟩; obtain ⟨q1, q2⟩ := oldReads hb4; have B4 : Below w3.heap.size w3 w4 := afterAny hb4 (by simp (maxDischargeDepth := 12) [Below.refl, Below.drew, Below.alloc]); have z4 := B4.size; have y4 := hb4.size; (try simp only [World.size_drew, size_allocW] at y4); (try (have h4 : w4.heap[w3.heap.size]? = some (.cells #[.int .i64 0, .int .i64 0, .int .i64 0, .int .i64 0] 51) := heap_keep (W := w3.drew.alloc (.cells #[.int .i64 0, .int .i64 0, .int .i64 0, .int .i64 0] 51)) (heap_alloc_new w3.drew _) hb4)); clear hown hb4))
    · go_wp2_with fail
      go_meet
      have e := (cells_of0 (heap_alloc_new w4 (.cells #[.int .i64 (cx 0), .int .i64 (cx 1), .int .i64 (cx 2), .int .i64 (cx 3)] 51))).1
      exact ⟨rfl, w4.heap.size, rfl, e 0, e 1, e 2, e 3, (J3.out.below B4).alloc _⟩
    · go_wp2_with fail
      go_meet
      have e := (cells_of0 (heap_set (o := 3) (v := .int .i64 (cx 3)) (heap_set (o := 2) (v := .int .i64 (cx 2)) (heap_set (o := 1) (v := .int .i64 (cx 1)) (heap_set (o := 0) (v := .int .i64 (cx 0)) h4))))).1
      exact ⟨rfl, w3.heap.size, rfl, e 0, e 1, e 2, e 3, ((((J3.out.below B4).setCell hw3.out _).setCell hw3.out _).setCell hw3.out _).setCell hw3.out _⟩
  case rest =>
    obtain ⟨rfl, q, rfl, e0, e1, e2, e3, hJ⟩ := hcut
    have HJC : Hid (Jx w bx ad n cap wc) := hJ
    clear N3 K3 hmk hget
    have NC : Hid (NetAt B wc bt g) := HJ.out _ hJ
    have tm : wc.cell? ⟨bt, 1922 + kk, none⟩ = some (.slice (some ⟨g.gm kk, 0, none⟩) (g.mem kk).length (g.capm kk)) := by rw [(cells_of0 NC.out.hT).1]; exact NC.out.hmv kk hkk'
    have hL := HI.out.hmemN kk hkk'
    by_cases h30 : (g.mem kk).length < 30
    · have h30' : ((g.mem kk).length : Int) < 30 := by omega
      have hi4n : ii < 4 := by omega
      obtain ⟨r1, q1⟩ := rdB_of (w := wc) (b := bt) (o := 2 + ii * 240 + kk * 80) (s := g.kn ii kk) (fun j hj => by rw [(cells_of0 NC.out.hT).1]; exact NC.out.hkn ii kk j hi4n hkk' hj)
      have hE := encM_arr cx (g.kn ii kk)
      have hT := NC.out.hT
      have hbt := (Array.getElem?_eq_some_iff.1 hT).1
      have HT : Hid (wc.heap[bt]? = some (.cells g.A 44)) := hT
      have hAs := NC.out.hA
      have WC : Hid (wc.ownsRow B 59 84 (.slice (some ⟨g.gm kk, 0, none⟩) (g.mem kk).length (g.capm kk)) (g.mem kk).length (flatM (g.mem kk))) := NC.out.hmem kk hkk'
      have hgb : Hid (∃ cur, wc.heap[g.gm kk]? = some (.cells cur 59 (0, 0))) := (row_block WC.out _ rfl).2
      have hbtn : Hid (¬ g.gm kk = bt) := fun e => by
        obtain ⟨cur, hc⟩ := hgb.out
        rw [e, HT.out] at hc; exact absurd (tag_ne hc) (by decide)
      have hBs : Hid (B ≤ wc.heap.size) := by
        have h1 := NC.out.hB.1
        show _ ≤ _; omega
      have hone : Hid (∀ u ∈ encM (cx, g.kn ii kk), u.oneCell' = true) := encM_one _
      obtain ⟨i0, hi0, hz0, hz1, hz2⟩ := info_parts Tryd.sizeOfMem
      clear hT hJ
      go_wp2
      go_cut [] from 69 to 92 (fun wx => ∃ A2 ga ca, wx.heap[bt]? = some (.cells A2 44) ∧ A2.size = 1939 ∧ A2[1922 + kk]? = some (.slice (some ⟨ga, 0, none⟩) ((g.mem kk).length + 1) ca) ∧ (∀ q, q ≠ 1922 + kk → A2[q]? = g.A[q]?) ∧ wx.ownsRow B 59 84 (.slice (some ⟨ga, 0, none⟩) ((g.mem kk).length + 1) ca) ((g.mem kk).length + 1) (flatM (g.mem kk) ++ encM (cx, g.kn ii kk)) ∧ Fr (fun b => b = bt ∨ b = g.gm kk) wc wx ∧ (ga = g.gm kk ∨ wc.heap.size ≤ ga))
      case first =>
        go_region_law (first | (refine step_append_lies _ rfl _ _ _ rfl B 59 i0 _ 84 112 Tryd.underlying38 hi0 hz0 hz1 hz2 zMem_size (by omega) (.slice (some ⟨g.gm kk, 0, none⟩) (g.mem kk).length (g.capm kk)) _ _ rfl ((World.ownsRow.drew WC.out).alloc _) ⟨wc.heap.size, 0, none⟩ 1 1 (encM (cx, g.kn ii kk)) rfl (encM_length _) (World.news_of_block (cs := (encM (cx, g.kn ii kk)).toArray) (t := 59) (fr := (0, 0)) (heap_alloc_new wc.drew _)) hone.out (by omega) (by unfold maxLen; omega) (by omega) (by have := hBs.out; simp; omega) (wc.heap.size + 1) (by simp) ?_; intro gg capn w2 hown2 hgrow hat hlt2; have T2 : w2.heap[bt]? = some (.cells g.A 44) := (by rw [hgrow.block bt (by simp; omega) (fun e => hbtn.out (by cases e; rfl))]; show (wc.alloc _).heap[bt]? = _; rw [Below.heap_alloc _ _ _ hbt]; exact HT.out); have s1 : w2.cell? ⟨bt, 1922 + kk, none⟩ = some g.A[1922 + kk] := (by rw [(cells_of0 T2).1]; exact Array.getElem?_eq_getElem (by omega)); have s2 : w2.frozen? ⟨bt, 1922 + kk, none⟩ = false := (cells_of0 T2).2 _; have HT2 : Hid (w2.heap[bt]? = some (.cells g.A 44)) := T2; have HO2 : Hid _ := mem_append_done (o := 1922 + kk) (u := .slice (some ⟨gg, 0, none⟩) ((g.mem kk).length + 1) capn) hgrow T2 hown2 hat; clear T2 hown2 hgrow hat hlt2))
        all_goals
          go_wp2_with fail
          go_meet
          obtain ⟨d1, d2, d3⟩ := HO2.out
          refine ⟨_, gg, capn, heap_set HT2.out, ?_, ?_, ?_, d1, d2, d3⟩
          · rw [Array.size_setIfInBounds]; exact hAs
          · rw [Array.getElem?_setIfInBounds, if_pos rfl, if_pos (by omega)]
          · intro q hq
            rw [Array.getElem?_setIfInBounds, if_neg (fun e => hq e.symm)]
      case rest =>
        have HC : Hid _ := hcut
        clear hcut r1 q1 hE tm e0 e1 e2 e3
        go_wp2
        go_ret
        obtain ⟨A2, ga, ca, b1, b2, b3, b4, b5, b6, b7⟩ := HC.out
        obtain ⟨f1, f2⟩ := remember_done NC.out HJC.out HD0.out hB hnb hkk' b6
        refine ⟨rfl, f1, g.remember ks ii kk ga ca A2, rfl, NC.out.remember b6 hkk' (by omega) (fun l hl => (HI.out.hmemN l hl).1) b1 b2 b3 b4 ?_ b7, HI.out.remember A2 hii' hkk' h30, f2⟩
        rw [HCX.out]; exact b5
    · have h30' : ¬ ((g.mem kk).length : Int) < 30 := by omega
      clear hJ
      go_wp2
      go_ret
      exact ⟨rfl, HJC.out.toBelow hB, g, rfl, NC.out, HI.out, HDice.out _ HJC.out⟩
end Go.Proofs.YtldmcdeibiclkaaDoor
