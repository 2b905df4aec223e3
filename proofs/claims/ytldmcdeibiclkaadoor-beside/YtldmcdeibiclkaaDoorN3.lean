/-
  Contract: right: where a replica's versions are the writes that are known of and not gone, in order, the answer is true.
-/
import Derived.Test.YtldmcdeibiclkaaDoorN2
import Derived.Deep.CutRange
set_option linter.unusedVariables false
set_option linter.unusedSimpArgs false
namespace Go.Proofs.YtldmcdeibiclkaaDoor
open Go.RowKit

/-- A write: by whom, to which key, which one, what. -/
abbrev Wr := Nat × Nat × Int × ByteArray
def encW (x : Wr) : List Value := [.int .i64 x.1, .int .i64 x.2.1, .int .i64 x.2.2.1, .string x.2.2.2]
def flatW (l : List Wr) : List Value := l.flatMap encW

theorem neqVer (W : World) (r n : Int) (s : ByteArray) : (binOp .neq 56 (.agg #[.int .i64 r, .int .i64 n, .string s]) (.agg #[.int .i64 r, .int .i64 n, .string s])).run Tryd.prog W = .ok (.bool false) W := by
  have u3 := Tryd.underlying3
  have u9 := Tryd.underlying9
  have a3 := Tryd.isAgg3
  have z3 := Tryd.sizeOf3
  have a9 := Tryd.isAgg9
  have z9 := Tryd.sizeOf9
  have hS : Tryd.prog.underlying 56 = some (.struct (Tryd.prog.fieldsOf 56)) := by kernel_rfl
  have hp : Tryd.prog.stoodInHeld 56 = false := by kernel_rfl
  rw [run_neq_struct, show (10000 : Nat) = 9999 + 1 from rfl, run_equalIn_agg W 9999 56 _ _ hS hp]
  simp only [Program.fieldsOf, Tryd.underlying56]
  go_simp

/-- The writes of one to a key that are known of and not gone, of the first m. -/
def ofBy (ws : List Wr) (kn go : Nat → Bool) (k b m : Nat) : List Ver :=
  (List.range m).flatMap fun j => match ws[j]? with
    | some x => if x.2.1 = k ∧ x.1 = b ∧ kn j = true ∧ go j = false then [(b, x.2.2.1, x.2.2.2)] else []
    | none => []
/-- The versions that a replica must have of a key. -/
def expected (ws : List Wr) (kn go : Nat → Bool) (k : Nat) : List Ver := (List.range 4).flatMap fun b => ofBy ws kn go k b ws.length

theorem flatW_get (l : List Wr) (k : Nat) (h : k < l.length) :
    (flatW l)[k * 4]? = some (.int .i64 l[k].1) ∧ (flatW l)[k * 4 + 1]? = some (.int .i64 l[k].2.1) ∧ (flatW l)[k * 4 + 2]? = some (.int .i64 l[k].2.2.1) ∧ (flatW l)[k * 4 + 3]? = some (.string l[k].2.2.2) := by
  induction l generalizing k with
  | nil => simp at h
  | cons v l ih =>
    have e : flatW (v :: l) = encW v ++ flatW l := by simp [flatW]
    cases k with
    | zero => simp [e, encW]
    | succ k =>
      have h' : k < l.length := by simpa using h
      have := ih k h'
      rw [e]
      simp only [List.getElem_cons_succ]
      have e0 : (k + 1) * 4 = k * 4 + 4 := by omega
      rw [e0]
      have hl : (encW v).length = 4 := rfl
      refine ⟨?_, ?_, ?_, ?_⟩
      · rw [List.getElem?_append_right (by omega), hl, show k * 4 + 4 - 4 = k * 4 by omega]; exact this.1
      · rw [List.getElem?_append_right (by omega), hl, show k * 4 + 4 + 1 - 4 = k * 4 + 1 by omega]; exact this.2.1
      · rw [List.getElem?_append_right (by omega), hl, show k * 4 + 4 + 2 - 4 = k * 4 + 2 by omega]; exact this.2.2.1
      · rw [List.getElem?_append_right (by omega), hl, show k * 4 + 4 + 3 - 4 = k * 4 + 3 by omega]; exact this.2.2.2

theorem row_cell {w : World} {B : Nat} {e : TypeId} {size : Nat} {v : Value} {n : Nat} {xs : List Value} (h : w.ownsRow B e size v n xs) (hn : 0 < n) :
    ∃ g cap, v = .slice (some ⟨g, 0, none⟩) n cap ∧ n ≤ cap ∧ cap ≤ maxLen ∧ ∀ t u, t < n * size → xs[t]? = some u → w.cell? ⟨g, t, none⟩ = some u := by
  rcases h.2 with ⟨_, h0⟩ | ⟨g, cap, cur, hv, _, hh, hnc, hc, _, ht⟩
  · omega
  · refine ⟨g, cap, hv, hnc, hc, fun t u htl hu => ?_⟩
    rw [← ht, List.getElem?_take, if_pos htl] at hu
    simp only [World.cell?, hh]
    simpa using hu

theorem row_len {w : World} {B : Nat} {e : TypeId} {size : Nat} {v : Value} {n : Nat} {xs : List Value} (h : w.ownsRow B e size v n xs) : ∃ ad cap, v = .slice ad n cap := by
  rcases h.2 with ⟨h1, h2⟩ | ⟨g, cap, cur, hv, _⟩
  · exact ⟨_, _, by rw [h1, h2]⟩
  · exact ⟨_, _, hv⟩

/-- What has been met when b's first j writes have been looked at. -/
def pre (ws : List Wr) (kn go : Nat → Bool) (k b j : Nat) : List Ver := ((List.range b).flatMap fun b' => ofBy ws kn go k b' ws.length) ++ ofBy ws kn go k b j

theorem ofBy_hit {ws : List Wr} {kn go : Nat → Bool} {k b j : Nat} {x : Wr} (hx : ws[j]? = some x) (h1 : x.2.1 = k) (h2 : x.1 = b) (h3 : kn j = true) (h4 : go j = false) : ofBy ws kn go k b (j + 1) = ofBy ws kn go k b j ++ [(b, x.2.2.1, x.2.2.2)] := by
  simp [ofBy, List.range_succ, List.flatMap_append, hx, h1, h2, h3, h4]
theorem ofBy_miss {ws : List Wr} {kn go : Nat → Bool} {k b j : Nat} {x : Wr} (hx : ws[j]? = some x) (h : ¬ (x.2.1 = k ∧ x.1 = b ∧ kn j = true ∧ go j = false)) : ofBy ws kn go k b (j + 1) = ofBy ws kn go k b j := by
  simp only [ofBy, List.range_succ, List.flatMap_append, List.flatMap_cons, List.flatMap_nil, hx, if_neg h, List.append_nil]
theorem ofBy_prefix (ws : List Wr) (kn go : Nat → Bool) (k b : Nat) {j m : Nat} (h : j ≤ m) : ofBy ws kn go k b j <+: ofBy ws kn go k b m := by
  obtain ⟨d, rfl⟩ := Nat.exists_eq_add_of_le h
  induction d with
  | zero => exact List.prefix_refl _
  | succ d ih =>
    refine (ih (by omega)).trans ?_
    rw [← Nat.add_assoc]
    simp only [ofBy, List.range_succ, List.flatMap_append]
    exact List.prefix_append _ _
theorem pre_next (ws : List Wr) (kn go : Nat → Bool) (k b : Nat) : pre ws kn go k b ws.length = pre ws kn go k (b + 1) 0 := by
  simp [pre, List.range_succ, List.flatMap_append, ofBy]
theorem pre_four (ws : List Wr) (kn go : Nat → Bool) (k : Nat) : pre ws kn go k 4 0 = expected ws kn go k := by
  simp [pre, expected, ofBy]
theorem pre_prefix (ws : List Wr) (kn go : Nat → Bool) (k : Nat) {b j : Nat} (hb : b < 4) (hj : j ≤ ws.length) : pre ws kn go k b j <+: expected ws kn go k := by
  have h1 : pre ws kn go k b j <+: pre ws kn go k b ws.length := by
    obtain ⟨t, ht⟩ := ofBy_prefix ws kn go k b hj
    exact ⟨t, by simp only [pre, List.append_assoc, ht]⟩
  rw [pre_next] at h1
  refine h1.trans ?_
  have h2 : ∀ d c, c + d = 4 → pre ws kn go k c 0 <+: expected ws kn go k := by
    intro d
    induction d with
    | zero =>
      intro c hc
      have hc4 : c = 4 := by omega
      subst hc4
      rw [pre_four]
      exact List.prefix_refl _
    | succ d ih =>
      intro c hc
      refine List.IsPrefix.trans ?_ (ih (c + 1) (by omega))
      rw [← pre_next]
      exact ⟨ofBy ws kn go k c ws.length, by simp [pre, ofBy]⟩
  exact h2 (3 - b) (b + 1) (by omega)
theorem pre_hit {ws : List Wr} {kn go : Nat → Bool} {k b j : Nat} {x : Wr} (hb : b < 4) (hx : ws[j]? = some x) (h1 : x.2.1 = k) (h2 : x.1 = b) (h3 : kn j = true) (h4 : go j = false) :
    pre ws kn go k b (j + 1) = pre ws kn go k b j ++ [(b, x.2.2.1, x.2.2.2)] ∧ (expected ws kn go k)[(pre ws kn go k b j).length]? = some (b, x.2.2.1, x.2.2.2) := by
  have e : pre ws kn go k b (j + 1) = pre ws kn go k b j ++ [(b, x.2.2.1, x.2.2.2)] := by
    simp only [pre, ofBy_hit hx h1 h2 h3 h4, List.append_assoc]
  have hj : j < ws.length := (List.getElem?_eq_some_iff.1 hx).1
  refine ⟨e, ?_⟩
  obtain ⟨t, ht⟩ := pre_prefix ws kn go k hb (show j + 1 ≤ ws.length by omega)
  rw [← ht, e]
  simp
theorem pre_miss {ws : List Wr} {kn go : Nat → Bool} {k b j : Nat} {x : Wr} (hx : ws[j]? = some x) (h : ¬ (x.2.1 = k ∧ x.1 = b ∧ kn j = true ∧ go j = false)) : pre ws kn go k b (j + 1) = pre ws kn go k b j := by
  simp only [pre, ofBy_miss hx h]

/-- What right reads: the net's block, the writes, the replica, the keys. -/
structure RightIn (w : World) (bt br b : Nat) (bm : Nat → Nat) (i nr capr num : Nat) (A R : Array Value) (wv : Value) (K : Know) (ws : List Wr) (kn go : Nat → Nat → Bool) (ks : Nat → ByteArray) : Prop where
  hT : w.heap[bt]? = some (.cells A 44)
  h0 : A[0]? = some (.slice (some ⟨br, 0, none⟩) nr capr)
  hR : w.heap[br]? = some (.cells R 45)
  hi : i < nr ∧ i < 4 ∧ nr ≤ 4
  hRi : R[i]? = some (.pointer (some ⟨b, 0, none⟩))
  hrep : RepAt w b bm num K
  hK : KOk K
  h1 : A[1]? = some wv
  hw : w.ownsRow 0 83 4 wv ws.length (flatW ws)
  hlen : ws.length ≤ 80
  hkn : ∀ k j, k < 3 → j < 80 → A[2 + i * 240 + k * 80 + j]? = some (.bool (kn k j))
  hgo : ∀ k j, k < 3 → j < 80 → A[962 + i * 240 + k * 80 + j]? = some (.bool (go k j))
  hks : ∀ k, k < 3 → w.cell? ⟨0, k, none⟩ = some (.string (ks k)) ∧ keyB (ks k) = true ∧ (ks k).size ≤ 8
  hex : ∀ k, k < 3 → (K (ks k)).2 = expected ws (kn k) (go k) k

set_option maxRecDepth 100000 in
set_option maxHeartbeats 400000 in
theorem right_true (bt br b : Nat) (bm : Nat → Nat) (i nr capr num : Nat) (A R : Array Value) (wv : Value) (K : Know) (ws : List Wr) (kn go : Nat → Nat → Bool) (ks : Nat → ByteArray) (w : World) (h : RightIn w bt br b bm i nr capr num A R wv K ws kn go ks) :
    Calls Tryd.prog 15 #[.pointer (some ⟨bt, 0, none⟩), .int .i64 i] w fun e w' => e = .returned (.bool true) ∧ Below w.heap.size w w' := by
  have H : Hid _ := h
  have hi0 : (0 : Int) ≤ (i : Int) := by omega
  have hi1 : (i : Int) < (nr : Int) := by have := h.hi; omega
  have hi4 : (i : Int) < 4 := by have := h.hi; omega
  have hnr : nr ≤ 4 := h.hi.2.2
  clear h
  go_enter Tryd.func15, Tryd.ntmps15
  go_wp2
  go_loopw [5] (fun kk wr => ∃ k : Nat, k ≤ 3 ∧ kk = .int .i64 k ∧ Below w.heap.size w wr) (fun kk _ => 3 - (intOf kk).toNat)
  case atStart => exact ⟨0, by omega, rfl, Below.refl _ _⟩
  case round =>
    obtain ⟨k, hk, rfl, hbel⟩ := hrel
    by_cases hlt : k < 3
    · have k3 : (k : Int) < 3 := by omega
      have k0 : (0 : Int) ≤ (k : Int) := by omega
      have hmk : Hid (∀ w', Below w.heap.size w w' → w'.cell? ⟨bt, 0, none⟩ = some (.slice (some ⟨br, 0, none⟩) nr capr) ∧ w'.cell? ⟨br, i, none⟩ = some (.pointer (some ⟨b, 0, none⟩)) ∧ w'.cell? ⟨0, k, none⟩ = some (.string (ks k)) ∧ RepAt w' b bm num K) := fun w' hw =>
        ⟨cell_keep (by rw [(cells_of0 H.out.hT).1]; exact H.out.h0) hw, cell_keep (by rw [(cells_of0 H.out.hR).1]; exact H.out.hRi) hw, cell_keep (H.out.hks k hlt).1 hw, H.out.hrep.below hw⟩
      have zr := hbel.size
      have hget : Hid (∀ W, RepAt W b bm num K → Calls Tryd.prog 10 #[.pointer (some ⟨b, 0, none⟩), .string (ks k)] W fun e w' => ∃ v', e = .returned (.tuple #[v', ctxV (K (ks k)).1, .int .i64 0]) ∧ w'.ownsRow W.heap.size 56 3 v' (K (ks k)).2.length (flatV (K (ks k)).2) ∧ Below W.heap.size W w') := fun W hW => get_ok b num bm K (ks k) W hW H.out.hK (H.out.hks k hlt).2.1 (H.out.hks k hlt).2.2
      go_wp2_with fail
      go_cut [6, 7, 8] from 13 to 113 (fun lv cv ev wx => ev = .int .i64 0 ∧ Hid (wx.ownsRow 0 56 3 lv (K (ks k)).2.length (flatV (K (ks k)).2)) ∧ Below w.heap.size w wx)
      case first =>
        go_region_held3 (fun w' => w'.cell? ⟨bt, 0, none⟩ = some (.slice (some ⟨br, 0, none⟩) nr capr) ∧ w'.cell? ⟨br, i, none⟩ = some (.pointer (some ⟨b, 0, none⟩)) ∧ w'.cell? ⟨0, k, none⟩ = some (.string (ks k)) ∧ RepAt w' b bm num K)
          ((refine hmk.out _ ?_; first | (simp (maxDischargeDepth := 12) [Below.refl, Below.drew, Below.alloc, Below.setCell, hbel, zr]; done) | (simp (maxDischargeDepth := 12) [Below.refl, Below.drew, Below.alloc, Below.setCell, B1, z1, zr]; done)))
          (first | (go_at_call 10; refine (hget.out _ (by go_split_ands; assumption)).mono ?_; rintro e w1 ⟨v', rfl, hown, hb1⟩; obtain ⟨q1, q2⟩ := oldReads hb1; have O1 := hown; (try simp only [World.size_drew, size_allocW] at O1); have B1 : Below w.heap.size w w1 := afterAny hb1 (by simp (maxDischargeDepth := 12) [Below.refl, Below.drew, Below.alloc, hbel, zr]); have z1 := B1.size; clear hown hb1))
        all_goals
          go_wp2_with fail
          go_meet
          refine ⟨rfl, ?_, ?_⟩
          · first | (refine ownsRow_base (base := wr.heap.size) ?_ (Nat.zero_le _); simp (maxDischargeDepth := 12) [World.ownsRow.alloc, O1]; done) | (refine ownsRow_base (base := wr.heap.size + 1) ?_ (Nat.zero_le _); simp (maxDischargeDepth := 12) [ownsRow_setCell_below, O1]; done)
          · simp (maxDischargeDepth := 12) [Below.refl, Below.drew, Below.alloc, Below.setCell, B1, z1, zr]
      case rest =>
        obtain ⟨rfl, hl, hbx⟩ := hcut
        have HE : Hid ((K (ks k)).2 = expected ws (kn k) (go k) k) := H.out.hex k hlt
        go_wp2
        go_loopw [9, 10] (fun av bv wy => ∃ bb : Nat, bb ≤ 4 ∧ bv = .int .i64 bb ∧ av = .int .i64 (pre ws (kn k) (go k) k bb 0).length ∧ Hid (wy.ownsRow 0 56 3 u6 (K (ks k)).2.length (flatV (K (ks k)).2)) ∧ Below w.heap.size w wy) (fun _ bv _ => 4 - (intOf bv).toNat)
        case atStart => exact ⟨0, by omega, rfl, rfl, hl, hbx⟩
        case round =>
          obtain ⟨bb, hbb, rfl, rfl, hl2, hbel2⟩ := hrel
          by_cases hb4 : bb < 4
          · have b4 : (bb : Int) < 4 := by omega
            obtain ⟨wad, wcap, hwv⟩ := row_len H.out.hw
            subst hwv
            have hT1 : Hid (∀ W, Below w.heap.size w W → W.cell? ⟨bt, 1, none⟩ = some (.slice wad ws.length wcap)) := fun W hW => cell_keep (by rw [(cells_of0 H.out.hT).1]; exact H.out.h1) hW
            have hlen80 : ws.length ≤ 80 := H.out.hlen
            go_wp2
            go_loopw [9, 11] (fun av jv wz => ∃ j : Nat, j ≤ ws.length ∧ jv = .int .i64 j ∧ av = .int .i64 (pre ws (kn k) (go k) k bb j).length ∧ Hid (wz.ownsRow 0 56 3 u6 (K (ks k)).2.length (flatV (K (ks k)).2)) ∧ Below w.heap.size w wz) (fun _ jv _ => ws.length - (intOf jv).toNat)
            case atStart => exact ⟨0, by omega, rfl, rfl, hl2, hbel2⟩
            case round =>
              obtain ⟨j, hj, rfl, rfl, hl3, hbel3⟩ := hrel
              have t1 := hT1.out _ hbel3
              by_cases hjl : j < ws.length
              · have j1 : (j : Int) < (ws.length : Int) := by omega
                have j80 : (j : Int) < 80 := by omega
                have j0 : (0 : Int) ≤ (j : Int) := by omega
                obtain ⟨gw, cw, hwv, hw1, hw2, hcells⟩ := row_cell H.out.hw (by omega)
                cases hwv
                obtain ⟨f0, f1, f2, f3⟩ := flatW_get ws j hjl
                have x0 := cell_keep (hcells _ _ (by omega) f0) hbel3
                have x1 := cell_keep (hcells _ _ (by omega) f1) hbel3
                have x2 := cell_keep (hcells _ _ (by omega) f2) hbel3
                have x3 := cell_keep (hcells _ _ (by omega) f3) hbel3
                have hxj : Hid (ws[j]? = some ws[j]) := List.getElem?_eq_getElem hjl
                have kc : ‹World›.cell? ⟨bt, 2 + i * 240 + k * 80 + j, none⟩ = some (.bool (kn k j)) := cell_keep (by rw [(cells_of0 H.out.hT).1]; exact H.out.hkn k j hlt (by omega)) hbel3
                have gc : ‹World›.cell? ⟨bt, 962 + i * 240 + k * 80 + j, none⟩ = some (.bool (go k j)) := cell_keep (by rw [(cells_of0 H.out.hT).1]; exact H.out.hgo k j hlt (by omega)) hbel3
                have hbt : bt < wr.heap.size := World.block_lt_of_cell? _ _ kc
                have hz3 := hbel3.size
                have ho3 : Hid (∀ Z, (wr.alloc Z).ownsRow 0 56 3 u6 (K (ks k)).2.length (flatV (K (ks k)).2)) := fun Z => hl3.out.alloc Z
                have hb3 : Hid (∀ Z, Below w.heap.size w (wr.alloc Z)) := fun Z => hbel3.alloc hz3 Z
                rcases hxx : ws[j] with ⟨xb, xk, xn, xs⟩
                have HX : Hid (ws[j]? = some (xb, xk, xn, xs)) := by rw [← hxx]; exact hxj.out
                rw [hxx] at x0 x1 x2 x3
                simp only at x0 x1 x2 x3
                clear hxx hxj f0 f1 f2 f3 hcells
                by_cases c1 : xk = k
                · subst c1
                  by_cases c2 : xb = bb
                  · subst c2
                    cases c3 : kn xk j with
                    | false =>
                      have Hm : Hid (pre ws (kn xk) (go xk) xk xb (j + 1) = pre ws (kn xk) (go xk) xk xb j) := pre_miss HX.out (fun h => by rw [c3] at h; simp at h)
                      rw [c3] at kc
                      go_wp2
                      exact ⟨⟨j + 1, by omega, by go_num, by rw [Hm.out], ho3.out _, hb3.out _⟩, by simp [intOf]; omega⟩
                    | true =>
                      rw [c3] at kc
                      cases c4 : go xk j with
                      | true =>
                        have Hm : Hid (pre ws (kn xk) (go xk) xk xb (j + 1) = pre ws (kn xk) (go xk) xk xb j) := pre_miss HX.out (fun h => by rw [c4] at h; simp at h)
                        rw [c4] at gc
                        go_wp2
                        exact ⟨⟨j + 1, by omega, by go_num, by rw [Hm.out], ho3.out _, hb3.out _⟩, by simp [intOf]; omega⟩
                      | false =>
                        rw [c4] at gc
                        obtain ⟨hp1, hp2⟩ := pre_hit hb4 HX.out rfl rfl c3 c4
                        rw [← HE.out] at hp2
                        have HLen : Hid ((pre ws (kn xk) (go xk) xk xb (j + 1)).length = (pre ws (kn xk) (go xk) xk xb j).length + 1) := (congrArg List.length hp1).trans (List.length_append)
                        clear hp1
                        obtain ⟨hal, hae⟩ := List.getElem?_eq_some_iff.1 hp2
                        obtain ⟨gl, cl, hu6, hn1, hn2, hlc⟩ := row_cell hl3.out (by omega)
                        obtain ⟨y0, y1, y2⟩ := flatV_get (K (ks xk)).2 _ hal
                        have l0 := hlc _ _ (by omega) y0
                        have l1 := hlc _ _ (by omega) y1
                        have l2 := hlc _ _ (by omega) y2
                        rw [hae] at l0 l1 l2
                        simp only at l0 l1 l2
                        clear hae hp2 y0 y1 y2 hlc
                        have hlz : (K (ks xk)).2.length ≤ 100000 := (H.out.hK (ks xk)).2.1
                        generalize (pre ws (kn xk) (go xk) xk xb j).length = at' at *
                        have hal' : (at' : Int) < ((K (ks xk)).2.length : Int) := by omega
                        have hat0 : (0 : Int) ≤ (at' : Int) := by omega
                        have hd : decide ((K (ks xk)).2.length ≤ at') = false := by simpa using hal
                        have hneq := fun W => neqVer W xb xn xs
                        have hgl : gl < wr.heap.size := World.block_lt_of_cell? _ _ l0
                        subst hu6
                        go_wp2
                        go_quiet (fail)
                        go_wp2
                        exact ⟨⟨j + 1, by omega, by go_num, by rw [HLen.out]; go_num, ho3.out _, below_drewN (hb3.out _) _⟩, by simp [intOf]; omega⟩
                  · have Hm : Hid (pre ws (kn xk) (go xk) xk bb (j + 1) = pre ws (kn xk) (go xk) xk bb j) := pre_miss HX.out (fun h => c2 h.2.1)
                    have d2 : ((xb : Int) != (bb : Int)) = true := by simp; omega
                    go_wp2
                    exact ⟨⟨j + 1, by omega, by go_num, by rw [Hm.out], ho3.out _, hb3.out _⟩, by simp [intOf]; omega⟩
                · have Hm : Hid (pre ws (kn k) (go k) k bb (j + 1) = pre ws (kn k) (go k) k bb j) := pre_miss HX.out (fun h => c1 h.1)
                  have d1 : ((xk : Int) != (k : Int)) = true := by simp; omega
                  go_wp2
                  exact ⟨⟨j + 1, by omega, by go_num, by rw [Hm.out], ho3.out _, hb3.out _⟩, by simp [intOf]; omega⟩
              · have hje : j = ws.length := by omega
                subst hje
                have Hn : Hid _ := pre_next ws (kn k) (go k) k bb
                go_wp2
                exact ⟨⟨bb + 1, by omega, by go_num, by rw [Hn.out], hl3, hbel3⟩, by simp [intOf]; omega⟩
          · have hbe : bb = 4 := by omega
            subst hbe
            have Hf : Hid _ := pre_four ws (kn k) (go k) k
            obtain ⟨lad, lcap, hlv⟩ := row_len hl2.out
            subst hlv
            have hlen : ((pre ws (kn k) (go k) k 4 0).length : Int) = ((K (ks k)).2.length : Int) := by rw [Hf.out, HE.out]
            go_wp2
            exact ⟨⟨k + 1, by omega, by go_num, hbel2⟩, by simp [intOf]; omega⟩
    · have hke : k = 3 := by omega
      subst hke
      go_wp2
      go_ret
      exact ⟨rfl, hbel⟩
end Go.Proofs.YtldmcdeibiclkaaDoor
