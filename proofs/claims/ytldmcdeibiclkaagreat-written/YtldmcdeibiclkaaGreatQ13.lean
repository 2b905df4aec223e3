/-
  Contract of the reference: put: a version, at its place in a list, in new memory.
  Contract of the reference: both: replica by replica the greater number.
  The reference's replica in memory; contract of key: what is known of a key.
-/
import Derived.Test.YtldmcdeibiclkaaGreatQ12
import Derived.Maps.AppendAt
import Derived.Laws.AppendOwnNone
set_option linter.unusedVariables false
set_option linter.unusedSimpArgs false

namespace Go.Proofs.YtldmcdeibiclkaaGreat
open Go.RowKit

/-- How many at the head stand ahead of a version. -/
def headN (l : List Ver) (v : Ver) : Nat := (l.takeWhile fun u => ltV u v).length
/-- A version at its place. -/
def insL (l : List Ver) (v : Ver) : List Ver := l.take (headN l v) ++ v :: l.drop (headN l v)

theorem headN_stop {l : List Ver} {v : Ver} {k : Nat} (h : ∀ j (hj : j < l.length), j < k → ltV l[j] v = true) (hk : k ≤ l.length) (hs : ∀ hk' : k < l.length, ltV l[k] v = false) : headN l v = k := by
  unfold headN
  induction l generalizing k with
  | nil => simp at hk; simp [hk]
  | cons u l ih =>
    cases k with
    | zero =>
      have := hs (by simp)
      simp at this
      simp [List.takeWhile, this]
    | succ k =>
      have h0 := h 0 (by simp) (by omega)
      simp at h0
      simp only [List.takeWhile, h0, List.length_cons]
      rw [ih (k := k) (fun j hj hjk => by have := h (j + 1) (by simpa using hj) (by omega); simpa using this) (by simpa using hk) (fun hk' => by have := hs (by simpa using hk'); simpa using this)]

theorem grown_own {A w w2 : World} {B size n : Nat} {e : TypeId} {v : Value} {xs : List Value} (hown : w.ownsRow B e size v n xs) (hb : Below B A w) (hB : B ≤ w.heap.size) (hgrow : w.grownBy w2 v.ownBlock) : Below B A w2 := by
  refine hb.grown hgrow hB fun q hq => ?_
  rcases hown.2 with ⟨h1, _⟩ | ⟨g1, cap1, cur1, hv1, hg1, _⟩
  · rw [h1] at hq; cases hq
  · rw [hv1] at hq; simp [Value.ownBlock] at hq; omega
theorem grown_row {A w w2 : World} {B size n : Nat} {e : TypeId} {v : Value} {xs : List Value} {X : Obj} (hown : w.ownsRow B e size v n xs) (hb : Below B A w) (hB : B ≤ w.heap.size) (hgrow : (w.alloc X).grownBy w2 v.ownBlock) : Below B A w2 :=
  grown_own (hown.alloc X) (hb.alloc hB X) (by simp; omega) hgrow
theorem flatV_drop (l : List Ver) (k : Nat) (h : k ≤ l.length) : flatV (l.drop k) = (flatV l).drop (k * 3) := by
  have h1 : flatV l = flatV (l.take k) ++ flatV (l.drop k) := by rw [← flatV_append, List.take_append_drop]
  rw [h1, List.drop_left' (by rw [flatV_length, List.length_take]; omega)]
theorem flatV_one (l : List Ver) : ∀ u ∈ flatV l, u.oneCell' = true := by
  intro u hu
  simp only [flatV, List.mem_flatMap] at hu
  obtain ⟨v, _, hv⟩ := hu
  simp [encV] at hv
  rcases hv with rfl | rfl | rfl <;> rfl
theorem tail_news {w w2 : World} {g k : Nat} {l : List Ver} {X : Obj} (hc : ∀ t u, t < l.length * 3 → (flatV l)[t]? = some u → w.cell? ⟨g, t, none⟩ = some u) (hk : k ≤ l.length) (hb : Below (w.heap.size + 1) (w.alloc X) w2) (hg : g < w.heap.size) :
    ∀ j u, (flatV (l.drop k))[j]? = some u → w2.cell? ((⟨g, k * 3, none⟩ : Addr).add j) = some u := by
  intro j u hj
  have hadd : (⟨g, k * 3, none⟩ : Addr).add j = ⟨g, k * 3 + j, none⟩ := by unfold Addr.add; split <;> simp_all
  rw [hadd, hb.cell (p := ⟨g, k * 3 + j, none⟩) (show g < w.heap.size + 1 by omega), World.cell?_alloc_lt _ _ _ hg]
  rw [flatV_drop l k hk, List.getElem?_drop] at hj
  have hlt := (List.getElem?_eq_some_iff.1 hj).1
  rw [flatV_length] at hlt
  exact hc _ _ hlt hj

set_option maxRecDepth 100000 in
set_option maxHeartbeats 4000000 in
theorem refPutL_some (sv : Value) (l : List Ver) (r0 : Nat) (n0 : Int) (s0 : ByteArray) (w : World) (h : ASl w sv l) (hnn : ¬ sv = .slice none 0 0) (hlen : l.length ≤ 100000) :
    Calls Tryz.prog 41 #[sv, .agg #[.int .i64 r0, .int .i64 n0, .string s0]] w fun e w' => ∃ v', e = .returned v' ∧ w'.ownsRow w.heap.size 88 3 v' (l.length + 1) (flatV (insL l (r0, n0, s0))) ∧ Below w.heap.size w w' := by
  obtain ⟨ad, cap, rfl, hcap, hlc⟩ := row_lenA h
  have H : Hid (ASl w (.slice ad l.length cap) l) := h
  clear h
  go_enter Tryz.func41, Tryz.ntmps41
  go_wp2
  go_loopw [5, 6] (fun lf i wr => ∃ k : Nat, k ≤ l.length ∧ i = .int .i64 k ∧ Hid (wr.ownsRow (w.heap.size + 1) 88 3 lf k (flatV (l.take k))) ∧ Hid (Below (w.heap.size + 1) (w.alloc (.cells #[.int .i64 r0, .int .i64 n0, .string s0] 88)) wr) ∧ Hid (∀ j (hj : j < l.length), j < k → ltV l[j] (r0, n0, s0) = true)) (fun _ i _ => l.length - (intOf i).toNat)
  case atStart => exact ⟨0, by omega, rfl, ⟨by simp [flatV], Or.inl ⟨rfl, rfl⟩⟩, Below.refl _ _, fun j _ hj => absurd hj (by omega)⟩
  case round =>
    obtain ⟨k, hk, rfl, hown, hbel, hall⟩ := hrel
    have HBel : Hid (Below (w.heap.size + 1) (w.alloc (.cells #[.int .i64 r0, .int .i64 n0, .string s0] 88)) wr) := hbel.out
    have hsz : w.heap.size + 1 ≤ wr.heap.size := by have := hbel.out.size; simp at this; omega
    have hbox : Hid (∀ w', Below wr.heap.size wr w' → ∀ o, w'.cell? ⟨w.heap.size, o, none⟩ = #[Value.int .i64 r0, .int .i64 n0, .string s0][o]?) := fun w' hw o => by
      rw [hw.cell (p := ⟨w.heap.size, o, none⟩) (show w.heap.size < wr.heap.size by omega), HBel.out.cell (p := ⟨w.heap.size, o, none⟩) (show w.heap.size < w.heap.size + 1 by omega)]
      exact (cells_of0 (heap_alloc_new w _)).1 o
    have HW : Hid (∀ w1, Below wr.heap.size wr w1 → w1.ownsRow (w.heap.size + 1) 88 3 u5 k (flatV (l.take k))) := fun w1 hw => ownsRow_below hown.out hw (Nat.le_refl _)
    obtain ⟨i0, hi0, hz0, hz1, hz2⟩ := info_parts Tryz.infoApi
    have k0 : (0 : Int) ≤ (k : Int) := by omega
    clear hbel hown
    by_cases hlt : k < l.length
    · obtain ⟨g, cap', hsv', _, _, hg, hcells⟩ := row_cellA H.out (by omega)
      cases hsv'
      have hold : Hid (∀ w', Below wr.heap.size wr w' → ∀ o, w'.cell? ⟨g, o, none⟩ = w.cell? ⟨g, o, none⟩) := fun w' hw o => by
        rw [hw.cell (p := ⟨g, o, none⟩) (show g < wr.heap.size by omega), HBel.out.cell (p := ⟨g, o, none⟩) (show g < w.heap.size + 1 by omega), World.cell?_alloc_lt _ _ _ hg]
      obtain ⟨f0, f1, f2⟩ := flatV_get l k hlt
      have c0 := hcells _ _ (by omega) f0
      have c1 := hcells _ _ (by omega) f1
      have c2 := hcells _ _ (by omega) f2
      have HCells : Hid _ := hcells
      clear f0 f1 f2 hcells
      generalize hrr : l[k].rep = r at *
      generalize hnn : l[k].n = n at *
      generalize hvv : l[k].val = s at *
      have Hvk : Hid (l[k] = (r, n, s)) := by rw [← hrr, ← hnn, ← hvv]; rfl
      clear hrr hnn hvv
      have hmk : Hid (∀ w', Below wr.heap.size wr w' → w'.cell? ⟨g, k * 3, none⟩ = some (.int .i64 r) ∧ w'.cell? ⟨g, k * 3 + 1, none⟩ = some (.int .i64 n) ∧ w'.cell? ⟨g, k * 3 + 2, none⟩ = some (.string s) ∧ w'.cell? ⟨w.heap.size, 0, none⟩ = some (.int .i64 r0) ∧ w'.cell? ⟨w.heap.size, 1, none⟩ = some (.int .i64 n0) ∧ w'.cell? ⟨w.heap.size, 2, none⟩ = some (.string s0)) := fun w' hw =>
        ⟨(hold.out w' hw _).trans c0, (hold.out w' hw _).trans c1, (hold.out w' hw _).trans c2, hbox.out w' hw 0, hbox.out w' hw 1, hbox.out w' hw 2⟩
      have g63 : (k : Int) < (l.length : Int) := by omega
      clear c0 c1 c2
      go_wp2_with fail
      go_region_held3 (fun w' => w'.cell? ⟨g, k * 3, none⟩ = some (.int .i64 r) ∧ w'.cell? ⟨g, k * 3 + 1, none⟩ = some (.int .i64 n) ∧ w'.cell? ⟨g, k * 3 + 2, none⟩ = some (.string s) ∧ w'.cell? ⟨w.heap.size, 0, none⟩ = some (.int .i64 r0) ∧ w'.cell? ⟨w.heap.size, 1, none⟩ = some (.int .i64 n0) ∧ w'.cell? ⟨w.heap.size, 2, none⟩ = some (.string s0))
        ((refine hmk.out _ ?_; first | (simp (maxDischargeDepth := 12) [Below.refl, Below.drew]; done) | (simp (maxDischargeDepth := 12) [B1]; done)))
        (first | (go_at_call 65; refine (refAhead_any r r0 n n0 s s0 _).mono ?_; rintro e w1 ⟨rfl, hb1⟩; have B1 : Below wr.heap.size wr w1 := afterAny hb1 (by simp [Below.refl, Below.drew]); clear hb1))
      obtain ⟨e0, e1, e2, e3, e4, e5⟩ := hmk.out _ B1
      have HB1 : Hid (Below wr.heap.size wr w1) := B1
      have z1 := B1.size
      have HW1 : Hid (w1.ownsRow (w.heap.size + 1) 88 3 u5 k (flatV (l.take k))) := HW.out _ B1
      clear B1
      cases hah : ltV (r, n, s) (r0, n0, s0) with
      | true =>
        go_wp2_with (first
          | (at_builtin; refine wpList_append_lies _ rfl _ _ _ rfl (w.heap.size + 1) 88 i0 _ 3 32 Tryz.underlying67 hi0 hz0 hz1 hz2 rfl (by omega) u5 _ _ rfl (HW1.out.alloc _) ⟨w1.heap.size, 0, none⟩ 1 1 [.int .i64 r, .int .i64 n, .string s] rfl rfl (World.news_of_block (cs := #[.int .i64 r, .int .i64 n, .string s]) (t := 88) (fr := (0, 0)) (heap_alloc_new w1 _)) (by simp [Value.oneCell']) (by omega) (by unfold maxLen; omega) (by omega) (by simp; omega) (w1.heap.size + 1) (by simp) ?_; intro gg capn w2 hown2 hgrow hat hlt2))
        refine ⟨⟨k + 1, by omega, by go_num, ?_, ?_, ?_⟩, by simp [intOf]; omega⟩
        · rw [flatV_take_succ l k hlt, Hvk.out]; exact hown2
        · have hB := (HBel.out.trans (HB1.out.mono (by omega))).alloc (by omega) (.cells #[.int .i64 r, .int .i64 n, .string s] 88)
          refine hB.grown hgrow (by simp; omega) fun q hq => ?_
          rcases HW1.out.2 with ⟨h1, _⟩ | ⟨g1, cap1, cur1, hv1, hg1, _⟩
          · rw [h1] at hq; cases hq
          · rw [hv1] at hq; simp [Value.ownBlock] at hq; omega
        · intro j hj hjk
          by_cases e : j = k
          · subst e; rw [Hvk.out]; exact hah
          · exact hall.out j hj (by omega)
      | false =>
        have hkc : (k : Int) ≤ (l.length : Int) := by omega
        have hkc2 : (l.length : Int) ≤ (cap : Int) := by omega
        go_wp2_with (first
          | (at_builtin; (refine wpList_append_lies _ rfl _ _ _ rfl (w.heap.size + 1) 88 i0 _ 3 32 Tryz.underlying67 hi0 hz0 hz1 hz2 rfl (by omega) u5 _ _ rfl (HW1.out.alloc _) ⟨w1.heap.size, 0, none⟩ 1 1 [.int .i64 r0, .int .i64 n0, .string s0] rfl rfl (World.news_of_block (cs := #[.int .i64 r0, .int .i64 n0, .string s0]) (t := 88) (fr := (0, 0)) (heap_alloc_new w1 _)) (by simp [Value.oneCell']) (by omega) (by unfold maxLen; omega) (by omega) (by simp; omega) (w1.heap.size + 1) (by simp) ?_; intro gg capn w2 hown2 hgrow hat hlt2; have HO2 : Hid (w2.ownsRow (w.heap.size + 1) 88 3 (.slice (some ⟨gg, 0, none⟩) (k + 1) capn) (k + 1) (flatV (l.take k) ++ [.int .i64 r0, .int .i64 n0, .string s0])) := hown2; have HB2 : Hid (Below (w.heap.size + 1) (w.alloc (.cells #[.int .i64 r0, .int .i64 n0, .string s0] 88)) w2) := grown_row HW1.out (HBel.out.trans (HB1.out.mono (by omega))) (by omega) hgrow; have z2 := HB2.out.size; (try simp only [size_allocW] at z2); have HN2 : Hid _ := tail_news HCells.out (k := k) (by omega) HB2.out hg; clear hown2 hgrow hat hlt2))
          | (at_builtin; refine wpList_append_own_at _ rfl _ _ _ rfl (w.heap.size + 1) 88 i0 _ 3 32 Tryz.underlying67 hi0 hz0 hz1 hz2 rfl (by omega) (.slice (some ⟨gg, 0, none⟩) (k + 1) capn) _ _ rfl HO2.out ⟨g, k * 3, none⟩ (l.length - k) (cap - k) (flatV (l.drop k)) rfl (by rw [flatV_length, List.length_drop]) HN2.out (flatV_one _) (by unfold maxLen; omega) (by omega) (by omega) ?_; intro v3 w3 hown3 hgrow3 hnil3 hat3; have HO3 : Hid (w3.ownsRow (w.heap.size + 1) 88 3 v3 (k + 1 + (l.length - k)) (flatV (l.take k) ++ [.int .i64 r0, .int .i64 n0, .string s0] ++ flatV (l.drop k))) := hown3; have HB3 : Hid (Below (w.heap.size + 1) (w.alloc (.cells #[.int .i64 r0, .int .i64 n0, .string s0] 88)) w3) := grown_own HO2.out HB2.out (by omega) hgrow3; clear hown3 hgrow3 hnil3 hat3))
        go_ret
        refine ⟨_, rfl, ?_, ((Below.refl _ _).alloc (Nat.le_refl _) _).trans (HB3.out.mono (by omega))⟩
        have hhd : headN l (r0, n0, s0) = k := headN_stop hall.out hk (fun _ => by rw [Hvk.out]; exact hah)
        have e1 : flatV (insL l (r0, n0, s0)) = flatV (l.take k) ++ [.int .i64 r0, .int .i64 n0, .string s0] ++ flatV (l.drop k) := by
          unfold insL; rw [hhd]; simp [flatV, encV]
        rw [e1, show l.length + 1 = k + 1 + (l.length - k) by omega]
        exact ownsRow_base HO3.out (by omega)
    · obtain rfl : k = l.length := by omega
      have hb0 := hbox.out wr (Below.refl _ _)
      have e3 := hb0 0
      have e4 := hb0 1
      have e5 := hb0 2
      have HW1 : Hid (wr.ownsRow (w.heap.size + 1) 88 3 u5 l.length (flatV (l.take l.length))) := HW.out _ (Below.refl _ _)
      have hhd : Hid (headN l (r0, n0, s0) = l.length) := headN_stop hall.out (Nat.le_refl _) (fun h => absurd h (by omega))
      have He1 : Hid (flatV (insL l (r0, n0, s0)) = flatV (l.take l.length) ++ [.int .i64 r0, .int .i64 n0, .string s0]) := by
        show _ = _
        unfold insL; rw [hhd.out, List.drop_length]; simp [flatV, encV]
      have hkc2 : (l.length : Int) ≤ (cap : Int) := by omega
      clear hb0
      rcases H.out.2 with ⟨hsv, hl0⟩ | ⟨g, cap', cur, hv, _, hh, _⟩
      · exact absurd hsv hnn
      cases hv
      by_cases hcl : cap = l.length
      · subst hcl
        go_wp2_with (first
          | (at_builtin; (refine wpList_append_lies _ rfl _ _ _ rfl (w.heap.size + 1) 88 i0 _ 3 32 Tryz.underlying67 hi0 hz0 hz1 hz2 rfl (by omega) u5 _ _ rfl (HW1.out.alloc _) ⟨wr.heap.size, 0, none⟩ 1 1 [.int .i64 r0, .int .i64 n0, .string s0] rfl rfl (World.news_of_block (cs := #[.int .i64 r0, .int .i64 n0, .string s0]) (t := 88) (fr := (0, 0)) (heap_alloc_new wr _)) (by simp [Value.oneCell']) (by omega) (by unfold maxLen; omega) (by omega) (by simp; omega) (wr.heap.size + 1) (by simp) ?_; intro gg capn w2 hown2 hgrow hat hlt2; have HO2 : Hid (w2.ownsRow (w.heap.size + 1) 88 3 (.slice (some ⟨gg, 0, none⟩) (l.length + 1) capn) (l.length + 1) (flatV (l.take l.length) ++ [.int .i64 r0, .int .i64 n0, .string s0])) := hown2; have HB2 : Hid (Below (w.heap.size + 1) (w.alloc (.cells #[.int .i64 r0, .int .i64 n0, .string s0] 88)) w2) := grown_row HW1.out HBel.out (by omega) hgrow; have z2 := HB2.out.size; (try simp only [size_allocW] at z2); clear hown2 hgrow hat hlt2))
          | (at_builtin; refine wpList_append_own_at _ rfl _ _ _ rfl (w.heap.size + 1) 88 i0 _ 3 32 Tryz.underlying67 hi0 hz0 hz1 hz2 rfl (by omega) (.slice (some ⟨gg, 0, none⟩) (l.length + 1) capn) _ _ rfl HO2.out ⟨g, 0, none⟩ 0 0 [] rfl rfl (fun j u hj => by simp at hj) (fun u hu => by simp at hu) (by unfold maxLen; omega) (by omega) (by omega) ?_; intro v3 w3 hown3 hgrow3 hnil3 hat3; have HO3 : Hid (w3.ownsRow (w.heap.size + 1) 88 3 v3 (l.length + 1 + 0) (flatV (l.take l.length) ++ [.int .i64 r0, .int .i64 n0, .string s0] ++ [])) := hown3; have HB3 : Hid (Below (w.heap.size + 1) (w.alloc (.cells #[.int .i64 r0, .int .i64 n0, .string s0] 88)) w3) := grown_own HO2.out HB2.out (by omega) hgrow3; clear hown3 hgrow3 hnil3 hat3))
        go_ret
        refine ⟨_, rfl, ?_, ((Below.refl _ _).alloc (Nat.le_refl _) _).trans (HB3.out.mono (by omega))⟩
        have := HO3.out
        rw [List.append_nil, ← He1.out] at this
        exact ownsRow_base this (by omega)
      · have hcl' : (l.length : Int) < (cap : Int) := by omega
        have hcl2 : ¬ cap - l.length = 0 := by omega
        go_wp2_with (first
          | (at_builtin; (refine wpList_append_lies _ rfl _ _ _ rfl (w.heap.size + 1) 88 i0 _ 3 32 Tryz.underlying67 hi0 hz0 hz1 hz2 rfl (by omega) u5 _ _ rfl (HW1.out.alloc _) ⟨wr.heap.size, 0, none⟩ 1 1 [.int .i64 r0, .int .i64 n0, .string s0] rfl rfl (World.news_of_block (cs := #[.int .i64 r0, .int .i64 n0, .string s0]) (t := 88) (fr := (0, 0)) (heap_alloc_new wr _)) (by simp [Value.oneCell']) (by omega) (by unfold maxLen; omega) (by omega) (by simp; omega) (wr.heap.size + 1) (by simp) ?_; intro gg capn w2 hown2 hgrow hat hlt2; have HO2 : Hid (w2.ownsRow (w.heap.size + 1) 88 3 (.slice (some ⟨gg, 0, none⟩) (l.length + 1) capn) (l.length + 1) (flatV (l.take l.length) ++ [.int .i64 r0, .int .i64 n0, .string s0])) := hown2; have HB2 : Hid (Below (w.heap.size + 1) (w.alloc (.cells #[.int .i64 r0, .int .i64 n0, .string s0] 88)) w2) := grown_row HW1.out HBel.out (by omega) hgrow; have z2 := HB2.out.size; (try simp only [size_allocW] at z2); clear hown2 hgrow hat hlt2))
          | (at_builtin; refine wpList_append_own_at _ rfl _ _ _ rfl (w.heap.size + 1) 88 i0 _ 3 32 Tryz.underlying67 hi0 hz0 hz1 hz2 rfl (by omega) (.slice (some ⟨gg, 0, none⟩) (l.length + 1) capn) _ _ rfl HO2.out ⟨g, l.length * 3, none⟩ 0 (cap - l.length) [] rfl rfl (fun j u hj => by simp at hj) (fun u hu => by simp at hu) (by unfold maxLen; omega) (by omega) (by omega) ?_; intro v3 w3 hown3 hgrow3 hnil3 hat3; have HO3 : Hid (w3.ownsRow (w.heap.size + 1) 88 3 v3 (l.length + 1 + 0) (flatV (l.take l.length) ++ [.int .i64 r0, .int .i64 n0, .string s0] ++ [])) := hown3; have HB3 : Hid (Below (w.heap.size + 1) (w.alloc (.cells #[.int .i64 r0, .int .i64 n0, .string s0] 88)) w3) := grown_own HO2.out HB2.out (by omega) hgrow3; clear hown3 hgrow3 hnil3 hat3))
        go_ret
        refine ⟨_, rfl, ?_, ((Below.refl _ _).alloc (Nat.le_refl _) _).trans (HB3.out.mono (by omega))⟩
        have := HO3.out
        rw [List.append_nil, ← He1.out] at this
        exact ownsRow_base this (by omega)

set_option maxRecDepth 100000 in
set_option maxHeartbeats 4000000 in
theorem refPutL_nil (r0 : Nat) (n0 : Int) (s0 : ByteArray) (w : World) :
    Calls Tryz.prog 41 #[.slice none 0 0, .agg #[.int .i64 r0, .int .i64 n0, .string s0]] w fun e w' => ∃ v', e = .returned v' ∧ w'.ownsRow w.heap.size 88 3 v' 1 (flatV [(r0, n0, s0)]) ∧ Below w.heap.size w w' := by
  obtain ⟨i0, hi0, hz0, hz1, hz2⟩ := info_parts Tryz.infoApi
  have HW1 : Hid ((w.alloc (.cells #[.int .i64 r0, .int .i64 n0, .string s0] 88)).ownsRow (w.heap.size + 1) 88 3 (.slice none 0 0) 0 []) := ⟨rfl, Or.inl ⟨rfl, rfl⟩⟩
  go_enter Tryz.func41, Tryz.ntmps41
  go_wp2
  go_loopw [5, 6] (fun lf i wr => lf = .slice none 0 0 ∧ i = .int .i64 0 ∧ wr = w.alloc (.cells #[.int .i64 r0, .int .i64 n0, .string s0] 88)) (fun _ _ _ => 0)
  case atStart => exact ⟨rfl, rfl, rfl⟩
  case round =>
    obtain ⟨rfl, rfl, rfl⟩ := hrel
    go_wp2_with (first
      | (at_builtin; refine wpList_append_lies _ rfl _ _ _ rfl (w.heap.size + 1) 88 i0 _ 3 32 Tryz.underlying67 hi0 hz0 hz1 hz2 rfl (by omega) (.slice none 0 0) _ _ rfl (HW1.out.alloc _) ⟨w.heap.size + 1, 0, none⟩ 1 1 [.int .i64 r0, .int .i64 n0, .string s0] rfl rfl (World.news_of_block (cs := #[.int .i64 r0, .int .i64 n0, .string s0]) (t := 88) (fr := (0, 0)) (by have := heap_alloc_new (w.alloc (.cells #[.int .i64 r0, .int .i64 n0, .string s0] 88)) (.cells #[.int .i64 r0, .int .i64 n0, .string s0] 88); simpa using this)) (by simp [Value.oneCell']) (by omega) (by unfold maxLen; omega) (by omega) (by simp) (w.heap.size + 1 + 1) (by simp) ?_; intro gg capn w2 hown2 hgrow hat hlt2; have HO2 : Hid (w2.ownsRow (w.heap.size + 1) 88 3 (.slice (some ⟨gg, 0, none⟩) 1 capn) 1 [.int .i64 r0, .int .i64 n0, .string s0]) := hown2; have HB2 : Hid (Below (w.heap.size + 1) (w.alloc (.cells #[.int .i64 r0, .int .i64 n0, .string s0] 88)) w2) := grown_row HW1.out (Below.refl _ _) (by simp) hgrow; clear hown2 hgrow hat hlt2)
      | (at_builtin; refine wpList_append_own_none rfl _ _ _ rfl (w.heap.size + 1) 88 i0 3 Tryz.underlying67 hi0 (.slice (some ⟨gg, 0, none⟩) 1 capn) _ _ rfl HO2.out rfl ?_))
    go_ret
    exact ⟨_, rfl, ownsRow_base HO2.out (by omega), ((Below.refl _ _).alloc (Nat.le_refl _) _).trans (HB2.out.mono (by omega))⟩

theorem refPutL_any (sv : Value) (l : List Ver) (r0 : Nat) (n0 : Int) (s0 : ByteArray) (w : World) (h : ASl w sv l) (hlen : l.length ≤ 100000) :
    Calls Tryz.prog 41 #[sv, .agg #[.int .i64 r0, .int .i64 n0, .string s0]] w fun e w' => ∃ v', e = .returned v' ∧ w'.ownsRow w.heap.size 88 3 v' (l.length + 1) (flatV (insL l (r0, n0, s0))) ∧ Below w.heap.size w w' := by
  by_cases hs : sv = .slice none 0 0
  · subst hs
    obtain ⟨ad, cap, hv, _, _⟩ := row_lenA h
    have hl : l = [] := List.eq_nil_of_length_eq_zero (by injection hv with _ h2 _; exact h2.symm)
    subst hl
    exact refPutL_nil r0 n0 s0 w
  · exact refPutL_some sv l r0 n0 s0 w h hs hlen
end Go.Proofs.YtldmcdeibiclkaaGreat

namespace Go.Proofs.YtldmcdeibiclkaaGreat
open Go.RowKit

/-- A context's cells. -/
def cellsC (c : Ctx) : Array Value := #[.int .i64 (c 0), .int .i64 (c 1), .int .i64 (c 2), .int .i64 (c 3)]
theorem cellsC_get (c : Ctx) (k : Nat) (h : k < 4) : (cellsC c)[k]? = some (.int .i64 (c k)) := by
  rcases lt4 h with rfl | rfl | rfl | rfl <;> rfl
theorem cellsC_set (c d : Ctx) (k : Nat) (v : Int) (h : k < 4) (hd : ∀ j, j < 4 → d j = if j = k then v else c j) : (cellsC c).setIfInBounds k (.int .i64 v) = cellsC d := by
  have h0 := hd 0 (by omega)
  have h1 := hd 1 (by omega)
  have h2 := hd 2 (by omega)
  have h3 := hd 3 (by omega)
  rcases lt4 h with rfl | rfl | rfl | rfl <;> simp [cellsC, h0, h1, h2, h3]
theorem cellsC_congr {c d : Ctx} (h : ∀ j, j < 4 → c j = d j) : cellsC c = cellsC d := by
  simp [cellsC, h 0 (by omega), h 1 (by omega), h 2 (by omega), h 3 (by omega)]

/-- The first k are the greater ones. -/
def mixC (a b : Ctx) (k : Nat) : Ctx := fun j => if j < k then bothC a b j else a j

/-- What holds of the world ahead of a round of both. -/
def BothRel (w : World) (a b : Ctx) (k : Nat) (wr : World) : Prop :=
  wr.heap[w.heap.size]? = some (.cells (cellsC (mixC a b k)) 34) ∧ wr.heap[w.heap.size + 1]? = some (.cells (cellsC b) 34) ∧ wr.heap[w.heap.size + 1 + 1]? = some (.cells #[.int .i64 0, .int .i64 0, .int .i64 0, .int .i64 0] 34) ∧ Below w.heap.size w wr

theorem BothRel.drewN {w wr : World} {a b : Ctx} {k : Nat} (h : BothRel w a b k wr) (q : Nat) : BothRel w a b k (wr.drewN q) := ⟨h.1, h.2.1, h.2.2.1, below_drewN h.2.2.2 q⟩
theorem BothRel.skip {w wr : World} {a b : Ctx} {k : Nat} (h : BothRel w a b k wr) (hle : b k ≤ a k) : BothRel w a b (k + 1) wr := by
  refine ⟨?_, h.2.1, h.2.2.1, h.2.2.2⟩
  rw [h.1]
  congr 2
  refine cellsC_congr fun j _ => ?_
  unfold mixC bothC
  by_cases e : j = k
  · subst e
    rw [if_neg (by omega), if_pos (by omega), Int.max_def]; split <;> omega
  · by_cases hl : j < k
    · rw [if_pos hl, if_pos (by omega)]
    · rw [if_neg hl, if_neg (by omega)]
theorem BothRel.set {w wr : World} {a b : Ctx} {k : Nat} (h : BothRel w a b k wr) (hk : k < 4) (hlt : a k < b k) : BothRel w a b (k + 1) (wr.setCell ⟨w.heap.size, k, none⟩ (.int .i64 (b k))) := by
  refine ⟨?_, ?_, ?_, h.2.2.2.setCell (Nat.le_refl _) _⟩
  · rw [heap_set h.1, cellsC_set (mixC a b k) (mixC a b (k + 1)) k (b k) hk]
    intro j _
    unfold mixC bothC
    by_cases e : j = k
    · subst e
      rw [if_pos (by omega), if_pos rfl, Int.max_def]; split <;> omega
    · rw [if_neg e]
      by_cases hl : j < k
      · rw [if_pos (by omega), if_pos hl]
      · rw [if_neg (by omega), if_neg hl]
  · rw [Below.heap_setCell _ _ _ _ (show w.heap.size + 1 ≠ w.heap.size by omega)]; exact h.2.1
  · rw [Below.heap_setCell _ _ _ _ (show w.heap.size + 1 + 1 ≠ w.heap.size by omega)]; exact h.2.2.1

set_option maxRecDepth 100000 in
set_option maxHeartbeats 4000000 in
theorem refBoth_any (a b : Ctx) (w : World) :
    Calls Tryz.prog 40 #[ctxV a, ctxV b] w fun e w' => e = .returned (ctxV (bothC a b)) ∧ Below w.heap.size w w' := by
  go_enter Tryz.func40, Tryz.ntmps40
  go_wp2
  go_loopw [5] (fun i wr => ∃ k : Nat, k ≤ 4 ∧ i = .int .i64 k ∧ BothRel w a b k wr) (fun i _ => 4 - (intOf i).toNat)
  case atStart =>
    refine ⟨0, by omega, rfl, ?_, ?_, ?_, (((Below.refl _ _).alloc (Nat.le_refl _) _).alloc (by simp) _).alloc (by simp; omega) _⟩
    · rw [Below.heap_alloc _ _ _ (by simp; omega), Below.heap_alloc _ _ _ (by simp)]
      have := heap_alloc_new w (.cells (cellsC (mixC a b 0)) 34)
      exact this
    · rw [Below.heap_alloc _ _ _ (by simp)]
      have := heap_alloc_new (w.alloc (.cells #[.int .i64 (a 0), .int .i64 (a 1), .int .i64 (a 2), .int .i64 (a 3)] 34)) (.cells (cellsC b) 34)
      rw [size_allocW] at this
      exact this
    · have := heap_alloc_new ((w.alloc (.cells #[.int .i64 (a 0), .int .i64 (a 1), .int .i64 (a 2), .int .i64 (a 3)] 34)).alloc (.cells #[.int .i64 (b 0), .int .i64 (b 1), .int .i64 (b 2), .int .i64 (b 3)] 34)) (.cells #[.int .i64 0, .int .i64 0, .int .i64 0, .int .i64 0] 34)
      simpa using this
  case round =>
    obtain ⟨k, hk, rfl, hrel⟩ := hrel
    by_cases hlt : k < 4
    · have k4 : (k : Int) < 4 := by omega
      have k0 : (0 : Int) ≤ (k : Int) := by omega
      have c0 : wr.cell? ⟨w.heap.size, k, none⟩ = some (.int .i64 (a k)) := by
        rw [(cells_of0 hrel.1).1, cellsC_get _ _ hlt]; simp [mixC]
      have f0 : wr.frozen? ⟨w.heap.size, k, none⟩ = false := (cells_of0 hrel.1).2 k
      have c1 : wr.cell? ⟨w.heap.size + 1, k, none⟩ = some (.int .i64 (b k)) := by
        rw [(cells_of0 hrel.2.1).1, cellsC_get _ _ hlt]
      have HRel : Hid (BothRel w a b k wr) := hrel
      clear hrel
      by_cases hc : a k < b k
      · have hd : decide (a k < b k) = true := by simpa using hc
        go_wp2
        go_quiet (fail)
        go_wp2
        exact ⟨⟨k + 1, by omega, by go_num, (HRel.out.drewN _).set hlt hc⟩, by simp [intOf]; omega⟩
      · have hd : decide (a k < b k) = false := by simpa using hc
        go_wp2
        go_quiet (fail)
        go_wp2
        exact ⟨⟨k + 1, by omega, by go_num, (HRel.out.drewN _).skip (by omega)⟩, by simp [intOf]; omega⟩
    · obtain rfl : k = 4 := by omega
      obtain ⟨r1, r2, r3, r4⟩ := hrel
      obtain ⟨e, _⟩ := cells_of0 r1
      obtain ⟨e', f'⟩ := cells_of0 r3
      have HB : Hid (Below w.heap.size w wr) := r4
      have m0 : wr.cell? ⟨w.heap.size, 0, none⟩ = some (.int .i64 (bothC a b 0)) := e 0
      have m1 : wr.cell? ⟨w.heap.size, 1, none⟩ = some (.int .i64 (bothC a b 1)) := e 1
      have m2 : wr.cell? ⟨w.heap.size, 2, none⟩ = some (.int .i64 (bothC a b 2)) := e 2
      have m3 : wr.cell? ⟨w.heap.size, 3, none⟩ = some (.int .i64 (bothC a b 3)) := e 3
      clear r1 r2 r3 r4 e
      go_wp2
      refine bodyPost_ret (v := ctxV (bothC a b)) ?_ rfl ⟨rfl, ?_⟩
      · simp [results, Tryz.results40, go_sem, e']
      · exact (((HB.out.setCell (by simp; omega) _).setCell (by simp; omega) _).setCell (by simp; omega) _).setCell (by simp; omega) _
end Go.Proofs.YtldmcdeibiclkaaGreat

namespace Go.Proofs.YtldmcdeibiclkaaGreat
open Go.RowKit

/-- What the reference holds of a key: its name, its context, its versions (a slice value). -/
abbrev RKey := ByteArray × Ctx × Value
def encK (k : RKey) : List Value := [.string k.1, .int .i64 (k.2.1 0), .int .i64 (k.2.1 1), .int .i64 (k.2.1 2), .int .i64 (k.2.1 3), k.2.2]
def flatK (l : List RKey) : List Value := l.flatMap encK
abbrev keyV (k : RKey) : Value := .agg #[.string k.1, .int .i64 (k.2.1 0), .int .i64 (k.2.1 1), .int .i64 (k.2.1 2), .int .i64 (k.2.1 3), k.2.2]
theorem flatK_length (l : List RKey) : (flatK l).length = l.length * 6 := by
  induction l with
  | nil => rfl
  | cons v l ih => simp only [flatK, List.flatMap_cons, List.length_append, List.length_cons] at *; rw [ih]; simp [encK]; omega
theorem flatK_append (a b : List RKey) : flatK (a ++ b) = flatK a ++ flatK b := by simp [flatK]
theorem flatK_get (l : List RKey) (k : Nat) (h : k < l.length) (j : Nat) (hj : j < 6) : (flatK l)[k * 6 + j]? = (encK l[k])[j]? := by
  induction l generalizing k with
  | nil => simp at h
  | cons v l ih =>
    have e : flatK (v :: l) = encK v ++ flatK l := by simp [flatK]
    have el : (encK v).length = 6 := by simp [encK]
    cases k with
    | zero => rw [e, List.getElem?_append_left (by omega)]; simp
    | succ k =>
      rw [e, List.getElem?_append_right (by omega), show (k + 1) * 6 + j - (encK v).length = k * 6 + j by omega, ih k (by simpa using h)]
      simp

/-- A slice value holds these keys. -/
def KSl (w : World) (sv : Value) (l : List RKey) : Prop := w.ownsRow 0 82 6 sv l.length (flatK l)
/-- The reference's replica in memory. -/
def RefAt (w : World) (b : Nat) (n : Nat) (sv : Value) (l : List RKey) : Prop :=
  w.heap[b]? = some (.cells #[.int .i64 n, sv] 45) ∧ KSl w sv l

theorem bytes_eq_true {a b : ByteArray} (h : a = b) : (a.toList == b.toList) = true := by subst h; simp
theorem bytes_eq_false {a b : ByteArray} (h : ¬ a = b) : (a.toList == b.toList) = false := by
  rw [ByteArray.toList_eq, ByteArray.toList_eq]
  simp only [beq_eq_false_iff_ne, ne_eq, Array.toList_inj]
  intro e
  exact h (ByteArray.ext e)

/-- What is found of a name. -/
def findK (l : List RKey) (name : ByteArray) : RKey := (l.find? fun k => decide (k.1 = name)).getD (name, fun _ => 0, .slice none 0 0)

theorem findK_hit {l : List RKey} {name : ByteArray} {k : Nat} (h : k < l.length) (hn : l[k].1 = name) (ho : ∀ j (hj : j < l.length), j < k → ¬ l[j].1 = name) : findK l name = l[k] := by
  unfold findK
  have : l.find? (fun k => decide (k.1 = name)) = some l[k] := by
    rw [List.find?_eq_some_iff_getElem]
    exact ⟨by simpa using hn, k, h, rfl, fun j hj => by simpa using ho j (by omega) hj⟩
  rw [this]; rfl
theorem findK_miss {l : List RKey} {name : ByteArray} (ho : ∀ j (hj : j < l.length), ¬ l[j].1 = name) : findK l name = (name, fun _ => 0, .slice none 0 0) := by
  unfold findK
  have : l.find? (fun k => decide (k.1 = name)) = none := by
    rw [List.find?_eq_none]
    intro x hx
    obtain ⟨j, hj, rfl⟩ := List.getElem_of_mem hx
    simpa using ho j hj
  rw [this]; rfl

set_option maxRecDepth 100000 in
set_option maxHeartbeats 4000000 in
theorem refKeyOf_any (b n : Nat) (sv : Value) (l : List RKey) (name : ByteArray) (w : World) (h : RefAt w b n sv l) (hsl : ∀ q ∈ l, ∃ ad m cap, q.2.2 = .slice ad m cap) (hlen : l.length ≤ 1900000000000) :
    Calls Tryz.prog 38 #[.pointer (some ⟨b, 0, none⟩), .string name] w fun e w' => e = .returned (keyV (findK l name)) ∧ Below w.heap.size w w' := by
  obtain ⟨ad, cap, rfl, hcap, hlc⟩ := row_lenA h.2
  have hbs : b < w.heap.size := (Array.getElem?_eq_some_iff.1 h.1).1
  have H : Hid (KSl w (.slice ad l.length cap) l) := h.2
  have HC : Hid (∀ o, w.cell? ⟨b, o, none⟩ = #[Value.int .i64 n, .slice ad l.length cap][o]?) := (cells_of0 h.1).1
  have HSL : Hid (∀ q ∈ l, ∃ ad m cap, q.2.2 = .slice ad m cap) := hsl
  clear h hsl
  go_enter Tryz.func38, Tryz.ntmps38
  go_wp2
  go_loopw [5] (fun i wr => ∃ k : Nat, k ≤ l.length ∧ i = .int .i64 k ∧ Hid (Below w.heap.size w wr) ∧ Hid (wr.heap[w.heap.size]? = some (.cells #[.string { data := #[] }, .int .i64 0, .int .i64 0, .int .i64 0, .int .i64 0, .slice none 0 0] 82)) ∧ Hid (∀ j (hj : j < l.length), j < k → ¬ l[j].1 = name)) (fun i _ => l.length - (intOf i).toNat)
  case atStart => exact ⟨0, by omega, rfl, (Below.refl _ _).alloc (Nat.le_refl _) _, heap_alloc_new w _, fun j _ hj => absurd hj (by omega)⟩
  case round =>
    obtain ⟨k, hk, rfl, hbel, hres, hall⟩ := hrel
    have cb : wr.cell? ⟨b, 1, none⟩ = some (.slice ad l.length cap) := by
      rw [hbel.out.cell (p := ⟨b, 1, none⟩) hbs, HC.out]; rfl
    have k0 : (0 : Int) ≤ (k : Int) := by omega
    by_cases hlt : k < l.length
    · obtain ⟨g, cap', hsv', _, _, hg, hcells⟩ := row_cellA H.out (by omega)
      cases hsv'
      have hcw : ∀ j, j < 6 → wr.cell? ⟨g, k * 6 + j, none⟩ = (encK l[k])[j]? := fun j hj => by
        have hlt' : k * 6 + j < l.length * 6 := by omega
        have hget : (flatK l)[k * 6 + j]? = some ((encK l[k])[j]'(by simpa [encK] using hj)) := by
          rw [flatK_get l k hlt j hj]; simp
        rw [hbel.out.cell (p := ⟨g, k * 6 + j, none⟩) hg, hcells _ _ hlt' hget]; simp
      have c0 : wr.cell? ⟨g, k * 6, none⟩ = some (.string l[k].1) := hcw 0 (by omega)
      have c1 : wr.cell? ⟨g, k * 6 + 1, none⟩ = some (.int .i64 (l[k].2.1 0)) := hcw 1 (by omega)
      have c2 : wr.cell? ⟨g, k * 6 + 2, none⟩ = some (.int .i64 (l[k].2.1 1)) := hcw 2 (by omega)
      have c3 : wr.cell? ⟨g, k * 6 + 3, none⟩ = some (.int .i64 (l[k].2.1 2)) := hcw 3 (by omega)
      have c4 : wr.cell? ⟨g, k * 6 + 4, none⟩ = some (.int .i64 (l[k].2.1 3)) := hcw 4 (by omega)
      have c5 : wr.cell? ⟨g, k * 6 + 5, none⟩ = some l[k].2.2 := hcw 5 (by omega)
      have g63 : (k : Int) < (l.length : Int) := by omega
      have HF : Hid (l[k].1 = name → findK l name = l[k]) := fun hn => findK_hit hlt hn hall.out
      have HA : Hid (¬ l[k].1 = name → ∀ j (hj : j < l.length), j < k + 1 → ¬ l[j].1 = name) := fun hn j hj hjk => by
        by_cases e : j = k
        · subst e; exact hn
        · exact hall.out j hj (by omega)
      have HSk : ∃ ad m cap, l[k].2.2 = .slice ad m cap := HSL.out _ (List.getElem_mem hlt)
      clear hcw hcells hall
      generalize l[k] = q at *
      obtain ⟨nm, cx, vs⟩ := q
      obtain ⟨av, mv, cv, hvs⟩ := HSk
      simp only at hvs
      subst hvs
      simp only at c0 c1 c2 c3 c4 c5
      by_cases hn : nm = name
      · have hd : (nm.toList == name.toList) = true := bytes_eq_true hn
        have HE : Hid (findK l name = (nm, cx, .slice av mv cv)) := HF.out hn
        clear hn HF HA
        obtain ⟨e', f'⟩ := cells_of0 hres.out
        go_wp2
        refine bodyPost_ret (v := keyV (findK l name)) ?_ rfl ⟨rfl, ?_⟩
        · rw [HE.out]
          simp [results, Tryz.results38, go_sem, e']
        · exact (((((hbel.out.setCell (by simp) _).setCell (by simp) _).setCell (by simp) _).setCell (by simp) _).setCell (by simp) _).setCell (by simp) _
      · have hd : (nm.toList == name.toList) = false := bytes_eq_false hn
        have HA' : Hid (∀ j (hj : j < l.length), j < k + 1 → ¬ l[j].1 = name) := HA.out hn
        clear hn HF HA
        go_wp2
        exact ⟨⟨k + 1, by omega, by go_num, hbel, hres, HA'⟩, by simp [intOf]; omega⟩
    · obtain rfl : k = l.length := by omega
      have HM : Hid (findK l name = (name, fun _ => 0, .slice none 0 0)) := findK_miss fun j hj => hall.out j hj hj
      obtain ⟨e', f'⟩ := cells_of0 hres.out
      clear hall
      go_wp2
      refine bodyPost_ret (v := keyV (findK l name)) ?_ rfl ⟨rfl, ?_⟩
      · rw [HM.out]
        simp [results, Tryz.results38, go_sem, e']
      · exact (((((hbel.out.setCell (by simp) _).setCell (by simp) _).setCell (by simp) _).setCell (by simp) _).setCell (by simp) _).setCell (by simp) _
end Go.Proofs.YtldmcdeibiclkaaGreat
