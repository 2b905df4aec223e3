/-
  Contract of the reference: set: what is known of a key now, in its row.
  Contracts of the reference: Keys, Get.
  Contracts of the reference: Get.
  Contracts of the reference: Delete, refused.
-/
import Derived.Test.YtldmcdeibiclkaaGreatQ13
import Derived.Test.YtldmcdeibiclkaaGreatQ12
import Derived.Deep.CutRange
import Derived.Deep.CutBlock
import Derived.Deep.QuietTactic
import Derived.BigQuiet
set_option linter.unusedVariables false
set_option linter.unusedSimpArgs false

namespace Go.Proofs.YtldmcdeibiclkaaGreat
open Go.RowKit

theorem Tryz.infoKey : (Tryz.prog.info? 82).map (fun i => (i.zero, i.size, i.bytes)) = some (some (.agg #[.string ⟨#[]⟩, .int .i64 0, .int .i64 0, .int .i64 0, .int .i64 0, .slice none 0 0]), 6, 72) := by kernel_rfl

/-- How many keys at the head lie ahead of a name. -/
def hdK (l : List RKey) (nm : ByteArray) : Nat := (l.takeWhile fun k => Op.bytesLess k.1.toList nm.toList).length
/-- The place behind a name. -/
def nxK (l : List RKey) (nm : ByteArray) : Nat := if ∃ h : hdK l nm < l.length, l[hdK l nm].1 = nm then hdK l nm + 1 else hdK l nm
/-- A key set in its row. -/
def setK (l : List RKey) (q : RKey) : List RKey := l.take (hdK l q.1) ++ q :: l.drop (nxK l q.1)

theorem hdK_le (l : List RKey) (nm : ByteArray) : hdK l nm ≤ l.length := by
  unfold hdK; exact (List.takeWhile_prefix _).length_le
theorem nxK_le (l : List RKey) (nm : ByteArray) : nxK l nm ≤ l.length := by
  unfold nxK; split
  · rename_i h; exact h.1
  · exact hdK_le l nm
theorem hdK_stop {l : List RKey} {nm : ByteArray} {k : Nat} (h : ∀ j (hj : j < l.length), j < k → Op.bytesLess l[j].1.toList nm.toList = true) (hk : k ≤ l.length) (hs : ∀ hk' : k < l.length, Op.bytesLess l[k].1.toList nm.toList = false) : hdK l nm = k := by
  unfold hdK
  induction l generalizing k with
  | nil => simp at hk; simp [hk]
  | cons u l ih =>
    cases k with
    | zero =>
      have := hs (by simp)
      simp at this
      simp [List.takeWhile, this]
    | succ k =>
      have h0 := h 0 (by simp) (by omega)
      simp at h0
      simp only [List.takeWhile, h0, List.length_cons]
      rw [ih (k := k) (fun j hj hjk => by have := h (j + 1) (by simpa using hj) (by omega); simpa using this) (by simpa using hk) (fun hk' => by have := hs (by simpa using hk'); simpa using this)]
theorem flatK_take_succ (l : List RKey) (k : Nat) (h : k < l.length) : flatK (l.take (k + 1)) = flatK (l.take k) ++ encK l[k] := by
  rw [List.take_add_one, flatK_append, List.getElem?_eq_getElem h]; simp [flatK]
theorem flatK_drop (l : List RKey) (k : Nat) (h : k ≤ l.length) : flatK (l.drop k) = (flatK l).drop (k * 6) := by
  have h1 : flatK l = flatK (l.take k) ++ flatK (l.drop k) := by rw [← flatK_append, List.take_append_drop]
  rw [h1, List.drop_left' (by rw [flatK_length, List.length_take]; omega)]
theorem flatK_one {l : List RKey} (hsl : ∀ q ∈ l, ∃ ad m cap, q.2.2 = .slice ad m cap) : ∀ u ∈ flatK l, u.oneCell' = true := by
  intro u hu
  simp only [flatK, List.mem_flatMap] at hu
  obtain ⟨v, hv0, hv⟩ := hu
  obtain ⟨ad, m, cap, e⟩ := hsl v hv0
  simp [encK, e] at hv
  rcases hv with rfl | rfl | rfl | rfl | rfl | rfl <;> rfl
theorem tail_newsK {w w2 : World} {g k : Nat} {l : List RKey} {X : Obj} (hc : ∀ t u, t < l.length * 6 → (flatK l)[t]? = some u → w.cell? ⟨g, t, none⟩ = some u) (hk : k ≤ l.length) (hb : Below (w.heap.size + 1) (w.alloc X) w2) (hg : g < w.heap.size) :
    ∀ j u, (flatK (l.drop k))[j]? = some u → w2.cell? ((⟨g, k * 6, none⟩ : Addr).add j) = some u := by
  intro j u hj
  have hadd : (⟨g, k * 6, none⟩ : Addr).add j = ⟨g, k * 6 + j, none⟩ := by unfold Addr.add; split <;> simp_all
  rw [hadd, hb.cell (p := ⟨g, k * 6 + j, none⟩) (show g < w.heap.size + 1 by omega), World.cell?_alloc_lt _ _ _ hg]
  rw [flatK_drop l k hk, List.getElem?_drop] at hj
  have hlt := (List.getElem?_eq_some_iff.1 hj).1
  rw [flatK_length] at hlt
  exact hc _ _ hlt hj

theorem row_set_low {W : World} {B b o n size : Nat} {t : TypeId} {v val : Value} {xs : List Value} (h : W.ownsRow B t size v n xs) (hb : b < B) : (W.setCell ⟨b, o, none⟩ val).ownsRow B t size v n xs := by
  refine Fr.row (Fr.setCell (X := fun k => k = b) (Fr.refl _ _) (Or.inr rfl) _) h fun g o' l c hv e => ?_
  rcases h.2 with ⟨h1, _⟩ | ⟨g1, cap1, cur1, hv1, hg1, _⟩
  · rw [h1] at hv; cases hv
  · rw [hv1] at hv; cases hv; omega
theorem setK_flat (l : List RKey) (q : RKey) : flatK (setK l q) = flatK (l.take (hdK l q.1)) ++ encK q ++ flatK (l.drop (nxK l q.1)) := by
  simp [setK, flatK]
theorem setK_length (l : List RKey) (q : RKey) : (setK l q).length = hdK l q.1 + 1 + (l.length - nxK l q.1) := by
  have := hdK_le l q.1
  simp [setK]; omega
theorem nxK_hit {l : List RKey} {nm : ByteArray} {h : Nat} (hh : hdK l nm = h) (hlt : h < l.length) (e : l[h].1 = nm) : nxK l nm = h + 1 := by
  subst hh; unfold nxK; rw [if_pos ⟨hlt, e⟩]
theorem nxK_other {l : List RKey} {nm : ByteArray} {h : Nat} (hh : hdK l nm = h) (hlt : h < l.length) (e : ¬ l[h].1 = nm) : nxK l nm = h := by
  subst hh; unfold nxK; rw [if_neg fun ⟨_, e'⟩ => e e']
theorem nxK_end {l : List RKey} {nm : ByteArray} {h : Nat} (hh : hdK l nm = h) (hlt : ¬ h < l.length) : nxK l nm = h := by
  subst hh; unfold nxK; rw [if_neg fun ⟨e', _⟩ => hlt e']

set_option maxRecDepth 100000 in
set_option maxHeartbeats 4000000 in
theorem refSet_any (b n : Nat) (sv : Value) (l : List RKey) (nm : ByteArray) (cx : Ctx) (av : Option Addr) (mv cv : Nat) (w : World) (h : RefAt w b n sv l) (hsl : ∀ q ∈ l, ∃ ad m cap, q.2.2 = .slice ad m cap) (hlen : l.length ≤ 1900000000000) :
    Calls Tryz.prog 42 #[.pointer (some ⟨b, 0, none⟩), keyV (nm, cx, .slice av mv cv)] w fun e w' => e = .returned (.tuple #[]) ∧ ∃ sv', w'.heap[b]? = some (.cells #[.int .i64 n, sv'] 45) ∧ w'.ownsRow w.heap.size 82 6 sv' (setK l (nm, cx, .slice av mv cv)).length (flatK (setK l (nm, cx, .slice av mv cv))) ∧ Fr (fun k => k = b) w w' := by
  obtain ⟨ad, cap, rfl, hcap, hlc⟩ := row_lenA h.2
  have hbs : b < w.heap.size := (Array.getElem?_eq_some_iff.1 h.1).1
  have H : Hid (KSl w (.slice ad l.length cap) l) := h.2
  have HB0 : Hid (w.heap[b]? = some (.cells #[.int .i64 n, .slice ad l.length cap] 45)) := h.1
  have HSL : Hid (∀ q ∈ l, ∃ ad m cap, q.2.2 = .slice ad m cap) := hsl
  obtain ⟨i0, hi0, hz0, hz1, hz2⟩ := info_parts Tryz.infoKey
  clear h hsl
  have HBlk : Hid (∀ w', Below (w.heap.size + 1) (w.alloc (.cells #[.string nm, .int .i64 (cx 0), .int .i64 (cx 1), .int .i64 (cx 2), .int .i64 (cx 3), .slice av mv cv] 82)) w' → w'.cell? ⟨b, 1, none⟩ = some (.slice ad l.length cap) ∧ w'.frozen? ⟨b, 1, none⟩ = false ∧ w'.heap[b]? = some (.cells #[.int .i64 n, .slice ad l.length cap] 45) ∧ ∀ o, w'.cell? ⟨w.heap.size, o, none⟩ = #[Value.string nm, .int .i64 (cx 0), .int .i64 (cx 1), .int .i64 (cx 2), .int .i64 (cx 3), .slice av mv cv][o]?) := fun w' hw => by
    have h1 : w'.heap[b]? = some (.cells #[.int .i64 n, .slice ad l.length cap] 45) := by
      rw [hw.block b (by omega), Below.heap_alloc _ _ _ hbs]; exact HB0.out
    have h2 := cells_of0 h1
    refine ⟨by rw [h2.1]; rfl, h2.2 1, h1, fun o => ?_⟩
    rw [hw.cell (p := ⟨w.heap.size, o, none⟩) (show w.heap.size < w.heap.size + 1 by omega)]
    exact (cells_of0 (heap_alloc_new w _)).1 o
  go_enter Tryz.func42, Tryz.ntmps42
  go_upto_block 0 with fail
  go_cut [4, 5] from 6 to 37 (fun lf i wx => i = .int .i64 (hdK l nm : Nat) ∧ wx.ownsRow (w.heap.size + 1) 82 6 lf (hdK l nm) (flatK (l.take (hdK l nm))) ∧ Below (w.heap.size + 1) (w.alloc (.cells #[.string nm, .int .i64 (cx 0), .int .i64 (cx 1), .int .i64 (cx 2), .int .i64 (cx 3), .slice av mv cv] 82)) wx)
  case first =>
    go_wp2_with fail
    go_loopw [4, 5] (fun lf i wr => ∃ k : Nat, k ≤ l.length ∧ i = .int .i64 k ∧ Hid (wr.ownsRow (w.heap.size + 1) 82 6 lf k (flatK (l.take k))) ∧ Hid (Below (w.heap.size + 1) (w.alloc (.cells #[.string nm, .int .i64 (cx 0), .int .i64 (cx 1), .int .i64 (cx 2), .int .i64 (cx 3), .slice av mv cv] 82)) wr) ∧ Hid (∀ j (hj : j < l.length), j < k → Op.bytesLess l[j].1.toList nm.toList = true)) (fun _ i _ => l.length - (intOf i).toNat)
    case atStart => exact ⟨0, by omega, rfl, ⟨by simp [flatK], Or.inl ⟨rfl, rfl⟩⟩, Below.refl _ _, fun j _ hj => absurd hj (by omega)⟩
    case round =>
      obtain ⟨k, hk, rfl, hown, hbel, hall⟩ := hrel
      obtain ⟨cb, fb, -, hbox⟩ := HBlk.out _ hbel.out
      have b0 : wr.cell? ⟨w.heap.size, 0, none⟩ = some (.string nm) := hbox 0
      have hsz : w.heap.size + 1 ≤ wr.heap.size := by have := hbel.out.size; simp at this; omega
      have k0 : (0 : Int) ≤ (k : Int) := by omega
      have HW : Hid (∀ m, (wr.drewN m).ownsRow (w.heap.size + 1) 82 6 u4 k (flatK (l.take k))) := fun m => hown.out
      have HBel : Hid (∀ m, Below (w.heap.size + 1) (w.alloc (.cells #[.string nm, .int .i64 (cx 0), .int .i64 (cx 1), .int .i64 (cx 2), .int .i64 (cx 3), .slice av mv cv] 82)) (wr.drewN m)) := fun m => below_drewN hbel.out m
      by_cases hlt : k < l.length
      · obtain ⟨g, cap', hsv', _, _, hg, hcells⟩ := row_cellA H.out (by omega)
        cases hsv'
        have hcw : ∀ j, j < 6 → wr.cell? ⟨g, k * 6 + j, none⟩ = (encK l[k])[j]? := fun j hj => by
          have hlt' : k * 6 + j < l.length * 6 := by omega
          have hget : (flatK l)[k * 6 + j]? = some ((encK l[k])[j]'(by simpa [encK] using hj)) := by
            rw [flatK_get l k hlt j hj]; simp
          rw [hbel.out.cell (p := ⟨g, k * 6 + j, none⟩) (show g < w.heap.size + 1 by omega), World.cell?_alloc_lt _ _ _ hg, hcells _ _ hlt' hget]; simp
        have c0 : wr.cell? ⟨g, k * 6, none⟩ = some (.string l[k].1) := hcw 0 (by omega)
        have c1 : wr.cell? ⟨g, k * 6 + 1, none⟩ = some (.int .i64 (l[k].2.1 0)) := hcw 1 (by omega)
        have c2 : wr.cell? ⟨g, k * 6 + 2, none⟩ = some (.int .i64 (l[k].2.1 1)) := hcw 2 (by omega)
        have c3 : wr.cell? ⟨g, k * 6 + 3, none⟩ = some (.int .i64 (l[k].2.1 2)) := hcw 3 (by omega)
        have c4 : wr.cell? ⟨g, k * 6 + 4, none⟩ = some (.int .i64 (l[k].2.1 3)) := hcw 4 (by omega)
        have c5 : wr.cell? ⟨g, k * 6 + 5, none⟩ = some l[k].2.2 := hcw 5 (by omega)
        have g63 : (k : Int) < (l.length : Int) := by omega
        have HSk : ∃ ad m cap, l[k].2.2 = .slice ad m cap := HSL.out _ (List.getElem_mem hlt)
        have HF : Hid (Op.bytesLess l[k].1.toList nm.toList = false → hdK l nm = k) := fun h => hdK_stop hall.out hk fun _ => h
        have HA : Hid (Op.bytesLess l[k].1.toList nm.toList = true → ∀ j (hj : j < l.length), j < k + 1 → Op.bytesLess l[j].1.toList nm.toList = true) := fun hn j hj hjk => by
          by_cases e : j = k
          · subst e; exact hn
          · exact hall.out j hj (by omega)
        have HE : Hid (flatK (l.take (k + 1)) = flatK (l.take k) ++ encK l[k]) := flatK_take_succ l k hlt
        clear hcw hcells hall hbox hown hbel
        generalize l[k] = q at *
        obtain ⟨na, cq, vs⟩ := q
        obtain ⟨aq, mq, kq, hvs⟩ := HSk
        simp only at hvs
        subst hvs
        simp only at c0 c1 c2 c3 c4 c5
        cases hless : Op.bytesLess na.toList nm.toList with
        | true =>
          have HA' : Hid (∀ j (hj : j < l.length), j < k + 1 → Op.bytesLess l[j].1.toList nm.toList = true) := HA.out hless
          clear HA HF
          go_wp2_with fail
          go_quiet (fail)
          go_wp2_with (first
            | (at_builtin; refine wpList_append_lies _ rfl _ _ _ rfl (w.heap.size + 1) 82 i0 _ 6 72 Tryz.underlying43 hi0 hz0 hz1 hz2 rfl (by omega) u4 _ _ rfl ((HW.out _).alloc _) ⟨wr.heap.size, 0, none⟩ 1 1 [.string na, .int .i64 (cq 0), .int .i64 (cq 1), .int .i64 (cq 2), .int .i64 (cq 3), .slice aq mq kq] rfl rfl (World.news_of_block (cs := #[.string na, .int .i64 (cq 0), .int .i64 (cq 1), .int .i64 (cq 2), .int .i64 (cq 3), .slice aq mq kq]) (t := 82) (fr := (0, 0)) (heap_alloc_new _ _)) (by simp [Value.oneCell']) (by omega) (by unfold maxLen; omega) (by omega) (by simp; omega) (wr.heap.size + 1) (by simp) ?_; intro gg capn w2 hown2 hgrow hat hlt2))
          refine ⟨⟨k + 1, by omega, by go_num, ?_, ?_, HA'⟩, by simp [intOf]; omega⟩
          · rw [HE.out]; exact hown2
          · exact grown_row (HW.out _) (HBel.out _) (by simp; omega) hgrow
        | false =>
          have HF' : Hid (hdK l nm = k) := HF.out hless
          clear HA HF
          go_wp2_with fail
          go_quiet (fail)
          go_wp2_with fail
          go_meet
          rw [HF'.out]
          exact ⟨rfl, HW.out _, HBel.out _⟩
      · obtain rfl : k = l.length := by omega
        have HF' : Hid (hdK l nm = l.length) := hdK_stop hall.out hk fun h => absurd h (by omega)
        clear hbox hall
        go_wp2_with fail
        go_quiet (fail)
        go_wp2_with fail
        go_meet
        rw [HF'.out]
        exact ⟨rfl, HW.out _, HBel.out _⟩
  case rest =>
    have hhle := hdK_le l nm
    have hxle := nxK_le l nm
    have hxge : hdK l nm ≤ nxK l nm := by unfold nxK; split <;> omega
    have Hfl : Hid (flatK (setK l (nm, cx, .slice av mv cv)) = flatK (l.take (hdK l nm)) ++ [.string nm, .int .i64 (cx 0), .int .i64 (cx 1), .int .i64 (cx 2), .int .i64 (cx 3), .slice av mv cv] ++ flatK (l.drop (nxK l nm))) := setK_flat l _
    have Hln : Hid ((setK l (nm, cx, .slice av mv cv)).length = hdK l nm + 1 + (l.length - nxK l nm)) := setK_length l _
    obtain ⟨h, hh⟩ : ∃ h, hdK l nm = h := ⟨_, rfl⟩
    obtain ⟨x, hx⟩ : ∃ x, nxK l nm = x := ⟨_, rfl⟩
    rw [hh] at hcut hhle hxge Hfl Hln
    rw [hx] at hxle hxge Hfl Hln
    obtain ⟨rfl, hown, hbel⟩ := hcut
    obtain ⟨cbc, _, -, hbox⟩ := HBlk.out _ hbel
    have HW : Hid (wc.ownsRow (w.heap.size + 1) 82 6 u4 h (flatK (l.take h))) := hown
    have HBel : Hid (Below (w.heap.size + 1) (w.alloc (.cells #[.string nm, .int .i64 (cx 0), .int .i64 (cx 1), .int .i64 (cx 2), .int .i64 (cx 3), .slice av mv cv] 82)) wc) := hbel
    have HH : Hid (hdK l nm = h) := hh
    have HX : Hid (nxK l nm = x) := hx
    have hsz : w.heap.size + 1 ≤ wc.heap.size := by have := hbel.size; simp at this; omega
    have b0 : wc.cell? ⟨w.heap.size, 0, none⟩ = some (.string nm) := hbox 0
    have b1 : wc.cell? ⟨w.heap.size, 1, none⟩ = some (.int .i64 (cx 0)) := hbox 1
    have b2 : wc.cell? ⟨w.heap.size, 2, none⟩ = some (.int .i64 (cx 1)) := hbox 2
    have b3 : wc.cell? ⟨w.heap.size, 3, none⟩ = some (.int .i64 (cx 2)) := hbox 3
    have b4 : wc.cell? ⟨w.heap.size, 4, none⟩ = some (.int .i64 (cx 3)) := hbox 4
    have b5 : wc.cell? ⟨w.heap.size, 5, none⟩ = some (.slice av mv cv) := hbox 5
    clear hown hbel hbox hh hx
    go_upto_region 7 with (first
      | (at_builtin; refine wpList_append_lies _ rfl _ _ _ rfl (w.heap.size + 1) 82 i0 _ 6 72 Tryz.underlying43 hi0 hz0 hz1 hz2 rfl (by omega) u4 _ _ rfl (HW.out.alloc _) ⟨wc.heap.size, 0, none⟩ 1 1 [.string nm, .int .i64 (cx 0), .int .i64 (cx 1), .int .i64 (cx 2), .int .i64 (cx 3), .slice av mv cv] rfl rfl (World.news_of_block (cs := #[.string nm, .int .i64 (cx 0), .int .i64 (cx 1), .int .i64 (cx 2), .int .i64 (cx 3), .slice av mv cv]) (t := 82) (fr := (0, 0)) (heap_alloc_new _ _)) (by simp [Value.oneCell']) (by omega) (by unfold maxLen; omega) (by omega) (by simp; omega) (wc.heap.size + 1) (by simp) ?_; intro gg capn w2 hown2 hgrow hat hlt2; have HO2 : Hid (w2.ownsRow (w.heap.size + 1) 82 6 (.slice (some ⟨gg, 0, none⟩) (h + 1) capn) (h + 1) (flatK (l.take h) ++ [.string nm, .int .i64 (cx 0), .int .i64 (cx 1), .int .i64 (cx 2), .int .i64 (cx 3), .slice av mv cv])) := hown2; have HB2 : Hid (Below (w.heap.size + 1) (w.alloc (.cells #[.string nm, .int .i64 (cx 0), .int .i64 (cx 1), .int .i64 (cx 2), .int .i64 (cx 3), .slice av mv cv] 82)) w2) := grown_row HW.out HBel.out (by omega) hgrow; clear hown2 hgrow hat hlt2))
    clear cbc b0 b1 b2 b3 b4 b5
    obtain ⟨cb, fb, -, hbox⟩ := HBlk.out _ HB2.out
    have b0 : w2.cell? ⟨w.heap.size, 0, none⟩ = some (.string nm) := hbox 0
    clear hbox
    have h0 : (0 : Int) ≤ (h : Int) := by omega
    go_cut [61] from 42 to 61 (fun i wx => i = .bool (decide (x = h + 1)) ∧ ∃ m, wx = w2.drewN m)
    case first =>
      by_cases hlt : h < l.length
      · obtain ⟨g, cap', hsv', _, _, hg, hcells⟩ := row_cellA H.out (by omega)
        cases hsv'
        have c0 : w2.cell? ⟨g, h * 6, none⟩ = some (.string l[h].1) := by
          have hget : (flatK l)[h * 6 + 0]? = some (.string l[h].1) := by
            rw [flatK_get l h hlt 0 (by omega)]; rfl
          rw [HB2.out.cell (p := ⟨g, h * 6, none⟩) (show g < w.heap.size + 1 by omega), World.cell?_alloc_lt _ _ _ hg]
          exact hcells _ _ (by omega) hget
        have g63 : (h : Int) < (l.length : Int) := by omega
        by_cases hn : l[h].1 = nm
        · have hd : (l[h].1.toList == nm.toList) = true := bytes_eq_true hn
          have HXe : Hid (x = h + 1) := by have := HX.out; rw [nxK_hit HH.out hlt hn] at this; exact this.symm
          clear hn hcells
          generalize l[h].1 = na at *
          go_wp2_with fail
          go_quiet (fail)
          go_wp2_with fail
          go_meet
          exact ⟨by simp [HXe.out], _, rfl⟩
        · have hd : (l[h].1.toList == nm.toList) = false := bytes_eq_false hn
          have HXe : Hid (x = h) := by have := HX.out; rw [nxK_other HH.out hlt hn] at this; exact this.symm
          clear hn hcells
          generalize l[h].1 = na at *
          go_wp2_with fail
          go_quiet (fail)
          go_wp2_with fail
          go_meet
          exact ⟨by simp [HXe.out], _, rfl⟩
      · obtain rfl : h = l.length := by omega
        have HXe : Hid (x = l.length) := by have := HX.out; rw [nxK_end HH.out hlt] at this; exact this.symm
        go_wp2_with fail
        go_quiet (fail)
        go_wp2_with fail
        go_meet
        exact ⟨by simp [HXe.out], _, rfl⟩
    case rest =>
     obtain ⟨rfl, m, rfl⟩ := hcut
     have HX2 : Hid (x = h + 1 ∨ x = h) := by
       rcases Nat.lt_or_ge h l.length with hlt | hge
       · by_cases hn : l[h].1 = nm
         · exact Or.inl (HX.out.symm.trans (nxK_hit HH.out hlt hn))
         · exact Or.inr (HX.out.symm.trans (nxK_other HH.out hlt hn))
       · exact Or.inr (HX.out.symm.trans (nxK_end HH.out (by omega)))
     go_upto_if 61 with fail
     go_cut [5] from 62 to 63 (fun i wx => i = .int .i64 (x : Nat) ∧ wx = w2.drewN m)
     case first =>
      rcases HX2.out with hx2 | hx2
      · have hd : decide (x = h + 1) = true := by simpa using hx2
        go_wp2_with fail
        go_meet
        exact ⟨by rw [hx2]; go_num, rfl⟩
      · have hd : decide (x = h + 1) = false := by simp [hx2]
        go_wp2_with fail
        go_meet
        exact ⟨by rw [hx2], rfl⟩
     case rest =>
      obtain ⟨rfl, rfl⟩ := hcut
      have HOm : Hid ((w2.drewN m).ownsRow (w.heap.size + 1) 82 6 (.slice (some ⟨gg, 0, none⟩) (h + 1) capn) (h + 1) (flatK (l.take h) ++ [.string nm, .int .i64 (cx 0), .int .i64 (cx 1), .int .i64 (cx 2), .int .i64 (cx 3), .slice av mv cv])) := HO2.out
      have HBm : Hid (Below (w.heap.size + 1) (w.alloc (.cells #[.string nm, .int .i64 (cx 0), .int .i64 (cx 1), .int .i64 (cx 2), .int .i64 (cx 3), .slice av mv cv] 82)) (w2.drewN m)) := below_drewN HB2.out m
      have zm := HB2.out.size
      simp only [size_allocW] at zm
      have x0 : (0 : Int) ≤ (x : Int) := by omega
      have xl : (x : Int) ≤ (l.length : Int) := by omega
      have xc : (l.length : Int) ≤ (cap : Int) := by omega
      have HNil : Hid (flatK (l.drop l.length) = []) := (show flatK (l.drop l.length) = [] by simp [flatK])
      rcases H.out.2 with ⟨hsv, hl0⟩ | ⟨g, cap', cur, hv, _, hh, _, _, _, ht⟩
      · injection hsv with e1 e2 e3
        obtain rfl : l = [] := List.eq_nil_of_length_eq_zero hl0
        obtain rfl : x = 0 := by simpa using hxle
        obtain rfl : h = 0 := by simpa using hhle
        subst e1 e3
        simp only [List.length_nil] at cb
        have HBb : Hid ((w2.drewN m).heap[b]? = some (.cells #[.int .i64 n, .slice none 0 0] 45)) := (HBlk.out _ HBm.out).2.2.1
        clear x0 xl xc
        go_wp2_with (first
          | (at_builtin; refine wpList_append_own_none rfl _ _ _ rfl (w.heap.size + 1) 82 i0 6 Tryz.underlying43 hi0 (.slice (some ⟨gg, 0, none⟩) (0 + 1) capn) _ _ rfl HOm.out rfl ?_))
        go_end0
        refine ⟨rfl, .slice (some ⟨gg, 0, none⟩) (0 + 1) capn, ?_, ?_, ?_⟩
        · rw [heap_set HBb.out]; rfl
        · have := row_set_low (o := 1) (val := .slice (some ⟨gg, 0, none⟩) (0 + 1) capn) HOm.out (show b < w.heap.size + 1 by omega)
          rw [Hfl.out, Hln.out]
          exact ownsRow_base (by simpa [flatK] using this) (by omega)
        · exact Fr.setCell (X := fun k => k = b) (Fr.of_below (((Below.refl _ _).alloc (Nat.le_refl _) _).trans (HBm.out.mono (by omega)))) (Or.inr rfl) _
      cases hv
      have hg : g < w.heap.size := (Array.getElem?_eq_some_iff.1 hh).1
      have HCells : Hid (∀ t u, t < l.length * 6 → (flatK l)[t]? = some u → w.cell? ⟨g, t, none⟩ = some u) := fun t u h1 h2 => by
        rw [← ht, List.getElem?_take, if_pos h1] at h2
        simp only [World.cell?, hh]
        simpa using h2
      clear hh ht
      by_cases hcl : cap = x
      · have hxl : x = l.length := by omega
        have hc0 : cap - x = 0 := by omega
        have hxc : (x : Int) = (cap : Int) := by omega
        subst hcl
        go_wp2_with (first
          | (at_builtin; refine wpList_append_own_at _ rfl _ _ _ rfl (w.heap.size + 1) 82 i0 _ 6 72 Tryz.underlying43 hi0 hz0 hz1 hz2 rfl (by omega) (.slice (some ⟨gg, 0, none⟩) (h + 1) capn) _ _ rfl HOm.out ⟨g, 0, none⟩ 0 0 [] rfl rfl (fun j u hj => by simp at hj) (fun u hu => by simp at hu) (by unfold maxLen; omega) (by omega) (by simp; omega) ?_; intro v3 w3 hown3 hgrow3 hnil3 hat3; obtain ⟨ad3, cap3, rfl, -, -⟩ := row_lenA hown3; have HO3 : Hid (w3.ownsRow (w.heap.size + 1) 82 6 (.slice ad3 (h + 1 + 0) cap3) (h + 1 + 0) (flatK (l.take h) ++ [.string nm, .int .i64 (cx 0), .int .i64 (cx 1), .int .i64 (cx 2), .int .i64 (cx 3), .slice av mv cv] ++ [])) := hown3; have HB3 : Hid (Below (w.heap.size + 1) (w.alloc (.cells #[.string nm, .int .i64 (cx 0), .int .i64 (cx 1), .int .i64 (cx 2), .int .i64 (cx 3), .slice av mv cv] 82)) w3) := grown_own HOm.out HBm.out (by simp; omega) hgrow3; obtain ⟨cb3, fb3, hb3, -⟩ := HBlk.out _ HB3.out; have Hb3 : Hid _ := hb3; clear hown3 hgrow3 hnil3 hat3 hb3))
        go_end0
        refine ⟨rfl, .slice ad3 (h + 1 + 0) cap3, ?_, ?_, ?_⟩
        · rw [heap_set Hb3.out]; rfl
        · have := row_set_low (o := 1) (val := .slice ad3 (h + 1 + 0) cap3) HO3.out (show b < w.heap.size + 1 by omega)
          rw [Hfl.out, Hln.out, hxl, HNil.out, Nat.sub_self]
          exact ownsRow_base this (by omega)
        · exact Fr.setCell (X := fun k => k = b) (Fr.of_below (((Below.refl _ _).alloc (Nat.le_refl _) _).trans (HB3.out.mono (by omega)))) (Or.inr rfl) _
      · have hcl' : (x : Int) < (cap : Int) := by omega
        have hcl2 : ¬ cap - x = 0 := by omega
        have HN : Hid (∀ j u, (flatK (l.drop x))[j]? = some u → (w2.drewN m).cell? ((⟨g, x * 6, none⟩ : Addr).add j) = some u) := tail_newsK HCells.out hxle HBm.out hg
        have HOne : Hid (∀ u ∈ flatK (l.drop x), u.oneCell' = true) := flatK_one fun q hq => HSL.out q (List.mem_of_mem_drop hq)
        go_wp2_with (first
          | (at_builtin; refine wpList_append_own_at _ rfl _ _ _ rfl (w.heap.size + 1) 82 i0 _ 6 72 Tryz.underlying43 hi0 hz0 hz1 hz2 rfl (by omega) (.slice (some ⟨gg, 0, none⟩) (h + 1) capn) _ _ rfl HOm.out ⟨g, x * 6, none⟩ (l.length - x) (cap - x) (flatK (l.drop x)) rfl (by rw [flatK_length, List.length_drop]) HN.out HOne.out (by unfold maxLen; omega) (by omega) (by simp; omega) ?_; intro v3 w3 hown3 hgrow3 hnil3 hat3; obtain ⟨ad3, cap3, rfl, -, -⟩ := row_lenA hown3; have HO3 : Hid (w3.ownsRow (w.heap.size + 1) 82 6 (.slice ad3 (h + 1 + (l.length - x)) cap3) (h + 1 + ((l.length - x))) (flatK (l.take h) ++ [.string nm, .int .i64 (cx 0), .int .i64 (cx 1), .int .i64 (cx 2), .int .i64 (cx 3), .slice av mv cv] ++ (flatK (l.drop x)))) := hown3; have HB3 : Hid (Below (w.heap.size + 1) (w.alloc (.cells #[.string nm, .int .i64 (cx 0), .int .i64 (cx 1), .int .i64 (cx 2), .int .i64 (cx 3), .slice av mv cv] 82)) w3) := grown_own HOm.out HBm.out (by simp; omega) hgrow3; obtain ⟨cb3, fb3, hb3, -⟩ := HBlk.out _ HB3.out; have Hb3 : Hid _ := hb3; clear hown3 hgrow3 hnil3 hat3 hb3))
        go_end0
        refine ⟨rfl, .slice ad3 (h + 1 + (l.length - x)) cap3, ?_, ?_, ?_⟩
        · rw [heap_set Hb3.out]; rfl
        · have := row_set_low (o := 1) (val := .slice ad3 (h + 1 + (l.length - x)) cap3) HO3.out (show b < w.heap.size + 1 by omega)
          rw [Hfl.out, Hln.out]
          exact ownsRow_base this (by omega)
        · exact Fr.setCell (X := fun k => k = b) (Fr.of_below (((Below.refl _ _).alloc (Nat.le_refl _) _).trans (HB3.out.mono (by omega)))) (Or.inr rfl) _

end Go.Proofs.YtldmcdeibiclkaaGreat

namespace Go.Proofs.YtldmcdeibiclkaaGreat
open Go.RowKit

theorem Tryz.infoStr : (Tryz.prog.info? 9).map (fun i => (i.zero, i.size, i.bytes)) = some (some (.string ⟨#[]⟩), 1, 16) := by kernel_rfl

/-- How many versions a key has. -/
def lenK (q : RKey) : Nat := match q.2.2 with
  | .slice _ m _ => m
  | _ => 0
/-- The names of the keys with versions. -/
def liveK (l : List RKey) : List Value := (l.filter fun q => decide (0 < lenK q)).map fun q => .string q.1
theorem liveK_succ (l : List RKey) (k : Nat) (h : k < l.length) : liveK (l.take (k + 1)) = liveK (l.take k) ++ if 0 < lenK l[k] then [.string l[k].1] else [] := by
  unfold liveK
  rw [List.take_add_one, List.getElem?_eq_getElem h]
  simp only [Option.toList_some, List.filter_append, List.map_append]
  congr 1
  by_cases e : 0 < lenK l[k] <;> simp [e]
theorem liveK_length (l : List RKey) (k : Nat) : (liveK (l.take k)).length ≤ l.length := by
  unfold liveK
  rw [List.length_map]
  exact Nat.le_trans (List.length_filter_le _ _) (by simp; omega)

set_option maxRecDepth 100000 in
set_option maxHeartbeats 4000000 in
theorem refKeys_any (b n : Nat) (sv : Value) (l : List RKey) (w : World) (h : RefAt w b n sv l) (hsl : ∀ q ∈ l, ∃ ad m cap, q.2.2 = .slice ad m cap ∧ m ≤ 100000) (hlen : l.length ≤ 1900000000000) :
    Calls Tryz.prog 69 #[.pointer (some ⟨b, 0, none⟩)] w fun e w' => ∃ v', e = .returned v' ∧ w'.ownsRow w.heap.size 9 1 v' (liveK l).length (liveK l) ∧ Below w.heap.size w w' := by
  obtain ⟨ad, cap, rfl, hcap, hlc⟩ := row_lenA h.2
  have hbs : b < w.heap.size := (Array.getElem?_eq_some_iff.1 h.1).1
  have H : Hid (KSl w (.slice ad l.length cap) l) := h.2
  have HC : Hid (∀ o, w.cell? ⟨b, o, none⟩ = #[Value.int .i64 n, .slice ad l.length cap][o]?) := (cells_of0 h.1).1
  have HSL : Hid (∀ q ∈ l, ∃ ad m cap, q.2.2 = .slice ad m cap ∧ m ≤ 100000) := hsl
  obtain ⟨i0, hi0, hz0, hz1, hz2⟩ := info_parts Tryz.infoStr
  clear h hsl
  go_enter Tryz.func69, Tryz.ntmps69
  go_wp2
  go_loopw [3, 4] (fun lf i wr => ∃ k : Nat, k ≤ l.length ∧ i = .int .i64 k ∧ Hid (wr.ownsRow w.heap.size 9 1 lf (liveK (l.take k)).length (liveK (l.take k))) ∧ Hid (Below w.heap.size w wr)) (fun _ i _ => l.length - (intOf i).toNat)
  case atStart => exact ⟨0, by omega, rfl, ⟨by simp [liveK], Or.inl ⟨rfl, by simp [liveK]⟩⟩, Below.refl _ _⟩
  case round =>
    obtain ⟨k, hk, rfl, hown, hbel⟩ := hrel
    have cb : wr.cell? ⟨b, 1, none⟩ = some (.slice ad l.length cap) := by
      rw [hbel.out.cell (p := ⟨b, 1, none⟩) hbs, HC.out]; rfl
    have k0 : (0 : Int) ≤ (k : Int) := by omega
    have hsz := hbel.out.size
    by_cases hlt : k < l.length
    · obtain ⟨g, cap', hsv', _, _, hg, hcells⟩ := row_cellA H.out (by omega)
      cases hsv'
      have hcw : ∀ j, j < 6 → wr.cell? ⟨g, k * 6 + j, none⟩ = (encK l[k])[j]? := fun j hj => by
        have hlt' : k * 6 + j < l.length * 6 := by omega
        have hget : (flatK l)[k * 6 + j]? = some ((encK l[k])[j]'(by simpa [encK] using hj)) := by
          rw [flatK_get l k hlt j hj]; simp
        rw [hbel.out.cell (p := ⟨g, k * 6 + j, none⟩) hg, hcells _ _ hlt' hget]; simp
      have c0 : wr.cell? ⟨g, k * 6, none⟩ = some (.string l[k].1) := hcw 0 (by omega)
      have c5 : wr.cell? ⟨g, k * 6 + 5, none⟩ = some l[k].2.2 := hcw 5 (by omega)
      have g63 : (k : Int) < (l.length : Int) := by omega
      have HSk : ∃ ad m cap, l[k].2.2 = .slice ad m cap ∧ m ≤ 100000 := HSL.out _ (List.getElem_mem hlt)
      have HS : Hid (liveK (l.take (k + 1)) = liveK (l.take k) ++ if 0 < lenK l[k] then [.string l[k].1] else []) := liveK_succ l k hlt
      have HL : Hid ((liveK (l.take k)).length ≤ l.length) := liveK_length l k
      clear hcw hcells
      generalize l[k] = q at *
      obtain ⟨na, cx, vs⟩ := q
      obtain ⟨av, mv, cv, hvs, hmv⟩ := HSk
      simp only at hvs
      subst hvs
      simp only at c0 c5
      by_cases hm : 0 < mv
      · have hd : (0 : Int) < (mv : Int) := by omega
        have HS' : Hid (liveK (l.take (k + 1)) = liveK (l.take k) ++ [.string na]) := by
          have := HS.out; rw [if_pos (show 0 < lenK (na, cx, .slice av mv cv) from hm)] at this; exact this
        have hul := HL.out
        clear HS HL
        go_wp2_with (first
          | (at_builtin; refine wpList_append_lies _ rfl _ _ _ rfl w.heap.size 9 i0 _ 1 16 Tryz.underlying27 hi0 hz0 hz1 hz2 rfl (by omega) u3 _ _ rfl (hown.out.alloc _) ⟨wr.heap.size, 0, none⟩ 1 1 [.string na] rfl rfl (World.news_of_block (cs := #[.string na]) (t := 9) (fr := (0, 0)) (heap_alloc_new _ _)) (by simp [Value.oneCell']) (by omega) (by unfold maxLen; omega) (by omega) (by simp; omega) (wr.heap.size + 1) (by simp) ?_; intro gg capn w2 hown2 hgrow hat hlt2))
        refine ⟨⟨k + 1, by omega, by go_num, ?_, ?_⟩, by simp [intOf]; omega⟩
        · rw [HS'.out, List.length_append]; exact hown2
        · exact grown_row hown.out hbel.out (by omega) hgrow
      · have hm0 : mv = 0 := by omega
        subst hm0
        have HS' : Hid (liveK (l.take (k + 1)) = liveK (l.take k)) := by
          have := HS.out; rw [if_neg (show ¬ 0 < lenK (na, cx, .slice av 0 cv) from by simp [lenK]), List.append_nil] at this; exact this
        clear HS HL hm
        go_wp2
        exact ⟨⟨k + 1, by omega, by go_num, by rw [HS'.out]; exact hown, hbel⟩, by simp [intOf]; omega⟩
    · have HK : Hid (List.take k l = l) := List.take_of_length_le (by omega)
      go_wp2
      go_ret
      refine ⟨_, rfl, ?_, hbel.out⟩
      have := hown.out; rw [HK.out] at this; exact this
end Go.Proofs.YtldmcdeibiclkaaGreat

namespace Go.Proofs.YtldmcdeibiclkaaGreat
open Go.RowKit

theorem RefAt.below {w w' : World} {b n : Nat} {sv : Value} {l : List RKey} (h : RefAt w b n sv l) (hb : Below w.heap.size w w') : RefAt w' b n sv l :=
  ⟨by rw [hb.block _ (Array.getElem?_eq_some_iff.1 h.1).1]; exact h.1, ownsRow_below h.2 hb (Nat.le_refl _)⟩
theorem findK_slice {l : List RKey} (hsl : ∀ q ∈ l, ∃ ad m cap, q.2.2 = .slice ad m cap) (name : ByteArray) : ∃ na c ad m cap, findK l name = (na, c, .slice ad m cap) := by
  unfold findK
  cases hf : l.find? (fun k => decide (k.1 = name)) with
  | none => exact ⟨_, _, _, _, _, rfl⟩
  | some q =>
    obtain ⟨ad, m, cap, e⟩ := hsl q (List.mem_of_find?_eq_some hf)
    exact ⟨q.1, q.2.1, ad, m, cap, by rw [← e]; rfl⟩

set_option maxRecDepth 100000 in
set_option maxHeartbeats 4000000 in
theorem refGet_bad (b : Nat) (name : ByteArray) (w : World) (hs : name.size ≤ maxLen) (hkey : keyB name = false) :
    Calls Tryz.prog 28 #[.pointer (some ⟨b, 0, none⟩), .string name] w fun e w' => e = .returned (.tuple #[.slice none 0 0, ctxV fun _ => 0, .int .i64 2]) ∧ Below w.heap.size w w' := by
  have HCK : Hid (∀ W, Calls Tryz.prog 36 #[.string name] W fun e w' => e = .returned (.bool false) ∧ w' = W) := fun W => by
    have := refKey_any name W hs; rw [hkey] at this; exact this
  clear hs hkey
  go_enter Tryz.func28, Tryz.ntmps28
  go_wp2_with (first
    | (go_at_call 36; refine Calls.mono (HCK.out _) ?_; rintro e w1 ⟨rfl, rfl⟩))
  refine bodyPost_ret (v := .tuple #[.slice none 0 0, ctxV fun _ => 0, .int .i64 2]) ?_ rfl ⟨rfl, ?_⟩
  · simp [results, Tryz.results28, go_sem]
  · simp (maxDischargeDepth := 12) [Below.refl, Below.alloc, Below.setCell]

set_option maxRecDepth 100000 in
set_option maxHeartbeats 4000000 in
theorem refGet_ok (b n : Nat) (sv : Value) (l : List RKey) (name : ByteArray) (w : World) (h : RefAt w b n sv l) (hsl : ∀ q ∈ l, ∃ ad m cap, q.2.2 = .slice ad m cap) (hlen : l.length ≤ 1900000000000) (hs : name.size ≤ maxLen) (hkey : keyB name = true) :
    Calls Tryz.prog 28 #[.pointer (some ⟨b, 0, none⟩), .string name] w fun e w' => e = .returned (.tuple #[(findK l name).2.2, ctxV (findK l name).2.1, .int .i64 0]) ∧ Below w.heap.size w w' := by
  have HCK : Hid (∀ W, Calls Tryz.prog 36 #[.string name] W fun e w' => e = .returned (.bool true) ∧ w' = W) := fun W => by
    have := refKey_any name W hs; rw [hkey] at this; exact this
  have HKey : Hid (∀ X, Calls Tryz.prog 38 #[.pointer (some ⟨b, 0, none⟩), .string name] (w.alloc X) fun e w' => e = .returned (keyV (findK l name)) ∧ Below (w.alloc X).heap.size (w.alloc X) w') := fun X => refKeyOf_any b n sv l name _ (h.below ((Below.refl _ _).alloc (Nat.le_refl _) X)) hsl hlen
  obtain ⟨na, c, av, mv, cv, hf⟩ := findK_slice hsl name
  rw [hf] at HKey
  rw [hf]
  clear hf h hsl hs hkey
  go_enter Tryz.func28, Tryz.ntmps28
  go_wp2_with (first
    | (go_at_call 36; refine Calls.mono (HCK.out _) ?_; rintro e w1 ⟨rfl, rfl⟩)
    | (go_at_call 38; refine Calls.mono (HKey.out _) ?_; rintro e w1 ⟨rfl, hb1⟩; have z1 := hb1.size; (try simp only [size_allocW] at z1); have hw1 : w1.heap[w.heap.size]? = some (.cells #[.int .i64 0, .int .i64 0, .int .i64 0, .int .i64 0] 34) := (by rw [hb1.block w.heap.size (by simp)]; exact heap_alloc_new w _); obtain ⟨m0, f0⟩ := cells_of0 hw1; have HB1 : Hid (Below w.heap.size w w1) := ((Below.refl _ _).alloc (Nat.le_refl _) _).trans (hb1.mono (by simp)); clear hw1 hb1))
  obtain ⟨W, hW⟩ : ∃ W, W = w1.alloc (.cells #[.string na, .int .i64 (c 0), .int .i64 (c 1), .int .i64 (c 2), .int .i64 (c 3), .slice av mv cv] 82) := ⟨_, rfl⟩
  rw [← hW]
  have e' : ∀ o, W.cell? ⟨w1.heap.size, o, none⟩ = #[Value.string na, .int .i64 (c 0), .int .i64 (c 1), .int .i64 (c 2), .int .i64 (c 3), .slice av mv cv][o]? := by
    rw [hW]; exact (cells_of0 (heap_alloc_new w1 _)).1
  have m' : ∀ o, W.cell? ⟨w.heap.size, o, none⟩ = #[Value.int .i64 0, .int .i64 0, .int .i64 0, .int .i64 0][o]? := fun o => by
    rw [hW, World.cell?_alloc_lt _ _ _ (show w.heap.size < w1.heap.size by omega)]; exact m0 o
  have f' : ∀ o, W.frozen? ⟨w.heap.size, o, none⟩ = false := fun o => by
    have hh : W.heap[w.heap.size]? = w1.heap[w.heap.size]? := by rw [hW, Below.heap_alloc _ _ _ (show w.heap.size < w1.heap.size by omega)]
    have := f0 o
    simp only [World.frozen?, hh] at this ⊢; exact this
  have HBW : Hid (Below w.heap.size w W) := by
    have := HB1.out.alloc (show w.heap.size ≤ w1.heap.size by omega) (.cells #[.string na, .int .i64 (c 0), .int .i64 (c 1), .int .i64 (c 2), .int .i64 (c 3), .slice av mv cv] 82)
    rw [← hW] at this; exact this
  have hne : w.heap.size ≠ w1.heap.size := by omega
  have hne' : w1.heap.size ≠ w.heap.size := by omega
  clear hW m0 f0
  go_region
  all_goals
    go_wp2
    refine bodyPost_ret (v := .tuple #[.slice av mv cv, ctxV c, .int .i64 0]) ?_ rfl ⟨rfl, ?_⟩
    · simp [results, Tryz.results28, go_sem, m']
    · exact (((HBW.out.drew.setCell (by simp) _).setCell (by simp) _).setCell (by simp) _).setCell (by simp) _
end Go.Proofs.YtldmcdeibiclkaaGreat

namespace Go.Proofs.YtldmcdeibiclkaaGreat
open Go.RowKit

/-- A context's box, behind a call that keeps what lies below. -/
theorem box_keep {w w1 : World} {A : Array Value} {t : TypeId} (hb : Below (w.alloc (.cells A t)).heap.size (w.alloc (.cells A t)) w1) : w.heap.size + 1 ≤ w1.heap.size ∧ w1.heap[w.heap.size]? = some (.cells A t) ∧ Below w.heap.size w w1 := by
  have z := hb.size
  rw [size_allocW] at z
  refine ⟨z, ?_, ((Below.refl _ _).alloc (Nat.le_refl _) _).trans (hb.mono (by simp))⟩
  rw [hb.block w.heap.size (by simp)]; exact heap_alloc_new w _

set_option maxRecDepth 100000 in
set_option maxHeartbeats 4000000 in
theorem refDelete_bad (b : Nat) (name : ByteArray) (seen : Ctx) (w : World) (hs : name.size ≤ maxLen) (hkey : keyB name = false) :
    Calls Tryz.prog 16 #[.pointer (some ⟨b, 0, none⟩), .string name, ctxV seen] w fun e w' => e = .returned (.int .i64 2) ∧ Below w.heap.size w w' := by
  have HCK : Hid (∀ W, Calls Tryz.prog 36 #[.string name] W fun e w' => e = .returned (.bool false) ∧ w' = W) := fun W => by
    have := refKey_any name W hs; rw [hkey] at this; exact this
  have HCX : Hid (∀ W, Calls Tryz.prog 37 #[ctxV seen] W fun e w' => e = .returned (.bool (soundB seen)) ∧ Below W.heap.size W w') := fun W => refContext_any seen W
  clear hs hkey
  go_enter Tryz.func16, Tryz.ntmps16
  go_wp2_with (first
    | (go_at_call 36; refine Calls.mono (HCK.out _) ?_; rintro e w1 ⟨rfl, rfl⟩)
    | (go_at_call 37; refine Calls.mono (HCX.out _) ?_; rintro e w1 ⟨rfl, hb1⟩; have HB1 : Hid (Below w.heap.size w w1) := (box_keep hb1).2.2; clear hb1))
  go_ret
  exact ⟨rfl, HB1.out⟩

set_option maxRecDepth 100000 in
set_option maxHeartbeats 4000000 in
theorem refDelete_seen (b : Nat) (name : ByteArray) (seen : Ctx) (w : World) (hs : name.size ≤ maxLen) (hkey : keyB name = true) (hsd : soundB seen = false) :
    Calls Tryz.prog 16 #[.pointer (some ⟨b, 0, none⟩), .string name, ctxV seen] w fun e w' => e = .returned (.int .i64 4) ∧ Below w.heap.size w w' := by
  have HCK : Hid (∀ W, Calls Tryz.prog 36 #[.string name] W fun e w' => e = .returned (.bool true) ∧ w' = W) := fun W => by
    have := refKey_any name W hs; rw [hkey] at this; exact this
  have HCX : Hid (∀ W, Calls Tryz.prog 37 #[ctxV seen] W fun e w' => e = .returned (.bool false) ∧ Below W.heap.size W w') := fun W => by
    have := refContext_any seen W; rw [hsd] at this; exact this
  clear hs hkey hsd
  go_enter Tryz.func16, Tryz.ntmps16
  go_wp2_with (first
    | (go_at_call 36; refine Calls.mono (HCK.out _) ?_; rintro e w1 ⟨rfl, rfl⟩)
    | (go_at_call 37; refine Calls.mono (HCX.out _) ?_; rintro e w1 ⟨rfl, hb1⟩; have HB1 : Hid (Below w.heap.size w w1) := (box_keep hb1).2.2; clear hb1))
  go_ret
  exact ⟨rfl, HB1.out⟩
end Go.Proofs.YtldmcdeibiclkaaGreat
