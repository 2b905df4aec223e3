/-
  Contract: keepTexts: a list of texts is written full with a mark of its own, lengthened eight times, and held.
-/
import Derived.Test.YtldmcdeibiclkaaGreatQ21
import Derived.Test.YtldmcdeibiclkaaGreatQ14
set_option linter.unusedVariables false
set_option linter.unusedSimpArgs false

namespace Go.Proofs.YtldmcdeibiclkaaGreat
open Go.RowKit

theorem Tryz.infoSlT : (Tryz.prog.info? 27).map (fun i => (i.zero, i.size, i.bytes)) = some (some (.slice none 0 0), 1, 24) := by kernel_rfl

def holdT (m : ByteArray) (vs : Value) : Array Value := #[.slice none 0 0, vs, .string m]

theorem cells_holdT {w : World} {h : Nat} {m : ByteArray} {vs : Value} (e : w.heap[h]? = some (.cells (holdT m vs) 110)) : w.cell? ⟨h, 1, none⟩ = some vs ∧ w.frozen? ⟨h, 1, none⟩ = false ∧ w.cell? ⟨h, 2, none⟩ = some (.string m) := by
  obtain ⟨c, f⟩ := cells_of0 e
  exact ⟨by rw [c]; rfl, f 1, by rw [c]; rfl⟩

set_option maxRecDepth 100000 in
set_option maxHeartbeats 4000000 in
theorem keepT_walk (wb : Nat) (pv lv0 hv : Value) (hs : List Nat) (lv : Value) (n : Nat) (xs : List Value) (S : Nat → Prop) (w : World)
    (hblk : w.heap[wb]? = some (.cells #[pv, lv0, hv] 30)) (hrow : w.ownsRow 0 61 1 hv hs.length (hs.map ptrV)) (hlen : hs.length ≤ 9000000000000)
    (hl : w.ownsRow 0 9 1 lv n xs) (hn : n ≤ 1900000000000) (hSl : ∀ b, lv.ownBlock = some b → S b) (hSn : ∀ b, w.heap.size ≤ b → S b) :
    Calls Tryz.prog 47 #[.pointer (some ⟨wb, 0, none⟩), lv] w fun e w' => e = .returned (.tuple #[]) ∧ ∃ (h : Nat) (m : ByteArray) (hv' : Value) (w1 : World) (u : Value),
      m.size ≤ 4 ∧ w.heap.size ≤ h ∧ w1.heap[h]? = some (.cells (holdT m (.slice none 0 0)) 110) ∧ w1.heap[wb]? = some (.cells #[pv, lv0, hv'] 30) ∧ w1.ownsRow 0 61 1 hv' (hs ++ [h]).length ((hs ++ [h]).map ptrV) ∧ Fr (fun k => k = wb ∨ hv.ownBlock = some k) w w1 ∧ (∀ k, hv'.ownBlock = some k → hv.ownBlock = some k ∨ w.heap.size ≤ k) ∧
      KV 9 27 (patT m) S (holdT m) h n (fun b => lv.ownBlock = some b ∨ b = h) w1 w' u 8 9 := by
  obtain ⟨ad, cap, rfl, hcap, hlc⟩ := row_lenA hl
  obtain ⟨i0, hi0, hz0, hz1, hz2⟩ := info_parts Tryz.infoStr
  obtain ⟨j0, hj0, jz0, jz1, jz2⟩ := info_parts Tryz.infoSlT
  have HN : Hid (Calls Tryz.prog 67 #[.pointer (some ⟨wb, 0, none⟩)] w fun e w' => ∃ (h : Nat) (m : ByteArray) (hv' : Value), e = .returned (.pointer (some ⟨h, 0, none⟩)) ∧ m.size ≤ 4 ∧ w.heap.size ≤ h ∧ w'.heap[h]? = some (.cells (holdT m (.slice none 0 0)) 110) ∧ w'.heap[wb]? = some (.cells #[pv, lv0, hv'] 30) ∧
      w'.ownsRow 0 61 1 hv' (hs ++ [h]).length ((hs ++ [h]).map ptrV) ∧ Fr (fun k => k = wb ∨ hv.ownBlock = some k) w w' ∧ ∀ k, hv'.ownBlock = some k → hv.ownBlock = some k ∨ w.heap.size ≤ k) := next_any wb pv lv0 hv hs w hblk hrow hlen
  have HL : Hid (w.ownsRow 0 9 1 (.slice ad n cap) n xs) := hl
  have HSl : Hid (∀ b, (Value.slice ad n cap).ownBlock = some b → S b) := hSl
  have HSn : Hid (∀ b, w.heap.size ≤ b → S b) := hSn
  have HNA : Hid (∀ k, (Value.slice ad n cap).ownBlock = some k → ¬ (k = wb ∨ hv.ownBlock = some k)) := fun k e => by
    obtain ⟨cur, hc⟩ := own_typed hl e
    rintro (e' | e')
    · rw [e', hblk] at hc; exact absurd hc (by simp)
    · obtain ⟨cur', hc'⟩ := own_typed hrow e'
      exact absurd (typed_ne hc hc') (by decide)
  clear hblk hrow hl hSl hSn
  go_enter Tryz.func47, Tryz.ntmps47
  go_wp2_with (first
    | (go_at_call 67; refine Calls.mono HN.out ?_; rintro e w1 ⟨h, m, hv', rfl, hm, hh, hb1, hw1, hr1, hF1, hN1⟩))
  have HB1 : Hid (w1.heap[h]? = some (.cells (holdT m (.slice none 0 0)) 110)) := hb1
  have HW1 : Hid (w1.heap[wb]? = some (.cells #[pv, lv0, hv'] 30)) := hw1
  have HR1 : Hid (w1.ownsRow 0 61 1 hv' (hs ++ [h]).length ((hs ++ [h]).map ptrV)) := hr1
  have HF1 : Hid (Fr (fun k => k = wb ∨ hv.ownBlock = some k) w w1) := hF1
  have HM : Hid (m.size ≤ 4) := hm
  have HL1 : Hid (w1.ownsRow 0 9 1 (.slice ad n cap) n xs) := hF1.row HL.out fun g o l c e => HNA.out g (by rw [e]; rfl)
  have HSn1 : Hid (∀ b, w1.heap.size ≤ b → S b) := fun b hb => HSn.out b (Nat.le_trans hF1.size hb)
  have HFin : Hid (∀ w' u, KV 9 27 (patT m) S (holdT m) h n (fun b => (Value.slice ad n cap).ownBlock = some b ∨ b = h) w1 w' u 8 9 → ∃ (h : Nat) (m : ByteArray) (hv' : Value) (w1 : World) (u : Value), m.size ≤ 4 ∧ w.heap.size ≤ h ∧ w1.heap[h]? = some (.cells (holdT m (.slice none 0 0)) 110) ∧ w1.heap[wb]? = some (.cells #[pv, lv0, hv'] 30) ∧ w1.ownsRow 0 61 1 hv' (hs ++ [h]).length ((hs ++ [h]).map ptrV) ∧ Fr (fun k => k = wb ∨ hv.ownBlock = some k) w w1 ∧ (∀ k, hv'.ownBlock = some k → hv.ownBlock = some k ∨ w.heap.size ≤ k) ∧
      KV 9 27 (patT m) S (holdT m) h n (fun b => (Value.slice ad n cap).ownBlock = some b ∨ b = h) w1 w' u 8 9) := fun w' u hk => ⟨h, m, hv', w1, u, hm, hh, hb1, hw1, hr1, hF1, hN1, hk⟩
  clear hb1 hw1 hr1 hF1 hm hN1
  go_loopw [5] (fun i wr => ∃ k : Nat, k ≤ n ∧ i = .int .i64 k ∧ Hid (RowM wr 9 (patT m) (.slice ad n cap) n k) ∧ Hid (Fr (fun b => (Value.slice ad n cap).ownBlock = some b ∨ b = h) w1 wr) ∧ Hid (wr.heap[h]? = some (.cells (holdT m (.slice none 0 0)) 110))) (fun i _ => n - (intOf i).toNat)
  case atStart => exact ⟨0, by omega, rfl, RowM.of_row HL1.out, Fr.refl _ _, HB1.out⟩
  case round =>
    obtain ⟨k, hk, rfl, hrm, hfr, hhb⟩ := hrel
    have HRm : Hid (RowM wr 9 (patT m) (.slice ad n cap) n k) := hrm.out
    have HFr : Hid (Fr (fun b => (Value.slice ad n cap).ownBlock = some b ∨ b = h) w1 wr) := hfr.out
    have HHb : Hid (wr.heap[h]? = some (.cells (holdT m (.slice none 0 0)) 110)) := hhb.out
    clear hrm hfr hhb
    obtain ⟨x0, x1, x2⟩ := cells_holdT HHb.out
    have k0 : (0 : Int) ≤ (k : Int) := by omega
    by_cases hlt : k < n
    · have k63 : (k : Int) < (n : Int) := by omega
      obtain ⟨ys, hys', _⟩ := HRm.out
      have hys : wr.ownsRow 0 9 1 (.slice ad n cap) n ys := hys'
      clear hys'
      obtain ⟨g, cap', hsv', _, _, hg, hcells⟩ := row_cellA hys (by omega)
      cases hsv'
      have hty : ∃ cur, wr.heap[g]? = some (.cells cur 9) := own_typed hys rfl
      obtain ⟨cur, hcur⟩ := hty
      have hfz := (cells_of0 hcur).2
      have hyl : ys.length = n := by have := hys.1; simpa using this
      have hgh : g ≠ h := fun e => by rw [e, HHb.out] at hcur; exact absurd hcur (by simp)
      have c0 : wr.cell? ⟨g, k, none⟩ = some ys[k] := hcells _ _ (by omega) (by simp [show k < ys.length by omega])
      generalize ys[k] = y0 at *
      have f0 := hfz k
      clear hcells hys hcur hfz hyl
      go_wp2
      refine ⟨⟨k + 1, by omega, by go_num, HRm.out.store1 hlt, ?_, ?_⟩, by simp [intOf]; omega⟩
      · exact Fr.setCell (X := fun b => (Value.slice (some ⟨g, 0, none⟩) n cap).ownBlock = some b ∨ b = h) HFr.out (Or.inr (Or.inl rfl)) _
      · show _ = _
        rw [Below.heap_setCell _ _ _ _ (Ne.symm hgh)]
        exact HHb.out
    · obtain rfl : k = n := by omega
      have HK0 : Hid (KV 9 27 (patT m) S (holdT m) h k (fun b => (Value.slice ad k cap).ownBlock = some b ∨ b = h) w1 wr (.slice ad k cap) 0 0) := KV.start HFr.out HRm.out HSl.out (fun b e => Or.inl e) HHb.out
      have hsz := HFr.out.size
      have hhlt : h < wr.heap.size := (Array.getElem?_eq_some_iff.1 HHb.out).1
      go_wp2_with (first
        | (at_builtin; refine wpList_append_keep _ rfl _ _ _ rfl w1.heap.size 27 j0 _ 1 24 Tryz.underlying108 hj0 jz0 jz1 jz2 rfl (by omega) (.slice none 0 0) 0 [] rfl (World.ownsRow_nil _ _ _ _) ⟨wr.heap.size, 0, none⟩ 1 1 [.slice ad k cap] rfl rfl (World.news_of_block (cs := #[.slice ad k cap]) (t := 27) (fr := (0, 0)) (heap_alloc_new wr _)) (by simp [Value.oneCell']) (by omega) (by unfold maxLen; omega) (by omega) (by simp; omega) ?_; intro g3 cap3 w3 hown3 hgrow3 hk3; have HO3 : Hid (w3.ownsRow w1.heap.size 27 1 (.slice (some ⟨g3, 0, none⟩) (0 + 1) cap3) (0 + 1) ([] ++ [.slice ad k cap])) := hown3; have HG3 : Hid ((wr.alloc (.cells #[.slice ad k cap] 27)).grownBy w3 (Value.slice none 0 0).ownBlock) := hgrow3; have hb3 : w3.heap[h]? = some (.cells (holdT m (.slice none 0 0)) 110) := (HG3.out.block h (by simp; omega) (by simp [Value.ownBlock])).trans ((Below.heap_alloc _ _ _ hhlt).trans HHb.out); obtain ⟨z0, z1, z2⟩ := cells_holdT hb3; clear hown3 hgrow3 hk3 hb3))
      have HK1 : Hid (KV 9 27 (patT m) S (holdT m) h k (fun b => (Value.slice ad k cap).ownBlock = some b ∨ b = h) w1 (w3.setCell ⟨h, 1, none⟩ (.slice (some ⟨g3, 0, none⟩) (0 + 1) cap3)) (.slice ad k cap) 0 (0 + 1)) := HK0.out.push2 (by decide) (by decide) (by decide) (Or.inr rfl) (by omega) 1 (fun a b => rfl) HHb.out (World.ownsRow_nil _ _ _ _) (fun v hv => by simp at hv) HO3.out HG3.out
      clear z0 z1 z2 x0 x1 x2 k0 hhlt
      go_loopw [1, 6] (fun u i wr => ∃ r : Nat, r ≤ 8 ∧ i = .int .i64 r ∧ Hid (KV 9 27 (patT m) S (holdT m) h k (fun b => (Value.slice ad k cap).ownBlock = some b ∨ b = h) w1 wr u r (r + 1))) (fun _ i _ => 8 - (intOf i).toNat)
      case atStart => exact ⟨0, by omega, rfl, HK1.out⟩
      case round =>
        obtain ⟨r, hr, rfl, hkv⟩ := hrel
        obtain ⟨ad1, cap1, rfl, hlc1, hcm1⟩ := hkv.out.row.form
        have HK : Hid (KV 9 27 (patT m) S (holdT m) h k (fun b => (Value.slice ad k cap).ownBlock = some b ∨ b = h) w1 wr (.slice ad1 (k + r) cap1) r (r + 1)) := hkv.out
        clear hkv
        have r0 : (0 : Int) ≤ (r : Int) := by omega
        by_cases hlt8 : r < 8
        · have r63 : (r : Int) < 8 := by omega
          obtain ⟨ys, hys', hyp⟩ := HK.out.row
          have HYs : Hid (wr.ownsRow 0 9 1 (.slice ad1 (k + r) cap1) (k + r) ys) := hys'
          have HYp : Hid (∀ i j, i < k + r → j < (patT m).length → ys[i * (patT m).length + j]? = (patT m)[j]?) := hyp
          obtain ⟨vs, vl, e1, _, _⟩ := HK.out.hold
          obtain ⟨x0, x1, x2⟩ := cells_holdT e1
          have hsz2 := HK.out.fr.size
          have hhlt : h < wr.heap.size := (Array.getElem?_eq_some_iff.1 e1).1
          have tok1 : True := trivial
          clear hys' hyp e1 x0 x1
          go_wp2_with (first
            | (at_builtin; have _t := tok1; refine wpList_append_keep _ rfl _ _ _ rfl 0 9 i0 _ 1 16 Tryz.underlying27 hi0 hz0 hz1 hz2 rfl (by omega) (.slice ad1 (k + r) cap1) _ _ rfl (HYs.out.alloc _) ⟨wr.heap.size, 0, none⟩ 1 1 [.string m] rfl rfl (World.news_of_block (cs := #[.string m]) (t := 9) (fr := (0, 0)) (heap_alloc_new wr _)) (by simp [Value.oneCell']) (by omega) (by unfold maxLen; omega) (by omega) (Nat.zero_le _) ?_; intro g2 cap2 w2 hown2 hgrow2 hk2; have HK2 : Hid (KV 9 27 (patT m) S (holdT m) h k (fun b => (Value.slice ad k cap).ownBlock = some b ∨ b = h) w1 w2 (.slice (some ⟨g2, 0, none⟩) (k + r + 1) cap2) (r + 1) (r + 1)) := HK.out.push1 (by decide) (by decide) HSn1.out HYs.out HYp.out hown2 hgrow2 hk2; obtain ⟨vs2, vl2, q1, q2, q3⟩ := HK2.out.hold; obtain ⟨adv, capv, rfl, _, hvc⟩ := row_lenA q2; obtain ⟨z0, z1, z2⟩ := cells_holdT q1; have HQ1 : Hid (w2.heap[h]? = some (.cells (holdT m (.slice adv (r + 1) capv)) 110)) := q1; have HQ2 : Hid (w2.ownsRow w1.heap.size 27 1 (.slice adv (r + 1) capv) (r + 1) vl2) := q2; have HQ3 : Hid (∀ v ∈ vl2, ∃ ad l cp, v = .slice ad l cp ∧ l ≤ k + (r + 1) ∧ MkSl w2 9 (patT m) S v) := q3; have hsz3 := HK2.out.fr.size; have hhlt2 : h < w2.heap.size := (Array.getElem?_eq_some_iff.1 q1).1; clear tok1 hown2 hgrow2 hk2 q1 q2 q3)
            | (at_builtin; refine wpList_append_keep _ rfl _ _ _ rfl w1.heap.size 27 j0 _ 1 24 Tryz.underlying108 hj0 jz0 jz1 jz2 rfl (by omega) (.slice adv (r + 1) capv) _ _ rfl (HQ2.out.alloc _) ⟨w2.heap.size, 0, none⟩ 1 1 [.slice (some ⟨g2, 0, none⟩) (k + r + 1) cap2] rfl rfl (World.news_of_block (cs := #[.slice (some ⟨g2, 0, none⟩) (k + r + 1) cap2]) (t := 27) (fr := (0, 0)) (heap_alloc_new w2 _)) (by simp [Value.oneCell']) (by omega) (by unfold maxLen; omega) (by omega) (by simp; omega) ?_; intro g3 cap3 w3 hown3 hgrow3 hk3; have HO3 : Hid (w3.ownsRow w1.heap.size 27 1 (.slice (some ⟨g3, 0, none⟩) (r + 1 + 1) cap3) (r + 1 + 1) (vl2 ++ [.slice (some ⟨g2, 0, none⟩) (k + r + 1) cap2])) := hown3; have HG3 : Hid ((w2.alloc (.cells #[.slice (some ⟨g2, 0, none⟩) (k + r + 1) cap2] 27)).grownBy w3 (Value.slice adv (r + 1) capv).ownBlock) := hgrow3; have hb3 : w3.heap[h]? = some (.cells (holdT m (.slice adv (r + 1) capv)) 110) := (HG3.out.block h (by simp; omega) (row_apart HQ2.out HQ1.out (by decide))).trans ((Below.heap_alloc _ _ _ hhlt2).trans HQ1.out); obtain ⟨y0, y1, y2⟩ := cells_holdT hb3; clear hown3 hgrow3 hk3 hb3))
          exact ⟨⟨r + 1, by omega, by go_num, HK2.out.push2 (by decide) (by decide) (by decide) (Or.inr rfl) (by omega) 1 (fun a b => rfl) HQ1.out HQ2.out HQ3.out HO3.out HG3.out⟩, by simp [intOf]; omega⟩
        · obtain rfl : r = 8 := by omega
          go_wp2
          go_end0
          exact ⟨rfl, HFin.out _ _ HK.out⟩

/-- A list of versions that nobody else has is written full and held. -/
theorem keepT_any (S : Nat → Prop) (wb : Nat) (pv hv : Value) (gs : List PG) (hs : List Nat) (lv : Value) (n : Nat) (xs : List Value) (w : World) (H : LawS S w wb pv hv gs hs) (hlen : hs.length ≤ 9000000000000)
    (hl : w.ownsRow 0 9 1 lv n xs) (hn : n ≤ 1900000000000) (hfar : ∀ b, lv.ownBlock = some b → ¬ S b) :
    Calls Tryz.prog 47 #[.pointer (some ⟨wb, 0, none⟩), lv] w fun e w' => e = .returned (.tuple #[]) ∧ ∃ (hv' : Value) (h : Nat), LawS (fun k => S k ∨ lv.ownBlock = some k ∨ w.heap.size ≤ k) w' wb pv hv' gs (hs ++ [h]) ∧ Fr (fun k => k = wb ∨ hv.ownBlock = some k ∨ lv.ownBlock = some k) w w' ∧ ∀ k, hv'.ownBlock = some k → hv.ownBlock = some k ∨ w.heap.size ≤ k := by
  refine (keepT_walk wb pv (.slice none 0 0) hv hs lv n xs (fun k => S k ∨ lv.ownBlock = some k ∨ w.heap.size ≤ k) w H.law.blk H.law.hrow hlen hl hn (fun b e => Or.inr (Or.inl e)) (fun b e => Or.inr (Or.inr e))).mono ?_
  rintro e w' ⟨rfl, h, m, hv', w1, u, hm, hh, hb1, hw1, hr1, hF1, hN1, hK⟩
  refine ⟨rfl, hv', h, ?_⟩
  have hF : Fr (fun k => k = wb ∨ hv.ownBlock = some k ∨ lv.ownBlock = some k) w w' := by
    refine ⟨hK.fr.os.trans hF1.os, hK.fr.tape.trans hF1.tape, hK.fr.output.trans hF1.output, Nat.le_trans hF1.size hK.fr.size, fun k hk hn => ?_⟩
    rw [hK.fr.block k (Nat.lt_of_lt_of_le hk hF1.size) (by rintro (e | e); exact hn (Or.inr (Or.inr e)); omega), hF1.block k hk (by rintro (e | e); exact hn (Or.inl e); exact hn (Or.inr (Or.inl e)))]
  have hl1 : w1.ownsRow 0 9 1 lv n xs := hF1.row hl fun g o l c e => by
    obtain ⟨cur, hc⟩ := own_typed hl (show lv.ownBlock = some g by rw [e]; rfl)
    rintro (e' | e')
    · rw [e'] at hc; exact absurd (typed_ne hc H.law.blk) (by decide)
    · obtain ⟨cur', hc'⟩ := own_typed H.law.hrow e'
      exact absurd (typed_ne hc hc') (by decide)
  have hX1 : ∀ g t cur, w1.heap[g]? = some (.cells cur t) → t ≠ 9 → t ≠ 110 → ¬ (lv.ownBlock = some g ∨ g = h) := by
    rintro g t cur hg t1 t2 (e | e)
    · obtain ⟨cur', hc'⟩ := own_typed hl1 e
      exact t1 (typed_ne hg hc')
    · rw [e] at hg; exact t2 (typed_ne hg hb1)
  refine ⟨H.held (fun k => S k ∨ lv.ownBlock = some k ∨ w.heap.size ≤ k) (fun k e => Or.inl e) (hK.fr.heap hw1 (hX1 _ _ _ hw1 (by decide) (by decide))) (hK.fr.rowT hr1 fun g cur hg => hX1 g _ cur hg (by decide) (by decide)) ?_ hF ?_, hF, hN1⟩
  · obtain ⟨vs, vl, q1, q2, q3⟩ := hK.hold
    refine ⟨.slice none 0 0, vs, m, [], vl, q1, hm, World.ownsRow_nil _ _ _ _, ?_, by simp, ?_, fun v hv => by simp at hv, fun v hv => ?_⟩
    · have hvl : vl.length = 9 := by have := q2.1; simpa using this
      rw [hvl]; exact ownsRow_base q2 (Nat.zero_le _)
    · have := q2.1; simp at this; omega
    · obtain ⟨_, _, _, _, _, hm⟩ := q3 v hv
      exact hm
  · rintro k (e | e | e)
    · exact Or.inl ⟨_, e ▸ H.law.blk⟩
    · exact Or.inr (Or.inl (own_typed H.law.hrow e))
    · exact Or.inr (Or.inr ⟨hfar k e, Or.inr (own_typed hl e)⟩)
end Go.Proofs.YtldmcdeibiclkaaGreat
