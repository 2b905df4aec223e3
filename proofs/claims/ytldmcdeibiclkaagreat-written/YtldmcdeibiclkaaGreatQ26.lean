/-
  Contract: Keys: the keys with versions, by rising bytes, in new memory.
-/
import Derived.Test.YtldmcdeibiclkaaGreatQ25
import Derived.Test.YtldmcdeibiclkaaGreatQ01
import Derived.Test.YtldmcdeibiclkaaGreatQ05
import Derived.Deep.MidRow
import Derived.Maps.RangeWalk
set_option linter.unusedVariables false
set_option linter.unusedSimpArgs false

namespace Go.Proofs.YtldmcdeibiclkaaGreat
open Go.RowKit

theorem Tryz.segsSize : (Tryz.prog.info? 64).map (·.size) = some 64 := by kernel_rfl

/-- Indexing the 64 maps by value. -/
theorem index64 (W : World) (cs : List Value) (k : Nat) (v : Value) (hk : k < 64) (hv : cs[k]? = some v) : (Instr.index 64 (.agg cs.toArray) (.int .i64 k)).run Tryz.prog W = .ok v W := by
  have u := Tryz.underlying64
  have a := Tryz.isAgg63
  have z := Tryz.sizeOf63
  have h1 : (0 : Int) ≤ (k : Int) ∧ (k : Int) < 64 := by omega
  simp [Instr.index, asIntOf, Sem.run_bind, run_underlying u, Result.andThen_ok, h1, z, part, a, hv]
  intro h
  omega

/-- A range over a map begins. -/
theorem range_run (W : World) (m : Nat) (es : Array MapEntry) (clock : Nat) (hm : W.heap[m]? = some (.map es clock)) : (Instr.range 63 (.map (some m))).run Tryz.prog W = .ok (.pointer (some ⟨W.heap.size, 0, none⟩)) (W.alloc (.mapIter (some m) clock #[] clock)) := by
  have u := Tryz.underlying63
  simp [Instr.range, Sem.run_bind, run_underlying u, Result.andThen_ok, getObj, newObj, Sem.run, hm]

/-- How many entries an iterator has left. -/
def iterLeft (W : World) (r : Nat) (es : Array MapEntry) : Nat :=
  match W.heap[r]? with
  | some (.mapIter _ _ seen _) => (leftOf es seen).size
  | _ => 0

set_option maxRecDepth 100000 in
set_option maxHeartbeats 4000000 in
theorem keys_any (b num : Nat) (bm : Nat → Nat) (K : Know) (w : World) (h : RepAt w b bm num K) (hK : KInv K) (hbd : ∀ L : List (List UInt8), L.Nodup → (∀ k, toL k ∈ L → Live K k) → L.length ≤ 1900000000000) :
    Calls Tryz.prog 68 #[.pointer (some ⟨b, 0, none⟩)] w fun e w' => ∃ v' L, e = .returned v' ∧ InvN K 64 L ∧ w'.ownsRow w.heap.size 9 1 v' L.length (encT (sortT L)) ∧ Below w.heap.size w w' := by
  obtain ⟨cs, hcl, hcg⟩ : ∃ cs : List Value, cs.length = 64 ∧ ∀ n, n < 64 → cs[n]? = some (.map (some (bm n))) :=
    ⟨(List.range 64).map fun n => .map (some (bm n)), by simp, fun n hn => by simp [hn]⟩
  have hra : w.rangeAt b 1 cs := fun j v hv => by
    have hj : j < 64 := by have := (List.getElem?_eq_some_iff.1 hv).1; omega
    rw [hcg j hj] at hv
    rw [← hv, Nat.add_comm 1 j]
    exact h.1.seg hj
  have hbs := h.1.lt
  have HRa : Hid (w.rangeAt b 1 cs) := hra
  have HCg : Hid (∀ n, n < 64 → cs[n]? = some (.map (some (bm n)))) := hcg
  have HSz : Hid ((Tryz.prog.info? 64).map (·.size) = some cs.length) := (by rw [hcl]; exact Tryz.segsSize)
  have HRep : Hid (RepAt w b bm num K) := h
  have HK : Hid (KInv K) := hK
  have HBd : Hid _ := hbd
  obtain ⟨i0, hi0, hz0, hz1, hz2⟩ := info_parts Tryz.infoStr
  have tokL : True := trivial
  clear h hK hbd hra hcg hcl
  go_enter Tryz.func68, Tryz.ntmps68
  go_wp2_with (first
    | (have _t := tokL; refine wpList_load_mid rfl 64 _ rfl b 1 rfl cs _ HRa.out Tryz.underlying64 rfl HSz.out ?_; clear tokL))
  go_loopw [3, 12] (fun ks i wr => ∃ (n : Nat) (L : List (List UInt8)), n ≤ 64 ∧ i = .int .i64 n ∧ Hid (InvN K n L) ∧ Hid (wr.ownsRow w.heap.size 9 1 ks L.length (encT L)) ∧ Hid (Below w.heap.size w wr)) (fun _ i _ => 64 - (intOf i).toNat)
  case atStart => exact ⟨0, [], by omega, rfl, InvN.zero K, World.ownsRow_nil _ _ _ _, Below.refl _ _⟩
  case round =>
    obtain ⟨n, L, hn, rfl, hinv, hown, hbel⟩ := hrel
    obtain ⟨Wo, hWo⟩ : ∃ W, W = wr := ⟨_, rfl⟩
    subst hWo
    have n0 : (0 : Int) ≤ (n : Int) := by omega
    by_cases hlt : n < 64
    · have n64 : (n : Int) < 64 := by omega
      obtain ⟨es, clock, hm, hk, hall, hst⟩ := (HRep.out.below hbel.out).2.1 n hlt
      have hix := fun W => index64 W cs n _ hlt (HCg.out n hlt)
      have hrg := range_run Wo (bm n) es clock hm
      obtain ⟨ad, cap, rfl, hcap, hlc⟩ := row_lenA hown.out
      have hmlt : bm n < w.heap.size := ((HRep.out.2.1 n hlt)).lt
      generalize bm n = bmn at *
      go_wp2
      have HM : Hid (Wo.heap[bmn]? = some (.map es clock)) := hm
      have HKo : Hid (KeysOk es.toList) := hk
      have HAll : Hid (∀ s, segN s = n → ∃ sv, (entAt es.toList s).getD zeroSt = stV (K s).1 sv ∧ VSl Wo sv (K s).2) := hall
      have HSt : Hid (Stamp (fun k => segN k = n ∧ k.size ≤ 281474976710656) es.toList clock) := hst
      have HBel : Hid (Below w.heap.size w Wo) := hbel.out
      have hrs := hbel.out.size
      have HI0 : Hid (InvN K n L) := hinv.out
      have HO0 : Hid (Wo.ownsRow w.heap.size 9 1 (.slice ad L.length cap) L.length (encT L)) := hown.out
      clear hm hk hall hst hbel hinv hown hix hrg
      go_loopw [3] (fun ks wi => ∃ (seen : Array Nat) (M : List (List UInt8)), Hid (InvM K n es.toList seen M) ∧ Hid (wi.ownsRow w.heap.size 9 1 ks M.length (encT M)) ∧ Hid (Below w.heap.size w wi) ∧ Hid (wi.heap[Wo.heap.size]? = some (.mapIter (some bmn) clock seen clock))) (fun _ wi => iterLeft wi Wo.heap.size es)
      case atStart => exact ⟨#[], L, HI0.out.start _, HO0.out.alloc _, HBel.out.alloc hrs _, heap_alloc_new Wo _⟩
      case round =>
        obtain ⟨seen, M, hM, hown2, hbel2, hit⟩ := hrel
        obtain ⟨ad2, cap2, rfl, hcap2, hlc2⟩ := row_lenA hown2.out
        have HO2 : Hid (wr.ownsRow w.heap.size 9 1 (.slice ad2 M.length cap2) M.length (encT M)) := hown2.out
        have HB2 : Hid (Below w.heap.size w wr) := hbel2.out
        have HIt : Hid (wr.heap[Wo.heap.size]? = some (.mapIter (some bmn) clock seen clock)) := hit.out
        have HIM : Hid (InvM K n es.toList seen M) := hM.out
        have HMi : Hid (wr.heap[bmn]? = some (.map es clock)) := (HB2.out.block bmn hmlt).trans ((HBel.out.block bmn hmlt).symm.trans HM.out)
        have hzB := HB2.out.size
        clear hM hown2 hbel2 hit
        rcases run_next_at (P := Tryz.prog) wr 0 Wo.heap.size bmn clock clock seen es clock HIt.out HMi.out HSt.out.2.2.1 (Nat.le_refl _) with ⟨hzero, hnx⟩ | ⟨e, he, w1, hw1, hnx⟩
        · go_wp2
          exact ⟨⟨n + 1, M, by omega, by go_num, HIM.out.done (clock := clock) HKo.out HAll.out hzero, HO2.out, HB2.out⟩, by simp [intOf]; omega⟩
        · obtain ⟨s, sv, hs, hsn, hsz, hval, hvs⟩ := seg_entry HKo.out HAll.out HSt.out ((mem_left.1 he).1)
          obtain ⟨adv, capv, rfl, hcapv⟩ := hvs.len
          rw [hs, hval] at hnx
          have hrlt : Wo.heap.size < wr.heap.size := (Array.getElem?_eq_some_iff.1 HIt.out).1
          obtain ⟨W1, hW1⟩ : ∃ W, W = Go.ChangeMaps.setBlock w1 Wo.heap.size (.mapIter (some bmn) clock (seen.push e.born) clock) := ⟨_, rfl⟩
          rw [← hW1] at hnx
          have e1 : ∀ k : Nat, w1.heap[k]? = wr.heap[k]? := fun k => by rcases hw1 with rfl | rfl <;> rfl
          have hs1 : w1.heap.size = wr.heap.size := by rcases hw1 with rfl | rfl <;> rfl
          have hB1 : Below w.heap.size w w1 := by rcases hw1 with rfl | rfl; exact HB2.out; exact HB2.out.drew
          have hit1 : W1.heap[Wo.heap.size]? = some (.mapIter (some bmn) clock (seen.push e.born) clock) := by rw [hW1]; simp [Go.ChangeMaps.setBlock, hs1, hrlt]
          have hoth : ∀ k : Nat, k ≠ Wo.heap.size → W1.heap[k]? = wr.heap[k]? := fun k hk => by
            rw [hW1, ← e1 k]
            simp only [Go.ChangeMaps.setBlock, Array.getElem?_setIfInBounds]
            rw [if_neg (Ne.symm hk)]
          have hmi1 : W1.heap[bmn]? = some (.map es clock) := (hoth bmn (by omega)).trans HMi.out
          have hBW : Below w.heap.size w W1 := ⟨by rw [hW1]; exact hB1.os, by rw [hW1]; exact hB1.tape, by rw [hW1]; exact hB1.output, by rw [hW1]; simp [Go.ChangeMaps.setBlock, hs1]; exact hzB, fun k hk => (hoth k (by omega)).trans (HB2.out.block k hk)⟩
          have HOW : Hid (W1.ownsRow w.heap.size 9 1 (.slice ad2 M.length cap2) M.length (encT M)) := (by
            refine ⟨HO2.out.1, ?_⟩
            rcases HO2.out.2 with h2 | ⟨g, cap, cur, hv, hg, hh, rr⟩
            · exact Or.inl h2
            · exact Or.inr ⟨g, cap, cur, hv, hg, (hoth g (fun e' => by rw [e', HIt.out] at hh; cases hh)).trans hh, rr⟩)
          have hen := run_entry_at (P := Tryz.prog) W1 Wo.heap.size bmn clock seen es clock e hit1 hmi1 ((mem_left.1 he).1) HSt.out.2.1
          rw [hs, hval] at hen
          have HIt1 : Hid (W1.heap[Wo.heap.size]? = some (.mapIter (some bmn) clock (seen.push e.born) clock)) := hit1
          have HBW : Hid (Below w.heap.size w W1) := hBW
          have hzW := hBW.size
          have hrW : Wo.heap.size < W1.heap.size := (Array.getElem?_eq_some_iff.1 hit1).1
          have HLess : Hid (∀ W, W.heap[Wo.heap.size]? = some (.mapIter (some bmn) clock (seen.push e.born) clock) → iterLeft W Wo.heap.size es < iterLeft wr Wo.heap.size es) := fun W hW => by
            unfold iterLeft
            rw [hW, HIt.out]
            exact left_less he
          have HE : Hid (e ∈ (leftOf es seen).toList) := he
          have HEs : Hid (e.key = .string s) := hs
          have HSn : Hid (segN s = n) := hsn
          have HLv : Hid (Live K s ↔ 0 < (K s).2.length) := List.length_pos_iff.symm
          have hKl : (K s).2.length ≤ 20 := (HK.out s).len
          generalize (K s).1 = c at *
          generalize (K s).2.length = len at *
          clear hw1 hW1 e1 hs1 hB1 hit1 hoth hmi1 hBW hval hvs hs he hsn
          by_cases hl : 0 < len
          · have hl' : (0 : Int) < (len : Int) := by omega
            have HLive : Hid (Live K s) := HLv.out.2 hl
            have HInv : Hid (InvM K n es.toList (seen.push e.born) (M ++ [toL s])) := HIM.out.live HSt.out.2.1 HSt.out.1 HE.out HEs.out HSn.out HLive.out
            have hMl : M.length ≤ 1900000000000 := HBd.out M HIM.out.1 fun k hk => by
              rcases (HIM.out.2 k).1 hk with ⟨_, h2⟩ | ⟨_, h2, _⟩ <;> exact h2
            have HEnc : Hid (encT (M ++ [toL s]) = encT M ++ [.string s]) := (show encT (M ++ [toL s]) = encT M ++ [.string s] by simp [encT, encStr_toL])
            have HNeI : Hid (∀ W : World, W.ownsRow w.heap.size 9 1 (.slice ad2 M.length cap2) M.length (encT M) → W.heap[Wo.heap.size]? = some (.mapIter (some bmn) clock (seen.push e.born) clock) → some Wo.heap.size ≠ (Value.slice ad2 M.length cap2).ownBlock) := fun W hr hi e' => by
              obtain ⟨cur, hc⟩ := own_typed hr e'.symm
              rw [hi] at hc; cases hc
            go_wp2_with (first
              | (go_at_call 34; refine (clone_any s _ hsz).mono ?_; rintro e3 w3 ⟨rfl, hb3⟩; have HB3 : Hid (Below w.heap.size w w3) := (HBW.out.alloc hzW _).trans (hb3.mono (by simp; omega)); have HO3 : Hid (w3.ownsRow w.heap.size 9 1 (.slice ad2 M.length cap2) M.length (encT M)) := ownsRow_below (HOW.out.alloc _) hb3 (Nat.le_refl _); have HI3 : Hid (w3.heap[Wo.heap.size]? = some (.mapIter (some bmn) clock (seen.push e.born) clock)) := heap_keep ((Below.heap_alloc W1 _ _ hrW).trans HIt1.out) hb3; have z3 := HB3.out.size; have r3 : Wo.heap.size < w3.heap.size := (Array.getElem?_eq_some_iff.1 HI3.out).1; clear hb3)
              | (at_builtin; refine wpList_append_lies _ rfl _ _ _ rfl w.heap.size 9 i0 _ 1 16 Tryz.underlying27 hi0 hz0 hz1 hz2 rfl (by omega) (.slice ad2 M.length cap2) _ _ rfl (HO3.out.alloc _) ⟨w3.heap.size, 0, none⟩ 1 1 [.string s] rfl rfl (World.news_of_block (cs := #[.string s]) (t := 9) (fr := (0, 0)) (heap_alloc_new w3 _)) (by simp [Value.oneCell']) (by omega) (by unfold maxLen; omega) (by omega) (by simp; omega) _ rfl ?_; intro gg capn w4 hown4 hgrow4 hat4 hlt4; have HO4 : Hid (w4.ownsRow w.heap.size 9 1 (.slice (some ⟨gg, 0, none⟩) (M.length + 1) capn) (M.length + 1) (encT M ++ [.string s])) := hown4; have HB4 : Hid (Below w.heap.size w w4) := grown_row HO3.out HB3.out z3 hgrow4; have HI4 : Hid (w4.heap[Wo.heap.size]? = some (.mapIter (some bmn) clock (seen.push e.born) clock)) := (hgrow4.block Wo.heap.size (by simp; omega) (HNeI.out w3 HO3.out HI3.out)).trans ((Below.heap_alloc w3 _ _ r3).trans HI3.out); clear hown4 hgrow4 hat4 hlt4))
            refine ⟨⟨seen.push e.born, M ++ [toL s], HInv.out, ?_, HB4.out, HI4.out⟩, HLess.out _ HI4.out⟩
            show w4.ownsRow _ _ _ _ _ _
            rw [HEnc.out, List.length_append, List.length_singleton]
            exact HO4.out
          · obtain rfl : len = 0 := by omega
            have HInv : Hid (InvM K n es.toList (seen.push e.born) M) := HIM.out.dead HSt.out.2.1 HE.out HEs.out (fun h => by have := HLv.out.1 h; omega)
            go_wp2
            have hX := fun X => (Below.heap_alloc W1 X _ hrW).trans HIt1.out
            exact ⟨⟨seen.push e.born, M, HInv.out, HOW.out.alloc _, HBW.out.alloc hzW _, hX _⟩, HLess.out _ (hX _)⟩
    · obtain rfl : n = 64 := by omega
      obtain ⟨ad, cap, rfl, hcap, hlc⟩ := row_lenA hown.out
      have HI0 : Hid (InvN K 64 L) := hinv.out
      have HB0 : Hid (Below w.heap.size w Wo) := hbel.out
      have HO0 : Hid (Wo.ownsRow w.heap.size 9 1 (.slice ad L.length cap) L.length (encT L)) := hown.out
      have hLl : L.length ≤ 1900000000000 := HBd.out L hinv.out.1 fun k hk => ((hinv.out.2 k).1 hk).2
      have HSort : Hid _ := sortS_own w.heap.size (.slice ad L.length cap) L Wo hown.out (by omega)
      have hz0' := hbel.out.size
      clear hinv hbel hown
      go_wp2_with (first
        | (go_at_call 91; refine Calls.mono HSort.out ?_; rintro e w1 ⟨rfl, hown1, hgrow1⟩; have HO1 : Hid (w1.ownsRow w.heap.size 9 1 (.slice ad L.length cap) L.length (encT (sortT L))) := hown1; have HB1 : Hid (Below w.heap.size w w1) := grown_own HO0.out HB0.out hz0' hgrow1; clear hown1 hgrow1))
      go_ret
      exact ⟨_, L, rfl, HI0.out, HO1.out, HB1.out⟩
end Go.Proofs.YtldmcdeibiclkaaGreat
