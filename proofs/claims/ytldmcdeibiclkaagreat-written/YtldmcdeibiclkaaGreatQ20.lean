/-
  Contracts: marked: a hold whose lists read as they were written says so; looks: all holds do.
  Contract: looks: all that is held reads as it was written.
-/
import Derived.Test.YtldmcdeibiclkaaGreatQ19
import Derived.Deep.QuietTactic
import Derived.BigQuiet
set_option linter.unusedVariables false
set_option linter.unusedSimpArgs false

namespace Go.Proofs.YtldmcdeibiclkaaGreat
open Go.RowKit

theorem neqVerL (W : World) (r n : Int) (s : ByteArray) : (binOp .neq 88 (.agg #[.int .i64 r, .int .i64 n, .string s]) (.agg #[.int .i64 r, .int .i64 n, .string s])).run Tryz.prog W = .ok (.bool false) W := by
  have u3 := Tryz.underlying3
  have u9 := Tryz.underlying9
  have a3 := Tryz.isAgg3
  have z3 := Tryz.sizeOf3
  have a9 := Tryz.isAgg9
  have z9 := Tryz.sizeOf9
  have hS : Tryz.prog.underlying 88 = some (.struct (Tryz.prog.fieldsOf 88)) := by kernel_rfl
  have hp : Tryz.prog.stoodInHeld 88 = false := by kernel_rfl
  rw [run_neq_struct, show (10000 : Nat) = 9999 + 1 from rfl, run_equalIn_agg W 9999 88 _ _ hS hp]
  simp only [Program.fieldsOf, Tryz.underlying88]
  go_simp

theorem MkSl.open {w : World} {t : TypeId} {pat : List Value} {S : Nat → Prop} {v : Value} (h : MkSl w t pat S v) : ∃ ad n cap, v = .slice ad n cap ∧ n ≤ 2000000000000 ∧ ∀ i, i < n → ∃ g, ad = some ⟨g, 0, none⟩ ∧ ∀ j, j < pat.length → w.cell? ⟨g, i * pat.length + j, none⟩ = pat[j]? := by
  obtain ⟨ad, n, cap, e, hn, h⟩ := h
  refine ⟨ad, n, cap, e, hn, fun i hi => ?_⟩
  rcases h with h | ⟨g, cur, e1, e2, e3, e4⟩
  · omega
  · refine ⟨g, e1, fun j hj => ?_⟩
    simp only [World.cell?, e3]
    exact e4 i j hi hj

set_option maxRecDepth 100000 in
set_option maxHeartbeats 4000000 in
theorem marked_any (h : Nat) (S : Nat → Prop) (w : World) (H : HoldAt w h S) :
    Calls Tryz.prog 27 #[.pointer (some ⟨h, 0, none⟩)] w fun e w' => e = .returned (.bool true) ∧ ∃ q, w' = w.drewN q := by
  obtain ⟨vs, ts, m, vl, tl, h1, h2, h3, h4, h5, h6, h7, h8⟩ := H
  obtain ⟨ad, cap, rfl, hcap, hlc⟩ := row_lenA h3
  obtain ⟨at', capt, rfl, hcapt, hlct⟩ := row_lenA h4
  have hc := (cells_of0 h1).1
  have c0 : w.cell? ⟨h, 0, none⟩ = some (.slice ad vl.length cap) := by rw [hc]; rfl
  have c1 : w.cell? ⟨h, 1, none⟩ = some (.slice at' tl.length capt) := by rw [hc]; rfl
  have c2 : w.cell? ⟨h, 2, none⟩ = some (.string m) := by rw [hc]; rfl
  have H3 : Hid (w.ownsRow 0 67 1 (.slice ad vl.length cap) vl.length vl) := h3
  have H4 : Hid (w.ownsRow 0 27 1 (.slice at' tl.length capt) tl.length tl) := h4
  have H7 : Hid (∀ v ∈ vl, MkSl w 88 (patV m) S v) := h7
  have H8 : Hid (∀ v ∈ tl, MkSl w 9 (patT m) S v) := h8
  have hneq := fun W => neqVerL W 0 0 m
  clear h1 h3 h4 h7 h8 hc
  go_enter Tryz.func27, Tryz.ntmps27
  go_wp2
  go_loopw [3] (fun i wr => ∃ k : Nat, k ≤ vl.length ∧ i = .int .i64 k ∧ ∃ q, wr = w.drewN q) (fun i _ => vl.length - (intOf i).toNat)
  case atStart => exact ⟨0, by omega, rfl, 0, rfl⟩
  case round =>
    obtain ⟨k, hk, rfl, q, rfl⟩ := hrel
    have k0 : (0 : Int) ≤ (k : Int) := by omega
    by_cases hlt : k < vl.length
    · have k63 : (k : Int) < (vl.length : Int) := by omega
      obtain ⟨g, cap', hsv', _, _, hg, hcells⟩ := row_cellA H3.out (by omega)
      cases hsv'
      obtain ⟨ad2, n2, cap2, e2, hn2, hel⟩ := (H7.out vl[k] (List.getElem_mem hlt)).open
      have ck : w.cell? ⟨g, k, none⟩ = some (.slice ad2 n2 cap2) := by
        have := hcells k vl[k] (by omega) (by simp)
        rw [this, e2]
      have HEl : Hid (∀ i, i < n2 → ∃ g, ad2 = some ⟨g, 0, none⟩ ∧ ∀ j, j < (patV m).length → w.cell? ⟨g, i * (patV m).length + j, none⟩ = (patV m)[j]?) := hel
      clear hcells hel e2
      go_wp2
      go_loopw [4] (fun i wr => ∃ kk : Nat, kk ≤ n2 ∧ i = .int .i64 kk ∧ ∃ q, wr = w.drewN q) (fun i _ => n2 - (intOf i).toNat)
      case atStart => exact ⟨0, by omega, rfl, _, rfl⟩
      case round =>
        obtain ⟨kk, hkk, rfl, q2, rfl⟩ := hrel
        have kk0 : (0 : Int) ≤ (kk : Int) := by omega
        by_cases hlt2 : kk < n2
        · have kk63 : (kk : Int) < (n2 : Int) := by omega
          obtain ⟨g2, rfl, hce⟩ := HEl.out kk hlt2
          have d0 : w.cell? ⟨g2, kk * 3, none⟩ = some (.int .i64 0) := hce 0 (by simp)
          have d1 : w.cell? ⟨g2, kk * 3 + 1, none⟩ = some (.int .i64 0) := hce 1 (by simp)
          have d2 : w.cell? ⟨g2, kk * 3 + 2, none⟩ = some (.string m) := hce 2 (by simp)
          clear hce
          go_wp2
          go_quiet (fail)
          go_wp2
          exact ⟨⟨kk + 1, by omega, by go_num, _, rfl⟩, by simp [intOf]; omega⟩
        · obtain rfl : kk = n2 := by omega
          go_wp2
          exact ⟨⟨k + 1, by omega, by go_num, _, rfl⟩, by simp [intOf]; omega⟩
    · obtain rfl : k = vl.length := by omega
      go_wp2
      go_loopw [5] (fun i wr => ∃ k : Nat, k ≤ tl.length ∧ i = .int .i64 k ∧ ∃ q, wr = w.drewN q) (fun i _ => tl.length - (intOf i).toNat)
      case atStart => exact ⟨0, by omega, rfl, _, rfl⟩
      case round =>
        obtain ⟨k, hk, rfl, q, rfl⟩ := hrel
        have k0 : (0 : Int) ≤ (k : Int) := by omega
        by_cases hlt : k < tl.length
        · have k63 : (k : Int) < (tl.length : Int) := by omega
          obtain ⟨g, cap', hsv', _, _, hg, hcells⟩ := row_cellA H4.out (by omega)
          cases hsv'
          obtain ⟨ad2, n2, cap2, e2, hn2, hel⟩ := (H8.out tl[k] (List.getElem_mem hlt)).open
          have ck : w.cell? ⟨g, k, none⟩ = some (.slice ad2 n2 cap2) := by
            have := hcells k tl[k] (by omega) (by simp)
            rw [this, e2]
          have HEl : Hid (∀ i, i < n2 → ∃ g, ad2 = some ⟨g, 0, none⟩ ∧ ∀ j, j < (patT m).length → w.cell? ⟨g, i * (patT m).length + j, none⟩ = (patT m)[j]?) := hel
          clear hcells hel e2
          go_wp2
          go_loopw [6] (fun i wr => ∃ kk : Nat, kk ≤ n2 ∧ i = .int .i64 kk ∧ ∃ q, wr = w.drewN q) (fun i _ => n2 - (intOf i).toNat)
          case atStart => exact ⟨0, by omega, rfl, _, rfl⟩
          case round =>
            obtain ⟨kk, hkk, rfl, q2, rfl⟩ := hrel
            have kk0 : (0 : Int) ≤ (kk : Int) := by omega
            by_cases hlt2 : kk < n2
            · have kk63 : (kk : Int) < (n2 : Int) := by omega
              obtain ⟨g2, rfl, hce⟩ := HEl.out kk hlt2
              have d0 : w.cell? ⟨g2, kk, none⟩ = some (.string m) := by have := hce 0 (by simp); simpa using this
              clear hce
              go_wp2
              go_quiet (fail)
              go_wp2
              exact ⟨⟨kk + 1, by omega, by go_num, _, rfl⟩, by simp [intOf]; omega⟩
            · obtain rfl : kk = n2 := by omega
              go_wp2
              exact ⟨⟨k + 1, by omega, by go_num, _, rfl⟩, by simp [intOf]; omega⟩
        · obtain rfl : k = tl.length := by omega
          go_wp2
          go_ret
          exact ⟨rfl, _, rfl⟩
end Go.Proofs.YtldmcdeibiclkaaGreat

namespace Go.Proofs.YtldmcdeibiclkaaGreat
open Go.RowKit

set_option maxRecDepth 100000 in
set_option maxHeartbeats 4000000 in
theorem looks_any (wb : Nat) (pv hv : Value) (gs : List PG) (hs : List Nat) (w : World) (h : LawAt w wb pv hv gs hs) (hlen : hs.length ≤ 9000000000000) :
    Calls Tryz.prog 10 #[.pointer (some ⟨wb, 0, none⟩)] w fun e w' => e = .returned (.bool true) ∧ ∃ q, w' = w.drewN q := by
  have hrow := h.hrow
  obtain ⟨ad, cap, rfl, hcap, hlc⟩ := row_lenA hrow
  have hc := (cells_of0 h.blk).1
  have c2 : w.cell? ⟨wb, 2, none⟩ = some (.slice ad hs.length cap) := by rw [hc]; rfl
  have HR : Hid (w.ownsRow 0 61 1 (.slice ad hs.length cap) hs.length (hs.map ptrV)) := hrow
  have HM : Hid (∀ k (hk : k < hs.length) q, Calls Tryz.prog 27 #[.pointer (some ⟨hs[k], 0, none⟩)] (w.drewN q) fun e w' => e = .returned (.bool true) ∧ ∃ q, w' = w.drewN q) := fun k hk q =>
    (marked_any hs[k] (fun _ => True) (w.drewN q) ((h.holds _ (List.getElem_mem hk)).below (below_drewN (Below.refl _ _) q))).mono fun e w' ⟨he, q', hq⟩ => ⟨he, q + q', by rw [hq]; exact World.drewN_drewN ..⟩
  clear h hrow hc
  go_enter Tryz.func10, Tryz.ntmps10
  go_wp2
  go_loopw [3] (fun i wr => ∃ k : Nat, k ≤ hs.length ∧ i = .int .i64 k ∧ ∃ q, wr = w.drewN q) (fun i _ => hs.length - (intOf i).toNat)
  case atStart => exact ⟨0, by omega, rfl, 0, rfl⟩
  case round =>
    obtain ⟨k, hk, rfl, q, rfl⟩ := hrel
    have k0 : (0 : Int) ≤ (k : Int) := by omega
    by_cases hlt : k < hs.length
    · have k63 : (k : Int) < (hs.length : Int) := by omega
      obtain ⟨g, cap', hsv', _, _, hg, hcells⟩ := row_cellA HR.out (by omega)
      cases hsv'
      have ck : w.cell? ⟨g, k, none⟩ = some (.pointer (some ⟨hs[k], 0, none⟩)) := hcells k _ (by omega) (by simp [hlt, ptrV])
      have HMk : Hid _ := HM.out k hlt
      generalize hs[k] = hh at *
      clear hcells
      go_wp2_with (first
        | (go_at_call 27; refine Calls.mono (HMk.out _) ?_; rintro e w1 ⟨rfl, q1, rfl⟩))
      exact ⟨⟨k + 1, by omega, by go_num, _, rfl⟩, by simp [intOf]; omega⟩
    · obtain rfl : k = hs.length := by omega
      go_wp2
      go_ret
      exact ⟨rfl, _, rfl⟩
end Go.Proofs.YtldmcdeibiclkaaGreat
