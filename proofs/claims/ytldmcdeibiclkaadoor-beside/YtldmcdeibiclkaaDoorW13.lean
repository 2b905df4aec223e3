/-
  Contract: told: the versions of a row, in new memory.
-/
import Derived.Test.YtldmcdeibiclkaaDoorW5
import Derived.Test.YtldmcdeibiclkaaDoorW6
import Derived.Test.YtldmcdeibiclkaaDoorW12
import Derived.Laws.MakeOwn
import Derived.Deep.RegionHeld3
set_option linter.unusedVariables false
set_option linter.unusedSimpArgs false
namespace Go.Proofs.YtldmcdeibiclkaaDoor
open Go.RowKit

theorem heap_set {w : World} {b o : Nat} {M : Array Value} {t : TypeId} {fr : Nat × Nat} {v : Value} (h : w.heap[b]? = some (.cells M t fr)) : (w.setCell ⟨b, o, none⟩ v).heap[b]? = some (.cells (M.setIfInBounds o v) t fr) := by
  simp [World.setCell, Array.getElem?_modify, h]
theorem set_far {w : World} {b o b' o' : Nat} {v : Value} (h : b' ≠ b) : (w.setCell ⟨b, o, none⟩ v).cell? ⟨b', o', none⟩ = w.cell? ⟨b', o', none⟩ := World.cell?_of_block (Below.heap_setCell w ⟨b, o, none⟩ v b' h)
theorem heap_set3 {w : World} {b o : Nat} {M : Array Value} {t : TypeId} {fr : Nat × Nat} {x y z : Value} (h : w.heap[b]? = some (.cells M t fr)) : (((w.setCell ⟨b, o, none⟩ x).setCell ⟨b, o + 1, none⟩ y).setCell ⟨b, o + 2, none⟩ z).heap[b]? = some (.cells (((M.setIfInBounds o x).setIfInBounds (o + 1) y).setIfInBounds (o + 2) z) t fr) :=
  heap_set (heap_set (heap_set h))

theorem take_set3 {M : Array Value} {k : Nat} {xs : List Value} {x y z : Value} (hs : k * 3 + 2 < M.size) (h : M.toList.take (k * 3) = xs) : (((M.setIfInBounds (k * 3) x).setIfInBounds (k * 3 + 1) y).setIfInBounds (k * 3 + 2) z).toList.take ((k + 1) * 3) = xs ++ [x, y, z] := by
  subst h
  apply List.ext_getElem?
  intro t
  have hl : (M.toList.take (k * 3)).length = k * 3 := by simp; omega
  by_cases h1 : t < k * 3
  · rw [List.getElem?_take, if_pos (by omega), List.getElem?_append_left (by omega), List.getElem?_take, if_pos h1]
    simp only [Array.getElem?_toList, Array.getElem?_setIfInBounds]
    rw [if_neg (by omega), if_neg (by omega), if_neg (by omega)]
  · rw [List.getElem?_append_right (by omega), hl]
    by_cases h2 : t < (k + 1) * 3
    · rw [List.getElem?_take, if_pos h2]
      simp only [Array.getElem?_toList, Array.getElem?_setIfInBounds, Array.size_setIfInBounds]
      have h3 : t = k * 3 ∨ t = k * 3 + 1 ∨ t = k * 3 + 2 := by omega
      rcases h3 with rfl | rfl | rfl
      · rw [if_neg (by omega), if_neg (by omega), if_pos rfl, if_pos (by omega)]; simp
      · rw [if_neg (by omega), if_pos rfl, if_pos (by omega)]; simp
      · rw [if_pos rfl, if_pos (by omega)]; simp
    · rw [List.getElem?_take, if_neg h2, List.getElem?_eq_none (by simp; omega)]

theorem Tryd.infoApi : (Tryd.prog.info? 56).map (fun i => (i.zero, i.size, i.bytes)) = some (some (.agg #[.int .i64 0, .int .i64 0, .string ⟨#[]⟩]), 3, 32) := by kernel_rfl

theorem flatV_take_succ (l : List Ver) (k : Nat) (h : k < l.length) : flatV (l.take (k + 1)) = flatV (l.take k) ++ [.int .i64 l[k].rep, .int .i64 l[k].n, .string l[k].val] := by
  rw [List.take_succ_eq_append_getElem h, flatV_append]
  simp [flatV, encV]

theorem afterClone2 {wr w1 : World} {bo k : Nat} {M : Array Value} {t : TypeId} {X : Obj} (hb1 : Below ((wr.alloc X).drew).heap.size ((wr.alloc X).drew) w1) (hh : wr.heap[bo]? = some (.cells M t)) (hs : k * 3 + 2 < M.size) :
    w1.heap[bo]? = some (.cells M t) ∧ (∃ x, w1.cell? ⟨bo, k * 3, none⟩ = some x) ∧ (∃ x, w1.cell? ⟨bo, k * 3 + 1, none⟩ = some x) ∧ (∃ x, w1.cell? ⟨bo, k * 3 + 2, none⟩ = some x) ∧ (∀ o, w1.frozen? ⟨bo, o, none⟩ = false) ∧ Below wr.heap.size wr w1 := by
  have hlt := (Array.getElem?_eq_some_iff.1 hh).1
  have hB : Below wr.heap.size wr w1 := (((Below.refl _ _).alloc (Nat.le_refl _) _).drew).trans (hb1.mono (by simp [World.drew]))
  have e : w1.heap[bo]? = some (.cells M t) := heap_keep hh hB
  refine ⟨e, ⟨M[k * 3], ?_⟩, ⟨M[k * 3 + 1], ?_⟩, ⟨M[k * 3 + 2], ?_⟩, fun o => by simp [World.frozen?, e], hB⟩
  · simp only [World.cell?, e]; simp
  · simp only [World.cell?, e]; simp
  · simp only [World.cell?, e]; simp

/-- What holds of the world ahead of a round of told. -/
def ToldRel (w : World) (l : List Ver) (k : Nat) (wr : World) : Prop :=
  ∃ M : Array Value, wr.heap[w.heap.size]? = some (.cells M 56) ∧ M.size = l.length * 3 ∧ M.toList.take (k * 3) = flatV (l.take k) ∧ Below w.heap.size w wr

set_option maxRecDepth 100000 in
set_option maxHeartbeats 1000000 in
theorem told_any (sv : Value) (l : List Ver) (w : World) (h : VSl w sv l) (hlen : l.length ≤ 100000) (hval : ∀ v ∈ l, v.val.size ≤ 281474976710656) :
    Calls Tryd.prog 23 #[sv] w fun e w' => ∃ v', e = .returned v' ∧ w'.ownsRow w.heap.size 56 3 v' l.length (flatV l) ∧ Below w.heap.size w w' := by
  obtain ⟨ad, cap, rfl, hcap⟩ := h.len
  obtain ⟨i0, hi0, hz0, hz1, hz2⟩ := info_parts Tryd.infoApi
  have hmk := run_make (P := Tryd.prog) w 52 56 i0 _ Tryd.underlying52 hi0 hz0 .i64 .i64 l.length l.length (by omega) (by omega) (by rw [hz2]; omega) (by omega)
  rw [hz1] at hmk
  simp only [Int.toNat_natCast] at hmk
  have hM := size_madeCells (Value.agg #[.int .i64 0, .int .i64 0, .string ⟨#[]⟩]).cells (l.length * 3)
  generalize madeCells (Value.agg #[.int .i64 0, .int .i64 0, .string ⟨#[]⟩]).cells (l.length * 3) = M at hmk hM
  have H : Hid _ := h
  have HV : Hid _ := hval
  have HM : Hid _ := hM
  clear h hval hM hi0 hz0 hz1 hz2
  go_enter Tryd.func23, Tryd.ntmps23
  go_wp2
  go_loopw [11] (fun i wr => ∃ k : Nat, k ≤ l.length ∧ i = .int .i64 k ∧ ToldRel w l k wr) (fun i _ => l.length - (intOf i).toNat)
  case atStart => exact ⟨0, by omega, rfl, M, heap_alloc_new w _, HM.out, by simp [flatV], (Below.refl _ _).alloc (Nat.le_refl _) _⟩
  case round =>
    obtain ⟨k, hk, rfl, hrel⟩ := hrel
    by_cases hlt : k < l.length
    · obtain ⟨g, cap', hsv', hg, _, _, c0, c1, c2⟩ := VSl.cells H.out hlt
      cases hsv'
      have hvk : Hid (l[k].val.size ≤ 281474976710656) := HV.out _ (List.getElem_mem hlt)
      have hsn : Hid _ := flatV_take_succ l k hlt
      generalize l[k].rep = r at *
      generalize l[k].n = n at *
      generalize l[k].val = s at *
      have hs := hvk.out
      obtain ⟨M', hh, hms, htk, hb⟩ := hrel
      have hbo := (Array.getElem?_eq_some_iff.1 hh).1
      have d0 : wr.cell? ⟨g, k * 3, none⟩ = some (.int .i64 r) := (hb.cell (p := ⟨g, k * 3, none⟩) hg).trans c0
      have d1 : wr.cell? ⟨g, k * 3 + 1, none⟩ = some (.int .i64 n) := (hb.cell (p := ⟨g, k * 3 + 1, none⟩) hg).trans c1
      have d2 : wr.cell? ⟨g, k * 3 + 2, none⟩ = some (.string s) := (hb.cell (p := ⟨g, k * 3 + 2, none⟩) hg).trans c2
      have g63 : (k : Int) < (l.length : Int) := by omega
      have k0 : (0 : Int) ≤ (k : Int) := by omega
      have Hc : Hid _ := And.intro c0 (And.intro c1 c2)
      have HH : Hid _ := And.intro hh (And.intro hms (And.intro htk hb))
      clear c0 c1 c2 hh hms htk hb
      have hm3 : k * 3 + 2 < M'.size := by rw [HH.out.2.1]; omega
      have hH := HH.out.1
      have hbn : wr.heap.size ≠ w.heap.size := by omega
      go_wp2_with fail
      go_region_held3 (fun w' => w'.cell? ⟨wr.heap.size, 0, none⟩ = some (.int .i64 r) ∧ w'.cell? ⟨wr.heap.size, 1, none⟩ = some (.int .i64 n) ∧ w'.cell? ⟨wr.heap.size, 2, none⟩ = some (.string s))
        (first | go_keep | (go_split_ands; exact ⟨cell_keep (by assumption) hb1, cell_keep (by assumption) hb1, cell_keep (by assumption) hb1⟩) | (go_split_ands; exact ⟨by rw [set_far hbn, set_far hbn, set_far hbn]; assumption, by rw [set_far hbn, set_far hbn, set_far hbn]; assumption, by rw [set_far hbn, set_far hbn, set_far hbn]; assumption⟩))
        (first | (go_at_call 21; refine (clone_any s _ hs).mono ?_; rintro e w1 ⟨rfl, hb1⟩; obtain ⟨m0, ⟨x0, m1⟩, ⟨x1, m2⟩, ⟨x2, m3⟩, m4, m5⟩ := afterClone2 hb1 hH hm3))
      go_wp2
      refine ⟨⟨k + 1, by omega, by go_num, _, heap_set3 m0, by simp only [Array.size_setIfInBounds]; exact HH.out.2.1, ?_, ?_⟩, by simp [intOf]; omega⟩
      · rw [hsn.out]; exact take_set3 hm3 HH.out.2.2.1
      · exact (((HH.out.2.2.2.trans (m5.mono HH.out.2.2.2.size)).setCell (Nat.le_refl _) _).setCell (Nat.le_refl _) _).setCell (Nat.le_refl _) _
    · have hkl : k = l.length := by omega
      have HK : Hid (List.take k l = l) := List.take_of_length_le (by omega)
      have HRel : Hid _ := hrel
      clear hrel
      go_wp2
      go_ret
      obtain ⟨M', hh, hms, htk, hb⟩ := HRel.out
      refine ⟨_, rfl, ⟨by rw [flatV_length], Or.inr ⟨w.heap.size, l.length, M', rfl, Nat.le_refl _, hh, Nat.le_refl _, by unfold maxLen; omega, hms, ?_⟩⟩, hb⟩
      rw [HK.out, hkl] at htk; exact htk
end Go.Proofs.YtldmcdeibiclkaaDoor
