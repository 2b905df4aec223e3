/-
  Contracts of the reference: Delete, of a key, by a sound context.
  Contracts of the reference: Delete, where something was seen.
  Contracts of the reference: Put, refused: no key, too long a value, an unsound context.
-/
import Derived.Test.YtldmcdeibiclkaaGreatQ14
set_option linter.unusedVariables false
set_option linter.unusedSimpArgs false

namespace Go.Proofs.YtldmcdeibiclkaaGreat
open Go.RowKit

set_option maxRecDepth 100000 in
set_option maxHeartbeats 4000000 in
theorem refDelete_none (b n : Nat) (sv : Value) (l : List RKey) (name na : ByteArray) (seen c : Ctx) (av : Option Addr) (cv : Nat) (vl : List Ver) (w : World) (h : RefAt w b n sv l) (hsl : ∀ q ∈ l, ∃ ad m cap, q.2.2 = .slice ad m cap) (hlen : l.length ≤ 1900000000000) (hf : findK l name = (na, c, .slice av vl.length cv)) (hv : ASl w (.slice av vl.length cv) vl) (hr : ∀ v ∈ vl, v.rep < 4) (hvl : vl.length ≤ 100000) (hs : name.size ≤ maxLen) (hkey : keyB name = true) (hsd : soundB seen = true) (hno : (unseenL vl seen).length = vl.length) :
    Calls Tryz.prog 16 #[.pointer (some ⟨b, 0, none⟩), .string name, ctxV seen] w fun e w' => e = .returned (.int .i64 5) ∧ Below w.heap.size w w' := by
  have HCK : Hid (∀ W, Calls Tryz.prog 36 #[.string name] W fun e w' => e = .returned (.bool true) ∧ w' = W) := fun W => by
    have := refKey_any name W hs; rw [hkey] at this; exact this
  have HCX : Hid (∀ W, Calls Tryz.prog 37 #[ctxV seen] W fun e w' => e = .returned (.bool true) ∧ Below W.heap.size W w') := fun W => by
    have := refContext_any seen W; rw [hsd] at this; exact this
  have HKey : Hid (∀ W, Below w.heap.size w W → Calls Tryz.prog 38 #[.pointer (some ⟨b, 0, none⟩), .string name] W fun e w' => e = .returned (keyV (na, c, .slice av vl.length cv)) ∧ Below W.heap.size W w') := fun W hW => by
    have := refKeyOf_any b n sv l name W (h.below hW) hsl hlen; rw [hf] at this; exact this
  have HUn : Hid (∀ W, Below w.heap.size w W → Calls Tryz.prog 39 #[.slice av vl.length cv, ctxV seen] W fun e w' => ∃ v', e = .returned v' ∧ w'.ownsRow W.heap.size 88 3 v' (unseenL vl seen).length (flatV (unseenL vl seen)) ∧ Below W.heap.size W w') := fun W hW => refUnseen_any _ vl seen W (ownsRow_below hv hW (Nat.le_refl _)) hr hvl
  have hbs : b < w.heap.size := (Array.getElem?_eq_some_iff.1 h.1).1
  have HUL : Hid ((unseenL vl seen).length ≤ 100000) := Nat.le_trans (List.length_filter_le _ _) hvl
  clear hs hkey hsd hsl h hf hv hr
  rw [hno] at HUL
  have HNo : Hid ((unseenL vl seen).length = vl.length) := hno
  clear hno
  go_enter Tryz.func16, Tryz.ntmps16
  go_upto_region 8 with (first
    | (go_at_call 36; refine Calls.mono (HCK.out _) ?_; rintro e w1 ⟨rfl, rfl⟩)
    | (go_at_call 37; refine Calls.mono (HCX.out _) ?_; rintro e w1 ⟨rfl, hb1⟩; obtain ⟨z1, hx1, hB1⟩ := box_keep hb1; have HB1 : Hid (Below w.heap.size w w1) := hB1; have HX1 : Hid (w1.heap[w.heap.size]? = some (.cells #[.int .i64 (seen 0), .int .i64 (seen 1), .int .i64 (seen 2), .int .i64 (seen 3)] 34)) := hx1; clear hb1 hx1 hB1)
    | (go_at_call 38; refine Calls.mono (HKey.out _ HB1.out) ?_; rintro e w2 ⟨rfl, hb2⟩; have HB2 : Hid (Below w.heap.size w w2) := HB1.out.trans (hb2.mono (by omega)); have z2 := hb2.size; have HX2 : Hid (w2.heap[w.heap.size]? = some (.cells #[.int .i64 (seen 0), .int .i64 (seen 1), .int .i64 (seen 2), .int .i64 (seen 3)] 34)) := (by rw [hb2.block _ (by omega)]; exact HX1.out); have x2 : ∀ X o, (w2.alloc X).cell? ⟨w.heap.size, o, none⟩ = #[Value.int .i64 (seen 0), .int .i64 (seen 1), .int .i64 (seen 2), .int .i64 (seen 3)][o]? := (fun X o => by rw [World.cell?_alloc_lt _ _ _ (show w.heap.size < w2.heap.size by omega)]; exact (cells_of0 HX2.out).1 o); clear hb2))
  obtain ⟨W3, hW3⟩ : ∃ W, W = w2.alloc (.cells #[.string na, .int .i64 (c 0), .int .i64 (c 1), .int .i64 (c 2), .int .i64 (c 3), .slice av vl.length cv] 82) := ⟨_, rfl⟩
  rw [← hW3]
  have HK3 : Hid (W3.heap[w2.heap.size]? = some (.cells #[.string na, .int .i64 (c 0), .int .i64 (c 1), .int .i64 (c 2), .int .i64 (c 3), .slice av vl.length cv] 82)) := (by rw [hW3]; exact heap_alloc_new w2 _)
  have HX3 : Hid (W3.heap[w.heap.size]? = some (.cells #[.int .i64 (seen 0), .int .i64 (seen 1), .int .i64 (seen 2), .int .i64 (seen 3)] 34)) := (by rw [hW3, Below.heap_alloc _ _ _ (show w.heap.size < w2.heap.size by omega)]; exact HX2.out)
  have HB3 : Hid (Below w.heap.size w W3) := (by rw [hW3]; exact HB2.out.alloc (by omega) _)
  have z3 : W3.heap.size = w2.heap.size + 1 := by rw [hW3, size_allocW]
  have k3 : ∀ o, W3.cell? ⟨w2.heap.size, o, none⟩ = #[Value.string na, .int .i64 (c 0), .int .i64 (c 1), .int .i64 (c 2), .int .i64 (c 3), .slice av vl.length cv][o]? := (cells_of0 HK3.out).1
  have x3 : ∀ o, W3.cell? ⟨w.heap.size, o, none⟩ = #[Value.int .i64 (seen 0), .int .i64 (seen 1), .int .i64 (seen 2), .int .i64 (seen 3)][o]? := (cells_of0 HX3.out).1
  clear hW3 x2
  go_upto_region 9 with (first
    | (go_at_call 39; refine Calls.mono (HUn.out _ HB3.out) ?_; rintro e w4 ⟨v', rfl, hown, hb4⟩; rw [HNo.out] at hown; obtain ⟨ad4, cap4, rfl, hcap4, -⟩ := row_lenA hown; have z4 := hb4.size; have HO4 : Hid (w4.ownsRow W3.heap.size 88 3 (.slice ad4 vl.length cap4) vl.length (flatV (unseenL vl seen))) := hown; have HB4 : Hid (Below w.heap.size w w4) := HB3.out.trans (hb4.mono (by omega)); have HK4 : Hid (w4.heap[w2.heap.size]? = some (.cells #[.string na, .int .i64 (c 0), .int .i64 (c 1), .int .i64 (c 2), .int .i64 (c 3), .slice av vl.length cv] 82)) := (by rw [hb4.block _ (by omega)]; exact HK3.out); have HX4 : Hid (w4.heap[w.heap.size]? = some (.cells #[.int .i64 (seen 0), .int .i64 (seen 1), .int .i64 (seen 2), .int .i64 (seen 3)] 34)) := (by rw [hb4.block _ (by omega)]; exact HX3.out); have k4 : ∀ o, w4.cell? ⟨w2.heap.size, o, none⟩ = #[Value.string na, .int .i64 (c 0), .int .i64 (c 1), .int .i64 (c 2), .int .i64 (c 3), .slice av vl.length cv][o]? := (cells_of0 HK4.out).1; have f4 : ∀ o, w4.frozen? ⟨w2.heap.size, o, none⟩ = false := (cells_of0 HK4.out).2; have x4 : ∀ o, w4.cell? ⟨w.heap.size, o, none⟩ = #[Value.int .i64 (seen 0), .int .i64 (seen 1), .int .i64 (seen 2), .int .i64 (seen 3)][o]? := (cells_of0 HX4.out).1; have hul := HUL.out; clear hown hb4 k3 x3))
  go_wp2
  go_ret
  exact ⟨rfl, HB4.out⟩
end Go.Proofs.YtldmcdeibiclkaaGreat

namespace Go.Proofs.YtldmcdeibiclkaaGreat
open Go.RowKit

set_option maxRecDepth 100000 in
set_option maxHeartbeats 4000000 in
theorem refDelete_ok (b n : Nat) (sv : Value) (l : List RKey) (name na : ByteArray) (seen c : Ctx) (av : Option Addr) (cv : Nat) (vl : List Ver) (w : World) (h : RefAt w b n sv l) (hsl : ∀ q ∈ l, ∃ ad m cap, q.2.2 = .slice ad m cap) (hlen : l.length ≤ 1900000000000) (hf : findK l name = (na, c, .slice av vl.length cv)) (hv : ASl w (.slice av vl.length cv) vl) (hr : ∀ v ∈ vl, v.rep < 4) (hvl : vl.length ≤ 100000) (hs : name.size ≤ maxLen) (hkey : keyB name = true) (hsd : soundB seen = true) (hno : ¬ (unseenL vl seen).length = vl.length) :
    Calls Tryz.prog 16 #[.pointer (some ⟨b, 0, none⟩), .string name, ctxV seen] w fun e w' => e = .returned (.int .i64 0) ∧ ∃ sv' ad' cap', w'.heap[b]? = some (.cells #[.int .i64 n, sv'] 45) ∧ w'.ownsRow w.heap.size 82 6 sv' (setK l (na, bothC c seen, .slice ad' (unseenL vl seen).length cap')).length (flatK (setK l (na, bothC c seen, .slice ad' (unseenL vl seen).length cap'))) ∧ w'.ownsRow w.heap.size 88 3 (.slice ad' (unseenL vl seen).length cap') (unseenL vl seen).length (flatV (unseenL vl seen)) ∧ Fr (fun k => k = b) w w' := by
  have HCK : Hid (∀ W, Calls Tryz.prog 36 #[.string name] W fun e w' => e = .returned (.bool true) ∧ w' = W) := fun W => by
    have := refKey_any name W hs; rw [hkey] at this; exact this
  have HCX : Hid (∀ W, Calls Tryz.prog 37 #[ctxV seen] W fun e w' => e = .returned (.bool true) ∧ Below W.heap.size W w') := fun W => by
    have := refContext_any seen W; rw [hsd] at this; exact this
  have HKey : Hid (∀ W, Below w.heap.size w W → Calls Tryz.prog 38 #[.pointer (some ⟨b, 0, none⟩), .string name] W fun e w' => e = .returned (keyV (na, c, .slice av vl.length cv)) ∧ Below W.heap.size W w') := fun W hW => by
    have := refKeyOf_any b n sv l name W (h.below hW) hsl hlen; rw [hf] at this; exact this
  have HUn : Hid (∀ W, Below w.heap.size w W → Calls Tryz.prog 39 #[.slice av vl.length cv, ctxV seen] W fun e w' => ∃ v', e = .returned v' ∧ w'.ownsRow W.heap.size 88 3 v' (unseenL vl seen).length (flatV (unseenL vl seen)) ∧ Below W.heap.size W w') := fun W hW => refUnseen_any _ vl seen W (ownsRow_below hv hW (Nat.le_refl _)) hr hvl
  have hbs : b < w.heap.size := (Array.getElem?_eq_some_iff.1 h.1).1
  have HUL : Hid ((unseenL vl seen).length ≤ 100000) := Nat.le_trans (List.length_filter_le _ _) hvl
  have HSet : Hid (∀ cx ad' u' cap' W, Below w.heap.size w W → Calls Tryz.prog 42 #[.pointer (some ⟨b, 0, none⟩), keyV (na, cx, .slice ad' u' cap')] W fun e w' => e = .returned (.tuple #[]) ∧ ∃ sv', w'.heap[b]? = some (.cells #[.int .i64 n, sv'] 45) ∧ w'.ownsRow W.heap.size 82 6 sv' (setK l (na, cx, .slice ad' u' cap')).length (flatK (setK l (na, cx, .slice ad' u' cap'))) ∧ Fr (fun k => k = b) W w') := fun cx ad' u' cap' W hW => refSet_any b n sv l na cx ad' u' cap' W (h.below hW) hsl hlen
  have HBoth : Hid (∀ W, Calls Tryz.prog 40 #[ctxV c, ctxV seen] W fun e w' => e = .returned (ctxV (bothC c seen)) ∧ Below W.heap.size W w') := fun W => refBoth_any c seen W
  clear hs hkey hsd hsl h hf hv hr
  obtain ⟨u, hu⟩ : ∃ u, (unseenL vl seen).length = u := ⟨_, rfl⟩
  rw [hu] at HUL hno ⊢
  have HNu : Hid ((unseenL vl seen).length = u) := hu
  clear hu
  have hd : ((u : Int) == (vl.length : Int)) = false := by simp; omega
  go_enter Tryz.func16, Tryz.ntmps16
  go_upto_region 8 with (first
    | (go_at_call 36; refine Calls.mono (HCK.out _) ?_; rintro e w1 ⟨rfl, rfl⟩)
    | (go_at_call 37; refine Calls.mono (HCX.out _) ?_; rintro e w1 ⟨rfl, hb1⟩; obtain ⟨z1, hx1, hB1⟩ := box_keep hb1; have HB1 : Hid (Below w.heap.size w w1) := hB1; have HX1 : Hid (w1.heap[w.heap.size]? = some (.cells #[.int .i64 (seen 0), .int .i64 (seen 1), .int .i64 (seen 2), .int .i64 (seen 3)] 34)) := hx1; clear hb1 hx1 hB1)
    | (go_at_call 38; refine Calls.mono (HKey.out _ HB1.out) ?_; rintro e w2 ⟨rfl, hb2⟩; have HB2 : Hid (Below w.heap.size w w2) := HB1.out.trans (hb2.mono (by omega)); have z2 := hb2.size; have HX2 : Hid (w2.heap[w.heap.size]? = some (.cells #[.int .i64 (seen 0), .int .i64 (seen 1), .int .i64 (seen 2), .int .i64 (seen 3)] 34)) := (by rw [hb2.block _ (by omega)]; exact HX1.out); have x2 : ∀ X o, (w2.alloc X).cell? ⟨w.heap.size, o, none⟩ = #[Value.int .i64 (seen 0), .int .i64 (seen 1), .int .i64 (seen 2), .int .i64 (seen 3)][o]? := (fun X o => by rw [World.cell?_alloc_lt _ _ _ (show w.heap.size < w2.heap.size by omega)]; exact (cells_of0 HX2.out).1 o); clear hb2))
  obtain ⟨W3, hW3⟩ : ∃ W, W = w2.alloc (.cells #[.string na, .int .i64 (c 0), .int .i64 (c 1), .int .i64 (c 2), .int .i64 (c 3), .slice av vl.length cv] 82) := ⟨_, rfl⟩
  rw [← hW3]
  have HK3 : Hid (W3.heap[w2.heap.size]? = some (.cells #[.string na, .int .i64 (c 0), .int .i64 (c 1), .int .i64 (c 2), .int .i64 (c 3), .slice av vl.length cv] 82)) := (by rw [hW3]; exact heap_alloc_new w2 _)
  have HX3 : Hid (W3.heap[w.heap.size]? = some (.cells #[.int .i64 (seen 0), .int .i64 (seen 1), .int .i64 (seen 2), .int .i64 (seen 3)] 34)) := (by rw [hW3, Below.heap_alloc _ _ _ (show w.heap.size < w2.heap.size by omega)]; exact HX2.out)
  have HB3 : Hid (Below w.heap.size w W3) := (by rw [hW3]; exact HB2.out.alloc (by omega) _)
  have z3 : W3.heap.size = w2.heap.size + 1 := by rw [hW3, size_allocW]
  have k3 : ∀ o, W3.cell? ⟨w2.heap.size, o, none⟩ = #[Value.string na, .int .i64 (c 0), .int .i64 (c 1), .int .i64 (c 2), .int .i64 (c 3), .slice av vl.length cv][o]? := (cells_of0 HK3.out).1
  have x3 : ∀ o, W3.cell? ⟨w.heap.size, o, none⟩ = #[Value.int .i64 (seen 0), .int .i64 (seen 1), .int .i64 (seen 2), .int .i64 (seen 3)][o]? := (cells_of0 HX3.out).1
  clear hW3 x2
  go_upto_region 9 with (first
    | (go_at_call 39; refine Calls.mono (HUn.out _ HB3.out) ?_; rintro e w4 ⟨v', rfl, hown, hb4⟩; rw [HNu.out] at hown; obtain ⟨ad4, cap4, rfl, hcap4, -⟩ := row_lenA hown; have z4 := hb4.size; have HO4 : Hid (w4.ownsRow W3.heap.size 88 3 (.slice ad4 u cap4) u (flatV (unseenL vl seen))) := hown; have HB4 : Hid (Below w.heap.size w w4) := HB3.out.trans (hb4.mono (by omega)); have HK4 : Hid (w4.heap[w2.heap.size]? = some (.cells #[.string na, .int .i64 (c 0), .int .i64 (c 1), .int .i64 (c 2), .int .i64 (c 3), .slice av vl.length cv] 82)) := (by rw [hb4.block _ (by omega)]; exact HK3.out); have HX4 : Hid (w4.heap[w.heap.size]? = some (.cells #[.int .i64 (seen 0), .int .i64 (seen 1), .int .i64 (seen 2), .int .i64 (seen 3)] 34)) := (by rw [hb4.block _ (by omega)]; exact HX3.out); have k4 : ∀ o, w4.cell? ⟨w2.heap.size, o, none⟩ = #[Value.string na, .int .i64 (c 0), .int .i64 (c 1), .int .i64 (c 2), .int .i64 (c 3), .slice av vl.length cv][o]? := (cells_of0 HK4.out).1; have f4 : ∀ o, w4.frozen? ⟨w2.heap.size, o, none⟩ = false := (cells_of0 HK4.out).2; have x4 : ∀ o, w4.cell? ⟨w.heap.size, o, none⟩ = #[Value.int .i64 (seen 0), .int .i64 (seen 1), .int .i64 (seen 2), .int .i64 (seen 3)][o]? := (cells_of0 HX4.out).1; have hul := HUL.out; clear hown hb4 k3 x3))
  go_upto_region 12 with fail
  obtain ⟨W5, hW5⟩ : ∃ W, W = w4.setCell ⟨w2.heap.size, 5, none⟩ (.slice ad4 u cap4) := ⟨_, rfl⟩
  rw [← hW5]
  have HK5 : Hid (W5.heap[w2.heap.size]? = some (.cells #[.string na, .int .i64 (c 0), .int .i64 (c 1), .int .i64 (c 2), .int .i64 (c 3), .slice ad4 u cap4] 82)) := (by rw [hW5, heap_set HK4.out]; rfl)
  have HX5 : Hid (W5.heap[w.heap.size]? = some (.cells #[.int .i64 (seen 0), .int .i64 (seen 1), .int .i64 (seen 2), .int .i64 (seen 3)] 34)) := (by rw [hW5, Below.heap_setCell _ _ _ _ (show w.heap.size ≠ w2.heap.size by omega)]; exact HX4.out)
  have HB5 : Hid (Below w.heap.size w W5) := (by rw [hW5]; exact HB4.out.setCell (show w.heap.size ≤ w2.heap.size by omega) _)
  have HO5 : Hid (W5.ownsRow W3.heap.size 88 3 (.slice ad4 u cap4) u (flatV (unseenL vl seen))) := (by rw [hW5]; exact row_set_low HO4.out (by omega))
  have z5 : W5.heap.size = w4.heap.size := by rw [hW5]; simp [World.setCell]
  have k5 : ∀ o, W5.cell? ⟨w2.heap.size, o, none⟩ = #[Value.string na, .int .i64 (c 0), .int .i64 (c 1), .int .i64 (c 2), .int .i64 (c 3), .slice ad4 u cap4][o]? := (cells_of0 HK5.out).1
  have x5 : ∀ o, W5.cell? ⟨w.heap.size, o, none⟩ = #[Value.int .i64 (seen 0), .int .i64 (seen 1), .int .i64 (seen 2), .int .i64 (seen 3)][o]? := (cells_of0 HX5.out).1
  clear hW5 k4 f4 x4
  go_upto_region 13 with (first
    | (go_at_call 40; refine Calls.mono (HBoth.out _) ?_; rintro e w6 ⟨rfl, hb6⟩; have z6 := hb6.size; have HB6 : Hid (Below w.heap.size w w6) := HB5.out.trans (hb6.mono (by omega)); have HK6 : Hid (w6.heap[w2.heap.size]? = some (.cells #[.string na, .int .i64 (c 0), .int .i64 (c 1), .int .i64 (c 2), .int .i64 (c 3), .slice ad4 u cap4] 82)) := (by rw [hb6.block _ (by omega)]; exact HK5.out); have HO6 : Hid (w6.ownsRow W3.heap.size 88 3 (.slice ad4 u cap4) u (flatV (unseenL vl seen))) := ownsRow_below HO5.out hb6 (Nat.le_refl _); have k6 : ∀ o, w6.cell? ⟨w2.heap.size, o, none⟩ = #[Value.string na, .int .i64 (c 0), .int .i64 (c 1), .int .i64 (c 2), .int .i64 (c 3), .slice ad4 u cap4][o]? := (cells_of0 HK6.out).1; have f6 : ∀ o, w6.frozen? ⟨w2.heap.size, o, none⟩ = false := (cells_of0 HK6.out).2; clear hb6))
  obtain ⟨W7, hW7⟩ : ∃ W, W = (((w6.setCell ⟨w2.heap.size, 1, none⟩ (.int .i64 (bothC c seen 0))).setCell ⟨w2.heap.size, 2, none⟩ (.int .i64 (bothC c seen 1))).setCell ⟨w2.heap.size, 3, none⟩ (.int .i64 (bothC c seen 2))).setCell ⟨w2.heap.size, 4, none⟩ (.int .i64 (bothC c seen 3)) := ⟨_, rfl⟩
  rw [← hW7]
  have HK7 : Hid (W7.heap[w2.heap.size]? = some (.cells #[.string na, .int .i64 (bothC c seen 0), .int .i64 (bothC c seen 1), .int .i64 (bothC c seen 2), .int .i64 (bothC c seen 3), .slice ad4 u cap4] 82)) := (by rw [hW7, heap_set (heap_set (heap_set (heap_set HK6.out)))]; rfl)
  have hle : w.heap.size ≤ w2.heap.size := by omega
  have HB7 : Hid (Below w.heap.size w W7) := (by rw [hW7]; exact (((HB6.out.setCell hle _).setCell hle _).setCell hle _).setCell hle _)
  have hlo : w2.heap.size < W3.heap.size := by omega
  have HO7 : Hid (W7.ownsRow W3.heap.size 88 3 (.slice ad4 u cap4) u (flatV (unseenL vl seen))) := (by rw [hW7]; exact row_set_low (row_set_low (row_set_low (row_set_low HO6.out hlo) hlo) hlo) hlo)
  have k7 : ∀ o, W7.cell? ⟨w2.heap.size, o, none⟩ = #[Value.string na, .int .i64 (bothC c seen 0), .int .i64 (bothC c seen 1), .int .i64 (bothC c seen 2), .int .i64 (bothC c seen 3), .slice ad4 u cap4][o]? := (cells_of0 HK7.out).1
  have z7 := HB7.out.size
  clear hW7 k6 f6 k5 x5
  go_wp2_with (first
    | (go_at_call 42; refine Calls.mono (HSet.out (bothC c seen) ad4 u cap4 _ HB7.out) ?_; rintro e w8 ⟨rfl, sv', hb8, hr8, hF8⟩; have R1 : Hid (w8.heap[b]? = some (.cells #[.int .i64 n, sv'] 45)) := hb8; have R2 : Hid (w8.ownsRow W7.heap.size 82 6 sv' (setK l (na, bothC c seen, (.slice ad4 u cap4))).length (flatK (setK l (na, bothC c seen, (.slice ad4 u cap4))))) := hr8; have R3 : Hid (Fr (fun k => k = b) W7 w8) := hF8; clear hb8 hr8 hF8))
  go_ret
  refine ⟨rfl, sv', ad4, cap4, R1.out, ownsRow_base R2.out (by omega), ?_, (Fr.of_below HB7.out).trans R3.out⟩
  refine ownsRow_base (Fr.row R3.out HO7.out fun g o l' c' hv e => ?_) (by omega)
  rcases HO7.out.2 with ⟨h1, _⟩ | ⟨g1, cap1, cur1, hv1, hg1, _⟩
  · rw [h1] at hv; cases hv
  · rw [hv1] at hv; cases hv; omega
end Go.Proofs.YtldmcdeibiclkaaGreat

namespace Go.Proofs.YtldmcdeibiclkaaGreat
open Go.RowKit

set_option maxRecDepth 100000 in
set_option maxHeartbeats 4000000 in
theorem refPut_key (b : Nat) (name value : ByteArray) (seen : Ctx) (w : World) (hs : name.size ≤ maxLen) (hvs : value.size ≤ maxLen) (hkey : keyB name = false) :
    Calls Tryz.prog 14 #[.pointer (some ⟨b, 0, none⟩), .string name, .string value, ctxV seen] w fun e w' => e = .returned (.int .i64 2) ∧ Below w.heap.size w w' := by
  have HCK : Hid (∀ W, Calls Tryz.prog 36 #[.string name] W fun e w' => e = .returned (.bool false) ∧ w' = W) := fun W => by
    have := refKey_any name W hs; rw [hkey] at this; exact this
  have HCX : Hid (∀ W, Calls Tryz.prog 37 #[ctxV seen] W fun e w' => e = .returned (.bool (soundB seen)) ∧ Below W.heap.size W w') := fun W => by
    have := refContext_any seen W; exact this
  unfold maxLen at hvs
  clear hs hkey
  go_enter Tryz.func14, Tryz.ntmps14
  go_wp2_with (first
    | (go_at_call 36; refine Calls.mono (HCK.out _) ?_; rintro e w1 ⟨rfl, rfl⟩)
    | (go_at_call 37; refine Calls.mono (HCX.out _) ?_; rintro e w1 ⟨rfl, hb1⟩; have HB1 : Hid (Below w.heap.size w w1) := (box_keep hb1).2.2; clear hb1))
  go_ret
  exact ⟨rfl, HB1.out⟩

set_option maxRecDepth 100000 in
set_option maxHeartbeats 4000000 in
theorem refPut_value (b : Nat) (name value : ByteArray) (seen : Ctx) (w : World) (hs : name.size ≤ maxLen) (hvs : value.size ≤ maxLen) (hkey : keyB name = true) (hv : 12 < value.size) :
    Calls Tryz.prog 14 #[.pointer (some ⟨b, 0, none⟩), .string name, .string value, ctxV seen] w fun e w' => e = .returned (.int .i64 3) ∧ Below w.heap.size w w' := by
  have HCK : Hid (∀ W, Calls Tryz.prog 36 #[.string name] W fun e w' => e = .returned (.bool true) ∧ w' = W) := fun W => by
    have := refKey_any name W hs; rw [hkey] at this; exact this
  have HCX : Hid (∀ W, Calls Tryz.prog 37 #[ctxV seen] W fun e w' => e = .returned (.bool (soundB seen)) ∧ Below W.heap.size W w') := fun W => by
    have := refContext_any seen W; exact this
  unfold maxLen at hvs
  clear hs hkey
  have hd : (12 : Int) < (value.size : Int) := by omega
  go_enter Tryz.func14, Tryz.ntmps14
  go_wp2_with (first
    | (go_at_call 36; refine Calls.mono (HCK.out _) ?_; rintro e w1 ⟨rfl, rfl⟩)
    | (go_at_call 37; refine Calls.mono (HCX.out _) ?_; rintro e w1 ⟨rfl, hb1⟩; have HB1 : Hid (Below w.heap.size w w1) := (box_keep hb1).2.2; clear hb1))
  go_ret
  exact ⟨rfl, HB1.out⟩

set_option maxRecDepth 100000 in
set_option maxHeartbeats 4000000 in
theorem refPut_seen (b : Nat) (name value : ByteArray) (seen : Ctx) (w : World) (hs : name.size ≤ maxLen) (hvs : value.size ≤ maxLen) (hkey : keyB name = true) (hv : value.size ≤ 12) (hsd : soundB seen = false) :
    Calls Tryz.prog 14 #[.pointer (some ⟨b, 0, none⟩), .string name, .string value, ctxV seen] w fun e w' => e = .returned (.int .i64 4) ∧ Below w.heap.size w w' := by
  have HCK : Hid (∀ W, Calls Tryz.prog 36 #[.string name] W fun e w' => e = .returned (.bool true) ∧ w' = W) := fun W => by
    have := refKey_any name W hs; rw [hkey] at this; exact this
  have HCX : Hid (∀ W, Calls Tryz.prog 37 #[ctxV seen] W fun e w' => e = .returned (.bool false) ∧ Below W.heap.size W w') := fun W => by
    have := refContext_any seen W; rw [hsd] at this; exact this
  unfold maxLen at hvs
  clear hs hkey hsd
  have hd : (value.size : Int) ≤ 12 := by omega
  go_enter Tryz.func14, Tryz.ntmps14
  go_wp2_with (first
    | (go_at_call 36; refine Calls.mono (HCK.out _) ?_; rintro e w1 ⟨rfl, rfl⟩)
    | (go_at_call 37; refine Calls.mono (HCX.out _) ?_; rintro e w1 ⟨rfl, hb1⟩; have HB1 : Hid (Below w.heap.size w w1) := (box_keep hb1).2.2; clear hb1))
  go_ret
  exact ⟨rfl, HB1.out⟩
end Go.Proofs.YtldmcdeibiclkaaGreat
