/-
  Contracts of the reference: Put, at a limit.
-/
import Derived.Test.YtldmcdeibiclkaaGreatQ15
set_option linter.unusedVariables false
set_option linter.unusedSimpArgs false

namespace Go.Proofs.YtldmcdeibiclkaaGreat
open Go.RowKit

set_option maxRecDepth 100000 in
set_option maxHeartbeats 4000000 in
theorem refPut_limit1 (b n : Nat) (sv : Value) (l : List RKey) (name na value : ByteArray) (seen c : Ctx) (av : Option Addr) (cv : Nat) (vl : List Ver) (w : World) (h : RefAt w b n sv l) (hsl : ∀ q ∈ l, ∃ ad m cap, q.2.2 = .slice ad m cap) (hlen : l.length ≤ 1900000000000) (hf : findK l name = (na, c, .slice av vl.length cv)) (hv : ASl w (.slice av vl.length cv) vl) (hr : ∀ v ∈ vl, v.rep < 4) (hvl : vl.length ≤ 100000) (hs : name.size ≤ maxLen) (hkey : keyB name = true) (hsd : soundB seen = true) (hn4 : n < 4) (hv12 : value.size ≤ 12) (hlim : 20 ≤ (unseenL vl seen).length) :
    Calls Tryz.prog 14 #[.pointer (some ⟨b, 0, none⟩), .string name, .string value, ctxV seen] w fun e w' => e = .returned (.int .i64 6) ∧ Below w.heap.size w w' := by
  have HCK : Hid (∀ W, Calls Tryz.prog 36 #[.string name] W fun e w' => e = .returned (.bool true) ∧ w' = W) := fun W => by
    have := refKey_any name W hs; rw [hkey] at this; exact this
  have HCX : Hid (∀ W, Calls Tryz.prog 37 #[ctxV seen] W fun e w' => e = .returned (.bool true) ∧ Below W.heap.size W w') := fun W => by
    have := refContext_any seen W; rw [hsd] at this; exact this
  have HKey : Hid (∀ W, Below w.heap.size w W → Calls Tryz.prog 38 #[.pointer (some ⟨b, 0, none⟩), .string name] W fun e w' => e = .returned (keyV (na, c, .slice av vl.length cv)) ∧ Below W.heap.size W w') := fun W hW => by
    have := refKeyOf_any b n sv l name W (h.below hW) hsl hlen; rw [hf] at this; exact this
  have HUn : Hid (∀ W, Below w.heap.size w W → Calls Tryz.prog 39 #[.slice av vl.length cv, ctxV seen] W fun e w' => ∃ v', e = .returned v' ∧ w'.ownsRow W.heap.size 88 3 v' (unseenL vl seen).length (flatV (unseenL vl seen)) ∧ Below W.heap.size W w') := fun W hW => refUnseen_any _ vl seen W (ownsRow_below hv hW (Nat.le_refl _)) hr hvl
  have hbs : b < w.heap.size := (Array.getElem?_eq_some_iff.1 h.1).1
  have HUL : Hid ((unseenL vl seen).length ≤ 100000) := Nat.le_trans (List.length_filter_le _ _) hvl
  have HN : Hid (∀ W, Below w.heap.size w W → W.cell? ⟨b, 0, none⟩ = some (.int .i64 n)) := fun W hW => by rw [(cells_of0 (h.below hW).1).1]; rfl
  clear hs hkey hsd hsl h hf hv hr
  obtain ⟨u, hu⟩ : ∃ u, (unseenL vl seen).length = u := ⟨_, rfl⟩
  rw [hu] at HUL hlim
  have HNu : Hid ((unseenL vl seen).length = u) := hu
  clear hu
  have n0 : (0 : Int) ≤ (n : Int) := by omega
  have n4 : (n : Int) < 4 := by omega
  have hdv : (value.size : Int) ≤ 12 := by omega
  have hd : (20 : Int) ≤ (u : Int) := by omega
  go_enter Tryz.func14, Tryz.ntmps14
  go_upto_region 10 with (first
    | (go_at_call 36; refine Calls.mono (HCK.out _) ?_; rintro e w1 ⟨rfl, rfl⟩)
    | (go_at_call 37; refine Calls.mono (HCX.out _) ?_; rintro e w1 ⟨rfl, hb1⟩; obtain ⟨z1, hx1, hB1⟩ := box_keep hb1; have HB1 : Hid (Below w.heap.size w w1) := hB1; have HX1 : Hid (w1.heap[w.heap.size]? = some (.cells #[.int .i64 (seen 0), .int .i64 (seen 1), .int .i64 (seen 2), .int .i64 (seen 3)] 34)) := hx1; clear hb1 hx1 hB1)
    | (go_at_call 38; refine Calls.mono (HKey.out _ HB1.out) ?_; rintro e w2 ⟨rfl, hb2⟩; have HB2 : Hid (Below w.heap.size w w2) := HB1.out.trans (hb2.mono (by omega)); have z2 := hb2.size; have HX2 : Hid (w2.heap[w.heap.size]? = some (.cells #[.int .i64 (seen 0), .int .i64 (seen 1), .int .i64 (seen 2), .int .i64 (seen 3)] 34)) := (by rw [hb2.block _ (by omega)]; exact HX1.out); have x2 : ∀ X o, (w2.alloc X).cell? ⟨w.heap.size, o, none⟩ = #[Value.int .i64 (seen 0), .int .i64 (seen 1), .int .i64 (seen 2), .int .i64 (seen 3)][o]? := (fun X o => by rw [World.cell?_alloc_lt _ _ _ (show w.heap.size < w2.heap.size by omega)]; exact (cells_of0 HX2.out).1 o); clear hb2))
  obtain ⟨W3, hW3⟩ : ∃ W, W = w2.alloc (.cells #[.string na, .int .i64 (c 0), .int .i64 (c 1), .int .i64 (c 2), .int .i64 (c 3), .slice av vl.length cv] 82) := ⟨_, rfl⟩
  rw [← hW3]
  have HK3 : Hid (W3.heap[w2.heap.size]? = some (.cells #[.string na, .int .i64 (c 0), .int .i64 (c 1), .int .i64 (c 2), .int .i64 (c 3), .slice av vl.length cv] 82)) := (by rw [hW3]; exact heap_alloc_new w2 _)
  have HX3 : Hid (W3.heap[w.heap.size]? = some (.cells #[.int .i64 (seen 0), .int .i64 (seen 1), .int .i64 (seen 2), .int .i64 (seen 3)] 34)) := (by rw [hW3, Below.heap_alloc _ _ _ (show w.heap.size < w2.heap.size by omega)]; exact HX2.out)
  have HB3 : Hid (Below w.heap.size w W3) := (by rw [hW3]; exact HB2.out.alloc (by omega) _)
  have z3 : W3.heap.size = w2.heap.size + 1 := by rw [hW3, size_allocW]
  have k3 : ∀ o, W3.cell? ⟨w2.heap.size, o, none⟩ = #[Value.string na, .int .i64 (c 0), .int .i64 (c 1), .int .i64 (c 2), .int .i64 (c 3), .slice av vl.length cv][o]? := (cells_of0 HK3.out).1
  have x3 : ∀ o, W3.cell? ⟨w.heap.size, o, none⟩ = #[Value.int .i64 (seen 0), .int .i64 (seen 1), .int .i64 (seen 2), .int .i64 (seen 3)][o]? := (cells_of0 HX3.out).1
  clear hW3 x2
  go_upto_region 11 with (first
    | (go_at_call 39; refine Calls.mono (HUn.out _ HB3.out) ?_; rintro e w4 ⟨v', rfl, hown, hb4⟩; rw [HNu.out] at hown; obtain ⟨ad4, cap4, rfl, hcap4, -⟩ := row_lenA hown; have z4 := hb4.size; have HO4 : Hid (w4.ownsRow W3.heap.size 88 3 (.slice ad4 u cap4) u (flatV (unseenL vl seen))) := hown; have HB4 : Hid (Below w.heap.size w w4) := HB3.out.trans (hb4.mono (by omega)); have HK4 : Hid (w4.heap[w2.heap.size]? = some (.cells #[.string na, .int .i64 (c 0), .int .i64 (c 1), .int .i64 (c 2), .int .i64 (c 3), .slice av vl.length cv] 82)) := (by rw [hb4.block _ (by omega)]; exact HK3.out); have HX4 : Hid (w4.heap[w.heap.size]? = some (.cells #[.int .i64 (seen 0), .int .i64 (seen 1), .int .i64 (seen 2), .int .i64 (seen 3)] 34)) := (by rw [hb4.block _ (by omega)]; exact HX3.out); have k4 : ∀ o, w4.cell? ⟨w2.heap.size, o, none⟩ = #[Value.string na, .int .i64 (c 0), .int .i64 (c 1), .int .i64 (c 2), .int .i64 (c 3), .slice av vl.length cv][o]? := (cells_of0 HK4.out).1; have f4 : ∀ o, w4.frozen? ⟨w2.heap.size, o, none⟩ = false := (cells_of0 HK4.out).2; have x4 : ∀ o, w4.cell? ⟨w.heap.size, o, none⟩ = #[Value.int .i64 (seen 0), .int .i64 (seen 1), .int .i64 (seen 2), .int .i64 (seen 3)][o]? := (cells_of0 HX4.out).1; have hul := HUL.out; clear hown hb4 k3 x3))
  have cn : w4.cell? ⟨b, 0, none⟩ = some (.int .i64 n) := HN.out _ HB4.out
  have ck : w4.cell? ⟨w2.heap.size, 1 + n, none⟩ = some (.int .i64 (c n)) := by
    rw [k4]; rcases lt4 hn4 with rfl | rfl | rfl | rfl <;> rfl
  have cx : w4.cell? ⟨w.heap.size, n, none⟩ = some (.int .i64 (seen n)) := by
    rw [x4]; rcases lt4 hn4 with rfl | rfl | rfl | rfl <;> rfl
  clear k4 x4 f4
  go_wp2
  go_ret
  exact ⟨rfl, HB4.out⟩

set_option maxRecDepth 100000 in
set_option maxHeartbeats 4000000 in
theorem refPut_limit2 (b n : Nat) (sv : Value) (l : List RKey) (name na value : ByteArray) (seen c : Ctx) (av : Option Addr) (cv : Nat) (vl : List Ver) (w : World) (h : RefAt w b n sv l) (hsl : ∀ q ∈ l, ∃ ad m cap, q.2.2 = .slice ad m cap) (hlen : l.length ≤ 1900000000000) (hf : findK l name = (na, c, .slice av vl.length cv)) (hv : ASl w (.slice av vl.length cv) vl) (hr : ∀ v ∈ vl, v.rep < 4) (hvl : vl.length ≤ 100000) (hs : name.size ≤ maxLen) (hkey : keyB name = true) (hsd : soundB seen = true) (hn4 : n < 4) (hv12 : value.size ≤ 12) (hlim : (unseenL vl seen).length < 20) (hd2 : 1000000 ≤ c n) :
    Calls Tryz.prog 14 #[.pointer (some ⟨b, 0, none⟩), .string name, .string value, ctxV seen] w fun e w' => e = .returned (.int .i64 6) ∧ Below w.heap.size w w' := by
  have HCK : Hid (∀ W, Calls Tryz.prog 36 #[.string name] W fun e w' => e = .returned (.bool true) ∧ w' = W) := fun W => by
    have := refKey_any name W hs; rw [hkey] at this; exact this
  have HCX : Hid (∀ W, Calls Tryz.prog 37 #[ctxV seen] W fun e w' => e = .returned (.bool true) ∧ Below W.heap.size W w') := fun W => by
    have := refContext_any seen W; rw [hsd] at this; exact this
  have HKey : Hid (∀ W, Below w.heap.size w W → Calls Tryz.prog 38 #[.pointer (some ⟨b, 0, none⟩), .string name] W fun e w' => e = .returned (keyV (na, c, .slice av vl.length cv)) ∧ Below W.heap.size W w') := fun W hW => by
    have := refKeyOf_any b n sv l name W (h.below hW) hsl hlen; rw [hf] at this; exact this
  have HUn : Hid (∀ W, Below w.heap.size w W → Calls Tryz.prog 39 #[.slice av vl.length cv, ctxV seen] W fun e w' => ∃ v', e = .returned v' ∧ w'.ownsRow W.heap.size 88 3 v' (unseenL vl seen).length (flatV (unseenL vl seen)) ∧ Below W.heap.size W w') := fun W hW => refUnseen_any _ vl seen W (ownsRow_below hv hW (Nat.le_refl _)) hr hvl
  have hbs : b < w.heap.size := (Array.getElem?_eq_some_iff.1 h.1).1
  have HUL : Hid ((unseenL vl seen).length ≤ 100000) := Nat.le_trans (List.length_filter_le _ _) hvl
  have HN : Hid (∀ W, Below w.heap.size w W → W.cell? ⟨b, 0, none⟩ = some (.int .i64 n)) := fun W hW => by rw [(cells_of0 (h.below hW).1).1]; rfl
  clear hs hkey hsd hsl h hf hv hr
  obtain ⟨u, hu⟩ : ∃ u, (unseenL vl seen).length = u := ⟨_, rfl⟩
  rw [hu] at HUL hlim
  have HNu : Hid ((unseenL vl seen).length = u) := hu
  clear hu
  have n0 : (0 : Int) ≤ (n : Int) := by omega
  have n4 : (n : Int) < 4 := by omega
  have hdv : (value.size : Int) ≤ 12 := by omega
  have hd : (u : Int) < 20 := by omega
  go_enter Tryz.func14, Tryz.ntmps14
  go_upto_region 10 with (first
    | (go_at_call 36; refine Calls.mono (HCK.out _) ?_; rintro e w1 ⟨rfl, rfl⟩)
    | (go_at_call 37; refine Calls.mono (HCX.out _) ?_; rintro e w1 ⟨rfl, hb1⟩; obtain ⟨z1, hx1, hB1⟩ := box_keep hb1; have HB1 : Hid (Below w.heap.size w w1) := hB1; have HX1 : Hid (w1.heap[w.heap.size]? = some (.cells #[.int .i64 (seen 0), .int .i64 (seen 1), .int .i64 (seen 2), .int .i64 (seen 3)] 34)) := hx1; clear hb1 hx1 hB1)
    | (go_at_call 38; refine Calls.mono (HKey.out _ HB1.out) ?_; rintro e w2 ⟨rfl, hb2⟩; have HB2 : Hid (Below w.heap.size w w2) := HB1.out.trans (hb2.mono (by omega)); have z2 := hb2.size; have HX2 : Hid (w2.heap[w.heap.size]? = some (.cells #[.int .i64 (seen 0), .int .i64 (seen 1), .int .i64 (seen 2), .int .i64 (seen 3)] 34)) := (by rw [hb2.block _ (by omega)]; exact HX1.out); have x2 : ∀ X o, (w2.alloc X).cell? ⟨w.heap.size, o, none⟩ = #[Value.int .i64 (seen 0), .int .i64 (seen 1), .int .i64 (seen 2), .int .i64 (seen 3)][o]? := (fun X o => by rw [World.cell?_alloc_lt _ _ _ (show w.heap.size < w2.heap.size by omega)]; exact (cells_of0 HX2.out).1 o); clear hb2))
  obtain ⟨W3, hW3⟩ : ∃ W, W = w2.alloc (.cells #[.string na, .int .i64 (c 0), .int .i64 (c 1), .int .i64 (c 2), .int .i64 (c 3), .slice av vl.length cv] 82) := ⟨_, rfl⟩
  rw [← hW3]
  have HK3 : Hid (W3.heap[w2.heap.size]? = some (.cells #[.string na, .int .i64 (c 0), .int .i64 (c 1), .int .i64 (c 2), .int .i64 (c 3), .slice av vl.length cv] 82)) := (by rw [hW3]; exact heap_alloc_new w2 _)
  have HX3 : Hid (W3.heap[w.heap.size]? = some (.cells #[.int .i64 (seen 0), .int .i64 (seen 1), .int .i64 (seen 2), .int .i64 (seen 3)] 34)) := (by rw [hW3, Below.heap_alloc _ _ _ (show w.heap.size < w2.heap.size by omega)]; exact HX2.out)
  have HB3 : Hid (Below w.heap.size w W3) := (by rw [hW3]; exact HB2.out.alloc (by omega) _)
  have z3 : W3.heap.size = w2.heap.size + 1 := by rw [hW3, size_allocW]
  have k3 : ∀ o, W3.cell? ⟨w2.heap.size, o, none⟩ = #[Value.string na, .int .i64 (c 0), .int .i64 (c 1), .int .i64 (c 2), .int .i64 (c 3), .slice av vl.length cv][o]? := (cells_of0 HK3.out).1
  have x3 : ∀ o, W3.cell? ⟨w.heap.size, o, none⟩ = #[Value.int .i64 (seen 0), .int .i64 (seen 1), .int .i64 (seen 2), .int .i64 (seen 3)][o]? := (cells_of0 HX3.out).1
  clear hW3 x2
  go_upto_region 11 with (first
    | (go_at_call 39; refine Calls.mono (HUn.out _ HB3.out) ?_; rintro e w4 ⟨v', rfl, hown, hb4⟩; rw [HNu.out] at hown; obtain ⟨ad4, cap4, rfl, hcap4, -⟩ := row_lenA hown; have z4 := hb4.size; have HO4 : Hid (w4.ownsRow W3.heap.size 88 3 (.slice ad4 u cap4) u (flatV (unseenL vl seen))) := hown; have HB4 : Hid (Below w.heap.size w w4) := HB3.out.trans (hb4.mono (by omega)); have HK4 : Hid (w4.heap[w2.heap.size]? = some (.cells #[.string na, .int .i64 (c 0), .int .i64 (c 1), .int .i64 (c 2), .int .i64 (c 3), .slice av vl.length cv] 82)) := (by rw [hb4.block _ (by omega)]; exact HK3.out); have HX4 : Hid (w4.heap[w.heap.size]? = some (.cells #[.int .i64 (seen 0), .int .i64 (seen 1), .int .i64 (seen 2), .int .i64 (seen 3)] 34)) := (by rw [hb4.block _ (by omega)]; exact HX3.out); have k4 : ∀ o, w4.cell? ⟨w2.heap.size, o, none⟩ = #[Value.string na, .int .i64 (c 0), .int .i64 (c 1), .int .i64 (c 2), .int .i64 (c 3), .slice av vl.length cv][o]? := (cells_of0 HK4.out).1; have f4 : ∀ o, w4.frozen? ⟨w2.heap.size, o, none⟩ = false := (cells_of0 HK4.out).2; have x4 : ∀ o, w4.cell? ⟨w.heap.size, o, none⟩ = #[Value.int .i64 (seen 0), .int .i64 (seen 1), .int .i64 (seen 2), .int .i64 (seen 3)][o]? := (cells_of0 HX4.out).1; have hul := HUL.out; clear hown hb4 k3 x3))
  have cn : w4.cell? ⟨b, 0, none⟩ = some (.int .i64 n) := HN.out _ HB4.out
  have ck : w4.cell? ⟨w2.heap.size, 1 + n, none⟩ = some (.int .i64 (c n)) := by
    rw [k4]; rcases lt4 hn4 with rfl | rfl | rfl | rfl <;> rfl
  have cx : w4.cell? ⟨w.heap.size, n, none⟩ = some (.int .i64 (seen n)) := by
    rw [x4]; rcases lt4 hn4 with rfl | rfl | rfl | rfl <;> rfl
  clear k4 x4 f4
  go_wp2
  go_ret
  exact ⟨rfl, HB4.out⟩

set_option maxRecDepth 100000 in
set_option maxHeartbeats 4000000 in
theorem refPut_limit3 (b n : Nat) (sv : Value) (l : List RKey) (name na value : ByteArray) (seen c : Ctx) (av : Option Addr) (cv : Nat) (vl : List Ver) (w : World) (h : RefAt w b n sv l) (hsl : ∀ q ∈ l, ∃ ad m cap, q.2.2 = .slice ad m cap) (hlen : l.length ≤ 1900000000000) (hf : findK l name = (na, c, .slice av vl.length cv)) (hv : ASl w (.slice av vl.length cv) vl) (hr : ∀ v ∈ vl, v.rep < 4) (hvl : vl.length ≤ 100000) (hs : name.size ≤ maxLen) (hkey : keyB name = true) (hsd : soundB seen = true) (hn4 : n < 4) (hv12 : value.size ≤ 12) (hlim : (unseenL vl seen).length < 20) (hd2 : c n < 1000000) (hd3 : 1000000 ≤ seen n) :
    Calls Tryz.prog 14 #[.pointer (some ⟨b, 0, none⟩), .string name, .string value, ctxV seen] w fun e w' => e = .returned (.int .i64 6) ∧ Below w.heap.size w w' := by
  have HCK : Hid (∀ W, Calls Tryz.prog 36 #[.string name] W fun e w' => e = .returned (.bool true) ∧ w' = W) := fun W => by
    have := refKey_any name W hs; rw [hkey] at this; exact this
  have HCX : Hid (∀ W, Calls Tryz.prog 37 #[ctxV seen] W fun e w' => e = .returned (.bool true) ∧ Below W.heap.size W w') := fun W => by
    have := refContext_any seen W; rw [hsd] at this; exact this
  have HKey : Hid (∀ W, Below w.heap.size w W → Calls Tryz.prog 38 #[.pointer (some ⟨b, 0, none⟩), .string name] W fun e w' => e = .returned (keyV (na, c, .slice av vl.length cv)) ∧ Below W.heap.size W w') := fun W hW => by
    have := refKeyOf_any b n sv l name W (h.below hW) hsl hlen; rw [hf] at this; exact this
  have HUn : Hid (∀ W, Below w.heap.size w W → Calls Tryz.prog 39 #[.slice av vl.length cv, ctxV seen] W fun e w' => ∃ v', e = .returned v' ∧ w'.ownsRow W.heap.size 88 3 v' (unseenL vl seen).length (flatV (unseenL vl seen)) ∧ Below W.heap.size W w') := fun W hW => refUnseen_any _ vl seen W (ownsRow_below hv hW (Nat.le_refl _)) hr hvl
  have hbs : b < w.heap.size := (Array.getElem?_eq_some_iff.1 h.1).1
  have HUL : Hid ((unseenL vl seen).length ≤ 100000) := Nat.le_trans (List.length_filter_le _ _) hvl
  have HN : Hid (∀ W, Below w.heap.size w W → W.cell? ⟨b, 0, none⟩ = some (.int .i64 n)) := fun W hW => by rw [(cells_of0 (h.below hW).1).1]; rfl
  clear hs hkey hsd hsl h hf hv hr
  obtain ⟨u, hu⟩ : ∃ u, (unseenL vl seen).length = u := ⟨_, rfl⟩
  rw [hu] at HUL hlim
  have HNu : Hid ((unseenL vl seen).length = u) := hu
  clear hu
  have n0 : (0 : Int) ≤ (n : Int) := by omega
  have n4 : (n : Int) < 4 := by omega
  have hdv : (value.size : Int) ≤ 12 := by omega
  have hd : (u : Int) < 20 := by omega
  go_enter Tryz.func14, Tryz.ntmps14
  go_upto_region 10 with (first
    | (go_at_call 36; refine Calls.mono (HCK.out _) ?_; rintro e w1 ⟨rfl, rfl⟩)
    | (go_at_call 37; refine Calls.mono (HCX.out _) ?_; rintro e w1 ⟨rfl, hb1⟩; obtain ⟨z1, hx1, hB1⟩ := box_keep hb1; have HB1 : Hid (Below w.heap.size w w1) := hB1; have HX1 : Hid (w1.heap[w.heap.size]? = some (.cells #[.int .i64 (seen 0), .int .i64 (seen 1), .int .i64 (seen 2), .int .i64 (seen 3)] 34)) := hx1; clear hb1 hx1 hB1)
    | (go_at_call 38; refine Calls.mono (HKey.out _ HB1.out) ?_; rintro e w2 ⟨rfl, hb2⟩; have HB2 : Hid (Below w.heap.size w w2) := HB1.out.trans (hb2.mono (by omega)); have z2 := hb2.size; have HX2 : Hid (w2.heap[w.heap.size]? = some (.cells #[.int .i64 (seen 0), .int .i64 (seen 1), .int .i64 (seen 2), .int .i64 (seen 3)] 34)) := (by rw [hb2.block _ (by omega)]; exact HX1.out); have x2 : ∀ X o, (w2.alloc X).cell? ⟨w.heap.size, o, none⟩ = #[Value.int .i64 (seen 0), .int .i64 (seen 1), .int .i64 (seen 2), .int .i64 (seen 3)][o]? := (fun X o => by rw [World.cell?_alloc_lt _ _ _ (show w.heap.size < w2.heap.size by omega)]; exact (cells_of0 HX2.out).1 o); clear hb2))
  obtain ⟨W3, hW3⟩ : ∃ W, W = w2.alloc (.cells #[.string na, .int .i64 (c 0), .int .i64 (c 1), .int .i64 (c 2), .int .i64 (c 3), .slice av vl.length cv] 82) := ⟨_, rfl⟩
  rw [← hW3]
  have HK3 : Hid (W3.heap[w2.heap.size]? = some (.cells #[.string na, .int .i64 (c 0), .int .i64 (c 1), .int .i64 (c 2), .int .i64 (c 3), .slice av vl.length cv] 82)) := (by rw [hW3]; exact heap_alloc_new w2 _)
  have HX3 : Hid (W3.heap[w.heap.size]? = some (.cells #[.int .i64 (seen 0), .int .i64 (seen 1), .int .i64 (seen 2), .int .i64 (seen 3)] 34)) := (by rw [hW3, Below.heap_alloc _ _ _ (show w.heap.size < w2.heap.size by omega)]; exact HX2.out)
  have HB3 : Hid (Below w.heap.size w W3) := (by rw [hW3]; exact HB2.out.alloc (by omega) _)
  have z3 : W3.heap.size = w2.heap.size + 1 := by rw [hW3, size_allocW]
  have k3 : ∀ o, W3.cell? ⟨w2.heap.size, o, none⟩ = #[Value.string na, .int .i64 (c 0), .int .i64 (c 1), .int .i64 (c 2), .int .i64 (c 3), .slice av vl.length cv][o]? := (cells_of0 HK3.out).1
  have x3 : ∀ o, W3.cell? ⟨w.heap.size, o, none⟩ = #[Value.int .i64 (seen 0), .int .i64 (seen 1), .int .i64 (seen 2), .int .i64 (seen 3)][o]? := (cells_of0 HX3.out).1
  clear hW3 x2
  go_upto_region 11 with (first
    | (go_at_call 39; refine Calls.mono (HUn.out _ HB3.out) ?_; rintro e w4 ⟨v', rfl, hown, hb4⟩; rw [HNu.out] at hown; obtain ⟨ad4, cap4, rfl, hcap4, -⟩ := row_lenA hown; have z4 := hb4.size; have HO4 : Hid (w4.ownsRow W3.heap.size 88 3 (.slice ad4 u cap4) u (flatV (unseenL vl seen))) := hown; have HB4 : Hid (Below w.heap.size w w4) := HB3.out.trans (hb4.mono (by omega)); have HK4 : Hid (w4.heap[w2.heap.size]? = some (.cells #[.string na, .int .i64 (c 0), .int .i64 (c 1), .int .i64 (c 2), .int .i64 (c 3), .slice av vl.length cv] 82)) := (by rw [hb4.block _ (by omega)]; exact HK3.out); have HX4 : Hid (w4.heap[w.heap.size]? = some (.cells #[.int .i64 (seen 0), .int .i64 (seen 1), .int .i64 (seen 2), .int .i64 (seen 3)] 34)) := (by rw [hb4.block _ (by omega)]; exact HX3.out); have k4 : ∀ o, w4.cell? ⟨w2.heap.size, o, none⟩ = #[Value.string na, .int .i64 (c 0), .int .i64 (c 1), .int .i64 (c 2), .int .i64 (c 3), .slice av vl.length cv][o]? := (cells_of0 HK4.out).1; have f4 : ∀ o, w4.frozen? ⟨w2.heap.size, o, none⟩ = false := (cells_of0 HK4.out).2; have x4 : ∀ o, w4.cell? ⟨w.heap.size, o, none⟩ = #[Value.int .i64 (seen 0), .int .i64 (seen 1), .int .i64 (seen 2), .int .i64 (seen 3)][o]? := (cells_of0 HX4.out).1; have hul := HUL.out; clear hown hb4 k3 x3))
  have cn : w4.cell? ⟨b, 0, none⟩ = some (.int .i64 n) := HN.out _ HB4.out
  have ck : w4.cell? ⟨w2.heap.size, 1 + n, none⟩ = some (.int .i64 (c n)) := by
    rw [k4]; rcases lt4 hn4 with rfl | rfl | rfl | rfl <;> rfl
  have cx : w4.cell? ⟨w.heap.size, n, none⟩ = some (.int .i64 (seen n)) := by
    rw [x4]; rcases lt4 hn4 with rfl | rfl | rfl | rfl <;> rfl
  clear k4 x4 f4
  go_wp2
  go_ret
  exact ⟨rfl, HB4.out⟩
end Go.Proofs.YtldmcdeibiclkaaGreat
