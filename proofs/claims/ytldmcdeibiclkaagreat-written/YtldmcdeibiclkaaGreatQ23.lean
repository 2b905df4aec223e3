/-
  What comparing comes to: versions, contexts.
  Contract: got: the program's answer to a Get is the reference's; what came out is new memory.
  Contract: gets: three Gets are the reference's, and each answer is written full by its owner and held.
-/
import Derived.Test.YtldmcdeibiclkaaGreatQ20
import Derived.Test.YtldmcdeibiclkaaGreatQ19
import Derived.Test.YtldmcdeibiclkaaGreatQ21
set_option linter.unusedVariables false
set_option linter.unusedSimpArgs false

namespace Go.Proofs.YtldmcdeibiclkaaGreat
open Go.RowKit

theorem eqlVerL (W : World) (r n : Int) (s : ByteArray) : (binOp .eql 88 (.agg #[.int .i64 r, .int .i64 n, .string s]) (.agg #[.int .i64 r, .int .i64 n, .string s])).run Tryz.prog W = .ok (.bool true) W := by
  have u3 := Tryz.underlying3
  have u9 := Tryz.underlying9
  have a3 := Tryz.isAgg3
  have z3 := Tryz.sizeOf3
  have a9 := Tryz.isAgg9
  have z9 := Tryz.sizeOf9
  have hS : Tryz.prog.underlying 88 = some (.struct (Tryz.prog.fieldsOf 88)) := by kernel_rfl
  have hp : Tryz.prog.stoodInHeld 88 = false := by kernel_rfl
  rw [run_eql_struct, show (10000 : Nat) = 9999 + 1 from rfl, run_equalIn_agg W 9999 88 _ _ hS hp]
  simp only [Program.fieldsOf, Tryz.underlying88]
  go_simp

theorem eqlCtx_in (d : Nat) (W : World) (a b c e : Int) : (Op.equalIn (d + 2) 34 (.agg #[.int .i64 a, .int .i64 b, .int .i64 c, .int .i64 e]) (.agg #[.int .i64 a, .int .i64 b, .int .i64 c, .int .i64 e])).run Tryz.prog W = .ok true W := by
  have u3 := Tryz.underlying3
  have u9 := Tryz.underlying34
  have a3 := Tryz.isAgg3
  have z3 := Tryz.sizeOf3
  rw [Op.equalIn]
  simp only [Sem.run_bind, run_underlying u9, Result.andThen_ok]
  go_simp
  rw [show List.range' 0 4 = [0, 1, 2, 3] from rfl]
  simp only [List.forIn_cons, List.forIn_nil, Sem.run_bind, a3, Result.andThen_ok, Bool.false_eq_true, if_false]
  go_simp
theorem eqlCtxL (W : World) (a b c d : Int) : (binOp .eql 34 (.agg #[.int .i64 a, .int .i64 b, .int .i64 c, .int .i64 d]) (.agg #[.int .i64 a, .int .i64 b, .int .i64 c, .int .i64 d])).run Tryz.prog W = .ok (.bool true) W := by
  rw [run_eql_struct, show (10000 : Nat) = 9998 + 2 from rfl, eqlCtx_in]
  rfl
end Go.Proofs.YtldmcdeibiclkaaGreat

namespace Go.Proofs.YtldmcdeibiclkaaGreat
open Go.RowKit

set_option maxRecDepth 100000 in
set_option maxHeartbeats 4000000 in
theorem got_walk (b rb : Nat) (key : ByteArray) (c : Ctx) (L : List Ver) (er : Int) (w : World) (hL : L.length ≤ 100000)
    (h1 : ∀ W, Below w.heap.size w W → Calls Tryz.prog 66 #[.pointer (some ⟨b, 0, none⟩), .string key] W fun e w' => ∃ v', e = .returned (.tuple #[v', ctxV c, .int .i64 er]) ∧ w'.ownsRow W.heap.size 88 3 v' L.length (flatV L) ∧ Below W.heap.size W w')
    (h2 : ∀ W, Below w.heap.size w W → Calls Tryz.prog 28 #[.pointer (some ⟨rb, 0, none⟩), .string key] W fun e w' => ∃ v', e = .returned (.tuple #[v', ctxV c, .int .i64 er]) ∧ ASl w' v' L ∧ Below W.heap.size W w') :
    Calls Tryz.prog 44 #[.agg #[.pointer (some ⟨b, 0, none⟩), .pointer (some ⟨rb, 0, none⟩)], .string key] w fun e w' => ∃ v', e = .returned (.tuple #[v', .bool true]) ∧ w'.ownsRow w.heap.size 88 3 v' L.length (flatV L) ∧ Below w.heap.size w w' := by
  have H1 : Hid _ := h1
  have H2 : Hid _ := h2
  have hes := fun W r n s => eqlVerL W r n s
  have hec := fun W => eqlCtxL W (c 0) (c 1) (c 2) (c 3)
  clear h1 h2
  go_enter Tryz.func44, Tryz.ntmps44
  go_upto_region 2 with (first
    | (go_at_call 66; refine Calls.mono (H1.out _ ((Below.refl _ _).alloc (Nat.le_refl _) _)) ?_; rintro e w1 ⟨v1, rfl, hown1, hb1⟩; obtain ⟨ad1, cap1, rfl, hcap1, hlc1⟩ := row_lenA hown1))
  have HO1 : Hid (w1.ownsRow (w.heap.size + 1) 88 3 (.slice ad1 L.length cap1) L.length (flatV L)) := (show w1.ownsRow (w.heap.size + 1) 88 3 (.slice ad1 L.length cap1) L.length (flatV L) by have := hown1; simpa using this)
  have B1 : Below (w.heap.size + 1) (w.alloc (.cells #[.pointer (some ⟨b, 0, none⟩), .pointer (some ⟨rb, 0, none⟩)] 47)) w1 := (by have := hb1; simpa using this)
  have z1 : w.heap.size + 1 ≤ w1.heap.size := (by have := B1.size; simpa using this)
  have HB1 : Hid (Below w.heap.size w w1) := ((Below.refl _ _).alloc (Nat.le_refl _) _).trans (B1.mono (by omega))
  have x1 : w1.cell? ⟨w.heap.size, 1, none⟩ = some (.pointer (some ⟨rb, 0, none⟩)) := by
    rw [B1.cell (p := ⟨w.heap.size, 1, none⟩) (show w.heap.size < w.heap.size + 1 by omega)]
    exact (cells_of0 (heap_alloc_new w _)).1 1
  obtain ⟨W2, hW2⟩ : ∃ W, W = w1.alloc (.cells #[.int .i64 (c 0), .int .i64 (c 1), .int .i64 (c 2), .int .i64 (c 3)] 34) := ⟨_, rfl⟩
  rw [← hW2]
  have HB2 : Hid (Below w.heap.size w W2) := (by rw [hW2]; exact HB1.out.alloc (by omega) _)
  have x2 : W2.cell? ⟨w.heap.size, 1, none⟩ = some (.pointer (some ⟨rb, 0, none⟩)) := by
    rw [hW2, World.cell?_alloc_lt _ _ _ (show w.heap.size < w1.heap.size by omega)]; exact x1
  have HC2 : Hid (W2.heap[w1.heap.size]? = some (.cells #[.int .i64 (c 0), .int .i64 (c 1), .int .i64 (c 2), .int .i64 (c 3)] 34)) := (by rw [hW2]; exact heap_alloc_new w1 _)
  have HO2 : Hid (W2.ownsRow (w.heap.size + 1) 88 3 (.slice ad1 L.length cap1) L.length (flatV L)) := (by rw [hW2]; exact HO1.out.alloc _)
  have z2 : w1.heap.size + 1 = W2.heap.size := by rw [hW2, size_allocW]
  clear hW2 x1 hown1 hb1 B1
  go_upto_region 3 with (first
    | (go_at_call 28; refine Calls.mono (H2.out _ HB2.out) ?_; rintro e w3 ⟨v3, rfl, hown3, hb3⟩; obtain ⟨ad3, cap3, rfl, hcap3, hlc3⟩ := row_lenA hown3))
  have HB3 : Hid (Below w.heap.size w w3) := HB2.out.trans (hb3.mono (by omega))
  have z3 := hb3.size
  have HC3 : Hid (w3.heap[w1.heap.size]? = some (.cells #[.int .i64 (c 0), .int .i64 (c 1), .int .i64 (c 2), .int .i64 (c 3)] 34)) := heap_keep HC2.out hb3
  have HO3 : Hid (w3.ownsRow (w.heap.size + 1) 88 3 (.slice ad1 L.length cap1) L.length (flatV L)) := ownsRow_below HO2.out hb3 (Nat.le_refl _)
  have HA3 : Hid (w3.ownsRow 0 88 3 (.slice ad3 L.length cap3) L.length (flatV L)) := hown3
  obtain ⟨W4, hW4⟩ : ∃ W, W = w3.alloc (.cells #[.int .i64 (c 0), .int .i64 (c 1), .int .i64 (c 2), .int .i64 (c 3)] 34) := ⟨_, rfl⟩
  rw [← hW4]
  have HB4 : Hid (Below w.heap.size w W4) := (by rw [hW4]; exact HB3.out.alloc (by omega) _)
  have HC4 : Hid (W4.heap[w3.heap.size]? = some (.cells #[.int .i64 (c 0), .int .i64 (c 1), .int .i64 (c 2), .int .i64 (c 3)] 34)) := (by rw [hW4]; exact heap_alloc_new w3 _)
  have HD4 : Hid (W4.heap[w1.heap.size]? = some (.cells #[.int .i64 (c 0), .int .i64 (c 1), .int .i64 (c 2), .int .i64 (c 3)] 34)) := (by rw [hW4, Below.heap_alloc _ _ _ (show w1.heap.size < w3.heap.size by omega)]; exact HC3.out)
  have HO4 : Hid (W4.ownsRow (w.heap.size + 1) 88 3 (.slice ad1 L.length cap1) L.length (flatV L)) := (by rw [hW4]; exact HO3.out.alloc _)
  have HA4 : Hid (W4.ownsRow 0 88 3 (.slice ad3 L.length cap3) L.length (flatV L)) := (by rw [hW4]; exact HA3.out.alloc _)
  clear hW4 x2 hown3 hb3
  go_wp2
  go_loopw [12, 13] (fun r i wr => ∃ k : Nat, k ≤ L.length ∧ r = .bool true ∧ i = .int .i64 k ∧ ∃ q, wr = W4.drewN q) (fun _ i _ => L.length - (intOf i).toNat)
  case atStart => exact ⟨0, by omega, by simp, rfl, 0, rfl⟩
  case round =>
    obtain ⟨k, hk, rfl, rfl, q, rfl⟩ := hrel
    have k0 : (0 : Int) ≤ (k : Int) := by omega
    by_cases hlt : k < L.length
    · have k63 : (k : Int) < (L.length : Int) := by omega
      obtain ⟨g1, cap1', hs1, _, _, _, hc1⟩ := row_cellA HO4.out (by omega)
      cases hs1
      obtain ⟨g3, cap3', hs3, _, _, _, hc3⟩ := row_cellA HA4.out (by omega)
      cases hs3
      obtain ⟨f0, f1, f2⟩ := flatV_get L k hlt
      have a0 := hc1 _ _ (by omega) f0
      have a1 := hc1 _ _ (by omega) f1
      have a2 := hc1 _ _ (by omega) f2
      have b0 := hc3 _ _ (by omega) f0
      have b1 := hc3 _ _ (by omega) f1
      have b2 := hc3 _ _ (by omega) f2
      generalize L[k].rep = vr at *
      generalize L[k].n = vn at *
      generalize L[k].val = vv at *
      have hes' := fun W => hes W vr vn vv
      clear hes f0 f1 f2 hc1 hc3
      go_wp2
      go_quiet (fail)
      go_wp2
      exact ⟨⟨k + 1, by omega, rfl, by go_num, _, rfl⟩, by simp [intOf]; omega⟩
    · obtain rfl : k = L.length := by omega
      have p0 := (cells_of0 HC4.out).1 0
      have p1 := (cells_of0 HC4.out).1 1
      have p2 := (cells_of0 HC4.out).1 2
      have p3 := (cells_of0 HC4.out).1 3
      have q0 := (cells_of0 HD4.out).1 0
      have q1 := (cells_of0 HD4.out).1 1
      have q2 := (cells_of0 HD4.out).1 2
      have q3 := (cells_of0 HD4.out).1 3
      go_wp2
      go_ret2
      exact ⟨_, rfl, ownsRow_base (show World.ownsRow (W4.drewN q) _ _ _ _ _ _ from HO4.out) (by omega), below_drewN HB4.out q⟩

/-- The program's answer to a Get is the reference's. -/
theorem got_any (g : PG) (key : ByteArray) (w : World) (h : PairAt w g) (hlen : g.l.length ≤ 1900000000000) (hks : key.size ≤ maxLen) :
    Calls Tryz.prog 44 #[.agg #[.pointer (some ⟨g.b, 0, none⟩), .pointer (some ⟨g.rb, 0, none⟩)], .string key] w fun e w' => ∃ v' n xs, e = .returned (.tuple #[v', .bool true]) ∧ n ≤ 20 ∧ w'.ownsRow w.heap.size 88 3 v' n xs ∧ Below w.heap.size w w' := by
  have hl : (if keyB key = true then (g.K key).2 else []).length ≤ 20 := by
    split
    · exact (h.inv key).len
    · simp
  refine (got_walk g.b g.rb key (if keyB key = true then (g.K key).1 else fun _ => 0) (if keyB key = true then (g.K key).2 else []) (if keyB key = true then 0 else 2) w (by omega) (fun W hW => ?_) (fun W hW => ?_)).mono ?_
  · exact get_all g.b g.num g.bm g.K key W (h.rep.below hW) h.inv hks
  · exact refGet_all g.rb g.num g.sv g.l g.K key W (h.tied.below hW) hlen hks
  · rintro e w' ⟨v', rfl, ho, hb⟩
    exact ⟨v', _, _, rfl, hl, ho, hb⟩
end Go.Proofs.YtldmcdeibiclkaaGreat

namespace Go.Proofs.YtldmcdeibiclkaaGreat
open Go.RowKit

/-- A call of a script. -/
structure OpG where
  kind : Int
  m : Int
  a : Int
  b : Int
  s : ByteArray
  t : ByteArray
  c : Ctx
def opV (o : OpG) : Array Value := #[.int .i64 o.kind, .int .i64 o.m, .int .i64 o.a, .int .i64 o.b, .string o.s, .string o.t, .int .i64 (o.c 0), .int .i64 (o.c 1), .int .i64 (o.c 2), .int .i64 (o.c 3)]

/-- A list that nobody else has: it lies from B on, and below the size. -/
theorem row_lo {w : World} {B n size : Nat} {t : TypeId} {v : Value} {xs : List Value} (h : w.ownsRow B t size v n xs) {k : Nat} (e : v.ownBlock = some k) : B ≤ k ∧ k < w.heap.size := h.lt k e

/-- One list more is held, others that were new stay. -/
theorem keep_other {w w' : World} {wb : Nat} {pv hv hv0 : Value} {gs : List PG} {hs : List Nat} {S : Nat → Prop} {B n size : Nat} {t : TypeId} {v lv : Value} {xs : List Value} (H : LawS S w wb pv hv gs hs) (hF : Fr (fun k => k = wb ∨ hv.ownBlock = some k ∨ lv.ownBlock = some k) w w') (hr : w.ownsRow B t size v n xs) (t1 : t ≠ 30) (t2 : t ≠ 61)
    (hne : ∀ k, v.ownBlock = some k → ¬ lv.ownBlock = some k) : w'.ownsRow B t size v n xs :=
  hF.row hr fun g o l c e => by
    have eo : v.ownBlock = some g := by rw [e]; rfl
    obtain ⟨cur, hc⟩ := own_typed hr eo
    rintro (e' | e' | e')
    · rw [e'] at hc; exact t1 (typed_ne hc H.law.blk)
    · obtain ⟨cur', hc'⟩ := own_typed H.law.hrow e'
      exact t2 (typed_ne hc hc')
    · exact hne g eo e'

/-- The boxes of a pair and of a script's call. -/
def Boxes (W : World) (p b rb : Nat) (s t : ByteArray) : Prop :=
  W.cell? ⟨p, 0, none⟩ = some (.pointer (some ⟨b, 0, none⟩)) ∧ W.cell? ⟨p, 1, none⟩ = some (.pointer (some ⟨rb, 0, none⟩)) ∧ W.cell? ⟨p + 1, 4, none⟩ = some (.string s) ∧ W.cell? ⟨p + 1, 5, none⟩ = some (.string t)
theorem Boxes.keep {W W' : World} {p b rb : Nat} {s t : ByteArray} (h : Boxes W p b rb s t) (hb : Below W.heap.size W W') : Boxes W' p b rb s t :=
  ⟨cell_keep h.1 hb, cell_keep h.2.1 hb, cell_keep h.2.2.1 hb, cell_keep h.2.2.2 hb⟩

set_option maxRecDepth 100000 in
set_option maxHeartbeats 4000000 in
theorem gets_any (wb : Nat) (pv hv : Value) (gs : List PG) (hs : List Nat) (g : PG) (o : OpG) (w : World) (h : LawAt w wb pv hv gs hs) (hg : g ∈ gs) (hlen : hs.length ≤ 8000000000000) (hl : g.l.length ≤ 1900000000000) (hos : o.s.size ≤ maxLen) (hot : o.t.size ≤ maxLen) :
    Calls Tryz.prog 17 #[.pointer (some ⟨wb, 0, none⟩), .agg #[.pointer (some ⟨g.b, 0, none⟩), .pointer (some ⟨g.rb, 0, none⟩)], .agg (opV o)] w fun e w' => e = .returned (.bool true) ∧ ∃ (hv' : Value) (hs' : List Nat), LawAt w' wb pv hv' gs hs' ∧ hs'.length = hs.length + 3 ∧ Fr (fun k => k = wb ∨ hv.ownBlock = some k) w w' ∧ ∀ k, hv'.ownBlock = some k → hv.ownBlock = some k ∨ w.heap.size ≤ k := by
  have HG : Hid (∀ key, key.size ≤ maxLen → ∀ W, Below w.heap.size w W → Calls Tryz.prog 44 #[.agg #[.pointer (some ⟨g.b, 0, none⟩), .pointer (some ⟨g.rb, 0, none⟩)], .string key] W fun e w' => ∃ v' n xs, e = .returned (.tuple #[v', .bool true]) ∧ n ≤ 20 ∧ w'.ownsRow W.heap.size 88 3 v' n xs ∧ Below W.heap.size W w') := fun key hk W hW => got_any g key W ((h.pairs g hg).below hW) hl hk
  have HS0 : Hid (LawS (fun k => k < w.heap.size) w wb pv hv gs hs) := h.toS
  generalize g.b = b at *
  generalize g.rb = rb at *
  clear h
  obtain ⟨kind, m, a, ob, s, t, c⟩ := o
  simp only [opV] at *
  go_enter Tryz.func17, Tryz.ntmps17
  go_upto_region 1 with fail
  obtain ⟨W0, hW0⟩ : ∃ W, W = (w.alloc (.cells #[.pointer (some ⟨b, 0, none⟩), .pointer (some ⟨rb, 0, none⟩)] 47)).alloc (.cells #[.int .i64 kind, .int .i64 m, .int .i64 a, .int .i64 ob, .string s, .string t, .int .i64 (c 0), .int .i64 (c 1), .int .i64 (c 2), .int .i64 (c 3)] 36) := ⟨_, rfl⟩
  rw [← hW0]
  have HB0 : Hid (Below w.heap.size w W0) := (by rw [hW0]; exact ((Below.refl _ _).alloc (Nat.le_refl _) _).alloc (by simp) _)
  have z0 : W0.heap.size = w.heap.size + 2 := by rw [hW0]; simp
  have HX0 : Hid (Boxes W0 w.heap.size b rb s t) := (by
    rw [hW0]
    have e1 := (cells_of0 (heap_alloc_new (w.alloc (.cells #[.pointer (some ⟨b, 0, none⟩), .pointer (some ⟨rb, 0, none⟩)] 47)) (.cells #[.int .i64 kind, .int .i64 m, .int .i64 a, .int .i64 ob, .string s, .string t, .int .i64 (c 0), .int .i64 (c 1), .int .i64 (c 2), .int .i64 (c 3)] 36))).1
    rw [size_allocW] at e1
    have e2 := (cells_of0 (heap_alloc_new w (.cells #[.pointer (some ⟨b, 0, none⟩), .pointer (some ⟨rb, 0, none⟩)] 47))).1
    refine ⟨?_, ?_, e1 4, e1 5⟩
    · rw [World.cell?_alloc_lt _ _ _ (by simp)]; exact e2 0
    · rw [World.cell?_alloc_lt _ _ _ (by simp)]; exact e2 1)
  clear hW0
  obtain ⟨x0, x1, x2, x3⟩ := HX0.out
  go_upto_region 2 with (first
    | (go_at_call 44; refine Calls.mono (HG.out _ hos _ HB0.out) ?_; rintro e w1 ⟨v1, n1, xs1, rfl, hn1, hown1, hb1⟩; obtain ⟨ad1, cap1, rfl, hcap1, hlc1⟩ := row_lenA hown1))
  have HO1 : Hid (w1.ownsRow W0.heap.size 88 3 (.slice ad1 n1 cap1) n1 xs1) := hown1
  have HB1 : Hid (Below w.heap.size w w1) := HB0.out.trans (hb1.mono (by omega))
  have HX1 : Hid (Boxes w1 w.heap.size b rb s t) := HX0.out.keep hb1
  have z1 := hb1.size
  clear hown1 hb1 x0 x1 x2 x3
  obtain ⟨x0, x1, x2, x3⟩ := HX1.out
  go_upto_region 3 with (first
    | (go_at_call 44; refine Calls.mono (HG.out _ hot _ HB1.out) ?_; rintro e w2 ⟨v2, n2, xs2, rfl, hn2, hown2, hb2⟩; obtain ⟨ad2, cap2, rfl, hcap2, hlc2⟩ := row_lenA hown2))
  have HO2 : Hid (w2.ownsRow w1.heap.size 88 3 (.slice ad2 n2 cap2) n2 xs2) := hown2
  have HP2 : Hid (w2.ownsRow W0.heap.size 88 3 (.slice ad1 n1 cap1) n1 xs1) := ownsRow_below HO1.out hb2 (Nat.le_refl _)
  have HB2 : Hid (Below w.heap.size w w2) := HB1.out.trans (hb2.mono (by omega))
  have HX2 : Hid (Boxes w2 w.heap.size b rb s t) := HX1.out.keep hb2
  have z2 := hb2.size
  clear hown2 hb2 x0 x1 x2 x3
  obtain ⟨x0, x1, x2, x3⟩ := HX2.out
  go_upto_region 4 with (first
    | (go_at_call 44; refine Calls.mono (HG.out _ hos _ HB2.out) ?_; rintro e w3 ⟨v3, n3, xs3, rfl, hn3, hown3, hb3⟩; obtain ⟨ad3, cap3, rfl, hcap3, hlc3⟩ := row_lenA hown3))
  have HO3 : Hid (w3.ownsRow w2.heap.size 88 3 (.slice ad3 n3 cap3) n3 xs3) := hown3
  have HP3 : Hid (w3.ownsRow W0.heap.size 88 3 (.slice ad1 n1 cap1) n1 xs1) := ownsRow_below HP2.out hb3 (Nat.le_refl _)
  have HQ3 : Hid (w3.ownsRow w1.heap.size 88 3 (.slice ad2 n2 cap2) n2 xs2) := ownsRow_below HO2.out hb3 (Nat.le_refl _)
  have HB3 : Hid (Below w.heap.size w w3) := HB2.out.trans (hb3.mono (by omega))
  have z3 := hb3.size
  have HS3 : Hid (LawS (fun k => k < w.heap.size) w3 wb pv hv gs hs) := HS0.out.below HB3.out
  have L1 : Hid (∀ k, (Value.slice ad1 n1 cap1).ownBlock = some k → w.heap.size + 2 ≤ k ∧ k < w1.heap.size) := fun k e => by have := row_lo HO1.out e; omega
  have L2 : Hid (∀ k, (Value.slice ad2 n2 cap2).ownBlock = some k → w1.heap.size ≤ k ∧ k < w2.heap.size) := fun k e => row_lo HO2.out e
  have L3 : Hid (∀ k, (Value.slice ad3 n3 cap3).ownBlock = some k → w2.heap.size ≤ k ∧ k < w3.heap.size) := fun k e => row_lo HO3.out e
  have HK3 : Hid _ := keepV_any (fun k => k < w.heap.size) wb pv hv gs hs (.slice ad1 n1 cap1) n1 xs1 w3 HS3.out (by omega) (ownsRow_base HP3.out (Nat.zero_le _)) (by omega) (fun k e => by have := L1.out k e; omega)
  clear hown3 hb3 x0 x1 x2 x3
  go_upto_region 5 with (first
    | (go_at_call 45; refine Calls.mono HK3.out ?_; rintro e w4 ⟨rfl, hv4, h4, hS4, hF4, hN4⟩))
  have HS4 : Hid (LawS (fun k => (k < w.heap.size) ∨ (Value.slice ad1 n1 cap1).ownBlock = some k ∨ w3.heap.size ≤ k) w4 wb pv hv4 gs (hs ++ [h4])) := hS4
  have HF4 : Hid (Fr (fun k => k = wb ∨ hv.ownBlock = some k ∨ (Value.slice ad1 n1 cap1).ownBlock = some k) w3 w4) := hF4
  have HN4 : Hid (∀ k, hv4.ownBlock = some k → hv.ownBlock = some k ∨ w3.heap.size ≤ k) := hN4
  have HQ4 : Hid (w4.ownsRow w1.heap.size 88 3 (.slice ad2 n2 cap2) n2 xs2) := keep_other (hv0 := hv4) HS3.out hF4 HQ3.out (by decide) (by decide) (fun k e e' => by have := L1.out k e'; have := L2.out k e; omega)
  have HR4 : Hid (w4.ownsRow w2.heap.size 88 3 (.slice ad3 n3 cap3) n3 xs3) := keep_other (hv0 := hv4) HS3.out hF4 HO3.out (by decide) (by decide) (fun k e e' => by have := L1.out k e'; have := L3.out k e; omega)
  have z4 := hF4.size
  have HK4 : Hid _ := keepV_any _ wb pv hv4 gs (hs ++ [h4]) (.slice ad2 n2 cap2) n2 xs2 w4 HS4.out (by simp; omega) (ownsRow_base HQ4.out (Nat.zero_le _)) (by omega) (fun k e => by
    have := L2.out k e
    rintro (e' | e' | e')
    · omega
    · have := L1.out k e'; omega
    · omega)
  clear hS4 hF4 hN4
  go_upto_region 6 with (first
    | (go_at_call 45; refine Calls.mono HK4.out ?_; rintro e w5 ⟨rfl, hv5, h5, hS5, hF5, hN5⟩))
  have HS5 : Hid (LawS (fun k => ((k < w.heap.size) ∨ (Value.slice ad1 n1 cap1).ownBlock = some k ∨ w3.heap.size ≤ k) ∨ (Value.slice ad2 n2 cap2).ownBlock = some k ∨ w4.heap.size ≤ k) w5 wb pv hv5 gs (hs ++ [h4] ++ [h5])) := hS5
  have HF5 : Hid (Fr (fun k => k = wb ∨ hv4.ownBlock = some k ∨ (Value.slice ad2 n2 cap2).ownBlock = some k) w4 w5) := hF5
  have HN5 : Hid (∀ k, hv5.ownBlock = some k → hv4.ownBlock = some k ∨ w4.heap.size ≤ k) := hN5
  have HR5 : Hid (w5.ownsRow w2.heap.size 88 3 (.slice ad3 n3 cap3) n3 xs3) := keep_other (hv0 := hv5) HS4.out hF5 HR4.out (by decide) (by decide) (fun k e e' => by have := L2.out k e'; have := L3.out k e; omega)
  have z5 := hF5.size
  have HK5 : Hid _ := keepV_any _ wb pv hv5 gs (hs ++ [h4] ++ [h5]) (.slice ad3 n3 cap3) n3 xs3 w5 HS5.out (by simp; omega) (ownsRow_base HR5.out (Nat.zero_le _)) (by omega) (fun k e => by
    have := L3.out k e
    rintro ((e' | e' | e') | e' | e')
    · omega
    · have := L1.out k e'; omega
    · omega
    · have := L2.out k e'; omega
    · omega)
  clear hS5 hF5 hN5
  go_wp2_with (first
    | (go_at_call 45; refine Calls.mono HK5.out ?_; rintro e w6 ⟨rfl, hv6, h6, hS6, hF6, hN6⟩; have HS6 : Hid _ := hS6.law; have HF6 : Hid (Fr (fun k => k = wb ∨ hv5.ownBlock = some k ∨ (Value.slice ad3 n3 cap3).ownBlock = some k) w5 w6) := hF6; have HN6 : Hid (∀ k, hv6.ownBlock = some k → hv5.ownBlock = some k ∨ w5.heap.size ≤ k) := hN6; clear hS6 hF6 hN6))
  go_ret
  refine ⟨rfl, hv6, hs ++ [h4] ++ [h5] ++ [h6], HS6.out, by simp, ?_, fun k e => ?_⟩
  · have z6 := HF6.out.size
    refine ⟨?_, ?_, ?_, by omega, fun k hk hn => ?_⟩
    · rw [HF6.out.os, HF5.out.os, HF4.out.os, HB3.out.os]
    · rw [HF6.out.tape, HF5.out.tape, HF4.out.tape, HB3.out.tape]
    · rw [HF6.out.output, HF5.out.output, HF4.out.output, HB3.out.output]
    · have hA : ∀ v, hv.ownBlock = some k ∨ w3.heap.size ≤ k → v = k → False := fun v hx _ => by
        rcases hx with hx | hx
        · exact hn (Or.inr hx)
        · omega
      have n4 : ¬ hv4.ownBlock = some k := fun e => hA k (HN4.out k e) rfl
      have n5 : ¬ hv5.ownBlock = some k := fun e => by
        rcases HN5.out k e with e' | e'
        · exact n4 e'
        · omega
      rw [HF6.out.block k (by omega) (by rintro (e | e | e); exact hn (Or.inl e); exact n5 e; have := L3.out k e; omega), HF5.out.block k (by omega) (by rintro (e | e | e); exact hn (Or.inl e); exact n4 e; have := L2.out k e; omega), HF4.out.block k (by omega) (by rintro (e | e | e); exact hn (Or.inl e); exact hn (Or.inr e); have := L1.out k e; omega)]
      exact HB3.out.block k hk
  · rcases HN6.out k e with e | e
    · rcases HN5.out k e with e | e
      · rcases HN4.out k e with e | e
        · exact Or.inl e
        · right; omega
      · right; omega
    · right; omega
end Go.Proofs.YtldmcdeibiclkaaGreat
