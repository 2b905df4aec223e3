/-
  How a list is written full with a mark, lengthened, and held: what is said of memory meanwhile.
  Contract: keepVersions: a list of versions is written full with a mark of its own, lengthened eight times, and held.
-/
import Derived.Test.YtldmcdeibiclkaaGreatQ19
import Derived.Test.YtldmcdeibiclkaaGreatQ13
set_option linter.unusedVariables false
set_option linter.unusedSimpArgs false

namespace Go.Proofs.YtldmcdeibiclkaaGreat
open Go.RowKit

/-- A row whose first k elements read as the pattern. -/
def RowM (w : World) (t : TypeId) (pat : List Value) (v : Value) (n k : Nat) : Prop :=
  ∃ ys, w.ownsRow 0 t pat.length v n ys ∧ ∀ i j, i < k → j < pat.length → ys[i * pat.length + j]? = pat[j]?

theorem idx_lt {i j n p : Nat} (hi : i < n) (hj : j < p) : i * p + j < n * p := by
  have : (i + 1) * p ≤ n * p := Nat.mul_le_mul_right _ hi
  rw [Nat.add_mul, Nat.one_mul] at this
  omega

theorem RowM.mk {w : World} {t : TypeId} {pat : List Value} {v : Value} {n : Nat} {S : Nat → Prop} (h : RowM w t pat v n n) (hn : n ≤ 2000000000000) (hS : ∀ b, v.ownBlock = some b → S b) : MkSl w t pat S v := by
  obtain ⟨ys, ⟨hl, h⟩, hy⟩ := h
  rcases h with ⟨rfl, rfl⟩ | ⟨g, cap, cur, rfl, _, hh, _, _, _, ht⟩
  · exact ⟨none, 0, 0, rfl, by omega, Or.inl rfl⟩
  · refine ⟨some ⟨g, 0, none⟩, n, cap, rfl, hn, Or.inr ⟨g, cur, rfl, hS g rfl, hh, fun i j hi hj => ?_⟩⟩
    rw [← hy i j hi hj, ← ht, List.getElem?_take, if_pos (idx_lt hi hj)]
    simp

theorem RowM.form {w : World} {t : TypeId} {pat : List Value} {v : Value} {n k : Nat} (h : RowM w t pat v n k) : ∃ ad cap, v = .slice ad n cap ∧ n ≤ cap ∧ cap ≤ maxLen := by
  obtain ⟨ys, ⟨hl, h⟩, hy⟩ := h
  rcases h with ⟨rfl, rfl⟩ | ⟨g, cap, cur, rfl, _, hh, h1, h2, _, ht⟩
  · exact ⟨none, 0, rfl, Nat.le_refl _, Nat.zero_le _⟩
  · exact ⟨_, cap, rfl, h1, h2⟩

theorem RowM.frame {X : Nat → Prop} {w w1 : World} {t : TypeId} {pat : List Value} {v : Value} {n k : Nat} (h : RowM w t pat v n k) (hF : Fr X w w1) (hX : ∀ g cur, w.heap[g]? = some (.cells cur t) → ¬ X g) : RowM w1 t pat v n k := by
  obtain ⟨ys, h, hy⟩ := h
  exact ⟨ys, hF.rowT h hX, hy⟩

theorem RowM.of_row {w : World} {t : TypeId} {pat : List Value} {v : Value} {n : Nat} {xs : List Value} (h : w.ownsRow 0 t pat.length v n xs) : RowM w t pat v n 0 := ⟨xs, h, fun i j hi => absurd hi (by omega)⟩

/-- One element of three cells is written. -/
theorem RowM.store3 {w : World} {t : TypeId} {a b c : Value} {g n cap k : Nat} (h : RowM w t [a, b, c] (.slice (some ⟨g, 0, none⟩) n cap) n k) (hk : k < n) :
    RowM (((w.setCell ⟨g, k * 3, none⟩ a).setCell ⟨g, k * 3 + 1, none⟩ b).setCell ⟨g, k * 3 + 2, none⟩ c) t [a, b, c] (.slice (some ⟨g, 0, none⟩) n cap) n (k + 1) := by
  obtain ⟨ys, ⟨hl, h⟩, hy⟩ := h
  rcases h with ⟨h, _⟩ | ⟨g', cap', cur, hv, hb, hh, h1, h2, hs, ht⟩
  · cases h
  · cases hv
    have hh' := heap_set3 (x := a) (y := b) (z := c) (o := k * 3) hh
    have hle : n * 3 ≤ cur.size := by rw [hs]; exact Nat.mul_le_mul_right _ h1
    have hN : (((cur.setIfInBounds (k * 3) a).setIfInBounds (k * 3 + 1) b).setIfInBounds (k * 3 + 2) c).size = cap * 3 := by simpa using hs
    refine ⟨((((cur.setIfInBounds (k * 3) a).setIfInBounds (k * 3 + 1) b).setIfInBounds (k * 3 + 2) c).toList).take (n * 3), ⟨?_, Or.inr ⟨g, cap, _, rfl, hb, hh', h1, h2, hN, rfl⟩⟩, fun i j hi hj => ?_⟩
    · rw [List.length_take, Array.length_toList, hN]
      have : n * 3 ≤ cap * 3 := Nat.mul_le_mul_right _ h1
      simp only [List.length_cons, List.length_nil]
      omega
    · have hj3 : j < 3 := by simpa using hj
      have hlt : i * 3 + j < n * 3 := idx_lt (by omega) hj3
      rw [List.getElem?_take, if_pos (by simpa using hlt)]
      simp only [List.length_cons, List.length_nil, Array.getElem?_toList, Array.getElem?_setIfInBounds]
      by_cases e : i = k
      · subst e
        rcases (show j = 0 ∨ j = 1 ∨ j = 2 by omega) with rfl | rfl | rfl
        · rw [if_neg (by omega), if_neg (by omega), if_pos (by omega)]; simp; omega
        · rw [if_neg (by omega), if_pos (by omega)]; simp; omega
        · rw [if_pos (by omega)]; simp; omega
      · have := hy i j (by omega) hj
        rw [← ht, List.getElem?_take, if_pos (by simpa using hlt)] at this
        simp only [List.length_cons, List.length_nil, Array.getElem?_toList] at this
        rw [if_neg (by omega), if_neg (by omega), if_neg (by omega)]
        exact this

/-- One element of one cell is written. -/
theorem RowM.store1 {w : World} {t : TypeId} {a : Value} {g n cap k : Nat} (h : RowM w t [a] (.slice (some ⟨g, 0, none⟩) n cap) n k) (hk : k < n) :
    RowM (w.setCell ⟨g, k, none⟩ a) t [a] (.slice (some ⟨g, 0, none⟩) n cap) n (k + 1) := by
  obtain ⟨ys, ⟨hl, h⟩, hy⟩ := h
  rcases h with ⟨h, _⟩ | ⟨g', cap', cur, hv, hb, hh, h1, h2, hs, ht⟩
  · cases h
  · cases hv
    have hh' := heap_set (v := a) (o := k) hh
    have hle : n ≤ cur.size := by rw [hs]; simpa using h1
    have hN : (cur.setIfInBounds k a).size = cap * 1 := by simpa using hs
    refine ⟨((cur.setIfInBounds k a).toList).take (n * 1), ⟨?_, Or.inr ⟨g, cap, _, rfl, hb, hh', h1, h2, hN, rfl⟩⟩, fun i j hi hj => ?_⟩
    · rw [List.length_take, Array.length_toList, hN]
      simp only [List.length_cons, List.length_nil]
      omega
    · have hj3 : j = 0 := by simpa using hj
      subst hj3
      rw [List.getElem?_take, if_pos (by simp; omega)]
      simp only [List.length_cons, List.length_nil, Array.getElem?_toList, Array.getElem?_setIfInBounds]
      by_cases e : i = k
      · subst e
        rw [if_pos (by omega)]; simp; omega
      · have := hy i 0 (by omega) hj
        rw [← ht, List.getElem?_take, if_pos (by simp; omega)] at this
        simp only [List.length_cons, List.length_nil, Array.getElem?_toList] at this
        rw [if_neg (by omega)]
        exact this

/-- What is said while a list is held: from w1 on only blocks of X have turned; the list u of n + k elements is full of the pattern; the hold has c lists, each of them full. -/
structure KV (tv tl : TypeId) (pat : List Value) (S : Nat → Prop) (hb : Value → Array Value) (h n : Nat) (X : Nat → Prop) (w1 wr : World) (u : Value) (k c : Nat) : Prop where
  fr : Fr X w1 wr
  row : RowM wr tv pat u (n + k) (n + k)
  rowS : ∀ b, u.ownBlock = some b → S b
  rowX : ∀ b, u.ownBlock = some b → b < w1.heap.size → X b
  hold : ∃ vs vl, wr.heap[h]? = some (.cells (hb vs) 110) ∧ wr.ownsRow w1.heap.size tl 1 vs c vl ∧ ∀ v ∈ vl, ∃ ad l cp, v = .slice ad l cp ∧ l ≤ n + k ∧ MkSl wr tv pat S v

/-- The list is lengthened by one. -/
theorem KV.push1 {tv tl : TypeId} {pat : List Value} {S : Nat → Prop} {hb : Value → Array Value} {h n : Nat} {X : Nat → Prop} {w1 wr : World} {u : Value} {k c : Nat} (H : KV tv tl pat S hb h n X w1 wr u k c) (t1 : tv ≠ 110) (t2 : tv ≠ tl) (hS : ∀ b, w1.heap.size ≤ b → S b)
    {o : Obj} {w2 : World} {g cap : Nat} {ys : List Value} (hys : wr.ownsRow 0 tv pat.length u (n + k) ys) (hyp : ∀ i j, i < n + k → j < pat.length → ys[i * pat.length + j]? = pat[j]?)
    (hown : w2.ownsRow 0 tv pat.length (.slice (some ⟨g, 0, none⟩) (n + k + 1) cap) (n + k + 1) (ys ++ pat)) (hgrow : (wr.alloc o).grownBy w2 u.ownBlock) (h4 : u.ownBlock = some g ∨ g = (wr.alloc o).heap.size ∧ (wr.alloc o).grownBy w2 none) :
    KV tv tl pat S hb h n X w1 w2 (.slice (some ⟨g, 0, none⟩) (n + k + 1) cap) (k + 1) c := by
  have hw1 := H.fr.size
  have hF : Fr (fun b => u.ownBlock = some b) wr w2 := ((Fr.refl (fun b => u.ownBlock = some b) wr).alloc o).grown hgrow fun b e _ => e
  have hX : ∀ g' t cur, wr.heap[g']? = some (.cells cur t) → tv ≠ t → ¬ u.ownBlock = some g' := fun g' t cur hg ht e => by
    obtain ⟨cur', hc⟩ := own_typed hys e
    exact ht (typed_ne hc hg)
  refine ⟨(H.fr.alloc o).grown hgrow fun b e hb => H.rowX b e hb, ⟨ys ++ pat, hown, fun i j hi hj => ?_⟩, fun b e => ?_, fun b e hb => ?_, ?_⟩
  · by_cases e : i < n + k
    · rw [List.getElem?_append_left (by rw [hys.1]; exact idx_lt e hj)]
      exact hyp i j e hj
    · have : i = n + k := by omega
      subst this
      rw [List.getElem?_append_right (by rw [hys.1]; omega), hys.1]
      congr 1
      omega
  · have eb : g = b := by simpa [Value.ownBlock] using e
    subst eb
    rcases h4 with h4 | ⟨h4, _⟩
    · exact H.rowS _ h4
    · refine hS _ ?_
      rw [h4]; simp; omega
  · have eb : g = b := by simpa [Value.ownBlock] using e
    subst eb
    rcases h4 with h4 | ⟨h4, _⟩
    · exact H.rowX _ h4 hb
    · rw [h4] at hb
      simp at hb
      omega
  · obtain ⟨vs, vl, e1, e2, e3⟩ := H.hold
    refine ⟨vs, vl, hF.heap e1 (hX _ _ _ e1 t1), hF.rowT e2 fun g' cur hg => hX g' _ cur hg t2, fun v hv => ?_⟩
    obtain ⟨ad, l, cp, ev, hl, hm⟩ := e3 v hv
    refine ⟨ad, l, cp, ev, by omega, ?_⟩
    obtain ⟨ad', l', cp', ev', hl', hm⟩ := hm
    rw [ev] at ev'
    cases ev'
    refine ⟨ad, l, cp, ev, hl', ?_⟩
    rcases hm with hm | ⟨g0, cur, f1, f2, f3, f4⟩
    · exact Or.inl hm
    · refine Or.inr ?_
      by_cases eu : u.ownBlock = some g0
      · obtain ⟨ad0, o0, l0, c0, hu⟩ : ∃ ad0 o0 l0 c0, u = .slice (some ⟨ad0, o0, none⟩) l0 c0 := by
          rcases hys.2 with ⟨h1, _⟩ | ⟨g, cap, c, hv, _⟩
          · rw [h1] at eu; cases eu
          · exact ⟨_, _, _, _, hv⟩
        have e0 : ad0 = g0 := by rw [hu] at eu; simpa [Value.ownBlock] using eu
        subst e0
        obtain ⟨⟨cur', hc'⟩, hce⟩ := keep_cells (hys.alloc o) hown h4 ad0 o0 l0 c0 hu
        refine ⟨ad0, cur', f1, f2, hc', fun i j hi hj => ?_⟩
        have hlt : i * pat.length + j < (n + k) * pat.length := idx_lt (by omega) hj
        have e5 := hce _ hlt
        rw [World.cell?_alloc_lt _ _ _ (show ad0 < wr.heap.size from (Array.getElem?_eq_some_iff.1 f3).1)] at e5
        simp only [World.cell?, hc', f3] at e5
        have e6 : cur'[i * pat.length + j]? = cur[i * pat.length + j]? := by simpa using e5
        rw [e6]
        exact f4 i j hi hj
      · exact ⟨g0, cur, f1, f2, hF.heap f3 eu, f4⟩

/-- The list, as it is now, is held too. -/
theorem KV.push2 {tv tl : TypeId} {pat : List Value} {S : Nat → Prop} {hb : Value → Array Value} {h n : Nat} {X : Nat → Prop} {w1 wr : World} {u : Value} {k c : Nat} (H : KV tv tl pat S hb h n X w1 wr u k c) (t1 : tv ≠ 110) (t2 : tv ≠ tl) (t3 : tl ≠ 110) (hXh : X h) (hn : n + k ≤ 2000000000000) (f : Nat) (hf : ∀ a b, (hb a).setIfInBounds f b = hb b)
    {o : Obj} {w3 : World} {g cap : Nat} {vs : Value} {vl : List Value} (e1 : wr.heap[h]? = some (.cells (hb vs) 110)) (e2 : wr.ownsRow w1.heap.size tl 1 vs c vl) (e3 : ∀ v ∈ vl, ∃ ad l cp, v = .slice ad l cp ∧ l ≤ n + k ∧ MkSl wr tv pat S v)
    (hown : w3.ownsRow w1.heap.size tl 1 (.slice (some ⟨g, 0, none⟩) (c + 1) cap) (c + 1) (vl ++ [u])) (hgrow : (wr.alloc o).grownBy w3 vs.ownBlock) :
    KV tv tl pat S hb h n X w1 (w3.setCell ⟨h, f, none⟩ (.slice (some ⟨g, 0, none⟩) (c + 1) cap)) u k (c + 1) := by
  have hw1 := H.fr.size
  have hFa : Fr (fun b => vs.ownBlock = some b ∨ b = h) wr w3 := ((Fr.refl (fun b => vs.ownBlock = some b ∨ b = h) wr).alloc o).grown hgrow fun b e _ => Or.inl e
  have hF : Fr (fun b => vs.ownBlock = some b ∨ b = h) wr (w3.setCell ⟨h, f, none⟩ (.slice (some ⟨g, 0, none⟩) (c + 1) cap)) := Fr.setCell (X := fun b => vs.ownBlock = some b ∨ b = h) hFa (Or.inr (Or.inr rfl)) _
  have hX : ∀ g' cur, wr.heap[g']? = some (.cells cur tv) → ¬ (vs.ownBlock = some g' ∨ g' = h) := by
    rintro g' cur hg (e | e)
    · obtain ⟨cur', hc⟩ := own_typed e2 e
      exact t2 (typed_ne hg hc)
    · rw [e] at hg; exact t1 (typed_ne hg e1)
  have hh3 : w3.heap[h]? = some (.cells (hb vs) 110) := by
    have hlt : h < wr.heap.size := (Array.getElem?_eq_some_iff.1 e1).1
    rw [hgrow.block h (by simp; omega) (row_apart e2 e1 t3), Below.heap_alloc _ _ _ hlt]; exact e1
  refine ⟨?_, H.row.frame hF hX, H.rowS, H.rowX, ?_⟩
  · refine Fr.setCell (X := X) ((H.fr.alloc o).grown hgrow fun b e hlt => ?_) (Or.inr hXh) _
    have := (e2.lt b e).1
    omega
  · refine ⟨.slice (some ⟨g, 0, none⟩) (c + 1) cap, vl ++ [u], ?_, ?_, fun v hv => ?_⟩
    · rw [heap_set hh3, hf]
    · refine (Fr.setCell (X := fun k => k = h) (Fr.refl _ _) (Or.inr rfl) _).rowT hown fun g' cur hg e => ?_
      have e' : g' = h := e
      rw [e'] at hg
      exact t3 (typed_ne hg hh3)
    · rcases List.mem_append.1 hv with hv | hv
      · obtain ⟨ad, l, cp, ev, hl, hm⟩ := e3 v hv
        exact ⟨ad, l, cp, ev, hl, hm.frame hF fun g' cur _ hg => hX g' cur hg⟩
      · rw [List.mem_singleton] at hv
        subst hv
        obtain ⟨ad, cp, ev, _⟩ := H.row.form
        exact ⟨ad, n + k, cp, ev, Nat.le_refl _, (H.row.frame hF hX).mk hn H.rowS⟩

/-- At the start: the list is full, and nothing is held. -/
theorem KV.start {tv tl : TypeId} {pat : List Value} {S : Nat → Prop} {hb : Value → Array Value} {h n : Nat} {X : Nat → Prop} {w1 wr : World} {u : Value} (hF : Fr X w1 wr) (hrow : RowM wr tv pat u n n) (hS : ∀ b, u.ownBlock = some b → S b) (hX : ∀ b, u.ownBlock = some b → X b) (hh : wr.heap[h]? = some (.cells (hb (.slice none 0 0)) 110)) : KV tv tl pat S hb h n X w1 wr u 0 0 :=
  ⟨hF, hrow, hS, fun b e _ => hX b e, ⟨.slice none 0 0, [], hh, World.ownsRow_nil _ _ _ _, fun v hv => by simp at hv⟩⟩
end Go.Proofs.YtldmcdeibiclkaaGreat

namespace Go.Proofs.YtldmcdeibiclkaaGreat
open Go.RowKit

theorem Tryz.infoSlV : (Tryz.prog.info? 67).map (fun i => (i.zero, i.size, i.bytes)) = some (some (.slice none 0 0), 1, 24) := by kernel_rfl

def holdV (m : ByteArray) (vs : Value) : Array Value := #[vs, .slice none 0 0, .string m]

theorem cells_hold {w : World} {h : Nat} {m : ByteArray} {vs : Value} (e : w.heap[h]? = some (.cells (holdV m vs) 110)) : w.cell? ⟨h, 0, none⟩ = some vs ∧ w.frozen? ⟨h, 0, none⟩ = false ∧ w.cell? ⟨h, 2, none⟩ = some (.string m) := by
  obtain ⟨c, f⟩ := cells_of0 e
  exact ⟨by rw [c]; rfl, f 0, by rw [c]; rfl⟩

set_option maxRecDepth 100000 in
set_option maxHeartbeats 4000000 in
theorem keepV_walk (wb : Nat) (pv lv0 hv : Value) (hs : List Nat) (lv : Value) (n : Nat) (xs : List Value) (S : Nat → Prop) (w : World)
    (hblk : w.heap[wb]? = some (.cells #[pv, lv0, hv] 30)) (hrow : w.ownsRow 0 61 1 hv hs.length (hs.map ptrV)) (hlen : hs.length ≤ 9000000000000)
    (hl : w.ownsRow 0 88 3 lv n xs) (hn : n ≤ 1000000) (hSl : ∀ b, lv.ownBlock = some b → S b) (hSn : ∀ b, w.heap.size ≤ b → S b) :
    Calls Tryz.prog 45 #[.pointer (some ⟨wb, 0, none⟩), lv] w fun e w' => e = .returned (.tuple #[]) ∧ ∃ (h : Nat) (m : ByteArray) (hv' : Value) (w1 : World) (u : Value),
      m.size ≤ 4 ∧ w.heap.size ≤ h ∧ w1.heap[h]? = some (.cells (holdV m (.slice none 0 0)) 110) ∧ w1.heap[wb]? = some (.cells #[pv, lv0, hv'] 30) ∧ w1.ownsRow 0 61 1 hv' (hs ++ [h]).length ((hs ++ [h]).map ptrV) ∧ Fr (fun k => k = wb ∨ hv.ownBlock = some k) w w1 ∧ (∀ k, hv'.ownBlock = some k → hv.ownBlock = some k ∨ w.heap.size ≤ k) ∧
      KV 88 67 (patV m) S (holdV m) h n (fun b => lv.ownBlock = some b ∨ b = h) w1 w' u 8 9 := by
  obtain ⟨ad, cap, rfl, hcap, hlc⟩ := row_lenA hl
  obtain ⟨i0, hi0, hz0, hz1, hz2⟩ := info_parts Tryz.infoApi
  obtain ⟨j0, hj0, jz0, jz1, jz2⟩ := info_parts Tryz.infoSlV
  have HN : Hid (Calls Tryz.prog 67 #[.pointer (some ⟨wb, 0, none⟩)] w fun e w' => ∃ (h : Nat) (m : ByteArray) (hv' : Value), e = .returned (.pointer (some ⟨h, 0, none⟩)) ∧ m.size ≤ 4 ∧ w.heap.size ≤ h ∧ w'.heap[h]? = some (.cells (holdV m (.slice none 0 0)) 110) ∧ w'.heap[wb]? = some (.cells #[pv, lv0, hv'] 30) ∧
      w'.ownsRow 0 61 1 hv' (hs ++ [h]).length ((hs ++ [h]).map ptrV) ∧ Fr (fun k => k = wb ∨ hv.ownBlock = some k) w w' ∧ ∀ k, hv'.ownBlock = some k → hv.ownBlock = some k ∨ w.heap.size ≤ k) := next_any wb pv lv0 hv hs w hblk hrow hlen
  have HL : Hid (w.ownsRow 0 88 3 (.slice ad n cap) n xs) := hl
  have HSl : Hid (∀ b, (Value.slice ad n cap).ownBlock = some b → S b) := hSl
  have HSn : Hid (∀ b, w.heap.size ≤ b → S b) := hSn
  have HNA : Hid (∀ k, (Value.slice ad n cap).ownBlock = some k → ¬ (k = wb ∨ hv.ownBlock = some k)) := fun k e => by
    obtain ⟨cur, hc⟩ := own_typed hl e
    rintro (e' | e')
    · rw [e', hblk] at hc; exact absurd hc (by simp)
    · obtain ⟨cur', hc'⟩ := own_typed hrow e'
      exact absurd (typed_ne hc hc') (by decide)
  clear hblk hrow hl hSl hSn
  go_enter Tryz.func45, Tryz.ntmps45
  go_wp2_with (first
    | (go_at_call 67; refine Calls.mono HN.out ?_; rintro e w1 ⟨h, m, hv', rfl, hm, hh, hb1, hw1, hr1, hF1, hN1⟩))
  have HB1 : Hid (w1.heap[h]? = some (.cells (holdV m (.slice none 0 0)) 110)) := hb1
  have HW1 : Hid (w1.heap[wb]? = some (.cells #[pv, lv0, hv'] 30)) := hw1
  have HR1 : Hid (w1.ownsRow 0 61 1 hv' (hs ++ [h]).length ((hs ++ [h]).map ptrV)) := hr1
  have HF1 : Hid (Fr (fun k => k = wb ∨ hv.ownBlock = some k) w w1) := hF1
  have HM : Hid (m.size ≤ 4) := hm
  have HL1 : Hid (w1.ownsRow 0 88 3 (.slice ad n cap) n xs) := hF1.row HL.out fun g o l c e => HNA.out g (by rw [e]; rfl)
  have HSn1 : Hid (∀ b, w1.heap.size ≤ b → S b) := fun b hb => HSn.out b (Nat.le_trans hF1.size hb)
  have HFin : Hid (∀ w' u, KV 88 67 (patV m) S (holdV m) h n (fun b => (Value.slice ad n cap).ownBlock = some b ∨ b = h) w1 w' u 8 9 → ∃ (h : Nat) (m : ByteArray) (hv' : Value) (w1 : World) (u : Value), m.size ≤ 4 ∧ w.heap.size ≤ h ∧ w1.heap[h]? = some (.cells (holdV m (.slice none 0 0)) 110) ∧ w1.heap[wb]? = some (.cells #[pv, lv0, hv'] 30) ∧ w1.ownsRow 0 61 1 hv' (hs ++ [h]).length ((hs ++ [h]).map ptrV) ∧ Fr (fun k => k = wb ∨ hv.ownBlock = some k) w w1 ∧ (∀ k, hv'.ownBlock = some k → hv.ownBlock = some k ∨ w.heap.size ≤ k) ∧
      KV 88 67 (patV m) S (holdV m) h n (fun b => (Value.slice ad n cap).ownBlock = some b ∨ b = h) w1 w' u 8 9) := fun w' u hk => ⟨h, m, hv', w1, u, hm, hh, hb1, hw1, hr1, hF1, hN1, hk⟩
  clear hb1 hw1 hr1 hF1 hm hN1
  go_loopw [5] (fun i wr => ∃ k : Nat, k ≤ n ∧ i = .int .i64 k ∧ Hid (RowM wr 88 (patV m) (.slice ad n cap) n k) ∧ Hid (Fr (fun b => (Value.slice ad n cap).ownBlock = some b ∨ b = h) w1 wr) ∧ Hid (wr.heap[h]? = some (.cells (holdV m (.slice none 0 0)) 110))) (fun i _ => n - (intOf i).toNat)
  case atStart => exact ⟨0, by omega, rfl, RowM.of_row HL1.out, Fr.refl _ _, HB1.out⟩
  case round =>
    obtain ⟨k, hk, rfl, hrm, hfr, hhb⟩ := hrel
    have HRm : Hid (RowM wr 88 (patV m) (.slice ad n cap) n k) := hrm.out
    have HFr : Hid (Fr (fun b => (Value.slice ad n cap).ownBlock = some b ∨ b = h) w1 wr) := hfr.out
    have HHb : Hid (wr.heap[h]? = some (.cells (holdV m (.slice none 0 0)) 110)) := hhb.out
    clear hrm hfr hhb
    obtain ⟨x0, x1, x2⟩ := cells_hold HHb.out
    have k0 : (0 : Int) ≤ (k : Int) := by omega
    by_cases hlt : k < n
    · have k63 : (k : Int) < (n : Int) := by omega
      obtain ⟨ys, hys', _⟩ := HRm.out
      have hys : wr.ownsRow 0 88 3 (.slice ad n cap) n ys := hys'
      clear hys'
      obtain ⟨g, cap', hsv', _, _, hg, hcells⟩ := row_cellA hys (by omega)
      cases hsv'
      have hty : ∃ cur, wr.heap[g]? = some (.cells cur 88) := own_typed hys rfl
      obtain ⟨cur, hcur⟩ := hty
      have hfz := (cells_of0 hcur).2
      have hyl : ys.length = n * 3 := hys.1
      have hgh : g ≠ h := fun e => by rw [e, HHb.out] at hcur; exact absurd hcur (by simp)
      have c0 : wr.cell? ⟨g, k * 3, none⟩ = some ys[k * 3] := hcells _ _ (by omega) (by simp [show k * 3 < ys.length by omega])
      have c1 : wr.cell? ⟨g, k * 3 + 1, none⟩ = some ys[k * 3 + 1] := hcells _ _ (by omega) (by simp [show k * 3 + 1 < ys.length by omega])
      have c2 : wr.cell? ⟨g, k * 3 + 2, none⟩ = some ys[k * 3 + 2] := hcells _ _ (by omega) (by simp [show k * 3 + 2 < ys.length by omega])
      generalize ys[k * 3] = y0 at *
      generalize ys[k * 3 + 1] = y1 at *
      generalize ys[k * 3 + 2] = y2 at *
      have f0 := hfz (k * 3)
      have f1 := hfz (k * 3 + 1)
      have f2 := hfz (k * 3 + 2)
      clear hcells hys hcur hfz hyl
      go_wp2
      refine ⟨⟨k + 1, by omega, by go_num, HRm.out.store3 hlt, ?_, ?_⟩, by simp [intOf]; omega⟩
      · exact Fr.setCell (X := fun b => (Value.slice (some ⟨g, 0, none⟩) n cap).ownBlock = some b ∨ b = h) (Fr.setCell (X := fun b => (Value.slice (some ⟨g, 0, none⟩) n cap).ownBlock = some b ∨ b = h) (Fr.setCell (X := fun b => (Value.slice (some ⟨g, 0, none⟩) n cap).ownBlock = some b ∨ b = h) HFr.out (Or.inr (Or.inl rfl)) _) (Or.inr (Or.inl rfl)) _) (Or.inr (Or.inl rfl)) _
      · show _ = _
        rw [Below.heap_setCell _ _ _ _ (Ne.symm hgh), Below.heap_setCell _ _ _ _ (Ne.symm hgh), Below.heap_setCell _ _ _ _ (Ne.symm hgh)]
        exact HHb.out
    · obtain rfl : k = n := by omega
      have HK0 : Hid (KV 88 67 (patV m) S (holdV m) h k (fun b => (Value.slice ad k cap).ownBlock = some b ∨ b = h) w1 wr (.slice ad k cap) 0 0) := KV.start HFr.out HRm.out HSl.out (fun b e => Or.inl e) HHb.out
      have hsz := HFr.out.size
      have hhlt : h < wr.heap.size := (Array.getElem?_eq_some_iff.1 HHb.out).1
      go_wp2_with (first
        | (at_builtin; refine wpList_append_keep _ rfl _ _ _ rfl w1.heap.size 67 j0 _ 1 24 Tryz.underlying107 hj0 jz0 jz1 jz2 rfl (by omega) (.slice none 0 0) 0 [] rfl (World.ownsRow_nil _ _ _ _) ⟨wr.heap.size, 0, none⟩ 1 1 [.slice ad k cap] rfl rfl (World.news_of_block (cs := #[.slice ad k cap]) (t := 67) (fr := (0, 0)) (heap_alloc_new wr _)) (by simp [Value.oneCell']) (by omega) (by unfold maxLen; omega) (by omega) (by simp; omega) ?_; intro g3 cap3 w3 hown3 hgrow3 hk3; have HO3 : Hid (w3.ownsRow w1.heap.size 67 1 (.slice (some ⟨g3, 0, none⟩) (0 + 1) cap3) (0 + 1) ([] ++ [.slice ad k cap])) := hown3; have HG3 : Hid ((wr.alloc (.cells #[.slice ad k cap] 67)).grownBy w3 (Value.slice none 0 0).ownBlock) := hgrow3; have hb3 : w3.heap[h]? = some (.cells (holdV m (.slice none 0 0)) 110) := (HG3.out.block h (by simp; omega) (by simp [Value.ownBlock])).trans ((Below.heap_alloc _ _ _ hhlt).trans HHb.out); obtain ⟨z0, z1, z2⟩ := cells_hold hb3; clear hown3 hgrow3 hk3 hb3))
      have HK1 : Hid (KV 88 67 (patV m) S (holdV m) h k (fun b => (Value.slice ad k cap).ownBlock = some b ∨ b = h) w1 (w3.setCell ⟨h, 0, none⟩ (.slice (some ⟨g3, 0, none⟩) (0 + 1) cap3)) (.slice ad k cap) 0 (0 + 1)) := HK0.out.push2 (by decide) (by decide) (by decide) (Or.inr rfl) (by omega) 0 (fun a b => rfl) HHb.out (World.ownsRow_nil _ _ _ _) (fun v hv => by simp at hv) HO3.out HG3.out
      clear z0 z1 z2 x0 x1 x2 k0 hhlt
      go_loopw [1, 6] (fun u i wr => ∃ r : Nat, r ≤ 8 ∧ i = .int .i64 r ∧ Hid (KV 88 67 (patV m) S (holdV m) h k (fun b => (Value.slice ad k cap).ownBlock = some b ∨ b = h) w1 wr u r (r + 1))) (fun _ i _ => 8 - (intOf i).toNat)
      case atStart => exact ⟨0, by omega, rfl, HK1.out⟩
      case round =>
        obtain ⟨r, hr, rfl, hkv⟩ := hrel
        obtain ⟨ad1, cap1, rfl, hlc1, hcm1⟩ := hkv.out.row.form
        have HK : Hid (KV 88 67 (patV m) S (holdV m) h k (fun b => (Value.slice ad k cap).ownBlock = some b ∨ b = h) w1 wr (.slice ad1 (k + r) cap1) r (r + 1)) := hkv.out
        clear hkv
        have r0 : (0 : Int) ≤ (r : Int) := by omega
        by_cases hlt8 : r < 8
        · have r63 : (r : Int) < 8 := by omega
          obtain ⟨ys, hys', hyp⟩ := HK.out.row
          have HYs : Hid (wr.ownsRow 0 88 3 (.slice ad1 (k + r) cap1) (k + r) ys) := hys'
          have HYp : Hid (∀ i j, i < k + r → j < (patV m).length → ys[i * (patV m).length + j]? = (patV m)[j]?) := hyp
          obtain ⟨vs, vl, e1, _, _⟩ := HK.out.hold
          obtain ⟨x0, x1, x2⟩ := cells_hold e1
          have hsz2 := HK.out.fr.size
          have hhlt : h < wr.heap.size := (Array.getElem?_eq_some_iff.1 e1).1
          have tok1 : True := trivial
          clear hys' hyp e1 x0 x1
          go_wp2_with (first
            | (at_builtin; have _t := tok1; refine wpList_append_keep _ rfl _ _ _ rfl 0 88 i0 _ 3 32 Tryz.underlying67 hi0 hz0 hz1 hz2 rfl (by omega) (.slice ad1 (k + r) cap1) _ _ rfl (HYs.out.alloc _) ⟨wr.heap.size, 0, none⟩ 1 1 [.int .i64 0, .int .i64 0, .string m] rfl rfl (World.news_of_block (cs := #[.int .i64 0, .int .i64 0, .string m]) (t := 88) (fr := (0, 0)) (heap_alloc_new wr _)) (by simp [Value.oneCell']) (by omega) (by unfold maxLen; omega) (by omega) (Nat.zero_le _) ?_; intro g2 cap2 w2 hown2 hgrow2 hk2; have HK2 : Hid (KV 88 67 (patV m) S (holdV m) h k (fun b => (Value.slice ad k cap).ownBlock = some b ∨ b = h) w1 w2 (.slice (some ⟨g2, 0, none⟩) (k + r + 1) cap2) (r + 1) (r + 1)) := HK.out.push1 (by decide) (by decide) HSn1.out HYs.out HYp.out hown2 hgrow2 hk2; obtain ⟨vs2, vl2, q1, q2, q3⟩ := HK2.out.hold; obtain ⟨adv, capv, rfl, _, hvc⟩ := row_lenA q2; obtain ⟨z0, z1, z2⟩ := cells_hold q1; have HQ1 : Hid (w2.heap[h]? = some (.cells (holdV m (.slice adv (r + 1) capv)) 110)) := q1; have HQ2 : Hid (w2.ownsRow w1.heap.size 67 1 (.slice adv (r + 1) capv) (r + 1) vl2) := q2; have HQ3 : Hid (∀ v ∈ vl2, ∃ ad l cp, v = .slice ad l cp ∧ l ≤ k + (r + 1) ∧ MkSl w2 88 (patV m) S v) := q3; have hsz3 := HK2.out.fr.size; have hhlt2 : h < w2.heap.size := (Array.getElem?_eq_some_iff.1 q1).1; clear tok1 hown2 hgrow2 hk2 q1 q2 q3)
            | (at_builtin; refine wpList_append_keep _ rfl _ _ _ rfl w1.heap.size 67 j0 _ 1 24 Tryz.underlying107 hj0 jz0 jz1 jz2 rfl (by omega) (.slice adv (r + 1) capv) _ _ rfl (HQ2.out.alloc _) ⟨w2.heap.size, 0, none⟩ 1 1 [.slice (some ⟨g2, 0, none⟩) (k + r + 1) cap2] rfl rfl (World.news_of_block (cs := #[.slice (some ⟨g2, 0, none⟩) (k + r + 1) cap2]) (t := 67) (fr := (0, 0)) (heap_alloc_new w2 _)) (by simp [Value.oneCell']) (by omega) (by unfold maxLen; omega) (by omega) (by simp; omega) ?_; intro g3 cap3 w3 hown3 hgrow3 hk3; have HO3 : Hid (w3.ownsRow w1.heap.size 67 1 (.slice (some ⟨g3, 0, none⟩) (r + 1 + 1) cap3) (r + 1 + 1) (vl2 ++ [.slice (some ⟨g2, 0, none⟩) (k + r + 1) cap2])) := hown3; have HG3 : Hid ((w2.alloc (.cells #[.slice (some ⟨g2, 0, none⟩) (k + r + 1) cap2] 67)).grownBy w3 (Value.slice adv (r + 1) capv).ownBlock) := hgrow3; have hb3 : w3.heap[h]? = some (.cells (holdV m (.slice adv (r + 1) capv)) 110) := (HG3.out.block h (by simp; omega) (row_apart HQ2.out HQ1.out (by decide))).trans ((Below.heap_alloc _ _ _ hhlt2).trans HQ1.out); obtain ⟨y0, y1, y2⟩ := cells_hold hb3; clear hown3 hgrow3 hk3 hb3))
          exact ⟨⟨r + 1, by omega, by go_num, HK2.out.push2 (by decide) (by decide) (by decide) (Or.inr rfl) (by omega) 0 (fun a b => rfl) HQ1.out HQ2.out HQ3.out HO3.out HG3.out⟩, by simp [intOf]; omega⟩
        · obtain rfl : r = 8 := by omega
          go_wp2
          go_end0
          exact ⟨rfl, HFin.out _ _ HK.out⟩

/-- A list of versions that nobody else has is written full and held. -/
theorem keepV_any (S : Nat → Prop) (wb : Nat) (pv hv : Value) (gs : List PG) (hs : List Nat) (lv : Value) (n : Nat) (xs : List Value) (w : World) (H : LawS S w wb pv hv gs hs) (hlen : hs.length ≤ 9000000000000)
    (hl : w.ownsRow 0 88 3 lv n xs) (hn : n ≤ 1000000) (hfar : ∀ b, lv.ownBlock = some b → ¬ S b) :
    Calls Tryz.prog 45 #[.pointer (some ⟨wb, 0, none⟩), lv] w fun e w' => e = .returned (.tuple #[]) ∧ ∃ (hv' : Value) (h : Nat), LawS (fun k => S k ∨ lv.ownBlock = some k ∨ w.heap.size ≤ k) w' wb pv hv' gs (hs ++ [h]) ∧ Fr (fun k => k = wb ∨ hv.ownBlock = some k ∨ lv.ownBlock = some k) w w' ∧ ∀ k, hv'.ownBlock = some k → hv.ownBlock = some k ∨ w.heap.size ≤ k := by
  refine (keepV_walk wb pv (.slice none 0 0) hv hs lv n xs (fun k => S k ∨ lv.ownBlock = some k ∨ w.heap.size ≤ k) w H.law.blk H.law.hrow hlen hl hn (fun b e => Or.inr (Or.inl e)) (fun b e => Or.inr (Or.inr e))).mono ?_
  rintro e w' ⟨rfl, h, m, hv', w1, u, hm, hh, hb1, hw1, hr1, hF1, hN1, hK⟩
  refine ⟨rfl, hv', h, ?_⟩
  have hF : Fr (fun k => k = wb ∨ hv.ownBlock = some k ∨ lv.ownBlock = some k) w w' := by
    refine ⟨hK.fr.os.trans hF1.os, hK.fr.tape.trans hF1.tape, hK.fr.output.trans hF1.output, Nat.le_trans hF1.size hK.fr.size, fun k hk hn => ?_⟩
    rw [hK.fr.block k (Nat.lt_of_lt_of_le hk hF1.size) (by rintro (e | e); exact hn (Or.inr (Or.inr e)); omega), hF1.block k hk (by rintro (e | e); exact hn (Or.inl e); exact hn (Or.inr (Or.inl e)))]
  have hl1 : w1.ownsRow 0 88 3 lv n xs := hF1.row hl fun g o l c e => by
    obtain ⟨cur, hc⟩ := own_typed hl (show lv.ownBlock = some g by rw [e]; rfl)
    rintro (e' | e')
    · rw [e'] at hc; exact absurd (typed_ne hc H.law.blk) (by decide)
    · obtain ⟨cur', hc'⟩ := own_typed H.law.hrow e'
      exact absurd (typed_ne hc hc') (by decide)
  have hX1 : ∀ g t cur, w1.heap[g]? = some (.cells cur t) → t ≠ 88 → t ≠ 110 → ¬ (lv.ownBlock = some g ∨ g = h) := by
    rintro g t cur hg t1 t2 (e | e)
    · obtain ⟨cur', hc'⟩ := own_typed hl1 e
      exact t1 (typed_ne hg hc')
    · rw [e] at hg; exact t2 (typed_ne hg hb1)
  refine ⟨H.held (fun k => S k ∨ lv.ownBlock = some k ∨ w.heap.size ≤ k) (fun k e => Or.inl e) (hK.fr.heap hw1 (hX1 _ _ _ hw1 (by decide) (by decide))) (hK.fr.rowT hr1 fun g cur hg => hX1 g _ cur hg (by decide) (by decide)) ?_ hF ?_, hF, hN1⟩
  · obtain ⟨vs, vl, q1, q2, q3⟩ := hK.hold
    refine ⟨vs, .slice none 0 0, m, vl, [], q1, hm, ?_, World.ownsRow_nil _ _ _ _, ?_, by simp, fun v hv => ?_, fun v hv => by simp at hv⟩
    · have hvl : vl.length = 9 := by have := q2.1; simpa using this
      rw [hvl]; exact ownsRow_base q2 (Nat.zero_le _)
    · have := q2.1; simp at this; omega
    · obtain ⟨_, _, _, _, _, hm⟩ := q3 v hv
      exact hm
  · rintro k (e | e | e)
    · exact Or.inl ⟨_, e ▸ H.law.blk⟩
    · exact Or.inr (Or.inl (own_typed H.law.hrow e))
    · exact Or.inr (Or.inr ⟨hfar k e, Or.inl (own_typed hl e)⟩)
end Go.Proofs.YtldmcdeibiclkaaGreat
