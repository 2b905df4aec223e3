/-
  A net that is being made: what lies there, step by step.
-/
import Derived.Test.YtldmcdeibiclkaaDoorN13
set_option linter.unusedVariables false
set_option linter.unusedSimpArgs false
namespace Go.Proofs.YtldmcdeibiclkaaDoor
open Go.RowKit

theorem zNet_list : zNet.toList = List.replicate 2 (Value.slice none 0 0) ++ (List.replicate 1920 (Value.bool false) ++ (List.replicate 5 (Value.slice none 0 0) ++ List.replicate 12 (Value.int .i64 0))) := by
  unfold zNet
  rw [List.toList_toArray]
theorem zNet_nil (q : Nat) (h : q < 2) : zNet[q]? = some (.slice none 0 0) := by
  rw [← Array.getElem?_toList, zNet_list, List.getElem?_append_left (by rw [List.length_replicate]; exact h), List.getElem?_replicate, if_pos h]
theorem zNet_bit (q : Nat) (h : q < 1920) : zNet[2 + q]? = some (.bool false) := by
  rw [← Array.getElem?_toList, zNet_list, List.getElem?_append_right (by rw [List.length_replicate]; omega), List.length_replicate, List.getElem?_append_left (by rw [List.length_replicate]; omega), List.getElem?_replicate, if_pos (by omega)]
theorem zNet_int (q : Nat) (h : q < 12) : zNet[1927 + q]? = some (.int .i64 0) := by
  rw [← Array.getElem?_toList, zNet_list, List.getElem?_append_right (by rw [List.length_replicate]; omega), List.length_replicate, List.getElem?_append_right (by rw [List.length_replicate]; omega), List.length_replicate, List.getElem?_append_right (by rw [List.length_replicate]; omega), List.length_replicate, List.getElem?_replicate, if_pos (by omega)]

/-- What is remembered at first: nothing. -/
def mem0 : Mem := (fun _ => 0, fun _ => false)
theorem mem0_cells : (encM mem0).toArray = zMem := by
  apply Array.ext'
  simp [encM, mem0, zMem, zSet, bits, List.map_const']

/-- The pointers of the replicas. -/
def ptrs (b : Nat → Nat) (j : Nat) : List Value := (List.range j).map fun i => Value.pointer (some ⟨b i, 0, none⟩)

/-- A net that is being made: j replicas, the memories of l keys. -/
structure BegAt (B : Nat) (w : World) (bt j l : Nat) (A : Array Value) (rv : Value) (b : Nat → Nat) (bm : Nat → Nat → Nat) (gm : Nat → Nat) : Prop where
  hB : B ≤ bt ∧ (∀ i n, i < j → n < 64 → B ≤ bm i n) ∧ ∀ k, k < l → B ≤ gm k
  hT : w.heap[bt]? = some (.cells A 44)
  hA : A.size = 1939
  h0 : A[0]? = some rv
  ho : ∀ q, q ≠ 0 → (∀ k, k < l → q ≠ 1922 + k) → A[q]? = zNet[q]?
  hr : w.ownsRow B 45 1 rv j (ptrs b j)
  hrep : ∀ i, i < j → RepAt w (b i) (bm i) i noKeys
  hdis : ∀ i i' n n', i < j → i' < j → n < 64 → n' < 64 → bm i n = bm i' n' → i = i'
  hmv : ∀ k, k < l → A[1922 + k]? = some (.slice (some ⟨gm k, 0, none⟩) 1 1)
  hmem : ∀ k, k < l → w.heap[gm k]? = some (.cells zMem 59)
  hgm : ∀ k k', k < l → k' < l → gm k = gm k' → k = k'

theorem BegAt.below {B : Nat} {w w' : World} {bt j l : Nat} {A : Array Value} {rv : Value} {b : Nat → Nat} {bm : Nat → Nat → Nat} {gm : Nat → Nat} (h : BegAt B w bt j l A rv b bm gm) (hb : Below w.heap.size w w') : BegAt B w' bt j l A rv b bm gm where
  hB := h.hB
  hT := heap_keep h.hT hb
  hA := h.hA
  h0 := h.h0
  ho := h.ho
  hr := Fr.row (X := fun _ => False) (Fr.of_below hb) h.hr (fun _ _ _ _ _ e => e)
  hrep := fun i hi => (h.hrep i hi).below hb
  hdis := h.hdis
  hmv := h.hmv
  hmem := fun k hk => heap_keep (h.hmem k hk) hb
  hgm := h.hgm

/-- One replica more. -/
theorem BegAt.push {B : Nat} {w w1 w2 : World} {bt j b1 gg ca : Nat} {bm1 : Nat → Nat} {A : Array Value} {rv : Value} {b : Nat → Nat} {bm : Nat → Nat → Nat} {gm : Nat → Nat} {C : Array Value} {t0 : TypeId} (h : BegAt B w1 bt j 0 A rv b bm gm) (hw : w.heap.size ≤ w1.heap.size) (hbw : ∀ i n, i < j → n < 64 → bm i n < w.heap.size) (hB : B ≤ w.heap.size)
    (hR : RepAt w1 b1 bm1 j noKeys) (hb1 : ∀ m, m < 64 → w.heap.size ≤ bm1 m) (hgrow : (w1.alloc (.cells C t0)).grownBy w2 rv.ownBlock)
    (hown : w2.ownsRow B 45 1 (.slice (some ⟨gg, 0, none⟩) (j + 1) ca) (j + 1) (ptrs b j ++ [.pointer (some ⟨b1, 0, none⟩)])) :
    BegAt B (w2.setCell ⟨bt, 0, none⟩ (.slice (some ⟨gg, 0, none⟩) (j + 1) ca)) bt (j + 1) 0 (A.setIfInBounds 0 (.slice (some ⟨gg, 0, none⟩) (j + 1) ca)) (.slice (some ⟨gg, 0, none⟩) (j + 1) ca) (fun i => if i = j then b1 else b i) (fun i => if i = j then bm1 else bm i) gm ∧ Fr (fun q => q = bt ∨ ∃ cur, w1.heap[q]? = some (.cells cur 45 (0, 0))) w1 (w2.setCell ⟨bt, 0, none⟩ (.slice (some ⟨gg, 0, none⟩) (j + 1) ca)) ∧ (∀ q, q < B → (w2.setCell ⟨bt, 0, none⟩ (.slice (some ⟨gg, 0, none⟩) (j + 1) ca)).heap[q]? = w1.heap[q]?) := by
  have hrow : ∀ q, rv.ownBlock = some q → B ≤ q ∧ ∃ cur, w1.heap[q]? = some (.cells cur 45 (0, 0)) := fun q hq => row_block h.hr q hq
  have hbtl := (Array.getElem?_eq_some_iff.1 h.hT).1
  have hbtn : ¬ rv.ownBlock = some bt := fun e => by
    obtain ⟨_, cur, hc⟩ := hrow bt e
    rw [h.hT] at hc; exact absurd (tag_ne hc) (by decide)
  have hT2 : w2.heap[bt]? = some (.cells A 44) := by
    rw [hgrow.block bt (by simp; omega) (fun e => hbtn e.symm), Below.heap_alloc _ _ _ hbtl]; exact h.hT
  have hF : Fr (fun q => q = bt ∨ ∃ cur, w1.heap[q]? = some (.cells cur 45 (0, 0))) w1 (w2.setCell ⟨bt, 0, none⟩ (.slice (some ⟨gg, 0, none⟩) (j + 1) ca)) :=
    Fr.setCell (((Fr.refl (fun q => q = bt ∨ ∃ cur, w1.heap[q]? = some (.cells cur 45 (0, 0))) w1).alloc _).grown hgrow (fun q hq _ => Or.inr (hrow q hq).2)) (Or.inr (Or.inl rfl)) _
  have hcells : ∀ {q : Nat} {D : Array Value} {t : TypeId} {fr : Nat × Nat}, w1.heap[q]? = some (.cells D t fr) → t ≠ 44 → t ≠ 45 → ¬ (q = bt ∨ ∃ cur, w1.heap[q]? = some (.cells cur 45 (0, 0))) := fun hq h1 h2 e => by
    rcases e with e | ⟨cur, e⟩
    · rw [e, h.hT] at hq; exact h1 (tag_ne hq).symm
    · rw [e] at hq; exact h2 (tag_ne hq).symm
  have hrep : ∀ {b' num : Nat} {bm' : Nat → Nat}, RepAt w1 b' bm' num noKeys → RepAt (w2.setCell ⟨bt, 0, none⟩ (.slice (some ⟨gg, 0, none⟩) (j + 1) ca)) b' bm' num noKeys := fun hr => by
    refine hF.rep hr ?_ (fun n hn e => ?_) (fun q cur hq => hcells hq (by decide) (by decide))
    · obtain ⟨⟨D, hD, _⟩, _⟩ := hr
      exact hcells hD (by decide) (by decide)
    · obtain ⟨es, clock, hm, _⟩ := hr.2.1 n hn
      rcases e with e | ⟨cur, e⟩
      · rw [e, h.hT] at hm; cases hm
      · rw [e] at hm; cases hm
  refine ⟨?_, hF, fun q hq => ?_⟩
  · exact {
      hB := ⟨h.hB.1, fun i n hi hn => by
        by_cases e : i = j
        · simp only [if_pos e]; exact Nat.le_trans hB (hb1 n hn)
        · simp only [if_neg e]; exact h.hB.2.1 i n (by omega) hn, fun k hk => absurd hk (by omega)⟩
      hT := heap_set hT2
      hA := by rw [Array.size_setIfInBounds]; exact h.hA
      h0 := by rw [Array.getElem?_setIfInBounds, if_pos rfl, if_pos (by rw [h.hA]; omega)]
      ho := fun q hq _ => by rw [Array.getElem?_setIfInBounds, if_neg (fun e => hq e.symm)]; exact h.ho q hq (fun k hk => absurd hk (by omega))
      hr := by
        have e1 : ptrs (fun i => if i = j then b1 else b i) (j + 1) = ptrs b j ++ [.pointer (some ⟨b1, 0, none⟩)] := by
          unfold ptrs
          rw [List.range_succ, List.map_append]
          congr 1
          · refine List.map_congr_left fun i hi => ?_
            have := List.mem_range.1 hi
            dsimp only
            rw [if_neg (by omega)]
          · simp
        rw [e1]
        exact (Fr.setCell (X := fun q => q = bt) (Fr.refl _ w2) (Or.inr rfl) _).row' hown (fun q cur hq e => by rw [e, hT2] at hq; exact absurd (tag_ne hq) (by decide))
      hrep := fun i hi => by
        by_cases e : i = j
        · subst e; simp only [if_true]; exact hrep hR
        · simp only [if_neg e]; exact hrep (h.hrep i (by omega))
      hdis := fun i i' n n' hi hi' hn hn' he => by
        by_cases e : i = j
        · by_cases e' : i' = j
          · rw [e, e']
          · simp only [if_pos e, if_neg e'] at he
            have h1 := hb1 n hn
            have h2 := hbw i' n' (by omega) hn'
            omega
        · by_cases e' : i' = j
          · simp only [if_neg e, if_pos e'] at he
            have h1 := hb1 n' hn'
            have h2 := hbw i n (by omega) hn
            omega
          · simp only [if_neg e, if_neg e'] at he
            exact h.hdis i i' n n' (by omega) (by omega) hn hn' he
      hmv := fun k hk => absurd hk (by omega)
      hmem := fun k hk => absurd hk (by omega)
      hgm := fun k k' hk => absurd hk (by omega) }
  · have hne : q ≠ bt := by have := h.hB.1; omega
    rw [Below.heap_setCell _ _ _ _ hne, hgrow.block q (by simp; omega) (fun e => by have := (hrow q e.symm).1; omega), Below.heap_alloc _ _ _ (by omega)]

/-- The memories of one key more. -/
theorem BegAt.mems {B : Nat} {w : World} {bt j l : Nat} {A : Array Value} {rv : Value} {b : Nat → Nat} {bm : Nat → Nat → Nat} {gm : Nat → Nat} (h : BegAt B w bt j l A rv b bm gm) (hl : l < 3) (hB : B ≤ w.heap.size) :
    BegAt B ((w.setCell ⟨bt, 1922 + l, none⟩ (.slice (some ⟨w.heap.size, 0, none⟩) 1 1)).alloc (.cells zMem 59)) bt j (l + 1) (A.setIfInBounds (1922 + l) (.slice (some ⟨w.heap.size, 0, none⟩) 1 1)) rv b bm (fun k => if k = l then w.heap.size else gm k) ∧ Fr (fun q => q = bt) w ((w.setCell ⟨bt, 1922 + l, none⟩ (.slice (some ⟨w.heap.size, 0, none⟩) 1 1)).alloc (.cells zMem 59)) := by
  have hF : Fr (fun q => q = bt) w ((w.setCell ⟨bt, 1922 + l, none⟩ (.slice (some ⟨w.heap.size, 0, none⟩) 1 1)).alloc (.cells zMem 59)) := (Fr.setCell (X := fun q => q = bt) (Fr.refl _ w) (Or.inr rfl) _).alloc _
  have hsz : (w.setCell ⟨bt, 1922 + l, none⟩ (.slice (some ⟨w.heap.size, 0, none⟩) 1 1)).heap.size = w.heap.size := by simp [World.setCell]
  have hbtl := (Array.getElem?_eq_some_iff.1 h.hT).1
  have hlt : ∀ k, k < l → gm k < w.heap.size := fun k hk => (Array.getElem?_eq_some_iff.1 (h.hmem k hk)).1
  refine ⟨?_, hF⟩
  exact {
    hB := ⟨h.hB.1, h.hB.2.1, fun k hk => by
      by_cases e : k = l
      · simp only [if_pos e]; exact hB
      · simp only [if_neg e]; exact h.hB.2.2 k (by omega)⟩
    hT := by rw [Below.heap_alloc _ _ _ (by rw [hsz]; exact hbtl)]; exact heap_set h.hT
    hA := by rw [Array.size_setIfInBounds]; exact h.hA
    h0 := by rw [Array.getElem?_setIfInBounds, if_neg (by omega)]; exact h.h0
    ho := fun q hq hk => by rw [Array.getElem?_setIfInBounds, if_neg (fun e => hk l (by omega) e.symm)]; exact h.ho q hq (fun k hk' => hk k (by omega))
    hr := hF.row' h.hr (fun q cur hq e => by rw [e, h.hT] at hq; exact absurd (tag_ne hq) (by decide))
    hrep := fun i hi => rep_bt (h.hrep i hi) h.hT hF
    hdis := h.hdis
    hmv := fun k hk => by
      by_cases e : k = l
      · subst e
        simp only [if_true]
        rw [Array.getElem?_setIfInBounds, if_pos rfl, if_pos (by rw [h.hA]; omega)]
      · simp only [if_neg e]
        rw [Array.getElem?_setIfInBounds, if_neg (by omega)]; exact h.hmv k (by omega)
    hmem := fun k hk => by
      by_cases e : k = l
      · simp only [if_pos e]
        have := heap_alloc_new (w.setCell ⟨bt, 1922 + l, none⟩ (.slice (some ⟨w.heap.size, 0, none⟩) 1 1)) (.cells zMem 59)
        rw [hsz] at this; exact this
      · simp only [if_neg e]
        exact hF.heap (h.hmem k (by omega)) (fun q => by have := h.hmem k (by omega); rw [q, h.hT] at this; exact absurd (tag_ne this) (by decide))
    hgm := fun k k' hk hk' he => by
      by_cases e : k = l
      · by_cases e' : k' = l
        · rw [e, e']
        · simp only [if_pos e, if_neg e'] at he
          have := hlt k' (by omega); omega
      · by_cases e' : k' = l
        · simp only [if_neg e, if_pos e'] at he
          have := hlt k (by omega); omega
        · simp only [if_neg e, if_neg e'] at he
          exact h.hgm k k' (by omega) (by omega) he }

/-- The ghosts of a net at first. -/
def NetG.first (nr br capr : Nat) (R : Array Value) (b : Nat → Nat) (bm : Nat → Nat → Nat) (gm : Nat → Nat) (A : Array Value) : NetG :=
  { nr := nr, br := br, capr := capr, R := R, b := b, bm := bm, K := fun _ => noKeys, ws := [], wv := .slice none 0 0, kn := fun _ _ _ => false, go := fun _ _ _ => false, mem := fun _ => [mem0], gm := gm, capm := fun _ => 1, A := A }

theorem noKeys_ok : KOk noKeys := fun s => ⟨fun v hv => by simp [noKeys] at hv, by simp [noKeys], fun v hv => by simp [noKeys] at hv, fun i _ => by simp [noKeys]⟩

theorem expected_none (k : Nat) : expected [] (fun _ => false) (fun _ => false) k = [] := by
  simp [expected, ofBy]

theorem NetInv.first {ks : Nat → ByteArray} {nr br capr : Nat} {R : Array Value} {b : Nat → Nat} {bm : Nat → Nat → Nat} {gm : Nat → Nat} {A : Array Value} (h1 : 1 ≤ nr) (h4 : nr ≤ 4) : NetInv ks (NetG.first nr br capr R b bm gm A) where
  hnr := ⟨h1, h4⟩
  hlen := by simp [NetG.first]
  hseq := fun j x hx => by simp [NetG.first] at hx
  hval := fun x hx => by simp [NetG.first] at hx
  hby := fun x hx => by simp [NetG.first] at hx
  hgood := fun i k _ _ => ⟨fun j x hx => by simp [NetG.first] at hx, fun j _ => rfl, fun b => by simp [NetG.first, noKeys, cntW]⟩
  hown := fun i k _ _ => by simp [NetG.first, noKeys, cntW]
  hex := fun i k _ _ => by
    show (noKeys (ks k)).2 = expected [] (fun _ => false) (fun _ => false) k
    rw [expected_none]; rfl
  hgone := fun _ _ _ _ _ _ => rfl
  hmemG := fun k m _ hm => by
    have : m = mem0 := by simpa [NetG.first] using hm
    subst this
    exact ⟨fun j x hx => by simp [NetG.first] at hx, fun j _ => rfl, fun b => by simp [NetG.first, mem0, cntW]⟩
  hmemN := fun k _ => by simp [NetG.first]
  hkok := fun i _ => noKeys_ok

theorem BegAt.net {B : Nat} {w : World} {bt j : Nat} {A : Array Value} {rv : Value} {b : Nat → Nat} {bm : Nat → Nat → Nat} {gm : Nat → Nat} (h : BegAt B w bt j 3 A rv b bm gm) (hj : 0 < j) : ∃ br capr R, NetAt B w bt (NetG.first j br capr R b bm gm A) := by
  rcases h.hr.2 with ⟨_, h0⟩ | ⟨br, capr, R, hv, hbr, hR, hc1, hc2, hc3, htk⟩
  · omega
  · refine ⟨br, capr, R, ?_⟩
    exact {
      hB := ⟨h.hB.1, h.hB.2.1⟩
      hT := h.hT
      hA := h.hA
      h0 := by show A[0]? = _; rw [h.h0, hv]; rfl
      hR := hR
      hRi := fun i hi => by
        show R[i]? = _
        have hi' : i < j := hi
        have e1 : (ptrs b j)[i]? = some (.pointer (some ⟨b i, 0, none⟩)) := by
          unfold ptrs
          rw [List.getElem?_map, List.getElem?_range hi']; rfl
        rw [← htk, List.getElem?_take, if_pos (by omega), Array.getElem?_toList] at e1
        exact e1
      hrep := h.hrep
      hdis := h.hdis
      h1 := by show A[1]? = _; rw [h.ho 1 (by omega) (fun k hk => by omega)]; exact zNet_nil 1 (by omega)
      hw := ⟨rfl, Or.inl ⟨rfl, rfl⟩⟩
      hkn := fun i k q hi hk hq => by
        show A[2 + i * 240 + k * 80 + q]? = _
        rw [h.ho _ (by omega) (fun l hl => by omega), show 2 + i * 240 + k * 80 + q = 2 + (i * 240 + k * 80 + q) by omega]
        exact zNet_bit _ (by omega)
      hgo := fun i k q hi hk hq => by
        show A[962 + i * 240 + k * 80 + q]? = _
        rw [h.ho _ (by omega) (fun l hl => by omega), show 962 + i * 240 + k * 80 + q = 2 + (960 + i * 240 + k * 80 + q) by omega]
        exact zNet_bit _ (by omega)
      hmv := fun k hk => h.hmv k hk
      hmem := fun k hk => by
        show w.ownsRow B 59 84 (.slice (some ⟨gm k, 0, none⟩) 1 1) 1 (flatM [mem0])
        have e1 : flatM [mem0] = zMem.toList := by
          rw [← mem0_cells]; simp [flatM]
        rw [e1]
        refine ⟨by rw [Array.length_toList, zMem_size], Or.inr ⟨gm k, 1, zMem, rfl, h.hB.2.2 k hk, h.hmem k hk, Nat.le_refl _, by unfold maxLen; omega, by rw [zMem_size], ?_⟩⟩
        rw [List.take_of_length_le (by rw [Array.length_toList, zMem_size]; omega)]
      hgm := h.hgm
      hcnt := fun i k hi hk => by
        show A[1927 + i * 3 + k]? = _
        rw [h.ho _ (by omega) (fun l hl => by omega), show 1927 + i * 3 + k = 1927 + (i * 3 + k) by omega, zNet_int _ (by omega)]
        rfl }
end Go.Proofs.YtldmcdeibiclkaaDoor
