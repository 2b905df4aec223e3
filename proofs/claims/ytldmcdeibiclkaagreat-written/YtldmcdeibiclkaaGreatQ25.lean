/-
  Contract: slices.Sort on a row of texts that a call owns: the row then holds them by rising bytes; nothing else that was there turns.
  Which keys have versions: what is gathered out of the maps of a replica, segment by segment, entry by entry; it is what the reference tells, once it is sorted.
-/
import Derived.Test.YtldmcdeibiclkaaGreatQ04
import Derived.Test.YtldmcdeibiclkaaGreatQ14
import Derived.Test.YtldmcdeibiclkaaGreatQ18
import Derived.Maps.RangeRun
set_option linter.unusedVariables false
set_option linter.unusedSimpArgs false

namespace Go.Proofs
open Go.Shelf Go.RowKit Go.Lib Go.Sort
namespace YtldmcdeibiclkaaGreat

def encT (ss : List (List UInt8)) : List Value := ss.map encStr
def sortT (ss : List (List UInt8)) : List (List UInt8) := ss.mergeSort fun x y => decide (x ≤ y)
theorem sortT_perm (ss : List (List UInt8)) : (sortT ss).Perm ss := List.mergeSort_perm ss _
theorem sortT_length (ss : List (List UInt8)) : (sortT ss).length = ss.length := (sortT_perm ss).length_eq

theorem sortS_any (blk off cap : Nat) (ss : List (List UInt8)) (w : World) (hH : Holds encStr w blk off ss.toArray) (hblk : blk < w.heap.size) (hsz : ss.length < 4611686018427387904) :
    Calls Tryz.prog 91 #[.slice (some ⟨blk, off, none⟩) ss.length cap] w fun e w' => e = .returned (.tuple #[]) ∧ ∃ n os, w' = grow (putRow encStr (Sort.ahead w n) blk off (sortT ss).toArray) os :=
  AnyM.slices_Sort_string Tryz.sortS blk off cap ss w hH hblk hsz
theorem sortS_none (p : Option Addr) (cap : Nat) (w : World) : Calls Tryz.prog 91 #[.slice p 0 cap] w fun e w' => e = .returned (.tuple #[]) ∧ w' = w :=
  AnyM.slices_Sort_string_none Tryz.sortS p cap w

theorem sortS_own (B : Nat) (v : Value) (ss : List (List UInt8)) (w : World) (h : w.ownsRow B 9 1 v ss.length (encT ss)) (hsz : ss.length < 4611686018427387904) :
    Calls Tryz.prog 91 #[v] w fun e w' => e = .returned (.tuple #[]) ∧ w'.ownsRow B 9 1 v ss.length (encT (sortT ss)) ∧ w.grownBy w' v.ownBlock := by
  obtain ⟨h1, h2⟩ := h
  rcases h2 with ⟨rfl, h2⟩ | ⟨g, cap, cur, rfl, hg, hh, hnc, hc, hs, ht⟩
  · obtain rfl : ss = [] := List.eq_nil_of_length_eq_zero h2
    have e0 : encT (sortT []) = [] := by simp [encT, sortT]
    exact (sortS_none none 0 w).mono fun e w' ⟨he, hw⟩ => ⟨he, by rw [hw, e0]; exact World.ownsRow_nil _ _ _ _, by rw [hw]; exact ⟨rfl, rfl, rfl, Nat.le_refl _, fun _ _ _ => rfl⟩⟩
  have hglt : g < w.heap.size := (Array.getElem?_eq_some_iff.1 hh).1
  have hH : Holds encStr w g 0 ss.toArray := by
    intro j hj
    have hj' : j < ss.length := by simpa using hj
    refine ⟨?_, by simp [World.frozen?, hh]⟩
    have e1 : (encT ss)[j]? = some (encStr ss[j]) := by simp [encT, hj']
    rw [← ht, List.getElem?_take, if_pos (by omega)] at e1
    simp only [World.cell?, hh, Nat.zero_add]
    rw [getElem!_pos _ j hj]
    simpa using e1
  refine (sortS_any g 0 cap ss w hH hglt hsz).mono ?_
  rintro e w' ⟨rfl, n, os, rfl⟩
  have hlen := sortT_length ss
  refine ⟨rfl, ?_, ?_⟩
  · have hb : (grow (putRow encStr (Sort.ahead w n) g 0 (sortT ss).toArray) os).heap[g]? = some (.cells (putCells encStr 0 (sortT ss).toArray cur) 9 (0, 0)) := by
      rw [heap_grow_old _ _ (by simpa [putRow, mapBlock, Sort.ahead] using hglt)]
      simp [putRow, mapBlock, Sort.ahead, Array.getElem?_modify, hh, onCells]
    refine ⟨by simp [encT, hlen], Or.inr ⟨g, cap, _, rfl, hg, hb, hnc, hc, by simp [putCells, hs], ?_⟩⟩
    apply List.ext_getElem?
    intro t
    by_cases htl : t < ss.length
    · rw [List.getElem?_take, if_pos (by omega), Array.getElem?_toList]
      have hC : t < cur.size := by rw [hs]; omega
      have hT : t < (sortT ss).length := by omega
      simp only [putCells, Array.getElem?_mapIdx, Array.getElem?_eq_getElem hC, Option.map_some]
      rw [if_pos ⟨by omega, by simp; omega⟩]
      simp only [encT, List.getElem?_map, List.getElem?_eq_getElem hT, Option.map_some, Nat.sub_zero]
      rw [getElem!_pos _ t (by simpa using hT)]
      simp
    · rw [List.getElem?_eq_none (by simp; omega), List.getElem?_eq_none (by simp [encT]; omega)]
  · refine ⟨rfl, rfl, rfl, by simp [putRow, mapBlock, Sort.ahead], fun k hk hne => ?_⟩
    rw [heap_grow_old _ _ (by simp [putRow, mapBlock, Sort.ahead]; omega)]
    simp only [putRow, mapBlock, Sort.ahead, Array.getElem?_modify]
    rw [if_neg (fun e => hne (by subst e; rfl))]
end YtldmcdeibiclkaaGreat
end Go.Proofs

namespace Go.Proofs.YtldmcdeibiclkaaGreat
open Go.RowKit

def toL (k : ByteArray) : List UInt8 := k.data.toList
theorem toL_of (x : List UInt8) : toL ⟨x.toArray⟩ = x := by simp [toL]
theorem toL_inj {a b : ByteArray} (h : toL a = toL b) : a = b := by
  cases a; cases b
  simp only [toL, Array.toList_inj] at h
  rw [h]
theorem encStr_toL (k : ByteArray) : encStr (toL k) = .string k := by cases k; simp [toL]
theorem toL_toList (k : ByteArray) : k.toList = toL k := ByteArray.toList_eq ..

def Live (K : Know) (s : ByteArray) : Prop := (K s).2 ≠ []

/-- The keys with versions of the segments below n are gathered. -/
def InvN (K : Know) (n : Nat) (L : List (List UInt8)) : Prop := L.Nodup ∧ ∀ k, toL k ∈ L ↔ segN k < n ∧ Live K k
/-- .. and of segment n those of the entries that have been seen. -/
def InvM (K : Know) (n : Nat) (es : List MapEntry) (seen : Array Nat) (L : List (List UInt8)) : Prop :=
  L.Nodup ∧ ∀ k, toL k ∈ L ↔ (segN k < n ∧ Live K k) ∨ (segN k = n ∧ Live K k ∧ ∃ e ∈ es, e.key = .string k ∧ e.born ∈ seen)

theorem InvN.zero (K : Know) : InvN K 0 [] := ⟨List.nodup_nil, fun k => by simp⟩
theorem InvN.start {K : Know} {n : Nat} {L : List (List UInt8)} (h : InvN K n L) (es : List MapEntry) : InvM K n es #[] L := ⟨h.1, fun k => by rw [h.2 k]; simp⟩

theorem map_inj {α β : Type} {f : α → β} : ∀ {l : List α}, (l.map f).Nodup → ∀ {a b : α}, a ∈ l → b ∈ l → f a = f b → a = b
  | [], _, _, _, ha, _, _ => by simp at ha
  | x :: l, h, a, b, ha, hb, e => by
    rw [List.map_cons, List.nodup_cons] at h
    rcases List.mem_cons.1 ha with ha | ha <;> rcases List.mem_cons.1 hb with hb | hb
    · rw [ha, hb]
    · exact absurd (List.mem_map.2 ⟨b, hb, by rw [← e, ha]⟩) h.1
    · exact absurd (List.mem_map.2 ⟨a, ha, by rw [e, hb]⟩) h.1
    · exact map_inj h.2 ha hb e

theorem entAt_mem {s : ByteArray} {v : Value} : ∀ {es : List MapEntry}, KeysOk es → entAt es s = some v → ∃ e ∈ es, e.key = .string s ∧ e.val = v
  | [], _, h => by cases h
  | x :: es, hk, h => by
    obtain ⟨q, hq⟩ := hk x (by simp)
    simp only [entAt, hq] at h
    by_cases hs : s = q
    · rw [if_pos hs] at h
      exact ⟨x, by simp, by rw [hq, hs], by injection h⟩
    · rw [if_neg hs] at h
      obtain ⟨e, he, h1, h2⟩ := entAt_mem (fun e' h' => hk e' (by simp [h'])) h
      exact ⟨e, by simp [he], h1, h2⟩
theorem entAt_of {s : ByteArray} : ∀ {es : List MapEntry}, KeysOk es → (es.map (·.key)).Nodup → ∀ e ∈ es, e.key = .string s → entAt es s = some e.val
  | [], _, _, e, he, _ => by simp at he
  | x :: es, hk, hn, e, he, hs => by
    obtain ⟨q, hq⟩ := hk x (by simp)
    rw [List.map_cons, List.nodup_cons] at hn
    simp only [entAt, hq]
    rcases List.mem_cons.1 he with rfl | he
    · rw [hs] at hq
      injection hq with hq
      rw [if_pos hq]
    · have hne : ¬ s = q := fun e' => hn.1 (List.mem_map.2 ⟨e, he, by rw [hs, hq, e']⟩)
      rw [if_neg hne]
      exact entAt_of (fun e' h' => hk e' (by simp [h'])) hn.2 e he hs

theorem VSl.nil_of {w : World} {l : List Ver} (h : VSl w (.slice none 0 0) l) : l = [] := by
  obtain ⟨ad, cap, e, _⟩ := h.len
  injection e with _ e _
  exact List.eq_nil_of_length_eq_zero e.symm

/-- What one entry of a segment's map holds. -/
theorem seg_entry {w : World} {n : Nat} {K : Know} {es : Array MapEntry} {clock : Nat} (hk : KeysOk es.toList) (hall : ∀ s, segN s = n → ∃ sv, (entAt es.toList s).getD zeroSt = stV (K s).1 sv ∧ VSl w sv (K s).2) (hst : Stamp (fun k => segN k = n ∧ k.size ≤ 281474976710656) es.toList clock)
    {e : MapEntry} (he : e ∈ es.toList) : ∃ s sv, e.key = .string s ∧ segN s = n ∧ s.size ≤ 281474976710656 ∧ e.val = stV (K s).1 sv ∧ VSl w sv (K s).2 := by
  obtain ⟨s, hs, hn, hz⟩ := hst.2.2.2 e he
  obtain ⟨sv, h1, h2⟩ := hall s hn
  rw [entAt_of hk hst.1 e he hs] at h1
  exact ⟨s, sv, hs, hn, hz, h1, h2⟩

theorem mem_left {es : Array MapEntry} {seen : Array Nat} {e : MapEntry} : e ∈ (leftOf es seen).toList ↔ e ∈ es.toList ∧ ¬ e.born ∈ seen := by
  unfold leftOf
  simp

theorem InvM.done {w : World} {K : Know} {n : Nat} {es : Array MapEntry} {clock : Nat} {seen : Array Nat} {L : List (List UInt8)} (h : InvM K n es.toList seen L) (hk : KeysOk es.toList) (hall : ∀ s, segN s = n → ∃ sv, (entAt es.toList s).getD zeroSt = stV (K s).1 sv ∧ VSl w sv (K s).2) (h0 : (leftOf es seen).size = 0) : InvN K (n + 1) L := by
  refine ⟨h.1, fun k => ?_⟩
  rw [h.2 k]
  constructor
  · rintro (⟨h1, h2⟩ | ⟨h1, h2, _⟩)
    · exact ⟨by omega, h2⟩
    · exact ⟨by omega, h2⟩
  · rintro ⟨h1, h2⟩
    by_cases e : segN k = n
    · refine Or.inr ⟨e, h2, ?_⟩
      obtain ⟨sv, h3, h4⟩ := hall k e
      cases hx : entAt es.toList k with
      | none =>
        rw [hx] at h3
        have : sv = .slice none 0 0 := by
          simp only [Option.getD_none, zeroSt, stV] at h3
          injection h3 with h3
          have := congrArg (·[4]?) h3
          simp at this
          exact this.symm
        rw [this] at h4
        exact absurd h4.nil_of h2
      | some v =>
        obtain ⟨e, he, hke, _⟩ := entAt_mem hk hx
        refine ⟨e, he, hke, ?_⟩
        have hle : (leftOf es seen).toList = [] := List.eq_nil_of_length_eq_zero (by simpa using h0)
        have hno : ¬ e ∈ (leftOf es seen).toList := by rw [hle]; simp
        rw [mem_left] at hno
        by_cases hb : e.born ∈ seen
        · exact hb
        · exact absurd ⟨he, hb⟩ hno
    · exact Or.inl ⟨by omega, h2⟩

theorem InvM.dead {K : Know} {n : Nat} {es : Array MapEntry} {seen : Array Nat} {L : List (List UInt8)} {e : MapEntry} {s : ByteArray} (h : InvM K n es.toList seen L) (hb : (es.toList.map (·.born)).Nodup) (he : e ∈ (leftOf es seen).toList) (hs : e.key = .string s) (hl : ¬ Live K s) : InvM K n es.toList (seen.push e.born) L := by
  refine ⟨h.1, fun k => ?_⟩
  rw [h.2 k]
  have he' := (mem_left.1 he).1
  constructor
  · rintro (h1 | ⟨h1, h2, e1, h3, h4, h5⟩)
    · exact Or.inl h1
    · exact Or.inr ⟨h1, h2, e1, h3, h4, by simp [h5]⟩
  · rintro (h1 | ⟨h1, h2, e1, h3, h4, h5⟩)
    · exact Or.inl h1
    · rw [Array.mem_push] at h5
      rcases h5 with h5 | h5
      · exact Or.inr ⟨h1, h2, e1, h3, h4, h5⟩
      · have : e1 = e := map_inj hb h3 he' h5
        rw [this, hs] at h4
        injection h4 with h4
        rw [← h4] at h2
        exact absurd h2 hl

theorem InvM.live {K : Know} {n : Nat} {es : Array MapEntry} {seen : Array Nat} {L : List (List UInt8)} {e : MapEntry} {s : ByteArray} (h : InvM K n es.toList seen L) (hb : (es.toList.map (·.born)).Nodup) (hkk : (es.toList.map (·.key)).Nodup) (he : e ∈ (leftOf es seen).toList) (hs : e.key = .string s) (hn : segN s = n) (hl : Live K s) : InvM K n es.toList (seen.push e.born) (L ++ [toL s]) := by
  obtain ⟨he', hnb⟩ := mem_left.1 he
  refine ⟨?_, fun k => ?_⟩
  · rw [List.nodup_append]
    refine ⟨h.1, by simp, fun a ha b hbb e0 => ?_⟩
    rw [List.mem_singleton] at hbb
    rw [e0, hbb, h.2 s] at ha
    rcases ha with ⟨h1, _⟩ | ⟨_, _, e1, h3, h4, h5⟩
    · omega
    · have : e1 = e := map_inj hkk h3 he' (by rw [h4, hs])
      rw [this] at h5
      exact hnb h5
  · rw [List.mem_append, h.2 k, List.mem_singleton]
    constructor
    · rintro ((h1 | ⟨h1, h2, e1, h3, h4, h5⟩) | h1)
      · exact Or.inl h1
      · exact Or.inr ⟨h1, h2, e1, h3, h4, by simp [h5]⟩
      · have := toL_inj h1
        rw [this]
        exact Or.inr ⟨hn, hl, e, he', hs, by simp⟩
    · rintro (h1 | ⟨h1, h2, e1, h3, h4, h5⟩)
      · exact Or.inl (Or.inl h1)
      · rw [Array.mem_push] at h5
        rcases h5 with h5 | h5
        · exact Or.inl (Or.inr ⟨h1, h2, e1, h3, h4, h5⟩)
        · have : e1 = e := map_inj hb h3 he' h5
          rw [this, hs] at h4
          injection h4 with h4
          exact Or.inr (by rw [h4])

theorem filter_le {α : Type} {p q : α → Bool} (h : ∀ x, q x = true → p x = true) (l : List α) : (l.filter q).length ≤ (l.filter p).length := by
  induction l with
  | nil => simp
  | cons x l ih =>
    by_cases h1 : q x = true
    · rw [List.filter_cons_of_pos h1, List.filter_cons_of_pos (h x h1)]
      simpa using ih
    · rw [List.filter_cons_of_neg h1]
      by_cases h2 : p x = true
      · rw [List.filter_cons_of_pos h2, List.length_cons]; omega
      · rw [List.filter_cons_of_neg h2]; exact ih
theorem filter_less {α : Type} {p q : α → Bool} (h : ∀ x, q x = true → p x = true) {e : α} (hp : p e = true) (hq : q e = false) (l : List α) (hm : e ∈ l) : (l.filter q).length < (l.filter p).length := by
  induction l with
  | nil => simp at hm
  | cons x l ih =>
    have hle := filter_le h l
    rcases List.mem_cons.1 hm with rfl | hm
    · rw [List.filter_cons_of_pos hp, List.filter_cons_of_neg (by rw [hq]; simp), List.length_cons]; omega
    · have hi := ih hm
      by_cases h1 : q x = true
      · rw [List.filter_cons_of_pos h1, List.filter_cons_of_pos (h x h1)]
        simpa using hi
      · rw [List.filter_cons_of_neg h1]
        by_cases h2 : p x = true
        · rw [List.filter_cons_of_pos h2, List.length_cons]; omega
        · rw [List.filter_cons_of_neg h2]; exact hi
theorem left_size (es : Array MapEntry) (seen : Array Nat) : (leftOf es seen).size = (es.toList.filter fun e => !seen.contains e.born).length := by
  rw [show (leftOf es seen).size = (leftOf es seen).toList.length from (Array.length_toList).symm]
  unfold leftOf
  rw [Array.toList_filter]
theorem left_less {es : Array MapEntry} {seen : Array Nat} {e : MapEntry} (he : e ∈ (leftOf es seen).toList) : (leftOf es (seen.push e.born)).size < (leftOf es seen).size := by
  obtain ⟨h1, h2⟩ := mem_left.1 he
  rw [left_size, left_size]
  refine filter_less (fun x hx => ?_) (by simpa using h2) (by simp) _ h1
  simp at hx ⊢
  exact hx.1

-- the reference's side

/-- The names that the reference tells. -/
def namesR (l : List RKey) : List (List UInt8) := (l.filter fun q => decide (0 < lenK q)).map fun q => toL q.1
theorem liveK_names (l : List RKey) : liveK l = encT (namesR l) := by
  unfold liveK encT namesR
  rw [List.map_map]
  apply List.map_congr_left
  intro q _
  simp [encStr_toL]
theorem namesR_length (l : List RKey) : (namesR l).length ≤ l.length := by
  unfold namesR
  rw [List.length_map]
  exact List.length_filter_le _ _

theorem names_sorted {l : List RKey} (h : SortK l) : (namesR l).Pairwise fun a b => a < b := by
  unfold namesR
  rw [List.pairwise_map]
  refine (List.Pairwise.filter _ h).imp fun {a b} hab => ?_
  have := ltK_iff.1 hab
  rwa [toL_toList, toL_toList] at this

theorem names_nodup {l : List RKey} (h : SortK l) : (namesR l).Nodup :=
  (names_sorted h).imp fun {a b} hab e => by rw [e] at hab; exact absurd hab (List.lt_irrefl _)

theorem names_mem {w : World} {rb n : Nat} {sv : Value} {l : List RKey} {K : Know} (h : TiedAt w rb n sv l K) (k : ByteArray) : toL k ∈ namesR l ↔ Live K k := by
  obtain ⟨ad, cap, hf, _⟩ := h.of k
  unfold namesR Live
  rw [List.mem_map]
  constructor
  · rintro ⟨q, hq, e⟩
    obtain ⟨hq1, hq2⟩ := List.mem_filter.1 hq
    have e' := toL_inj e
    rw [← e', findK_mem h.sorted hq1] at hf
    rw [e'] at hf
    have hl : lenK q = (K k).2.length := by rw [hf]; rfl
    intro h0
    rw [h0] at hl
    simp [hl] at hq2
  · intro hl
    have hne : findK l k ∈ l := by
      unfold findK at hf ⊢
      cases hx : l.find? (fun q => decide (q.1 = k)) with
      | none =>
        rw [hx] at hf
        simp only [Option.getD_none] at hf
        injection hf with _ hf
        injection hf with _ hf
        injection hf with _ hf _
        exact absurd (List.eq_nil_of_length_eq_zero hf.symm) hl
      | some q => simpa using List.mem_of_find?_eq_some hx
    refine ⟨findK l k, List.mem_filter.2 ⟨hne, ?_⟩, by rw [findK_name]⟩
    have : 0 < (K k).2.length := List.length_pos_iff.2 hl
    rw [hf]
    exact decide_eq_true (by simpa [lenK] using this)

theorem subset_names {w : World} {rb n' : Nat} {sv : Value} {l : List RKey} {K : Know} (h : TiedAt w rb n' sv l K) {L : List (List UInt8)} (hn : L.Nodup) (hm : ∀ k, toL k ∈ L → Live K k) : L.length ≤ l.length := by
  refine Nat.le_trans (List.Nodup.length_le_of_subset hn fun x hx => ?_) (namesR_length l)
  have := (names_mem h ⟨x.toArray⟩).2 (hm ⟨x.toArray⟩ (by rw [toL_of]; exact hx))
  rwa [toL_of] at this

theorem sorted_names {w : World} {rb n' : Nat} {sv : Value} {l : List RKey} {K : Know} (h : TiedAt w rb n' sv l K) {L : List (List UInt8)} (hL : InvN K 64 L) : sortT L = namesR l := by
  have hp : (sortT L).Perm (namesR l) := (sortT_perm L).trans ((List.perm_ext_iff_of_nodup hL.1 (names_nodup h.sorted)).2 fun x => by
    have e1 := hL.2 ⟨x.toArray⟩
    have e2 := names_mem h ⟨x.toArray⟩
    rw [toL_of] at e1 e2
    rw [e1, e2]
    exact ⟨fun h => h.2, fun h => ⟨segN_lt _, h⟩⟩)
  refine List.Perm.eq_of_pairwise (le := fun a b => a ≤ b) (fun a b _ _ h1 h2 => List.le_antisymm h1 h2) ?_ ((names_sorted h.sorted).imp fun {a b} hab => List.le_of_lt hab) hp
  have := List.pairwise_mergeSort (le := fun (x y : List UInt8) => decide (x ≤ y)) (fun a b c h1 h2 => by simp at *; exact List.le_trans h1 h2) (fun a b => by simp; exact List.le_total a b) L
  exact this.imp fun {a b} hab => by simpa using hab
end Go.Proofs.YtldmcdeibiclkaaGreat
