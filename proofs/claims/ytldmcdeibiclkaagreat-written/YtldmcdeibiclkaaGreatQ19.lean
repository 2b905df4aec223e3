/-
  The world of package attunelaw in memory: pairs of a replica and a reference, lists that came out and are held; how it is kept.
  The law's world with the places of its lists: which blocks the lists of versions and texts lie in; how it is kept where a new list is held.
  Contract: next: a hold with a mark is laid, and stands at the end of the holds.
-/
import Derived.Test.YtldmcdeibiclkaaGreatQ18
import Derived.Test.YtldmcdeibiclkaaGreatQ01
import Derived.Laws.BytesArg
set_option linter.unusedVariables false
set_option linter.unusedSimpArgs false

namespace Go.Proofs.YtldmcdeibiclkaaGreat
open Go.RowKit

/-- What is said of a pair. -/
structure PG where
  b : Nat
  bm : Nat → Nat
  num : Nat
  K : Know
  rb : Nat
  sv : Value
  l : List RKey

/-- A pair in memory: both know the same. -/
structure PairAt (w : World) (g : PG) : Prop where
  rep : RepAt w g.b g.bm g.num g.K
  tied : TiedAt w g.rb g.num g.sv g.l g.K
  inv : KInv g.K
  num : g.num < 4

/-- Two pairs lie apart. -/
def Apart (g g' : PG) : Prop := (∀ n m, n < 64 → m < 64 → g.bm n ≠ g'.bm m) ∧ g.rb ≠ g'.rb

/-- A slice each of whose elements reads as the pattern says; it lies in a block of S. -/
def MkSl (w : World) (t : TypeId) (pat : List Value) (S : Nat → Prop) (v : Value) : Prop :=
  ∃ ad n cap, v = .slice ad n cap ∧ n ≤ 2000000000000 ∧ (n = 0 ∨ ∃ g cur, ad = some ⟨g, 0, none⟩ ∧ S g ∧ w.heap[g]? = some (.cells cur t) ∧ ∀ i j, i < n → j < pat.length → cur[i * pat.length + j]? = pat[j]?)

theorem MkSl.frame {X S : Nat → Prop} {w w1 : World} {t : TypeId} {pat : List Value} {v : Value} (h : MkSl w t pat S v) (hF : Fr X w w1) (hS : ∀ g cur, S g → w.heap[g]? = some (.cells cur t) → ¬ X g) : MkSl w1 t pat S v := by
  obtain ⟨ad, n, cap, e, hn, h⟩ := h
  refine ⟨ad, n, cap, e, hn, ?_⟩
  rcases h with h | ⟨g, cur, e1, e2, e3, e4⟩
  · exact Or.inl h
  · exact Or.inr ⟨g, cur, e1, e2, hF.heap e3 (hS g cur e2 e3), e4⟩
theorem MkSl.weaken {S S' : Nat → Prop} {w : World} {t : TypeId} {pat : List Value} {v : Value} (h : MkSl w t pat S v) (hS : ∀ g, g < w.heap.size → S g → S' g) : MkSl w t pat S' v := by
  obtain ⟨ad, n, cap, e, hn, h⟩ := h
  refine ⟨ad, n, cap, e, hn, ?_⟩
  rcases h with h | ⟨g, cur, e1, e2, e3, e4⟩
  · exact Or.inl h
  · exact Or.inr ⟨g, cur, e1, hS g (Array.getElem?_eq_some_iff.1 e3).1 e2, e3, e4⟩

/-- A version with a mark. -/
abbrev patV (m : ByteArray) : List Value := [.int .i64 0, .int .i64 0, .string m]
/-- A text that is a mark. -/
abbrev patT (m : ByteArray) : List Value := [.string m]

/-- A hold in memory: all its lists read as they were written. -/
def HoldAt (w : World) (h : Nat) (S : Nat → Prop) : Prop :=
  ∃ (vs ts : Value) (m : ByteArray) (vl tl : List Value), w.heap[h]? = some (.cells #[vs, ts, .string m] 110) ∧ m.size ≤ 4 ∧ w.ownsRow 0 67 1 vs vl.length vl ∧ w.ownsRow 0 27 1 ts tl.length tl ∧ vl.length ≤ 9 ∧ tl.length ≤ 9 ∧
    (∀ v ∈ vl, MkSl w 88 (patV m) S v) ∧ ∀ v ∈ tl, MkSl w 9 (patT m) S v

theorem HoldAt.frame {X S : Nat → Prop} {w w1 : World} {h : Nat} (H : HoldAt w h S) (hF : Fr X w w1) (hh : ¬ X h) (hv : ∀ g cur, w.heap[g]? = some (.cells cur 67) → ¬ X g) (ht : ∀ g cur, w.heap[g]? = some (.cells cur 27) → ¬ X g) (hS : ∀ g cur, S g → w.heap[g]? = some (.cells cur 88) → ¬ X g) (hS' : ∀ g cur, S g → w.heap[g]? = some (.cells cur 9) → ¬ X g) : HoldAt w1 h S := by
  obtain ⟨vs, ts, m, vl, tl, h1, h2, h3, h4, h5, h6, h7, h8⟩ := H
  exact ⟨vs, ts, m, vl, tl, hF.heap h1 hh, h2, hF.rowT h3 hv, hF.rowT h4 ht, h5, h6, fun v hv => (h7 v hv).frame hF hS, fun v hv => (h8 v hv).frame hF hS'⟩
theorem HoldAt.weaken {S S' : Nat → Prop} {w : World} {h : Nat} (H : HoldAt w h S) (hS : ∀ g, g < w.heap.size → S g → S' g) : HoldAt w h S' := by
  obtain ⟨vs, ts, m, vl, tl, h1, h2, h3, h4, h5, h6, h7, h8⟩ := H
  exact ⟨vs, ts, m, vl, tl, h1, h2, h3, h4, h5, h6, fun v hv => (h7 v hv).weaken hS, fun v hv => (h8 v hv).weaken hS⟩
theorem HoldAt.lt {S : Nat → Prop} {w : World} {h : Nat} (H : HoldAt w h S) : h < w.heap.size := by
  obtain ⟨vs, ts, m, vl, tl, h1, _⟩ := H
  exact (Array.getElem?_eq_some_iff.1 h1).1
theorem HoldAt.typed {S : Nat → Prop} {w : World} {h : Nat} (H : HoldAt w h S) : ∃ cur, w.heap[h]? = some (.cells cur 110) := by
  obtain ⟨vs, ts, m, vl, tl, h1, _⟩ := H
  exact ⟨_, h1⟩

def ptrV (b : Nat) : Value := .pointer (some ⟨b, 0, none⟩)
/-- A pair's two cells. -/
def encP (g : PG) : List Value := [ptrV g.b, ptrV g.rb]

/-- The law's world in memory. -/
structure LawAt (w : World) (wb : Nat) (pv hv : Value) (gs : List PG) (hs : List Nat) : Prop where
  blk : w.heap[wb]? = some (.cells #[pv, .slice none 0 0, hv] 30)
  prow : w.ownsRow 0 47 2 pv gs.length (gs.flatMap encP)
  hrow : w.ownsRow 0 61 1 hv hs.length (hs.map ptrV)
  pairs : ∀ g ∈ gs, PairAt w g
  apart : ∀ i j (hi : i < gs.length) (hj : j < gs.length), i ≠ j → Apart gs[i] gs[j]
  holds : ∀ h ∈ hs, HoldAt w h fun _ => True

/-- A pair is kept where none of its blocks turns. -/
theorem PairAt.frame {X : Nat → Prop} {w w1 : World} {g : PG} (h : PairAt w g) (hF : Fr X w w1) (hb : ¬ X g.b) (hm : ∀ n, n < 64 → ¬ X (g.bm n)) (hr : ¬ X g.rb) (hv : ∀ k cur, w.heap[k]? = some (.cells cur 117) → ¬ X k)
    (hk : ∀ k cur, w.heap[k]? = some (.cells cur 82) → ¬ X k) (ha : ∀ k cur, w.heap[k]? = some (.cells cur 88) → ¬ X k) : PairAt w1 g :=
  ⟨hF.rep h.rep hb hm hv, h.tied.frame hF hr hk fun s k o m c e => by
    obtain ⟨cur, hh⟩ := row_typed (h.tied.at_ s).2 k o m c e
    exact ha k cur hh, h.inv, h.num⟩

theorem PairAt.below {w w1 : World} {g : PG} (h : PairAt w g) (hb : Below w.heap.size w w1) : PairAt w1 g := ⟨h.rep.below hb, h.tied.below hb, h.inv, h.num⟩
theorem HoldAt.below {S : Nat → Prop} {w w1 : World} {h : Nat} (H : HoldAt w h S) (hb : Below w.heap.size w w1) : HoldAt w1 h S :=
  H.frame (X := fun _ => False) (Fr.of_below hb) (fun h => h) (fun _ _ _ h => h) (fun _ _ _ h => h) (fun _ _ _ _ h => h) (fun _ _ _ _ h => h)
theorem LawAt.below {w w1 : World} {wb : Nat} {pv hv : Value} {gs : List PG} {hs : List Nat} (h : LawAt w wb pv hv gs hs) (hb : Below w.heap.size w w1) : LawAt w1 wb pv hv gs hs :=
  ⟨heap_keep h.blk hb, (Fr.of_below (X := fun _ => False) hb).rowT h.prow fun _ _ _ h => h, (Fr.of_below (X := fun _ => False) hb).rowT h.hrow fun _ _ _ h => h, fun g hg => (h.pairs g hg).below hb, h.apart, fun k hk => (h.holds k hk).below hb⟩

/-- The block that a pair's replica lies in, and what it is. -/
theorem PairAt.kinds {w : World} {g : PG} (h : PairAt w g) : (∃ A, w.heap[g.b]? = some (.cells A 66)) ∧ (∀ n, n < 64 → ∃ es c, w.heap[g.bm n]? = some (.map es c)) ∧ ∃ A, w.heap[g.rb]? = some (.cells A 45) := by
  obtain ⟨A, h1, _⟩ := h.rep.1
  refine ⟨⟨A, h1⟩, fun n hn => ?_, ⟨_, h.tied.ref.1⟩⟩
  obtain ⟨es, c, h2, _⟩ := h.rep.2.1 n hn
  exact ⟨es, c, h2⟩

theorem flat_set (gs : List PG) (i : Nat) (hi : i < gs.length) (g' : PG) (hb : g'.b = gs[i].b) (hr : g'.rb = gs[i].rb) : (gs.set i g').flatMap encP = gs.flatMap encP := by
  have e : encP g' = encP gs[i] := by simp [encP, hb, hr]
  rw [List.flatMap_def, List.flatMap_def, List.map_set, e]
  congr 1
  have : encP gs[i] = (gs.map encP)[i]'(by simpa using hi) := by simp
  rw [this]
  exact List.set_getElem_self _

theorem mem_set_or {α : Type} {l : List α} {i : Nat} {a x : α} (h : x ∈ l.set i a) : x = a ∨ ∃ j, ∃ hj : j < l.length, j ≠ i ∧ x = l[j] := by
  obtain ⟨j, hj, rfl⟩ := List.mem_iff_getElem.1 h
  rw [List.length_set] at hj
  by_cases e : i = j
  · subst e; left; simp
  · right; exact ⟨j, hj, fun e' => e e'.symm, by simp [List.getElem_set, e]⟩

/-- One pair has turned, nothing else. -/
theorem LawAt.upd {w w' : World} {wb : Nat} {pv hv : Value} {gs : List PG} {hs : List Nat} (h : LawAt w wb pv hv gs hs) (i : Nat) (hi : i < gs.length) (g' : PG) (hb : g'.b = gs[i].b) (hbm : g'.bm = gs[i].bm) (hrb : g'.rb = gs[i].rb) (hp : PairAt w' g')
    (hF : Fr (fun k => (∃ n, n < 64 ∧ k = gs[i].bm n) ∨ k = gs[i].rb) w w') : LawAt w' wb pv hv (gs.set i g') hs := by
  obtain ⟨kb, km, kr⟩ := (h.pairs gs[i] (List.getElem_mem hi)).kinds
  have hX : ∀ k t cur, w.heap[k]? = some (.cells cur t) → t ≠ 45 → ¬ ((∃ n, n < 64 ∧ k = gs[i].bm n) ∨ k = gs[i].rb) := by
    rintro k t cur hk ht (⟨n, hn, e⟩ | e)
    · obtain ⟨es, c, hm⟩ := km n hn
      rw [e, hm] at hk; cases hk
    · obtain ⟨A, hA⟩ := kr
      rw [e, hA] at hk
      injection hk with hk
      injection hk with _ hk
      exact ht hk.symm
  refine ⟨hF.heap h.blk (hX _ _ _ h.blk (by decide)), ?_, hF.rowT h.hrow fun k cur hk => hX k _ cur hk (by decide), fun g hg => ?_, fun j k hj hk hne => ?_, fun k hk => ?_⟩
  · rw [flat_set gs i hi g' hb hrb, List.length_set]
    exact hF.rowT h.prow fun k cur hk => hX k _ cur hk (by decide)
  · rcases mem_set_or hg with rfl | ⟨j, hj, hne, rfl⟩
    · exact hp
    · have hpj := h.pairs gs[j] (List.getElem_mem hj)
      obtain ⟨⟨A, jb⟩, jm, ⟨C, jr⟩⟩ := hpj.kinds
      obtain ⟨a1, a2⟩ := h.apart j i hj hi hne
      refine hpj.frame hF (hX _ _ _ jb (by decide)) (fun n hn => ?_) ?_ (fun k cur hk => hX k _ cur hk (by decide)) (fun k cur hk => hX k _ cur hk (by decide)) (fun k cur hk => hX k _ cur hk (by decide))
      · rintro (⟨m, hm, e⟩ | e)
        · exact a1 n m hn hm e
        · obtain ⟨es, c, hm⟩ := jm n hn
          obtain ⟨A', hA⟩ := kr
          rw [e, hA] at hm; cases hm
      · rintro (⟨m, hm, e⟩ | e)
        · obtain ⟨es, c, hm⟩ := km m hm
          rw [e, hm] at jr; cases jr
        · exact a2 e
  · rw [List.length_set] at hj hk
    rw [List.getElem_set, List.getElem_set]
    by_cases ej : i = j
    · by_cases ek : i = k
      · exact absurd (ej.symm.trans ek) hne
      · rw [if_pos ej, if_neg ek]
        obtain ⟨q1, q2⟩ := h.apart i k hi hk ek
        exact ⟨by rw [hbm]; exact q1, by rw [hrb]; exact q2⟩
    · by_cases ek : i = k
      · rw [if_neg ej, if_pos ek]
        obtain ⟨q1, q2⟩ := h.apart j i hj hi (fun e => ej e.symm)
        exact ⟨by rw [hbm]; exact q1, by rw [hrb]; exact q2⟩
      · rw [if_neg ej, if_neg ek]
        exact h.apart j k hj hk hne
  · obtain ⟨cur, ht⟩ := (h.holds k hk).typed
    exact (h.holds k hk).frame hF (hX _ _ _ ht (by decide)) (fun g cur hg => hX g _ cur hg (by decide)) (fun g cur hg => hX g _ cur hg (by decide)) (fun g cur _ hg => hX g _ cur hg (by decide)) (fun g cur _ hg => hX g _ cur hg (by decide))
end Go.Proofs.YtldmcdeibiclkaaGreat

namespace Go.Proofs.YtldmcdeibiclkaaGreat
open Go.RowKit

/-- A pair is kept where none of its blocks turns (the reference's lists named one by one). -/
theorem PairAt.frame2 {X : Nat → Prop} {w w1 : World} {g : PG} (h : PairAt w g) (hF : Fr X w w1) (hb : ¬ X g.b) (hm : ∀ n, n < 64 → ¬ X (g.bm n)) (hr : ¬ X g.rb) (hv : ∀ k cur, w.heap[k]? = some (.cells cur 117) → ¬ X k)
    (hk : ∀ k cur, w.heap[k]? = some (.cells cur 82) → ¬ X k) (ha : ∀ s k o m c, (findK g.l s).2.2 = .slice (some ⟨k, o, none⟩) m c → ¬ X k) : PairAt w1 g :=
  ⟨hF.rep h.rep hb hm hv, h.tied.frame hF hr hk ha, h.inv, h.num⟩

/-- The law's world; all lists of versions and of texts that are held, and those of the references, lie in blocks of S. -/
structure LawS (S : Nat → Prop) (w : World) (wb : Nat) (pv hv : Value) (gs : List PG) (hs : List Nat) : Prop where
  law : LawAt w wb pv hv gs hs
  holds : ∀ h ∈ hs, HoldAt w h S
  refs : ∀ g ∈ gs, ∀ s k o m c, (findK g.l s).2.2 = .slice (some ⟨k, o, none⟩) m c → S k

theorem LawAt.toS {w : World} {wb : Nat} {pv hv : Value} {gs : List PG} {hs : List Nat} (h : LawAt w wb pv hv gs hs) : LawS (fun k => k < w.heap.size) w wb pv hv gs hs :=
  ⟨h, fun k hk => (h.holds k hk).weaken fun g hg _ => hg, fun g hg s k o m c e => by
    obtain ⟨cur, hh⟩ := row_typed ((h.pairs g hg).tied.at_ s).2 k o m c e
    exact (Array.getElem?_eq_some_iff.1 hh).1⟩
theorem LawS.below {S : Nat → Prop} {w w1 : World} {wb : Nat} {pv hv : Value} {gs : List PG} {hs : List Nat} (h : LawS S w wb pv hv gs hs) (hb : Below w.heap.size w w1) : LawS S w1 wb pv hv gs hs :=
  ⟨h.law.below hb, fun k hk => (h.holds k hk).below hb, h.refs⟩
theorem LawS.weaken {S S' : Nat → Prop} {w : World} {wb : Nat} {pv hv : Value} {gs : List PG} {hs : List Nat} (h : LawS S w wb pv hv gs hs) (hS : ∀ k, S k → S' k) : LawS S' w wb pv hv gs hs :=
  ⟨h.law, fun k hk => (h.holds k hk).weaken fun g _ hg => hS g hg, fun g hg s k o m c e => hS k (h.refs g hg s k o m c e)⟩

/-- A hold more stands at the end; of all that was there only the world's own block, the row of the holds and one list have turned. -/
theorem LawS.held {S : Nat → Prop} {w w' : World} {wb : Nat} {pv hv hv' : Value} {gs : List PG} {hs : List Nat} {h : Nat} {X : Nat → Prop} (H : LawS S w wb pv hv gs hs) (S' : Nat → Prop) (hSS : ∀ k, S k → S' k)
    (hblk : w'.heap[wb]? = some (.cells #[pv, .slice none 0 0, hv'] 30)) (hrow : w'.ownsRow 0 61 1 hv' (hs ++ [h]).length ((hs ++ [h]).map ptrV)) (hnew : HoldAt w' h S')
    (hF : Fr X w w') (hX : ∀ k, X k → (∃ cur, w.heap[k]? = some (.cells cur 30)) ∨ (∃ cur, w.heap[k]? = some (.cells cur 61)) ∨ ¬ S k ∧ ((∃ cur, w.heap[k]? = some (.cells cur 88)) ∨ ∃ cur, w.heap[k]? = some (.cells cur 9))) : LawS S' w' wb pv hv' gs (hs ++ [h]) := by
  have hT : ∀ k t cur, w.heap[k]? = some (.cells cur t) → t ≠ 30 → t ≠ 61 → t ≠ 88 → t ≠ 9 → ¬ X k := by
    intro k t cur hk t1 t2 t3 t4 hx
    rcases hX k hx with ⟨c, hc⟩ | ⟨c, hc⟩ | ⟨_, ⟨c, hc⟩ | ⟨c, hc⟩⟩ <;> rw [hc] at hk <;> injection hk with hk <;> injection hk with _ hk
    · exact t1 hk.symm
    · exact t2 hk.symm
    · exact t3 hk.symm
    · exact t4 hk.symm
  have hM : ∀ k es c, w.heap[k]? = some (.map es c) → ¬ X k := by
    intro k es c hk hx
    rcases hX k hx with ⟨c, hc⟩ | ⟨c, hc⟩ | ⟨_, ⟨c, hc⟩ | ⟨c, hc⟩⟩ <;> rw [hc] at hk <;> cases hk
  have hS : ∀ k t cur, S k → w.heap[k]? = some (.cells cur t) → t ≠ 30 → t ≠ 61 → ¬ X k := by
    intro k t cur hs hk t1 t2 hx
    rcases hX k hx with ⟨c, hc⟩ | ⟨c, hc⟩ | ⟨hn, _⟩
    · rw [hc] at hk; injection hk with hk; injection hk with _ hk; exact t1 hk.symm
    · rw [hc] at hk; injection hk with hk; injection hk with _ hk; exact t2 hk.symm
    · exact hn hs
  have hp : ∀ g ∈ gs, PairAt w' g := fun g hg => by
    obtain ⟨⟨A, kb⟩, km, ⟨C, kr⟩⟩ := (H.law.pairs g hg).kinds
    refine (H.law.pairs g hg).frame2 hF (hT _ _ _ kb (by decide) (by decide) (by decide) (by decide)) (fun n hn => ?_) (hT _ _ _ kr (by decide) (by decide) (by decide) (by decide)) (fun k cur hk => hT k _ cur hk (by decide) (by decide) (by decide) (by decide)) (fun k cur hk => hT k _ cur hk (by decide) (by decide) (by decide) (by decide)) fun s k o m c e => ?_
    · obtain ⟨es, c, hm⟩ := km n hn
      exact hM _ es c hm
    · obtain ⟨cur, hh⟩ := row_typed ((H.law.pairs g hg).tied.at_ s).2 k o m c e
      exact hS k _ cur (H.refs g hg s k o m c e) hh (by decide) (by decide)
  have hh : ∀ k ∈ hs, HoldAt w' k S' := fun k hk => by
    obtain ⟨cur, ht⟩ := (H.holds k hk).typed
    exact ((H.holds k hk).frame hF (hT _ _ _ ht (by decide) (by decide) (by decide) (by decide)) (fun g cur hg => hT g _ cur hg (by decide) (by decide) (by decide) (by decide)) (fun g cur hg => hT g _ cur hg (by decide) (by decide) (by decide) (by decide)) (fun g cur hs hg => hS g _ cur hs hg (by decide) (by decide)) (fun g cur hs hg => hS g _ cur hs hg (by decide) (by decide))).weaken fun g _ hg => hSS g hg
  have hall : ∀ k ∈ hs ++ [h], HoldAt w' k S' := fun k hk => by
    rcases List.mem_append.1 hk with hk | hk
    · exact hh k hk
    · rw [List.mem_singleton] at hk; rw [hk]; exact hnew
  exact ⟨⟨hblk, hF.rowT H.law.prow fun k cur hk => hT k _ cur hk (by decide) (by decide) (by decide) (by decide), hrow, hp, H.law.apart, fun k hk => (hall k hk).weaken fun _ _ _ => trivial⟩, hall, fun g hg s k o m c e => hSS k (H.refs g hg s k o m c e)⟩
end Go.Proofs.YtldmcdeibiclkaaGreat

namespace Go.Proofs.YtldmcdeibiclkaaGreat
open Go.RowKit

theorem Tryz.infoHoldP : (Tryz.prog.info? 61).map (fun i => (i.zero, i.size, i.bytes)) = some (some (.pointer none), 1, 8) := by kernel_rfl

/-- The text of four bytes. -/
def markOf (x : Int) : ByteArray := strOfNums [35, x % 256, x / 256 % 256, x / 65536 % 256]
theorem markOf_size (x : Int) : (markOf x).size ≤ 4 := by simp [markOf, strOfNums, ByteArray.size]

theorem conv4 (W : World) (a x y z : Int) : (convert 124 9 (.slice (some ⟨W.heap.size, 0, none⟩) 4 4)).run Tryz.prog (W.alloc (.cells #[.int .u8 a, .int .u8 x, .int .u8 y, .int .u8 z] 5)) = .ok (.string (strOfNums [a, x, y, z])) (W.alloc (.cells #[.int .u8 a, .int .u8 x, .int .u8 y, .int .u8 z] 5)) :=
  run_convert_bytes_arg (P := Tryz.prog) _ 124 5 Tryz.underlying124 Tryz.underlying5 W.heap.size 0 4 4 [a, x, y, z] rfl (fun j hj => by
    have hj' : j < 4 := by simpa using hj
    rw [(cells_of0 (heap_alloc_new W (.cells #[.int .u8 a, .int .u8 x, .int .u8 y, .int .u8 z] 5))).1]
    rcases (show j = 0 ∨ j = 1 ∨ j = 2 ∨ j = 3 by omega) with rfl | rfl | rfl | rfl <;> rfl) 9 Tryz.underlying9

/-- A row's block is of the row's own type. -/
theorem row_apart {w : World} {B n size k : Nat} {t t' : TypeId} {v : Value} {xs : List Value} {cur : Array Value} (h : w.ownsRow B t size v n xs) (hk : w.heap[k]? = some (.cells cur t')) (hne : t ≠ t') : some k ≠ v.ownBlock := by
  intro e
  rcases h.2 with ⟨h1, _⟩ | ⟨g, cap, c, hv, _, hh, _⟩
  · rw [h1] at e; cases e
  · rw [hv] at e
    simp [Value.ownBlock] at e
    rw [← e, hk] at hh
    injection hh with hh
    injection hh with _ hh
    exact hne hh.symm
theorem map_snoc (hs : List Nat) (h : Nat) : (hs ++ [h]).map ptrV = hs.map ptrV ++ [.pointer (some ⟨h, 0, none⟩)] := by simp [ptrV]

set_option maxRecDepth 100000 in
set_option maxHeartbeats 4000000 in
theorem next_any (wb : Nat) (pv lv hv : Value) (hs : List Nat) (w : World) (hblk : w.heap[wb]? = some (.cells #[pv, lv, hv] 30)) (hrow : w.ownsRow 0 61 1 hv hs.length (hs.map ptrV)) (hlen : hs.length ≤ 9000000000000) :
    Calls Tryz.prog 67 #[.pointer (some ⟨wb, 0, none⟩)] w fun e w' => ∃ (h : Nat) (m : ByteArray) (hv' : Value), e = .returned (ptrV h) ∧ m.size ≤ 4 ∧ w.heap.size ≤ h ∧ w'.heap[h]? = some (.cells #[.slice none 0 0, .slice none 0 0, .string m] 110) ∧ w'.heap[wb]? = some (.cells #[pv, lv, hv'] 30) ∧
      w'.ownsRow 0 61 1 hv' (hs ++ [h]).length ((hs ++ [h]).map ptrV) ∧ Fr (fun k => k = wb ∨ hv.ownBlock = some k) w w' ∧ ∀ k, hv'.ownBlock = some k → hv.ownBlock = some k ∨ w.heap.size ≤ k := by
  obtain ⟨ad, cap, rfl, hcap, hlc⟩ := row_lenA hrow
  obtain ⟨i0, hi0, hz0, hz1, hz2⟩ := info_parts Tryz.infoHoldP
  have hwb : wb < w.heap.size := (Array.getElem?_eq_some_iff.1 hblk).1
  have HB : Hid (w.heap[wb]? = some (.cells #[pv, lv, .slice ad hs.length cap] 30)) := hblk
  have HR : Hid (w.ownsRow 0 61 1 (.slice ad hs.length cap) hs.length (hs.map ptrV)) := hrow
  have hc := cells_of0 hblk
  have hc2 : w.cell? ⟨wb, 2, none⟩ = some (.slice ad hs.length cap) := by rw [hc.1]; rfl
  have hf2 : w.frozen? ⟨wb, 2, none⟩ = false := hc.2 2
  have hl0 : (0 : Int) ≤ (hs.length : Int) := by omega
  have hcv := conv4 w 35 ((hs.length : Int) % 256) ((hs.length : Int) / 256 % 256) ((hs.length : Int) / 65536 % 256)
  have Hm4 : Hid ((strOfNums [35, (hs.length : Int) % 256, (hs.length : Int) / 256 % 256, (hs.length : Int) / 65536 % 256]).size ≤ 4) := markOf_size _
  generalize strOfNums [35, (hs.length : Int) % 256, (hs.length : Int) / 256 % 256, (hs.length : Int) / 65536 % 256] = m at *
  have HNe : Hid (some wb ≠ (Value.slice ad hs.length cap).ownBlock) := row_apart hrow hblk (by decide)
  have HNe2 : Hid (∀ k, w.heap.size ≤ k → some k ≠ (Value.slice ad hs.length cap).ownBlock) := fun k hk e => by
    have := (hrow.lt k e.symm).2
    omega
  have HT : Hid (∀ A B C, (((w.alloc A).alloc B).alloc C).heap[w.heap.size + 1 + 1]? = some C) := fun A B C => by
    have := heap_alloc_new ((w.alloc A).alloc B) C
    simpa using this
  have HBw : Hid (∀ A B C, (((w.alloc A).alloc B).alloc C).heap[wb]? = some (.cells #[pv, lv, .slice ad hs.length cap] 30)) := fun A B C => by
    rw [Below.heap_alloc _ _ _ (by simp; omega), Below.heap_alloc _ _ _ (by simp; omega), Below.heap_alloc _ _ _ hwb]; exact hblk
  clear hblk hrow hc
  go_enter Tryz.func67, Tryz.ntmps67
  go_wp2_with (first
    | (at_builtin; refine wpList_append_lies _ rfl _ _ _ rfl 0 61 i0 _ 1 8 Tryz.underlying28 hi0 hz0 hz1 hz2 rfl (by omega) (.slice ad hs.length cap) _ _ rfl (((HR.out.alloc _).alloc _).alloc _) ⟨w.heap.size + 1 + 1, 0, none⟩ 1 1 [.pointer (some ⟨w.heap.size + 1, 0, none⟩)] rfl rfl (World.news_of_block (cs := #[.pointer (some ⟨w.heap.size + 1, 0, none⟩)]) (t := 61) (fr := (0, 0)) (HT.out _ _ _)) (by simp [Value.oneCell']) (by omega) (by unfold maxLen; omega) (by omega) (Nat.zero_le _) _ rfl ?_; intro gg capn w4 hown4 hgrow4 hat4 hlt4; have HO4 : Hid (w4.ownsRow 0 61 1 (.slice (some ⟨gg, 0, none⟩) (hs.length + 1) capn) (hs.length + 1) (hs.map ptrV ++ [.pointer (some ⟨w.heap.size + 1, 0, none⟩)])) := hown4; have HG4 : Hid _ := hgrow4; have hb4 := (HG4.out.block wb (by simp; omega) HNe.out).trans (HBw.out _ _ _); obtain ⟨c4, f4⟩ := cells_of0 hb4; have hc4 := c4 2; have hf4 := f4 2; have Hb4 : Hid _ := hb4; have HA4 : Hid ((Value.slice ad hs.length cap).ownBlock = some gg ∨ gg = (((w.alloc _).alloc _).alloc _).heap.size) := hat4; clear hown4 hgrow4 hat4 hlt4 hb4 c4 f4))
  go_ret
  have hz := HG4.out.size
  simp only [size_allocW] at hz
  refine ⟨w.heap.size + 1, m, .slice (some ⟨gg, 0, none⟩) (hs.length + 1) capn, rfl, Hm4.out, by omega, ?_, ?_, ?_, ?_, ?_⟩
  · rw [Below.heap_setCell _ _ _ _ (show w.heap.size + 1 ≠ wb by omega), HG4.out.block (w.heap.size + 1) (by simp) (HNe2.out _ (by omega)), Below.heap_alloc _ _ _ (by simp)]
    have := heap_alloc_new (w.alloc (.cells #[.int .u8 35, .int .u8 ((hs.length : Int) % 256), .int .u8 ((hs.length : Int) / 256 % 256), .int .u8 ((hs.length : Int) / 65536 % 256)] 5)) (.cells #[.slice none 0 0, .slice none 0 0, .string m] 110)
    simpa using this
  · rw [heap_set Hb4.out]; rfl
  · rw [map_snoc, List.length_append, List.length_singleton]
    refine (Fr.setCell (X := fun k => k = wb) (Fr.refl _ _) (Or.inr rfl) _).rowT HO4.out fun g cur hg e => ?_
    have e' : g = wb := e
    rw [e', Hb4.out] at hg
    exact absurd hg (by simp)
  · exact Fr.setCell (X := fun k => k = wb ∨ (Value.slice ad hs.length cap).ownBlock = some k) ((((Fr.refl _ w).alloc _).alloc _).alloc _ |>.grown HG4.out fun k e _ => Or.inr e) (Or.inr (Or.inl rfl)) _
  · intro k e
    have e' : gg = k := by simpa [Value.ownBlock] using e
    subst e'
    rcases HA4.out with h4 | h4
    · exact Or.inl h4
    · right
      rw [h4]; simp; omega
end Go.Proofs.YtldmcdeibiclkaaGreat
