/-
  The net behind a write or a delete.
-/
import Derived.Test.YtldmcdeibiclkaaDoorN6c
import Derived.Test.YtldmcdeibiclkaaDoorP5
set_option linter.unusedVariables false
set_option linter.unusedSimpArgs false
namespace Go.Proofs.YtldmcdeibiclkaaDoor
open Go.RowKit

/-- What a write or a delete at replica i may turn: the net's block, one of the maps of the replica, rows of writes. -/
structure Turns (X : Nat → Prop) (w : World) (bt i n0 : Nat) (g : NetG) : Prop where
  only : ∀ b, X b → b = bt ∨ b = g.bm i n0 ∨ ∃ cur, w.heap[b]? = some (.cells cur 83 (0, 0))
  hi : i < g.nr
  hn : n0 < 64

theorem NetAt.map {B : Nat} {w : World} {bt i n : Nat} {g : NetG} (hN : NetAt B w bt g) (hi : i < g.nr) (hn : n < 64) : ∃ es clock, w.heap[g.bm i n]? = some (.map es clock) := by
  obtain ⟨es, clock, h, _⟩ := (hN.hrep i hi).2.1 n hn
  exact ⟨es, clock, h⟩

/-- A block of cells of another tag does not turn. -/
theorem Turns.cells {X : Nat → Prop} {B : Nat} {w : World} {bt i n0 : Nat} {g : NetG} (ht : Turns X w bt i n0 g) (hN : NetAt B w bt g) {b : Nat} {C : Array Value} {t : TypeId} {fr : Nat × Nat} (hb : w.heap[b]? = some (.cells C t fr)) (h1 : t ≠ 44) (h2 : t ≠ 83) : ¬ X b := fun h => by
  rcases ht.only b h with e | e | ⟨cur, e⟩
  · rw [e, hN.hT] at hb; cases hb; exact h1 rfl
  · obtain ⟨es, clock, hm⟩ := hN.map ht.hi ht.hn
    rw [e, hm] at hb; cases hb
  · rw [e] at hb; cases hb; exact h2 rfl

theorem Turns.other {X : Nat → Prop} {B : Nat} {w : World} {bt i n0 : Nat} {g : NetG} (ht : Turns X w bt i n0 g) (hN : NetAt B w bt g) {j n : Nat} (hj : j < g.nr) (hn : n < 64) (hne : j ≠ i) : ¬ X (g.bm j n) := fun h => by
  obtain ⟨es, clock, hm⟩ := hN.map hj hn
  rcases ht.only _ h with e | e | ⟨cur, e⟩
  · rw [e, hN.hT] at hm; cases hm
  · exact hne (hN.hdis j i n n0 hj ht.hi hn ht.hn e)
  · rw [hm] at e; cases e

theorem Turns.rep {X : Nat → Prop} {B : Nat} {w w2 : World} {bt i n0 : Nat} {g : NetG} (ht : Turns X w bt i n0 g) (hN : NetAt B w bt g) (hF : Fr X w w2) {j : Nat} (hj : j < g.nr) (hne : j ≠ i) : RepAt w2 (g.b j) (g.bm j) j (g.K j) := by
  refine hF.rep (hN.hrep j hj) ?_ (fun n hn => ht.other hN hj hn hne) (fun b cur hb => ht.cells hN hb (by decide) (by decide))
  obtain ⟨⟨A, hA, _⟩, _⟩ := hN.hrep j hj
  exact ht.cells hN hA (by decide) (by decide)

theorem KOk.upd {K : Know} {key : ByteArray} {c : Ctx} {l : List Ver} (h : KOk K) (h1 : ∀ v ∈ l, v.rep < 4) (h2 : l.length ≤ 100000) (h3 : ∀ v ∈ l, v.val.size ≤ 12) (h4 : ∀ i, i < 4 → 0 ≤ c i ∧ c i ≤ 1000000) : KOk (updK K key (c, l)) := by
  intro s
  by_cases e : s = key
  · simp only [updK, if_pos e]; exact ⟨h1, h2, h3, h4⟩
  · simp only [updK, if_neg e]; exact h s

theorem Good.bounds {ws : List Wr} {k : Nat} {c : Ctx} {m : Nat → Bool} (h : Good ws k c m) (hl : ws.length ≤ 80) (b : Nat) : 0 ≤ c b ∧ c b ≤ 80 := by
  have h1 := h.2.2 b
  have h2 := cntW_le ws b k
  omega
theorem NetInv.known {ks : Nat → ByteArray} {g : NetG} (hI : NetInv ks g) {i k : Nat} (hi : i < g.nr) (hk : k < 3) (j : Nat) (x : Wr) (hx : g.ws[j]? = some x) (h : g.kn i k j = true) : x.2.1 = k ∧ x.1 < 4 :=
  ⟨(((hI.hgood i k hi hk).1 j x hx).1 h).1, hI.hby x (List.mem_of_getElem? hx)⟩

/-- The ghosts behind a delete that has seen some. -/
def NetG.deleted (g : NetG) (ks : Nat → ByteArray) (i k : Nat) (m : Mem) (A : Array Value) : NetG :=
  { g with
    K := fun j => if j = i then updK (g.K i) (ks k) (bothC (g.K i (ks k)).1 m.1, unseenL (g.K i (ks k)).2 m.1) else g.K j
    kn := fun j l q => if j = i ∧ l = k then g.kn i k q || m.2 q else g.kn j l q
    go := fun j l q => if j = i ∧ l = k then g.go i k q || m.2 q else g.go j l q
    A := A }

theorem NetInv.deleted {ks : Nat → ByteArray} {g : NetG} (hI : NetInv ks g) (hks : ∀ k l, k < 3 → l < 3 → ks k = ks l → k = l) {i k : Nat} {m : Mem} (A : Array Value) (hi : i < g.nr) (hk : k < 3) (hm : Good g.ws k m.1 m.2) : NetInv ks (g.deleted ks i k m A) where
  hnr := hI.hnr
  hlen := hI.hlen
  hseq := hI.hseq
  hval := hI.hval
  hby := hI.hby
  hgood := fun j l hj hl => by
    simp only [NetG.deleted]
    by_cases e : j = i
    · subst e
      by_cases e' : l = k
      · subst e'
        simpa [updK] using (hI.hgood j l hi hl).join hm
      · have hne : ks l ≠ ks k := fun q => e' (hks l k hl hk q)
        simpa [updK, e', hne] using hI.hgood j l hj hl
    · simpa [e] using hI.hgood j l hj hl
  hown := fun j l hj hl => by
    simp only [NetG.deleted]
    by_cases e : j = i
    · subst e
      by_cases e' : l = k
      · subst e'
        have h1 := hI.hown j l hj hl
        have h2 := (hm.2.2 j).2
        simp only [if_true, updK, bothC]
        omega
      · have hne : ks l ≠ ks k := fun q => e' (hks l k hl hk q)
        simpa [updK, hne] using hI.hown j l hj hl
    · simpa [e] using hI.hown j l hj hl
  hex := fun j l hj hl => by
    simp only [NetG.deleted]
    by_cases e : j = i
    · subst e
      by_cases e' : l = k
      · subst e'
        simp only [if_true, updK, and_self]
        rw [hI.hex j l hj hl]
        exact delete_expected (m := m.2) (fun q x hx hxk => by rw [hm.1 q x hx]; exact ⟨fun h => h.2, fun h => ⟨hxk, h⟩⟩) (fun _ _ => rfl) (fun _ _ => rfl)
      · have hne : ks l ≠ ks k := fun q => e' (hks l k hl hk q)
        simpa [updK, e', hne] using hI.hex j l hj hl
    · simpa [e] using hI.hex j l hj hl
  hgone := fun j l q hj hl hq => by
    simp only [NetG.deleted]
    by_cases e : j = i ∧ l = k
    · rw [if_pos e, hI.hgone i k q hi hk hq, hm.2.1 q hq]; rfl
    · rw [if_neg e]; exact hI.hgone j l q hj hl hq
  hmemG := hI.hmemG
  hmemN := hI.hmemN
  hkok := fun j hj => by
    simp only [NetG.deleted]
    by_cases e : j = i
    · subst e
      rw [if_pos rfl]
      have hK := hI.hkok j hj
      refine hK.upd (fun v hv => (hK (ks k)).1 v (List.mem_filter.1 hv).1) (Nat.le_trans (List.length_filter_le _ _) (hK (ks k)).2.1) (fun v hv => (hK (ks k)).2.2.1 v (List.mem_filter.1 hv).1) fun b _ => ?_
      have h1 := ((hI.hgood j k hj hk).join hm).bounds hI.hlen b
      omega
    · rw [if_neg e]; exact hI.hkok j hj

/-- The net in memory behind a delete that has seen some. -/
theorem NetAt.deleted {X : Nat → Prop} {B : Nat} {w w2 : World} {bt : Nat} {g : NetG} {ks : Nat → ByteArray} {i k n0 : Nat} {m : Mem} {A : Array Value} (hN : NetAt B w bt g) (hF : Fr X w w2) (hX : ∀ b, X b → b = bt ∨ b = g.bm i n0) (hi : i < g.nr) (hi4 : i < 4) (hk : k < 3) (hn : n0 < 64)
    (hT : w2.heap[bt]? = some (.cells A 44)) (hA : A.size = 1939) (hrep : RepAt w2 (g.b i) (g.bm i) i (updK (g.K i) (ks k) (bothC (g.K i (ks k)).1 m.1, unseenL (g.K i (ks k)).2 m.1)))
    (hg : ∀ j, j < 80 → A[962 + i * 240 + k * 80 + j]? = some (.bool (g.go i k j || m.2 j))) (hkn : ∀ j, j < 80 → A[2 + i * 240 + k * 80 + j]? = some (.bool (g.kn i k j || m.2 j)))
    (ho : ∀ q, (q < 2 + i * 240 + k * 80 ∨ 2 + i * 240 + k * 80 + 80 ≤ q) → (q < 962 + i * 240 + k * 80 ∨ 962 + i * 240 + k * 80 + 80 ≤ q) → A[q]? = g.A[q]?) : NetAt B w2 bt (g.deleted ks i k m A) := by
  have ht : Turns X w bt i n0 g := ⟨fun b h => by rcases hX b h with e | e; exact Or.inl e; exact Or.inr (Or.inl e), hi, hn⟩
  have hwr : ∀ b cur, w.heap[b]? = some (.cells cur 83 (0, 0)) → ¬ X b := fun b cur hb h => by
    rcases hX b h with e | e
    · rw [e, hN.hT] at hb; cases hb
    · obtain ⟨es, clock, hm'⟩ := hN.map hi hn
      rw [e, hm'] at hb; cases hb
  exact {
    hB := hN.hB
    hT := hT
    hA := hA
    h0 := by show A[0]? = _; rw [ho 0 (by omega) (by omega)]; exact hN.h0
    hR := hF.heap hN.hR (ht.cells hN hN.hR (by decide) (by decide))
    hRi := hN.hRi
    hrep := fun j hj => by
      simp only [NetG.deleted]
      by_cases e : j = i
      · subst e; rw [if_pos rfl]; exact hrep
      · rw [if_neg e]; exact ht.rep hN hF hj e
    hdis := hN.hdis
    h1 := by show A[1]? = _; rw [ho 1 (by omega) (by omega)]; exact hN.h1
    hw := hF.row' hN.hw hwr
    hkn := fun j l q hj hl hq => by
      simp only [NetG.deleted]
      by_cases e : j = i ∧ l = k
      · obtain ⟨rfl, rfl⟩ := e
        rw [if_pos ⟨rfl, rfl⟩]; exact hkn q hq
      · rw [if_neg e, ho _ (by omega) (by omega)]; exact hN.hkn j l q hj hl hq
    hgo := fun j l q hj hl hq => by
      simp only [NetG.deleted]
      by_cases e : j = i ∧ l = k
      · obtain ⟨rfl, rfl⟩ := e
        rw [if_pos ⟨rfl, rfl⟩]; exact hg q hq
      · rw [if_neg e, ho _ (by omega) (by omega)]; exact hN.hgo j l q hj hl hq
    hmv := fun l hl => by show A[1922 + l]? = _; rw [ho _ (by omega) (by omega)]; exact hN.hmv l hl
    hmem := fun l hl => hF.row' (hN.hmem l hl) fun b cur hb => ht.cells hN hb (by decide) (by decide)
    hgm := hN.hgm
    hcnt := fun j l hj hl => by show A[1927 + j * 3 + l]? = _; rw [ho _ (by omega) (by omega)]; exact hN.hcnt j l hj hl }
end Go.Proofs.YtldmcdeibiclkaaDoor
