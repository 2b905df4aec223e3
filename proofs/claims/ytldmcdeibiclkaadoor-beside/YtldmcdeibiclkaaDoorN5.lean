/-
  The net in memory, and what holds of it between two calls.
-/
import Derived.Test.YtldmcdeibiclkaaDoorG1
import Derived.Test.YtldmcdeibiclkaaDoorN4
import Derived.Test.YtldmcdeibiclkaaDoorP4
set_option linter.unusedVariables false
set_option linter.unusedSimpArgs false
namespace Go.Proofs.YtldmcdeibiclkaaDoor
open Go.RowKit

/-- What a client remembers: a context, and a set of writes. -/
abbrev Mem := Ctx × (Nat → Bool)
/-- The cells of one. -/
def encM (m : Mem) : List Value := [.int .i64 (m.1 0), .int .i64 (m.1 1), .int .i64 (m.1 2), .int .i64 (m.1 3)] ++ (bits m.2).toList
def flatM (l : List Mem) : List Value := l.flatMap encM
theorem encM_length (m : Mem) : (encM m).length = 84 := by simp [encM, bits_size]
theorem flatM_length : ∀ l : List Mem, (flatM l).length = l.length * 84
  | [] => rfl
  | m :: l => by
    have := flatM_length l
    simp only [flatM, List.flatMap_cons, List.length_append, encM_length, List.length_cons] at *
    omega
theorem flatM_append (a b : List Mem) : flatM (a ++ b) = flatM a ++ flatM b := by simp [flatM]
theorem flatM_get : ∀ (l : List Mem) (r : Nat) (h : r < l.length) (j : Nat), j < 84 → (flatM l)[r * 84 + j]? = (encM l[r])[j]?
  | m :: l, 0, _, j, hj => by
    simp only [flatM, List.flatMap_cons, Nat.zero_mul, Nat.zero_add, List.getElem_cons_zero]
    rw [List.getElem?_append_left (by rw [encM_length]; exact hj)]
  | m :: l, r + 1, h, j, hj => by
    have := flatM_get l r (by simpa using h) j hj
    simp only [flatM, List.flatMap_cons, List.getElem_cons_succ] at *
    rw [List.getElem?_append_right (by rw [encM_length]; omega), encM_length, show (r + 1) * 84 + j - 84 = r * 84 + j by omega]
    exact this

/-- The ghosts of a net. -/
structure NetG where
  nr : Nat
  br : Nat
  capr : Nat
  R : Array Value
  b : Nat → Nat
  bm : Nat → Nat → Nat
  K : Nat → Know
  ws : List Wr
  wv : Value
  kn : Nat → Nat → Nat → Bool
  go : Nat → Nat → Nat → Bool
  mem : Nat → List Mem
  gm : Nat → Nat
  capm : Nat → Nat
  A : Array Value

abbrev NetG.mv (g : NetG) (k : Nat) : Value := .slice (some ⟨g.gm k, 0, none⟩) (g.mem k).length (g.capm k)

/-- The net lies at block bt. -/
structure NetAt (B : Nat) (w : World) (bt : Nat) (g : NetG) : Prop where
  hB : B ≤ bt ∧ (∀ i n, i < g.nr → n < 64 → B ≤ g.bm i n)
  hT : w.heap[bt]? = some (.cells g.A 44)
  hA : g.A.size = 1939
  h0 : g.A[0]? = some (.slice (some ⟨g.br, 0, none⟩) g.nr g.capr)
  hR : w.heap[g.br]? = some (.cells g.R 45)
  hRi : ∀ i, i < g.nr → g.R[i]? = some (.pointer (some ⟨g.b i, 0, none⟩))
  hrep : ∀ i, i < g.nr → RepAt w (g.b i) (g.bm i) i (g.K i)
  hdis : ∀ i j n m, i < g.nr → j < g.nr → n < 64 → m < 64 → g.bm i n = g.bm j m → i = j
  h1 : g.A[1]? = some g.wv
  hw : w.ownsRow B 83 4 g.wv g.ws.length (flatW g.ws)
  hkn : ∀ i k j, i < 4 → k < 3 → j < 80 → g.A[2 + i * 240 + k * 80 + j]? = some (.bool (g.kn i k j))
  hgo : ∀ i k j, i < 4 → k < 3 → j < 80 → g.A[962 + i * 240 + k * 80 + j]? = some (.bool (g.go i k j))
  hmv : ∀ k, k < 3 → g.A[1922 + k]? = some (g.mv k)
  hmem : ∀ k, k < 3 → w.ownsRow B 59 84 (g.mv k) (g.mem k).length (flatM (g.mem k))
  hgm : ∀ k l, k < 3 → l < 3 → g.gm k = g.gm l → k = l
  hcnt : ∀ i k, i < 4 → k < 3 → g.A[1927 + i * 3 + k]? = some (.int .i64 (cntW g.ws i k))

/-- What holds of its contents. -/
structure NetInv (ks : Nat → ByteArray) (g : NetG) : Prop where
  hnr : 1 ≤ g.nr ∧ g.nr ≤ 4
  hlen : g.ws.length ≤ 80
  hseq : SeqOk g.ws
  hval : ∀ x ∈ g.ws, x.2.2.2.size ≤ 12
  hby : ∀ x ∈ g.ws, x.1 < 4
  hgood : ∀ i k, i < g.nr → k < 3 → Good g.ws k (g.K i (ks k)).1 (g.kn i k)
  hown : ∀ i k, i < g.nr → k < 3 → (g.K i (ks k)).1 i = cntW g.ws i k
  hex : ∀ i k, i < g.nr → k < 3 → (g.K i (ks k)).2 = expected g.ws (g.kn i k) (g.go i k) k
  hgone : ∀ i k j, i < g.nr → k < 3 → g.ws.length ≤ j → g.go i k j = false
  hmemG : ∀ k m, k < 3 → m ∈ g.mem k → Good g.ws k m.1 m.2
  hmemN : ∀ k, k < 3 → 1 ≤ (g.mem k).length ∧ (g.mem k).length ≤ 30
  hkok : ∀ i, i < g.nr → KOk (g.K i)

/-- The keys of the statement lie at block 0. -/
structure KeysAt (w : World) (ks : Nat → ByteArray) : Prop where
  cell : ∀ k, k < 3 → w.cell? ⟨0, k, none⟩ = some (.string (ks k))
  key : ∀ k, k < 3 → keyB (ks k) = true ∧ (ks k).size ≤ 8
  ne : ∀ k l, k < 3 → l < 3 → ks k = ks l → k = l

/-- Which blocks the net's reading leans on; what is none of them may turn. -/
structure Apart (X : Nat → Prop) (w : World) (bt : Nat) (g : NetG) : Prop where
  t : ¬ X bt
  r : ¬ X g.br
  rep : ∀ i, i < g.nr → ¬ X (g.b i)
  map : ∀ i n, i < g.nr → n < 64 → ¬ X (g.bm i n)
  ver : ∀ k cur, w.heap[k]? = some (.cells cur 91 (0, 0)) → ¬ X k
  wr : ∀ k cur, w.heap[k]? = some (.cells cur 83 (0, 0)) → ¬ X k
  mem : ∀ k cur, w.heap[k]? = some (.cells cur 59 (0, 0)) → ¬ X k

theorem Fr.row' {X : Nat → Prop} {w w1 : World} {B n size : Nat} {t : TypeId} {v : Value} {xs : List Value} (h : Fr X w w1) (hr : w.ownsRow B t size v n xs) (hn : ∀ k cur, w.heap[k]? = some (.cells cur t (0, 0)) → ¬ X k) : w1.ownsRow B t size v n xs := by
  obtain ⟨h1, h2⟩ := hr
  refine ⟨h1, ?_⟩
  rcases h2 with h2 | ⟨g, cap, cur, hv, hg, hh, r⟩
  · exact Or.inl h2
  · exact Or.inr ⟨g, cap, cur, hv, hg, h.heap hh (hn _ _ hh), r⟩

theorem NetAt.fr {X : Nat → Prop} {w w1 : World} {B bt : Nat} {g : NetG} (hn : NetAt B w bt g) (h : Fr X w w1) (ha : Apart X w bt g) : NetAt B w1 bt g where
  hB := hn.hB
  hT := h.heap hn.hT ha.t
  hA := hn.hA
  h0 := hn.h0
  hR := h.heap hn.hR ha.r
  hRi := hn.hRi
  hrep := fun i hi => h.rep (hn.hrep i hi) (ha.rep i hi) (fun n hm => ha.map i n hi hm) ha.ver
  hdis := hn.hdis
  h1 := hn.h1
  hw := h.row' hn.hw ha.wr
  hkn := hn.hkn
  hgo := hn.hgo
  hmv := hn.hmv
  hmem := fun k hk => h.row' (hn.hmem k hk) ha.mem
  hgm := hn.hgm
  hcnt := hn.hcnt

/-- A block of another tag, or none of cells, is apart from the rest. -/
theorem NetAt.apart_tag {w : World} {B bt bx : Nat} {g : NetG} {C : Array Value} {t : TypeId} (hn : NetAt B w bt g) (hx : w.heap[bx]? = some (.cells C t)) (h1 : t ≠ 44) (h2 : t ≠ 45) (h3 : t ≠ 68) (h4 : t ≠ 91) (h5 : t ≠ 83) (h6 : t ≠ 59) : Apart (fun k => k = bx) w bt g where
  t := fun e => by have := hn.hT; rw [e, hx] at this; cases this; exact h1 rfl
  r := fun e => by have := hn.hR; rw [e, hx] at this; cases this; exact h2 rfl
  rep := fun i hi e => by obtain ⟨⟨A, hA, _⟩, _⟩ := hn.hrep i hi; rw [e, hx] at hA; cases hA; exact h3 rfl
  map := fun i n hi hm e => by obtain ⟨_, hS, _⟩ := hn.hrep i hi; obtain ⟨es, clock, h, _⟩ := hS n hm; rw [e, hx] at h; cases h
  ver := fun k cur h e => by rw [e, hx] at h; cases h; exact h4 rfl
  wr := fun k cur h e => by rw [e, hx] at h; cases h; exact h5 rfl
  mem := fun k cur h e => by rw [e, hx] at h; cases h; exact h6 rfl
end Go.Proofs.YtldmcdeibiclkaaDoor
