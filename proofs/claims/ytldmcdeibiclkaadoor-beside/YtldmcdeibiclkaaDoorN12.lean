/-
  The net behind a Get that is remembered.
-/
import Derived.Test.YtldmcdeibiclkaaDoorN8
import Derived.Test.YtldmcdeibiclkaaDoorN11
set_option linter.unusedVariables false
set_option linter.unusedSimpArgs false
namespace Go.Proofs.YtldmcdeibiclkaaDoor
open Go.RowKit

/-- The ghosts behind a Get that is remembered. -/
def NetG.remember (g : NetG) (ks : Nat → ByteArray) (i k gg ca : Nat) (A : Array Value) : NetG :=
  { g with
    mem := fun l => if l = k then g.mem k ++ [((g.K i (ks k)).1, g.kn i k)] else g.mem l
    gm := fun l => if l = k then gg else g.gm l
    capm := fun l => if l = k then ca else g.capm l
    A := A }

theorem NetInv.remember {ks : Nat → ByteArray} {g : NetG} (hI : NetInv ks g) {i k gg ca : Nat} (A : Array Value) (hi : i < g.nr) (hk : k < 3) (hl : (g.mem k).length < 30) : NetInv ks (g.remember ks i k gg ca A) where
  hnr := hI.hnr
  hlen := hI.hlen
  hseq := hI.hseq
  hval := hI.hval
  hby := hI.hby
  hgood := hI.hgood
  hown := hI.hown
  hex := hI.hex
  hgone := hI.hgone
  hmemG := fun l m hl' hm => by
    simp only [NetG.remember] at hm ⊢
    by_cases e : l = k
    · subst e
      rw [if_pos rfl] at hm
      rcases List.mem_append.1 hm with hm | hm
      · exact hI.hmemG l m hl' hm
      · rw [List.mem_singleton.1 hm]; exact hI.hgood i l hi hk
    · rw [if_neg e] at hm; exact hI.hmemG l m hl' hm
  hmemN := fun l hl' => by
    simp only [NetG.remember]
    by_cases e : l = k
    · subst e
      rw [if_pos rfl, List.length_append, List.length_singleton]; omega
    · rw [if_neg e]; exact hI.hmemN l hl'
  hkok := hI.hkok

/-- The net in memory behind a Get that is remembered. -/
theorem NetAt.remember {B : Nat} {w w2 : World} {bt : Nat} {g : NetG} {ks : Nat → ByteArray} {i k gg ca : Nat} {A : Array Value} (hN : NetAt B w bt g) (hF : Fr (fun b => b = bt ∨ b = g.gm k) w w2) (hk : k < 3) (hL : 0 < (g.mem k).length)
    (hmp : ∀ l, l < 3 → 0 < (g.mem l).length) (hT : w2.heap[bt]? = some (.cells A 44)) (hA : A.size = 1939) (hmv : A[1922 + k]? = some (.slice (some ⟨gg, 0, none⟩) ((g.mem k).length + 1) ca)) (ho : ∀ q, q ≠ 1922 + k → A[q]? = g.A[q]?)
    (hmem : w2.ownsRow B 59 84 (.slice (some ⟨gg, 0, none⟩) ((g.mem k).length + 1) ca) ((g.mem k).length + 1) (flatM (g.mem k) ++ encM ((g.K i (ks k)).1, g.kn i k))) (hgg : gg = g.gm k ∨ w.heap.size ≤ gg) : NetAt B w2 bt (g.remember ks i k gg ca A) := by
  have hgmk : ∀ l, l < 3 → ∃ cur, w.heap[g.gm l]? = some (.cells cur 59 (0, 0)) := fun l hl => by
    rcases (hN.hmem l hl).2 with ⟨h1, _⟩ | ⟨g', cap, cur, hv, _, hh, _⟩
    · cases h1
    · cases hv; exact ⟨cur, hh⟩
  obtain ⟨curk, hck⟩ := hgmk k hk
  have hcell : ∀ {b : Nat} {C : Array Value} {t : TypeId} {fr : Nat × Nat}, w.heap[b]? = some (.cells C t fr) → t ≠ 44 → t ≠ 59 → ¬ (b = bt ∨ b = g.gm k) := fun hb h1 h2 h => by
    rcases h with e | e
    · rw [e, hN.hT] at hb; cases hb; exact h1 rfl
    · rw [e, hck] at hb; cases hb; exact h2 rfl
  have hmap : ∀ {b : Nat} {es : Array MapEntry} {clock : Nat}, w.heap[b]? = some (.map es clock) → ¬ (b = bt ∨ b = g.gm k) := fun hb h => by
    rcases h with e | e
    · rw [e, hN.hT] at hb; cases hb
    · rw [e, hck] at hb; cases hb
  exact {
    hB := hN.hB
    hT := hT
    hA := hA
    h0 := by show A[0]? = _; rw [ho 0 (by omega)]; exact hN.h0
    hR := hF.heap hN.hR (hcell hN.hR (by decide) (by decide))
    hRi := hN.hRi
    hrep := fun j hj => by
      refine hF.rep (hN.hrep j hj) ?_ (fun n hn => ?_) (fun b cur hb => hcell hb (by decide) (by decide))
      · obtain ⟨⟨C, hC, _⟩, _⟩ := hN.hrep j hj
        exact hcell hC (by decide) (by decide)
      · obtain ⟨es, clock, hm⟩ := hN.map hj hn
        exact hmap hm
    hdis := hN.hdis
    h1 := by show A[1]? = _; rw [ho 1 (by omega)]; exact hN.h1
    hw := hF.row' hN.hw (fun b cur hb => hcell hb (by decide) (by decide))
    hkn := fun j l q hj hl hq => by show A[2 + j * 240 + l * 80 + q]? = _; rw [ho _ (by omega)]; exact hN.hkn j l q hj hl hq
    hgo := fun j l q hj hl hq => by show A[962 + j * 240 + l * 80 + q]? = _; rw [ho _ (by omega)]; exact hN.hgo j l q hj hl hq
    hmv := fun l hl => by
      simp only [NetG.remember, NetG.mv]
      by_cases e : l = k
      · subst e
        simp only [if_true, List.length_append, List.length_singleton]; exact hmv
      · simp only [if_neg e]; rw [ho _ (by omega)]; exact hN.hmv l hl
    hmem := fun l hl => by
      simp only [NetG.remember, NetG.mv]
      by_cases e : l = k
      · subst e
        simp only [if_true, List.length_append, List.length_singleton, flatM_append]
        rw [show flatM [((g.K i (ks l)).1, g.kn i l)] = encM ((g.K i (ks l)).1, g.kn i l) by simp [flatM]]
        exact hmem
      · simp only [if_neg e]
        refine hF.row (hN.hmem l hl) (fun g' o l' c hv h => ?_)
        cases hv
        rcases h with h | h
        · obtain ⟨cur, hc⟩ := hgmk l hl
          rw [h, hN.hT] at hc; cases hc
        · exact e (hN.hgm l k hl hk h)
    hgm := fun l l' hl hl' he => by
      simp only [NetG.remember] at he
      by_cases e : l = k
      · by_cases e' : l' = k
        · rw [e, e']
        · simp only [if_pos e, if_neg e'] at he
          rcases hgg with h | h
          · rw [h] at he; rw [e]; exact hN.hgm k l' hk hl' he
          · obtain ⟨cur, hc⟩ := hgmk l' hl'
            have := (Array.getElem?_eq_some_iff.1 hc).1
            omega
      · by_cases e' : l' = k
        · simp only [if_neg e, if_pos e'] at he
          rcases hgg with h | h
          · rw [h] at he; rw [e']; exact hN.hgm l k hl hk he
          · obtain ⟨cur, hc⟩ := hgmk l hl
            have := (Array.getElem?_eq_some_iff.1 hc).1
            omega
        · simp only [if_neg e, if_neg e'] at he
          exact hN.hgm l l' hl hl' he
    hcnt := fun j l hj hl => by show A[1927 + j * 3 + l]? = _; rw [ho _ (by omega)]; exact hN.hcnt j l hj hl }

/-! Building. -/
def okBld : Value → Value → Prop
  | .agg a, .agg b => a.size = 4 ∧ b.size = 80
  | _, _ => False
def bldM : Value → Value → Value
  | .agg a, .agg b => .agg (a ++ b)
  | _, _ => undef
theorem okBld_agg (a b : Array Value) : okBld (.agg a) (.agg b) = (a.size = 4 ∧ b.size = 80) := rfl
theorem bldM_agg (a b : Array Value) : bldM (.agg a) (.agg b) = .agg (a ++ b) := rfl
theorem build_exec (f : Operand → Value) (d : Option Tmp) (x y : Operand) (ty : TypeId) (pos : String) (aft : Array Edge) (gd : Option (Nat × Bool)) (w : World) (h : okBld (f x) (f y)) :
    (execOp f { dst := d, op := .build 59 #[(0, x), (1, y)], type := ty, pos := pos, after := aft, guard := gd }).run Tryd.prog w = .ok (.value (bldM (f x) (f y))) w := by
  unfold okBld at h
  split at h
  · rename_i a b hx hy
    rw [hx, hy, bldM_agg]
    unfold execOp
    simp only [List.map_toArray, List.map_cons, List.map_nil, hx, hy, Sem.run_bind, build_mem w a b h.1 h.2, Result.andThen_ok]
    rfl
  · exact h.elim
def okBS : Value → Prop
  | .agg cs => cs.size = 84
  | _ => False
def aggC : Value → Array Value
  | .agg cs => cs
  | _ => #[]
theorem okBS_agg (cs : Array Value) : okBS (.agg cs) = (cs.size = 84) := rfl
theorem aggC_agg (cs : Array Value) : aggC (.agg cs) = cs := rfl
theorem bslice_wp (d : Option Tmp) (x : Operand) (ty : TypeId) (pos : String) (aft : Array Edge) (gd : Option (Nat × Bool)) (a : Act) (w : World) (K : Act → World → Prop) (Q : Exit → Act → World → Prop) (h : okBS (a.eval x)) :
    Oper.wp Tryd.prog { dst := d, op := .buildSlice 38 1 #[(0, x)], type := ty, pos := pos, after := aft, guard := gd } a w K Q = K (a.put d (.slice (some ⟨w.heap.size, 0, none⟩) 1 1)) (w.alloc (.cells (aggC (a.eval x)) 59)) := by
  unfold okBS at h
  split at h
  · rename_i cs hx
    rw [hx, aggC_agg]
    unfold Oper.wp execOp
    simp only [List.map_toArray, List.map_cons, List.map_nil, hx, Sem.run_bind, buildSlice_mem w cs h, Result.andThen_ok]
    rfl
  · exact h.elim
theorem encM_arr (c : Ctx) (s : Nat → Bool) : #[Value.int .i64 (c 0), .int .i64 (c 1), .int .i64 (c 2), .int .i64 (c 3)] ++ bits s = (encM (c, s)).toArray := by
  apply Array.ext'
  simp [encM]
end Go.Proofs.YtldmcdeibiclkaaDoor
