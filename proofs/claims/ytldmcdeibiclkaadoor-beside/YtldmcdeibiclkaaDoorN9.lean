/-
  The net behind a write.
-/
import Derived.Test.YtldmcdeibiclkaaDoorN8
set_option linter.unusedVariables false
set_option linter.unusedSimpArgs false
namespace Go.Proofs.YtldmcdeibiclkaaDoor
open Go.RowKit

theorem expected_unknown {ws : List Wr} {kn go : Nat → Bool} {k : Nat} (x : Wr) (h : kn ws.length = false) : expected (ws ++ [x]) kn go k = expected ws kn go k := by
  have hw : ∀ j, j < ws.length → (ws ++ [x])[j]? = ws[j]? := fun j hj => List.getElem?_append_left hj
  have hl : (ws ++ [x])[ws.length]? = some x := by simp
  unfold expected
  refine flatMap_congr' _ fun b _ => ?_
  rw [List.length_append, List.length_singleton, ofBy_miss hl (fun q => by rw [h] at q; exact absurd q.2.2.1 (by decide)), ofBy_congr hw (fun _ _ => Iff.rfl)]

theorem mem_expected {ws : List Wr} {kn go : Nat → Bool} {k : Nat} {v : Ver} (h : v ∈ expected ws kn go k) : v.rep < 4 ∧ ∃ x ∈ ws, v.val = x.2.2.2 := by
  unfold expected at h
  obtain ⟨b, hb, hv⟩ := List.mem_flatMap.1 h
  obtain ⟨j, x, _, hx, _, _, _, _, rfl⟩ := mem_ofBy hv
  exact ⟨List.mem_range.1 hb, x, List.mem_of_getElem? hx, rfl⟩

theorem cntW_snoc (ws : List Wr) (i k : Nat) (n : Int) (val : ByteArray) (j l : Nat) : cntW (ws ++ [(i, k, n, val)]) j l = cntW ws j l + (if i = j ∧ k = l then 1 else 0) := by
  rw [cntW_append]; simp [cntW]

/-- The write that is made. -/
def NetG.newW (g : NetG) (i k : Nat) (val : ByteArray) : Wr := (i, k, cntW g.ws i k + 1, val)
/-- The ghosts behind a write. -/
def NetG.put (g : NetG) (ks : Nat → ByteArray) (i k : Nat) (m : Mem) (val : ByteArray) (l' : List Ver) (wv : Value) (A : Array Value) : NetG :=
  { g with
    K := fun j => if j = i then updK (g.K i) (ks k) (bump (bothC (g.K i (ks k)).1 m.1) i, l') else g.K j
    ws := g.ws ++ [g.newW i k val]
    wv := wv
    kn := fun j l q => if j = i ∧ l = k then (if q = g.ws.length then true else g.kn i k q || m.2 q) else g.kn j l q
    go := fun j l q => if j = i ∧ l = k then g.go i k q || m.2 q else g.go j l q
    A := A }

theorem NetInv.put {ks : Nat → ByteArray} {g : NetG} (hI : NetInv ks g) (hks : ∀ k l, k < 3 → l < 3 → ks k = ks l → k = l) {i k : Nat} {m : Mem} {val : ByteArray} {l' : List Ver} (wv : Value) (A : Array Value) (hi : i < g.nr) (hk : k < 3) (hm : Good g.ws k m.1 m.2) (hval : val.size ≤ 12) (hlen : g.ws.length < 80)
    (hp : l'.Perm (unseenL (g.K i (ks k)).2 m.1 ++ [(i, bothC (g.K i (ks k)).1 m.1 i + 1, val)])) (hs : l'.Pairwise fun a b => ltV b a = false) : NetInv ks (g.put ks i k m val l' wv A) := by
  have hi4 : i < 4 := Nat.lt_of_lt_of_le hi hI.hnr.2
  have hbi : bothC (g.K i (ks k)).1 m.1 i = cntW g.ws i k := by
    have h1 := hI.hown i k hi hk
    have h2 := (hm.2.2 i).2
    simp only [bothC]; omega
  have hseq : SeqOk (g.ws ++ [g.newW i k val]) := hI.hseq.snoc i k val
  have hl' : l' = expected (g.ws ++ [g.newW i k val]) (fun q => if q = g.ws.length then true else g.kn i k q || m.2 q) (fun q => g.go i k q || m.2 q) k := by
    rw [hbi] at hp
    refine put_expected (m := m.2) (c := m.1) (kn := g.kn i k) (go := g.go i k) hi4 (hI.hex i k hi hk) (fun q x hx hxk => by rw [hm.1 q x hx]; exact ⟨fun h => h.2, fun h => ⟨hxk, h⟩⟩) hp hs hseq.num (fun q hq => ?_) (fun q _ => rfl) (by simp) ?_
    · rw [if_neg (by omega)]
    · simp [hI.hgone i k g.ws.length hi hk (Nat.le_refl _), hm.2.1 g.ws.length (Nat.le_refl _)]
  have hval' : ∀ x ∈ g.ws ++ [g.newW i k val], x.2.2.2.size ≤ 12 := fun x hx => by
    rcases List.mem_append.1 hx with hx | hx
    · exact hI.hval x hx
    · rw [List.mem_singleton.1 hx]; exact hval
  have hgood : Good (g.ws ++ [g.newW i k val]) k (bump (bothC (g.K i (ks k)).1 m.1) i) (fun q => if q = g.ws.length then true else g.kn i k q || m.2 q) := by
    refine Good.put hI.hseq ((hI.hgood i k hi hk).join hm) hbi (fun q hq => by rw [if_neg (by omega)]) (by simp) (fun q hq => ?_)
    rw [if_neg (by omega), (hI.hgood i k hi hk).2.1 q (by omega), hm.2.1 q (by omega)]; rfl
  exact {
    hnr := hI.hnr
    hlen := by simp only [NetG.put, List.length_append, List.length_singleton]; omega
    hseq := hseq
    hval := hval'
    hby := fun x hx => by
      rcases List.mem_append.1 hx with hx | hx
      · exact hI.hby x hx
      · rw [List.mem_singleton.1 hx]; exact hi4
    hgood := fun j l hj hl => by
      simp only [NetG.put]
      by_cases e : j = i
      · subst e
        by_cases e' : l = k
        · subst e'
          simpa [updK] using hgood
        · have hne : ks l ≠ ks k := fun q => e' (hks l k hl hk q)
          have hh : Good (g.ws ++ [g.newW j k val]) l (g.K j (ks l)).1 (g.kn j l) := (hI.hgood j l hj hl).other j k val
          simpa [updK, e', hne] using hh
      · have hh : Good (g.ws ++ [g.newW i k val]) l (g.K j (ks l)).1 (g.kn j l) := (hI.hgood j l hj hl).other i k val
        simpa [e] using hh
    hown := fun j l hj hl => by
      simp only [NetG.put, NetG.newW]
      rw [cntW_snoc]
      by_cases e : j = i
      · subst e
        by_cases e' : l = k
        · subst e'
          simp only [if_true, updK, and_self, bump]
          rw [hbi]
        · have hne : ks l ≠ ks k := fun q => e' (hks l k hl hk q)
          have hne' : ¬ k = l := fun q => e' q.symm
          simpa [updK, hne, hne'] using hI.hown j l hj hl
      · have hne' : ¬ i = j := fun q => e q.symm
        simpa [e, hne'] using hI.hown j l hj hl
    hex := fun j l hj hl => by
      simp only [NetG.put]
      by_cases e : j = i
      · subst e
        by_cases e' : l = k
        · subst e'
          simpa [updK] using hl'
        · have hne : ks l ≠ ks k := fun q => e' (hks l k hl hk q)
          have := hI.hex j l hj hl
          rw [← expected_unknown (g.newW j k val) ((hI.hgood j l hj hl).2.1 _ (Nat.le_refl _))] at this
          simpa [updK, e', hne] using this
      · have := hI.hex j l hj hl
        rw [← expected_unknown (g.newW i k val) ((hI.hgood j l hj hl).2.1 _ (Nat.le_refl _))] at this
        simpa [e] using this
    hgone := fun j l q hj hl hq => by
      simp only [NetG.put, List.length_append, List.length_singleton] at hq ⊢
      by_cases e : j = i ∧ l = k
      · rw [if_pos e, hI.hgone i k q hi hk (by omega), hm.2.1 q (by omega)]; rfl
      · rw [if_neg e]; exact hI.hgone j l q hj hl (by omega)
    hmemG := fun l x hl hx => (hI.hmemG l x hl hx).other i k val
    hmemN := hI.hmemN
    hkok := fun j hj => by
      simp only [NetG.put]
      by_cases e : j = i
      · subst e
        rw [if_pos rfl]
        have hb := fun b => hgood.bounds (by simp only [List.length_append, List.length_singleton]; omega) b
        refine (hI.hkok j hj).upd (fun v hv => ?_) ?_ (fun v hv => ?_) fun b _ => by have := hb b; omega
        · rw [hl'] at hv; exact (mem_expected hv).1
        · rw [hl']
          have := expected_len (ws := g.ws ++ [g.newW j k val]) (kn := fun q => if q = g.ws.length then true else g.kn j k q || m.2 q) (go := fun q => g.go j k q || m.2 q) (k := k)
          simp only [List.length_append, List.length_singleton] at this
          omega
        · rw [hl'] at hv
          obtain ⟨_, x, hx, e⟩ := mem_expected hv
          rw [e]; exact hval' x hx
      · rw [if_neg e]; exact hI.hkok j hj }

/-- The net in memory behind a write. -/
theorem NetAt.put {X : Nat → Prop} {B : Nat} {w w2 : World} {bt : Nat} {g : NetG} {ks : Nat → ByteArray} {i k n0 : Nat} {m : Mem} {val : ByteArray} {l' : List Ver} {wv : Value} {A : Array Value} (hN : NetAt B w bt g) (hF : Fr X w w2) (ht : Turns X w bt i n0 g) (hi4 : i < 4) (hk : k < 3) (hlen : g.ws.length < 80)
    (hT : w2.heap[bt]? = some (.cells A 44)) (hA : A.size = 1939) (hrep : RepAt w2 (g.b i) (g.bm i) i (updK (g.K i) (ks k) (bump (bothC (g.K i (ks k)).1 m.1) i, l')))
    (h1 : A[1]? = some wv) (hw : w2.ownsRow B 83 4 wv (g.ws.length + 1) (flatW (g.ws ++ [g.newW i k val]))) (hc : A[1927 + i * 3 + k]? = some (.int .i64 (cntW g.ws i k + 1)))
    (hg : ∀ j, j < 80 → A[962 + i * 240 + k * 80 + j]? = some (.bool (g.go i k j || m.2 j))) (hkn : ∀ j, j < 80 → A[2 + i * 240 + k * 80 + j]? = some (.bool (if j = g.ws.length then true else g.kn i k j || m.2 j)))
    (ho : ∀ q, (q < 2 + i * 240 + k * 80 ∨ 2 + i * 240 + k * 80 + 80 ≤ q) → (q < 962 + i * 240 + k * 80 ∨ 962 + i * 240 + k * 80 + 80 ≤ q) → q ≠ 1 → q ≠ 1927 + i * 3 + k → A[q]? = g.A[q]?) : NetAt B w2 bt (g.put ks i k m val l' wv A) where
  hB := hN.hB
  hT := hT
  hA := hA
  h0 := by show A[0]? = _; rw [ho 0 (by omega) (by omega) (by omega) (by omega)]; exact hN.h0
  hR := hF.heap hN.hR (ht.cells hN hN.hR (by decide) (by decide))
  hRi := hN.hRi
  hrep := fun j hj => by
    simp only [NetG.put]
    by_cases e : j = i
    · subst e; rw [if_pos rfl]; exact hrep
    · rw [if_neg e]; exact ht.rep hN hF hj e
  hdis := hN.hdis
  h1 := h1
  hw := by simp only [NetG.put, List.length_append, List.length_singleton]; exact hw
  hkn := fun j l q hj hl hq => by
    simp only [NetG.put]
    by_cases e : j = i ∧ l = k
    · obtain ⟨rfl, rfl⟩ := e
      rw [if_pos ⟨rfl, rfl⟩]; exact hkn q hq
    · rw [if_neg e, ho _ (by omega) (by omega) (by omega) (by omega)]; exact hN.hkn j l q hj hl hq
  hgo := fun j l q hj hl hq => by
    simp only [NetG.put]
    by_cases e : j = i ∧ l = k
    · obtain ⟨rfl, rfl⟩ := e
      rw [if_pos ⟨rfl, rfl⟩]; exact hg q hq
    · rw [if_neg e, ho _ (by omega) (by omega) (by omega) (by omega)]; exact hN.hgo j l q hj hl hq
  hmv := fun l hl => by show A[1922 + l]? = _; rw [ho _ (by omega) (by omega) (by omega) (by omega)]; exact hN.hmv l hl
  hmem := fun l hl => hF.row' (hN.hmem l hl) fun b cur hb => ht.cells hN hb (by decide) (by decide)
  hgm := hN.hgm
  hcnt := fun j l hj hl => by
    simp only [NetG.put, NetG.newW]
    rw [cntW_snoc]
    by_cases e : i = j ∧ k = l
    · obtain ⟨rfl, rfl⟩ := e
      rw [if_pos ⟨rfl, rfl⟩]; exact hc
    · rw [if_neg e, ho _ (by omega) (by omega) (by omega) (by omega), Int.add_zero]; exact hN.hcnt j l hj hl
end Go.Proofs.YtldmcdeibiclkaaDoor
