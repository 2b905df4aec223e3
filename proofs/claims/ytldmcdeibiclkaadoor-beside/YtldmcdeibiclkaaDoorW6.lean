/-
  Contract: State.unseenBy: a new row with the versions that a context has not seen.
-/
import Derived.Test.YtldmcdeibiclkaaDoorW1
import Derived.Deep.AppendLies
import Derived.WalkSmall
set_option linter.unusedVariables false
set_option linter.unusedSimpArgs false
namespace Go.Proofs.YtldmcdeibiclkaaDoor
open Go.RowKit

/-- A row's cells. -/
def flatV (l : List Ver) : List Value := l.flatMap encV
theorem flatV_length (l : List Ver) : (flatV l).length = l.length * 3 := by
  induction l with
  | nil => rfl
  | cons v l ih => simp only [flatV, List.flatMap_cons, List.length_append, List.length_cons] at *; rw [ih]; simp [encV]; omega
theorem flatV_append (a b : List Ver) : flatV (a ++ b) = flatV a ++ flatV b := by simp [flatV]

/-- The versions that a context has not seen. -/
def unseenL (l : List Ver) (c : Ctx) : List Ver := l.filter fun v => !seenB c v

/-- A slice value holds these versions. -/
def VSl (w : World) (sv : Value) (l : List Ver) : Prop := w.ownsRow 0 91 3 sv l.length (flatV l)

theorem flatV_get (l : List Ver) (k : Nat) (h : k < l.length) :
    (flatV l)[k * 3]? = some (.int .i64 l[k].rep) ∧ (flatV l)[k * 3 + 1]? = some (.int .i64 l[k].n) ∧ (flatV l)[k * 3 + 2]? = some (.string l[k].val) := by
  induction l generalizing k with
  | nil => simp at h
  | cons v l ih =>
    have e : flatV (v :: l) = encV v ++ flatV l := by simp [flatV]
    cases k with
    | zero => simp [e, encV]
    | succ k =>
      have h' : k < l.length := by simpa using h
      have := ih k h'
      rw [e]
      simp only [List.getElem_cons_succ]
      have e0 : (k + 1) * 3 = k * 3 + 3 := by omega
      rw [e0]
      refine ⟨?_, ?_, ?_⟩
      · rw [List.getElem?_append_right (by simp [encV])]; simpa [encV] using this.1
      · rw [List.getElem?_append_right (by simp [encV])]; simp only [encV, List.length_cons, List.length_nil]; rw [show k * 3 + 3 + 1 - (0 + 1 + 1 + 1) = k * 3 + 1 from by omega]; exact this.2.1
      · rw [List.getElem?_append_right (by simp [encV])]; simp only [encV, List.length_cons, List.length_nil]; rw [show k * 3 + 3 + 2 - (0 + 1 + 1 + 1) = k * 3 + 2 from by omega]; exact this.2.2

/-- An element's three cells. -/
theorem VSl.cells {w : World} {sv : Value} {l : List Ver} (h : VSl w sv l) {k : Nat} (hk : k < l.length) :
    ∃ g cap, sv = .slice (some ⟨g, 0, none⟩) l.length cap ∧ g < w.heap.size ∧ l.length ≤ cap ∧ cap ≤ maxLen ∧
      w.cell? ⟨g, k * 3, none⟩ = some (.int .i64 l[k].rep) ∧ w.cell? ⟨g, k * 3 + 1, none⟩ = some (.int .i64 l[k].n) ∧ w.cell? ⟨g, k * 3 + 2, none⟩ = some (.string l[k].val) := by
  obtain ⟨h1, h2⟩ := h
  rcases h2 with ⟨_, h2⟩ | ⟨g, cap, cur, hv, _, hh, hn, hc, hs, ht⟩
  · omega
  · refine ⟨g, cap, hv, (Array.getElem?_eq_some_iff.1 hh).1, hn, hc, ?_⟩
    have hf := flatV_get l k hk
    have key : ∀ j v, j < l.length * 3 → (flatV l)[j]? = some v → w.cell? ⟨g, j, none⟩ = some v := by
      intro j v hj hv
      simp only [World.cell?, hh]
      rw [← ht, List.getElem?_take, if_pos hj] at hv
      simpa using hv
    exact ⟨key _ _ (by omega) hf.1, key _ _ (by omega) hf.2.1, key _ _ (by omega) hf.2.2⟩

theorem cell_new (w : World) (cs : Array Value) (t : TypeId) (o : Nat) : (w.alloc (.cells cs t)).cell? ⟨w.heap.size, o, none⟩ = cs[o]? := by
  simp only [World.cell?, heap_alloc_new]
  rfl
theorem ownsRow_keep {w w' : World} {base : Nat} {e : TypeId} {size : Nat} {v : Value} {n : Nat} {xs : List Value} (h : w.ownsRow base e size v n xs) (hk : ∀ g, g < w.heap.size → v.ownBlock = some g → w'.heap[g]? = w.heap[g]?) : w'.ownsRow base e size v n xs := by
  refine ⟨h.1, ?_⟩
  rcases h.2 with h2 | ⟨g, cap, cur, hv, hg, hh, r⟩
  · exact Or.inl h2
  · exact Or.inr ⟨g, cap, cur, hv, hg, by rw [hk g (Array.getElem?_eq_some_iff.1 hh).1 (by rw [hv]; rfl)]; exact hh, r⟩
theorem ownsRow_below {w w' : World} {B base : Nat} {e : TypeId} {size : Nat} {v : Value} {n : Nat} {xs : List Value} (h : w.ownsRow base e size v n xs) (hb : Below B w w') (hB : w.heap.size ≤ B) : w'.ownsRow base e size v n xs :=
  ownsRow_keep h fun g hg _ => hb.block g (by omega)
theorem ownsRow_base {w : World} {base base' : Nat} {e : TypeId} {size : Nat} {v : Value} {n : Nat} {xs : List Value} (h : w.ownsRow base e size v n xs) (hb : base' ≤ base) : w.ownsRow base' e size v n xs := by
  refine ⟨h.1, ?_⟩
  rcases h.2 with h2 | ⟨g, cap, cur, hv, hg, r⟩
  · exact Or.inl h2
  · exact Or.inr ⟨g, cap, cur, hv, by omega, r⟩

theorem Tryd.infoVer : (Tryd.prog.info? 91).map (fun i => (i.zero, i.size, i.bytes)) = some (some (.agg #[.int .i64 0, .int .i64 0, .string ⟨#[]⟩]), 3, 32) := by kernel_rfl

theorem unseen_snoc (l : List Ver) (c : Ctx) (k : Nat) (h : k < l.length) : unseenL (l.take (k + 1)) c = unseenL (l.take k) c ++ (if seenB c l[k] = true then [] else [l[k]]) := by
  rw [List.take_succ_eq_append_getElem h]
  simp only [unseenL, List.filter_append]
  congr 1
  cases hs : seenB c l[k] <;> simp [hs]

set_option maxRecDepth 100000 in
set_option maxHeartbeats 1000000 in
theorem unseenBy_any (c : Ctx) (sv : Value) (l : List Ver) (seen : Ctx) (w : World) (h : VSl w sv l) (hr : ∀ v ∈ l, v.rep < 4) (hlen : l.length ≤ 100000) :
    Calls Tryd.prog 27 #[.agg #[.int .i64 (c 0), .int .i64 (c 1), .int .i64 (c 2), .int .i64 (c 3), sv], ctxV seen] w fun e w' => ∃ v', e = .returned v' ∧ w'.ownsRow w.heap.size 91 3 v' (unseenL l seen).length (flatV (unseenL l seen)) ∧ Below w.heap.size w w' := by
  obtain ⟨ad, cap, hsv, hcap⟩ : ∃ ad cap, sv = .slice ad l.length cap ∧ (cap : Int) ≤ 9223372036854775807 := by
    rcases h.2 with ⟨h1, h2⟩ | ⟨g, cap, cur, hv, _, _, _, h3, _⟩
    · exact ⟨_, _, by rw [h1, h2], by simp⟩
    · exact ⟨_, _, hv, by unfold maxLen at h3; omega⟩
  subst hsv
  have H : Hid _ := h
  have HR : Hid _ := hr
  clear h hr
  go_enter Tryd.func27, Tryd.ntmps27
  go_wp2
  go_loopw [5, 11] (fun lf i wr => ∃ k : Nat, k ≤ l.length ∧ i = .int .i64 k ∧ Hid (wr.ownsRow (w.heap.size + 2) 91 3 lf (unseenL (l.take k) seen).length (flatV (unseenL (l.take k) seen))) ∧ Hid (Below (w.heap.size + 2) ((w.alloc (.cells #[.int .i64 (c 0), .int .i64 (c 1), .int .i64 (c 2), .int .i64 (c 3), .slice ad l.length cap] 73)).alloc (.cells #[.int .i64 (seen 0), .int .i64 (seen 1), .int .i64 (seen 2), .int .i64 (seen 3)] 69)) wr)) (fun _ i _ => l.length - (intOf i).toNat)
  case atStart => exact ⟨0, by omega, rfl, ⟨by simp [flatV, unseenL], Or.inl ⟨rfl, by simp [unseenL]⟩⟩, Below.refl _ _⟩
  case round =>
    obtain ⟨k, hk, rfl, hown, hbel⟩ := hrel
    by_cases hlt : k < l.length
    · obtain ⟨g, cap', hsv', hg, _, _, c0, c1, c2⟩ := VSl.cells H.out hlt
      have hrk : Hid (l[k].rep < 4) := HR.out _ (List.getElem_mem hlt)
      have hsn := unseen_snoc l seen k hlt
      have HS : Hid _ := hsn
      clear hsn
      generalize hrr : l[k].rep = r at *
      generalize hnn : l[k].n = n at *
      generalize hvv : l[k].val = s at *
      have Hvk : Hid (l[k] = (r, n, s)) := by rw [← hrr, ← hnn, ← hvv]; rfl
      clear hrr hnn hvv
      cases hsv'
      have hb := hbel.out
      have hsz : w.heap.size + 2 ≤ wr.heap.size := by have := hb.size; simp at this; omega
      have old : ∀ o, wr.cell? ⟨g, o, none⟩ = w.cell? ⟨g, o, none⟩ := fun o => by
        rw [hb.cell (p := ⟨g, o, none⟩) (by simp; omega), World.cell?_alloc_lt _ _ _ (by simp; omega), World.cell?_alloc_lt _ _ _ (by simp; omega)]
      have d0 : wr.cell? ⟨g, k * 3, none⟩ = some (.int .i64 r) := (old _).trans c0
      have d1 : wr.cell? ⟨g, k * 3 + 1, none⟩ = some (.int .i64 n) := (old _).trans c1
      have d2 : wr.cell? ⟨g, k * 3 + 2, none⟩ = some (.string s) := (old _).trans c2
      have sbox : ∀ o, wr.cell? ⟨w.heap.size + 1, o, none⟩ = #[Value.int .i64 (seen 0), .int .i64 (seen 1), .int .i64 (seen 2), .int .i64 (seen 3)][o]? := fun o => by
        rw [hb.cell (p := ⟨w.heap.size + 1, o, none⟩) (by simp)]
        exact World.cell?_alloc_at _ _ _ _ (by simp)
      have s0 := sbox 0
      have s1 := sbox 1
      have s2 := sbox 2
      have s3 := sbox 3
      simp at s0 s1 s2 s3
      have g63 : (k : Int) < (l.length : Int) := by omega
      have k0 : (0 : Int) ≤ (k : Int) := by omega
      have Hc : Hid _ := And.intro c0 (And.intro c1 c2)
      clear c0 c1 c2 old sbox hb
      have a0 : ∀ ob, (wr.alloc ob).cell? ⟨w.heap.size + 1, 0, none⟩ = some (.int .i64 (seen 0)) := fun ob => by rw [World.cell?_alloc_lt _ _ _ (by simp; omega)]; exact s0
      have a1 : ∀ ob, (wr.alloc ob).cell? ⟨w.heap.size + 1, 1, none⟩ = some (.int .i64 (seen 1)) := fun ob => by rw [World.cell?_alloc_lt _ _ _ (by simp; omega)]; exact s1
      have a2 : ∀ ob, (wr.alloc ob).cell? ⟨w.heap.size + 1, 2, none⟩ = some (.int .i64 (seen 2)) := fun ob => by rw [World.cell?_alloc_lt _ _ _ (by simp; omega)]; exact s2
      have a3 : ∀ ob, (wr.alloc ob).cell? ⟨w.heap.size + 1, 3, none⟩ = some (.int .i64 (seen 3)) := fun ob => by rw [World.cell?_alloc_lt _ _ _ (by simp; omega)]; exact s3
      clear s0 s1 s2 s3
      have hrk' := hrk.out
      have e1 : ∀ w1, Below (wr.heap.size + 1) (wr.alloc (.cells #[.int .i64 r, .int .i64 n, .string s] 91)) w1 → Below (w.heap.size + 2) ((w.alloc (.cells #[.int .i64 (c 0), .int .i64 (c 1), .int .i64 (c 2), .int .i64 (c 3), .slice (some ⟨g, 0, none⟩) l.length cap] 73)).alloc (.cells #[.int .i64 (seen 0), .int .i64 (seen 1), .int .i64 (seen 2), .int .i64 (seen 3)] 69)) w1 := fun w1 hw => (hbel.out.alloc (by omega) _).trans (hw.mono (by omega))
      have E1 : Hid _ := e1
      clear e1
      have E2 : Hid (∀ w1, Below (wr.heap.size + 1) (wr.alloc (.cells #[.int .i64 r, .int .i64 n, .string s] 91)) w1 → w1.ownsRow (w.heap.size + 2) 91 3 u5 (unseenL (List.take k l) seen).length (flatV (unseenL (List.take k l) seen))) := fun w1 hw => ownsRow_below (ownsRow_below hown.out ((Below.refl wr.heap.size wr).alloc (Nat.le_refl _) _) (Nat.le_refl _)) hw (by simp)
      have hseq : seenB seen l[k] = decide (n ≤ seen r) := by rw [Hvk.out]; rfl
      have HQ : Hid _ := hseq
      clear hseq
      by_cases hseen : n ≤ seen r
      · have HS' : Hid (unseenL (List.take (k + 1) l) seen = unseenL (List.take k l) seen) := by
          have := HS.out; rw [HQ.out, if_pos (by simpa using hseen), List.append_nil] at this; exact this
        clear HS
        have hd : decide (n ≤ seen r) = true := by simpa using hseen
        clear hseen
        go_wp2_with (go_at_call 34; refine (hasSeen_any seen r n _ hrk').mono ?_; rintro e w1 ⟨rfl, hb1⟩; simp at hb1)
        exact ⟨⟨k + 1, by omega, by go_num, by rw [HS'.out]; exact E2.out _ hb1, E1.out _ hb1⟩, by simp [intOf]; omega⟩
      · have HS' : Hid (unseenL (List.take (k + 1) l) seen = unseenL (List.take k l) seen ++ [(r, n, s)]) := by
          have := HS.out; rw [HQ.out, if_neg (by simpa using hseen), Hvk.out] at this; exact this
        clear HS
        obtain ⟨i0, hi0, hz0, hz1, hz2⟩ := info_parts Tryd.infoVer
        have hd : decide (n ≤ seen r) = false := by simpa using hseen
        clear hseen
        have hul : Hid ((unseenL (List.take k l) seen).length ≤ 100000) := Nat.le_trans (List.length_filter_le _ _) (by simp; omega)
        go_wp2_with (first
          | (go_at_call 34; refine (hasSeen_any seen r n _ hrk').mono ?_; rintro e w1 ⟨rfl, hb1⟩; simp at hb1; have v0 : w1.cell? ⟨wr.heap.size, 0, none⟩ = some (.int .i64 r) := (hb1.cell (p := ⟨wr.heap.size, 0, none⟩) (by simp)).trans (cell_new _ _ _ _); have v1 : w1.cell? ⟨wr.heap.size, 1, none⟩ = some (.int .i64 n) := (hb1.cell (p := ⟨wr.heap.size, 1, none⟩) (by simp)).trans (cell_new _ _ _ _); have v2 : w1.cell? ⟨wr.heap.size, 2, none⟩ = some (.string s) := (hb1.cell (p := ⟨wr.heap.size, 2, none⟩) (by simp)).trans (cell_new _ _ _ _); have z1 : w.heap.size + 2 ≤ w1.heap.size := by (have := hb1.size; simp at this; omega))
          | (at_builtin; refine wpList_append_lies _ rfl _ _ _ rfl (w.heap.size + 2) 91 i0 _ 3 32 Tryd.underlying71 hi0 hz0 hz1 hz2 rfl (by omega) u5 _ _ rfl ((E2.out _ hb1).alloc _) ⟨w1.heap.size, 0, none⟩ 1 1 [.int .i64 r, .int .i64 n, .string s] rfl rfl (World.news_of_block (cs := #[.int .i64 r, .int .i64 n, .string s]) (t := 91) (fr := (0, 0)) (heap_alloc_new w1 _)) (by simp [Value.oneCell']) (by omega) (by have := hul.out; unfold maxLen; omega) (by have := hul.out; omega) (by simp; omega) (w1.heap.size + 1) (by simp) ?_; intro gg capn w2 hown2 hgrow hat hlt2))
        refine ⟨⟨k + 1, by omega, by go_num, ?_, ?_⟩, by simp [intOf]; omega⟩
        · rw [HS'.out, flatV_append, List.length_append]; exact hown2
        · have hB := (E1.out _ hb1).alloc (by omega) (.cells #[.int .i64 r, .int .i64 n, .string s] 91)
          refine hB.grown hgrow (by simp; omega) fun q hq => ?_
          rcases hown.out.2 with ⟨h1, _⟩ | ⟨g1, cap1, cur1, hv1, hg1, _⟩
          · rw [h1] at hq; cases hq
          · rw [hv1] at hq; simp [Value.ownBlock] at hq; omega
    · have hkl : k = l.length := by omega
      have HK : Hid (List.take k l = l) := List.take_of_length_le (by omega)
      have HO : Hid _ := hown.out
      clear hown
      go_wp2
      go_ret
      refine ⟨_, rfl, ?_, ?_⟩
      · have := HO.out; rw [HK.out] at this; exact ownsRow_base this (by omega)
      · exact ((((Below.refl _ _).alloc (Nat.le_refl _) _).alloc (by simp) _).trans (hbel.out.mono (by omega)))
end Go.Proofs.YtldmcdeibiclkaaDoor
