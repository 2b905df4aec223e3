/-
  Contract: slices.SortFunc over a row of versions, by their dots.
  Contract: strings.Clone: the same text; nothing that was there turns.
  Contract: State.unseenBy: a new row with the versions that a context has not seen.
  Contracts: State.Delete and State.Put: what is left of a key's state, in new memory.
  Contract: slices.SortFunc on a row of versions that a call owns: the row then holds a permutation, sorted by dots; nothing else that was there turns.
-/
import Derived.Test.YtldmcdeibiclkaaGreatQ02
import Derived.Test.YtldmcdeibiclkaaGreatQ03
import Derived.Deep.AppendLies
import Derived.WalkSmall
set_option linter.unusedVariables false
set_option linter.unusedSimpArgs false

namespace Go.Proofs
open Go.Shelf Go.RowKit Go.Lib Go.Sort
namespace YtldmcdeibiclkaaGreat

theorem cmpI_lt (x y : Int) : cmpI x y < 0 ↔ x < y := by
  unfold cmpI; split <;> (try split) <;> omega
theorem cmpI_eq (x y : Int) : cmpI x y = 0 ↔ x = y := by
  unfold cmpI; split <;> (try split) <;> omega

/-- The order of versions: by rising replicas, then numbers. -/
def ltV (a b : Ver) : Bool := decide (a.rep < b.rep ∨ a.rep = b.rep ∧ a.n < b.n)

theorem ltOf_cmpV : ltOf cmpV = ltV := by
  funext a b
  unfold ltOf cmpV ltV orI
  rw [decide_eq_decide]
  by_cases h : cmpI a.rep b.rep = 0
  · rw [if_pos h, cmpI_lt]; have := (cmpI_eq _ _).1 h; omega
  · rw [if_neg h, cmpI_lt]; have : ¬ (a.rep : Int) = b.rep := fun e => h ((cmpI_eq _ _).2 e); omega

theorem swoV : SWO (ltOf cmpV) := by
  rw [ltOf_cmpV]
  exact { irrefl := fun x => by simp [ltV], trans := fun x y z h1 h2 => by simp [ltV] at *; omega, ntrans := fun x y z h1 h2 => by simp [ltV] at *; omega }

theorem cmpLaysV (blk off size : Nat) (w : World) : CmpLays Tryz.prog 62 #[] encV 3 cmpV blk off size w :=
  fun _ _ _ _ (x y : Ver) => byDot_any x.rep x.n y.rep y.n x.val y.val _

theorem sortV_any (blk off cap : Nat) (d : Array Ver) (w : World) (hH : HoldsK encV 3 w blk off d) (hblk : blk < w.heap.size) (hsz : d.size < 4611686018427387904) :
    Calls Tryz.prog 61 #[.slice (some ⟨blk, off, none⟩) d.size cap, .func (.func 62) #[] #[]] w fun e w' => e = .returned (.tuple #[]) ∧ ∃ d' n os, PermIn 0 d.size d d' ∧ SortedIn ltV 0 d.size d' ∧ w' = sortWorldK encV 3 w blk off n d' os := by
  have eg : ∀ args w, (callFunc 62 args).run Tryz.prog w = .ok (.enter 62 args) w := enters_of Tryz.func62 (by kernel_rfl) rfl
  have hcon := AnyQ.slices_SortFunc Tryz.sortV 3 Tryz.isAgg117 Tryz.sizeOf117 encV (fun _ => rfl) (fun x v hv => by simp [encV] at hv; rcases hv with rfl | rfl | rfl <;> rfl) cmpV swoV 62 #[] blk off cap d w eg (cmpLaysV blk off d.size w) hH hblk hsz
  rw [ltOf_cmpV] at hcon
  exact hcon
end YtldmcdeibiclkaaGreat
end Go.Proofs

namespace Go.Proofs
open Go.Shelf Go.RowKit
namespace YtldmcdeibiclkaaGreat

theorem cloneLite_any (s : ByteArray) (w : World) (hs : s.size ≤ 281474976710656) :
    Calls Tryz.prog 63 #[.string s] w fun e w' => e = .returned (.string s) ∧ Below w.heap.size w w' :=
  Any.stringslite_Clone Tryz.cloneS s w hs

set_option maxHeartbeats 400000 in
theorem clone_any (s : ByteArray) (w : World) (hs : s.size ≤ 281474976710656) :
    Calls Tryz.prog 34 #[.string s] w fun e w' => e = .returned (.string s) ∧ Below w.heap.size w w' := by
  go_enter Tryz.func34, Tryz.ntmps34
  go_wp2_with (go_at_call 63; refine (cloneLite_any s _ hs).mono ?_; rintro e w' ⟨rfl, hb⟩)
  go_ret
  exact ⟨rfl, hb⟩
end YtldmcdeibiclkaaGreat
end Go.Proofs

namespace Go.Proofs.YtldmcdeibiclkaaGreat
open Go.RowKit

/-- A row's cells. -/
def flatV (l : List Ver) : List Value := l.flatMap encV
theorem flatV_length (l : List Ver) : (flatV l).length = l.length * 3 := by
  induction l with
  | nil => rfl
  | cons v l ih => simp only [flatV, List.flatMap_cons, List.length_append, List.length_cons] at *; rw [ih]; simp [encV]; omega
theorem flatV_append (a b : List Ver) : flatV (a ++ b) = flatV a ++ flatV b := by simp [flatV]

/-- The versions that a context has not seen. -/
def unseenL (l : List Ver) (c : Ctx) : List Ver := l.filter fun v => !seenB c v

/-- A slice value holds these versions. -/
def VSl (w : World) (sv : Value) (l : List Ver) : Prop := w.ownsRow 0 117 3 sv l.length (flatV l)

theorem flatV_get (l : List Ver) (k : Nat) (h : k < l.length) :
    (flatV l)[k * 3]? = some (.int .i64 l[k].rep) ∧ (flatV l)[k * 3 + 1]? = some (.int .i64 l[k].n) ∧ (flatV l)[k * 3 + 2]? = some (.string l[k].val) := by
  induction l generalizing k with
  | nil => simp at h
  | cons v l ih =>
    have e : flatV (v :: l) = encV v ++ flatV l := by simp [flatV]
    cases k with
    | zero => simp [e, encV]
    | succ k =>
      have h' : k < l.length := by simpa using h
      have := ih k h'
      rw [e]
      simp only [List.getElem_cons_succ]
      have e0 : (k + 1) * 3 = k * 3 + 3 := by omega
      rw [e0]
      refine ⟨?_, ?_, ?_⟩
      · rw [List.getElem?_append_right (by simp [encV])]; simpa [encV] using this.1
      · rw [List.getElem?_append_right (by simp [encV])]; simp only [encV, List.length_cons, List.length_nil]; rw [show k * 3 + 3 + 1 - (0 + 1 + 1 + 1) = k * 3 + 1 from by omega]; exact this.2.1
      · rw [List.getElem?_append_right (by simp [encV])]; simp only [encV, List.length_cons, List.length_nil]; rw [show k * 3 + 3 + 2 - (0 + 1 + 1 + 1) = k * 3 + 2 from by omega]; exact this.2.2

/-- An element's three cells. -/
theorem VSl.cells {w : World} {sv : Value} {l : List Ver} (h : VSl w sv l) {k : Nat} (hk : k < l.length) :
    ∃ g cap, sv = .slice (some ⟨g, 0, none⟩) l.length cap ∧ g < w.heap.size ∧ l.length ≤ cap ∧ cap ≤ maxLen ∧
      w.cell? ⟨g, k * 3, none⟩ = some (.int .i64 l[k].rep) ∧ w.cell? ⟨g, k * 3 + 1, none⟩ = some (.int .i64 l[k].n) ∧ w.cell? ⟨g, k * 3 + 2, none⟩ = some (.string l[k].val) := by
  obtain ⟨h1, h2⟩ := h
  rcases h2 with ⟨_, h2⟩ | ⟨g, cap, cur, hv, _, hh, hn, hc, hs, ht⟩
  · omega
  · refine ⟨g, cap, hv, (Array.getElem?_eq_some_iff.1 hh).1, hn, hc, ?_⟩
    have hf := flatV_get l k hk
    have key : ∀ j v, j < l.length * 3 → (flatV l)[j]? = some v → w.cell? ⟨g, j, none⟩ = some v := by
      intro j v hj hv
      simp only [World.cell?, hh]
      rw [← ht, List.getElem?_take, if_pos hj] at hv
      simpa using hv
    exact ⟨key _ _ (by omega) hf.1, key _ _ (by omega) hf.2.1, key _ _ (by omega) hf.2.2⟩

theorem cell_new (w : World) (cs : Array Value) (t : TypeId) (o : Nat) : (w.alloc (.cells cs t)).cell? ⟨w.heap.size, o, none⟩ = cs[o]? := by
  simp only [World.cell?, heap_alloc_new]
  rfl
theorem ownsRow_keep {w w' : World} {base : Nat} {e : TypeId} {size : Nat} {v : Value} {n : Nat} {xs : List Value} (h : w.ownsRow base e size v n xs) (hk : ∀ g, g < w.heap.size → v.ownBlock = some g → w'.heap[g]? = w.heap[g]?) : w'.ownsRow base e size v n xs := by
  refine ⟨h.1, ?_⟩
  rcases h.2 with h2 | ⟨g, cap, cur, hv, hg, hh, r⟩
  · exact Or.inl h2
  · exact Or.inr ⟨g, cap, cur, hv, hg, by rw [hk g (Array.getElem?_eq_some_iff.1 hh).1 (by rw [hv]; rfl)]; exact hh, r⟩
theorem ownsRow_below {w w' : World} {B base : Nat} {e : TypeId} {size : Nat} {v : Value} {n : Nat} {xs : List Value} (h : w.ownsRow base e size v n xs) (hb : Below B w w') (hB : w.heap.size ≤ B) : w'.ownsRow base e size v n xs :=
  ownsRow_keep h fun g hg _ => hb.block g (by omega)
theorem ownsRow_base {w : World} {base base' : Nat} {e : TypeId} {size : Nat} {v : Value} {n : Nat} {xs : List Value} (h : w.ownsRow base e size v n xs) (hb : base' ≤ base) : w.ownsRow base' e size v n xs := by
  refine ⟨h.1, ?_⟩
  rcases h.2 with h2 | ⟨g, cap, cur, hv, hg, r⟩
  · exact Or.inl h2
  · exact Or.inr ⟨g, cap, cur, hv, by omega, r⟩

theorem Tryz.infoVer : (Tryz.prog.info? 117).map (fun i => (i.zero, i.size, i.bytes)) = some (some (.agg #[.int .i64 0, .int .i64 0, .string ⟨#[]⟩]), 3, 32) := by kernel_rfl

theorem unseen_snoc (l : List Ver) (c : Ctx) (k : Nat) (h : k < l.length) : unseenL (l.take (k + 1)) c = unseenL (l.take k) c ++ (if seenB c l[k] = true then [] else [l[k]]) := by
  rw [List.take_succ_eq_append_getElem h]
  simp only [unseenL, List.filter_append]
  congr 1
  cases hs : seenB c l[k] <;> simp [hs]

set_option maxRecDepth 100000 in
set_option maxHeartbeats 1000000 in
theorem unseenBy_any (c : Ctx) (sv : Value) (l : List Ver) (seen : Ctx) (w : World) (h : VSl w sv l) (hr : ∀ v ∈ l, v.rep < 4) (hlen : l.length ≤ 100000) :
    Calls Tryz.prog 59 #[.agg #[.int .i64 (c 0), .int .i64 (c 1), .int .i64 (c 2), .int .i64 (c 3), sv], ctxV seen] w fun e w' => ∃ v', e = .returned v' ∧ w'.ownsRow w.heap.size 117 3 v' (unseenL l seen).length (flatV (unseenL l seen)) ∧ Below w.heap.size w w' := by
  obtain ⟨ad, cap, hsv, hcap⟩ : ∃ ad cap, sv = .slice ad l.length cap ∧ (cap : Int) ≤ 9223372036854775807 := by
    rcases h.2 with ⟨h1, h2⟩ | ⟨g, cap, cur, hv, _, _, _, h3, _⟩
    · exact ⟨_, _, by rw [h1, h2], by simp⟩
    · exact ⟨_, _, hv, by unfold maxLen at h3; omega⟩
  subst hsv
  have H : Hid _ := h
  have HR : Hid _ := hr
  clear h hr
  go_enter Tryz.func59, Tryz.ntmps59
  go_wp2
  go_loopw [5, 11] (fun lf i wr => ∃ k : Nat, k ≤ l.length ∧ i = .int .i64 k ∧ Hid (wr.ownsRow (w.heap.size + 2) 117 3 lf (unseenL (l.take k) seen).length (flatV (unseenL (l.take k) seen))) ∧ Hid (Below (w.heap.size + 2) ((w.alloc (.cells #[.int .i64 (c 0), .int .i64 (c 1), .int .i64 (c 2), .int .i64 (c 3), .slice ad l.length cap] 74)).alloc (.cells #[.int .i64 (seen 0), .int .i64 (seen 1), .int .i64 (seen 2), .int .i64 (seen 3)] 70)) wr)) (fun _ i _ => l.length - (intOf i).toNat)
  case atStart => exact ⟨0, by omega, rfl, ⟨by simp [flatV, unseenL], Or.inl ⟨rfl, by simp [unseenL]⟩⟩, Below.refl _ _⟩
  case round =>
    obtain ⟨k, hk, rfl, hown, hbel⟩ := hrel
    by_cases hlt : k < l.length
    · obtain ⟨g, cap', hsv', hg, _, _, c0, c1, c2⟩ := VSl.cells H.out hlt
      have hrk : Hid (l[k].rep < 4) := HR.out _ (List.getElem_mem hlt)
      have hsn := unseen_snoc l seen k hlt
      have HS : Hid _ := hsn
      clear hsn
      generalize hrr : l[k].rep = r at *
      generalize hnn : l[k].n = n at *
      generalize hvv : l[k].val = s at *
      have Hvk : Hid (l[k] = (r, n, s)) := by rw [← hrr, ← hnn, ← hvv]; rfl
      clear hrr hnn hvv
      cases hsv'
      have hb := hbel.out
      have hsz : w.heap.size + 2 ≤ wr.heap.size := by have := hb.size; simp at this; omega
      have old : ∀ o, wr.cell? ⟨g, o, none⟩ = w.cell? ⟨g, o, none⟩ := fun o => by
        rw [hb.cell (p := ⟨g, o, none⟩) (by simp; omega), World.cell?_alloc_lt _ _ _ (by simp; omega), World.cell?_alloc_lt _ _ _ (by simp; omega)]
      have d0 : wr.cell? ⟨g, k * 3, none⟩ = some (.int .i64 r) := (old _).trans c0
      have d1 : wr.cell? ⟨g, k * 3 + 1, none⟩ = some (.int .i64 n) := (old _).trans c1
      have d2 : wr.cell? ⟨g, k * 3 + 2, none⟩ = some (.string s) := (old _).trans c2
      have sbox : ∀ o, wr.cell? ⟨w.heap.size + 1, o, none⟩ = #[Value.int .i64 (seen 0), .int .i64 (seen 1), .int .i64 (seen 2), .int .i64 (seen 3)][o]? := fun o => by
        rw [hb.cell (p := ⟨w.heap.size + 1, o, none⟩) (by simp)]
        exact World.cell?_alloc_at _ _ _ _ (by simp)
      have s0 := sbox 0
      have s1 := sbox 1
      have s2 := sbox 2
      have s3 := sbox 3
      simp at s0 s1 s2 s3
      have g63 : (k : Int) < (l.length : Int) := by omega
      have k0 : (0 : Int) ≤ (k : Int) := by omega
      have Hc : Hid _ := And.intro c0 (And.intro c1 c2)
      clear c0 c1 c2 old sbox hb
      have a0 : ∀ ob, (wr.alloc ob).cell? ⟨w.heap.size + 1, 0, none⟩ = some (.int .i64 (seen 0)) := fun ob => by rw [World.cell?_alloc_lt _ _ _ (by simp; omega)]; exact s0
      have a1 : ∀ ob, (wr.alloc ob).cell? ⟨w.heap.size + 1, 1, none⟩ = some (.int .i64 (seen 1)) := fun ob => by rw [World.cell?_alloc_lt _ _ _ (by simp; omega)]; exact s1
      have a2 : ∀ ob, (wr.alloc ob).cell? ⟨w.heap.size + 1, 2, none⟩ = some (.int .i64 (seen 2)) := fun ob => by rw [World.cell?_alloc_lt _ _ _ (by simp; omega)]; exact s2
      have a3 : ∀ ob, (wr.alloc ob).cell? ⟨w.heap.size + 1, 3, none⟩ = some (.int .i64 (seen 3)) := fun ob => by rw [World.cell?_alloc_lt _ _ _ (by simp; omega)]; exact s3
      clear s0 s1 s2 s3
      have hrk' := hrk.out
      have e1 : ∀ w1, Below (wr.heap.size + 1) (wr.alloc (.cells #[.int .i64 r, .int .i64 n, .string s] 117)) w1 → Below (w.heap.size + 2) ((w.alloc (.cells #[.int .i64 (c 0), .int .i64 (c 1), .int .i64 (c 2), .int .i64 (c 3), .slice (some ⟨g, 0, none⟩) l.length cap] 74)).alloc (.cells #[.int .i64 (seen 0), .int .i64 (seen 1), .int .i64 (seen 2), .int .i64 (seen 3)] 70)) w1 := fun w1 hw => (hbel.out.alloc (by omega) _).trans (hw.mono (by omega))
      have E1 : Hid _ := e1
      clear e1
      have E2 : Hid (∀ w1, Below (wr.heap.size + 1) (wr.alloc (.cells #[.int .i64 r, .int .i64 n, .string s] 117)) w1 → w1.ownsRow (w.heap.size + 2) 117 3 u5 (unseenL (List.take k l) seen).length (flatV (unseenL (List.take k l) seen))) := fun w1 hw => ownsRow_below (ownsRow_below hown.out ((Below.refl wr.heap.size wr).alloc (Nat.le_refl _) _) (Nat.le_refl _)) hw (by simp)
      have hseq : seenB seen l[k] = decide (n ≤ seen r) := by rw [Hvk.out]; rfl
      have HQ : Hid _ := hseq
      clear hseq
      by_cases hseen : n ≤ seen r
      · have HS' : Hid (unseenL (List.take (k + 1) l) seen = unseenL (List.take k l) seen) := by
          have := HS.out; rw [HQ.out, if_pos (by simpa using hseen), List.append_nil] at this; exact this
        clear HS
        have hd : decide (n ≤ seen r) = true := by simpa using hseen
        clear hseen
        go_wp2_with (go_at_call 85; refine (hasSeen_any seen r n _ hrk').mono ?_; rintro e w1 ⟨rfl, hb1⟩; simp at hb1)
        exact ⟨⟨k + 1, by omega, by go_num, by rw [HS'.out]; exact E2.out _ hb1, E1.out _ hb1⟩, by simp [intOf]; omega⟩
      · have HS' : Hid (unseenL (List.take (k + 1) l) seen = unseenL (List.take k l) seen ++ [(r, n, s)]) := by
          have := HS.out; rw [HQ.out, if_neg (by simpa using hseen), Hvk.out] at this; exact this
        clear HS
        obtain ⟨i0, hi0, hz0, hz1, hz2⟩ := info_parts Tryz.infoVer
        have hd : decide (n ≤ seen r) = false := by simpa using hseen
        clear hseen
        have hul : Hid ((unseenL (List.take k l) seen).length ≤ 100000) := Nat.le_trans (List.length_filter_le _ _) (by simp; omega)
        go_wp2_with (first
          | (go_at_call 85; refine (hasSeen_any seen r n _ hrk').mono ?_; rintro e w1 ⟨rfl, hb1⟩; simp at hb1; have v0 : w1.cell? ⟨wr.heap.size, 0, none⟩ = some (.int .i64 r) := (hb1.cell (p := ⟨wr.heap.size, 0, none⟩) (by simp)).trans (cell_new _ _ _ _); have v1 : w1.cell? ⟨wr.heap.size, 1, none⟩ = some (.int .i64 n) := (hb1.cell (p := ⟨wr.heap.size, 1, none⟩) (by simp)).trans (cell_new _ _ _ _); have v2 : w1.cell? ⟨wr.heap.size, 2, none⟩ = some (.string s) := (hb1.cell (p := ⟨wr.heap.size, 2, none⟩) (by simp)).trans (cell_new _ _ _ _); have z1 : w.heap.size + 2 ≤ w1.heap.size := by (have := hb1.size; simp at this; omega))
          | (at_builtin; refine wpList_append_lies _ rfl _ _ _ rfl (w.heap.size + 2) 117 i0 _ 3 32 Tryz.underlying72 hi0 hz0 hz1 hz2 rfl (by omega) u5 _ _ rfl ((E2.out _ hb1).alloc _) ⟨w1.heap.size, 0, none⟩ 1 1 [.int .i64 r, .int .i64 n, .string s] rfl rfl (World.news_of_block (cs := #[.int .i64 r, .int .i64 n, .string s]) (t := 117) (fr := (0, 0)) (heap_alloc_new w1 _)) (by simp [Value.oneCell']) (by omega) (by have := hul.out; unfold maxLen; omega) (by have := hul.out; omega) (by simp; omega) (w1.heap.size + 1) (by simp) ?_; intro gg capn w2 hown2 hgrow hat hlt2))
        refine ⟨⟨k + 1, by omega, by go_num, ?_, ?_⟩, by simp [intOf]; omega⟩
        · rw [HS'.out, flatV_append, List.length_append]; exact hown2
        · have hB := (E1.out _ hb1).alloc (by omega) (.cells #[.int .i64 r, .int .i64 n, .string s] 117)
          refine hB.grown hgrow (by simp; omega) fun q hq => ?_
          rcases hown.out.2 with ⟨h1, _⟩ | ⟨g1, cap1, cur1, hv1, hg1, _⟩
          · rw [h1] at hq; cases hq
          · rw [hv1] at hq; simp [Value.ownBlock] at hq; omega
    · have hkl : k = l.length := by omega
      have HK : Hid (List.take k l = l) := List.take_of_length_le (by omega)
      have HO : Hid _ := hown.out
      clear hown
      go_wp2
      go_ret
      refine ⟨_, rfl, ?_, ?_⟩
      · have := HO.out; rw [HK.out] at this; exact ownsRow_base this (by omega)
      · exact ((((Below.refl _ _).alloc (Nat.le_refl _) _).alloc (by simp) _).trans (hbel.out.mono (by omega)))
end Go.Proofs.YtldmcdeibiclkaaGreat

namespace Go.Proofs.YtldmcdeibiclkaaGreat
open Go.RowKit

theorem box3 {w w1 : World} {A B C : Array Value} {ta tb tc : TypeId} (hb : Below (w.heap.size + 3) (((w.alloc (.cells A ta)).alloc (.cells B tb)).alloc (.cells C tc)) w1) :
    (∀ o, w1.cell? ⟨w.heap.size, o, none⟩ = A[o]?) ∧ (∀ o, w1.cell? ⟨w.heap.size + 1, o, none⟩ = B[o]?) ∧ (∀ o, w1.cell? ⟨w.heap.size + 1 + 1, o, none⟩ = C[o]?) ∧ (∀ o, w1.frozen? ⟨w.heap.size, o, none⟩ = false) ∧ (∀ o, w1.frozen? ⟨w.heap.size + 1, o, none⟩ = false) ∧ (∀ o, w1.frozen? ⟨w.heap.size + 1 + 1, o, none⟩ = false) := by
  have e0 : w1.heap[w.heap.size]? = some (.cells A ta) := by
    rw [hb.block _ (by omega), Below.heap_alloc _ _ _ (by simp; omega), Below.heap_alloc _ _ _ (by simp)]
    exact heap_alloc_new w _
  have e1 : w1.heap[w.heap.size + 1]? = some (.cells B tb) := by
    rw [hb.block _ (by omega), Below.heap_alloc _ _ _ (by simp)]
    have := heap_alloc_new (w.alloc (.cells A ta)) (.cells B tb)
    simpa using this
  have e2 : w1.heap[w.heap.size + 1 + 1]? = some (.cells C tc) := by
    rw [hb.block _ (by omega)]
    have := heap_alloc_new ((w.alloc (.cells A ta)).alloc (.cells B tb)) (.cells C tc)
    simpa using this
  refine ⟨fun o => ?_, fun o => ?_, fun o => ?_, fun o => ?_, fun o => ?_, fun o => ?_⟩
  · simp [World.cell?, e0]
  · simp [World.cell?, e1]
  · simp [World.cell?, e2]
  · simp [World.frozen?, e0]
  · simp [World.frozen?, e1]
  · simp [World.frozen?, e2]

theorem VSl.len {w : World} {sv : Value} {l : List Ver} (h : VSl w sv l) : ∃ ad cap, sv = .slice ad l.length cap ∧ (cap : Int) ≤ 9223372036854775807 := by
  rcases h.2 with ⟨h1, h2⟩ | ⟨g, cap, cur, hv, _, _, _, h3, _⟩
  · exact ⟨_, _, by rw [h1, h2], by simp⟩
  · exact ⟨_, _, hv, by unfold maxLen at h3; omega⟩
theorem ownsRow_len {w : World} {B : Nat} {sv : Value} {l : List Ver} (h : w.ownsRow B 117 3 sv l.length (flatV l)) : ∃ ad cap, sv = .slice ad l.length cap := by
  rcases h.2 with ⟨h1, h2⟩ | ⟨g, cap, cur, hv, _⟩
  · exact ⟨_, _, by rw [h1, h2]⟩
  · exact ⟨_, _, hv⟩

/-- A state's five cells, as a value. -/
abbrev stV (c : Ctx) (sv : Value) : Value := .agg #[.int .i64 (c 0), .int .i64 (c 1), .int .i64 (c 2), .int .i64 (c 3), sv]

set_option maxRecDepth 100000 in
set_option maxHeartbeats 1000000 in
theorem stDelete_none (c : Ctx) (sv : Value) (l : List Ver) (seen : Ctx) (w : World) (h : VSl w sv l) (hr : ∀ v ∈ l, v.rep < 4) (hlen : l.length ≤ 100000) (hn : (unseenL l seen).length = l.length) :
    Calls Tryz.prog 43 #[stV c sv, ctxV seen] w fun e w' => e = .returned (.tuple #[stV (fun _ => 0) (.slice none 0 0), .int .i64 5]) ∧ Below w.heap.size w w' := by
  obtain ⟨ad, cap, rfl, hcap⟩ := h.len
  have H3 : Hid (∀ a b d, VSl (((w.alloc a).alloc b).alloc d) (.slice ad l.length cap) l) := fun a b d => ((World.ownsRow.alloc h a).alloc b).alloc d
  have HN : Hid _ := hn
  have HR : Hid _ := hr
  clear h hr hn
  go_enter Tryz.func43, Tryz.ntmps43
  go_wp2_with (go_at_call 59; refine (unseenBy_any c _ l seen _ (H3.out _ _ _) HR.out hlen).mono ?_; rintro e w1 ⟨v', rfl, hown, hb⟩; obtain ⟨ad', cap', hv'⟩ := ownsRow_len hown; rw [HN.out] at hv'; subst hv'; simp at hb; obtain ⟨b0, b1, b2, f0, f1, f2⟩ := box3 hb; have HO : Hid _ := hown; have HB : Hid _ := hb; clear hown hb)
  refine bodyPost_ret (v := .tuple #[stV (fun _ => 0) (.slice none 0 0), .int .i64 5]) ?_ rfl ⟨rfl, ?_⟩
  · simp [results, Tryz.results43, go_sem, b2]
  · exact ((((((((Below.refl _ _).alloc (Nat.le_refl _) _).alloc (by simp) _).alloc (by simp; omega) _).trans (HB.out.mono (by omega))).setCell (by simp; omega) _).setCell (by simp; omega) _).setCell (by simp; omega) _ |>.setCell (by simp; omega) _).setCell (by simp; omega) _

set_option maxRecDepth 100000 in
set_option maxHeartbeats 1000000 in
theorem stDelete_some (c : Ctx) (sv : Value) (l : List Ver) (seen : Ctx) (w : World) (h : VSl w sv l) (hr : ∀ v ∈ l, v.rep < 4) (hlen : l.length ≤ 100000) (hn : (unseenL l seen).length < l.length) :
    Calls Tryz.prog 43 #[stV c sv, ctxV seen] w fun e w' => ∃ v', e = .returned (.tuple #[stV (bothC c seen) v', .int .i64 0]) ∧ w'.ownsRow w.heap.size 117 3 v' (unseenL l seen).length (flatV (unseenL l seen)) ∧ Below w.heap.size w w' := by
  obtain ⟨ad, cap, rfl, hcap⟩ := h.len
  have H3 : Hid (∀ a b d, VSl (((w.alloc a).alloc b).alloc d) (.slice ad l.length cap) l) := fun a b d => ((World.ownsRow.alloc h a).alloc b).alloc d
  have HR : Hid _ := hr
  clear h hr
  have hne : (((unseenL l seen).length : Int) == (l.length : Int)) = false := by simp; omega
  go_enter Tryz.func43, Tryz.ntmps43
  go_wp2_with (first
    | (go_at_call 59; refine (unseenBy_any c _ l seen _ (H3.out _ _ _) HR.out hlen).mono ?_; rintro e w1 ⟨v', rfl, hown, hb⟩; obtain ⟨ad', cap', hv'⟩ := ownsRow_len hown; subst hv'; simp at hb; obtain ⟨b0, b1, b2, f0, f1, f2⟩ := box3 hb; have HO : Hid _ := hown; have HB : Hid _ := hb; clear hown hb)
    | (go_at_call 60; refine (greater_any c seen _).mono ?_; rintro e w2 ⟨rfl, hb2⟩; have hb3 := HB.out.trans (hb2.mono (by have := HB.out.size; simp at this; omega)); obtain ⟨b0, b1, b2, f0, f1, f2⟩ := box3 hb3; have HB3 : Hid _ := hb3; have HB2 : Hid _ := hb2; clear hb3 hb2))
  refine bodyPost_ret (v := .tuple #[stV (bothC c seen) (.slice ad' (unseenL l seen).length cap'), .int .i64 0]) ?_ rfl ⟨_, rfl, ?_, ?_⟩
  · simp [results, Tryz.results43, go_sem, b2]
  · have h1 := ownsRow_base HO.out (show w.heap.size + 3 ≤ _ by simp)
    have h2 := ownsRow_below h1 HB2.out (Nat.le_refl _)
    exact ownsRow_base (ownsRow_setCell_below (ownsRow_setCell_below (ownsRow_setCell_below (ownsRow_setCell_below (ownsRow_setCell_below h2 (by simp) _) (by simp) _) (by simp) _) (by simp) _) (by simp) _) (by omega)
  · exact ((((((((Below.refl _ _).alloc (Nat.le_refl _) _).alloc (by simp) _).alloc (by simp; omega) _).trans (HB3.out.mono (by omega))).setCell (by simp; omega) _).setCell (by simp; omega) _).setCell (by simp; omega) _ |>.setCell (by simp; omega) _).setCell (by simp; omega) _

end Go.Proofs.YtldmcdeibiclkaaGreat

namespace Go.Proofs.YtldmcdeibiclkaaGreat
open Go.Shelf Go.RowKit Go.Lib Go.Sort

theorem flat_eq (l : List Ver) : (flatK encV 3 l.toArray).toList = flatV l := by
  apply List.ext_getElem?
  intro t
  by_cases ht : t < l.length * 3
  · have hk : t / 3 < l.length := by omega
    obtain ⟨a, b, c⟩ := flatV_get l (t / 3) hk
    have e : (flatK encV 3 l.toArray).toList[t]? = some ((encV l[t / 3])[t % 3]!) := by
      have h1 := get_flatK encV 3 l.toArray t (by simpa using ht)
      rw [getElem!_pos _ t (by simpa using ht)] at h1
      rw [Array.getElem?_toList, Array.getElem?_eq_getElem (by simpa using ht), h1]
      congr 2
      simp [hk]
    rw [e]
    have h3 : t % 3 = 0 ∨ t % 3 = 1 ∨ t % 3 = 2 := by omega
    rcases h3 with h3 | h3 | h3
    · rw [h3]; rw [show (flatV l)[t]? = (flatV l)[t / 3 * 3]? by congr 1; omega, a]; rfl
    · rw [h3]; rw [show (flatV l)[t]? = (flatV l)[t / 3 * 3 + 1]? by congr 1; omega, b]; rfl
    · rw [h3]; rw [show (flatV l)[t]? = (flatV l)[t / 3 * 3 + 2]? by congr 1; omega, c]; rfl
  · rw [List.getElem?_eq_none (by simp; omega), List.getElem?_eq_none (by rw [flatV_length]; omega)]

theorem holds_of_owns {w : World} {g : Nat} {l : List Ver} {cur : Array Value} (hh : w.heap[g]? = some (.cells cur 117 (0, 0))) (ht : cur.toList.take (l.length * 3) = flatV l) : HoldsK encV 3 w g 0 l.toArray := by
  intro j hj
  have hj' : j < l.length * 3 := by simpa using hj
  refine ⟨?_, by simp [World.frozen?, hh]⟩
  simp only [World.cell?, hh, Nat.zero_add, id]
  rw [getElem!_pos _ j hj]
  have e1 : (flatK encV 3 l.toArray).toList[j]? = some (flatK encV 3 l.toArray)[j] := by rw [Array.getElem?_toList, Array.getElem?_eq_getElem hj]
  rw [flat_eq, ← ht, List.getElem?_take, if_pos hj'] at e1
  simpa using e1

theorem sortV_own (B : Nat) (v : Value) (l : List Ver) (w : World) (h : w.ownsRow B 117 3 v l.length (flatV l)) (hn : 0 < l.length) (hsz : l.length < 1000000) :
    Calls Tryz.prog 61 #[v, .func (.func 62) #[] #[]] w fun e w' => e = .returned (.tuple #[]) ∧ ∃ l' : List Ver, l'.Perm l ∧ l'.Pairwise (fun a b => ltV b a = false) ∧ w'.ownsRow B 117 3 v l'.length (flatV l') ∧ w.grownBy w' v.ownBlock := by
  obtain ⟨h1, h2⟩ := h
  rcases h2 with ⟨_, h2⟩ | ⟨g, cap, cur, rfl, hg, hh, hnc, hc, hs, ht⟩
  · omega
  have hglt : g < w.heap.size := (Array.getElem?_eq_some_iff.1 hh).1
  have hH : HoldsK encV 3 w g 0 l.toArray := holds_of_owns hh ht
  refine (sortV_any g 0 cap l.toArray w hH hglt (by simp; omega)).mono ?_
  rintro e w' ⟨rfl, d', n, os, hp, hso, rfl⟩
  refine ⟨rfl, d'.toList, ?_, ?_, ?_, ?_⟩
  · have := hp.2.2
    have e := hp.1
    simp only [List.size_toArray] at e this
    rw [Array.extract_eq_self_of_le (by omega), Array.extract_eq_self_of_le (by simp)] at this
    simpa using this
  · rw [List.pairwise_iff_getElem]
    intro i j hi hj hij
    have := hso i j (by omega) hij (by have := hp.1; simp at this hj ⊢; omega)
    rw [getElem!_pos d' j (by simpa using hj), getElem!_pos d' i (by simpa using hi)] at this
    simpa using this
  · have hsz' : d'.size = l.length := by simpa using hp.1
    have hb : (sortWorldK encV 3 w g 0 n d' os).heap[g]? = some (.cells (putCells id 0 (flatK encV 3 d') cur) 117 (0, 0)) := by
      unfold sortWorldK
      rw [heap_grow_old _ _ (by simpa [putRowK, putRow, mapBlock, Sort.ahead] using hglt)]
      simp [putRowK, putRow, mapBlock, Sort.ahead, Array.getElem?_modify, hh, onCells]
    refine ⟨by rw [flatV_length], Or.inr ⟨g, cap, _, by simp [hsz'], hg, hb, by simp [hsz']; exact hnc, hc, by simp [putCells, hs], ?_⟩⟩
    have hf : flatV d'.toList = (flatK encV 3 d').toList := by rw [← flat_eq]
    rw [hf]
    apply List.ext_getElem?
    intro t
    by_cases htl : t < l.length * 3
    · rw [List.getElem?_take, if_pos (by simp [hsz']; exact htl), Array.getElem?_toList, Array.getElem?_toList]
      have hF : t < (flatK encV 3 d').size := by simp [hsz']; exact htl
      have hC : t < cur.size := by rw [hs]; have := Nat.mul_le_mul_right 3 hnc; omega
      simp only [putCells, Array.getElem?_mapIdx, Array.getElem?_eq_getElem hC, Option.map_some, Array.getElem?_eq_getElem hF]
      rw [if_pos ⟨by omega, by omega⟩]
      simp only [id, Nat.sub_zero]
      rw [getElem!_pos _ t hF]
    · rw [List.getElem?_eq_none (by simp [hsz']; omega), List.getElem?_eq_none (by simp [hsz']; omega)]
  · refine ⟨rfl, rfl, rfl, by simp [sortWorldK, putRowK, putRow, mapBlock, Sort.ahead], fun k hk hne => ?_⟩
    unfold sortWorldK
    rw [heap_grow_old _ _ (by simp [putRowK, putRow, mapBlock, Sort.ahead]; omega)]
    simp only [putRowK, putRow, mapBlock, Sort.ahead, Array.getElem?_modify]
    rw [if_neg (fun e => hne (by subst e; rfl))]
end Go.Proofs.YtldmcdeibiclkaaGreat
