/-
  Contracts: New and Get.
-/
import Derived.Test.YtldmcdeibiclkaaDoorW2
import Derived.Test.YtldmcdeibiclkaaDoorW13
import Derived.Test.YtldmcdeibiclkaaDoorZR
set_option linter.unusedVariables false
set_option linter.unusedSimpArgs false
namespace Go.Proofs.YtldmcdeibiclkaaDoor
open Go.RowKit

/-- What a replica that knows no key knows. -/
def noKeys : Know := fun _ => (fun _ => 0, [])

/-- Of each key: versions of replicas that there are, not too many, with values that are short; numbers of a context that are in their bounds. -/
def KOk (K : Know) : Prop := ∀ s, (∀ v ∈ (K s).2, v.rep < 4) ∧ (K s).2.length ≤ 100000 ∧ (∀ v ∈ (K s).2, v.val.size ≤ 12) ∧ ∀ i, i < 4 → 0 ≤ (K s).1 i ∧ (K s).1 i ≤ 1000000

/-- What holds of the world ahead of a round of New. -/
def NewRel (w : World) (num k : Nat) (bm : Nat → Nat) (wr : World) : Prop :=
  (∃ A : Array Value, wr.heap[w.heap.size]? = some (.cells A 68) ∧ A.size = 65 ∧ A[0]? = some (.int .i64 num) ∧ ∀ n, n < k → A[n + 1]? = some (.map (some (bm n)))) ∧
  (∀ n, n < k → w.heap.size < bm n ∧ wr.heap[bm n]? = some (.map #[] 0)) ∧ (∀ n m, n < k → m < k → bm n = bm m → n = m) ∧ Below w.heap.size w wr

theorem NewRel.step {w wr : World} {num k : Nat} {bm : Nat → Nat} (h : NewRel w num k bm wr) (hk : k < 64) :
    NewRel w num (k + 1) (fun n => if n = k then wr.heap.size else bm n) ((wr.setCell ⟨w.heap.size, 1 + k, none⟩ (.map (some wr.heap.size))).alloc (.map #[] 0)) := by
  obtain ⟨⟨A, h1, h2, h3, h4⟩, h5, h6, h7⟩ := h
  have hlt := (Array.getElem?_eq_some_iff.1 h1).1
  have hsz : (wr.setCell ⟨w.heap.size, 1 + k, none⟩ (.map (some wr.heap.size))).heap.size = wr.heap.size := by simp [World.setCell]
  have hlts : ∀ n, n < k → bm n < wr.heap.size := fun n hn => (Array.getElem?_eq_some_iff.1 (h5 n hn).2).1
  refine ⟨⟨A.setIfInBounds (k + 1) (.map (some wr.heap.size)), by rw [Below.heap_alloc _ _ _ (by rw [hsz]; exact hlt), Nat.add_comm]; exact heap_set h1, by simpa using h2, ?_, fun n hn => ?_⟩, fun n hn => ?_, fun n m hn hm he => ?_, (h7.setCell (Nat.le_refl _) _).alloc (by rw [hsz]; exact h7.size) _⟩
  · rw [Array.getElem?_setIfInBounds, if_neg (by omega)]; exact h3
  · rw [Array.getElem?_setIfInBounds]
    dsimp only
    by_cases e : n = k
    · subst e; rw [if_pos rfl, if_pos (by omega), if_pos rfl]
    · rw [if_neg (by omega), if_neg e]; exact h4 n (by omega)
  · dsimp only
    by_cases e : n = k
    · subst e
      rw [if_pos rfl]
      refine ⟨hlt, ?_⟩
      have := heap_alloc_new (wr.setCell ⟨w.heap.size, 1 + n, none⟩ (.map (some wr.heap.size))) (.map #[] 0)
      rw [hsz] at this; exact this
    · rw [if_neg e]
      have hn' : n < k := by omega
      refine ⟨(h5 n hn').1, ?_⟩
      have hne : bm n ≠ w.heap.size := by have := (h5 n hn').1; omega
      rw [Below.heap_alloc _ _ _ (by rw [hsz]; exact hlts n hn'), Below.heap_setCell _ _ _ _ hne]
      exact (h5 n hn').2
  · by_cases e : n = k
    · by_cases e' : m = k
      · rw [e, e']
      · simp only [if_pos e, if_neg e'] at he
        have := hlts m (by omega); omega
    · by_cases e' : m = k
      · simp only [if_neg e, if_pos e'] at he
        have := hlts n (by omega); omega
      · simp only [if_neg e, if_neg e'] at he
        exact h6 n m (by omega) (by omega) he

set_option maxRecDepth 100000 in
set_option maxHeartbeats 1000000 in
theorem new_ok (n : Nat) (w : World) (hn : n < 4) :
    Calls Tryd.prog 8 #[.int .i64 n] w fun e w' => ∃ b bm, e = .returned (.tuple #[.pointer (some ⟨b, 0, none⟩), .int .i64 0]) ∧ w.heap.size ≤ b ∧ (∀ m, m < 64 → w.heap.size ≤ bm m) ∧ RepAt w' b bm n noKeys ∧ Below w.heap.size w w' := by
  have hn' : (n : Int) < 4 := by omega
  go_enter Tryd.func8, Tryd.ntmps8
  have hmm : ∀ W : World, (Instr.makeMap 65 none).run Tryd.prog W = .ok (.map (some W.heap.size)) (W.alloc (.map #[] 0)) := fun W => rfl
  have hz := Tryd.zeroRep
  have hne := zRep_ne
  go_wp2
  go_loopw [15] (fun iv wr => ∃ k : Nat, k ≤ 64 ∧ iv = .int .i64 k ∧ ∃ bm, NewRel w n k bm wr) (fun iv _ => 64 - (intOf iv).toNat)
  case atStart =>
    refine ⟨0, by omega, rfl, fun _ => 0, ⟨_, heap_alloc_new w _, by simp [zRep_size], by simp [zRep_size], fun n hn => absurd hn (by omega)⟩, fun n hn => absurd hn (by omega), fun n m hn => absurd hn (by omega), (Below.refl _ _).alloc (Nat.le_refl _) _⟩
  case round =>
    obtain ⟨k, hk, rfl, bm, hrel⟩ := hrel
    by_cases hlt : k < 64
    · have k1 : (k : Int) < 64 := by omega
      have k0 : (0 : Int) ≤ (k : Int) := by omega
      have hst : Hid _ := hrel.step hlt
      obtain ⟨⟨A, h1, h2, _, _⟩, _⟩ := hrel
      have hblt := (Array.getElem?_eq_some_iff.1 h1).1
      have hcell : (wr.alloc (.map #[] 0)).cell? ⟨w.heap.size, k + 1, none⟩ = some A[k + 1] := by
        rw [World.cell?_alloc_lt _ _ _ hblt]; simp [World.cell?, h1]
      have hcell' : (wr.alloc (.map #[] 0)).cell? ⟨w.heap.size, 1 + k, none⟩ = some A[k + 1] := by rw [Nat.add_comm]; exact hcell
      have hfr : ∀ o, (wr.alloc (.map #[] 0)).frozen? ⟨w.heap.size, o, none⟩ = false := fun o => by
        rw [World.frozen?_alloc_past _ _ _ hblt]; simp [World.frozen?, h1]
      clear h1
      go_wp2
      refine ⟨⟨k + 1, by omega, by go_num, fun n => if n = k then wr.heap.size else bm n, ?_⟩, by simp [intOf]; omega⟩
      exact hst.out
    · obtain rfl : k = 64 := by omega
      have HR : Hid _ := hrel
      clear hrel
      go_wp2
      go_ret2
      obtain ⟨⟨A, h1, h2, h3, h4⟩, h5, h6, h7⟩ := HR.out
      exact ⟨w.heap.size, bm, rfl, Nat.le_refl _, fun m hm => by have := (h5 m hm).1; omega, ⟨⟨A, h1, h3, h4⟩, fun m hm => ⟨#[], 0, (h5 m hm).2, by simp [KeysOk], fun s _ => ⟨.slice none 0 0, rfl, ⟨rfl, Or.inl ⟨rfl, rfl⟩⟩⟩, by simp [Stamp]⟩, h6⟩, h7⟩

theorem afterTold {w w1 : World} {q : Nat} {A B : Array Value} {ta tb : TypeId} (hb1 : Below ((((w.alloc (.cells A ta)).drewN q).alloc (.cells B tb)).drew).heap.size ((((w.alloc (.cells A ta)).drewN q).alloc (.cells B tb)).drew) w1) :
    (∀ o, w1.cell? ⟨w.heap.size, o, none⟩ = A[o]?) ∧ (∀ o, w1.frozen? ⟨w.heap.size, o, none⟩ = false) ∧ (∀ o, w1.cell? ⟨w.heap.size + 1, o, none⟩ = B[o]?) ∧ Below (w.heap.size + 2) ((w.alloc (.cells A ta)).alloc (.cells B tb)) w1 := by
  have hb2 : Below ((w.alloc (.cells A ta)).alloc (.cells B tb)).heap.size ((w.alloc (.cells A ta)).alloc (.cells B tb)) w1 := undrew hb1 rfl rfl rfl rfl
  have hsz : ((w.alloc (.cells A ta)).alloc (.cells B tb)).heap.size = w.heap.size + 2 := by simp
  rw [hsz] at hb2
  have e0 : w1.heap[w.heap.size]? = some (.cells A ta) := by
    rw [hb2.block _ (by omega), Below.heap_alloc _ _ _ (by simp)]
    exact heap_alloc_new w _
  have e1 : w1.heap[w.heap.size + 1]? = some (.cells B tb) := by
    rw [hb2.block _ (by omega)]
    simpa using heap_alloc_new (w.alloc (.cells A ta)) (.cells B tb)
  exact ⟨fun o => by simp [World.cell?, e0], fun o => by simp [World.frozen?, e0], fun o => by simp [World.cell?, e1], hb2⟩

theorem two_new (w : World) (A B : Array Value) (ta tb : TypeId) (q o : Nat) : ((((w.alloc (.cells A ta)).drewN q).alloc (.cells B tb)).drew).cell? ⟨w.heap.size + 1, o, none⟩ = B[o]? := by
  have e : (((w.alloc (.cells A ta)).drewN q).alloc (.cells B tb)).heap[w.heap.size + 1]? = some (.cells B tb) := by
    have := heap_alloc_new ((w.alloc (.cells A ta)).drewN q) (.cells B tb)
    have hs : ((w.alloc (.cells A ta)).drewN q).heap.size = w.heap.size + 1 := by simp
    rw [hs] at this; exact this
  have e' : ((((w.alloc (.cells A ta)).drewN q).alloc (.cells B tb)).drew).heap[w.heap.size + 1]? = some (.cells B tb) := e
  simp only [World.cell?, e']
  simp
theorem two_new' (w : World) (A B : Array Value) (ta tb : TypeId) (q o : Nat) : (((w.alloc (.cells A ta)).drewN q).alloc (.cells B tb)).cell? ⟨w.heap.size + 1, o, none⟩ = B[o]? := two_new w A B ta tb q o

set_option maxRecDepth 100000 in
set_option maxHeartbeats 1000000 in
theorem get_ok (b num : Nat) (bm : Nat → Nat) (K : Know) (key : ByteArray) (w : World) (h : RepAt w b bm num K) (hK : KOk K) (hkey : keyB key = true) (hks : key.size ≤ 8) :
    Calls Tryd.prog 10 #[.pointer (some ⟨b, 0, none⟩), .string key] w fun e w' => ∃ v', e = .returned (.tuple #[v', ctxV (K key).1, .int .i64 0]) ∧ w'.ownsRow w.heap.size 56 3 v' (K key).2.length (flatV (K key).2) ∧ Below w.heap.size w w' := by
  obtain ⟨es, clock, hm, hk, hall, _⟩ := h.2.1 _ (segN_lt key)
  obtain ⟨sv, hent, hvs⟩ := hall key rfl
  obtain ⟨ad, cap, rfl, hcap⟩ := hvs.len
  have hlk : ∀ W : World, W.heap[bm (segN key)]? = some (.map es clock) → (Instr.lookup 65 (.map (some (bm (segN key)))) (.string key) false).run Tryd.prog W = .ok (stV (K key).1 (.slice ad (K key).2.length cap)) W := fun W hW => by
    rw [lookup_run W _ es clock key hW hk, hent]
  have hmlt := (Array.getElem?_eq_some_iff.1 hm).1
  have hma : ∀ X, (w.alloc X).heap[bm (segN key)]? = some (.map es clock) := fun X => by
    rw [Below.heap_alloc _ _ _ hmlt]; exact hm
  have HSeg : Hid (∀ X, Calls Tryd.prog 19 #[.pointer (some ⟨b, 0, none⟩), .string key] (w.alloc X) fun e w' => e = .returned (.map (some (bm (segN key)))) ∧ ∃ q, w' = (w.alloc X).drewN q) := fun X => segOf_any b num bm key _ (by unfold maxLen; omega) (h.below ((Below.refl _ _).alloc (Nat.le_refl _) X)).1
  have hck := isKey_any key
  have HL : Hid ((K key).2.length ≤ 100000) := (hK key).2.1
  have HS : Hid (∀ v ∈ (K key).2, v.val.size ≤ 281474976710656) := fun v hv => by have := (hK key).2.2.1 v hv; omega
  generalize (K key).1 = c at *
  generalize (K key).2 = l at *
  have HV : Hid _ := hvs
  have HCK : Hid _ := hck
  clear hvs hck hall hent hK h hm
  generalize bm (segN key) = bms at *
  go_enter Tryd.func10, Tryd.ntmps10
  go_wp2_with (first
    | (go_at_call 16; refine (HCK.out _ (by unfold maxLen; omega)).mono ?_; rw [hkey]; rintro e w1 ⟨rfl, rfl⟩)
    | (go_at_call 19; refine Calls.mono (HSeg.out _) ?_; rintro e w0 ⟨rfl, q, rfl⟩))
  have hbn : w.heap.size + 1 ≠ w.heap.size := by omega
  have HX : Hid (∀ A B, VSl ((((w.alloc A).drewN q).alloc B).drew) (.slice ad l.length cap) l) := fun A B => (show VSl ((((w.alloc A).drewN q).alloc B)) _ _ from World.ownsRow.alloc (show World.ownsRow ((w.alloc A).drewN q) 0 91 3 (.slice ad l.length cap) l.length (flatV l) from HV.out.alloc A) B).drew
  go_region_held3 (fun w' => w'.cell? ⟨w.heap.size + 1, 0, none⟩ = some (.int .i64 (c 0)) ∧ w'.cell? ⟨w.heap.size + 1, 1, none⟩ = some (.int .i64 (c 1)) ∧ w'.cell? ⟨w.heap.size + 1, 2, none⟩ = some (.int .i64 (c 2)) ∧ w'.cell? ⟨w.heap.size + 1, 3, none⟩ = some (.int .i64 (c 3)) ∧ w'.cell? ⟨w.heap.size + 1, 4, none⟩ = some (.slice ad l.length cap))
    (first | (simp [two_new']; done) | go_keep | (go_split_ands; exact ⟨cell_keep (by assumption) hb1, cell_keep (by assumption) hb1, cell_keep (by assumption) hb1, cell_keep (by assumption) hb1, cell_keep (by assumption) hb1⟩) | (go_split_ands; exact ⟨by rw [set_far hbn, set_far hbn, set_far hbn, set_far hbn]; assumption, by rw [set_far hbn, set_far hbn, set_far hbn, set_far hbn]; assumption, by rw [set_far hbn, set_far hbn, set_far hbn, set_far hbn]; assumption, by rw [set_far hbn, set_far hbn, set_far hbn, set_far hbn]; assumption, by rw [set_far hbn, set_far hbn, set_far hbn, set_far hbn]; assumption⟩))
    (first | (go_at_call 23; refine (told_any _ l _ (HX.out _ _) HL.out HS.out).mono ?_; rintro e w1 ⟨v', rfl, hown, hb1⟩; obtain ⟨m0, m1, m2, m3⟩ := afterTold hb1; have HO : Hid _ := ownsRow_base hown (show w.heap.size + 2 ≤ _ by simp [World.drew]); have HB : Hid _ := m3; clear hown m3))
  all_goals
    go_wp2
    refine bodyPost_ret (v := .tuple #[v', ctxV c, .int .i64 0]) ?_ rfl ⟨_, rfl, ?_, ?_⟩
    · simp [results, Tryd.results10, go_sem, m0]
    · exact ownsRow_base (ownsRow_setCell_below (ownsRow_setCell_below (ownsRow_setCell_below (ownsRow_setCell_below HO.out (by simp) _) (by simp) _) (by simp) _) (by simp) _) (by omega)
    · have base : Below w.heap.size w w1 := (((Below.refl _ _).alloc (Nat.le_refl _) _).alloc (by simp) _).trans (HB.out.mono (by omega))
      exact (((base.setCell (Nat.le_refl _) _).setCell (Nat.le_refl _) _).setCell (Nat.le_refl _) _).setCell (Nat.le_refl _) _
end Go.Proofs.YtldmcdeibiclkaaDoor
