/-
  The zero value of a replica.
  Contracts: New and Get.
  Contract: Delete of a key by a sound context.
-/
import Derived.Test.YtldmcdeibiclkaaGreatRows
import Derived.Test.YtldmcdeibiclkaaGreatQ02
import Derived.WalkKit
import Derived.Test.YtldmcdeibiclkaaGreatQ08
import Derived.Test.YtldmcdeibiclkaaGreatQ06
set_option linter.unusedVariables false
set_option linter.unusedSimpArgs false

namespace Go.Proofs.YtldmcdeibiclkaaGreat
open Go.RowKit

theorem zero_of {P : Program} {t : TypeId} {z : Value} (h : (P.info? t).map (·.zero) = some (some z)) (w : World) : (zeroValue t).run P w = .ok z w := by
  cases hq : P.info? t with
  | none => simp [hq] at h
  | some i =>
    have hz : i.zero = some z := by simpa [hq] using h
    simp [zeroValue, typeInfo, hq, hz]

/-- The cells of a replica that is not made yet. -/
def zRep : Array Value := #[Value.int .i64 0] ++ Array.replicate 64 (Value.map none)
theorem zRep_size : zRep.size = 65 := by simp [zRep]
theorem zRep_ne : (zRep = #[]) = False := by simp [zRep]
theorem Tryz.infoRep : (Tryz.prog.info? 66).map (·.zero) = some (some (.agg zRep)) := by kernel_rfl
theorem Tryz.zeroRep (w : World) : (zeroValue 66).run Tryz.prog w = .ok (.agg zRep) w := zero_of Tryz.infoRep w
end Go.Proofs.YtldmcdeibiclkaaGreat

namespace Go.Proofs.YtldmcdeibiclkaaGreat
open Go.RowKit

/-- What a replica that knows no key knows. -/
def noKeys : Know := fun _ => (fun _ => 0, [])

/-- Of each key: versions of replicas that there are, not too many, with values that are short; numbers of a context that are in their bounds. -/
def KOk (K : Know) : Prop := ∀ s, (∀ v ∈ (K s).2, v.rep < 4) ∧ (K s).2.length ≤ 100000 ∧ (∀ v ∈ (K s).2, v.val.size ≤ 12) ∧ ∀ i, i < 4 → 0 ≤ (K s).1 i ∧ (K s).1 i ≤ 1000000

/-- What holds of the world ahead of a round of New. -/
def NewRel (w : World) (num k : Nat) (bm : Nat → Nat) (wr : World) : Prop :=
  (∃ A : Array Value, wr.heap[w.heap.size]? = some (.cells A 66) ∧ A.size = 65 ∧ A[0]? = some (.int .i64 num) ∧ ∀ n, n < k → A[n + 1]? = some (.map (some (bm n)))) ∧
  (∀ n, n < k → w.heap.size < bm n ∧ wr.heap[bm n]? = some (.map #[] 0)) ∧ (∀ n m, n < k → m < k → bm n = bm m → n = m) ∧ Below w.heap.size w wr

theorem NewRel.step {w wr : World} {num k : Nat} {bm : Nat → Nat} (h : NewRel w num k bm wr) (hk : k < 64) :
    NewRel w num (k + 1) (fun n => if n = k then wr.heap.size else bm n) ((wr.setCell ⟨w.heap.size, 1 + k, none⟩ (.map (some wr.heap.size))).alloc (.map #[] 0)) := by
  obtain ⟨⟨A, h1, h2, h3, h4⟩, h5, h6, h7⟩ := h
  have hlt := (Array.getElem?_eq_some_iff.1 h1).1
  have hsz : (wr.setCell ⟨w.heap.size, 1 + k, none⟩ (.map (some wr.heap.size))).heap.size = wr.heap.size := by simp [World.setCell]
  have hlts : ∀ n, n < k → bm n < wr.heap.size := fun n hn => (Array.getElem?_eq_some_iff.1 (h5 n hn).2).1
  refine ⟨⟨A.setIfInBounds (k + 1) (.map (some wr.heap.size)), by rw [Below.heap_alloc _ _ _ (by rw [hsz]; exact hlt), Nat.add_comm]; exact heap_set h1, by simpa using h2, ?_, fun n hn => ?_⟩, fun n hn => ?_, fun n m hn hm he => ?_, (h7.setCell (Nat.le_refl _) _).alloc (by rw [hsz]; exact h7.size) _⟩
  · rw [Array.getElem?_setIfInBounds, if_neg (by omega)]; exact h3
  · rw [Array.getElem?_setIfInBounds]
    dsimp only
    by_cases e : n = k
    · subst e; rw [if_pos rfl, if_pos (by omega), if_pos rfl]
    · rw [if_neg (by omega), if_neg e]; exact h4 n (by omega)
  · dsimp only
    by_cases e : n = k
    · subst e
      rw [if_pos rfl]
      refine ⟨hlt, ?_⟩
      have := heap_alloc_new (wr.setCell ⟨w.heap.size, 1 + n, none⟩ (.map (some wr.heap.size))) (.map #[] 0)
      rw [hsz] at this; exact this
    · rw [if_neg e]
      have hn' : n < k := by omega
      refine ⟨(h5 n hn').1, ?_⟩
      have hne : bm n ≠ w.heap.size := by have := (h5 n hn').1; omega
      rw [Below.heap_alloc _ _ _ (by rw [hsz]; exact hlts n hn'), Below.heap_setCell _ _ _ _ hne]
      exact (h5 n hn').2
  · by_cases e : n = k
    · by_cases e' : m = k
      · rw [e, e']
      · simp only [if_pos e, if_neg e'] at he
        have := hlts m (by omega); omega
    · by_cases e' : m = k
      · simp only [if_neg e, if_pos e'] at he
        have := hlts n (by omega); omega
      · simp only [if_neg e, if_neg e'] at he
        exact h6 n m (by omega) (by omega) he

set_option maxRecDepth 100000 in
set_option maxHeartbeats 1000000 in
theorem new_ok (n : Nat) (w : World) (hn : n < 4) :
    Calls Tryz.prog 11 #[.int .i64 n] w fun e w' => ∃ b bm, e = .returned (.tuple #[.pointer (some ⟨b, 0, none⟩), .int .i64 0]) ∧ w.heap.size ≤ b ∧ (∀ m, m < 64 → w.heap.size ≤ bm m) ∧ RepAt w' b bm n noKeys ∧ Below w.heap.size w w' := by
  have hn' : (n : Int) < 4 := by omega
  go_enter Tryz.func11, Tryz.ntmps11
  have hmm : ∀ W : World, (Instr.makeMap 63 none).run Tryz.prog W = .ok (.map (some W.heap.size)) (W.alloc (.map #[] 0)) := fun W => rfl
  have hz := Tryz.zeroRep
  have hne := zRep_ne
  go_wp2
  go_loopw [15] (fun iv wr => ∃ k : Nat, k ≤ 64 ∧ iv = .int .i64 k ∧ ∃ bm, NewRel w n k bm wr) (fun iv _ => 64 - (intOf iv).toNat)
  case atStart =>
    refine ⟨0, by omega, rfl, fun _ => 0, ⟨_, heap_alloc_new w _, by simp [zRep_size], by simp [zRep_size], fun n hn => absurd hn (by omega)⟩, fun n hn => absurd hn (by omega), fun n m hn => absurd hn (by omega), (Below.refl _ _).alloc (Nat.le_refl _) _⟩
  case round =>
    obtain ⟨k, hk, rfl, bm, hrel⟩ := hrel
    by_cases hlt : k < 64
    · have k1 : (k : Int) < 64 := by omega
      have k0 : (0 : Int) ≤ (k : Int) := by omega
      have hst : Hid _ := hrel.step hlt
      obtain ⟨⟨A, h1, h2, _, _⟩, _⟩ := hrel
      have hblt := (Array.getElem?_eq_some_iff.1 h1).1
      have hcell : (wr.alloc (.map #[] 0)).cell? ⟨w.heap.size, k + 1, none⟩ = some A[k + 1] := by
        rw [World.cell?_alloc_lt _ _ _ hblt]; simp [World.cell?, h1]
      have hcell' : (wr.alloc (.map #[] 0)).cell? ⟨w.heap.size, 1 + k, none⟩ = some A[k + 1] := by rw [Nat.add_comm]; exact hcell
      have hfr : ∀ o, (wr.alloc (.map #[] 0)).frozen? ⟨w.heap.size, o, none⟩ = false := fun o => by
        rw [World.frozen?_alloc_past _ _ _ hblt]; simp [World.frozen?, h1]
      clear h1
      go_wp2
      refine ⟨⟨k + 1, by omega, by go_num, fun n => if n = k then wr.heap.size else bm n, ?_⟩, by simp [intOf]; omega⟩
      exact hst.out
    · obtain rfl : k = 64 := by omega
      have HR : Hid _ := hrel
      clear hrel
      go_wp2
      go_ret2
      obtain ⟨⟨A, h1, h2, h3, h4⟩, h5, h6, h7⟩ := HR.out
      exact ⟨w.heap.size, bm, rfl, Nat.le_refl _, fun m hm => by have := (h5 m hm).1; omega, ⟨⟨A, h1, h3, h4⟩, fun m hm => ⟨#[], 0, (h5 m hm).2, by simp [KeysOk], fun s _ => ⟨.slice none 0 0, rfl, ⟨rfl, Or.inl ⟨rfl, rfl⟩⟩⟩, by simp [Stamp]⟩, h6⟩, h7⟩

theorem afterTold {w w1 : World} {q : Nat} {A B : Array Value} {ta tb : TypeId} (hb1 : Below ((((w.alloc (.cells A ta)).drewN q).alloc (.cells B tb)).drew).heap.size ((((w.alloc (.cells A ta)).drewN q).alloc (.cells B tb)).drew) w1) :
    (∀ o, w1.cell? ⟨w.heap.size, o, none⟩ = A[o]?) ∧ (∀ o, w1.frozen? ⟨w.heap.size, o, none⟩ = false) ∧ (∀ o, w1.cell? ⟨w.heap.size + 1, o, none⟩ = B[o]?) ∧ Below (w.heap.size + 2) ((w.alloc (.cells A ta)).alloc (.cells B tb)) w1 := by
  have hb2 : Below ((w.alloc (.cells A ta)).alloc (.cells B tb)).heap.size ((w.alloc (.cells A ta)).alloc (.cells B tb)) w1 := undrew hb1 rfl rfl rfl rfl
  have hsz : ((w.alloc (.cells A ta)).alloc (.cells B tb)).heap.size = w.heap.size + 2 := by simp
  rw [hsz] at hb2
  have e0 : w1.heap[w.heap.size]? = some (.cells A ta) := by
    rw [hb2.block _ (by omega), Below.heap_alloc _ _ _ (by simp)]
    exact heap_alloc_new w _
  have e1 : w1.heap[w.heap.size + 1]? = some (.cells B tb) := by
    rw [hb2.block _ (by omega)]
    simpa using heap_alloc_new (w.alloc (.cells A ta)) (.cells B tb)
  exact ⟨fun o => by simp [World.cell?, e0], fun o => by simp [World.frozen?, e0], fun o => by simp [World.cell?, e1], hb2⟩

theorem two_new (w : World) (A B : Array Value) (ta tb : TypeId) (q o : Nat) : ((((w.alloc (.cells A ta)).drewN q).alloc (.cells B tb)).drew).cell? ⟨w.heap.size + 1, o, none⟩ = B[o]? := by
  have e : (((w.alloc (.cells A ta)).drewN q).alloc (.cells B tb)).heap[w.heap.size + 1]? = some (.cells B tb) := by
    have := heap_alloc_new ((w.alloc (.cells A ta)).drewN q) (.cells B tb)
    have hs : ((w.alloc (.cells A ta)).drewN q).heap.size = w.heap.size + 1 := by simp
    rw [hs] at this; exact this
  have e' : ((((w.alloc (.cells A ta)).drewN q).alloc (.cells B tb)).drew).heap[w.heap.size + 1]? = some (.cells B tb) := e
  simp only [World.cell?, e']
  simp
theorem two_new' (w : World) (A B : Array Value) (ta tb : TypeId) (q o : Nat) : (((w.alloc (.cells A ta)).drewN q).alloc (.cells B tb)).cell? ⟨w.heap.size + 1, o, none⟩ = B[o]? := two_new w A B ta tb q o

set_option maxRecDepth 100000 in
set_option maxHeartbeats 1000000 in
theorem get_ok (b num : Nat) (bm : Nat → Nat) (K : Know) (key : ByteArray) (w : World) (h : RepAt w b bm num K) (hK : KOk K) (hkey : keyB key = true) (hks : key.size ≤ 8) :
    Calls Tryz.prog 66 #[.pointer (some ⟨b, 0, none⟩), .string key] w fun e w' => ∃ v', e = .returned (.tuple #[v', ctxV (K key).1, .int .i64 0]) ∧ w'.ownsRow w.heap.size 88 3 v' (K key).2.length (flatV (K key).2) ∧ Below w.heap.size w w' := by
  obtain ⟨es, clock, hm, hk, hall, _⟩ := h.2.1 _ (segN_lt key)
  obtain ⟨sv, hent, hvs⟩ := hall key rfl
  obtain ⟨ad, cap, rfl, hcap⟩ := hvs.len
  have hlk : ∀ W : World, W.heap[bm (segN key)]? = some (.map es clock) → (Instr.lookup 63 (.map (some (bm (segN key)))) (.string key) false).run Tryz.prog W = .ok (stV (K key).1 (.slice ad (K key).2.length cap)) W := fun W hW => by
    rw [lookup_run W _ es clock key hW hk, hent]
  have hmlt := (Array.getElem?_eq_some_iff.1 hm).1
  have hma : ∀ X, (w.alloc X).heap[bm (segN key)]? = some (.map es clock) := fun X => by
    rw [Below.heap_alloc _ _ _ hmlt]; exact hm
  have HSeg : Hid (∀ X, Calls Tryz.prog 32 #[.pointer (some ⟨b, 0, none⟩), .string key] (w.alloc X) fun e w' => e = .returned (.map (some (bm (segN key)))) ∧ ∃ q, w' = (w.alloc X).drewN q) := fun X => segOf_any b num bm key _ (by unfold maxLen; omega) (h.below ((Below.refl _ _).alloc (Nat.le_refl _) X)).1
  have hck := isKey_any key
  have HL : Hid ((K key).2.length ≤ 100000) := (hK key).2.1
  have HS : Hid (∀ v ∈ (K key).2, v.val.size ≤ 281474976710656) := fun v hv => by have := (hK key).2.2.1 v hv; omega
  generalize (K key).1 = c at *
  generalize (K key).2 = l at *
  have HV : Hid _ := hvs
  have HCK : Hid _ := hck
  clear hvs hck hall hent hK h hm
  generalize bm (segN key) = bms at *
  go_enter Tryz.func66, Tryz.ntmps66
  go_wp2_with (first
    | (go_at_call 29; refine (HCK.out _ (by unfold maxLen; omega)).mono ?_; rw [hkey]; rintro e w1 ⟨rfl, rfl⟩)
    | (go_at_call 32; refine Calls.mono (HSeg.out _) ?_; rintro e w0 ⟨rfl, q, rfl⟩))
  have hbn : w.heap.size + 1 ≠ w.heap.size := by omega
  have HX : Hid (∀ A B, VSl ((((w.alloc A).drewN q).alloc B).drew) (.slice ad l.length cap) l) := fun A B => (show VSl ((((w.alloc A).drewN q).alloc B)) _ _ from World.ownsRow.alloc (show World.ownsRow ((w.alloc A).drewN q) 0 117 3 (.slice ad l.length cap) l.length (flatV l) from HV.out.alloc A) B).drew
  go_region_held3 (fun w' => w'.cell? ⟨w.heap.size + 1, 0, none⟩ = some (.int .i64 (c 0)) ∧ w'.cell? ⟨w.heap.size + 1, 1, none⟩ = some (.int .i64 (c 1)) ∧ w'.cell? ⟨w.heap.size + 1, 2, none⟩ = some (.int .i64 (c 2)) ∧ w'.cell? ⟨w.heap.size + 1, 3, none⟩ = some (.int .i64 (c 3)) ∧ w'.cell? ⟨w.heap.size + 1, 4, none⟩ = some (.slice ad l.length cap))
    (first | (simp [two_new']; done) | go_keep | (go_split_ands; exact ⟨cell_keep (by assumption) hb1, cell_keep (by assumption) hb1, cell_keep (by assumption) hb1, cell_keep (by assumption) hb1, cell_keep (by assumption) hb1⟩) | (go_split_ands; exact ⟨by rw [set_far hbn, set_far hbn, set_far hbn, set_far hbn]; assumption, by rw [set_far hbn, set_far hbn, set_far hbn, set_far hbn]; assumption, by rw [set_far hbn, set_far hbn, set_far hbn, set_far hbn]; assumption, by rw [set_far hbn, set_far hbn, set_far hbn, set_far hbn]; assumption, by rw [set_far hbn, set_far hbn, set_far hbn, set_far hbn]; assumption⟩))
    (first | (go_at_call 90; refine (told_any _ l _ (HX.out _ _) HL.out HS.out).mono ?_; rintro e w1 ⟨v', rfl, hown, hb1⟩; obtain ⟨m0, m1, m2, m3⟩ := afterTold hb1; have HO : Hid _ := ownsRow_base hown (show w.heap.size + 2 ≤ _ by simp [World.drew]); have HB : Hid _ := m3; clear hown m3))
  all_goals
    go_wp2
    refine bodyPost_ret (v := .tuple #[v', ctxV c, .int .i64 0]) ?_ rfl ⟨_, rfl, ?_, ?_⟩
    · simp [results, Tryz.results66, go_sem, m0]
    · exact ownsRow_base (ownsRow_setCell_below (ownsRow_setCell_below (ownsRow_setCell_below (ownsRow_setCell_below HO.out (by simp) _) (by simp) _) (by simp) _) (by simp) _) (by omega)
    · have base : Below w.heap.size w w1 := (((Below.refl _ _).alloc (Nat.le_refl _) _).alloc (by simp) _).trans (HB.out.mono (by omega))
      exact (((base.setCell (Nat.le_refl _) _).setCell (Nat.le_refl _) _).setCell (Nat.le_refl _) _).setCell (Nat.le_refl _) _
end Go.Proofs.YtldmcdeibiclkaaGreat

namespace Go.Proofs.YtldmcdeibiclkaaGreat
open Go.RowKit

theorem oldReads {W w1 : World} (hb : Below W.heap.size W w1) : (∀ b o, b < W.heap.size → w1.cell? ⟨b, o, none⟩ = W.cell? ⟨b, o, none⟩) ∧ (∀ b o, b < W.heap.size → w1.frozen? ⟨b, o, none⟩ = W.frozen? ⟨b, o, none⟩) :=
  ⟨fun b o h => hb.cell (p := ⟨b, o, none⟩) h, fun b o h => hb.frozen (p := ⟨b, o, none⟩) h⟩

theorem segOf_below (b num : Nat) (bm : Nat → Nat) (key : ByteArray) (w : World) (hs : key.size ≤ maxLen) (h : RepBlk w b bm num) :
    Calls Tryz.prog 32 #[.pointer (some ⟨b, 0, none⟩), .string key] w fun e w' => e = .returned (.map (some (bm (segN key)))) ∧ Below w.heap.size w w' ∧ w'.heap.size = w.heap.size := by
  refine (segOf_any b num bm key w hs h).mono ?_
  rintro e w' ⟨rfl, q, rfl⟩
  exact ⟨rfl, below_drewN (Below.refl _ _) q, rfl⟩

theorem VSl.below {w W : World} {sv : Value} {l : List Ver} (h : VSl w sv l) (hb : Below w.heap.size w W) : VSl W sv l := h.keep fun g hg _ => hb.block g hg

theorem cells_of0 {w : World} {b : Nat} {A : Array Value} {t : TypeId} (h : w.heap[b]? = some (.cells A t)) : (∀ o, w.cell? ⟨b, o, none⟩ = A[o]?) ∧ (∀ o, w.frozen? ⟨b, o, none⟩ = false) :=
  ⟨fun o => by simp [World.cell?, h], fun o => by simp [World.frozen?, h]⟩
theorem afterDrew {w w3 : World} (hb : Below w.drew.heap.size w.drew w3) : Hid (Below w.heap.size w w3) := below_keep (Below.refl _ _).drew hb
theorem afterAllocDrew {w w3 : World} {A : Array Value} {t : TypeId} (hb : Below (w.alloc (.cells A t)).drew.heap.size (w.alloc (.cells A t)).drew w3) : Hid (Below w.heap.size w w3) ∧ (∀ o, w3.cell? ⟨w.heap.size, o, none⟩ = A[o]?) ∧ (∀ o, w3.frozen? ⟨w.heap.size, o, none⟩ = false) :=
  ⟨below_keep ((Below.refl _ _).alloc (Nat.le_refl _) _).drew hb, cells_of0 (heap_keep (W := (w.alloc (.cells A t)).drew) (heap_alloc_new w _) hb)⟩
theorem afterAny {w W w3 : World} (hb : Below W.heap.size W w3) (h : Below w.heap.size w W) : Below w.heap.size w w3 := below_keep h hb
theorem afterSound {w w2 : World} {A B : Array Value} {ta tb : TypeId} (hb2 : Below ((w.alloc (.cells A ta)).alloc (.cells B tb)).heap.size ((w.alloc (.cells A ta)).alloc (.cells B tb)) w2) :
    (∀ o, w2.cell? ⟨w.heap.size + 1, o, none⟩ = B[o]?) ∧ Below w.heap.size w w2 ∧ w.heap.size + 1 < w2.heap.size := by
  have hsz : ((w.alloc (.cells A ta)).alloc (.cells B tb)).heap.size = w.heap.size + 2 := by simp
  rw [hsz] at hb2
  have e1 : w2.heap[w.heap.size + 1]? = some (.cells B tb) := by
    rw [hb2.block _ (by omega)]
    simpa using heap_alloc_new (w.alloc (.cells A ta)) (.cells B tb)
  exact ⟨fun o => by simp [World.cell?, e1], (((Below.refl _ _).alloc (Nat.le_refl _) _).alloc (by simp) _).trans (hb2.mono (by omega)), (Array.getElem?_eq_some_iff.1 e1).1⟩

set_option maxRecDepth 100000 in
set_option maxHeartbeats 400000 in
theorem delete_none (b num : Nat) (bm : Nat → Nat) (K : Know) (key : ByteArray) (seen : Ctx) (w : World) (h : RepAt w b bm num K) (hK : KOk K) (hkey : keyB key = true) (hks : key.size ≤ 8) (hseen : soundB seen = true)
    (hn : (unseenL (K key).2 seen).length = (K key).2.length) :
    Calls Tryz.prog 15 #[.pointer (some ⟨b, 0, none⟩), .string key, ctxV seen] w fun e w' => e = .returned (.int .i64 5) ∧ Below w.heap.size w w' := by
  have hb := h.1
  obtain ⟨es, clock, hm, hk, hall, _⟩ := h.2.1 _ (segN_lt key)
  obtain ⟨sv, hent, hvs⟩ := hall key rfl
  obtain ⟨ad, cap, rfl, hcap⟩ := hvs.len
  have hlk : ∀ W : World, W.heap[bm (segN key)]? = some (.map es clock) → (Instr.lookup 63 (.map (some (bm (segN key)))) (.string key) false).run Tryz.prog W = .ok (stV (K key).1 (.slice ad (K key).2.length cap)) W := fun W hW => by
    rw [lookup_run W _ es clock key hW hk, hent]
  have HSeg : Hid (∀ W, RepBlk W b bm num → Calls Tryz.prog 32 #[.pointer (some ⟨b, 0, none⟩), .string key] W fun e w' => e = .returned (.map (some (bm (segN key)))) ∧ Below W.heap.size W w' ∧ w'.heap.size = W.heap.size) := fun W hW => segOf_below b num bm key W (by unfold maxLen; omega) hW
  have HBlk : Hid (∀ W, Below w.heap.size w W → RepBlk W b bm num) := fun W hW => (h.below hW).1
  have HL : Hid ((K key).2.length ≤ 100000) := (hK key).2.1
  have HR : Hid (∀ v ∈ (K key).2, v.rep < 4) := (hK key).1
  generalize (K key).1 = c at *
  generalize (K key).2 = l at *
  have HV : Hid _ := hvs
  have HN : Hid _ := hn
  have HCK : Hid _ := isKey_any key
  have HSO : Hid _ := sound_any seen
  clear hvs hall hent hK hn h
  generalize hbms : bm (segN key) = bms at *
  have HBMS : Hid _ := hbms
  clear hbms
  go_enter Tryz.func15, Tryz.ntmps15
  go_wp2_with (first
    | (go_at_call 29; refine (HCK.out _ (by unfold maxLen; omega)).mono ?_; rw [hkey]; rintro e w1 ⟨rfl, rfl⟩)
    | (go_at_call 31; refine (HSO.out _).mono ?_; rw [hseen]; rintro e w2 ⟨rfl, hb2⟩; obtain ⟨c2, hB2, hz2⟩ := afterSound hb2; clear hb2))
  have hmk : Hid (∀ w', Below w2.heap.size w2 w' → RepBlk w' b bm num ∧ (Instr.lookup 63 (.map (some bms)) (.string key) false).run Tryz.prog w' = .ok (stV c (.slice ad l.length cap)) w' ∧ VSl w' (.slice ad l.length cap) l ∧ w'.cell? ⟨w.heap.size + 1, 0, none⟩ = some (.int .i64 (seen 0)) ∧ w'.cell? ⟨w.heap.size + 1, 1, none⟩ = some (.int .i64 (seen 1)) ∧ w'.cell? ⟨w.heap.size + 1, 2, none⟩ = some (.int .i64 (seen 2)) ∧ w'.cell? ⟨w.heap.size + 1, 3, none⟩ = some (.int .i64 (seen 3))) := fun w' hw =>
    ⟨HBlk.out _ (below_keep hB2 hw), hlk w' (heap_keep (heap_keep hm hB2) hw), (VSl.below HV.out hB2).below hw, cell_keep (c2 0) hw, cell_keep (c2 1) hw, cell_keep (c2 2) hw, cell_keep (c2 3) hw⟩
  have HB2 : Hid _ := hB2
  clear hB2 c2 hlk
  go_region_held3 (fun w' => RepBlk w' b bm num ∧ (Instr.lookup 63 (.map (some bms)) (.string key) false).run Tryz.prog w' = .ok (stV c (.slice ad l.length cap)) w' ∧ VSl w' (.slice ad l.length cap) l ∧ w'.cell? ⟨w.heap.size + 1, 0, none⟩ = some (.int .i64 (seen 0)) ∧ w'.cell? ⟨w.heap.size + 1, 1, none⟩ = some (.int .i64 (seen 1)) ∧ w'.cell? ⟨w.heap.size + 1, 2, none⟩ = some (.int .i64 (seen 2)) ∧ w'.cell? ⟨w.heap.size + 1, 3, none⟩ = some (.int .i64 (seen 3)))
    ((refine hmk.out _ ?_; first | (simp (maxDischargeDepth := 12) [Below.refl, Below.drew, Below.alloc, Below.setCell]; done) | (simp (maxDischargeDepth := 12) [Below.refl, Below.drew, Below.alloc, Below.setCell, B5, y5]; done) | (simp (maxDischargeDepth := 12) [Below.refl, Below.drew, Below.alloc, Below.setCell, B3, z3]; done)))
    (first | (go_at_call 32; refine Calls.mono (HSeg.out _ (by go_split_ands; assumption)) ?_; rintro e w5 ⟨rfl, hb5, z5⟩; obtain ⟨s1, s2⟩ := oldReads hb5; (try simp only [World.size_drew, size_allocW] at z5); have B5 : Below w2.heap.size w2 w5 := afterAny hb5 (by simp (maxDischargeDepth := 12) [Below.refl, Below.drew, Below.alloc]); have y5 := B5.size; clear hb5) | (go_at_call 43; refine (stDelete_none c _ l seen _ (by go_split_ands; assumption) HR.out HL.out HN.out).mono ?_; rintro e w3 ⟨rfl, hb3⟩; obtain ⟨q1, q2⟩ := oldReads hb3; have B3 : Below w2.heap.size w2 w3 := afterAny hb3 (by simp (maxDischargeDepth := 12) [Below.refl, Below.drew, Below.alloc, B5, y5]); have z3 := B3.size; clear hb3))
  all_goals
    go_wp2_with (go_at_call 35; refine (keep_err b key (fun _ => 0) (.slice none 0 0) 5 _ (by decide)).mono ?_; rintro e w4 ⟨rfl, hb4⟩; have B4 : Below w2.heap.size w2 w4 := afterAny hb4 (by simp (maxDischargeDepth := 12) [Below.refl, Below.drew, Below.alloc, Below.setCell, B3, z3]); clear hb4)
    go_ret
    exact ⟨rfl, below_keep HB2.out B4⟩

theorem size_allocW (w : World) (X : Obj) : (w.alloc X).heap.size = w.heap.size + 1 := by simp
theorem grownBy_after {w W w4 : World} {row : Option Nat} (h : Below w.heap.size w W) (hg : W.grownBy w4 row) : w.grownBy w4 row :=
  ⟨hg.os.trans h.os, hg.tape.trans h.tape, hg.output.trans h.output, Nat.le_trans h.size hg.size, fun k hk hn => (hg.block k (Nat.lt_of_lt_of_le hk h.size) hn).trans (h.block k hk)⟩
theorem VSl.of_own {w : World} {B : Nat} {v : Value} {l : List Ver} (h : w.ownsRow B 117 3 v l.length (flatV l)) : VSl w v l := ownsRow_base h (Nat.zero_le _)

set_option maxRecDepth 100000 in
set_option maxHeartbeats 400000 in
theorem delete_some (b num : Nat) (bm : Nat → Nat) (K : Know) (key : ByteArray) (seen : Ctx) (w : World) (h : RepAt w b bm num K) (hK : KOk K) (hkey : keyB key = true) (hks : key.size ≤ 8) (hseen : soundB seen = true)
    (hn : (unseenL (K key).2 seen).length < (K key).2.length) :
    Calls Tryz.prog 15 #[.pointer (some ⟨b, 0, none⟩), .string key, ctxV seen] w fun e w' => e = .returned (.int .i64 0) ∧ RepAt w' b bm num (updK K key (bothC (K key).1 seen, unseenL (K key).2 seen)) ∧ w.grownBy w' (some (bm (segN key))) := by
  have hb := h.1
  have HRep : Hid _ := h
  obtain ⟨es, clock, hm, hk, hall, _⟩ := h.2.1 _ (segN_lt key)
  obtain ⟨sv, hent, hvs⟩ := hall key rfl
  obtain ⟨ad, cap, rfl, hcap⟩ := hvs.len
  have hlk : ∀ W : World, W.heap[bm (segN key)]? = some (.map es clock) → (Instr.lookup 63 (.map (some (bm (segN key)))) (.string key) false).run Tryz.prog W = .ok (stV (K key).1 (.slice ad (K key).2.length cap)) W := fun W hW => by
    rw [lookup_run W _ es clock key hW hk, hent]
  have HSeg : Hid (∀ W, RepBlk W b bm num → Calls Tryz.prog 32 #[.pointer (some ⟨b, 0, none⟩), .string key] W fun e w' => e = .returned (.map (some (bm (segN key)))) ∧ Below W.heap.size W w' ∧ w'.heap.size = W.heap.size) := fun W hW => segOf_below b num bm key W (by unfold maxLen; omega) hW
  have HBlk : Hid (∀ W, Below w.heap.size w W → RepBlk W b bm num) := fun W hW => (h.below hW).1
  have HL : Hid ((K key).2.length ≤ 100000) := (hK key).2.1
  have HR : Hid (∀ v ∈ (K key).2, v.rep < 4) := (hK key).1
  generalize (K key).1 = c at *
  generalize (K key).2 = l at *
  have HV : Hid _ := hvs
  have HN : Hid _ := hn
  have HCK : Hid _ := isKey_any key
  have HSO : Hid _ := sound_any seen
  clear hvs hall hent hK hn h
  generalize hbms : bm (segN key) = bms at *
  have HBMS : Hid _ := hbms
  clear hbms
  go_enter Tryz.func15, Tryz.ntmps15
  go_wp2_with (first
    | (go_at_call 29; refine (HCK.out _ (by unfold maxLen; omega)).mono ?_; rw [hkey]; rintro e w1 ⟨rfl, rfl⟩)
    | (go_at_call 31; refine (HSO.out _).mono ?_; rw [hseen]; rintro e w2 ⟨rfl, hb2⟩; obtain ⟨c2, hB2, hz2⟩ := afterSound hb2; clear hb2))
  have hmk : Hid (∀ w', Below w2.heap.size w2 w' → RepBlk w' b bm num ∧ (Instr.lookup 63 (.map (some bms)) (.string key) false).run Tryz.prog w' = .ok (stV c (.slice ad l.length cap)) w' ∧ VSl w' (.slice ad l.length cap) l ∧ w'.cell? ⟨w.heap.size + 1, 0, none⟩ = some (.int .i64 (seen 0)) ∧ w'.cell? ⟨w.heap.size + 1, 1, none⟩ = some (.int .i64 (seen 1)) ∧ w'.cell? ⟨w.heap.size + 1, 2, none⟩ = some (.int .i64 (seen 2)) ∧ w'.cell? ⟨w.heap.size + 1, 3, none⟩ = some (.int .i64 (seen 3))) := fun w' hw =>
    ⟨HBlk.out _ (below_keep hB2 hw), hlk w' (heap_keep (heap_keep hm hB2) hw), (VSl.below HV.out hB2).below hw, cell_keep (c2 0) hw, cell_keep (c2 1) hw, cell_keep (c2 2) hw, cell_keep (c2 3) hw⟩
  have HB2 : Hid _ := hB2
  clear hB2 c2 hlk
  go_region_held3 (fun w' => RepBlk w' b bm num ∧ (Instr.lookup 63 (.map (some bms)) (.string key) false).run Tryz.prog w' = .ok (stV c (.slice ad l.length cap)) w' ∧ VSl w' (.slice ad l.length cap) l ∧ w'.cell? ⟨w.heap.size + 1, 0, none⟩ = some (.int .i64 (seen 0)) ∧ w'.cell? ⟨w.heap.size + 1, 1, none⟩ = some (.int .i64 (seen 1)) ∧ w'.cell? ⟨w.heap.size + 1, 2, none⟩ = some (.int .i64 (seen 2)) ∧ w'.cell? ⟨w.heap.size + 1, 3, none⟩ = some (.int .i64 (seen 3)))
    ((refine hmk.out _ ?_; first | (simp (maxDischargeDepth := 12) [Below.refl, Below.drew, Below.alloc, Below.setCell]; done) | (simp (maxDischargeDepth := 12) [Below.refl, Below.drew, Below.alloc, Below.setCell, B5, y5]; done) | (simp (maxDischargeDepth := 12) [Below.refl, Below.drew, Below.alloc, Below.setCell, B3, z3]; done)))
    (first | (go_at_call 32; refine Calls.mono (HSeg.out _ (by go_split_ands; assumption)) ?_; rintro e w5 ⟨rfl, hb5, z5⟩; obtain ⟨s1, s2⟩ := oldReads hb5; (try simp only [World.size_drew, size_allocW] at z5); have B5 : Below w2.heap.size w2 w5 := afterAny hb5 (by simp (maxDischargeDepth := 12) [Below.refl, Below.drew, Below.alloc]); have y5 := B5.size; clear hb5) | (go_at_call 43; refine (stDelete_some c _ l seen _ (by go_split_ands; assumption) HR.out HL.out HN.out).mono ?_; rintro e w3 ⟨v', rfl, hown, hb3⟩; obtain ⟨ad', cap', hv'⟩ := ownsRow_len hown; subst hv'; have O3 := hown; (try simp only [World.size_drew, size_allocW, z5] at O3); clear hown; obtain ⟨q1, q2⟩ := oldReads hb3; have B3 : Below w2.heap.size w2 w3 := afterAny hb3 (by simp (maxDischargeDepth := 12) [Below.refl, Below.drew, Below.alloc, B5, y5]); have z3 := B3.size; clear hb3))
  all_goals
    go_wp2_with (go_at_call 35; go_must (refine (keep_ok b num bm K key (bothC c seen) _ (unseenL l seen) _ (by omega) (RepAt.below HRep.out (below_keep HB2.out (by simp (maxDischargeDepth := 12) [Below.refl, Below.drew, Below.alloc, Below.setCell, B3, z3]))) (by first | (refine VSl.of_own (B := w2.heap.size) ?_; simp (maxDischargeDepth := 12) [World.ownsRow.alloc, O3]; done) | (refine VSl.of_own (B := w2.heap.size + 1) ?_; simp (maxDischargeDepth := 12) [ownsRow_setCell_below, O3]; done))).mono ?_); rintro e w4 ⟨rfl, hrep4, hg4⟩; have B5 := grownBy_after (w := w2) (by simp (maxDischargeDepth := 12) [Below.refl, Below.drew, Below.alloc, Below.setCell, B3, z3]) hg4; have HR4 : Hid _ := hrep4; clear hrep4 hg4)
    go_ret
    exact ⟨rfl, HR4.out, by have g := grownBy_after HB2.out B5; rw [HBMS.out] at g; exact g⟩
end Go.Proofs.YtldmcdeibiclkaaGreat
