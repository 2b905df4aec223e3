/-
  Contracts: the digest of a text, how many nodes a level has, and the segment of a key.
  Contract: keep: a key's state is laid into the replica's map; nothing else that was there turns.
  Contract: told: the versions of a row, in new memory.
-/
import Derived.Test.YtldmcdeibiclkaaGreatQ02
import Derived.Laws.Bits64
import Derived.Test.YtldmcdeibiclkaaGreatQ05
import Derived.Test.YtldmcdeibiclkaaGreatQ07
import Derived.Deep.RegionHeld3
import Derived.Laws.MakeOwn
set_option linter.unusedVariables false
set_option linter.unusedSimpArgs false

namespace Go.Proofs.YtldmcdeibiclkaaGreat
open Go.RowKit

/-- A byte of a text, as a number. -/
def byteI (s : ByteArray) (k : Nat) : Int := if h : k < s.size then (s[k].toNat : Int) else 0
/-- The digest of the first k bytes of a text. -/
def fnvTo (s : ByteArray) : Nat → Int
  | 0 => 14695981039346656037
  | k + 1 => IntKind.u64.wrap (Go.bits .xor .u64 (fnvTo s k) (byteI s k) * 1099511628211)
/-- The digest of a text. -/
def fnv (s : ByteArray) : Int := fnvTo s s.size
/-- The segment of a key. -/
def segN (s : ByteArray) : Nat := (fnv s % 64).toNat

theorem fnvTo_range (s : ByteArray) : ∀ k, 0 ≤ fnvTo s k ∧ fnvTo s k < 18446744073709551616
  | 0 => by simp [fnvTo]
  | k + 1 => by
    simp only [fnvTo, IntKind.wrap_u64]
    exact ⟨Int.emod_nonneg _ (by decide), Int.emod_lt_of_pos _ (by decide)⟩
theorem segN_lt (s : ByteArray) : segN s < 64 := by
  unfold segN
  have h1 := Int.emod_nonneg (fnv s) (show (64 : Int) ≠ 0 by decide)
  have h2 := Int.emod_lt_of_pos (fnv s) (show (0 : Int) < 64 by decide)
  omega
theorem segN_int (s : ByteArray) : ((segN s : Nat) : Int) = fnv s % 64 := by
  unfold segN
  have h1 := Int.emod_nonneg (fnv s) (show (64 : Int) ≠ 0 by decide)
  omega

theorem wrap_byte (b : UInt8) : IntKind.u64.wrap (b.toNat : Int) = (b.toNat : Int) := by
  rw [IntKind.wrap_u64]
  have := b.toNat_lt
  omega
theorem byteI_lt (s : ByteArray) (k : Nat) (h : k < s.size) : byteI s k = (s[k].toNat : Int) := by simp [byteI, h]

set_option maxHeartbeats 400000 in
theorem sum_any (s : ByteArray) (w : World) (hs : s.size ≤ maxLen) :
    Calls Tryz.prog 84 #[.string s] w fun e w' => e = .returned (.int .u64 (fnv s)) ∧ w' = w := by
  unfold maxLen at hs
  go_enter Tryz.func84, Tryz.ntmps84
  go_wp2
  go_loop [3, 7] (fun d i => ∃ k : Nat, k ≤ s.size ∧ i = .int .i64 k ∧ d = .int .u64 (fnvTo s k)) (fun _ i => s.size - (intOf i).toNat)
  case atStart => exact ⟨0, by omega, rfl, rfl⟩
  case round =>
    obtain ⟨k, hk, rfl, rfl⟩ := hrel
    by_cases hlt : k < s.size
    · have g1 : (k : Int) < (s.size : Int) := by omega
      have g0 : (0 : Int) ≤ (k : Int) := by omega
      have hst : Hid (fnvTo s (k + 1) = IntKind.u64.wrap (Go.bits .xor .u64 (fnvTo s k) (s[k].toNat : Int) * 1099511628211)) := by
        show fnvTo s (k + 1) = _
        rw [fnvTo, byteI_lt s k hlt]
      go_wp2
      refine ⟨⟨k + 1, by omega, by go_num, ?_⟩, by simp [intOf]; omega⟩
      rw [hst.out, wrap_byte]
    · have hke : k = s.size := by omega
      go_wp2
      go_ret
      exact ⟨rfl, rfl⟩

set_option maxHeartbeats 400000 in
theorem width_3 (w : World) : Calls Tryz.prog 70 #[.int .i64 3] w fun e w' => e = .returned (.int .i64 64) ∧ w' = w := by
  go_enter Tryz.func70, Tryz.ntmps70
  go_wp2
  go_loop [3, 5] (fun c i => (i = .int .i64 0 ∧ c = .int .i64 1) ∨ (i = .int .i64 1 ∧ c = .int .i64 4) ∨ (i = .int .i64 2 ∧ c = .int .i64 16) ∨ (i = .int .i64 3 ∧ c = .int .i64 64)) (fun _ i => 3 - (intOf i).toNat)
  case atStart => exact Or.inl ⟨rfl, rfl⟩
  case round =>
    rcases hrel with ⟨rfl, rfl⟩ | ⟨rfl, rfl⟩ | ⟨rfl, rfl⟩ | ⟨rfl, rfl⟩
    · go_wp2
      exact ⟨Or.inr (Or.inl ⟨rfl, rfl⟩), by decide⟩
    · go_wp2
      exact ⟨Or.inr (Or.inr (Or.inl ⟨rfl, rfl⟩)), by decide⟩
    · go_wp2
      exact ⟨Or.inr (Or.inr (Or.inr ⟨rfl, rfl⟩)), by decide⟩
    · go_wp2
      go_ret
      exact ⟨rfl, rfl⟩

set_option maxHeartbeats 400000 in
theorem segmentOf_any (s : ByteArray) (w : World) (hs : s.size ≤ maxLen) :
    Calls Tryz.prog 58 #[.string s] w fun e w' => e = .returned (.int .i64 (segN s)) ∧ w' = w := by
  have HS : Hid _ := fun W => sum_any s W hs
  have h0 := (fnvTo_range s s.size).1
  have h1 := (fnvTo_range s s.size).2
  have hx : Hid (fnv s % 64 = (segN s : Int)) := (segN_int s).symm
  have hl := segN_lt s
  change 0 ≤ fnv s at h0
  change fnv s < _ at h1
  generalize fnv s = F at *
  go_enter Tryz.func58, Tryz.ntmps58
  go_wp2_with (first
    | (go_at_call 84; refine Calls.mono (HS.out _) ?_; rintro e w1 ⟨rfl, rfl⟩)
    | (go_at_call 70; refine (width_3 _).mono ?_; rintro e w1 ⟨rfl, rfl⟩))
  go_ret
  refine ⟨ret_int ?_, rfl⟩
  exact hx.out
end Go.Proofs.YtldmcdeibiclkaaGreat

namespace Go.Proofs.YtldmcdeibiclkaaGreat
open Go.RowKit

/-- What a replica knows: of each key a context and versions. -/
abbrev Know := ByteArray → Ctx × List Ver

/-- A replica's block: its number, and its 64 maps. -/
def RepBlk (w : World) (b : Nat) (bm : Nat → Nat) (num : Nat) : Prop :=
  ∃ A : Array Value, w.heap[b]? = some (.cells A 66) ∧ A[0]? = some (.int .i64 num) ∧ ∀ n, n < 64 → A[n + 1]? = some (.map (some (bm n)))

/-- The map of segment n lies in block m: of each key of that segment what is known. -/
def SegAt (w : World) (m n : Nat) (K : Know) : Prop :=
  ∃ es clock, w.heap[m]? = some (.map es clock) ∧ KeysOk es.toList ∧ (∀ s, segN s = n → ∃ sv, (entAt es.toList s).getD zeroSt = stV (K s).1 sv ∧ VSl w sv (K s).2) ∧ Stamp (fun k => segN k = n ∧ k.size ≤ 281474976710656) es.toList clock

/-- A replica lies at block b, its maps in the blocks bm. -/
def RepAt (w : World) (b : Nat) (bm : Nat → Nat) (num : Nat) (K : Know) : Prop :=
  RepBlk w b bm num ∧ (∀ n, n < 64 → SegAt w (bm n) n K) ∧ ∀ n m, n < 64 → m < 64 → bm n = bm m → n = m

def updK (K : Know) (s : ByteArray) (x : Ctx × List Ver) : Know := fun t => if t = s then x else K t

theorem VSl.keep {w w' : World} {sv : Value} {l : List Ver} (h : VSl w sv l) (hk : ∀ g, g < w.heap.size → (∃ cur, w.heap[g]? = some (.cells cur 117 (0, 0))) → w'.heap[g]? = w.heap[g]?) : VSl w' sv l := by
  obtain ⟨h1, h2⟩ := h
  refine ⟨h1, ?_⟩
  rcases h2 with h2 | ⟨g, cap, cur, hv, hg, hh, r⟩
  · exact Or.inl h2
  · exact Or.inr ⟨g, cap, cur, hv, hg, by rw [hk g (Array.getElem?_eq_some_iff.1 hh).1 ⟨cur, hh⟩]; exact hh, r⟩

theorem RepBlk.lt {w : World} {b num : Nat} {bm : Nat → Nat} (h : RepBlk w b bm num) : b < w.heap.size := by
  obtain ⟨A, h1, _⟩ := h; exact (Array.getElem?_eq_some_iff.1 h1).1
theorem SegAt.lt {w : World} {m n : Nat} {K : Know} (h : SegAt w m n K) : m < w.heap.size := by
  obtain ⟨es, clock, h1, _⟩ := h; exact (Array.getElem?_eq_some_iff.1 h1).1
theorem RepBlk.num {w : World} {b num : Nat} {bm : Nat → Nat} (h : RepBlk w b bm num) : w.cell? ⟨b, 0, none⟩ = some (.int .i64 num) := by
  obtain ⟨A, h1, h2, _⟩ := h; simp [World.cell?, h1, h2]
theorem RepBlk.seg {w : World} {b num : Nat} {bm : Nat → Nat} (h : RepBlk w b bm num) {n : Nat} (hn : n < 64) : w.cell? ⟨b, n + 1, none⟩ = some (.map (some (bm n))) := by
  obtain ⟨A, h1, _, h2⟩ := h; simp [World.cell?, h1, h2 n hn]

/-- Where none of its blocks nor any row of versions has turned, a replica lies as it lay. -/
theorem RepAt.keep {w w' : World} {b num : Nat} {bm : Nat → Nat} {K : Know} (h : RepAt w b bm num K) (hb : w'.heap[b]? = w.heap[b]?) (hm : ∀ n, n < 64 → w'.heap[bm n]? = w.heap[bm n]?) (hk : ∀ g, g < w.heap.size → (∃ cur, w.heap[g]? = some (.cells cur 117 (0, 0))) → w'.heap[g]? = w.heap[g]?) : RepAt w' b bm num K := by
  obtain ⟨⟨A, h1, h2⟩, h3, h4⟩ := h
  refine ⟨⟨A, by rw [hb]; exact h1, h2⟩, fun n hn => ?_, h4⟩
  obtain ⟨es, clock, e1, e2, e3, e4⟩ := h3 n hn
  refine ⟨es, clock, by rw [hm n hn]; exact e1, e2, fun s hs => ?_, e4⟩
  obtain ⟨sv, h5, h6⟩ := e3 s hs
  exact ⟨sv, h5, h6.keep hk⟩

theorem RepAt.below {w w' : World} {b num : Nat} {bm : Nat → Nat} {K : Know} (h : RepAt w b bm num K) (hb : Below w.heap.size w w') : RepAt w' b bm num K :=
  h.keep (hb.block _ h.1.lt) (fun n hn => hb.block _ (h.2.1 n hn).lt) fun g hg _ => hb.block g hg

set_option maxRecDepth 100000 in
set_option maxHeartbeats 1000000 in
theorem keep_err (b : Nat) (key : ByteArray) (c : Ctx) (sv : Value) (e : Int) (w : World) (he : (e == 0) = false) :
    Calls Tryz.prog 35 #[.pointer (some ⟨b, 0, none⟩), .string key, stV c sv, .int .i64 e] w fun r w' => r = .returned (.int .i64 e) ∧ Below w.heap.size w w' := by
  go_enter Tryz.func35, Tryz.ntmps35
  go_wp2
  go_ret
  exact ⟨rfl, (Below.refl _ _).alloc (Nat.le_refl _) _⟩

theorem cell_keep {W w1 : World} {p : Addr} {v : Value} (h : W.cell? p = some v) (hb : Below W.heap.size W w1) : w1.cell? p = some v := by
  rw [hb.cell (World.block_lt_of_cell? W p h)]; exact h
theorem heap_keep {W w1 : World} {k : Nat} {o : Obj} (h : W.heap[k]? = some o) (hb : Below W.heap.size W w1) : w1.heap[k]? = some o := by
  rw [hb.block k (Array.getElem?_eq_some_iff.1 h).1]; exact h
theorem below_keep {w W w1 : World} (h : Below w.heap.size w W) (hb : Below W.heap.size W w1) : Below w.heap.size w w1 := h.trans (hb.mono h.size)

theorem setMap_same {w : World} {bm : Nat} {es : Array MapEntry} {clock : Nat} (h : bm < w.heap.size) : (setMap w bm es clock).heap[bm]? = some (.map es clock) := by
  simp [setMap, h]
theorem setMap_other {w : World} {bm k : Nat} {es : Array MapEntry} {clock : Nat} (h : k ≠ bm) : (setMap w bm es clock).heap[k]? = w.heap[k]? := by
  simp only [setMap, Array.getElem?_setIfInBounds]
  rw [if_neg (Ne.symm h)]

theorem rep_set {w w1 : World} {b num : Nat} {bm : Nat → Nat} {K : Know} {key : ByteArray} {c : Ctx} {sv : Value} {l : List Ver} {es es' : Array MapEntry} {clock clock' : Nat} (hB : Below w.heap.size w w1)
    (h : RepAt w b bm num K) (hm : w.heap[bm (segN key)]? = some (.map es clock)) (hk' : KeysOk es'.toList)
    (he : ∀ t, entAt es'.toList t = if t = key then some (stV c sv) else entAt es.toList t) (hst : ∀ Q, Q key → Stamp Q es.toList clock → Stamp Q es'.toList clock') (hks : key.size ≤ 281474976710656) (hv : VSl w sv l) :
    RepAt (setMap w1 (bm (segN key)) es' clock') b bm num (updK K key (c, l)) ∧ w.grownBy (setMap w1 (bm (segN key)) es' clock') (some (bm (segN key))) := by
  have hblt := h.1.lt
  have hmlt := (Array.getElem?_eq_some_iff.1 hm).1
  have hseg := segN_lt key
  obtain ⟨⟨A, hA, hA2⟩, hS, hinj⟩ := h
  have hne : b ≠ bm (segN key) := fun e => by rw [e, hm] at hA; cases hA
  have hvk : ∀ sv l, VSl w sv l → VSl (setMap w1 (bm (segN key)) es' clock') sv l := fun sv l h => h.keep fun g hg ⟨cur, hc⟩ => by
    rw [setMap_other (fun e => by rw [e, hm] at hc; cases hc), hB.block g hg]
  refine ⟨⟨⟨A, ?_, hA2⟩, fun n hn => ?_, hinj⟩, ?_⟩
  · rw [setMap_other hne, hB.block b hblt]; exact hA
  · by_cases hns : n = segN key
    · subst hns
      obtain ⟨es0, clock0, e1, e2, e3, e4⟩ := hS _ hseg
      rw [hm] at e1
      cases e1
      refine ⟨es', clock', setMap_same (Nat.lt_of_lt_of_le hmlt hB.size), hk', fun s hs => ?_, hst _ ⟨rfl, hks⟩ e4⟩
      rw [he]
      by_cases h : s = key
      · rw [if_pos h]
        exact ⟨sv, by simp [updK, h], by simpa [updK, h] using hvk _ _ hv⟩
      · rw [if_neg h]
        obtain ⟨sv', h1, h2⟩ := e3 s hs
        exact ⟨sv', by simpa [updK, h] using h1, by simpa [updK, h] using hvk _ _ h2⟩
    · have hl := (hS n hn).lt
      obtain ⟨es0, clock0, e1, e2, e3, e4⟩ := hS n hn
      refine ⟨es0, clock0, ?_, e2, fun s hs => ?_, e4⟩
      · rw [setMap_other (fun e => hns (hinj _ _ hn hseg e)), hB.block _ hl]; exact e1
      · have hsk : s ≠ key := fun e => hns (by rw [← hs, e])
        obtain ⟨sv', h1, h2⟩ := e3 s hs
        exact ⟨sv', by simpa [updK, hsk] using h1, by simpa [updK, hsk] using hvk _ _ h2⟩
  · refine ⟨hB.os, hB.tape, hB.output, by simpa [setMap] using hB.size, fun k hk hn => ?_⟩
    rw [setMap_other (fun e => hn (by rw [e])), hB.block k hk]

/-- What was drawn does not matter to what lies there. -/
theorem undrew {W w0 w1 : World} (hb : Below W.heap.size W w1) (e1 : W.heap = w0.heap) (e2 : W.os = w0.os) (e3 : W.tape = w0.tape) (e4 : W.output = w0.output) : Below w0.heap.size w0 w1 :=
  ⟨hb.os.trans e2, hb.tape.trans e3, hb.output.trans e4, by rw [← e1]; exact hb.size, fun k hk => by rw [← e1]; exact hb.block k (by rw [e1]; exact hk)⟩

set_option maxRecDepth 100000 in
set_option maxHeartbeats 400000 in
theorem segOf_any (b num : Nat) (bm : Nat → Nat) (key : ByteArray) (w : World) (hs : key.size ≤ maxLen) (h : RepBlk w b bm num) :
    Calls Tryz.prog 32 #[.pointer (some ⟨b, 0, none⟩), .string key] w fun e w' => e = .returned (.map (some (bm (segN key)))) ∧ ∃ q, w' = w.drewN q := by
  have HS : Hid _ := fun W => segmentOf_any key W hs
  have hl := segN_lt key
  have hc := h.seg hl
  generalize segN key = n at *
  have hl' : (n : Int) < 64 := by omega
  have hl0 : (0 : Int) ≤ (n : Int) := by omega
  have hc' : w.cell? ⟨b, 1 + n, none⟩ = some (.map (some (bm n))) := by rw [Nat.add_comm]; exact hc
  clear h
  go_enter Tryz.func32, Tryz.ntmps32
  go_wp2
  go_quiet ((go_at_call 58; refine Calls.mono (HS.out _) ?_; rintro e w' ⟨rfl, rfl⟩; exact ⟨rfl, _, rfl⟩))
  go_wp2
  go_ret
  exact ⟨rfl, _, rfl⟩

set_option maxRecDepth 100000 in
set_option maxHeartbeats 1000000 in
theorem keep_ok (b num : Nat) (bm : Nat → Nat) (K : Know) (key : ByteArray) (c : Ctx) (sv : Value) (l : List Ver) (w : World) (hs : key.size ≤ 281474976710656) (h : RepAt w b bm num K) (hv : VSl w sv l) :
    Calls Tryz.prog 35 #[.pointer (some ⟨b, 0, none⟩), .string key, stV c sv, .int .i64 0] w fun r w' => r = .returned (.int .i64 0) ∧ RepAt w' b bm num (updK K key (c, l)) ∧ w.grownBy w' (some (bm (segN key))) := by
  obtain ⟨es, clock, hm, hk, _⟩ := h.2.1 _ (segN_lt key)
  obtain ⟨es', clock', hrun, hk', hent, hstp⟩ := mapUpdate_run (bm (segN key)) es clock key (stV c sv) hk
  have HF : Hid (∀ w1, Below w.heap.size w w1 → RepAt (setMap w1 (bm (segN key)) es' clock') b bm num (updK K key (c, l)) ∧ w.grownBy (setMap w1 (bm (segN key)) es' clock') (some (bm (segN key)))) := fun w1 hB => rep_set hB h hm hk' hent hstp hs hv
  have HSeg : Hid (∀ w1, Below w.heap.size w w1 → Calls Tryz.prog 32 #[.pointer (some ⟨b, 0, none⟩), .string key] w1 fun e w' => e = .returned (.map (some (bm (segN key)))) ∧ ∃ q, w' = w1.drewN q) := fun w1 hB => segOf_any b num bm key w1 (by unfold maxLen; omega) (h.below hB).1
  have HM : Hid (∀ w1, Below w.heap.size w w1 → w1.heap[bm (segN key)]? = some (.map es clock)) := fun w1 hB => heap_keep hm hB
  have HC : Hid (∀ w1, Below (w.alloc (.cells #[.int .i64 (c 0), .int .i64 (c 1), .int .i64 (c 2), .int .i64 (c 3), sv] 74)).heap.size (w.alloc (.cells #[.int .i64 (c 0), .int .i64 (c 1), .int .i64 (c 2), .int .i64 (c 3), sv] 74)) w1 → ∀ o, w1.cell? ⟨w.heap.size, o, none⟩ = #[Value.int .i64 (c 0), .int .i64 (c 1), .int .i64 (c 2), .int .i64 (c 3), sv][o]?) := fun w1 hB o => by
    have := heap_keep (heap_alloc_new w _) hB
    simp [World.cell?, this]
  have HA : Hid (∀ w1, Below (w.alloc (.cells #[.int .i64 (c 0), .int .i64 (c 1), .int .i64 (c 2), .int .i64 (c 3), sv] 74)).heap.size (w.alloc (.cells #[.int .i64 (c 0), .int .i64 (c 1), .int .i64 (c 2), .int .i64 (c 3), sv] 74)) w1 → Below w.heap.size w w1) := fun w1 hB => below_keep ((Below.refl _ _).alloc (Nat.le_refl _) _) hB
  clear hent hv hk hk' h hm hstp
  generalize bm (segN key) = bms at *
  go_enter Tryz.func35, Tryz.ntmps35
  go_wp2
  go_region_with (first
    | (go_at_call 34; refine (clone_any key _ hs).mono ?_; rintro e w1 ⟨rfl, hb1⟩; have hB0 := undrew (w0 := w.alloc (.cells #[.int .i64 (c 0), .int .i64 (c 1), .int .i64 (c 2), .int .i64 (c 3), sv] 74)) hb1 rfl rfl rfl rfl; have HB : Hid _ := HA.out _ hB0; have k1 := HC.out _ hB0; have k3 := HM.out _ HB.out; have hrun1 := hrun w1 k3; have hrun2 := fun q => hrun (w1.drewN q) k3; clear hB0 hb1)
    | (go_at_call 32; refine Calls.mono (HSeg.out _ (by first | exact HB.out | exact ((Below.refl w.heap.size w).alloc (Nat.le_refl _) _).drew)) ?_; rintro e w2 ⟨rfl, q, rfl⟩))
  all_goals
    go_wp2
    go_ret
    exact ⟨rfl, HF.out _ (by first | exact HB.out | exact ⟨HB.out.os, HB.out.tape, HB.out.output, HB.out.size, HB.out.block⟩)⟩
end Go.Proofs.YtldmcdeibiclkaaGreat

namespace Go.Proofs.YtldmcdeibiclkaaGreat
open Go.RowKit

theorem heap_set {w : World} {b o : Nat} {M : Array Value} {t : TypeId} {fr : Nat × Nat} {v : Value} (h : w.heap[b]? = some (.cells M t fr)) : (w.setCell ⟨b, o, none⟩ v).heap[b]? = some (.cells (M.setIfInBounds o v) t fr) := by
  simp [World.setCell, Array.getElem?_modify, h]
theorem set_far {w : World} {b o b' o' : Nat} {v : Value} (h : b' ≠ b) : (w.setCell ⟨b, o, none⟩ v).cell? ⟨b', o', none⟩ = w.cell? ⟨b', o', none⟩ := World.cell?_of_block (Below.heap_setCell w ⟨b, o, none⟩ v b' h)
theorem heap_set3 {w : World} {b o : Nat} {M : Array Value} {t : TypeId} {fr : Nat × Nat} {x y z : Value} (h : w.heap[b]? = some (.cells M t fr)) : (((w.setCell ⟨b, o, none⟩ x).setCell ⟨b, o + 1, none⟩ y).setCell ⟨b, o + 2, none⟩ z).heap[b]? = some (.cells (((M.setIfInBounds o x).setIfInBounds (o + 1) y).setIfInBounds (o + 2) z) t fr) :=
  heap_set (heap_set (heap_set h))

theorem take_set3 {M : Array Value} {k : Nat} {xs : List Value} {x y z : Value} (hs : k * 3 + 2 < M.size) (h : M.toList.take (k * 3) = xs) : (((M.setIfInBounds (k * 3) x).setIfInBounds (k * 3 + 1) y).setIfInBounds (k * 3 + 2) z).toList.take ((k + 1) * 3) = xs ++ [x, y, z] := by
  subst h
  apply List.ext_getElem?
  intro t
  have hl : (M.toList.take (k * 3)).length = k * 3 := by simp; omega
  by_cases h1 : t < k * 3
  · rw [List.getElem?_take, if_pos (by omega), List.getElem?_append_left (by omega), List.getElem?_take, if_pos h1]
    simp only [Array.getElem?_toList, Array.getElem?_setIfInBounds]
    rw [if_neg (by omega), if_neg (by omega), if_neg (by omega)]
  · rw [List.getElem?_append_right (by omega), hl]
    by_cases h2 : t < (k + 1) * 3
    · rw [List.getElem?_take, if_pos h2]
      simp only [Array.getElem?_toList, Array.getElem?_setIfInBounds, Array.size_setIfInBounds]
      have h3 : t = k * 3 ∨ t = k * 3 + 1 ∨ t = k * 3 + 2 := by omega
      rcases h3 with rfl | rfl | rfl
      · rw [if_neg (by omega), if_neg (by omega), if_pos rfl, if_pos (by omega)]; simp
      · rw [if_neg (by omega), if_pos rfl, if_pos (by omega)]; simp
      · rw [if_pos rfl, if_pos (by omega)]; simp
    · rw [List.getElem?_take, if_neg h2, List.getElem?_eq_none (by simp; omega)]

theorem Tryz.infoApi : (Tryz.prog.info? 88).map (fun i => (i.zero, i.size, i.bytes)) = some (some (.agg #[.int .i64 0, .int .i64 0, .string ⟨#[]⟩]), 3, 32) := by kernel_rfl

theorem flatV_take_succ (l : List Ver) (k : Nat) (h : k < l.length) : flatV (l.take (k + 1)) = flatV (l.take k) ++ [.int .i64 l[k].rep, .int .i64 l[k].n, .string l[k].val] := by
  rw [List.take_succ_eq_append_getElem h, flatV_append]
  simp [flatV, encV]

theorem afterClone2 {wr w1 : World} {bo k : Nat} {M : Array Value} {t : TypeId} {X : Obj} (hb1 : Below ((wr.alloc X).drew).heap.size ((wr.alloc X).drew) w1) (hh : wr.heap[bo]? = some (.cells M t)) (hs : k * 3 + 2 < M.size) :
    w1.heap[bo]? = some (.cells M t) ∧ (∃ x, w1.cell? ⟨bo, k * 3, none⟩ = some x) ∧ (∃ x, w1.cell? ⟨bo, k * 3 + 1, none⟩ = some x) ∧ (∃ x, w1.cell? ⟨bo, k * 3 + 2, none⟩ = some x) ∧ (∀ o, w1.frozen? ⟨bo, o, none⟩ = false) ∧ Below wr.heap.size wr w1 := by
  have hlt := (Array.getElem?_eq_some_iff.1 hh).1
  have hB : Below wr.heap.size wr w1 := (((Below.refl _ _).alloc (Nat.le_refl _) _).drew).trans (hb1.mono (by simp [World.drew]))
  have e : w1.heap[bo]? = some (.cells M t) := heap_keep hh hB
  refine ⟨e, ⟨M[k * 3], ?_⟩, ⟨M[k * 3 + 1], ?_⟩, ⟨M[k * 3 + 2], ?_⟩, fun o => by simp [World.frozen?, e], hB⟩
  · simp only [World.cell?, e]; simp
  · simp only [World.cell?, e]; simp
  · simp only [World.cell?, e]; simp

/-- What holds of the world ahead of a round of told. -/
def ToldRel (w : World) (l : List Ver) (k : Nat) (wr : World) : Prop :=
  ∃ M : Array Value, wr.heap[w.heap.size]? = some (.cells M 88) ∧ M.size = l.length * 3 ∧ M.toList.take (k * 3) = flatV (l.take k) ∧ Below w.heap.size w wr

set_option maxRecDepth 100000 in
set_option maxHeartbeats 1000000 in
theorem told_any (sv : Value) (l : List Ver) (w : World) (h : VSl w sv l) (hlen : l.length ≤ 100000) (hval : ∀ v ∈ l, v.val.size ≤ 281474976710656) :
    Calls Tryz.prog 90 #[sv] w fun e w' => ∃ v', e = .returned v' ∧ w'.ownsRow w.heap.size 88 3 v' l.length (flatV l) ∧ Below w.heap.size w w' := by
  obtain ⟨ad, cap, rfl, hcap⟩ := h.len
  obtain ⟨i0, hi0, hz0, hz1, hz2⟩ := info_parts Tryz.infoApi
  have hmk := run_make (P := Tryz.prog) w 67 88 i0 _ Tryz.underlying67 hi0 hz0 .i64 .i64 l.length l.length (by omega) (by omega) (by rw [hz2]; omega) (by omega)
  rw [hz1] at hmk
  simp only [Int.toNat_natCast] at hmk
  have hM := size_madeCells (Value.agg #[.int .i64 0, .int .i64 0, .string ⟨#[]⟩]).cells (l.length * 3)
  generalize madeCells (Value.agg #[.int .i64 0, .int .i64 0, .string ⟨#[]⟩]).cells (l.length * 3) = M at hmk hM
  have H : Hid _ := h
  have HV : Hid _ := hval
  have HM : Hid _ := hM
  clear h hval hM hi0 hz0 hz1 hz2
  go_enter Tryz.func90, Tryz.ntmps90
  go_wp2
  go_loopw [11] (fun i wr => ∃ k : Nat, k ≤ l.length ∧ i = .int .i64 k ∧ ToldRel w l k wr) (fun i _ => l.length - (intOf i).toNat)
  case atStart => exact ⟨0, by omega, rfl, M, heap_alloc_new w _, HM.out, by simp [flatV], (Below.refl _ _).alloc (Nat.le_refl _) _⟩
  case round =>
    obtain ⟨k, hk, rfl, hrel⟩ := hrel
    by_cases hlt : k < l.length
    · obtain ⟨g, cap', hsv', hg, _, _, c0, c1, c2⟩ := VSl.cells H.out hlt
      cases hsv'
      have hvk : Hid (l[k].val.size ≤ 281474976710656) := HV.out _ (List.getElem_mem hlt)
      have hsn : Hid _ := flatV_take_succ l k hlt
      generalize l[k].rep = r at *
      generalize l[k].n = n at *
      generalize l[k].val = s at *
      have hs := hvk.out
      obtain ⟨M', hh, hms, htk, hb⟩ := hrel
      have hbo := (Array.getElem?_eq_some_iff.1 hh).1
      have d0 : wr.cell? ⟨g, k * 3, none⟩ = some (.int .i64 r) := (hb.cell (p := ⟨g, k * 3, none⟩) hg).trans c0
      have d1 : wr.cell? ⟨g, k * 3 + 1, none⟩ = some (.int .i64 n) := (hb.cell (p := ⟨g, k * 3 + 1, none⟩) hg).trans c1
      have d2 : wr.cell? ⟨g, k * 3 + 2, none⟩ = some (.string s) := (hb.cell (p := ⟨g, k * 3 + 2, none⟩) hg).trans c2
      have g63 : (k : Int) < (l.length : Int) := by omega
      have k0 : (0 : Int) ≤ (k : Int) := by omega
      have Hc : Hid _ := And.intro c0 (And.intro c1 c2)
      have HH : Hid _ := And.intro hh (And.intro hms (And.intro htk hb))
      clear c0 c1 c2 hh hms htk hb
      have hm3 : k * 3 + 2 < M'.size := by rw [HH.out.2.1]; omega
      have hH := HH.out.1
      have hbn : wr.heap.size ≠ w.heap.size := by omega
      go_wp2_with fail
      go_region_held3 (fun w' => w'.cell? ⟨wr.heap.size, 0, none⟩ = some (.int .i64 r) ∧ w'.cell? ⟨wr.heap.size, 1, none⟩ = some (.int .i64 n) ∧ w'.cell? ⟨wr.heap.size, 2, none⟩ = some (.string s))
        (first | go_keep | (go_split_ands; exact ⟨cell_keep (by assumption) hb1, cell_keep (by assumption) hb1, cell_keep (by assumption) hb1⟩) | (go_split_ands; exact ⟨by rw [set_far hbn, set_far hbn, set_far hbn]; assumption, by rw [set_far hbn, set_far hbn, set_far hbn]; assumption, by rw [set_far hbn, set_far hbn, set_far hbn]; assumption⟩))
        (first | (go_at_call 34; refine (clone_any s _ hs).mono ?_; rintro e w1 ⟨rfl, hb1⟩; obtain ⟨m0, ⟨x0, m1⟩, ⟨x1, m2⟩, ⟨x2, m3⟩, m4, m5⟩ := afterClone2 hb1 hH hm3))
      go_wp2
      refine ⟨⟨k + 1, by omega, by go_num, _, heap_set3 m0, by simp only [Array.size_setIfInBounds]; exact HH.out.2.1, ?_, ?_⟩, by simp [intOf]; omega⟩
      · rw [hsn.out]; exact take_set3 hm3 HH.out.2.2.1
      · exact (((HH.out.2.2.2.trans (m5.mono HH.out.2.2.2.size)).setCell (Nat.le_refl _) _).setCell (Nat.le_refl _) _).setCell (Nat.le_refl _) _
    · have hkl : k = l.length := by omega
      have HK : Hid (List.take k l = l) := List.take_of_length_le (by omega)
      have HRel : Hid _ := hrel
      clear hrel
      go_wp2
      go_ret
      obtain ⟨M', hh, hms, htk, hb⟩ := HRel.out
      refine ⟨_, rfl, ⟨by rw [flatV_length], Or.inr ⟨w.heap.size, l.length, M', rfl, Nat.le_refl _, hh, Nat.le_refl _, by unfold maxLen; omega, hms, ?_⟩⟩, hb⟩
      rw [HK.out, hkl] at htk; exact htk
end Go.Proofs.YtldmcdeibiclkaaGreat
