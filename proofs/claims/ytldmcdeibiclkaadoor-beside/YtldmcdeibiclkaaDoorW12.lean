/-
  Contract: keep: a key's state is laid into the replica's map; nothing else that was there turns.
-/
import Derived.Test.YtldmcdeibiclkaaDoorW5
import Derived.Test.YtldmcdeibiclkaaDoorW7
import Derived.Test.YtldmcdeibiclkaaDoorW11
import Derived.Test.YtldmcdeibiclkaaDoorS1
import Derived.Deep.RegionHeld3
set_option linter.unusedVariables false
set_option linter.unusedSimpArgs false
namespace Go.Proofs.YtldmcdeibiclkaaDoor
open Go.RowKit

/-- What a replica knows: of each key a context and versions. -/
abbrev Know := ByteArray → Ctx × List Ver

/-- A replica's block: its number, and its 64 maps. -/
def RepBlk (w : World) (b : Nat) (bm : Nat → Nat) (num : Nat) : Prop :=
  ∃ A : Array Value, w.heap[b]? = some (.cells A 68) ∧ A[0]? = some (.int .i64 num) ∧ ∀ n, n < 64 → A[n + 1]? = some (.map (some (bm n)))

/-- The map of segment n lies in block m: of each key of that segment what is known. -/
def SegAt (w : World) (m n : Nat) (K : Know) : Prop :=
  ∃ es clock, w.heap[m]? = some (.map es clock) ∧ KeysOk es.toList ∧ (∀ s, segN s = n → ∃ sv, (entAt es.toList s).getD zeroSt = stV (K s).1 sv ∧ VSl w sv (K s).2) ∧ Stamp (fun k => segN k = n ∧ k.size ≤ 281474976710656) es.toList clock

/-- A replica lies at block b, its maps in the blocks bm. -/
def RepAt (w : World) (b : Nat) (bm : Nat → Nat) (num : Nat) (K : Know) : Prop :=
  RepBlk w b bm num ∧ (∀ n, n < 64 → SegAt w (bm n) n K) ∧ ∀ n m, n < 64 → m < 64 → bm n = bm m → n = m

def updK (K : Know) (s : ByteArray) (x : Ctx × List Ver) : Know := fun t => if t = s then x else K t

theorem VSl.keep {w w' : World} {sv : Value} {l : List Ver} (h : VSl w sv l) (hk : ∀ g, g < w.heap.size → (∃ cur, w.heap[g]? = some (.cells cur 91 (0, 0))) → w'.heap[g]? = w.heap[g]?) : VSl w' sv l := by
  obtain ⟨h1, h2⟩ := h
  refine ⟨h1, ?_⟩
  rcases h2 with h2 | ⟨g, cap, cur, hv, hg, hh, r⟩
  · exact Or.inl h2
  · exact Or.inr ⟨g, cap, cur, hv, hg, by rw [hk g (Array.getElem?_eq_some_iff.1 hh).1 ⟨cur, hh⟩]; exact hh, r⟩

theorem RepBlk.lt {w : World} {b num : Nat} {bm : Nat → Nat} (h : RepBlk w b bm num) : b < w.heap.size := by
  obtain ⟨A, h1, _⟩ := h; exact (Array.getElem?_eq_some_iff.1 h1).1
theorem SegAt.lt {w : World} {m n : Nat} {K : Know} (h : SegAt w m n K) : m < w.heap.size := by
  obtain ⟨es, clock, h1, _⟩ := h; exact (Array.getElem?_eq_some_iff.1 h1).1
theorem RepBlk.num {w : World} {b num : Nat} {bm : Nat → Nat} (h : RepBlk w b bm num) : w.cell? ⟨b, 0, none⟩ = some (.int .i64 num) := by
  obtain ⟨A, h1, h2, _⟩ := h; simp [World.cell?, h1, h2]
theorem RepBlk.seg {w : World} {b num : Nat} {bm : Nat → Nat} (h : RepBlk w b bm num) {n : Nat} (hn : n < 64) : w.cell? ⟨b, n + 1, none⟩ = some (.map (some (bm n))) := by
  obtain ⟨A, h1, _, h2⟩ := h; simp [World.cell?, h1, h2 n hn]

/-- Where none of its blocks nor any row of versions has turned, a replica lies as it lay. -/
theorem RepAt.keep {w w' : World} {b num : Nat} {bm : Nat → Nat} {K : Know} (h : RepAt w b bm num K) (hb : w'.heap[b]? = w.heap[b]?) (hm : ∀ n, n < 64 → w'.heap[bm n]? = w.heap[bm n]?) (hk : ∀ g, g < w.heap.size → (∃ cur, w.heap[g]? = some (.cells cur 91 (0, 0))) → w'.heap[g]? = w.heap[g]?) : RepAt w' b bm num K := by
  obtain ⟨⟨A, h1, h2⟩, h3, h4⟩ := h
  refine ⟨⟨A, by rw [hb]; exact h1, h2⟩, fun n hn => ?_, h4⟩
  obtain ⟨es, clock, e1, e2, e3, e4⟩ := h3 n hn
  refine ⟨es, clock, by rw [hm n hn]; exact e1, e2, fun s hs => ?_, e4⟩
  obtain ⟨sv, h5, h6⟩ := e3 s hs
  exact ⟨sv, h5, h6.keep hk⟩

theorem RepAt.below {w w' : World} {b num : Nat} {bm : Nat → Nat} {K : Know} (h : RepAt w b bm num K) (hb : Below w.heap.size w w') : RepAt w' b bm num K :=
  h.keep (hb.block _ h.1.lt) (fun n hn => hb.block _ (h.2.1 n hn).lt) fun g hg _ => hb.block g hg

set_option maxRecDepth 100000 in
set_option maxHeartbeats 1000000 in
theorem keep_err (b : Nat) (key : ByteArray) (c : Ctx) (sv : Value) (e : Int) (w : World) (he : (e == 0) = false) :
    Calls Tryd.prog 22 #[.pointer (some ⟨b, 0, none⟩), .string key, stV c sv, .int .i64 e] w fun r w' => r = .returned (.int .i64 e) ∧ Below w.heap.size w w' := by
  go_enter Tryd.func22, Tryd.ntmps22
  go_wp2
  go_ret
  exact ⟨rfl, (Below.refl _ _).alloc (Nat.le_refl _) _⟩

theorem cell_keep {W w1 : World} {p : Addr} {v : Value} (h : W.cell? p = some v) (hb : Below W.heap.size W w1) : w1.cell? p = some v := by
  rw [hb.cell (World.block_lt_of_cell? W p h)]; exact h
theorem heap_keep {W w1 : World} {k : Nat} {o : Obj} (h : W.heap[k]? = some o) (hb : Below W.heap.size W w1) : w1.heap[k]? = some o := by
  rw [hb.block k (Array.getElem?_eq_some_iff.1 h).1]; exact h
theorem below_keep {w W w1 : World} (h : Below w.heap.size w W) (hb : Below W.heap.size W w1) : Below w.heap.size w w1 := h.trans (hb.mono h.size)

theorem setMap_same {w : World} {bm : Nat} {es : Array MapEntry} {clock : Nat} (h : bm < w.heap.size) : (setMap w bm es clock).heap[bm]? = some (.map es clock) := by
  simp [setMap, h]
theorem setMap_other {w : World} {bm k : Nat} {es : Array MapEntry} {clock : Nat} (h : k ≠ bm) : (setMap w bm es clock).heap[k]? = w.heap[k]? := by
  simp only [setMap, Array.getElem?_setIfInBounds]
  rw [if_neg (Ne.symm h)]

theorem rep_set {w w1 : World} {b num : Nat} {bm : Nat → Nat} {K : Know} {key : ByteArray} {c : Ctx} {sv : Value} {l : List Ver} {es es' : Array MapEntry} {clock clock' : Nat} (hB : Below w.heap.size w w1)
    (h : RepAt w b bm num K) (hm : w.heap[bm (segN key)]? = some (.map es clock)) (hk' : KeysOk es'.toList)
    (he : ∀ t, entAt es'.toList t = if t = key then some (stV c sv) else entAt es.toList t) (hst : ∀ Q, Q key → Stamp Q es.toList clock → Stamp Q es'.toList clock') (hks : key.size ≤ 281474976710656) (hv : VSl w sv l) :
    RepAt (setMap w1 (bm (segN key)) es' clock') b bm num (updK K key (c, l)) ∧ w.grownBy (setMap w1 (bm (segN key)) es' clock') (some (bm (segN key))) := by
  have hblt := h.1.lt
  have hmlt := (Array.getElem?_eq_some_iff.1 hm).1
  have hseg := segN_lt key
  obtain ⟨⟨A, hA, hA2⟩, hS, hinj⟩ := h
  have hne : b ≠ bm (segN key) := fun e => by rw [e, hm] at hA; cases hA
  have hvk : ∀ sv l, VSl w sv l → VSl (setMap w1 (bm (segN key)) es' clock') sv l := fun sv l h => h.keep fun g hg ⟨cur, hc⟩ => by
    rw [setMap_other (fun e => by rw [e, hm] at hc; cases hc), hB.block g hg]
  refine ⟨⟨⟨A, ?_, hA2⟩, fun n hn => ?_, hinj⟩, ?_⟩
  · rw [setMap_other hne, hB.block b hblt]; exact hA
  · by_cases hns : n = segN key
    · subst hns
      obtain ⟨es0, clock0, e1, e2, e3, e4⟩ := hS _ hseg
      rw [hm] at e1
      cases e1
      refine ⟨es', clock', setMap_same (Nat.lt_of_lt_of_le hmlt hB.size), hk', fun s hs => ?_, hst _ ⟨rfl, hks⟩ e4⟩
      rw [he]
      by_cases h : s = key
      · rw [if_pos h]
        exact ⟨sv, by simp [updK, h], by simpa [updK, h] using hvk _ _ hv⟩
      · rw [if_neg h]
        obtain ⟨sv', h1, h2⟩ := e3 s hs
        exact ⟨sv', by simpa [updK, h] using h1, by simpa [updK, h] using hvk _ _ h2⟩
    · have hl := (hS n hn).lt
      obtain ⟨es0, clock0, e1, e2, e3, e4⟩ := hS n hn
      refine ⟨es0, clock0, ?_, e2, fun s hs => ?_, e4⟩
      · rw [setMap_other (fun e => hns (hinj _ _ hn hseg e)), hB.block _ hl]; exact e1
      · have hsk : s ≠ key := fun e => hns (by rw [← hs, e])
        obtain ⟨sv', h1, h2⟩ := e3 s hs
        exact ⟨sv', by simpa [updK, hsk] using h1, by simpa [updK, hsk] using hvk _ _ h2⟩
  · refine ⟨hB.os, hB.tape, hB.output, by simpa [setMap] using hB.size, fun k hk hn => ?_⟩
    rw [setMap_other (fun e => hn (by rw [e])), hB.block k hk]

/-- What was drawn does not matter to what lies there. -/
theorem undrew {W w0 w1 : World} (hb : Below W.heap.size W w1) (e1 : W.heap = w0.heap) (e2 : W.os = w0.os) (e3 : W.tape = w0.tape) (e4 : W.output = w0.output) : Below w0.heap.size w0 w1 :=
  ⟨hb.os.trans e2, hb.tape.trans e3, hb.output.trans e4, by rw [← e1]; exact hb.size, fun k hk => by rw [← e1]; exact hb.block k (by rw [e1]; exact hk)⟩

set_option maxRecDepth 100000 in
set_option maxHeartbeats 400000 in
theorem segOf_any (b num : Nat) (bm : Nat → Nat) (key : ByteArray) (w : World) (hs : key.size ≤ maxLen) (h : RepBlk w b bm num) :
    Calls Tryd.prog 19 #[.pointer (some ⟨b, 0, none⟩), .string key] w fun e w' => e = .returned (.map (some (bm (segN key)))) ∧ ∃ q, w' = w.drewN q := by
  have HS : Hid _ := fun W => segmentOf_any key W hs
  have hl := segN_lt key
  have hc := h.seg hl
  generalize segN key = n at *
  have hl' : (n : Int) < 64 := by omega
  have hl0 : (0 : Int) ≤ (n : Int) := by omega
  have hc' : w.cell? ⟨b, 1 + n, none⟩ = some (.map (some (bm n))) := by rw [Nat.add_comm]; exact hc
  clear h
  go_enter Tryd.func19, Tryd.ntmps19
  go_wp2
  go_quiet ((go_at_call 26; refine Calls.mono (HS.out _) ?_; rintro e w' ⟨rfl, rfl⟩; exact ⟨rfl, _, rfl⟩))
  go_wp2
  go_ret
  exact ⟨rfl, _, rfl⟩

set_option maxRecDepth 100000 in
set_option maxHeartbeats 1000000 in
theorem keep_ok (b num : Nat) (bm : Nat → Nat) (K : Know) (key : ByteArray) (c : Ctx) (sv : Value) (l : List Ver) (w : World) (hs : key.size ≤ 281474976710656) (h : RepAt w b bm num K) (hv : VSl w sv l) :
    Calls Tryd.prog 22 #[.pointer (some ⟨b, 0, none⟩), .string key, stV c sv, .int .i64 0] w fun r w' => r = .returned (.int .i64 0) ∧ RepAt w' b bm num (updK K key (c, l)) ∧ w.grownBy w' (some (bm (segN key))) := by
  obtain ⟨es, clock, hm, hk, _⟩ := h.2.1 _ (segN_lt key)
  obtain ⟨es', clock', hrun, hk', hent, hstp⟩ := mapUpdate_run (bm (segN key)) es clock key (stV c sv) hk
  have HF : Hid (∀ w1, Below w.heap.size w w1 → RepAt (setMap w1 (bm (segN key)) es' clock') b bm num (updK K key (c, l)) ∧ w.grownBy (setMap w1 (bm (segN key)) es' clock') (some (bm (segN key)))) := fun w1 hB => rep_set hB h hm hk' hent hstp hs hv
  have HSeg : Hid (∀ w1, Below w.heap.size w w1 → Calls Tryd.prog 19 #[.pointer (some ⟨b, 0, none⟩), .string key] w1 fun e w' => e = .returned (.map (some (bm (segN key)))) ∧ ∃ q, w' = w1.drewN q) := fun w1 hB => segOf_any b num bm key w1 (by unfold maxLen; omega) (h.below hB).1
  have HM : Hid (∀ w1, Below w.heap.size w w1 → w1.heap[bm (segN key)]? = some (.map es clock)) := fun w1 hB => heap_keep hm hB
  have HC : Hid (∀ w1, Below (w.alloc (.cells #[.int .i64 (c 0), .int .i64 (c 1), .int .i64 (c 2), .int .i64 (c 3), sv] 73)).heap.size (w.alloc (.cells #[.int .i64 (c 0), .int .i64 (c 1), .int .i64 (c 2), .int .i64 (c 3), sv] 73)) w1 → ∀ o, w1.cell? ⟨w.heap.size, o, none⟩ = #[Value.int .i64 (c 0), .int .i64 (c 1), .int .i64 (c 2), .int .i64 (c 3), sv][o]?) := fun w1 hB o => by
    have := heap_keep (heap_alloc_new w _) hB
    simp [World.cell?, this]
  have HA : Hid (∀ w1, Below (w.alloc (.cells #[.int .i64 (c 0), .int .i64 (c 1), .int .i64 (c 2), .int .i64 (c 3), sv] 73)).heap.size (w.alloc (.cells #[.int .i64 (c 0), .int .i64 (c 1), .int .i64 (c 2), .int .i64 (c 3), sv] 73)) w1 → Below w.heap.size w w1) := fun w1 hB => below_keep ((Below.refl _ _).alloc (Nat.le_refl _) _) hB
  clear hent hv hk hk' h hm hstp
  generalize bm (segN key) = bms at *
  go_enter Tryd.func22, Tryd.ntmps22
  go_wp2
  go_region_with (first
    | (go_at_call 21; refine (clone_any key _ hs).mono ?_; rintro e w1 ⟨rfl, hb1⟩; have hB0 := undrew (w0 := w.alloc (.cells #[.int .i64 (c 0), .int .i64 (c 1), .int .i64 (c 2), .int .i64 (c 3), sv] 73)) hb1 rfl rfl rfl rfl; have HB : Hid _ := HA.out _ hB0; have k1 := HC.out _ hB0; have k3 := HM.out _ HB.out; have hrun1 := hrun w1 k3; have hrun2 := fun q => hrun (w1.drewN q) k3; clear hB0 hb1)
    | (go_at_call 19; refine Calls.mono (HSeg.out _ (by first | exact HB.out | exact ((Below.refl w.heap.size w).alloc (Nat.le_refl _) _).drew)) ?_; rintro e w2 ⟨rfl, q, rfl⟩))
  all_goals
    go_wp2
    go_ret
    exact ⟨rfl, HF.out _ (by first | exact HB.out | exact ⟨HB.out.os, HB.out.tape, HB.out.output, HB.out.size, HB.out.block⟩)⟩
end Go.Proofs.YtldmcdeibiclkaaDoor
