/-
  The map of a replica: what a lookup and an update of a map with texts as keys come to.
-/
import Derived.Test.YtldmcdeibiclkaaDoorW6
import Derived.Laws.StructEq
set_option linter.unusedVariables false
set_option linter.unusedSimpArgs false
namespace Go.Proofs.YtldmcdeibiclkaaDoor
open Go.RowKit

theorem bytes_beq (a b : ByteArray) : (a == b) = decide (a = b) := by
  rw [beq_toListBytes, Bool.eq_iff_iff]
  simp only [ByteArray.toList_eq, beq_iff_eq, Array.toList_inj, decide_eq_true_eq]
  exact ⟨fun h => by cases a; cases b; simp_all, fun h => by rw [h]⟩

/-- All keys are texts. -/
def KeysOk (es : List MapEntry) : Prop := ∀ e ∈ es, ∃ k, e.key = .string k

/-- The entry's value at a key. -/
def entAt : List MapEntry → ByteArray → Option Value
  | [], _ => none
  | e :: es, s => match e.key with
    | .string k => if s = k then some e.val else entAt es s
    | _ => entAt es s

theorem findNow_none (s : ByteArray) : ∀ (es : List MapEntry) (i : Nat), KeysOk es → entAt es s = none → Instr.findNow .string (.string s) es i = some none
  | [], _, _, _ => rfl
  | e :: es, i, hk, h => by
    obtain ⟨k, he⟩ := hk e (by simp)
    simp only [entAt, he] at h
    by_cases hs : s = k
    · rw [if_pos hs] at h; cases h
    · rw [if_neg hs] at h
      have hsb : (s == k) = false := by rw [bytes_beq]; simpa using hs
      simp only [Instr.findNow, Instr.sameNow, he, hsb]
      exact findNow_none s es (i + 1) (fun e' h' => hk e' (by simp [h'])) h

theorem findNow_some (s : ByteArray) (v : Value) : ∀ (es : List MapEntry) (i : Nat), KeysOk es → entAt es s = some v → ∃ j, j < es.length ∧ Instr.findNow .string (.string s) es i = some (some (i + j, v)) ∧ (es[j]?).map (·.key) = some (.string s)
  | [], _, _, h => by cases h
  | e :: es, i, hk, h => by
    obtain ⟨k, he⟩ := hk e (by simp)
    simp only [entAt, he] at h
    by_cases hs : s = k
    · rw [if_pos hs] at h
      cases h
      subst hs
      exact ⟨0, by simp, by simp [Instr.findNow, Instr.sameNow, he, bytes_beq], by simp [he]⟩
    · rw [if_neg hs] at h
      have hsb : (s == k) = false := by rw [bytes_beq]; simpa using hs
      obtain ⟨j, hj, hf, hkey⟩ := findNow_some s v es (i + 1) (fun e' h' => hk e' (by simp [h'])) h
      refine ⟨j + 1, by simpa using hj, ?_, by simpa using hkey⟩
      simp only [Instr.findNow, Instr.sameNow, he, hsb]
      rw [hf]
      congr 3
      omega

theorem checkKey_string (w : World) (b : Bool) (n : Nat) (s : ByteArray) : (Instr.checkKey b (n + 1) 9 (.string s)).run Tryd.prog w = .ok () w := by
  have hs : Tryd.prog.underlying 9 = some .string := Tryd.underlying9
  simp only [Instr.checkKey, Sem.run_bind, run_underlying hs, Result.andThen_ok]
  rfl

/-- The zero state. -/
abbrev zeroSt : Value := .agg #[.int .i64 0, .int .i64 0, .int .i64 0, .int .i64 0, .slice none 0 0]

theorem lookup_run (w : World) (bm : Nat) (es : Array MapEntry) (clock : Nat) (s : ByteArray) (hm : w.heap[bm]? = some (.map es clock)) (hk : KeysOk es.toList) :
    (Instr.lookup 65 (.map (some bm)) (.string s) false).run Tryd.prog w = .ok ((entAt es.toList s).getD zeroSt) w := by
  have hu : Tryd.prog.underlying 65 = some (.map 9 73) := Tryd.underlying65
  have hs : Tryd.prog.underlying 9 = some .string := Tryd.underlying9
  have hck : ∀ b, (Instr.checkKey b 10000 9 (.string s)).run Tryd.prog w = .ok () w := fun b => checkKey_string w b 9999 s
  cases he : entAt es.toList s with
  | none =>
    have hf := findNow_none s es.toList 0 hk he
    simp [Instr.lookup, run_underlying hu, run_underlying hs, getObj, Sem.run, hm, hck, Instr.findKey, hf]
  | some v =>
    obtain ⟨j, hj, hf, hkey⟩ := findNow_some s v es.toList 0 hk he
    simp [Instr.lookup, run_underlying hu, run_underlying hs, getObj, Sem.run, hm, hck, Instr.findKey, hf]

theorem entAt_append (t : ByteArray) (e : MapEntry) (k : ByteArray) (he : e.key = .string k) : ∀ es : List MapEntry, KeysOk es → entAt (es ++ [e]) t = (entAt es t).or (if t = k then some e.val else none)
  | [], _ => by simp [entAt, he]
  | x :: es, hk => by
    obtain ⟨q, hq⟩ := hk x (by simp)
    simp only [List.cons_append, entAt, hq]
    by_cases h : t = q
    · simp [h]
    · rw [if_neg h, if_neg h]
      exact entAt_append t e k he es (fun e' h' => hk e' (by simp [h']))

theorem findNow_ge (s : ByteArray) : ∀ (es : List MapEntry) (i q : Nat) (v : Value), Instr.findNow .string (.string s) es i = some (some (q, v)) → i ≤ q
  | [], i, q, v, h => by simp [Instr.findNow] at h
  | e :: es, i, q, v, h => by
    simp only [Instr.findNow] at h
    split at h
    · simp at h; omega
    · have := findNow_ge s es (i + 1) q v h; omega
    · cases h

theorem entAt_modify (s t : ByteArray) (v v' : Value) (f : MapEntry → MapEntry) (hfk : ∀ e, (f e).key = .string s) (hfv : ∀ e, (f e).val = v') : ∀ (es : List MapEntry) (i j : Nat), KeysOk es → Instr.findNow .string (.string s) es i = some (some (i + j, v)) → entAt (es.modify j f) t = (if t = s then some v' else entAt es t) ∧ KeysOk (es.modify j f)
  | [], i, j, _, h => by simp [Instr.findNow] at h
  | e :: es, i, j, hk, h => by
    obtain ⟨k, he⟩ := hk e (by simp)
    by_cases hs : s = k
    · subst hs
      simp only [Instr.findNow, Instr.sameNow, he, bytes_beq, decide_true] at h
      have hj : j = 0 := by simp at h; omega
      subst hj
      refine ⟨?_, ?_⟩
      · simp only [List.modify_zero_cons, entAt, hfk, hfv, he]
        by_cases h' : t = s <;> simp [h']
      · intro x hx
        simp only [List.modify_zero_cons, List.mem_cons] at hx
        rcases hx with rfl | hx
        · exact ⟨s, hfk e⟩
        · exact hk x (by simp [hx])
    · have hsb : (s == k) = false := by rw [bytes_beq]; simpa using hs
      simp only [Instr.findNow, Instr.sameNow, he, hsb] at h
      have hj : 1 ≤ j := by
        rcases Nat.eq_zero_or_pos j with h0 | h0
        · subst h0
          have := findNow_ge s es (i + 1) _ _ h
          omega
        · exact h0
      obtain ⟨j', rfl⟩ : ∃ j', j = j' + 1 := ⟨j - 1, by omega⟩
      rw [show i + (j' + 1) = i + 1 + j' by omega] at h
      obtain ⟨h1, h2⟩ := entAt_modify s t v v' f hfk hfv es (i + 1) j' (fun e' h' => hk e' (by simp [h'])) h
      refine ⟨?_, ?_⟩
      · simp only [List.modify_succ_cons, entAt, he]
        rw [h1]
        by_cases h' : t = k
        · simp [h']
          intro q; exact absurd q (fun q => hs q.symm)
        · simp [h']
      · intro x hx
        simp only [List.modify_succ_cons, List.mem_cons] at hx
        rcases hx with rfl | hx
        · exact ⟨k, he⟩
        · exact h2 x hx

/-- No key twice, no stamp twice, each stamp below the map's clock, each key one of Q. -/
def Stamp (Q : ByteArray → Prop) (es : List MapEntry) (clock : Nat) : Prop :=
  (es.map (·.key)).Nodup ∧ (es.map (·.born)).Nodup ∧ (∀ e ∈ es, e.born < clock) ∧ ∀ e ∈ es, ∃ k, e.key = .string k ∧ Q k

theorem entAt_none {s : ByteArray} : ∀ {es : List MapEntry}, KeysOk es → entAt es s = none → ∀ e ∈ es, e.key ≠ .string s
  | [], _, _, e, he => by simp at he
  | x :: es, hk, h, e, he => by
    obtain ⟨q, hq⟩ := hk x (by simp)
    simp only [entAt, hq] at h
    by_cases hs : s = q
    · rw [if_pos hs] at h; cases h
    · rw [if_neg hs] at h
      simp only [List.mem_cons] at he
      rcases he with rfl | he
      · rw [hq]; intro e; injection e with e; exact hs e.symm
      · exact entAt_none (fun e' h' => hk e' (by simp [h'])) h e he

theorem map_modify {α β : Type} (g : α → β) (f : α → α) (l : List α) (j : Nat) (h : ∀ x, l[j]? = some x → g (f x) = g x) : (l.modify j f).map g = l.map g := by
  apply List.ext_getElem?
  intro i
  simp only [List.getElem?_map, List.getElem?_modify]
  by_cases e : j = i
  · subst e
    simp only [if_true]
    cases hx : l[j]? with
    | none => rfl
    | some x => simp [h x hx]
  · simp [e]

/-- A world with another map in a block. -/
def setMap (w : World) (bm : Nat) (es : Array MapEntry) (clock : Nat) : World := { w with heap := w.heap.setIfInBounds bm (.map es clock) }

theorem mapUpdate_run (bm : Nat) (es : Array MapEntry) (clock : Nat) (s : ByteArray) (v : Value) (hk : KeysOk es.toList) :
    ∃ es' clock', (∀ w : World, w.heap[bm]? = some (.map es clock) → (Instr.mapUpdate 65 (.map (some bm)) (.string s) v).run Tryd.prog w = .ok () (setMap w bm es' clock')) ∧ KeysOk es'.toList ∧ (∀ t, entAt es'.toList t = if t = s then some v else entAt es.toList t) ∧ ∀ Q, Q s → Stamp Q es.toList clock → Stamp Q es'.toList clock' := by
  have hu : Tryd.prog.underlying 65 = some (.map 9 73) := Tryd.underlying65
  have hs : Tryd.prog.underlying 9 = some .string := Tryd.underlying9
  have hck : ∀ w b, (Instr.checkKey b 10000 9 (.string s)).run Tryd.prog w = .ok () w := fun w b => checkKey_string w b 9999 s
  cases he : entAt es.toList s with
  | none =>
    have hf := findNow_none s es.toList 0 hk he
    refine ⟨es.push { key := .string s, val := v, born := clock }, clock + 1, ?_, ?_, ?_, ?_⟩
    · intro w hm
      simp [Instr.mapUpdate, run_underlying hu, run_underlying hs, getObj, setObj, Sem.run, hm, hck, Instr.findKey, hf, setMap]
    · intro x hx
      simp at hx
      rcases hx with hx | rfl
      · exact hk x (by simpa using hx)
      · exact ⟨s, rfl⟩
    · intro t
      rw [Array.toList_push, entAt_append t _ s rfl _ hk]
      by_cases h : t = s
      · subst h; simp [he]
      · simp [h]
    · rintro Q hQ ⟨s1, s2, s3, s4⟩
      rw [Array.toList_push]
      refine ⟨?_, ?_, fun e h => ?_, fun e h => ?_⟩
      · rw [List.map_append, List.nodup_append]
        refine ⟨s1, by simp, fun a ha b hb => ?_⟩
        simp at hb
        subst hb
        obtain ⟨x, hx, rfl⟩ := List.mem_map.1 ha
        exact entAt_none hk he x hx
      · rw [List.map_append, List.nodup_append]
        refine ⟨s2, by simp, fun a ha b hb => ?_⟩
        simp at hb
        subst hb
        obtain ⟨x, hx, rfl⟩ := List.mem_map.1 ha
        exact Nat.ne_of_lt (s3 x hx)
      · simp only [List.mem_append, List.mem_singleton] at h
        rcases h with h | rfl
        · have := s3 e h; omega
        · exact Nat.lt_succ_self _
      · simp only [List.mem_append, List.mem_singleton] at h
        rcases h with h | rfl
        · exact s4 e h
        · exact ⟨s, rfl, hQ⟩
  | some u =>
    obtain ⟨j, hj, hf, hkey⟩ := findNow_some s u es.toList 0 hk he
    have hkj : (es[j]?).map (·.key) = some (.string s) := by simpa using hkey
    have hsb : Instr.sameBits 10000 (.string s) (.string s) = true := by simp [Instr.sameBits, bytes_beq]
    refine ⟨es.modify j fun e => { e with key := .string s, val := v }, clock, ?_, ?_, ?_, ?_⟩
    · intro w hm
      simp [Instr.mapUpdate, run_underlying hu, run_underlying hs, getObj, setObj, Sem.run, hm, hck, Instr.findKey, hf, hkj, Instr.keyThatStays, hsb, setMap]
    · rw [Array.toList_modify]
      exact (entAt_modify s s u v _ (fun _ => rfl) (fun _ => rfl) es.toList 0 j hk hf).2
    · intro t
      rw [Array.toList_modify]
      exact (entAt_modify s t u v _ (fun _ => rfl) (fun _ => rfl) es.toList 0 j hk hf).1
    · rintro Q hQ ⟨s1, s2, s3, s4⟩
      rw [Array.toList_modify]
      have ek : (es.toList.modify j fun e => { e with key := .string s, val := v }).map (·.key) = es.toList.map (·.key) := map_modify _ _ _ _ fun x hx => by
        rw [hx] at hkey
        simp at hkey
        exact hkey.symm
      have eb : (es.toList.modify j fun e => { e with key := .string s, val := v }).map (·.born) = es.toList.map (·.born) := map_modify _ _ _ _ fun x hx => rfl
      refine ⟨by rw [ek]; exact s1, by rw [eb]; exact s2, fun e h => ?_, fun e h => ?_⟩
      · have : e.born ∈ (es.toList.modify j fun e => { e with key := .string s, val := v }).map (·.born) := List.mem_map.2 ⟨e, h, rfl⟩
        rw [eb] at this
        obtain ⟨x, hx, e1⟩ := List.mem_map.1 this
        rw [← e1]; exact s3 x hx
      · have : e.key ∈ (es.toList.modify j fun e => { e with key := .string s, val := v }).map (·.key) := List.mem_map.2 ⟨e, h, rfl⟩
        rw [ek] at this
        obtain ⟨x, hx, e1⟩ := List.mem_map.1 this
        obtain ⟨k, hk1, hk2⟩ := s4 x hx
        exact ⟨k, by rw [← e1]; exact hk1, hk2⟩
end Go.Proofs.YtldmcdeibiclkaaDoor
