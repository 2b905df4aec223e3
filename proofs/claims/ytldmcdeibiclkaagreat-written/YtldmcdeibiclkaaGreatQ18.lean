/-
  What the program and the reference know of the keys is the same: plain mathematics (rows sorted by name, versions sorted by dot).
  A replica and the reference beside it: what a Put and a Delete come to, on each side by the same words.
-/
import Derived.Test.YtldmcdeibiclkaaGreatQ14
import Derived.Test.YtldmcdeibiclkaaGreatQ11
import Derived.Test.YtldmcdeibiclkaaGreatQ10
import Derived.Test.YtldmcdeibiclkaaGreatQ15
import Derived.Test.YtldmcdeibiclkaaGreatQ16
import Derived.Test.YtldmcdeibiclkaaGreatQ17
set_option linter.unusedVariables false
set_option linter.unusedSimpArgs false

namespace Go.Proofs.YtldmcdeibiclkaaGreat
open Go.RowKit

--%%BODY
theorem bytesLess_lt : ∀ (x y : List UInt8), Op.bytesLess x y = decide (x < y)
  | [], [] => by simp [Op.bytesLess]
  | _ :: _, [] => by simp [Op.bytesLess]
  | [], _ :: _ => by simp [Op.bytesLess]
  | a :: x, b :: y => by
    rw [Op.bytesLess, bytesLess_lt x y]
    simp only [List.cons_lt_cons_iff]
    by_cases h1 : a < b <;> by_cases h2 : a = b <;> by_cases h3 : x < y <;> simp [h1, h2, h3]

/-- A name is ahead of another one. -/
def ltK (a b : ByteArray) : Prop := Op.bytesLess a.toList b.toList = true
theorem ltK_iff {a b : ByteArray} : ltK a b ↔ a.toList < b.toList := by rw [ltK, bytesLess_lt, decide_eq_true_eq]
theorem bytes_inj {a b : ByteArray} (h : a.toList = b.toList) : a = b := by
  by_cases e : a = b
  · exact e
  · have := bytes_eq_false e
    rw [h] at this
    simp at this
theorem ltK_irrefl (a : ByteArray) : ¬ ltK a a := fun h => List.lt_irrefl _ (ltK_iff.1 h)
theorem ltK_ne {a b : ByteArray} (h : ltK a b) : ¬ a = b := fun e => ltK_irrefl b (e ▸ h)
theorem ltK_trans {a b c : ByteArray} (h : ltK a b) (h' : ltK b c) : ltK a c := ltK_iff.2 (List.lt_trans (ltK_iff.1 h) (ltK_iff.1 h'))
theorem ltK_total {a b : ByteArray} (h : ¬ ltK a b) (hn : ¬ a = b) : ltK b a := by
  rw [ltK_iff] at *
  by_cases h2 : b.toList < a.toList
  · exact h2
  · exact absurd (bytes_inj (List.le_antisymm (List.not_lt.1 h2) (List.not_lt.1 h))) hn

/-- The reference's keys stand by rising names. -/
def SortK (l : List RKey) : Prop := l.Pairwise fun a b => ltK a.1 b.1

theorem cut_while {α : Type} (p : α → Bool) (l : List α) : l.take (l.takeWhile p).length = l.takeWhile p ∧ l.drop (l.takeWhile p).length = l.dropWhile p := by
  induction l with
  | nil => simp
  | cons x l ih =>
    rw [List.takeWhile_cons, List.dropWhile_cons]
    by_cases h : p x = true
    · rw [if_pos h, if_pos h]
      simpa using ih
    · rw [if_neg h, if_neg h]
      simp
theorem take_hd (l : List RKey) (nm : ByteArray) : l.take (hdK l nm) = l.takeWhile fun k => Op.bytesLess k.1.toList nm.toList := (cut_while _ l).1
theorem drop_hd (l : List RKey) (nm : ByteArray) : l.drop (hdK l nm) = l.dropWhile fun k => Op.bytesLess k.1.toList nm.toList := (cut_while _ l).2
theorem head_lt (l : List RKey) (nm : ByteArray) : ∀ x ∈ l.take (hdK l nm), ltK x.1 nm := by
  rw [take_hd]
  intro x hx
  induction l with
  | nil => simp at hx
  | cons y l ih =>
    rw [List.takeWhile_cons] at hx
    by_cases h : Op.bytesLess y.1.toList nm.toList = true
    · rw [if_pos h] at hx
      rcases List.mem_cons.1 hx with rfl | hx
      · exact h
      · exact ih hx
    · rw [if_neg h] at hx; simp at hx

/-- A row of keys around a name: those ahead, the one of that name if there is one, those behind. -/
theorem split_at (l : List RKey) (nm : ByteArray) (hs : SortK l) : ∃ mid, l = l.take (hdK l nm) ++ (mid ++ l.drop (nxK l nm)) ∧ (∀ x ∈ mid, x.1 = nm) ∧ ∀ x ∈ l.drop (nxK l nm), ltK nm x.1 := by
  have hcut := List.take_append_drop (hdK l nm) l
  have hss : (l.drop (hdK l nm)).Pairwise fun a b => ltK a.1 b.1 := List.Pairwise.drop hs
  by_cases hlt : hdK l nm < l.length
  · have hd := List.drop_eq_getElem_cons hlt
    have hno : ¬ ltK l[hdK l nm].1 nm := by
      have hw := drop_hd l nm
      rw [hd] at hw
      intro hh
      have := List.head?_dropWhile_not (fun k : RKey => Op.bytesLess k.1.toList nm.toList) l
      rw [← hw] at this
      simp only [List.head?_cons] at this
      rw [hh] at this
      cases this
    rw [hd] at hss
    obtain ⟨h1, _⟩ := List.pairwise_cons.1 hss
    by_cases he : l[hdK l nm].1 = nm
    · have hnx : nxK l nm = hdK l nm + 1 := nxK_hit rfl hlt he
      refine ⟨[l[hdK l nm]], ?_, fun x hx => ?_, fun x hx => ?_⟩
      · rw [hnx]
        conv => lhs; rw [← hcut, hd]
        rfl
      · simp at hx; rw [hx]; exact he
      · rw [hnx] at hx
        rw [← he]; exact h1 x hx
    · have hnx : nxK l nm = hdK l nm := nxK_other rfl hlt he
      have hlt' := ltK_total hno he
      refine ⟨[], ?_, fun x hx => by simp at hx, fun x hx => ?_⟩
      · rw [hnx, List.nil_append, hcut]
      · rw [hnx, hd] at hx
        rcases List.mem_cons.1 hx with rfl | hx
        · exact hlt'
        · exact ltK_trans hlt' (h1 x hx)
  · have hnx : nxK l nm = hdK l nm := nxK_end rfl hlt
    refine ⟨[], ?_, fun x hx => by simp at hx, fun x hx => ?_⟩
    · rw [hnx, List.nil_append, hcut]
    · rw [hnx, List.drop_of_length_le (by omega)] at hx; simp at hx

theorem setK_sorted (l : List RKey) (q : RKey) (hs : SortK l) : SortK (setK l q) := by
  obtain ⟨mid, he, hm, hd⟩ := split_at l q.1 hs
  have ht := head_lt l q.1
  unfold setK SortK
  rw [List.pairwise_append]
  refine ⟨List.Pairwise.take hs, List.pairwise_cons.2 ⟨hd, List.Pairwise.drop hs⟩, fun a ha b hb => ?_⟩
  rcases List.mem_cons.1 hb with rfl | hb
  · exact ht a ha
  · exact ltK_trans (ht a ha) (hd b hb)

theorem findK_name (l : List RKey) (s : ByteArray) : (findK l s).1 = s := by
  unfold findK
  cases h : l.find? (fun k => decide (k.1 = s)) with
  | none => rfl
  | some x => simpa using List.find?_some h

theorem find_none {l : List RKey} {s : ByteArray} (h : ∀ x ∈ l, ¬ x.1 = s) : l.find? (fun k => decide (k.1 = s)) = none := by
  rw [List.find?_eq_none]
  intro x hx
  simpa using h x hx

theorem findK_set (l : List RKey) (q : RKey) (t : ByteArray) (hs : SortK l) : findK (setK l q) t = if t = q.1 then q else findK l t := by
  obtain ⟨mid, he, hm, hd⟩ := split_at l q.1 hs
  have ht := head_lt l q.1
  by_cases h : t = q.1
  · subst h
    rw [if_pos rfl]
    unfold findK setK
    rw [List.find?_append, find_none fun x hx => ltK_ne (ht x hx)]
    simp
  · rw [if_neg h]
    have e1 : (setK l q).find? (fun k => decide (k.1 = t)) = l.find? fun k => decide (k.1 = t) := by
      conv => rhs; rw [he]
      unfold setK
      rw [List.find?_append, List.find?_append, List.find?_append, find_none (l := mid) fun x hx e => h (by rw [← e, hm x hx])]
      rw [List.find?_cons_of_neg (by simpa using fun e : q.1 = t => h e.symm)]
      simp
    unfold findK
    rw [e1]

theorem setK_len (l : List RKey) (q : RKey) : (setK l q).length ≤ l.length + 1 := by
  have h1 := hdK_le l q.1
  have h2 : hdK l q.1 ≤ nxK l q.1 := by unfold nxK; split <;> omega
  have h3 := nxK_le l q.1
  rw [setK_length]; omega

theorem mem_setK {l : List RKey} {q x : RKey} (h : x ∈ setK l q) : x = q ∨ x ∈ l := by
  unfold setK at h
  rcases List.mem_append.1 h with h | h
  · exact Or.inr (List.mem_of_mem_take h)
  · rcases List.mem_cons.1 h with h | h
    · exact Or.inl h
    · exact Or.inr (List.mem_of_mem_drop h)

theorem mem_setK' {l : List RKey} {q x : RKey} (hs : SortK l) (h : x ∈ setK l q) : x = q ∨ x ∈ l ∧ ¬ x.1 = q.1 := by
  obtain ⟨mid, he, hm, hd⟩ := split_at l q.1 hs
  unfold setK at h
  rcases List.mem_append.1 h with h | h
  · exact Or.inr ⟨List.mem_of_mem_take h, ltK_ne (head_lt l q.1 x h)⟩
  · rcases List.mem_cons.1 h with h | h
    · exact Or.inl h
    · exact Or.inr ⟨List.mem_of_mem_drop h, fun e => ltK_ne (hd x h) e.symm⟩

theorem findK_mem {l : List RKey} (hs : SortK l) {x : RKey} (h : x ∈ l) : findK l x.1 = x := by
  unfold findK
  induction l with
  | nil => simp at h
  | cons y l ih =>
    obtain ⟨h1, h2⟩ := List.pairwise_cons.1 hs
    rcases List.mem_cons.1 h with rfl | h
    · simp
    · rw [List.find?_cons_of_neg (by simpa using ltK_ne (h1 x h))]
      exact ih h2 h

-- versions

theorem ltV_iff {a b : Ver} : ltV a b = true ↔ (a.rep < b.rep ∨ a.rep = b.rep ∧ a.n < b.n) := by simp [ltV]
theorem ltV_false {a b : Ver} : ltV a b = false ↔ ¬ (a.rep < b.rep ∨ a.rep = b.rep ∧ a.n < b.n) := by simp [ltV]

/-- Versions by rising dots, none twice. -/
def SortV (l : List Ver) : Prop := l.Pairwise fun a b => ltV a b = true

theorem SortV.two {l : List Ver} (h : SortV l) {a b : Ver} (ha : a ∈ l) (hb : b ∈ l) : a = b ∨ ltV a b = true ∨ ltV b a = true := by
  induction l with
  | nil => simp at ha
  | cons y l ih =>
    obtain ⟨h1, h2⟩ := List.pairwise_cons.1 h
    rcases List.mem_cons.1 ha with ea | ea <;> rcases List.mem_cons.1 hb with eb | eb
    · exact Or.inl (ea.trans eb.symm)
    · subst ea; exact Or.inr (Or.inl (h1 b eb))
    · subst eb; exact Or.inr (Or.inr (h1 a ea))
    · exact ih h2 ea eb

theorem insL_split (l : List Ver) (v : Ver) : l.take (headN l v) = l.takeWhile (fun u => ltV u v) ∧ l.drop (headN l v) = l.dropWhile (fun u => ltV u v) := cut_while _ l

theorem insL_perm (l : List Ver) (v : Ver) : (insL l v).Perm (l ++ [v]) := by
  unfold insL
  refine List.perm_middle.trans ?_
  rw [List.take_append_drop]
  exact (List.perm_append_singleton v l).symm

theorem insL_sorted (l : List Ver) (v : Ver) (hs : SortV l) (hd : ∀ u ∈ l, ¬ (u.rep = v.rep ∧ u.n = v.n)) : SortV (insL l v) := by
  obtain ⟨h1, h2⟩ := insL_split l v
  have ht : ∀ x ∈ l.take (headN l v), ltV x v = true := by
    rw [h1]
    intro x hx
    clear h1 h2 hs hd
    induction l with
    | nil => simp at hx
    | cons y l ih =>
      rw [List.takeWhile_cons] at hx
      by_cases h : ltV y v = true
      · rw [if_pos h] at hx
        rcases List.mem_cons.1 hx with rfl | hx
        · exact h
        · exact ih hx
      · rw [if_neg h] at hx; simp at hx
  have hr : ∀ x ∈ l.drop (headN l v), ltV v x = true := by
    intro x hx
    have hss : SortV (l.drop (headN l v)) := List.Pairwise.drop hs
    have hmem : ∀ u ∈ l.drop (headN l v), u ∈ l := fun u hu => List.mem_of_mem_drop hu
    have hhd := List.head?_dropWhile_not (fun u : Ver => ltV u v) l
    rw [← h2] at hhd
    generalize l.drop (headN l v) = d at *
    cases d with
    | nil => simp at hx
    | cons y d =>
      simp only [List.head?_cons] at hhd
      have hy := hd y (hmem y (by simp))
      have hvy : ltV v y = true := by
        rw [ltV_iff]
        have := ltV_false.1 hhd
        omega
      obtain ⟨h3, _⟩ := List.pairwise_cons.1 hss
      rcases List.mem_cons.1 hx with rfl | hx
      · exact hvy
      · have := h3 x hx
        rw [ltV_iff] at *
        omega
  unfold insL SortV
  rw [List.pairwise_append]
  refine ⟨List.Pairwise.take hs, List.pairwise_cons.2 ⟨hr, List.Pairwise.drop hs⟩, fun a ha b hb => ?_⟩
  rcases List.mem_cons.1 hb with rfl | hb
  · exact ht a ha
  · have h3 := ht a ha
    have h4 := hr b hb
    rw [ltV_iff] at *
    omega

theorem ins_unique {l l' : List Ver} {v : Ver} (hs : SortV l) (hd : ∀ u ∈ l, ¬ (u.rep = v.rep ∧ u.n = v.n)) (hp : l'.Perm (l ++ [v])) (hs' : l'.Pairwise (fun a b => ltV b a = false)) : l' = insL l v := by
  have hi := insL_sorted l v hs hd
  have hpp : l'.Perm (insL l v) := hp.trans (insL_perm l v).symm
  refine List.Perm.eq_of_pairwise (le := fun a b => ltV b a = false) (fun a b ha hb h1 h2 => ?_) hs' (hi.imp fun {a b} h => ?_) hpp
  · rcases hi.two (hpp.subset ha) hb with h | h | h
    · exact h
    · rw [h] at h2; cases h2
    · rw [h] at h1; cases h1
  · rw [ltV_iff] at h
    rw [ltV_false]
    omega

/-- What is known of a key is as it must be. -/
structure StOk (c : Ctx) (l : List Ver) : Prop where
  sorted : SortV l
  each : ∀ v ∈ l, v.rep < 4 ∧ v.n ≤ c v.rep ∧ v.val.size ≤ 12
  len : l.length ≤ 20
  ctx : ∀ i, i < 4 → 0 ≤ c i ∧ c i ≤ 1000000

theorem sound_all {c : Ctx} (h : soundB c = true) : ∀ i, i < 4 → 0 ≤ c i ∧ c i ≤ 1000000 := by
  simp only [soundB, okN, Bool.and_eq_true, decide_eq_true_eq] at h
  intro i hi
  rcases lt4 hi with rfl | rfl | rfl | rfl
  · exact h.1
  · exact h.2.1
  · exact h.2.2.1
  · exact h.2.2.2

theorem bothC_ctx {c d : Ctx} (hc : ∀ i, i < 4 → 0 ≤ c i ∧ c i ≤ 1000000) (hd : ∀ i, i < 4 → 0 ≤ d i ∧ d i ≤ 1000000) : ∀ i, i < 4 → 0 ≤ bothC c d i ∧ bothC c d i ≤ 1000000 := by
  intro i hi
  have h1 := hc i hi
  have h2 := hd i hi
  unfold bothC
  rw [Int.max_def]
  split <;> omega

theorem unseen_sub {l : List Ver} {c : Ctx} {v : Ver} (h : v ∈ unseenL l c) : v ∈ l := (List.mem_filter.1 h).1

theorem StOk.del {c seen : Ctx} {l : List Ver} (h : StOk c l) (hs : soundB seen = true) : StOk (bothC c seen) (unseenL l seen) where
  sorted := List.Pairwise.filter _ h.sorted
  each v hv := by
    obtain ⟨h1, h2, h3⟩ := h.each v (unseen_sub hv)
    exact ⟨h1, by unfold bothC; rw [Int.max_def]; split <;> omega, h3⟩
  len := Nat.le_trans (List.length_filter_le _ _) h.len
  ctx := bothC_ctx h.ctx (sound_all hs)

theorem StOk.new_dot {c seen : Ctx} {l : List Ver} (h : StOk c l) (n : Nat) (val : ByteArray) : ∀ u ∈ unseenL l seen, ¬ (u.rep = (Ver.rep (n, bothC c seen n + 1, val)) ∧ u.n = Ver.n (n, bothC c seen n + 1, val)) := by
  intro u hu ⟨e1, e2⟩
  obtain ⟨h1, h2, h3⟩ := h.each u (unseen_sub hu)
  have e3 : u.n = bothC c seen n + 1 := e2
  have e4 : u.rep = n := e1
  rw [e4, e3] at h2
  have : c n ≤ bothC c seen n := by unfold bothC; rw [Int.max_def]; split <;> omega
  omega

theorem StOk.put {c seen : Ctx} {l : List Ver} (h : StOk c l) (hs : soundB seen = true) (n : Nat) (hn : n < 4) (val : ByteArray) (hv : val.size ≤ 12) (hl : (unseenL l seen).length < 20) (hb : bothC c seen n < 1000000) :
    StOk (bump (bothC c seen) n) (insL (unseenL l seen) (n, bothC c seen n + 1, val)) where
  sorted := insL_sorted _ _ (List.Pairwise.filter _ h.sorted) (h.new_dot n val)
  each v hm := by
    have hb' : ∀ i, bothC c seen i ≤ bump (bothC c seen) n i := fun i => by unfold bump; split <;> omega
    rcases List.mem_append.1 ((insL_perm _ _).subset hm) with hm | hm
    · obtain ⟨h1, h2, h3⟩ := h.each v (unseen_sub hm)
      refine ⟨h1, ?_, h3⟩
      have := hb' v.rep
      have : c v.rep ≤ bothC c seen v.rep := by unfold bothC; rw [Int.max_def]; split <;> omega
      omega
    · rw [List.mem_singleton] at hm
      subst hm
      exact ⟨hn, by simp [bump], hv⟩
  len := by
    have := (insL_perm (unseenL l seen) (n, bothC c seen n + 1, val)).length_eq
    simp at this
    omega
  ctx i hi := by
    have h1 := bothC_ctx h.ctx (sound_all hs) i hi
    unfold bump
    split
    · rename_i e; subst e; omega
    · exact h1

theorem insL_length (l : List Ver) (v : Ver) : (insL l v).length = l.length + 1 := by
  have := (insL_perm l v).length_eq
  simpa using this
--%%ENDBODY
end Go.Proofs.YtldmcdeibiclkaaGreat

namespace Go.Proofs.YtldmcdeibiclkaaGreat
open Go.RowKit

/-- What is known of all keys is as it must be. -/
def KInv (K : Know) : Prop := ∀ s, StOk (K s).1 (K s).2
theorem KInv.ok {K : Know} (h : KInv K) : KOk K := fun s => ⟨fun v hv => ((h s).each v hv).1, by have := (h s).len; omega, fun v hv => ((h s).each v hv).2.2, (h s).ctx⟩
theorem KInv.none : KInv noKeys := fun s => ⟨List.Pairwise.nil, fun v hv => absurd hv (by simp [noKeys]), by simp [noKeys], fun i _ => by simp [noKeys]⟩
theorem KInv.upd {K : Know} (h : KInv K) {s : ByteArray} {c : Ctx} {l : List Ver} (hs : StOk c l) : KInv (updK K s (c, l)) := fun t => by
  unfold updK
  split
  · exact hs
  · exact h t

theorem keyB_size {s : ByteArray} (h : keyB s = true) : s.size ≤ 8 := by
  simp only [keyB, Bool.and_eq_true, decide_eq_true_eq] at h
  exact h.1.2

/-- Why a Put is refused; 0: it is done. -/
def putErr (K : Know) (n : Nat) (key val : ByteArray) (seen : Ctx) : Int :=
  if keyB key = false then 2 else if 12 < val.size then 3 else if soundB seen = false then 4 else if 20 ≤ (unseenL (K key).2 seen).length then 6 else if 1000000 ≤ (K key).1 n then 6 else if 1000000 ≤ seen n then 6 else 0
/-- What is known behind a Put. -/
def putK (K : Know) (n : Nat) (key val : ByteArray) (seen : Ctx) : Know :=
  if putErr K n key val seen = 0 then updK K key (bump (bothC (K key).1 seen) n, insL (unseenL (K key).2 seen) (n, bothC (K key).1 seen n + 1, val)) else K
/-- Why a Delete is refused; 0: it is done. -/
def delErr (K : Know) (key : ByteArray) (seen : Ctx) : Int :=
  if keyB key = false then 2 else if soundB seen = false then 4 else if (unseenL (K key).2 seen).length = (K key).2.length then 5 else 0
/-- What is known behind a Delete. -/
def delK (K : Know) (key : ByteArray) (seen : Ctx) : Know :=
  if delErr K key seen = 0 then updK K key (bothC (K key).1 seen, unseenL (K key).2 seen) else K

/-- The seven ways of a Put. -/
theorem put_ways (K : Know) (n : Nat) (key val : ByteArray) (seen : Ctx) :
    (keyB key = false ∧ putErr K n key val seen = 2) ∨ (keyB key = true ∧ 12 < val.size ∧ putErr K n key val seen = 3) ∨ (keyB key = true ∧ val.size ≤ 12 ∧ soundB seen = false ∧ putErr K n key val seen = 4) ∨
    (keyB key = true ∧ val.size ≤ 12 ∧ soundB seen = true ∧ 20 ≤ (unseenL (K key).2 seen).length ∧ putErr K n key val seen = 6) ∨
    (keyB key = true ∧ val.size ≤ 12 ∧ soundB seen = true ∧ (unseenL (K key).2 seen).length < 20 ∧ 1000000 ≤ (K key).1 n ∧ putErr K n key val seen = 6) ∨
    (keyB key = true ∧ val.size ≤ 12 ∧ soundB seen = true ∧ (unseenL (K key).2 seen).length < 20 ∧ (K key).1 n < 1000000 ∧ 1000000 ≤ seen n ∧ putErr K n key val seen = 6) ∨
    (keyB key = true ∧ val.size ≤ 12 ∧ soundB seen = true ∧ (unseenL (K key).2 seen).length < 20 ∧ (K key).1 n < 1000000 ∧ seen n < 1000000 ∧ putErr K n key val seen = 0) := by
  unfold putErr
  by_cases h1 : keyB key = false
  · exact Or.inl ⟨h1, if_pos h1⟩
  · have h1' : keyB key = true := by simpa using h1
    rw [if_neg h1]
    by_cases h2 : 12 < val.size
    · exact Or.inr (Or.inl ⟨h1', h2, if_pos h2⟩)
    · rw [if_neg h2]
      have h2' : val.size ≤ 12 := by omega
      by_cases h3 : soundB seen = false
      · exact Or.inr (Or.inr (Or.inl ⟨h1', h2', h3, if_pos h3⟩))
      · have h3' : soundB seen = true := by simpa using h3
        rw [if_neg h3]
        by_cases h4 : 20 ≤ (unseenL (K key).2 seen).length
        · exact Or.inr (Or.inr (Or.inr (Or.inl ⟨h1', h2', h3', h4, if_pos h4⟩)))
        · rw [if_neg h4]
          by_cases h5 : 1000000 ≤ (K key).1 n
          · exact Or.inr (Or.inr (Or.inr (Or.inr (Or.inl ⟨h1', h2', h3', by omega, h5, if_pos h5⟩))))
          · rw [if_neg h5]
            by_cases h6 : 1000000 ≤ seen n
            · exact Or.inr (Or.inr (Or.inr (Or.inr (Or.inr (Or.inl ⟨h1', h2', h3', by omega, by omega, h6, if_pos h6⟩)))))
            · exact Or.inr (Or.inr (Or.inr (Or.inr (Or.inr (Or.inr ⟨h1', h2', h3', by omega, by omega, by omega, if_neg h6⟩)))))

/-- The four ways of a Delete. -/
theorem del_ways (K : Know) (key : ByteArray) (seen : Ctx) :
    (keyB key = false ∧ delErr K key seen = 2) ∨ (keyB key = true ∧ soundB seen = false ∧ delErr K key seen = 4) ∨ (keyB key = true ∧ soundB seen = true ∧ (unseenL (K key).2 seen).length = (K key).2.length ∧ delErr K key seen = 5) ∨
    (keyB key = true ∧ soundB seen = true ∧ ¬ (unseenL (K key).2 seen).length = (K key).2.length ∧ delErr K key seen = 0) := by
  unfold delErr
  by_cases h1 : keyB key = false
  · exact Or.inl ⟨h1, if_pos h1⟩
  · have h1' : keyB key = true := by simpa using h1
    rw [if_neg h1]
    by_cases h3 : soundB seen = false
    · exact Or.inr (Or.inl ⟨h1', h3, if_pos h3⟩)
    · have h3' : soundB seen = true := by simpa using h3
      rw [if_neg h3]
      by_cases h4 : (unseenL (K key).2 seen).length = (K key).2.length
      · exact Or.inr (Or.inr (Or.inl ⟨h1', h3', h4, if_pos h4⟩))
      · exact Or.inr (Or.inr (Or.inr ⟨h1', h3', h4, if_neg h4⟩))

theorem both_lt {c d : Ctx} {n : Nat} {x : Int} (h : c n < x) (h' : d n < x) : bothC c d n < x := by unfold bothC; rw [Int.max_def]; split <;> omega
theorem both_ge {c d : Ctx} {n : Nat} {x : Int} (h : x ≤ c n ∨ x ≤ d n) : x ≤ bothC c d n := by unfold bothC; rw [Int.max_def]; split <;> omega

theorem put_inv {K : Know} {n : Nat} {key val : ByteArray} {seen : Ctx} (h : KInv K) (hn : n < 4) : KInv (putK K n key val seen) := by
  unfold putK
  rcases put_ways K n key val seen with ⟨_, e⟩ | ⟨_, _, e⟩ | ⟨_, _, _, e⟩ | ⟨_, _, _, _, e⟩ | ⟨_, _, _, _, _, e⟩ | ⟨_, _, _, _, _, _, e⟩ | ⟨_, h2, h3, h4, h5, h6, e⟩
  all_goals rw [e]
  all_goals try (rw [if_neg (by decide)]; exact h)
  rw [if_pos rfl]
  exact h.upd ((h key).put h3 n hn val h2 h4 (both_lt h5 h6))
theorem del_inv {K : Know} {key : ByteArray} {seen : Ctx} (h : KInv K) : KInv (delK K key seen) := by
  unfold delK
  rcases del_ways K key seen with ⟨_, e⟩ | ⟨_, _, e⟩ | ⟨_, _, _, e⟩ | ⟨_, h2, h3, e⟩
  all_goals rw [e]
  all_goals try (rw [if_neg (by decide)]; exact h)
  rw [if_pos rfl]
  exact h.upd ((h key).del h2)

theorem grown_maps {w w' : World} {bm : Nat → Nat} {key : ByteArray} (hg : w.grownBy w' (some (bm (segN key)))) : Fr (fun k => ∃ n, n < 64 ∧ k = bm n) w w' :=
  (Fr.refl _ w).grown hg fun k e _ => ⟨segN key, segN_lt key, (Option.some.inj e).symm⟩

theorem put_all (b num : Nat) (bm : Nat → Nat) (K : Know) (key val : ByteArray) (seen : Ctx) (w : World) (h : RepAt w b bm num K) (hK : KInv K) (hnum : num < 4) (hks : key.size ≤ maxLen) (hvs : val.size ≤ maxLen) :
    Calls Tryz.prog 13 #[.pointer (some ⟨b, 0, none⟩), .string key, .string val, ctxV seen] w fun e w' => e = .returned (.int .i64 (putErr K num key val seen)) ∧ RepAt w' b bm num (putK K num key val seen) ∧ Fr (fun k => ∃ n, n < 64 ∧ k = bm n) w w' := by
  unfold putK
  rcases put_ways K num key val seen with ⟨h1, e⟩ | ⟨h1, h2, e⟩ | ⟨h1, h2, h3, e⟩ | ⟨h1, h2, h3, h4, e⟩ | ⟨h1, h2, h3, h4, h5, e⟩ | ⟨h1, h2, h3, h4, h5, h6, e⟩ | ⟨h1, h2, h3, h4, h5, h6, e⟩
  all_goals rw [e]
  · exact (put_key b key val seen w h1 hks).mono fun e w' ⟨he, hb⟩ => ⟨he, by rw [if_neg (by decide)]; exact h.below hb, Fr.of_below hb⟩
  · exact (put_value b key val seen w h1 hks hvs h2).mono fun e w' ⟨he, hb⟩ => ⟨he, by rw [if_neg (by decide)]; exact h.below hb, Fr.of_below hb⟩
  · exact (put_seen b key val seen w h1 hks h2 h3).mono fun e w' ⟨he, hb⟩ => ⟨he, by rw [if_neg (by decide)]; exact h.below hb, Fr.of_below hb⟩
  · exact (put_limit b num bm K key val seen w h hK.ok h1 (keyB_size h1) h2 h3 hnum (Or.inl h4)).mono fun e w' ⟨he, hb⟩ => ⟨he, by rw [if_neg (by decide)]; exact h.below hb, Fr.of_below hb⟩
  · exact (put_limit b num bm K key val seen w h hK.ok h1 (keyB_size h1) h2 h3 hnum (Or.inr ⟨h4, both_ge (Or.inl h5)⟩)).mono fun e w' ⟨he, hb⟩ => ⟨he, by rw [if_neg (by decide)]; exact h.below hb, Fr.of_below hb⟩
  · exact (put_limit b num bm K key val seen w h hK.ok h1 (keyB_size h1) h2 h3 hnum (Or.inr ⟨h4, both_ge (Or.inr h6)⟩)).mono fun e w' ⟨he, hb⟩ => ⟨he, by rw [if_neg (by decide)]; exact h.below hb, Fr.of_below hb⟩
  · rw [if_pos rfl]
    refine (put_ok b num bm K key val seen w h hK.ok h1 (keyB_size h1) h2 h3 hnum h4 (bothC_ctx (hK key).ctx (sound_all h3) num hnum).1 (both_lt h5 h6)).mono fun e w' ⟨he, l', hp, hs, hr, hg⟩ => ⟨he, ?_, grown_maps hg⟩
    have hsu : SortV (unseenL (K key).2 seen) := List.Pairwise.filter _ (hK key).sorted
    have he' : l' = insL (unseenL (K key).2 seen) (num, bothC (K key).1 seen num + 1, val) := ins_unique hsu ((hK key).new_dot num val) hp hs
    rw [← he']
    exact hr

theorem del_all (b num : Nat) (bm : Nat → Nat) (K : Know) (key : ByteArray) (seen : Ctx) (w : World) (h : RepAt w b bm num K) (hK : KInv K) (hks : key.size ≤ maxLen) :
    Calls Tryz.prog 15 #[.pointer (some ⟨b, 0, none⟩), .string key, ctxV seen] w fun e w' => e = .returned (.int .i64 (delErr K key seen)) ∧ RepAt w' b bm num (delK K key seen) ∧ Fr (fun k => ∃ n, n < 64 ∧ k = bm n) w w' := by
  unfold delK
  rcases del_ways K key seen with ⟨h1, e⟩ | ⟨h1, h2, e⟩ | ⟨h1, h2, h3, e⟩ | ⟨h1, h2, h3, e⟩
  all_goals rw [e]
  · exact (del_key b key seen w h1 hks).mono fun e w' ⟨he, hb⟩ => ⟨he, by rw [if_neg (by decide)]; exact h.below hb, Fr.of_below hb⟩
  · exact (del_seen b key seen w h1 hks h2).mono fun e w' ⟨he, hb⟩ => ⟨he, by rw [if_neg (by decide)]; exact h.below hb, Fr.of_below hb⟩
  · exact (delete_none b num bm K key seen w h hK.ok h1 (keyB_size h1) h2 h3).mono fun e w' ⟨he, hb⟩ => ⟨he, by rw [if_neg (by decide)]; exact h.below hb, Fr.of_below hb⟩
  · rw [if_pos rfl]
    have hle : (unseenL (K key).2 seen).length ≤ (K key).2.length := List.length_filter_le _ _
    exact (delete_some b num bm K key seen w h hK.ok h1 (keyB_size h1) h2 (by omega)).mono fun e w' ⟨he, hr, hg⟩ => ⟨he, hr, grown_maps hg⟩

-- the reference

theorem row_typed {w : World} {B n size : Nat} {t : TypeId} {v : Value} {xs : List Value} (h : w.ownsRow B t size v n xs) : ∀ g o l c, v = .slice (some ⟨g, o, none⟩) l c → ∃ cur, w.heap[g]? = some (.cells cur t) := by
  intro g o l c e
  rcases h.2 with ⟨h2, _⟩ | ⟨g', cap, cur, hv, hg, hh, r⟩
  · rw [h2] at e; cases e
  · rw [hv] at e
    cases e
    exact ⟨cur, hh⟩
theorem Fr.rowT {X : Nat → Prop} {w w1 : World} {B n size : Nat} {t : TypeId} {v : Value} {xs : List Value} (h : Fr X w w1) (hr : w.ownsRow B t size v n xs) (hX : ∀ g cur, w.heap[g]? = some (.cells cur t) → ¬ X g) : w1.ownsRow B t size v n xs :=
  h.row hr fun g o l c e => by
    obtain ⟨cur, hh⟩ := row_typed hr g o l c e
    exact hX g cur hh

/-- The reference's replica lies at block rb, and knows what K says. -/
structure TiedAt (w : World) (rb n : Nat) (sv : Value) (l : List RKey) (K : Know) : Prop where
  ref : RefAt w rb n sv l
  sorted : SortK l
  at_ : ∀ s, (findK l s).2.1 = (K s).1 ∧ ASl w (findK l s).2.2 (K s).2

theorem TiedAt.of {w : World} {rb n : Nat} {sv : Value} {l : List RKey} {K : Know} (h : TiedAt w rb n sv l K) (s : ByteArray) : ∃ ad cap, findK l s = (s, (K s).1, .slice ad (K s).2.length cap) ∧ ASl w (.slice ad (K s).2.length cap) (K s).2 := by
  obtain ⟨h1, h2⟩ := h.at_ s
  have hn := findK_name l s
  obtain ⟨ad, cap, e, _, _⟩ := row_lenA h2
  rw [e] at h2
  refine ⟨ad, cap, ?_, h2⟩
  cases hx : findK l s with
  | mk a r =>
    cases r with
    | mk c v =>
      rw [hx] at hn h1 e
      simp only at hn h1 e
      rw [hn, h1, e]
theorem TiedAt.slices {w : World} {rb n : Nat} {sv : Value} {l : List RKey} {K : Know} (h : TiedAt w rb n sv l K) : ∀ q ∈ l, ∃ ad m cap, q.2.2 = .slice ad m cap ∧ m = (K q.1).2.length := fun q hq => by
  obtain ⟨ad, cap, e, _⟩ := h.of q.1
  rw [findK_mem h.sorted hq] at e
  exact ⟨ad, _, cap, by rw [e], rfl⟩
theorem TiedAt.sl {w : World} {rb n : Nat} {sv : Value} {l : List RKey} {K : Know} (h : TiedAt w rb n sv l K) : ∀ q ∈ l, ∃ ad m cap, q.2.2 = .slice ad m cap := fun q hq => by
  obtain ⟨ad, m, cap, e, _⟩ := h.slices q hq
  exact ⟨ad, m, cap, e⟩
theorem TiedAt.frame {X : Nat → Prop} {w w1 : World} {rb n : Nat} {sv : Value} {l : List RKey} {K : Know} (h : TiedAt w rb n sv l K) (hF : Fr X w w1) (hb : ¬ X rb) (hk : ∀ g cur, w.heap[g]? = some (.cells cur 82) → ¬ X g) (hv : ∀ s g o m c, (findK l s).2.2 = .slice (some ⟨g, o, none⟩) m c → ¬ X g) : TiedAt w1 rb n sv l K :=
  ⟨⟨hF.heap h.ref.1 hb, hF.rowT h.ref.2 hk⟩, h.sorted, fun s => ⟨(h.at_ s).1, hF.row (h.at_ s).2 (hv s)⟩⟩
theorem TiedAt.below {w w1 : World} {rb n : Nat} {sv : Value} {l : List RKey} {K : Know} (h : TiedAt w rb n sv l K) (hb : Below w.heap.size w w1) : TiedAt w1 rb n sv l K :=
  h.frame (X := fun _ => False) (Fr.of_below hb) (fun h => h) (fun _ _ _ h => h) (fun _ _ _ _ _ _ h => h)

theorem tied_set {w w' : World} {rb n : Nat} {sv sv' : Value} {l : List RKey} {K : Know} {key : ByteArray} {c : Ctx} {vl : List Ver} {v : Value} (h : TiedAt w rb n sv l K)
    (hb : w'.heap[rb]? = some (.cells #[.int .i64 n, sv'] 45)) (hk : w'.ownsRow w.heap.size 82 6 sv' (setK l (key, c, v)).length (flatK (setK l (key, c, v))))
    (hv : w'.ownsRow w.heap.size 88 3 v vl.length (flatV vl)) (hF : Fr (fun k => k = rb) w w') : TiedAt w' rb n sv' (setK l (key, c, v)) (updK K key (c, vl)) := by
  refine ⟨⟨hb, ownsRow_base hk (Nat.zero_le _)⟩, setK_sorted _ _ h.sorted, fun s => ?_⟩
  rw [findK_set _ _ _ h.sorted]
  unfold updK
  by_cases e : s = key
  · rw [if_pos e, if_pos e]
    exact ⟨rfl, ownsRow_base hv (Nat.zero_le _)⟩
  · rw [if_neg e, if_neg e]
    refine ⟨(h.at_ s).1, hF.rowT (h.at_ s).2 fun g cur hg e => ?_⟩
    have e' : g = rb := e
    rw [e', h.ref.1] at hg
    exact absurd hg (by simp)

theorem refPut_all (rb n : Nat) (sv : Value) (l : List RKey) (K : Know) (key val : ByteArray) (seen : Ctx) (w : World) (h : TiedAt w rb n sv l K) (hK : KInv K) (hn : n < 4) (hlen : l.length ≤ 1900000000000) (hks : key.size ≤ maxLen) (hvs : val.size ≤ maxLen) :
    Calls Tryz.prog 14 #[.pointer (some ⟨rb, 0, none⟩), .string key, .string val, ctxV seen] w fun e w' => e = .returned (.int .i64 (putErr K n key val seen)) ∧ (∃ sv' l', TiedAt w' rb n sv' l' (putK K n key val seen) ∧ l'.length ≤ l.length + 1) ∧ Fr (fun k => k = rb) w w' := by
  obtain ⟨ad, cap, hf, hv⟩ := h.of key
  have hr : ∀ v ∈ (K key).2, v.rep < 4 := (hK.ok key).1
  have hvl : (K key).2.length ≤ 100000 := (hK.ok key).2.1
  unfold putK
  rcases put_ways K n key val seen with ⟨h1, e⟩ | ⟨h1, h2, e⟩ | ⟨h1, h2, h3, e⟩ | ⟨h1, h2, h3, h4, e⟩ | ⟨h1, h2, h3, h4, h5, e⟩ | ⟨h1, h2, h3, h4, h5, h6, e⟩ | ⟨h1, h2, h3, h4, h5, h6, e⟩
  all_goals rw [e]
  · exact (refPut_key rb key val seen w hks hvs h1).mono fun e w' ⟨he, hb⟩ => ⟨he, by rw [if_neg (by decide)]; exact ⟨sv, l, h.below hb, by omega⟩, Fr.of_below hb⟩
  · exact (refPut_value rb key val seen w hks hvs h1 h2).mono fun e w' ⟨he, hb⟩ => ⟨he, by rw [if_neg (by decide)]; exact ⟨sv, l, h.below hb, by omega⟩, Fr.of_below hb⟩
  · exact (refPut_seen rb key val seen w hks hvs h1 h2 h3).mono fun e w' ⟨he, hb⟩ => ⟨he, by rw [if_neg (by decide)]; exact ⟨sv, l, h.below hb, by omega⟩, Fr.of_below hb⟩
  · exact (refPut_limit1 rb n sv l key key val seen _ ad cap _ w h.ref h.sl hlen hf hv hr hvl hks h1 h3 hn h2 h4).mono fun e w' ⟨he, hb⟩ => ⟨he, by rw [if_neg (by decide)]; exact ⟨sv, l, h.below hb, by omega⟩, Fr.of_below hb⟩
  · exact (refPut_limit2 rb n sv l key key val seen _ ad cap _ w h.ref h.sl hlen hf hv hr hvl hks h1 h3 hn h2 h4 h5).mono fun e w' ⟨he, hb⟩ => ⟨he, by rw [if_neg (by decide)]; exact ⟨sv, l, h.below hb, by omega⟩, Fr.of_below hb⟩
  · exact (refPut_limit3 rb n sv l key key val seen _ ad cap _ w h.ref h.sl hlen hf hv hr hvl hks h1 h3 hn h2 h4 h5 h6).mono fun e w' ⟨he, hb⟩ => ⟨he, by rw [if_neg (by decide)]; exact ⟨sv, l, h.below hb, by omega⟩, Fr.of_below hb⟩
  · rw [if_pos rfl]
    refine (refPut_ok rb n sv l key key val seen _ ad cap _ w h.ref h.sl hlen hf hv hr hvl hks h1 h3 hn h2 h4 h5 h6 (bothC_ctx (hK key).ctx (sound_all h3) n hn).1).mono fun e w' ⟨he, sv', ad', cap', hb, hk, hv', hF⟩ => ⟨he, ⟨sv', _, tied_set h hb hk ?_ hF, setK_len _ _⟩, hF⟩
    rw [insL_length]
    exact hv'

theorem refDel_all (rb n : Nat) (sv : Value) (l : List RKey) (K : Know) (key : ByteArray) (seen : Ctx) (w : World) (h : TiedAt w rb n sv l K) (hK : KInv K) (hlen : l.length ≤ 1900000000000) (hks : key.size ≤ maxLen) :
    Calls Tryz.prog 16 #[.pointer (some ⟨rb, 0, none⟩), .string key, ctxV seen] w fun e w' => e = .returned (.int .i64 (delErr K key seen)) ∧ (∃ sv' l', TiedAt w' rb n sv' l' (delK K key seen) ∧ l'.length ≤ l.length + 1) ∧ Fr (fun k => k = rb) w w' := by
  obtain ⟨ad, cap, hf, hv⟩ := h.of key
  have hr : ∀ v ∈ (K key).2, v.rep < 4 := (hK.ok key).1
  have hvl : (K key).2.length ≤ 100000 := (hK.ok key).2.1
  unfold delK
  rcases del_ways K key seen with ⟨h1, e⟩ | ⟨h1, h2, e⟩ | ⟨h1, h2, h3, e⟩ | ⟨h1, h2, h3, e⟩
  all_goals rw [e]
  · exact (refDelete_bad rb key seen w hks h1).mono fun e w' ⟨he, hb⟩ => ⟨he, by rw [if_neg (by decide)]; exact ⟨sv, l, h.below hb, by omega⟩, Fr.of_below hb⟩
  · exact (refDelete_seen rb key seen w hks h1 h2).mono fun e w' ⟨he, hb⟩ => ⟨he, by rw [if_neg (by decide)]; exact ⟨sv, l, h.below hb, by omega⟩, Fr.of_below hb⟩
  · exact (refDelete_none rb n sv l key key seen _ ad cap _ w h.ref h.sl hlen hf hv hr hvl hks h1 h2 h3).mono fun e w' ⟨he, hb⟩ => ⟨he, by rw [if_neg (by decide)]; exact ⟨sv, l, h.below hb, by omega⟩, Fr.of_below hb⟩
  · rw [if_pos rfl]
    exact (refDelete_ok rb n sv l key key seen _ ad cap _ w h.ref h.sl hlen hf hv hr hvl hks h1 h2 h3).mono fun e w' ⟨he, sv', ad', cap', hb, hk, hv', hF⟩ => ⟨he, ⟨sv', _, tied_set h hb hk hv' hF, setK_len _ _⟩, hF⟩

/-- What Get answers: the versions and the context, or why it is refused. -/
theorem get_all (b num : Nat) (bm : Nat → Nat) (K : Know) (key : ByteArray) (w : World) (h : RepAt w b bm num K) (hK : KInv K) (hks : key.size ≤ maxLen) :
    Calls Tryz.prog 66 #[.pointer (some ⟨b, 0, none⟩), .string key] w fun e w' => ∃ v', e = .returned (.tuple #[v', ctxV (if keyB key = true then (K key).1 else fun _ => 0), .int .i64 (if keyB key = true then 0 else 2)]) ∧ w'.ownsRow w.heap.size 88 3 v' (if keyB key = true then (K key).2 else []).length (flatV (if keyB key = true then (K key).2 else [])) ∧ Below w.heap.size w w' := by
  by_cases h1 : keyB key = true
  · simp only [if_pos h1]
    exact get_ok b num bm K key w h hK.ok h1 (keyB_size h1)
  · simp only [if_neg h1]
    exact (get_bad b key w (by simpa using h1) hks).mono fun e w' ⟨he, hb⟩ => ⟨_, he, World.ownsRow_nil w' _ _ _, hb⟩

theorem refGet_all (rb n : Nat) (sv : Value) (l : List RKey) (K : Know) (key : ByteArray) (w : World) (h : TiedAt w rb n sv l K) (hlen : l.length ≤ 1900000000000) (hks : key.size ≤ maxLen) :
    Calls Tryz.prog 28 #[.pointer (some ⟨rb, 0, none⟩), .string key] w fun e w' => ∃ v', e = .returned (.tuple #[v', ctxV (if keyB key = true then (K key).1 else fun _ => 0), .int .i64 (if keyB key = true then 0 else 2)]) ∧ ASl w' v' (if keyB key = true then (K key).2 else []) ∧ Below w.heap.size w w' := by
  by_cases h1 : keyB key = true
  · simp only [if_pos h1]
    refine (refGet_ok rb n sv l key w h.ref h.sl hlen hks h1).mono fun e w' ⟨he, hb⟩ => ?_
    obtain ⟨ad, cap, hf, hv⟩ := h.of key
    rw [hf] at he
    exact ⟨_, he, (Fr.of_below (X := fun _ => False) hb).row hv fun _ _ _ _ _ h => h, hb⟩
  · simp only [if_neg h1]
    exact (refGet_bad rb key w hks (by simpa using h1)).mono fun e w' ⟨he, hb⟩ => ⟨_, he, World.ownsRow_nil w' _ _ _, hb⟩
end Go.Proofs.YtldmcdeibiclkaaGreat
