/-
  Contract: began.
-/
import Derived.Test.YtldmcdeibiclkaaDoorN14
set_option linter.unusedVariables false
set_option linter.unusedSimpArgs false
namespace Go.Proofs.YtldmcdeibiclkaaDoor
open Go.RowKit
attribute [local go_sem ↓] bslice_wp Go.wp_at_zero Go.wp_at_succ
attribute [local go_sem] okBS_agg aggC_agg

/-- The key a, the value x, and no key. -/
abbrev keyA : ByteArray := ⟨#[97]⟩
abbrev valX : ByteArray := ⟨#[120]⟩
abbrev noKeyA : ByteArray := ⟨#[65]⟩
/-- Two contexts. -/
def ctx0 : Ctx := fun _ => 0
def ctx1 : Ctx := fun i => if i = 0 then 1 else 0

/-- What the first replica knows behind the Put. -/
def knowX : Know := updK noKeys keyA (bump (bothC ctx0 ctx0) 0, [(0, 1, valX)])

theorem knowX_ok : KOk knowX := by
  refine noKeys_ok.upd (fun v hv => ?_) (by simp) (fun v hv => ?_) (fun i hi => ?_)
  · rw [List.mem_singleton.1 hv]; decide
  · rw [List.mem_singleton.1 hv]; decide
  · rcases lt4 hi with rfl | rfl | rfl | rfl <;> decide

theorem one_put (b : Nat) (bm : Nat → Nat) (w : World) (h : RepAt w b bm 0 noKeys) :
    Calls Tryd.prog 9 #[.pointer (some ⟨b, 0, none⟩), .string ⟨#[97]⟩, .string ⟨#[120]⟩, .agg #[.int .i64 0, .int .i64 0, .int .i64 0, .int .i64 0]] w fun e w' => e = .returned (.int .i64 0) ∧ RepAt w' b bm 0 knowX ∧ w.grownBy w' (some (bm (segN keyA))) := by
  refine (put_ok b 0 bm noKeys keyA valX ctx0 w h noKeys_ok (by decide) (by decide) (by decide) (by decide) (by decide) (by decide) (by decide) (by decide)).mono ?_
  rintro e w' ⟨rfl, l', hp, _, hr, hg⟩
  have hl : l' = [(0, 1, valX)] := List.perm_singleton.1 hp
  subst hl
  exact ⟨rfl, hr, hg⟩

theorem one_get (b : Nat) (bm : Nat → Nat) (w : World) (h : RepAt w b bm 0 knowX) :
    Calls Tryd.prog 10 #[.pointer (some ⟨b, 0, none⟩), .string ⟨#[97]⟩] w fun e w' => ∃ g cap c0 c1 c2 c3, e = .returned (.tuple #[.slice (some ⟨g, 0, none⟩) 1 cap, .agg #[.int .i64 c0, .int .i64 c1, .int .i64 c2, .int .i64 c3], .int .i64 0]) ∧ w'.cell? ⟨g, 0, none⟩ = some (.int .i64 0) ∧ w'.cell? ⟨g, 1, none⟩ = some (.int .i64 1) ∧ w'.cell? ⟨g, 2, none⟩ = some (.string ⟨#[120]⟩) ∧ Below w.heap.size w w' := by
  refine (get_ok b 0 bm knowX keyA w h knowX_ok (by decide) (by decide)).mono ?_
  rintro e w' ⟨v', rfl, hown, hb⟩
  have hk : (knowX keyA).2 = [(0, 1, valX)] := by simp [knowX, updK]
  rw [hk] at hown
  obtain ⟨g, cap, rfl, _, _, hc⟩ := row_cell hown (by simp)
  exact ⟨g, cap, _, _, _, _, rfl, hc 0 _ (by simp) rfl, hc 1 _ (by simp) rfl, hc 2 _ (by simp) rfl, hb⟩

theorem beg_put (b num : Nat) (w : World) :
    Calls Tryd.prog 9 #[.pointer (some ⟨b, 0, none⟩), .string ⟨#[65]⟩, .string ⟨#[]⟩, .agg #[.int .i64 0, .int .i64 0, .int .i64 0, .int .i64 0]] w fun e w' => e = .returned (.int .i64 2) ∧ Below w.heap.size w w' :=
  put_noKey b noKeyA ⟨#[]⟩ ctx0 w (by decide) (by decide)

theorem beg_delete (b num : Nat) (bm : Nat → Nat) (w : World) (h : RepAt w b bm num noKeys) :
    Calls Tryd.prog 11 #[.pointer (some ⟨b, 0, none⟩), .string ⟨#[97]⟩, .agg #[.int .i64 1, .int .i64 0, .int .i64 0, .int .i64 0]] w fun e w' => e = .returned (.int .i64 5) ∧ Below w.heap.size w w' :=
  delete_none b num bm noKeys keyA ctx1 w h noKeys_ok (by decide) (by decide) (by decide) rfl

theorem Tryd.infoPtr : (Tryd.prog.info? 45).map (fun i => (i.zero, i.size, i.bytes)) = some (some (.pointer none), 1, 8) := by kernel_rfl

theorem push_keeps {B : Nat} {w1 w2 : World} {bt j l : Nat} {A : Array Value} {rv : Value} {b : Nat → Nat} {bm : Nat → Nat → Nat} {gm : Nat → Nat} {C : Array Value} {t0 : TypeId} (h : BegAt B w1 bt j l A rv b bm gm) (hgrow : (w1.alloc (.cells C t0)).grownBy w2 rv.ownBlock) : w2.heap[bt]? = some (.cells A 44) := by
  have hbtl := (Array.getElem?_eq_some_iff.1 h.hT).1
  rw [hgrow.block bt (by simp; omega) (fun e => ?_), Below.heap_alloc _ _ _ hbtl]
  · exact h.hT
  · obtain ⟨_, cur, hc⟩ := row_block h.hr bt e.symm
    rw [h.hT] at hc; exact absurd (tag_ne hc) (by decide)

/-- What holds of the world ahead of a round of began's first loop. -/
def BegRel (B : Nat) (w : World) (bt j : Nat) (wr : World) : Prop :=
  ∃ A rv b bm gm, BegAt B wr bt j 0 A rv b bm gm ∧ (∀ i n, i < j → n < 64 → bm i n < wr.heap.size) ∧ (∀ q, q < B → wr.heap[q]? = w.heap[q]?) ∧ wr.os = w.os ∧ wr.tape = w.tape ∧ wr.output = w.output ∧ w.heap.size ≤ wr.heap.size

theorem beg_start {B : Nat} {w w1 w2 w3 : World} {X : Obj} {bm1 : Nat → Nat} (hB : B ≤ w.heap.size) (h1 : Below (w.alloc (.cells zNet 44)).heap.size (w.alloc (.cells zNet 44)) w1) (hb : ∀ m, m < 64 → (w.alloc (.cells zNet 44)).heap.size ≤ bm1 m) (h2 : w1.grownBy w2 (some (bm1 (segN keyA)))) (h3 : Below w2.heap.size w2 w3) :
    BegRel B w w.heap.size 0 (w3.alloc X) := by
  have hn := hb _ (segN_lt keyA)
  have hsz : (w.alloc (.cells zNet 44)).heap.size = w.heap.size + 1 := by simp
  have hF : Fr (fun q => q = bm1 (segN keyA)) (w.alloc (.cells zNet 44)) (w3.alloc X) := (((Fr.of_below h1).grown h2 (fun q e _ => by cases e; rfl)).below h3).alloc X
  have hT : (w3.alloc X).heap[w.heap.size]? = some (.cells zNet 44) := hF.heap (heap_alloc_new w _) (fun e => by omega)
  refine ⟨zNet, .slice none 0 0, fun _ => 0, fun _ _ => 0, fun _ => 0, ?_, fun i n hi => absurd hi (by omega), fun q hq => ?_, hF.os, hF.tape, hF.output, Nat.le_trans (by omega) hF.size⟩
  · exact {
      hB := ⟨hB, fun i n hi => absurd hi (by omega), fun k hk => absurd hk (by omega)⟩
      hT := hT
      hA := zNet_size
      h0 := zNet_nil 0 (by omega)
      ho := fun q _ _ => rfl
      hr := ⟨rfl, Or.inl ⟨rfl, rfl⟩⟩
      hrep := fun i hi => absurd hi (by omega)
      hdis := fun i i' n n' hi => absurd hi (by omega)
      hmv := fun k hk => absurd hk (by omega)
      hmem := fun k hk => absurd hk (by omega)
      hgm := fun k k' hk => absurd hk (by omega) }
  · rw [hF.block q (by omega) (fun e => by omega), Below.heap_alloc _ _ _ (by omega)]

set_option maxRecDepth 100000 in
set_option maxHeartbeats 20000000 in
theorem began_ok (B m : Nat) (ks : Nat → ByteArray) (w : World) (h1 : 1 ≤ m) (h4 : m ≤ 4) (hB : B ≤ w.heap.size) :
    Calls Tryd.prog 4 #[.int .i64 m] w fun e w' => ∃ bt g, e = .returned (.pointer (some ⟨bt, 0, none⟩)) ∧ g.nr = m ∧ NetAt B w' bt g ∧ NetInv ks g ∧ Below B w w' := by
  have hz := Tryd.zeroNet
  have hzms := zMem_size
  have hzm := Tryd.zeroMem
  have hzs := zNet_size
  have hneq := fun W => neqVer W 0 1 ⟨#[120]⟩
  go_enter Tryd.func4, Tryd.ntmps4
  go_wp2_with (first
    | (go_at_call 8; refine (new_ok 0 _ (by omega)).mono ?_; rintro e w1 ⟨b1, bm1, rfl, hb1, hbm1, hR1, hbel1⟩; have HR1 : Hid _ := hR1; have HB1 : Hid _ := hbel1; clear hR1 hbel1)
    | (go_at_call 9; refine (one_put b1 bm1 _ HR1.out).mono ?_; rintro e w2 ⟨rfl, hR2, hg2⟩; have HR2 : Hid _ := hR2; have HG2 : Hid _ := hg2; clear hR2 hg2)
    | (go_at_call 10; refine (one_get b1 bm1 _ HR2.out).mono ?_; rintro e w3 ⟨g3, cap3, x0, x1, x2, x3, rfl, y0, y1, y2, hb3⟩; have hg3 := World.block_lt_of_cell? _ _ y0; have HB3 : Hid _ := hb3; clear hb3))
  have HS : Hid (BegRel B w w.heap.size 0 (w3.alloc (.cells #[.int .i64 x0, .int .i64 x1, .int .i64 x2, .int .i64 x3] 51))) := beg_start hB HB1.out hbm1 HG2.out HB3.out
  clear y0 y1 y2 hg3 HB1 hbm1 HG2 HB3 HR1 HR2 hneq
  obtain ⟨i0, hi0, hz0, hz1, hz2⟩ := info_parts Tryd.infoPtr
  go_loopw [10] (fun iv wr => ∃ j : Nat, j ≤ m ∧ iv = .int .i64 j ∧ BegRel B w w.heap.size j wr) (fun iv _ => m - (intOf iv).toNat)
  case atStart => exact ⟨0, by omega, rfl, HS.out⟩
  case round =>
    obtain ⟨j, hj, rfl, A, rv, b, bm, gm, hbeg, hbml, hlow, hos, htape, hout, hgr⟩ := hrel
    by_cases hjm : j < m
    · have j1 : (j : Int) < (m : Int) := by omega
      have j4 : j < 4 := by omega
      obtain ⟨rad, rcap, hrv⟩ := row_len hbeg.hr
      have HBeg : Hid (BegAt B wr w.heap.size j 0 A (.slice rad j rcap) b bm gm) := by rw [hrv] at hbeg; exact hbeg
      have HLow : Hid _ := And.intro hbml (And.intro hlow (And.intro hos (And.intro htape (And.intro hout hgr))))
      clear hbeg hbml hlow hos htape hout hrv HS
      go_wp2_with (first
        | (go_at_call 8; refine (new_ok j _ j4).mono ?_; rintro e w4 ⟨b4, bm4, rfl, hb4, hbm4, hR4, hbel4⟩; have HR4 : Hid (RepAt w4 b4 bm4 j noKeys) := hR4; have HB4 : Hid (Below wr.heap.size wr w4) := hbel4; clear hR4 hbel4)
        | (go_at_call 9; refine (beg_put b4 j _).mono ?_; rintro e w5 ⟨rfl, hbel5⟩; have HB5 : Hid (Below w4.heap.size w4 w5) := hbel5; have HR5 : Hid (RepAt w5 b4 bm4 j noKeys) := HR4.out.below hbel5; clear hbel5)
        | (go_at_call 11; refine (beg_delete b4 j bm4 _ HR5.out).mono ?_; rintro e w6 ⟨rfl, hbel6⟩; have HB6 : Hid (Below w5.heap.size w5 w6) := hbel6; have HR6 : Hid (RepAt w6 b4 bm4 j noKeys) := HR5.out.below hbel6; have HG6 : Hid (BegAt B w6 w.heap.size j 0 A (.slice rad j rcap) b bm gm) := ((HBeg.out.below HB4.out).below HB5.out).below hbel6; have c6 : w6.cell? ⟨w.heap.size, 0, none⟩ = some (.slice rad j rcap) := (by rw [(cells_of0 HG6.out.hT).1]; exact HG6.out.h0); clear hbel6)
        | (at_builtin; refine wpList_append_lies _ rfl _ _ _ rfl B 45 i0 _ 1 8 Tryd.underlying32 hi0 hz0 hz1 hz2 rfl (by omega) (.slice rad j rcap) _ _ rfl (HG6.out.hr.alloc _) ⟨w6.heap.size, 0, none⟩ 1 1 [.pointer (some ⟨b4, 0, none⟩)] rfl rfl (World.news_of_block (cs := #[.pointer (some ⟨b4, 0, none⟩)]) (t := 45) (fr := (0, 0)) (heap_alloc_new w6 _)) (by simp [Value.oneCell']) (by omega) (by unfold maxLen; omega) (by omega) (by have h1 := HB4.out.size; have h2 := HB5.out.size; have h3 := HB6.out.size; simp; omega) (w6.heap.size + 1) (by simp) ?_; intro gg capn w7 hown7 hgrow7 hat7 hlt7; have HP : Hid _ := HG6.out.push (w := wr) (by have h1 := HB4.out.size; have h2 := HB5.out.size; have h3 := HB6.out.size; omega) HLow.out.1 (by omega) HR6.out hbm4 hgrow7 hown7; have T7 : w7.heap[w.heap.size]? = some (.cells A 44) := push_keeps HG6.out hgrow7; have s1 : w7.cell? ⟨w.heap.size, 0, none⟩ = some (.slice rad j rcap) := (by rw [(cells_of0 T7).1]; exact HG6.out.h0); have s2 : w7.frozen? ⟨w.heap.size, 0, none⟩ = false := (cells_of0 T7).2 0; clear hown7 hgrow7 hat7 hlt7 T7))
      refine ⟨⟨j + 1, by omega, by go_num, ?_⟩, by simp [intOf]; omega⟩
      obtain ⟨p1, p2, p3⟩ := HP.out
      obtain ⟨l1, l2, l3, l4, l5, l6⟩ := HLow.out
      have z4 := HB4.out.size
      have z5 := HB5.out.size
      have z6 := HB6.out.size
      have z7 := p2.size
      refine ⟨_, _, _, _, gm, p1, fun i n hi hn => ?_, fun q hq => ?_, p2.os.trans (HB6.out.os.trans (HB5.out.os.trans (HB4.out.os.trans l3))), p2.tape.trans (HB6.out.tape.trans (HB5.out.tape.trans (HB4.out.tape.trans l4))), p2.output.trans (HB6.out.output.trans (HB5.out.output.trans (HB4.out.output.trans l5))), by omega⟩
      · by_cases e : i = j
        · simp only [if_pos e]
          have := (HR6.out.2.1 n hn).lt
          omega
        · simp only [if_neg e]
          have := l1 i n (by omega) hn
          omega
      · rw [p3 q hq, HB6.out.block q (by omega), HB5.out.block q (by omega), HB4.out.block q (by omega)]
        exact l2 q hq
    · obtain rfl : j = m := by omega
      have HS2 : Hid (∃ A rv b bm gm, BegAt B wr w.heap.size j 0 A rv b bm gm ∧ (∀ q, q < B → wr.heap[q]? = w.heap[q]?) ∧ wr.os = w.os ∧ wr.tape = w.tape ∧ wr.output = w.output ∧ w.heap.size ≤ wr.heap.size) := ⟨A, rv, b, bm, gm, hbeg, hlow, hos, htape, hout, hgr⟩
      clear hbeg hbml hlow hos htape hout hgr HS
      go_wp2
      go_loopw [15] (fun kv wy => ∃ l : Nat, l ≤ 3 ∧ kv = .int .i64 l ∧ ∃ A rv b bm gm, BegAt B wy w.heap.size j l A rv b bm gm ∧ (∀ q, q < B → wy.heap[q]? = w.heap[q]?) ∧ wy.os = w.os ∧ wy.tape = w.tape ∧ wy.output = w.output ∧ w.heap.size ≤ wy.heap.size) (fun kv _ => 3 - (intOf kv).toNat)
      case atStart => exact ⟨0, by omega, rfl, HS2.out⟩
      case round =>
        obtain ⟨l, hl, rfl, A, rv, b, bm, gm, hbeg, hlow, hos, htape, hout, hgr⟩ := hrel
        by_cases hl3 : l < 3
        · have l1 : (l : Int) < 3 := by omega
          have l0 : (0 : Int) ≤ (l : Int) := by omega
          have hAs := hbeg.hA
          have s1 : ‹World›.cell? ⟨w.heap.size, 1922 + l, none⟩ = some A[1922 + l] := by rw [(cells_of0 hbeg.hT).1]; exact Array.getElem?_eq_getElem (by omega)
          have s2 : ‹World›.frozen? ⟨w.heap.size, 1922 + l, none⟩ = false := (cells_of0 hbeg.hT).2 _
          have HM : Hid _ := hbeg.mems hl3 (by omega)
          have HLow : Hid _ := And.intro hlow (And.intro hos (And.intro htape (And.intro hout hgr)))
          have hbl := (Array.getElem?_eq_some_iff.1 hbeg.hT).1
          clear hbeg hlow hos htape hout
          go_wp2
          obtain ⟨p1, p2⟩ := HM.out
          obtain ⟨f1, f2, f3, f4, f5⟩ := HLow.out
          refine ⟨⟨l + 1, by omega, by go_num, _, rv, b, bm, _, p1, fun q hq => ?_, p2.os.trans f2, p2.tape.trans f3, p2.output.trans f4, Nat.le_trans f5 p2.size⟩, by simp [intOf]; omega⟩
          rw [p2.block q (by omega) (by omega)]
          exact f1 q hq
        · obtain rfl : l = 3 := by omega
          have HBeg : Hid _ := And.intro hbeg (And.intro hlow (And.intro hos (And.intro htape hout)))
          clear hbeg hlow hos htape hout
          go_wp2
          go_ret
          obtain ⟨f1, f2, f3, f4, f5⟩ := HBeg.out
          obtain ⟨br, capr, R, hnet⟩ := f1.net (by omega)
          exact ⟨w.heap.size, _, rfl, rfl, hnet, NetInv.first h1 h4, f3, f4, f5, hgr, f2⟩
end Go.Proofs.YtldmcdeibiclkaaDoor
