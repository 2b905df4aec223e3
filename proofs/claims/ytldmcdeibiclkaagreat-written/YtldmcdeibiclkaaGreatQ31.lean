/-
  The statement of Written: for every script every Put, Delete, Get and Keys answers as the reference does, and all that came out reads as its owner wrote it: the answer is true, and the script reads behind the call as it read before.
-/
import Derived.Test.YtldmcdeibiclkaaGreatRows
import Derived.Test.YtldmcdeibiclkaaGreatQ30
import Derived.WalkKit
import Derived.ProofKit
import Derived.OpenShut
import Derived.ChangeSlices
import Derived.SizedLaws
import Derived.Leaving
import Derived.Conc.Holds
import Derived.Deep.Slices
set_option linter.unusedVariables false
set_option linter.unusedSimpArgs false

namespace Go.Proofs.YtldmcdeibiclkaaGreat
open Go.RowKit

set_option maxRecDepth 100000 in
theorem written_any (ad : Option Addr) (n cap : Nat) (ops : Nat → OpG) (w : World) (hs : ScriptAt w ad n ops) (hn : n ≤ 1500000000000) (hok : ∀ i, i < n → OpOk (ops i)) :
    Calls Tryz.prog 3 #[.slice ad n cap] w fun e w' => e = .returned (.bool true) ∧ Below w.heap.size w w' := by
  have HP : Hid _ := plays_any ad n cap ops w hs hn hok
  clear hs hok
  go_enter Tryz.func3, Tryz.ntmps3
  go_wp2_with (first
    | (go_at_call 7; refine Calls.mono HP.out ?_; rintro e w1 ⟨rfl, hb⟩))
  go_ret
  exact ⟨rfl, hb⟩

end Go.Proofs.YtldmcdeibiclkaaGreat
namespace Go.Proofs.YtldmcdeibiclkaaGreat.WrittenRow
open Go.ChangeShapes Go.WideShapes Go.ChangeAt Go.RowKit

theorem own : ownKnob Tryz.prog.godebug = none := by kernel_rfl
theorem laidOut : laidOutB Tryz.prog = true := by kernel_rfl
theorem cellsInt : Tryz.prog.cellsOf 3 = 1 := by kernel_rfl
theorem cellsStr : Tryz.prog.cellsOf 9 = 1 := by kernel_rfl
theorem cellsCtx : Tryz.prog.cellsOf 34 = 4 := by kernel_rfl
theorem cellsOp : Tryz.prog.cellsOf 36 = 10 := by kernel_rfl
theorem bytesOp : Tryz.prog.bytesOf 36 = 96 := by kernel_rfl

theorem int_range {n : Int} (h : (Lit.int .i64 n).wf = true) : -9223372036854775808 ≤ n ∧ n ≤ 9223372036854775807 := by
  simp [Lit.wf, IntKind.min, IntKind.max, IntKind.bits, IntKind.signed] at h
  omega

set_option maxRecDepth 100000 in
/-- One call of a script, as it is read. -/
theorem op_of {H : Type} {enc : TypeId × Value → H} {W : World} {base : Nat} {spare : Nat → Bool} {held : Bool} {fuel : Nat} {cs : List Value} {x : DataW H × List MemPlace} (h : DataW.trod enc Tryz.prog W base spare held fuel 36 cs = some x) : ∃ o : OpG, cs = (opV o).toList ∧ OpOk o := by
  obtain ⟨xs, n, _, _, hl, hlen, hf⟩ := DataW.trod_struct Tryz.underlying36 h
  rw [cellsOp] at hl
  have get : ∀ (i : Nat) (hi : i < 7), ∃ y, xs[i]? = some y := fun i hi => ⟨xs[i]'(by rw [hlen]; exact hi), List.getElem?_eq_getElem _⟩
  match cs, hl with
  | [c0, c1, c2, c3, c4, c5, c6, c7, c8, c9], _ =>
    obtain ⟨y0, e0⟩ := get 0 (by omega)
    obtain ⟨y1, e1⟩ := get 1 (by omega)
    obtain ⟨y2, e2⟩ := get 2 (by omega)
    obtain ⟨y3, e3⟩ := get 3 (by omega)
    obtain ⟨y4, e4⟩ := get 4 (by omega)
    obtain ⟨y5, e5⟩ := get 5 (by omega)
    obtain ⟨y6, e6⟩ := get 6 (by omega)
    have f0 : DataW.trod enc Tryz.prog W base spare held n 3 (([c0, c1, c2, c3, c4, c5, c6, c7, c8, c9].drop 0).take (Tryz.prog.cellsOf 3)) = xs[0]? := hf 0 _ rfl
    rw [cellsInt, e0] at f0
    have f1 : DataW.trod enc Tryz.prog W base spare held n 3 (([c0, c1, c2, c3, c4, c5, c6, c7, c8, c9].drop 1).take (Tryz.prog.cellsOf 3)) = xs[1]? := hf 1 _ rfl
    rw [cellsInt, e1] at f1
    have f2 : DataW.trod enc Tryz.prog W base spare held n 3 (([c0, c1, c2, c3, c4, c5, c6, c7, c8, c9].drop 2).take (Tryz.prog.cellsOf 3)) = xs[2]? := hf 2 _ rfl
    rw [cellsInt, e2] at f2
    have f3 : DataW.trod enc Tryz.prog W base spare held n 3 (([c0, c1, c2, c3, c4, c5, c6, c7, c8, c9].drop 3).take (Tryz.prog.cellsOf 3)) = xs[3]? := hf 3 _ rfl
    rw [cellsInt, e3] at f3
    have f4 : DataW.trod enc Tryz.prog W base spare held n 9 (([c0, c1, c2, c3, c4, c5, c6, c7, c8, c9].drop 4).take (Tryz.prog.cellsOf 9)) = xs[4]? := hf 4 _ rfl
    rw [cellsStr, e4] at f4
    have f5 : DataW.trod enc Tryz.prog W base spare held n 9 (([c0, c1, c2, c3, c4, c5, c6, c7, c8, c9].drop 5).take (Tryz.prog.cellsOf 9)) = xs[5]? := hf 5 _ rfl
    rw [cellsStr, e5] at f5
    have f6 : DataW.trod enc Tryz.prog W base spare held n 34 (([c0, c1, c2, c3, c4, c5, c6, c7, c8, c9].drop 6).take (Tryz.prog.cellsOf 34)) = xs[6]? := hf 6 _ rfl
    rw [cellsCtx, e6] at f6
    obtain ⟨k0, g0, _, w0⟩ := DataW.trod_int Tryz.underlying3 f0
    obtain ⟨k1, g1, _, w1⟩ := DataW.trod_int Tryz.underlying3 f1
    obtain ⟨k2, g2, _, w2⟩ := DataW.trod_int Tryz.underlying3 f2
    obtain ⟨k3, g3, _, w3⟩ := DataW.trod_int Tryz.underlying3 f3
    obtain ⟨s4, g4, _, w4⟩ := DataW.trod_string Tryz.underlying9 f4
    obtain ⟨s5, g5, _, w5⟩ := DataW.trod_string Tryz.underlying9 f5
    obtain ⟨ys, m, _, _, _, hy, hyf⟩ := DataW.trod_array Tryz.underlying34 f6
    have gety : ∀ (i : Nat) (hi : i < 4), ∃ y, ys[i]? = some y := fun i hi => ⟨ys[i]'(by rw [hy]; exact hi), List.getElem?_eq_getElem _⟩
    obtain ⟨z0, d0⟩ := gety 0 (by omega)
    obtain ⟨z1, d1⟩ := gety 1 (by omega)
    obtain ⟨z2, d2⟩ := gety 2 (by omega)
    obtain ⟨z3, d3⟩ := gety 3 (by omega)
    have h0 := hyf 0 (by omega)
    rw [cellsInt, d0] at h0
    have h1 := hyf 1 (by omega)
    rw [cellsInt, d1] at h1
    have h2 := hyf 2 (by omega)
    rw [cellsInt, d2] at h2
    have h3 := hyf 3 (by omega)
    rw [cellsInt, d3] at h3
    obtain ⟨k6, g6, _, _⟩ := DataW.trod_int Tryz.underlying3 h0
    obtain ⟨k7, g7, _, _⟩ := DataW.trod_int Tryz.underlying3 h1
    obtain ⟨k8, g8, _, _⟩ := DataW.trod_int Tryz.underlying3 h2
    obtain ⟨k9, g9, _, _⟩ := DataW.trod_int Tryz.underlying3 h3
    simp at g0 g1 g2 g3 g4 g5 g6 g7 g8 g9
    refine ⟨⟨k0, k1, k2, k3, s4, s5, fun i => match i with | 0 => k6 | 1 => k7 | 2 => k8 | _ => k9⟩, ?_, ⟨(int_range w1).1, (int_range w1).2, (int_range w3).1, (int_range w3).2, w4, w5⟩⟩
    simp [opV, g0, g1, g2, g3, g4, g5, g6, g7, g8, g9]

set_option maxRecDepth 100000 in
/-- WHAT THE WALK GIVES, for every script and every world. -/
theorem contract (H : Type) (enc : TypeId × Value → H) (W : World) (base : Nat) (args : Array Value) (ds gs : List (DataW H)) (before : List MemPlace)
    (hval : ∀ (j : Nat) t v, Tryz.f3.params[j]? = some t → args[j]? = some v → Value.okWide Tryz.prog W .any base t v)
    (hW : DataW.Whole enc Tryz.prog Tryz.f3.params.toList Rows.writtenSpec.vars false W args.toList ds gs before)
    (hsz : (DataW.weightsEach Tryz.prog (Tryz.f3.params.toList ++ Rows.writtenSpec.plain.varTypes Tryz.prog) (ds ++ gs)).all (· ≤ reachBytes) = true) :
    Calls Tryz.prog 3 args W fun e W' => ∃ v, e = .returned v ∧ Rows.writtenSpec.post enc Tryz.prog Tryz.f3 false true false false W args v W' := by
  have hW' := hW
  obtain ⟨p, q, hA0, hV, rfl, hfz, hnd⟩ := hW
  have hA : DataW.TrodAll enc Tryz.prog W 0 (fun _ => true) true Tryz.f3.params.toList args.toList ds p := hA0
  rw [Tryz.params3] at hA hval hsz
  obtain ⟨v0, vs0, d0, ds0, p0, q0, hargs, rfl, rfl, h0, r0⟩ := trodAll_cons hA
  obtain ⟨rfl, rfl, rfl⟩ := trodAll_nil r0
  obtain rfl : args = #[v0] := by cases args; simp_all
  obtain ⟨rfl, rfl⟩ := trodVars_none hV
  obtain ⟨a0, len, cap, rfl⟩ := okWide_slice Tryz.underlying22 (hval 0 22 v0 rfl rfl)
  have h0k := h0
  have hlt : ∀ x ∈ p0, x.block < W.heap.size := fun x hx => by simpa using hW'.lt x (by simp [hx])
  obtain ⟨fuel, hf⟩ := h0
  have walk : Calls Tryz.prog 3 #[.slice a0 len cap] W fun e w' => e = .returned (.bool true) ∧ Below W.heap.size W w' := by
    rcases Go.Deep.open_slice Tryz.underlying22 hf with ⟨hcs, _⟩ | ⟨a, len', cap', m, n, D, Pl, hcs, _, hl, hm, hmm, hx, hel⟩
    · simp [Value.cells] at hcs
      obtain ⟨rfl, rfl, rfl⟩ := hcs
      exact written_any none 0 0 (fun _ => opA) W (Or.inl rfl) (by omega) (fun i hi => absurd hi (by omega))
    · simp [Value.cells] at hcs
      obtain ⟨rfl, rfl, rfl⟩ := hcs
      have hd : d0 = .slice ((List.range len).map D) ((List.range (m - len)).map fun j => D (len + j)) := congrArg (·.1) hx
      have hb := sized_slice hsz (j := 0) (t := 22) (e := 36) (elems := (List.range len).map D) (spare := (List.range (m - len)).map fun j => D (len + j)) rfl (by rw [hd]; rfl) Tryz.underlying22
      rw [bytesOp] at hb
      simp only [List.length_map, List.length_range] at hb
      have hr : reachBytes = 140737488351232 := by rfl
      rw [hr] at hb
      have hn : len ≤ 1500000000000 := by omega
      by_cases h0n : len = 0
      · subst h0n
        exact written_any (some a) 0 cap (fun _ => opA) W (Or.inl rfl) (by omega) (fun i hi => absurd hi (by omega))
      · have hle : len ≤ m := by rw [hmm]; simp; omega
        have hinh : Inhabited OpG := ⟨opA⟩
        obtain ⟨ops, hops⟩ := Go.Deep.choose_lt (α := OpG) (n := len) (p := fun i o => (∀ j, j < 10 → W.cell? ((a.add (i * 10)).add j) = (opV o)[j]?) ∧ OpOk o) (fun i hi => by
          obtain ⟨cs', h1, h2⟩ := hel i (by omega)
          rw [cellsOp] at h1
          obtain ⟨o, ho, hok⟩ := op_of h2
          obtain ⟨_, _, h3⟩ := World.cells?_some h1
          exact ⟨o, fun j hj => by rw [h3 j hj, ho]; simp, hok⟩)
        obtain ⟨b, off, spot⟩ := a
        have hspot : spot = none := by
          have := (hops 0 (by omega)).1 0 (by omega)
          have e : ((⟨b, off, spot⟩ : Addr).add (0 * 10)).add 0 = ⟨b, off, spot⟩ := by simp [Addr.add]
          rw [e] at this
          exact World.cell?_spot (this.trans (by rfl))
        subst hspot
        have hadd : ∀ i j, ((⟨b, off, none⟩ : Addr).add (i * 10)).add j = ⟨b, off + i * 10 + j, none⟩ := fun i j => by rw [add_plain, add_plain]
        have hcell : ∀ i, i < len → ∀ j, j < 10 → W.cell? ⟨b, off + i * 10 + j, none⟩ = (opV (ops i))[j]? := fun i hi j hj => by
          rw [← hadd]; exact (hops i hi).1 j hj
        refine written_any (some ⟨b, off, none⟩) len cap ops W (Or.inr ⟨b, off, rfl, ?_, hcell⟩) hn fun i hi => (hops i hi).2
        exact World.block_lt_of_cell? W ⟨b, off + 0 * 10 + 0, none⟩ ((hcell 0 (by omega) 0 (by omega)).trans (by rfl))
  clear hA0
  refine walk.mono fun e W' ⟨he, hb⟩ => ?_
  subst he
  refine ⟨_, rfl, _, _, _, [], p0 ++ [], [], hW', ?_, ?_, rfl, hb.frame _, fun h => by cases h⟩
  · exact trodAll_cons_mk (shut_bool Tryz.underlying4 _) trodAll_mk0
  · exact trodAll_cons_mk (Below.trod laidOut (by kernel_rfl) (of_decide_eq_true (by kernel_rfl)) h0k hb hlt) trodAll_mk0

set_option maxRecDepth 100000 in
theorem lifted (os : Os) (started : os.Started) (H : Type) (enc : TypeId × Value → H) :
    ReturnsInLeavingWide {} Tryz.checked os 3 .any (Rows.writtenSpec.pre6 enc Tryz.prog Tryz.f3 Rows.writtenRow.domain false) (Rows.writtenSpec.post enc Tryz.prog Tryz.f3 false true false false) := fun enter =>
  ReturnsInOpen.mono (fun _ _ _ x => ⟨x.2.1, onlyLeaving_of_quiet x.1, x.2.2⟩) (fun _ x => x)
    (returnsInHanded_of_change_sized (C := Tryz.checked) own started (by kernel_rfl) Tryz.func3
      (ChangeSpec.witness6 (enc := enc) (C := Tryz.checked) false ⟨#[], #[.slice none 0 0], []⟩ 8 (by kernel_rfl) (by kernel_rfl) (by kernel_rfl) (by kernel_rfl))
      (fun W base args ds gs before hval hW _ hsz _ => contract H enc W base args ds gs before hval hW hsz) enter)

end Go.Proofs.YtldmcdeibiclkaaGreat.WrittenRow
namespace Go.Proofs.YtldmcdeibiclkaaGreat
/-- The statement. -/
theorem written_holds : Rows.WrittenSaid :=
  OpenClaim.holds_of_wide_leaving 3 Tryz.f3 rfl rfl rfl rfl rfl rfl rfl ⟨rfl, rfl, rfl, rfl, rfl⟩ rfl rfl rfl rfl rfl (by kernel_rfl) Tryz.func3 (by kernel_rfl)
    (of_decide_eq_true (by kernel_rfl)) (by unfold Func.isWrapper; first | (rw [if_pos (by decide +kernel)]; kernel_rfl) | (rw [if_neg (by decide +kernel)]; exact ⟨rfl, rfl⟩))
    (fun os started H enc _ => WrittenRow.lifted os started H enc)
end Go.Proofs.YtldmcdeibiclkaaGreat
