/-
  Toward: treed_holds, each node's digest is that of its children's, for every argument of Treed. OPERATORS, SIDE BY SIDE.
-/
import Derived.Test.YtldmcdeibiclkaaGreatDoorC05
set_option linter.unusedVariables false
set_option linter.unusedSimpArgs false
set_option maxRecDepth 4000
section
namespace Go.Proofs.YtldmcdeibiclkaaGreatDoor.U
section
variable {P:Program} {G:Array Func} {L:Lim} {C:FuncId→Code→Prop} {τ:Tri}
theorem doomed_add_nil (ts:Array TypeId) (t:TypeId) (x:Value):Doomed (gp P G) (Builtin.unsafeAdd_ ts t #[.pointer none,x]):=by
 unfold Builtin.unsafeAdd_
 refine Doomed.then (.asInt _) fun n=>?_
 try dsimp only
 split
 ·exact .unsupported _
 ·split
  ·exact Doomed.bind' (.unsupported _)
  ·exact .unsupported _
theorem R_unsafeAdd (ts:Array TypeId) (t:TypeId) {a b:Addr} {x y:Value} (hab:AR τ.all a b) (hx:VR L τ.all x y):SemR P G L C τ .own (fun p q=>∃c d,p= .pointer (some c)∧q= .pointer (some d)∧AR τ.all c d) (Builtin.unsafeAdd_ ts t #[.pointer (some a),x]) (Builtin.unsafeAdd_ ts t #[.pointer (some b),y]):=by
 unfold Builtin.unsafeAdd_
 try dsimp only
 refine SemR.bind' (R_asInt hx) ?_
 rintro n _ rfl
 try dsimp only
 split
 ·refine SemR.bind' (R_viewAt hab.1) ?_
  rintro _ _ ⟨rfl,rfl⟩
  exact .pure ⟨_,_,rfl,rfl,hab⟩
 ·split
  ·exact .doom _ (Doomed.bind' (.unsupported _))
  ·refine SemR.bind' (R_shape hab.1) ?_
   rintro z _ rfl
   cases z with
   |none=>exact .doom _ (.unsupported _)
   |some z=>
    try dsimp only
    refine R_program ?_
    simp only [hab.2.1,gp_cellAtBytes,gp_cellsOf,gp_depth]
    split
    ·exact .pure ⟨_,_,rfl,rfl,hab.1,rfl,hab.2.2⟩
    ·exact .doom _ (.unsupported _)
theorem R_movedNumber (hb:TriOk τ) (t:TypeId) {v w x y:Value} (h:VR L τ.all v w) (hp: ∃p,v= .pointer p) (hx:VR L τ.all x y):SemR P G L C τ .own (VR L τ.all) (movedNumber t v x) (movedNumber t w y):=by
 unfold movedNumber
 refine SemR.bind' (R_underlying t) ?_
 rintro d _ ⟨rfl,_⟩
 try dsimp only
 obtain ⟨p,rfl⟩:=hp
 cases h with
 |nilptr=>
  refine .doom _ ?_
  split
  ·exact Doomed.bind' (.unsupported _)
  ·exact doomed_add_nil #[] t x
 |@ptr a b hab=>
  split
  ·exact .doom _ (Doomed.bind' (.unsupported _))
  ·refine SemR.bind' (R_behindNumber hab) ?_
   rintro ⟨a,l⟩ ⟨b,l'⟩ ⟨hab,hl⟩
   simp only at hl
   subst hl
   refine SemR.bind' (R_unsafeAdd _ _ hab hx) ?_
   rintro _ _ ⟨c,d,rfl,rfl,hcd⟩
   exact R_asNumber hb hcd _
theorem R_movedPointer (t:TypeId) {v w x y:Value} (h:VR L τ.all v w) (hp: ∃p,v= .pointer p) (hx:VR L τ.all x y):SemR P G L C τ .own (VR L τ.all) (movedPointer t v x) (movedPointer t w y):=by
 unfold movedPointer
 obtain ⟨p,rfl⟩:=hp
 cases h with
 |nilptr=>exact .doom _ (doomed_add_nil #[] t x)
 |@ptr a b hab=>
  try dsimp only
  refine SemR.bind' (R_numberAt hab.1) ?_
  rintro p q (⟨rfl,rfl⟩|⟨c,d,l,rfl,rfl,hcd⟩)
  ·refine SemR.mono (R_unsafeAdd #[] t hab hx) ?_
   rintro _ _ ⟨c,d,rfl,rfl,hcd⟩
   exact .ptr hcd
  ·exact .doom _ (Doomed.bind' (.unsupported _))
theorem R_addrMod (k:IntKind) {a b:Addr} (h:AR τ.all a b) (n:Int):SemR P G L C τ .own (VR L τ.all) (Op.addrMod k a n) (Op.addrMod k b n):=by
 unfold Op.addrMod
 refine SemR.bind' (R_shape h.1) ?_
 rintro z _ rfl
 cases z with
 |none=>exact .doom _ (.unsupported _)
 |some z=>
  try dsimp only
  refine SemR.bind' (R_typeInfo z.1) ?_
  rintro i _ ⟨rfl,_⟩
  try dsimp only
  split
  ·exact .doom _ (Doomed.bind' (.unsupported _))
  ·refine SemR.bind' (R_byteOf h) ?_
   rintro m _ rfl
   exact .pure (.int _ _)
theorem R_twoPlaces (E:Env P L τ) {a b c d:Addr} (h:AR τ.all a b) (h':AR τ.all c d):SemR P G L C τ .own Same (Op.twoPlaces a c) (Op.twoPlaces b d):=by
 unfold Op.twoPlaces
 refine R_program ?_
 rw [gp_globals]
 by_cases hlo:(a.block !=c.block||decide (a.block≥P.globals.size))=true
 ·rw [if_pos hlo]
  exact .doom _ (Doomed.bind' (.unsupported _))
 ·have hlo': ¬ (b.block !=d.block||decide (b.block≥P.globals.size))=true:=by
   simp only [Bool.or_eq_true,bne_iff_ne,decide_eq_true_eq,not_or,Decidable.not_not,ge_iff_le,Nat.not_le] at hlo ⊢
   exact ⟨E.bi.fn _ _ _ (.inl h.1) (.inl (hlo.1 ▸ h'.1)),(E.high _ _ h.1).1 hlo.2⟩
  rw [if_neg hlo,if_neg hlo']
  refine SemR.bind' (R_byteOf h) ?_
  rintro x _ rfl
  refine SemR.bind' (R_byteOf h') ?_
  rintro y _ rfl
  exact .pure rfl
theorem R_bin_add (E:Env P L τ) (t:TypeId) {v w x y:Value} (hv:VR L τ.all v w) (hx:VR L τ.all x y):SemR P G L C τ .own (VR L τ.all) (binOp .add t v x) (binOp .add t w y):=by
 have _:=E.bi
 cases hv with
 |int k a=>
  cases hx with
  |int k' b=>
   unfold binOp
   try dsimp only
   split
   ·exact .doom _ (.stuck _)
   ·exact .pure (.int _ _)
  |ptr h=>exact R_movedNumber E.bi.toTriOk t (.ptr h) ⟨_,rfl⟩ (.int _ _)
  |nilptr=>exact R_movedNumber E.bi.toTriOk t .nilptr ⟨_,rfl⟩ (.int _ _)
  |_=>first|exact .doom _ (.stuck _)|exact .doom _ (.unsupported _)
 |ptr h=>
  cases hx with
  |int k' b=>
   refine SemR.bind' (R_underlying t) ?_
   rintro d _ ⟨rfl,_⟩
   have h1:=R_movedPointer (P:=P) (G:=G) (C:=C) (L:=L) (τ:=τ) t (v:= .pointer _) (w:= .pointer _) (.ptr h) ⟨_,rfl⟩ (.int k' b)
   have h2:=R_movedNumber (P:=P) (G:=G) (C:=C) (L:=L) (τ:=τ) E.bi.toTriOk t (v:= .pointer _) (w:= .pointer _) (.ptr h) ⟨_,rfl⟩ (.int k' b)
   cases d<;> first|exact h1|exact h2
  |ptr h'=>first|exact .doom _ (.stuck _)|exact .doom _ (.unsupported _)
  |_=>first|exact .doom _ (.stuck _)|exact .doom _ (.unsupported _)
 |nilptr=>
  cases hx with
  |int k' b=>
   refine SemR.bind' (R_underlying t) ?_
   rintro d _ ⟨rfl,_⟩
   have h1:=R_movedPointer (P:=P) (G:=G) (C:=C) (L:=L) (τ:=τ) t (v:= .pointer _) (w:= .pointer _) .nilptr ⟨_,rfl⟩ (.int k' b)
   have h2:=R_movedNumber (P:=P) (G:=G) (C:=C) (L:=L) (τ:=τ) E.bi.toTriOk t (v:= .pointer _) (w:= .pointer _) .nilptr ⟨_,rfl⟩ (.int k' b)
   cases d<;> first|exact h1|exact h2
  |_=>first|exact .doom _ (.stuck _)|exact .doom _ (.unsupported _)
 |string s=>
  cases hx with
  |string s'=>
   show SemR P G L C τ .own (VR L τ.all) (Op.stringOp .add s s') (Op.stringOp .add s s')
   unfold Op.stringOp
   try dsimp only
   split
   ·exact .doom _ (.unsupported _)
   ·exact .pure (.string _)
  |_=>first|exact .doom _ (.stuck _)|exact .doom _ (.unsupported _)
 |_=>first|exact .doom _ (.stuck _)|(cases hx<;> first|exact .doom _ (.stuck _)|exact .doom _ (.unsupported _))
theorem R_bin_sub (E:Env P L τ) (t:TypeId) {v w x y:Value} (hv:VR L τ.all v w) (hx:VR L τ.all x y):SemR P G L C τ .own (VR L τ.all) (binOp .sub t v x) (binOp .sub t w y):=by
 have _:=E.bi
 cases hv with
 |int k a=>
  cases hx with
  |int k' b=>
   unfold binOp
   try dsimp only
   split
   ·exact .doom _ (.stuck _)
   ·exact .pure (.int _ _)
  |ptr h=>first|exact .doom _ (.stuck _)|exact .doom _ (.unsupported _)
  |nilptr=>first|exact .doom _ (.stuck _)|exact .doom _ (.unsupported _)
  |_=>first|exact .doom _ (.stuck _)|exact .doom _ (.unsupported _)
 |ptr h=>
  cases hx with
  |int k' b=>exact R_movedNumber E.bi.toTriOk t (.ptr h) ⟨_,rfl⟩ (.int _ _)
  |ptr h'=>
   refine SemR.bind' (R_behindNumber h) ?_
   rintro ⟨a,l⟩ ⟨b,l'⟩ ⟨hab,hl⟩
   refine SemR.bind' (R_behindNumber h') ?_
   rintro ⟨c,m⟩ ⟨d,m'⟩ ⟨hcd,hm⟩
   refine SemR.bind' (R_twoPlaces E hab hcd) ?_
   rintro ⟨x,y⟩ _ rfl
   exact .pure (.int _ _)
  |_=>first|exact .doom _ (.stuck _)|exact .doom _ (.unsupported _)
 |nilptr=>
  cases hx with
  |int k' b=>exact R_movedNumber E.bi.toTriOk t .nilptr ⟨_,rfl⟩ (.int _ _)
  |_=>first|exact .doom _ (.stuck _)|exact .doom _ (.unsupported _)
 |string s=>
  cases hx with
  |string s'=>
   exact .doom _ (.stuck _)
  |_=>first|exact .doom _ (.stuck _)|exact .doom _ (.unsupported _)
 |_=>first|exact .doom _ (.stuck _)|(cases hx<;> first|exact .doom _ (.stuck _)|exact .doom _ (.unsupported _))
theorem R_bin_mul (E:Env P L τ) (t:TypeId) {v w x y:Value} (hv:VR L τ.all v w) (hx:VR L τ.all x y):SemR P G L C τ .own (VR L τ.all) (binOp .mul t v x) (binOp .mul t w y):=by
 have _:=E.bi
 cases hv with
 |int k a=>
  cases hx with
  |int k' b=>
   unfold binOp
   try dsimp only
   split
   ·exact .doom _ (.stuck _)
   ·exact .pure (.int _ _)
  |ptr h=>first|exact .doom _ (.stuck _)|exact .doom _ (.unsupported _)
  |nilptr=>first|exact .doom _ (.stuck _)|exact .doom _ (.unsupported _)
  |_=>first|exact .doom _ (.stuck _)|exact .doom _ (.unsupported _)
 |ptr h=>
  cases hx with
  |int k' b=>first|exact .doom _ (.stuck _)|exact .doom _ (.unsupported _)
  |ptr h'=>first|exact .doom _ (.stuck _)|exact .doom _ (.unsupported _)
  |_=>first|exact .doom _ (.stuck _)|exact .doom _ (.unsupported _)
 |nilptr=>
  cases hx with
  |int k' b=>first|exact .doom _ (.stuck _)|exact .doom _ (.unsupported _)
  |_=>first|exact .doom _ (.stuck _)|exact .doom _ (.unsupported _)
 |string s=>
  cases hx with
  |string s'=>
   exact .doom _ (.stuck _)
  |_=>first|exact .doom _ (.stuck _)|exact .doom _ (.unsupported _)
 |_=>first|exact .doom _ (.stuck _)|(cases hx<;> first|exact .doom _ (.stuck _)|exact .doom _ (.unsupported _))
theorem R_bin_quo (E:Env P L τ) (t:TypeId) {v w x y:Value} (hv:VR L τ.all v w) (hx:VR L τ.all x y):SemR P G L C τ .own (VR L τ.all) (binOp .quo t v x) (binOp .quo t w y):=by
 have _:=E.bi
 cases hv with
 |int k a=>
  cases hx with
  |int k' b=>
   unfold binOp
   try dsimp only
   split
   ·exact .doom _ (.stuck _)
   ·show SemR P G L C τ .own (VR L τ.all) (Op.intDiv .quo k a b) (Op.intDiv .quo k a b)
    unfold Op.intDiv
    split
    ·exact .doom _ (.runtimePanic _)
    ·exact .pure (.int _ _)
  |ptr h=>first|exact .doom _ (.stuck _)|exact .doom _ (.unsupported _)
  |nilptr=>first|exact .doom _ (.stuck _)|exact .doom _ (.unsupported _)
  |_=>first|exact .doom _ (.stuck _)|exact .doom _ (.unsupported _)
 |ptr h=>
  cases hx with
  |int k' b=>first|exact .doom _ (.stuck _)|exact .doom _ (.unsupported _)
  |ptr h'=>first|exact .doom _ (.stuck _)|exact .doom _ (.unsupported _)
  |_=>first|exact .doom _ (.stuck _)|exact .doom _ (.unsupported _)
 |nilptr=>
  cases hx with
  |int k' b=>first|exact .doom _ (.stuck _)|exact .doom _ (.unsupported _)
  |_=>first|exact .doom _ (.stuck _)|exact .doom _ (.unsupported _)
 |string s=>
  cases hx with
  |string s'=>
   exact .doom _ (.stuck _)
  |_=>first|exact .doom _ (.stuck _)|exact .doom _ (.unsupported _)
 |_=>first|exact .doom _ (.stuck _)|(cases hx<;> first|exact .doom _ (.stuck _)|exact .doom _ (.unsupported _))
theorem R_bin_rem (E:Env P L τ) (t:TypeId) {v w x y:Value} (hv:VR L τ.all v w) (hx:VR L τ.all x y):SemR P G L C τ .own (VR L τ.all) (binOp .rem t v x) (binOp .rem t w y):=by
 have _:=E.bi
 cases hv with
 |int k a=>
  cases hx with
  |int k' b=>
   unfold binOp
   try dsimp only
   split
   ·exact .doom _ (.stuck _)
   ·show SemR P G L C τ .own (VR L τ.all) (Op.intDiv .rem k a b) (Op.intDiv .rem k a b)
    unfold Op.intDiv
    split
    ·exact .doom _ (.runtimePanic _)
    ·exact .pure (.int _ _)
  |ptr h=>first|exact .doom _ (.stuck _)|exact .doom _ (.unsupported _)
  |nilptr=>first|exact .doom _ (.stuck _)|exact .doom _ (.unsupported _)
  |_=>first|exact .doom _ (.stuck _)|exact .doom _ (.unsupported _)
 |ptr h=>
  cases hx with
  |int k' b=>
   refine SemR.bind' (R_behindNumber h) ?_
   rintro ⟨a,l⟩ ⟨b,l'⟩ ⟨hab,hl⟩
   exact R_addrMod _ hab _
  |ptr h'=>first|exact .doom _ (.stuck _)|exact .doom _ (.unsupported _)
  |_=>first|exact .doom _ (.stuck _)|exact .doom _ (.unsupported _)
 |nilptr=>
  cases hx with
  |int k' b=>first|exact .doom _ (.stuck _)|exact .doom _ (.unsupported _)
  |_=>first|exact .doom _ (.stuck _)|exact .doom _ (.unsupported _)
 |string s=>
  cases hx with
  |string s'=>
   exact .doom _ (.stuck _)
  |_=>first|exact .doom _ (.stuck _)|exact .doom _ (.unsupported _)
 |_=>first|exact .doom _ (.stuck _)|(cases hx<;> first|exact .doom _ (.stuck _)|exact .doom _ (.unsupported _))
theorem R_bin_and (E:Env P L τ) (t:TypeId) {v w x y:Value} (hv:VR L τ.all v w) (hx:VR L τ.all x y):SemR P G L C τ .own (VR L τ.all) (binOp .and t v x) (binOp .and t w y):=by
 have _:=E.bi
 cases hv with
 |int k a=>
  cases hx with
  |int k' b=>
   unfold binOp
   try dsimp only
   split
   ·exact .doom _ (.stuck _)
   ·exact .pure (.int _ _)
  |ptr h=>
   refine SemR.bind' (R_behindNumber h) ?_
   rintro ⟨a,l⟩ ⟨b,l'⟩ ⟨hab,hl⟩
   exact R_addrMod _ hab _
  |nilptr=>first|exact .doom _ (.stuck _)|exact .doom _ (.unsupported _)
  |_=>first|exact .doom _ (.stuck _)|exact .doom _ (.unsupported _)
 |ptr h=>
  cases hx with
  |int k' b=>
   refine SemR.bind' (R_behindNumber h) ?_
   rintro ⟨a,l⟩ ⟨b,l'⟩ ⟨hab,hl⟩
   exact R_addrMod _ hab _
  |ptr h'=>first|exact .doom _ (.stuck _)|exact .doom _ (.unsupported _)
  |_=>first|exact .doom _ (.stuck _)|exact .doom _ (.unsupported _)
 |nilptr=>
  cases hx with
  |int k' b=>first|exact .doom _ (.stuck _)|exact .doom _ (.unsupported _)
  |_=>first|exact .doom _ (.stuck _)|exact .doom _ (.unsupported _)
 |string s=>
  cases hx with
  |string s'=>
   exact .doom _ (.stuck _)
  |_=>first|exact .doom _ (.stuck _)|exact .doom _ (.unsupported _)
 |_=>first|exact .doom _ (.stuck _)|(cases hx<;> first|exact .doom _ (.stuck _)|exact .doom _ (.unsupported _))
theorem R_bin_or (E:Env P L τ) (t:TypeId) {v w x y:Value} (hv:VR L τ.all v w) (hx:VR L τ.all x y):SemR P G L C τ .own (VR L τ.all) (binOp .or t v x) (binOp .or t w y):=by
 have _:=E.bi
 cases hv with
 |int k a=>
  cases hx with
  |int k' b=>
   unfold binOp
   try dsimp only
   split
   ·exact .doom _ (.stuck _)
   ·exact .pure (.int _ _)
  |ptr h=>first|exact .doom _ (.stuck _)|exact .doom _ (.unsupported _)
  |nilptr=>first|exact .doom _ (.stuck _)|exact .doom _ (.unsupported _)
  |_=>first|exact .doom _ (.stuck _)|exact .doom _ (.unsupported _)
 |ptr h=>
  cases hx with
  |int k' b=>first|exact .doom _ (.stuck _)|exact .doom _ (.unsupported _)
  |ptr h'=>first|exact .doom _ (.stuck _)|exact .doom _ (.unsupported _)
  |_=>first|exact .doom _ (.stuck _)|exact .doom _ (.unsupported _)
 |nilptr=>
  cases hx with
  |int k' b=>first|exact .doom _ (.stuck _)|exact .doom _ (.unsupported _)
  |_=>first|exact .doom _ (.stuck _)|exact .doom _ (.unsupported _)
 |string s=>
  cases hx with
  |string s'=>
   exact .doom _ (.stuck _)
  |_=>first|exact .doom _ (.stuck _)|exact .doom _ (.unsupported _)
 |_=>first|exact .doom _ (.stuck _)|(cases hx<;> first|exact .doom _ (.stuck _)|exact .doom _ (.unsupported _))
theorem R_bin_xor (E:Env P L τ) (t:TypeId) {v w x y:Value} (hv:VR L τ.all v w) (hx:VR L τ.all x y):SemR P G L C τ .own (VR L τ.all) (binOp .xor t v x) (binOp .xor t w y):=by
 have _:=E.bi
 cases hv with
 |int k a=>
  cases hx with
  |int k' b=>
   unfold binOp
   try dsimp only
   split
   ·exact .doom _ (.stuck _)
   ·exact .pure (.int _ _)
  |ptr h=>first|exact .doom _ (.stuck _)|exact .doom _ (.unsupported _)
  |nilptr=>first|exact .doom _ (.stuck _)|exact .doom _ (.unsupported _)
  |_=>first|exact .doom _ (.stuck _)|exact .doom _ (.unsupported _)
 |ptr h=>
  cases hx with
  |int k' b=>first|exact .doom _ (.stuck _)|exact .doom _ (.unsupported _)
  |ptr h'=>first|exact .doom _ (.stuck _)|exact .doom _ (.unsupported _)
  |_=>first|exact .doom _ (.stuck _)|exact .doom _ (.unsupported _)
 |nilptr=>
  cases hx with
  |int k' b=>first|exact .doom _ (.stuck _)|exact .doom _ (.unsupported _)
  |_=>first|exact .doom _ (.stuck _)|exact .doom _ (.unsupported _)
 |string s=>
  cases hx with
  |string s'=>
   exact .doom _ (.stuck _)
  |_=>first|exact .doom _ (.stuck _)|exact .doom _ (.unsupported _)
 |_=>first|exact .doom _ (.stuck _)|(cases hx<;> first|exact .doom _ (.stuck _)|exact .doom _ (.unsupported _))
theorem R_bin_andNot (E:Env P L τ) (t:TypeId) {v w x y:Value} (hv:VR L τ.all v w) (hx:VR L τ.all x y):SemR P G L C τ .own (VR L τ.all) (binOp .andNot t v x) (binOp .andNot t w y):=by
 have _:=E.bi
 cases hv with
 |int k a=>
  cases hx with
  |int k' b=>
   unfold binOp
   try dsimp only
   split
   ·exact .doom _ (.stuck _)
   ·exact .pure (.int _ _)
  |ptr h=>first|exact .doom _ (.stuck _)|exact .doom _ (.unsupported _)
  |nilptr=>first|exact .doom _ (.stuck _)|exact .doom _ (.unsupported _)
  |_=>first|exact .doom _ (.stuck _)|exact .doom _ (.unsupported _)
 |ptr h=>
  cases hx with
  |int k' b=>first|exact .doom _ (.stuck _)|exact .doom _ (.unsupported _)
  |ptr h'=>first|exact .doom _ (.stuck _)|exact .doom _ (.unsupported _)
  |_=>first|exact .doom _ (.stuck _)|exact .doom _ (.unsupported _)
 |nilptr=>
  cases hx with
  |int k' b=>first|exact .doom _ (.stuck _)|exact .doom _ (.unsupported _)
  |_=>first|exact .doom _ (.stuck _)|exact .doom _ (.unsupported _)
 |string s=>
  cases hx with
  |string s'=>
   exact .doom _ (.stuck _)
  |_=>first|exact .doom _ (.stuck _)|exact .doom _ (.unsupported _)
 |_=>first|exact .doom _ (.stuck _)|(cases hx<;> first|exact .doom _ (.stuck _)|exact .doom _ (.unsupported _))
theorem R_bin_lss (E:Env P L τ) (t:TypeId) {v w x y:Value} (hv:VR L τ.all v w) (hx:VR L τ.all x y):SemR P G L C τ .own (VR L τ.all) (binOp .lss t v x) (binOp .lss t w y):=by
 have _:=E.bi
 cases hv with
 |int k a=>
  cases hx with
  |int k' b=>
   unfold binOp
   try dsimp only
   split
   ·exact .doom _ (.stuck _)
   ·exact .pure (.bool _)
  |ptr h=>first|exact .doom _ (.stuck _)|exact .doom _ (.unsupported _)
  |nilptr=>first|exact .doom _ (.stuck _)|exact .doom _ (.unsupported _)
  |_=>first|exact .doom _ (.stuck _)|exact .doom _ (.unsupported _)
 |ptr h=>
  cases hx with
  |int k' b=>first|exact .doom _ (.stuck _)|exact .doom _ (.unsupported _)
  |ptr h'=>
   refine SemR.bind' (R_behindNumber h) ?_
   rintro ⟨a,l⟩ ⟨b,l'⟩ ⟨hab,hl⟩
   refine SemR.bind' (R_behindNumber h') ?_
   rintro ⟨c,m⟩ ⟨d,m'⟩ ⟨hcd,hm⟩
   refine SemR.bind' (R_twoPlaces E hab hcd) ?_
   rintro ⟨x,y⟩ _ rfl
   first|exact .pure (.bool _)|exact .doom _ (.unsupported _)
  |_=>first|exact .doom _ (.stuck _)|exact .doom _ (.unsupported _)
 |nilptr=>
  cases hx with
  |int k' b=>first|exact .doom _ (.stuck _)|exact .doom _ (.unsupported _)
  |_=>first|exact .doom _ (.stuck _)|exact .doom _ (.unsupported _)
 |string s=>
  cases hx with
  |string s'=>
   exact .pure (.bool _)
  |_=>first|exact .doom _ (.stuck _)|exact .doom _ (.unsupported _)
 |_=>first|exact .doom _ (.stuck _)|(cases hx<;> first|exact .doom _ (.stuck _)|exact .doom _ (.unsupported _))
theorem R_bin_leq (E:Env P L τ) (t:TypeId) {v w x y:Value} (hv:VR L τ.all v w) (hx:VR L τ.all x y):SemR P G L C τ .own (VR L τ.all) (binOp .leq t v x) (binOp .leq t w y):=by
 have _:=E.bi
 cases hv with
 |int k a=>
  cases hx with
  |int k' b=>
   unfold binOp
   try dsimp only
   split
   ·exact .doom _ (.stuck _)
   ·exact .pure (.bool _)
  |ptr h=>first|exact .doom _ (.stuck _)|exact .doom _ (.unsupported _)
  |nilptr=>first|exact .doom _ (.stuck _)|exact .doom _ (.unsupported _)
  |_=>first|exact .doom _ (.stuck _)|exact .doom _ (.unsupported _)
 |ptr h=>
  cases hx with
  |int k' b=>first|exact .doom _ (.stuck _)|exact .doom _ (.unsupported _)
  |ptr h'=>
   refine SemR.bind' (R_behindNumber h) ?_
   rintro ⟨a,l⟩ ⟨b,l'⟩ ⟨hab,hl⟩
   refine SemR.bind' (R_behindNumber h') ?_
   rintro ⟨c,m⟩ ⟨d,m'⟩ ⟨hcd,hm⟩
   refine SemR.bind' (R_twoPlaces E hab hcd) ?_
   rintro ⟨x,y⟩ _ rfl
   first|exact .pure (.bool _)|exact .doom _ (.unsupported _)
  |_=>first|exact .doom _ (.stuck _)|exact .doom _ (.unsupported _)
 |nilptr=>
  cases hx with
  |int k' b=>first|exact .doom _ (.stuck _)|exact .doom _ (.unsupported _)
  |_=>first|exact .doom _ (.stuck _)|exact .doom _ (.unsupported _)
 |string s=>
  cases hx with
  |string s'=>
   exact .pure (.bool _)
  |_=>first|exact .doom _ (.stuck _)|exact .doom _ (.unsupported _)
 |_=>first|exact .doom _ (.stuck _)|(cases hx<;> first|exact .doom _ (.stuck _)|exact .doom _ (.unsupported _))
theorem R_bin_gtr (E:Env P L τ) (t:TypeId) {v w x y:Value} (hv:VR L τ.all v w) (hx:VR L τ.all x y):SemR P G L C τ .own (VR L τ.all) (binOp .gtr t v x) (binOp .gtr t w y):=by
 have _:=E.bi
 cases hv with
 |int k a=>
  cases hx with
  |int k' b=>
   unfold binOp
   try dsimp only
   split
   ·exact .doom _ (.stuck _)
   ·exact .pure (.bool _)
  |ptr h=>first|exact .doom _ (.stuck _)|exact .doom _ (.unsupported _)
  |nilptr=>first|exact .doom _ (.stuck _)|exact .doom _ (.unsupported _)
  |_=>first|exact .doom _ (.stuck _)|exact .doom _ (.unsupported _)
 |ptr h=>
  cases hx with
  |int k' b=>first|exact .doom _ (.stuck _)|exact .doom _ (.unsupported _)
  |ptr h'=>
   refine SemR.bind' (R_behindNumber h) ?_
   rintro ⟨a,l⟩ ⟨b,l'⟩ ⟨hab,hl⟩
   refine SemR.bind' (R_behindNumber h') ?_
   rintro ⟨c,m⟩ ⟨d,m'⟩ ⟨hcd,hm⟩
   refine SemR.bind' (R_twoPlaces E hab hcd) ?_
   rintro ⟨x,y⟩ _ rfl
   first|exact .pure (.bool _)|exact .doom _ (.unsupported _)
  |_=>first|exact .doom _ (.stuck _)|exact .doom _ (.unsupported _)
 |nilptr=>
  cases hx with
  |int k' b=>first|exact .doom _ (.stuck _)|exact .doom _ (.unsupported _)
  |_=>first|exact .doom _ (.stuck _)|exact .doom _ (.unsupported _)
 |string s=>
  cases hx with
  |string s'=>
   exact .pure (.bool _)
  |_=>first|exact .doom _ (.stuck _)|exact .doom _ (.unsupported _)
 |_=>first|exact .doom _ (.stuck _)|(cases hx<;> first|exact .doom _ (.stuck _)|exact .doom _ (.unsupported _))
theorem R_bin_geq (E:Env P L τ) (t:TypeId) {v w x y:Value} (hv:VR L τ.all v w) (hx:VR L τ.all x y):SemR P G L C τ .own (VR L τ.all) (binOp .geq t v x) (binOp .geq t w y):=by
 have _:=E.bi
 cases hv with
 |int k a=>
  cases hx with
  |int k' b=>
   unfold binOp
   try dsimp only
   split
   ·exact .doom _ (.stuck _)
   ·exact .pure (.bool _)
  |ptr h=>first|exact .doom _ (.stuck _)|exact .doom _ (.unsupported _)
  |nilptr=>first|exact .doom _ (.stuck _)|exact .doom _ (.unsupported _)
  |_=>first|exact .doom _ (.stuck _)|exact .doom _ (.unsupported _)
 |ptr h=>
  cases hx with
  |int k' b=>first|exact .doom _ (.stuck _)|exact .doom _ (.unsupported _)
  |ptr h'=>
   refine SemR.bind' (R_behindNumber h) ?_
   rintro ⟨a,l⟩ ⟨b,l'⟩ ⟨hab,hl⟩
   refine SemR.bind' (R_behindNumber h') ?_
   rintro ⟨c,m⟩ ⟨d,m'⟩ ⟨hcd,hm⟩
   refine SemR.bind' (R_twoPlaces E hab hcd) ?_
   rintro ⟨x,y⟩ _ rfl
   first|exact .pure (.bool _)|exact .doom _ (.unsupported _)
  |_=>first|exact .doom _ (.stuck _)|exact .doom _ (.unsupported _)
 |nilptr=>
  cases hx with
  |int k' b=>first|exact .doom _ (.stuck _)|exact .doom _ (.unsupported _)
  |_=>first|exact .doom _ (.stuck _)|exact .doom _ (.unsupported _)
 |string s=>
  cases hx with
  |string s'=>
   exact .pure (.bool _)
  |_=>first|exact .doom _ (.stuck _)|exact .doom _ (.unsupported _)
 |_=>first|exact .doom _ (.stuck _)|(cases hx<;> first|exact .doom _ (.stuck _)|exact .doom _ (.unsupported _))
theorem R_bin_shl (E:Env P L τ) (t:TypeId) {v w x y:Value} (hv:VR L τ.all v w) (hx:VR L τ.all x y):SemR P G L C τ .own (VR L τ.all) (binOp .shl t v x) (binOp .shl t w y):=by
 have _:=E.bi
 cases hv with
 |int k a=>
  cases hx with
  |int k' b=>
   show SemR P G L C τ .own (VR L τ.all) (Op.shift .shl k a k' b) (Op.shift .shl k a k' b)
   unfold Op.shift
   split
   ·exact .doom _ (.runtimePanic _)
   ·exact .pure (.int _ _)
  |ptr h=>first|exact .doom _ (.stuck _)|exact .doom _ (.unsupported _)
  |nilptr=>first|exact .doom _ (.stuck _)|exact .doom _ (.unsupported _)
  |_=>first|exact .doom _ (.stuck _)|exact .doom _ (.unsupported _)
 |ptr h=>
  cases hx with
  |int k' b=>first|exact .doom _ (.stuck _)|exact .doom _ (.unsupported _)
  |ptr h'=>first|exact .doom _ (.stuck _)|exact .doom _ (.unsupported _)
  |_=>first|exact .doom _ (.stuck _)|exact .doom _ (.unsupported _)
 |nilptr=>
  cases hx with
  |int k' b=>first|exact .doom _ (.stuck _)|exact .doom _ (.unsupported _)
  |_=>first|exact .doom _ (.stuck _)|exact .doom _ (.unsupported _)
 |string s=>
  cases hx with
  |string s'=>
   exact .doom _ (.stuck _)
  |_=>first|exact .doom _ (.stuck _)|exact .doom _ (.unsupported _)
 |_=>first|exact .doom _ (.stuck _)|(cases hx<;> first|exact .doom _ (.stuck _)|exact .doom _ (.unsupported _))
theorem R_bin_shr (E:Env P L τ) (t:TypeId) {v w x y:Value} (hv:VR L τ.all v w) (hx:VR L τ.all x y):SemR P G L C τ .own (VR L τ.all) (binOp .shr t v x) (binOp .shr t w y):=by
 have _:=E.bi
 cases hv with
 |int k a=>
  cases hx with
  |int k' b=>
   show SemR P G L C τ .own (VR L τ.all) (Op.shift .shr k a k' b) (Op.shift .shr k a k' b)
   unfold Op.shift
   split
   ·exact .doom _ (.runtimePanic _)
   ·exact .pure (.int _ _)
  |ptr h=>first|exact .doom _ (.stuck _)|exact .doom _ (.unsupported _)
  |nilptr=>first|exact .doom _ (.stuck _)|exact .doom _ (.unsupported _)
  |_=>first|exact .doom _ (.stuck _)|exact .doom _ (.unsupported _)
 |ptr h=>
  cases hx with
  |int k' b=>first|exact .doom _ (.stuck _)|exact .doom _ (.unsupported _)
  |ptr h'=>first|exact .doom _ (.stuck _)|exact .doom _ (.unsupported _)
  |_=>first|exact .doom _ (.stuck _)|exact .doom _ (.unsupported _)
 |nilptr=>
  cases hx with
  |int k' b=>first|exact .doom _ (.stuck _)|exact .doom _ (.unsupported _)
  |_=>first|exact .doom _ (.stuck _)|exact .doom _ (.unsupported _)
 |string s=>
  cases hx with
  |string s'=>
   exact .doom _ (.stuck _)
  |_=>first|exact .doom _ (.stuck _)|exact .doom _ (.unsupported _)
 |_=>first|exact .doom _ (.stuck _)|(cases hx<;> first|exact .doom _ (.stuck _)|exact .doom _ (.unsupported _))
end
end Go.Proofs.YtldmcdeibiclkaaGreatDoor.U
end
