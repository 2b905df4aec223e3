/-
  Toward: treed_holds, each node's digest is that of its children's, for every argument of Treed. THE MODEL's LIBRARY, SIDE BY SIDE: loads, stores, rows, types.
  THE MODEL's INSTRUCTIONS, SIDE BY SIDE.
-/
import Derived.Test.YtldmcdeibiclkaaGreatDoorC02
set_option linter.unusedVariables false
set_option linter.unusedSimpArgs false
set_option maxRecDepth 4000
section
namespace Go.Proofs.YtldmcdeibiclkaaGreatDoor.U
structure Env (P:Program) (L:Lim) (τ:Tri):Prop where
 bi:Fit τ
 high: ∀r s,τ.all r s→(r< P.globals.size↔s< P.globals.size)
 ncc: ∀t i n u,P.info? t=some i→i.desc= .named n u→n≠ "sync.copyChecker"
 zero: ∀t i v,P.info? t=some i→i.zero=some v→∀π,VR L π v v
section
variable {P:Program} {G:Array Func} {L:Lim} {C:FuncId→Code→Prop} {τ:Tri}
abbrev Same {α:Type}:α→α→Prop:=fun a b=>a=b
theorem R_load {a b:Addr} (h:AR τ.all a b):SemR P G L C τ .own (VR L τ.all) (load a) (load b):= .load h fun _ _ hv=> .pure hv
theorem R_store {a b:Addr} {v w:Value} (h:AR τ.own a b) (hv:VR L τ.all v w):SemR P G L C τ .own (fun _ _=>True) (store a v) (store b w):= .store h hv (.pure trivial)
theorem R_new {o q:Obj} (h:OR L τ o q):SemR P G L C τ .own τ.own (newObj o) (newObj q):= .new rfl h fun _ _ hr=> .pure hr
theorem R_shape {r s:Nat} (h:τ.all r s):SemR P G L C τ .own Same (shape r) (shape s):= .shape h fun _=> .pure rfl
theorem R_freeze {a b:Addr} (h:AR τ.own a b) (n:Nat):SemR P G L C τ .own (fun _ _=>True) (freeze a n) (freeze b n):= .freeze n h (.pure trivial)
theorem R_frozen {a b:Addr} (h:AR τ.all a b):SemR P G L C τ .own Same (frozen a) (frozen b):= .frozen h fun _=> .pure rfl
theorem R_getObj {r s:Nat} (h:τ.all r s):SemR P G L C τ .own (OR L τ) (getObj r) (getObj s):= .getObj h fun _ _ ho=> .pure ho
theorem R_setObj {r s:Nat} {o q:Obj} (h:τ.own r s) (ho:OR L τ o q) (hn:NotCells o):SemR P G L C τ .own (fun _ _=>True) (setObj r o) (setObj s q):= .setObj h ho hn (.pure trivial)
theorem R_choose (q:Question):SemR P G L C τ .own Same (choose q) (choose q):= .choose q fun _=> .pure rfl
theorem R_program {α β:Type} {R:α→β→Prop} {f:Program→Sem α} {g:Program→Sem β} (h:SemR P G L C τ .own R (f (gp P G)) (g P)):SemR P G L C τ .own R (program >>=f) (program >>=g):= .program h
theorem R_askRoom (n:Nat):SemR P G L C τ .own (fun _ _=>True) (askRoom n) (askRoom n):=by
 unfold askRoom
 split
 ·exact .noRoom (.pure trivial)
 ·exact .pure trivial
theorem R_typeInfo (t:TypeId):SemR P G L C τ .own (fun a b=>a=b∧P.info? t=some a) (typeInfo t) (typeInfo t):=by
 unfold typeInfo
 refine R_program ?_
 rw [gp_info]
 cases h:P.info? t with
 |none=>exact .doom _ (.stuck _)
 |some i=>exact .pure ⟨rfl,rfl⟩
theorem R_underlying (t:TypeId):SemR P G L C τ .own (fun a b=>a=b∧P.underlying t=some a) (underlying t) (underlying t):=by
 unfold underlying
 refine R_program ?_
 rw [gp_underlying]
 cases h:P.underlying t with
 |none=>exact .doom _ (.stuck _)
 |some i=>exact .pure ⟨rfl,rfl⟩
theorem R_sizeOf (t:TypeId):SemR P G L C τ .own Same (sizeOf t) (sizeOf t):=by
 unfold sizeOf
 refine SemR.bind' (R_typeInfo t) ?_
 rintro _ _ ⟨rfl,_⟩
 exact .pure rfl
theorem R_isAgg (t:TypeId):SemR P G L C τ .own Same (isAgg t) (isAgg t):=by
 unfold isAgg
 refine SemR.bind' (R_underlying t) ?_
 rintro d _ ⟨rfl,_⟩
 cases d<;> exact .pure rfl
theorem R_zeroValue (E:Env P L τ) (t:TypeId):SemR P G L C τ .own (VR L τ.all) (zeroValue t) (zeroValue t):=by
 unfold zeroValue
 refine SemR.bind' (R_typeInfo t) ?_
 rintro i _ ⟨rfl,hi⟩
 cases h:i.zero with
 |none=>exact .doom _ (.unsupported _)
 |some v=>exact .pure (E.zero t i v hi h _)
theorem R_elemOf (t:TypeId):SemR P G L C τ .own Same (elemOf t) (elemOf t):=by
 unfold elemOf
 refine SemR.bind' (R_underlying t) ?_
 rintro d _ ⟨rfl,_⟩
 cases d<;> first|exact .pure rfl|exact .doom _ (.stuck _)
theorem R_loadCellsFrom {a b:Addr} (h:AR τ.all a b): ∀(n i:Nat) {xs ys:Array Value},XR (VR L τ.all) xs ys→SemR P G L C τ .own (XR (VR L τ.all)) (loadCellsFrom a i n xs) (loadCellsFrom b i n ys)
 |0,_,_,_,hx=> .pure hx
 |n+1,i,_,_,hx=>by
  unfold loadCellsFrom
  exact SemR.bind' (R_load (h.add i)) fun v w hv=>R_loadCellsFrom h n (i+1) (hx.push hv)
theorem R_loadCells {a b:Addr} (h:AR τ.all a b) (n:Nat):SemR P G L C τ .own (XR (VR L τ.all)) (loadCells a n) (loadCells b n):=R_loadCellsFrom h n 0 .nil
theorem R_storeCells {a b:Addr} (h:AR τ.own a b): ∀(l:List (Value×Value)) (i:Nat),(∀z∈l,VR L τ.all z.1 z.2)→SemR P G L C τ .own (fun _ _=>True) (storeCells a (l.map (·.1)) i) (storeCells b (l.map (·.2)) i)
 |[],_,_=> .pure trivial
 |z::l,i,hz=>by
  simp only [List.map_cons,storeCells]
  exact SemR.bind' (R_store (h.add i) (hz z (by simp))) fun _ _ _=>R_storeCells h l (i+1) fun y hy=>hz y (by simp [hy])
theorem R_storeRow {a b:Addr} (h:AR τ.own a b) {xs ys:Array Value} (hx:XR (VR L τ.all) xs ys):SemR P G L C τ .own (fun _ _=>True) (storeCells a xs.toList) (storeCells b ys.toList):=by
 obtain ⟨l,h1,h2,h3⟩:=hx.list
 rw [h1,h2]
 exact R_storeCells h l 0 h3
theorem VR.ofRow {xs ys:Array Value} (h:XR (VR L τ.all) xs ys):VR L τ.all (.agg xs) (.agg ys):=by
 obtain ⟨zs,rfl,rfl,hz⟩:=h
 exact .agg zs hz
theorem VR.ofTuple {xs ys:Array Value} (h:XR (VR L τ.all) xs ys):VR L τ.all (.tuple xs) (.tuple ys):=by
 obtain ⟨zs,rfl,rfl,hz⟩:=h
 exact .tuple zs hz
theorem VR.pair {a b c d:Value} (h:VR L τ.all a b) (k:VR L τ.all c d):VR L τ.all (.tuple #[a,c]) (.tuple #[b,d]):= .ofTuple ((XR.nil.push h).push k)
theorem VR.three {a b c d e f:Value} (h:VR L τ.all a b) (k:VR L τ.all c d) (l:VR L τ.all e f):VR L τ.all (.tuple #[a,c,e]) (.tuple #[b,d,f]):= .ofTuple (((XR.nil.push h).push k).push l)
theorem VR.one {a b:Value} (h:VR L τ.all a b):VR L τ.all (.tuple #[a]) (.tuple #[b]):= .ofTuple (XR.nil.push h)
theorem R_loadVar (t:TypeId) {a b:Addr} (h:AR τ.all a b):SemR P G L C τ .own (VR L τ.all) (loadVar t a) (loadVar t b):=by
 unfold loadVar
 refine SemR.bind' (R_isAgg t) ?_
 rintro x _ rfl
 try dsimp only
 split
 ·refine SemR.bind' (R_sizeOf t) ?_
  rintro n _ rfl
  refine SemR.bind' (R_loadCells h n) fun xs ys hx=> .pure (.ofRow hx)
 ·exact R_load h
theorem R_storeVar (t:TypeId) {a b:Addr} {v w:Value} (h:AR τ.own a b) (hv:VR L τ.all v w):SemR P G L C τ .own (fun _ _=>True) (storeVar t a v) (storeVar t b w):=by
 unfold storeVar
 refine SemR.bind' (R_sizeOf t) ?_
 rintro n _ rfl
 try dsimp only
 have hc:=hv.cells
 rw [hc.size]
 split
 ·exact .doom _ (Doomed.bind' (.stuck _))
 ·exact R_storeRow h hc
theorem R_newRow (e:TypeId) {xs ys:Array Value} (h:XR (VR L τ.all) xs ys):SemR P G L C τ .own (AR τ.own) (newRow e xs) (newRow e ys):=by
 unfold newRow
 exact SemR.bind' (R_new (.cells e (0,0) h)) fun r s hr=> .pure ⟨hr,rfl,rfl⟩
theorem R_newVar (t:TypeId) {v w:Value} (h:VR L τ.all v w):SemR P G L C τ .own (AR τ.own) (newVar t v) (newVar t w):=R_newRow t h.cells
theorem R_part (t:TypeId) {xs ys:Array Value} (h:XR (VR L τ.all) xs ys) (off:Nat):SemR P G L C τ .own (VR L τ.all) (part t xs off) (part t ys off):=by
 unfold part
 refine SemR.bind' (R_isAgg t) ?_
 rintro x _ rfl
 try dsimp only
 split
 ·refine SemR.bind' (R_sizeOf t) ?_
  rintro n _ rfl
  exact .pure (.ofRow (h.extract _ _))
 ·rcases h.get? off with ⟨h1,h2⟩|⟨x,y,h1,h2,h3⟩
  ·rw [h1];exact .doom _ (.stuck _)
  ·rw [h1,h2];exact .pure h3
theorem R_asIntOf {v w:Value} (h:VR L τ.all v w):SemR P G L C τ .own (fun a b=>a=b∧v= .int a.1 a.2) (asIntOf v) (asIntOf w):=by
 cases h<;> first|exact .pure ⟨rfl,rfl⟩|exact .doom _ (.stuck _)|exact .doom _ (.unsupported _)
theorem R_asInt {v w:Value} (h:VR L τ.all v w):SemR P G L C τ .own Same (asInt v) (asInt w):=by
 unfold asInt
 refine SemR.bind' (R_asIntOf h) ?_
 rintro x _ ⟨rfl,_⟩
 exact .pure rfl
theorem R_asBool {v w:Value} (h:VR L τ.all v w):SemR P G L C τ .own Same (asBool v) (asBool w):=by
 cases h<;> first|exact .pure rfl|exact .doom _ (.stuck _)
theorem R_asAgg {v w:Value} (h:VR L τ.all v w):SemR P G L C τ .own (XR (VR L τ.all)) (asAgg v) (asAgg w):=by
 cases h with
 |agg xs h=>exact .pure ⟨xs,rfl,rfl,h⟩
 |_=>exact .doom _ (.stuck _)
theorem R_asAddr {v w:Value} (h:VR L τ.all v w):SemR P G L C τ .own (AR τ.all) (asAddr v) (asAddr w):=by
 cases h with
 |ptr h=>exact .pure h
 |nilptr=>exact .doom _ (show Doomed (gp P G) (runtimePanic .nilDeref:Sem Addr) from .runtimePanic _)
 |_=>exact .doom _ (.stuck _)
theorem R_sureAddr {v w:Value} (h:VR L τ.all v w):SemR P G L C τ .own (AR τ.all) (Instr.sureAddr v) (Instr.sureAddr w):=by
 cases h with
 |ptr h=>exact .pure h
 |_=>exact .doom _ (.stuck _)
theorem R_viewAt {r s:Nat} (h:τ.all r s):SemR P G L C τ .own (fun a b=>a=none∧b=none) (viewAt r) (viewAt s):=by
 unfold viewAt
 refine SemR.bind' (R_shape h) ?_
 rintro x _ rfl
 try dsimp only
 split
 ·exact .pure ⟨rfl,rfl⟩
 ·refine SemR.bind' (R_getObj h) fun o q ho=>?_
  cases ho<;> exact .pure ⟨rfl,rfl⟩
theorem R_noView {a b:Addr} (h:AR τ.all a b):SemR P G L C τ .own (fun _ _=>True) (noView a) (noView b):=by
 unfold noView
 refine SemR.bind' (R_viewAt h.1) ?_
 rintro _ _ ⟨rfl,rfl⟩
 exact .pure trivial
theorem R_numberAt {r s:Nat} (h:τ.all r s):SemR P G L C τ .own (fun a b=>(a=none∧b=none)∨∃x y l,a=some (x,l)∧b=some (y,l)∧AR τ.all x y) (numberAt r) (numberAt s):=by
 unfold numberAt
 refine SemR.bind' (R_shape h) ?_
 rintro x _ rfl
 try dsimp only
 split
 ·exact .pure (.inl ⟨rfl,rfl⟩)
 ·refine SemR.bind' (R_getObj h) fun o q ho=>?_
  cases ho with
  |number l h=>exact .pure (.inr ⟨_,_,l,rfl,rfl,h⟩)
  |_=>exact .pure (.inl ⟨rfl,rfl⟩)
theorem R_behindNumber {a b:Addr} (h:AR τ.all a b):SemR P G L C τ .own (fun x y=>AR τ.all x.1 y.1∧y.2=x.2) (behindNumber a) (behindNumber b):=by
 unfold behindNumber
 refine SemR.bind' (R_numberAt h.1) ?_
 rintro x y (⟨rfl,rfl⟩|⟨u,v,l,rfl,rfl,huv⟩)
 ·exact .pure ⟨h,rfl⟩
 ·exact .pure ⟨huv,rfl⟩
theorem R_asNumber (hb:TriOk τ) {a b:Addr} (h:AR τ.all a b) (l:Bool):SemR P G L C τ .own (VR L τ.all) (asNumber a l) (asNumber b l):=by
 unfold asNumber
 exact SemR.bind' (R_new (.number l h)) fun r s hr=> .pure (.ptr ⟨hb.own _ _ hr,rfl,rfl⟩)
theorem R_stringish {a b:Addr} (h:AR τ.all a b):SemR P G L C τ .own Same (stringish a) (stringish b):=by
 unfold stringish
 refine SemR.bind' (R_frozen h) ?_
 rintro x _ rfl
 try dsimp only
 split
 ·exact .pure rfl
 ·refine SemR.bind' (R_shape h.1) ?_
  rintro x _ rfl
  cases x with
  |none=>exact .pure rfl
  |some x=>first|exact R_frozen ⟨h.1,rfl,rfl⟩|exact R_frozen ⟨h.1,rfl,h.2.2⟩|exact R_frozen (a:={block:=a.block,off:=x.2}) (b:={block:=b.block,off:=x.2}) ⟨h.1,rfl,rfl⟩
theorem AR.eq_iff (hb:BiU τ.all) {a b c d:Addr} (h:AR τ.all a b) (k:AR τ.all c d):(a==c)=(b==d):=by
 obtain ⟨ab,ao,as⟩:=a
 obtain ⟨bb,bo,bs⟩:=b
 obtain ⟨cb,co,cs⟩:=c
 obtain ⟨db,d_o,ds⟩:=d
 obtain ⟨h1,h2,h3⟩:=h
 obtain ⟨k1,k2,k3⟩:=k
 simp only at h1 h2 h3 k1 k2 k3
 subst h2 h3 k2 k3
 have:ab=cb↔bb=db:=⟨fun e=>hb.fn _ _ _ h1 (e ▸ k1),fun e=>hb.inj _ _ _ h1 (e ▸ k1)⟩
 rw [Bool.eq_iff_iff]
 simp only [beq_iff_eq,Addr.mk.injEq,this]
theorem blk_eq_iff (hb:BiU τ.all) {r s t u:Nat} (h:τ.all r s) (k:τ.all t u):(r==t)=(s==u):=by
 rw [Bool.eq_iff_iff]
 simp only [beq_iff_eq]
 exact ⟨fun e=>hb.fn _ _ _ h (e ▸ k),fun e=>hb.inj _ _ _ h (e ▸ k)⟩
theorem R_mayBeOne {a b c d:Addr} (h:AR τ.all a b) (k:AR τ.all c d):SemR P G L C τ .own Same (mayBeOne a c) (mayBeOne b d):=by
 unfold mayBeOne
 try dsimp only
 refine SemR.bind' (R_stringish h) ?_
 rintro x _ rfl
 refine SemR.bind' (R_stringish k) ?_
 rintro y _ rfl
 have hn: ∀{u v:Addr},AR τ.all u v→SemR P G L C τ .own Same (do pure ((← shape u.block) matches some (_,0)):Sem Bool) (do pure ((← shape v.block) matches some (_,0)):Sem Bool):=fun huv=>by
  refine SemR.bind' (R_shape huv.1) ?_
  rintro x _ rfl
  exact .pure rfl
 refine SemR.bind' (hn h) ?_
 rintro z _ rfl
 refine SemR.bind' (hn k) ?_
 rintro u _ rfl
 exact .pure rfl
theorem R_sameAddr (hb:BiU τ.all) {a b c d:Addr} (h:AR τ.all a b) (k:AR τ.all c d):SemR P G L C τ .own Same (sameAddr a c) (sameAddr b d):=by
 unfold sameAddr
 try dsimp only
 rw [← blk_eq_iff hb h.1 k.1,← h.eq_iff hb k]
 split
 ·exact .pure rfl
 ·refine SemR.bind' (R_frozen h) ?_
  rintro x _ rfl
  refine SemR.bind' (R_frozen k) ?_
  rintro y _ rfl
  try dsimp only
  split
  ·exact .doom _ (Doomed.bind' (.unsupported _))
  ·refine SemR.bind' (R_noView h) fun _ _ _=>?_
   refine SemR.bind' (R_noView k) fun _ _ _=>?_
   refine SemR.bind' (R_mayBeOne h k) ?_
   rintro z _ rfl
   try dsimp only
   split
   ·refine SemR.bind' (R_choose _) ?_
    rintro n _ rfl
    exact .pure rfl
   ·exact .pure rfl
theorem R_byteOf {a b:Addr} (h:AR τ.all a b):SemR P G L C τ .own Same (byteOf a) (byteOf b):=by
 unfold byteOf
 rw [h.2.2]
 cases a.spot with
 |some s=>exact .pure rfl
 |none=>
  try dsimp only
  refine R_program ?_
  rw [gp_depth]
  refine SemR.bind' (R_noView h) fun _ _ _=>?_
  refine SemR.bind' (R_shape h.1) ?_
  rintro x _ rfl
  cases x with
  |none=>exact .doom _ (.stuck _)
  |some x=>
   simp only [h.2.1,gp_cellsOf,gp_bytesOf,gp_byteOfCell,gp_depth]
   split
   ·exact .pure rfl
   ·split
    ·exact .pure rfl
    ·exact .doom _ (.stuck _)
theorem R_variablesAt {a b:Addr} (h:AR τ.all a b) (u:TypeId) (n:Nat):SemR P G L C τ .own Same (variablesAt a u n) (variablesAt b u n):=by
 unfold variablesAt
 refine R_program ?_
 refine SemR.bind' (R_shape h.1) ?_
 rintro x _ rfl
 cases x with
 |none=>exact .pure rfl
 |some x=>exact .pure (by rw [h.2.1,gp_liesAt];rfl)
theorem R_loadBytes: ∀(n:Nat) {a b:Addr} (_:AR τ.all a b) (acc:ByteArray),SemR P G L C τ .own Same (loadBytes a acc n) (loadBytes b acc n)
 |0,_,_,_,_=> .pure rfl
 |n+1,a,b,h,acc=>by
  unfold loadBytes
  refine SemR.bind' (R_load h) fun v w hv=>?_
  cases hv with
  |int k m=>
   cases k<;> first|exact R_loadBytes n (h.add 1) _|exact .doom _ (.stuck _)
  |_=>exact .doom _ (.stuck _)
end
end Go.Proofs.YtldmcdeibiclkaaGreatDoor.U
end
section
namespace Go.Proofs.YtldmcdeibiclkaaGreatDoor.U
section
variable {P:Program} {G:Array Func} {L:Lim} {C:FuncId→Code→Prop} {τ:Tri}
theorem doomed_ite {α:Type} {c:Prop} [Decidable c] {p q:Sem α} (h:Doomed (gp P G) p) (k:Doomed (gp P G) q):Doomed (gp P G) (if c then p else q):=by split<;> assumption
theorem R_forIn {α β σ ω:Type} {R:α→β→Prop} {S:σ→ω→Prop} {f:α→σ→Sem (ForInStep σ)} {g:β→ω→Sem (ForInStep ω)}
  (hf: ∀a b,R a b→∀s t,S s t→SemR P G L C τ .own (fun x y=>(∃s t,x= .done s∧y= .done t∧S s t)∨(∃s t,x= .yield s∧y= .yield t∧S s t)) (f a s) (g b t)):
  ∀(l:List (α×β)) (_: ∀z∈l,R z.1 z.2) (s:σ) (t:ω),S s t→SemR P G L C τ .own S (forIn (l.map (·.1)) s f) (forIn (l.map (·.2)) t g)
 |[],_,s,t,h=> .pure h
 |z::l,hz,s,t,h=>by
  simp only [List.map_cons,List.forIn_cons]
  refine SemR.bind' (hf _ _ (hz z (by simp)) s t h) ?_
  rintro x y (⟨u,v,rfl,rfl,hu⟩|⟨u,v,rfl,rfl,hu⟩)
  ·exact .pure hu
  ·exact R_forIn hf l (fun y hy=>hz y (by simp [hy])) u v hu
theorem R_sureAddrK {κ:Nat→Nat→Prop} {v w:Value} (h:VR L κ v w):SemR P G L C τ .own (AR κ) (Instr.sureAddr v) (Instr.sureAddr w):=by
 cases h with
 |ptr h=>exact .pure h
 |_=>exact .doom _ (.stuck _)
theorem R_partAtK {κ:Nat→Nat→Prop} (hκ: ∀r s,κ r s→τ.all r s) {a b:Addr} (h:AR κ a b) (c n:Nat):SemR P G L C τ .own (AR κ) (partAt a c n) (partAt b c n):=by
 unfold partAt
 refine SemR.bind' (R_byteOf (h.mono hκ)) ?_
 rintro x _ rfl
 have h2:AR κ {block:=a.block,off:=a.off+c} {block:=b.block,off:=b.off+c}:=⟨h.1,by simp [h.2.1],rfl⟩
 refine SemR.bind' (R_byteOf (h2.mono hκ)) ?_
 rintro y _ rfl
 refine .pure ?_
 split
 ·exact h2
 ·exact ⟨h.1,by simp [h.2.1],rfl⟩
theorem R_fieldPlaceK {κ:Nat→Nat→Prop} (hκ: ∀r s,κ r s→τ.all r s) {a b:Addr} (h:AR κ a b) (f:Field):SemR P G L C τ .own (AR κ) (fieldPlace a f) (fieldPlace b f):=by
 unfold fieldPlace
 refine SemR.bind' (R_sizeOf _) ?_
 rintro x _ rfl
 try dsimp only
 split
 ·exact R_partAtK hκ h _ _
 ·exact .pure (h.add _)
theorem R_loadBox {a b:Addr} (h:AR τ.box a b):SemR P G L C τ .own (VR L τ.own) (load a) (load b):= .loadX h fun _ _ hv=> .pure hv
theorem R_storeBox {a b:Addr} {v w:Value} (h:AR τ.box a b) (hv:VR L τ.own v w):SemR P G L C τ .own (fun _ _=>True) (store a v) (store b w):= .storeX h hv (.pure trivial)
theorem R_loadCellsBox {a b:Addr} (h:AR τ.box a b): ∀(n i:Nat) {xs ys:Array Value},XR (VR L τ.own) xs ys→SemR P G L C τ .own (XR (VR L τ.own)) (loadCellsFrom a i n xs) (loadCellsFrom b i n ys)
 |0,_,_,_,hx=> .pure hx
 |n+1,i,_,_,hx=>by
  unfold loadCellsFrom
  exact SemR.bind' (R_loadBox (h.add i)) fun v w hv=>R_loadCellsBox h n (i+1) (hx.push hv)
theorem VR.ofRowK {κ:Nat→Nat→Prop} {xs ys:Array Value} (h:XR (VR L κ) xs ys):VR L κ (.agg xs) (.agg ys):=by
 obtain ⟨zs,rfl,rfl,hz⟩:=h
 exact .agg zs hz
theorem R_loadAtBox (t:TypeId) {v w:Value} (h:VR L τ.box v w):SemR P G L C τ .own (VR L τ.own) (Instr.loadAt t v) (Instr.loadAt t w):=by
 unfold Instr.loadAt
 refine SemR.bind' (R_sureAddrK h) fun a b h=>?_
 unfold loadVar
 refine SemR.bind' (R_isAgg t) ?_
 rintro x _ rfl
 try dsimp only
 split
 ·refine SemR.bind' (R_sizeOf t) ?_
  rintro n _ rfl
  refine SemR.bind' (R_loadCellsBox h n 0 .nil) fun xs ys hx=> .pure (.ofRowK hx)
 ·exact R_loadBox h
theorem R_storeCellsBox {a b:Addr} (h:AR τ.box a b): ∀(l:List (Value×Value)) (i:Nat),(∀z∈l,VR L τ.own z.1 z.2)→SemR P G L C τ .own (fun _ _=>True) (storeCells a (l.map (·.1)) i) (storeCells b (l.map (·.2)) i)
 |[],_,_=> .pure trivial
 |z::l,i,hz=>by
  simp only [List.map_cons,storeCells]
  exact SemR.bind' (R_storeBox (h.add i) (hz z (by simp))) fun _ _ _=>R_storeCellsBox h l (i+1) fun y hy=>hz y (by simp [hy])
theorem R_storeAtBox (t:TypeId) {v w x y:Value} (h:VR L τ.box v w) (hx:VR L τ.own x y):SemR P G L C τ .own (fun _ _=>True) (Instr.storeAt t v x) (Instr.storeAt t w y):=by
 unfold Instr.storeAt
 refine SemR.bind' (R_sureAddrK h) fun a b h=>?_
 unfold storeVar
 refine SemR.bind' (R_sizeOf t) ?_
 rintro n _ rfl
 try dsimp only
 have hc:=hx.cells
 rw [hc.size]
 split
 ·exact .doom _ (Doomed.bind' (.stuck _))
 ·obtain ⟨l,h1,h2,h3⟩:=hc.list
  rw [h1,h2]
  exact R_storeCellsBox h l 0 h3
theorem R_alloc (E:Env P L τ) (e:TypeId):SemR P G L C τ .own (VR L τ.own) (Instr.alloc e true (.tuple #[])) (Instr.alloc e true (.tuple #[])):=by
 unfold Instr.alloc
 refine SemR.bind' (R_zeroValue E e) fun v w hv=>?_
 refine SemR.bind' (R_newVar e hv) fun a b h=> .pure (.ptr h)
theorem R_box (e:TypeId) {v w:Value} (h:VR L τ.all v w):SemR P G L C τ .own (VR L τ.own) (Instr.box e v) (Instr.box e w):=by
 unfold Instr.box
 exact SemR.bind' (R_newVar e h) fun a b h=> .pure (.ptr h)
theorem R_loadAt (t:TypeId) {v w:Value} (h:VR L τ.all v w):SemR P G L C τ .own (VR L τ.all) (Instr.loadAt t v) (Instr.loadAt t w):=by
 unfold Instr.loadAt
 exact SemR.bind' (R_sureAddr h) fun a b h=>R_loadVar t h
theorem R_storeAt (t:TypeId) {v w x y:Value} (h:VR L τ.own v w) (hx:VR L τ.all x y):SemR P G L C τ .own (fun _ _=>True) (Instr.storeAt t v x) (Instr.storeAt t w y):=by
 unfold Instr.storeAt
 exact SemR.bind' (R_sureAddrK h) fun a b h=>R_storeVar t h hx
theorem R_fieldAt {κ:Nat→Nat→Prop} (hκ: ∀r s,κ r s→τ.all r s) (s:TypeId) {v w:Value} (h:VR L κ v w) (i:Nat):SemR P G L C τ .own (VR L κ) (Instr.fieldAt s v i) (Instr.fieldAt s w i):=by
 unfold Instr.fieldAt
 refine SemR.bind' (R_underlying s) ?_
 rintro d _ ⟨rfl,_⟩
 cases d with
 |struct fs=>
  dsimp only
  cases hf:fs[i]? with
  |none=>exact .doom _ (.stuck _)
  |some f=>
   dsimp only
   exact SemR.bind' (R_sureAddrK h) fun a b h=>SemR.bind' (R_fieldPlaceK hκ h f) fun a b h=> .pure (.ptr h)
 |_=>exact .doom _ (.stuck _)
theorem R_indexAt {κ:Nat→Nat→Prop} (t:TypeId) {v w x y:Value} (h:VR L κ v w) (hx:VR L τ.all x y):SemR P G L C τ .own (VR L κ) (Instr.indexAt t v x) (Instr.indexAt t w y):=by
 unfold Instr.indexAt
 refine SemR.bind' (R_asIntOf hx) ?_
 rintro ⟨k,i⟩ _ ⟨rfl,_⟩
 dsimp only
 refine SemR.bind' (R_underlying t) ?_
 rintro d _ ⟨rfl,hd⟩
 have fin: ∀{base base':Option Addr} (len:Nat) (elem:TypeId),(∀a,base=some a→∃b,base'=some b∧AR κ a b)→(base=none→base'=none)→
   SemR P G L C τ .own (VR L κ)
    (do
     let __do_lift ← underlying t
     match base with
      |some a=>
       if 0≤i∧i< (len:Int) then do pure (.pointer (some (a.add (i.toNat*(← sizeOf elem)))))
       else if (decide (len≤1) && (match __do_lift with| .array .. =>true|_=>false))=true then unsupported (.noEntry "op/indexAddr.an index out of range at an array of length 0 or 1 (ledger 616)") else boundsPanic k i len .index
      |none=>boundsPanic k i 0 .index)
    (do
     let __do_lift ← underlying t
     match base' with
      |some a=>
       if 0≤i∧i< (len:Int) then do pure (.pointer (some (a.add (i.toNat*(← sizeOf elem)))))
       else if (decide (len≤1) && (match __do_lift with| .array .. =>true|_=>false))=true then unsupported (.noEntry "op/indexAddr.an index out of range at an array of length 0 or 1 (ledger 616)") else boundsPanic k i len .index
      |none=>boundsPanic k i 0 .index):=by
  intro base base' len elem h1 h2
  refine SemR.bind' (R_underlying t) ?_
  rintro d _ ⟨rfl,hd⟩
  cases base with
  |none=>exact .doom _ (.boundsPanic _ _ _ _)
  |some a=>
   obtain ⟨b,rfl,hab⟩:=h1 a rfl
   dsimp only
   split
   ·refine SemR.bind' (R_sizeOf elem) ?_
    rintro n _ rfl
    exact .pure (.ptr (hab.add _))
   ·exact .doom _ (doomed_ite (.unsupported _) (.boundsPanic _ _ _ _))
 cases d with
 |array len elem=>
  dsimp only
  refine SemR.bind' (R_sureAddrK h) fun a b hab=>?_
  exact fin (base:=some a) (base':=some b) len elem (fun _ e=>by cases e;exact ⟨b,rfl,hab⟩) (fun e=>by cases e)
 |slice elem=>
  cases h with
  |@slice a b n c hab=>exact fin (base:=some a) (base':=some b) n elem (fun _ e=>by cases e;exact ⟨_,rfl,hab⟩) (fun e=>by cases e)
  |nilslice n c=>exact fin (base:=none) (base':=none) n elem (fun _ e=>by cases e) (fun _=>rfl)
  |_=>exact .doom _ (Doomed.bind' (.stuck _))
 |_=>exact .doom _ (Doomed.bind' (.stuck _))
theorem R_extract {v w:Value} (h:VR L τ.all v w) (i:Nat):SemR P G L C τ .own (VR L τ.all) (Instr.extract v i) (Instr.extract w i):=by
 cases h with
 |tuple xs hx=>
  unfold Instr.extract
  dsimp only
  rcases XR.get? (R:=VR L τ.all) ⟨xs,rfl,rfl,hx⟩ i with ⟨h1,h2⟩|⟨x,y,h1,h2,h3⟩
  ·rw [h1];exact .doom _ (.stuck _)
  ·rw [h1,h2];exact .pure h3
 |_=>exact .doom _ (.stuck _)
theorem R_field (t:TypeId) {v w:Value} (h:VR L τ.all v w) (i:Nat):SemR P G L C τ .own (VR L τ.all) (Instr.field t v i) (Instr.field t w i):=by
 unfold Instr.field
 refine SemR.bind' (R_underlying t) ?_
 rintro d _ ⟨rfl,_⟩
 cases d with
 |struct fs=>
  dsimp only
  cases hf:fs[i]? with
  |none=>exact .doom _ (.stuck _)
  |some f=>exact SemR.bind' (R_asAgg h) fun xs ys hx=>R_part f.type hx f.offset
 |_=>exact .doom _ (.stuck _)
theorem R_index (t:TypeId) {v w x y:Value} (h:VR L τ.all v w) (hx:VR L τ.all x y):SemR P G L C τ .own (VR L τ.all) (Instr.index t v x) (Instr.index t w y):=by
 unfold Instr.index
 refine SemR.bind' (R_asIntOf hx) ?_
 rintro ⟨k,i⟩ _ ⟨rfl,_⟩
 dsimp only
 refine SemR.bind' (R_underlying t) ?_
 rintro d _ ⟨rfl,hd⟩
 cases d with
 |array len elem=>
  cases h with
  |agg xs hx=>
   dsimp only
   split
   ·refine SemR.bind' (R_sizeOf elem) ?_
    rintro n _ rfl
    exact R_part elem ⟨xs,rfl,rfl,hx⟩ _
   ·exact .doom _ (.boundsPanic _ _ _ _)
  |_=>exact .doom _ (.stuck _)
 |string=>
  cases h with
  |string s=>
   dsimp only
   split
   ·exact .pure (.int _ _)
   ·exact .doom _ (.boundsPanic _ _ _ _)
  |_=>exact .doom _ (.stuck _)
 |_=>cases h<;> exact .doom _ (.stuck _)
theorem R_makeInterface (t:TypeId) {v w:Value} (h:VR L τ.all v w):SemR P G L C τ .own (VR L τ.all) (Instr.makeInterface t v) (Instr.makeInterface t w):=by
 unfold Instr.makeInterface
 refine SemR.bind' (R_underlying t) ?_
 rintro d _ ⟨rfl,_⟩
 cases d<;> first|exact .pure (.iface t h)|exact .doom _ (.stuck _)
theorem R_makeFunc {f:FuncId} (hf:L.clo f) {xs ys us vs:Array Value} (h:XR (VR L τ.all) xs ys) (k:XR (VR L τ.all) us vs):SemR P G L C τ .own (VR L τ.all) (Instr.makeFunc (.func f) xs us) (Instr.makeFunc (.func f) ys vs):=by
 obtain ⟨zs,rfl,rfl,hz⟩:=h
 obtain ⟨zs',rfl,rfl,hz'⟩:=k
 exact .pure (.func zs zs' hf hz hz')
theorem R_makeMap (t:TypeId):SemR P G L C τ .own (VR L τ.own) (Instr.makeMap t none) (Instr.makeMap t none):=by
 unfold Instr.makeMap
 exact SemR.bind' (R_new (.map 0 .nil)) fun r s hr=> .pure (.map hr)
theorem XR.range {f g:Nat→Value} (n:Nat) (h: ∀i,i< n→VR L τ.all (f i) (g i)):XR (VR L τ.all) ((Array.range n).map f) ((Array.range n).map g):=by
 refine XR.of_get (by simp) fun i x y hx hy=>?_
 simp only [Array.getElem?_map,Array.getElem?_range] at hx hy
 split at hx<;> simp_all
 subst hx;subst hy
 exact h i (by assumption)
theorem XR.getBang {xs ys:Array Value} (h:XR (VR L τ.all) xs ys) (i:Nat):VR L τ.all (xs[i]!) (ys[i]!):=by
 rcases h.get? i with ⟨h1,h2⟩|⟨x,y,h1,h2,h3⟩
 ·simp only [getElem!_def,h1,h2]
  exact .bool false
 ·simpa [getElem!_def,h1,h2] using h3
theorem R_makeSlice (E:Env P L τ) (t:TypeId) {v w x y:Value} (h:VR L τ.all v w) (hx:VR L τ.all x y):SemR P G L C τ .own (VR L τ.own) (Instr.makeSlice t v x) (Instr.makeSlice t w y):=by
 unfold Instr.makeSlice
 refine SemR.bind' (R_underlying t) ?_
 rintro d _ ⟨rfl,_⟩
 cases d with
 |slice elem=>
  refine SemR.bind' (R_asInt h) ?_
  rintro len _ rfl
  refine SemR.bind' (R_asInt hx) ?_
  rintro cap _ rfl
  refine SemR.bind' (R_typeInfo elem) ?_
  rintro i _ ⟨rfl,hi⟩
  dsimp only
  split
  ·refine .doom _ ?_
   split
   ·exact Doomed.bind' (.runtimePanic _)
   ·split
    ·exact Doomed.bind' (.runtimePanic _)
    ·exact Doomed.then (.choose _) fun _=>Doomed.bind' (.runtimePanic _)
  ·refine SemR.bind' (R_askRoom _) fun _ _ _=>?_
   refine SemR.bind' (R_sizeOf elem) ?_
   rintro n _ rfl
   split
   ·rename_i h0
    refine SemR.bind' (.pure (R:=fun a b=>a=#[]∧b=#[]) ⟨rfl,rfl⟩) ?_
    rintro _ _ ⟨rfl,rfl⟩
    rw [h0]
    exact SemR.bind' (R_newRow elem (XR.range 0 fun i hi=>absurd hi (Nat.not_lt_zero i))) fun a b hab=> .pure (.slice _ _ hab)
   ·refine SemR.bind' (R_zeroValue E elem) fun u v hv=>?_
    refine SemR.bind' (R:=XR (VR L τ.all)) (.pure hv.cells) ?_
    ·intro us vs huv
     refine SemR.bind' (R_newRow elem ?_) fun a b hab=> .pure (.slice _ _ hab)
     rw [huv.size]
     exact XR.range _ fun i _=>huv.getBang _
 |_=>exact .doom _ (.stuck _)
end
end Go.Proofs.YtldmcdeibiclkaaGreatDoor.U
end
