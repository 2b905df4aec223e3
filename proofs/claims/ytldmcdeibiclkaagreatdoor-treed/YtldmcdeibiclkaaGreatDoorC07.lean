/-
  Toward: treed_holds, each node's digest is that of its children's, for every argument of Treed. EQUALITY AS AN OPERATOR, CONVERSIONS, BUILT-IN FUNCTIONS, SIDE BY SIDE.
  append, SIDE BY SIDE.
-/
import Derived.Test.YtldmcdeibiclkaaGreatDoorC06
set_option linter.unusedVariables false
set_option linter.unusedSimpArgs false
set_option maxRecDepth 4000
section
namespace Go.Proofs.YtldmcdeibiclkaaGreatDoor.U
section
variable {P:Program} {G:Array Func} {L:Lim} {C:FuncId→Code→Prop} {τ:Tri}
theorem doomed_underlying {α:Type} {t:TypeId} {f:TypeDesc→Sem α} (h: ∀d,P.underlying t=some d→Doomed (gp P G) (f d)):Doomed (gp P G) (underlying t >>=f):=fun w es=>by
 cases hi:P.underlying t with
 |none=>
  refine ⟨.stuck "no such type",w,es,?_,trivial,.refl w⟩
  show ((match P.underlying t with|some i=>Sem.pure i|none=>(stuck "no such type" :Sem TypeDesc)).bind f).runT (gp P G) w es=_
  rw [hi]
  rfl
 |some i=>
  obtain ⟨x,y,z,e,ht,hk⟩:=h i hi w es
  refine ⟨x,y,z,?_,ht,hk⟩
  rw [← e]
  show ((match P.underlying t with|some i=>Sem.pure i|none=>(stuck "no such type" :Sem TypeDesc)).bind f).runT (gp P G) w es=_
  rw [hi]
  rfl
theorem doomed_equal {m:Nat} {t:TypeId} (hok:eqOk P m t=true) {v x:Value}
  (hv:(∀b,v≠.bool b)∧(∀k n,v≠.int k n)∧(∀s,v≠.string s)∧(∀p,v≠.pointer p)∧((∀c,v≠.agg c)∨∀c,x≠.agg c)):Doomed (gp P G) (Op.equal t v x):=by
 show Doomed (gp P G) (Op.equalIn 10000 t v x)
 unfold Op.equalIn
 refine doomed_underlying fun d hd=>?_
 cases m with
 |zero=>cases hok
 |succ m=>
  simp only [eqOk,hd] at hok
  obtain ⟨h1,h2,h3,h4,h5⟩:=hv
  cases v with
  |bool b=>exact absurd rfl (h1 b)
  |int k n=>exact absurd rfl (h2 k n)
  |string s=>exact absurd rfl (h3 s)
  |pointer p=>exact absurd rfl (h4 p)
  |agg c=>
   cases x with
   |agg c'=>rcases h5 with h|h<;> exact absurd rfl (h _)
   |pointer p=>cases d<;> first|exact .stuck _|exact .unsupported _|cases hok
   |_=>cases d<;> first|exact .stuck _|exact .unsupported _|cases hok
  |_=>
   cases x with
   |pointer p=>cases d<;> first|exact .stuck _|exact .unsupported _|cases hok
   |_=>cases d<;> first|exact .stuck _|exact .unsupported _|cases hok
theorem doomed_equal_func {m:Nat} {t:TypeId} (hok:eqOk P m t=true) (v:Value) (f:Fn) (a b:Array Value):Doomed (gp P G) (Op.equal t v (.func f a b)):=by
 show Doomed (gp P G) (Op.equalIn 10000 t v (.func f a b))
 unfold Op.equalIn
 refine doomed_underlying fun d hd=>?_
 cases m with
 |zero=>cases hok
 |succ m=>
  simp only [eqOk,hd] at hok
  cases v with
  |pointer p=>cases p<;> cases d<;> first|exact .stuck _|exact .unsupported _|cases hok
  |_=>cases d<;> first|exact .stuck _|exact .unsupported _|cases hok
theorem mild_guard (op:BinOp) (t:TypeId) (ox oy:Operand):Mild (gp P G) (eqGuard op t ox oy .nilIface .nilIface):=by
 have hin:Mild (gp P G) (Op.eqGuardIn Op.maxDepth t .nilIface .nilIface):=by
  show Mild (gp P G) (Op.eqGuardIn 10000 t .nilIface .nilIface)
  unfold Op.eqGuardIn
  refine Mild.bind (.underlying t) fun d=>?_
  cases d<;> exact .pure _
 unfold eqGuard
 dsimp only
 refine Mild.ite (.pure _) (Mild.ite (.pure _) (Mild.bind hin fun b=>Mild.ite (Doomed.unsupported _).mild (.pure _)))
theorem R_eql (E:Env P L τ) {m:Nat} {t:TypeId} (hok:eqOk P m t=true) (hg:P.eqGuardType P.depth t=false) (ox oy:Operand) {v w x y:Value} (hv:VR L τ.all v w) (hx:VR L τ.all x y):
  SemR P G L C τ .own (VR L τ.all) (do eqGuard .eql t ox oy v x;binOp .eql t v x) (do eqGuard .eql t ox oy w y;binOp .eql t w y):=by
 have eq:SemR P G L C τ .own (VR L τ.all) (do pure (.bool (← Op.equal t v x)):Sem Value) (do pure (.bool (← Op.equal t w y)):Sem Value):=by
  refine SemR.bind' (R_equal E hok hv hx) ?_
  rintro b _ rfl
  exact .pure (.bool _)
 have dm:((∀b,v≠.bool b)∧(∀k n,v≠.int k n)∧(∀s,v≠.string s)∧(∀p,v≠.pointer p)∧((∀c,v≠.agg c)∨∀c,x≠.agg c))→Doomed (gp P G) (do pure (.bool (← Op.equal t v x)):Sem Value):=fun h=>Doomed.bind' (doomed_equal hok h)
 have dj: ∀(f:Fn) (a b:Array Value),x= .func f a b→Doomed (gp P G) (do pure (.bool (← Op.equal t v x)):Sem Value):=fun f a b e=>by
  subst e
  exact Doomed.bind' (doomed_equal_func hok _ _ _ _)
 cases hv with
 |bool b=>exact eq
 |nilptr=>exact eq
 |ptr h=>exact eq
 |int k a=>
  cases hx with
  |int k' b=>
   show SemR P G L C τ .own (VR L τ.all) (if k≠k' then stuck "BinOp: operands of different kinds" else Op.intCmp .eql a b) (if k≠k' then stuck "BinOp: operands of different kinds" else Op.intCmp .eql a b)
   split
   ·exact .doom _ (.stuck _)
   ·exact .pure (.bool _)
  |junk=>exact .doom _ (dj _ _ _ rfl)
  |_=>exact eq
 |string s=>
  cases hx with
  |string s'=>exact .pure (.bool _)
  |junk=>exact .doom _ (dj _ _ _ rfl)
  |_=>exact eq
 |agg xs h=>
  cases hx with
  |agg ys h'=>
   refine .program (.program ?_)
   show SemR P G L C τ .own (VR L τ.all) ((if (!(gp P G).eqGuardType P.depth t)=true then (pure ():Sem Unit) else _).bind _) ((if (!P.eqGuardType P.depth t)=true then (pure ():Sem Unit) else _).bind _)
   rw [gp_eqGuardType,hg]
   exact eq
  |_=>exact .doom _ (dm ⟨by simp,by simp,by simp,by simp,.inr (by simp)⟩)
 |nilIface=>
  cases hx with
  |nilIface=>
   refine .doom _ (Doomed.then ?_ fun _=>dm ⟨by simp,by simp,by simp,by simp,.inl (by simp)⟩)
   exact mild_guard _ _ _ _
  |_=>exact .doom _ (dm ⟨by simp,by simp,by simp,by simp,.inl (by simp)⟩)
 |_=>exact .doom _ (dm ⟨by simp,by simp,by simp,by simp,.inl (by simp)⟩)
theorem R_neq (E:Env P L τ) {m:Nat} {t:TypeId} (hok:eqOk P m t=true) (hg:P.eqGuardType P.depth t=false) (ox oy:Operand) {v w x y:Value} (hv:VR L τ.all v w) (hx:VR L τ.all x y):
  SemR P G L C τ .own (VR L τ.all) (do eqGuard .neq t ox oy v x;binOp .neq t v x) (do eqGuard .neq t ox oy w y;binOp .neq t w y):=by
 have eq:SemR P G L C τ .own (VR L τ.all) (do pure (.bool (!(← Op.equal t v x))):Sem Value) (do pure (.bool (!(← Op.equal t w y))):Sem Value):=by
  refine SemR.bind' (R_equal E hok hv hx) ?_
  rintro b _ rfl
  exact .pure (.bool _)
 have dm:((∀b,v≠.bool b)∧(∀k n,v≠.int k n)∧(∀s,v≠.string s)∧(∀p,v≠.pointer p)∧((∀c,v≠.agg c)∨∀c,x≠.agg c))→Doomed (gp P G) (do pure (.bool (!(← Op.equal t v x))):Sem Value):=fun h=>Doomed.bind' (doomed_equal hok h)
 have dj: ∀(f:Fn) (a b:Array Value),x= .func f a b→Doomed (gp P G) (do pure (.bool (!(← Op.equal t v x))):Sem Value):=fun f a b e=>by
  subst e
  exact Doomed.bind' (doomed_equal_func hok _ _ _ _)
 cases hv with
 |bool b=>exact eq
 |nilptr=>exact eq
 |ptr h=>exact eq
 |int k a=>
  cases hx with
  |int k' b=>
   show SemR P G L C τ .own (VR L τ.all) (if k≠k' then stuck "BinOp: operands of different kinds" else Op.intCmp .neq a b) (if k≠k' then stuck "BinOp: operands of different kinds" else Op.intCmp .neq a b)
   split
   ·exact .doom _ (.stuck _)
   ·exact .pure (.bool _)
  |junk=>exact .doom _ (dj _ _ _ rfl)
  |_=>exact eq
 |string s=>
  cases hx with
  |string s'=>exact .pure (.bool _)
  |junk=>exact .doom _ (dj _ _ _ rfl)
  |_=>exact eq
 |agg xs h=>
  cases hx with
  |agg ys h'=>
   refine .program (.program ?_)
   show SemR P G L C τ .own (VR L τ.all) ((if (!(gp P G).eqGuardType P.depth t)=true then (pure ():Sem Unit) else _).bind _) ((if (!P.eqGuardType P.depth t)=true then (pure ():Sem Unit) else _).bind _)
   rw [gp_eqGuardType,hg]
   exact eq
  |_=>exact .doom _ (dm ⟨by simp,by simp,by simp,by simp,.inr (by simp)⟩)
 |nilIface=>
  cases hx with
  |nilIface=>
   refine .doom _ (Doomed.then ?_ fun _=>dm ⟨by simp,by simp,by simp,by simp,.inl (by simp)⟩)
   exact mild_guard _ _ _ _
  |_=>exact .doom _ (dm ⟨by simp,by simp,by simp,by simp,.inl (by simp)⟩)
 |_=>exact .doom _ (dm ⟨by simp,by simp,by simp,by simp,.inl (by simp)⟩)
theorem R_unary (op:UnOp) {v w:Value} (h:VR L τ.all v w):SemR P G L C τ .own (VR L τ.all) (Op.unary op v) (Op.unary op w):=by
 cases op<;> cases h<;> first|exact .pure (.int _ _)|exact .pure (.bool _)|exact .doom _ (.unsupported _)|exact .doom _ (.stuck _)
theorem R_convertInt {src dst:TypeId} {k k':IntKind} (hs:P.underlying src=some (.int k)) (hd:P.underlying dst=some (.int k')) {v w:Value} (h:VR L τ.all v w):SemR P G L C τ .own (VR L τ.all) (convert src dst v) (convert src dst w):=by
 unfold convert
 refine SemR.bind' (R_underlying src) ?_
 rintro d _ ⟨rfl,h1⟩
 rw [hs] at h1;cases h1
 refine SemR.bind' (R_underlying dst) ?_
 rintro d _ ⟨rfl,h1⟩
 rw [hd] at h1;cases h1
 cases h<;> first|exact .pure (.int _ _)|exact .doom _ (.unsupported _)
theorem R_bytesToString {v w:Value} (h:VR L τ.all v w):SemR P G L C τ .own (VR L τ.all) (Conv.bytesToString v) (Conv.bytesToString w):=by
 unfold Conv.bytesToString
 cases h with
 |nilslice n c=>exact .pure (.string _)
 |slice n c hab=>
  try dsimp only
  refine SemR.bind' (R_loadCells hab n) fun xs ys hx=>?_
  obtain ⟨l,h1,h2,h3⟩:=hx.list
  rw [← Array.forIn_toList,← Array.forIn_toList,h1,h2]
  refine SemR.bind' (R_forIn (R:=VR L τ.all) (S:=Same) ?_ l h3 _ _ rfl) ?_
  ·rintro a b hab s _ rfl
   cases hab with
   |int k n=>cases k<;> first|exact .pure (.inr ⟨_,_,rfl,rfl,rfl⟩)|exact .doom _ (.stuck _)
   |_=>exact .doom _ (.stuck _)
  ·rintro s _ rfl
   exact .pure (.string _)
 |_=>exact .doom _ (.stuck _)
theorem R_convertBytes {src dst e:TypeId} (hs:P.underlying src=some (.slice e)) (he:P.underlying e=some (.int .u8)) (hd:P.underlying dst=some .string) {v w:Value} (h:VR L τ.all v w):SemR P G L C τ .own (VR L τ.all) (convert src dst v) (convert src dst w):=by
 unfold convert
 refine SemR.bind' (R_underlying src) ?_
 rintro d _ ⟨rfl,h1⟩
 rw [hs] at h1;cases h1
 refine SemR.bind' (R_underlying dst) ?_
 rintro d _ ⟨rfl,h1⟩
 rw [hd] at h1;cases h1
 have h':=h
 have fin:SemR P G L C τ .own (VR L τ.all) (do match ← underlying e with| .int .u8=>Conv.bytesToString v| .int .i32=>Conv.runesToString v|_=>stuck "Convert: a slice of what to string?") (do match ← underlying e with| .int .u8=>Conv.bytesToString w| .int .i32=>Conv.runesToString w|_=>stuck "Convert: a slice of what to string?"):=by
  refine SemR.bind' (R_underlying e) ?_
  rintro d _ ⟨rfl,h1⟩
  rw [he] at h1;cases h1
  exact R_bytesToString h'
 cases h with
 |int k n=>exact .pure (.string _)
 |string s=>exact .pure (.string _)
 |junk s h1 h2 h3=>exact .doom _ (doomed_underlying fun d hd=>by rw [he] at hd;cases hd;exact .stuck _)
 |_=>exact fin
theorem R_lenOf {v w:Value} (h:VR L τ.all v w):SemR P G L C τ .own Same (Builtin.lenOf v) (Builtin.lenOf w):=by
 cases h<;> first|exact .pure rfl|exact .doom _ (.stuck _)
theorem XR.bytes (b:Array UInt8):XR (VR L τ.all) (b.map fun x=>Value.int .u8 x.toNat) (b.map fun x=>Value.int .u8 x.toNat):=XR.self _ fun x hx=>by
 obtain ⟨y,_,rfl⟩:=Array.mem_map.1 hx
 exact .int _ _
theorem R_firstCells (size n:Nat) {v w:Value} (h:VR L τ.all v w):SemR P G L C τ .own (XR (VR L τ.all)) (Builtin.firstCells size n v) (Builtin.firstCells size n w):=by
 cases h with
 |slice _ _ hab=>exact R_loadCells hab _
 |nilslice=>exact .pure .nil
 |string s=>exact .pure (XR.bytes _)
 |_=>exact .doom _ (.stuck _)
theorem XR.zeroCells {xs ys:Array Value} (h:XR (VR L τ.all) xs ys) (n:Nat):XR (VR L τ.all) (Builtin.zeroCells xs n) (Builtin.zeroCells ys n):=by
 unfold Builtin.zeroCells
 rw [h.size]
 exact XR.range _ fun i _=>h.getBang _
theorem R_copy {dt xt:TypeId} (t:TypeId) {v w x y:Value} (hv:VR L τ.own v w) (hx:VR L τ.all x y):SemR P G L C τ .own (VR L τ.all) (Builtin.copy_ #[dt,xt] t #[v,x]) (Builtin.copy_ #[dt,xt] t #[w,y]):=by
 unfold Builtin.copy_
 show SemR P G L C τ .own (VR L τ.all) (underlying dt >>=_) (underlying dt >>=_)
 refine SemR.bind' (R_underlying dt) ?_
 rintro d _ ⟨rfl,_⟩
 cases d with
 |slice elem=>
  cases hv with
  |nilslice n c=>
   refine SemR.bind' (R_lenOf hx) ?_
   rintro k _ rfl
   refine SemR.bind' (R_sizeOf elem) ?_
   rintro z _ rfl
   refine SemR.bind' (R_firstCells z _ hx) fun xs ys hxs=>?_
   exact .pure (.int _ _)
  |slice n c hab=>
   refine SemR.bind' (R_lenOf hx) ?_
   rintro k _ rfl
   refine SemR.bind' (R_sizeOf elem) ?_
   rintro z _ rfl
   refine SemR.bind' (R_firstCells z _ hx) fun xs ys hxs=>?_
   exact SemR.bind' (R_storeRow hab hxs) fun _ _ _=> .pure (.int _ _)
  |_=>exact .doom _ (.stuck _)
 |_=>exact .doom _ (.stuck _)
theorem R_len {at_:TypeId} (t:TypeId) (ha: ∀d,P.underlying at_=some d→d= .string∨∃e,d= .slice e) {v w:Value} (hv:VR L τ.all v w):SemR P G L C τ .own (VR L τ.all) (Builtin.len_ #[at_] t #[v]) (Builtin.len_ #[at_] t #[w]):=by
 unfold Builtin.len_
 show SemR P G L C τ .own (VR L τ.all) (underlying at_ >>=_) (underlying at_ >>=_)
 refine SemR.bind' (R_underlying at_) ?_
 rintro d _ ⟨rfl,hd⟩
 rcases ha d hd with rfl|⟨e,rfl⟩
 ·cases hv<;> first|exact .pure (.int _ _)|exact .doom _ (.stuck _)
 ·cases hv<;> first|exact .pure (.int _ _)|exact .doom _ (.stuck _)
theorem R_min2 {v w x y:Value} (hv:VR L τ.all v w) (hx:VR L τ.all x y):SemR P G L C τ .own (VR L τ.all) (Builtin.min2 v x) (Builtin.min2 w y):=by
 cases hv<;> cases hx<;> first|exact .pure (.int _ _)|exact .doom _ (.unsupported _)|exact .doom _ (.stuck _)|(refine .pure ?_;split<;> exact .string _)
theorem R_max2 {v w x y:Value} (hv:VR L τ.all v w) (hx:VR L τ.all x y):SemR P G L C τ .own (VR L τ.all) (Builtin.max2 v x) (Builtin.max2 w y):=by
 cases hv<;> cases hx<;> first|exact .pure (.int _ _)|exact .doom _ (.unsupported _)|exact .doom _ (.stuck _)|(refine .pure ?_;split<;> exact .string _)
theorem R_min (ts:Array TypeId) (t:TypeId) {v w x y:Value} (hv:VR L τ.all v w) (hx:VR L τ.all x y):SemR P G L C τ .own (VR L τ.all) (Builtin.min_ ts t #[v,x]) (Builtin.min_ ts t #[w,y]):=by
 show SemR P G L C τ .own (VR L τ.all) ([x].foldlM Builtin.min2 v) ([y].foldlM Builtin.min2 w)
 simp only [List.foldlM_cons,List.foldlM_nil]
 exact SemR.bind' (R_min2 hv hx) fun a b h=> .pure h
theorem R_max (ts:Array TypeId) (t:TypeId) {v w x y:Value} (hv:VR L τ.all v w) (hx:VR L τ.all x y):SemR P G L C τ .own (VR L τ.all) (Builtin.max_ ts t #[v,x]) (Builtin.max_ ts t #[w,y]):=by
 show SemR P G L C τ .own (VR L τ.all) ([x].foldlM Builtin.max2 v) ([y].foldlM Builtin.max2 w)
 simp only [List.foldlM_cons,List.foldlM_nil]
 exact SemR.bind' (R_max2 hv hx) fun a b h=> .pure h
theorem R_unsafeString (hb:TriOk τ) (ts:Array TypeId) (t:TypeId) {v w x y:Value} (hv:VR L τ.own v w) (hx:VR L τ.all x y):SemR P G L C τ .own (VR L τ.all) (Builtin.unsafeString_ ts t #[v,x]) (Builtin.unsafeString_ ts t #[w,y]):=by
 unfold Builtin.unsafeString_
 cases hv with
 |nilptr=>
  refine SemR.bind' (R_asInt hx) ?_
  rintro n _ rfl
  cases hts:ts[0]? with
  |none=>exact .doom _ (.stuck _)
  |some pt=>
   try dsimp only
   split
   ·exact .doom _ (Doomed.bind' (.runtimePanic _))
   ·split
    ·exact .doom _ (Doomed.bind' (.unsupported _))
    ·split
     ·exact .pure (.string _)
     ·exact .doom _ (.runtimePanic _)
 |ptr hab=>
  refine SemR.bind' (R_asInt hx) ?_
  rintro n _ rfl
  cases hts:ts[0]? with
  |none=>exact .doom _ (.stuck _)
  |some pt=>
   try dsimp only
   split
   ·exact .doom _ (Doomed.bind' (.runtimePanic _))
   ·split
    ·exact .doom _ (Doomed.bind' (.unsupported _))
    ·split
     ·exact .pure (.string _)
     ·refine SemR.bind' (R_elemOf pt) ?_
      rintro e _ rfl
      refine SemR.bind' (R_variablesAt (hab.mono hb.own) e _) ?_
      rintro b _ rfl
      try dsimp only
      split
      ·refine SemR.bind' (R_loadBytes _ (hab.mono hb.own) _) ?_
       rintro s _ rfl
       exact SemR.bind' (R_freeze hab _) fun _ _ _=> .pure (.string _)
      ·exact .doom _ (.unsupported _)
 |_=>exact .doom _ (.stuck _)
end
end Go.Proofs.YtldmcdeibiclkaaGreatDoor.U
end
section
namespace Go.Proofs.YtldmcdeibiclkaaGreatDoor.U
section
variable {P:Program} {G:Array Func} {L:Lim} {C:FuncId→Code→Prop} {τ:Tri}
theorem mild_holds (a:Addr) (n:Nat):Mild (gp P G) (Builtin.holdsCells a n):=by
 unfold Builtin.holdsCells
 refine Mild.bind (.shape _) fun x=>?_
 split<;> exact .pure _
theorem mild_share (size sl n:Nat) (base:Option Addr) (x:Value):Mild (gp P G) (Builtin.mayShare size sl n base x):=by
 have rest: ∀b:Bool,Mild (gp P G) (if (!b)=true then pure true else (match x with
   | .slice (some b) _ _=>do pure (!(← Builtin.holdsCells b (n*size))||base.any (·.block==b.block))
   |_=>pure false)):=fun b=>by
  refine Mild.ite (.pure _) ?_
  split
  ·exact Mild.bind (mild_holds _ _) fun _=> .pure _
  ·exact .pure _
 unfold Builtin.mayShare
 cases base with
 |none=>exact Mild.bind (p:=pure true) (.pure _) fun b=>rest b
 |some a=>exact Mild.bind (mild_holds _ _) fun _=>Mild.bind (.frozen _) fun _=>Mild.bind (p:=pure _) (.pure _) fun b=>rest b
theorem R_append (E:Env P L τ) {st xt:TypeId} (t:TypeId) (hz: ∀d,P.underlying xt=some d→(d matches .int _)=false) {v w x y:Value} (hv:VR L τ.own v w) (hx:VR L τ.all x y):
  SemR P G L C τ .own (VR L τ.own) (Builtin.append_ #[st,xt] t #[v,x]) (Builtin.append_ #[st,xt] t #[w,y]):=by
 have hv':=hv.mono E.bi.own
 unfold Builtin.append_
 show SemR P G L C τ .own (VR L τ.own) (underlying st >>=_) (underlying st >>=_)
 refine SemR.bind' (R_underlying st) ?_
 rintro d _ ⟨rfl,_⟩
 cases d with
 |slice elem=>
  cases hv with
  |nilslice sl sc=>
   refine SemR.bind' (R_sizeOf elem) ?_
   rintro size _ rfl
   refine SemR.bind' (p:=underlying xt) (q:=underlying xt) (R_underlying xt) ?_
   rintro d _ ⟨rfl,hd⟩
   refine SemR.bind' (.pure (R:=fun a b=>a=false∧b=false) ⟨hz d hd,hz d hd⟩) ?_
   rintro _ _ ⟨rfl,rfl⟩
   refine SemR.bind' (p:=Builtin.lenOf x) (q:=Builtin.lenOf y) (R_lenOf hx) ?_
   rintro n _ rfl
   try dsimp only
   split
   ·refine SemR.bind' (p:=Builtin.firstCells size n x) (q:=Builtin.firstCells size n y) (R_firstCells size n hx) fun xs ys hxs=>?_
    exact .pure (.nilslice _ _)
   ·refine SemR.bind' (R_typeInfo elem) ?_
    rintro i _ ⟨rfl,_⟩
    try dsimp only
    split
    ·exact .doom _ (Doomed.bind' (.runtimePanic _))
    ·refine SemR.bind' (R_typeInfo elem) ?_
     rintro i _ ⟨rfl,_⟩
     try dsimp only
     split
     ·refine .doom _ ?_
      first
      |(refine Doomed.bind' ?_
        refine Doomed.then (p:=Builtin.mayShare size sl n _ _) (mild_share _ _ _ _ _) fun b=>?_
        cases b<;> first|exact Doomed.unsupported _|exact Doomed.then (.mark _) fun _=>Doomed.unsupported _)
      |(refine Doomed.then (p:=Builtin.mayShare size sl n _ _) (mild_share _ _ _ _ _) fun b=>?_
        cases b<;> first|exact Doomed.bind' (.unsupported _)|exact Doomed.then (.mark _) fun _=>Doomed.bind' (.unsupported _))
     ·refine SemR.bind' (R_choose _) ?_
      rintro cap _ rfl
      refine SemR.bind' (R_typeInfo elem) ?_
      rintro i _ ⟨rfl,_⟩
      refine SemR.bind' (R_askRoom _) fun _ _ _=>?_
      refine SemR.bind' (R_firstCells size _ hv') fun us vs hus=>?_
      refine SemR.bind' (p:=Builtin.firstCells size n x) (q:=Builtin.firstCells size n y) (R_firstCells size n hx) fun xs ys hxs=>?_
      refine SemR.bind' (R_zeroValue E elem) fun z z' hzz=>?_
      exact SemR.bind' (R_newRow elem ((hus.append hxs).append (hzz.cells.zeroCells _))) fun a b hab=> .pure (.slice _ _ hab)
  |@slice a b sl sc hab=>
   refine SemR.bind' (R_sizeOf elem) ?_
   rintro size _ rfl
   refine SemR.bind' (p:=underlying xt) (q:=underlying xt) (R_underlying xt) ?_
   rintro d _ ⟨rfl,hd⟩
   refine SemR.bind' (.pure (R:=fun a b=>a=false∧b=false) ⟨hz d hd,hz d hd⟩) ?_
   rintro _ _ ⟨rfl,rfl⟩
   refine SemR.bind' (p:=Builtin.lenOf x) (q:=Builtin.lenOf y) (R_lenOf hx) ?_
   rintro n _ rfl
   try dsimp only
   split
   ·refine SemR.bind' (p:=Builtin.firstCells size n x) (q:=Builtin.firstCells size n y) (R_firstCells size n hx) fun xs ys hxs=>?_
    exact SemR.bind' (R_storeRow (hab.add _) hxs) fun _ _ _=> .pure (.slice _ _ hab)
   ·refine SemR.bind' (R_typeInfo elem) ?_
    rintro i _ ⟨rfl,_⟩
    try dsimp only
    split
    ·exact .doom _ (Doomed.bind' (.runtimePanic _))
    ·refine SemR.bind' (R_typeInfo elem) ?_
     rintro i _ ⟨rfl,_⟩
     try dsimp only
     split
     ·refine .doom _ ?_
      first
      |(refine Doomed.bind' ?_
        refine Doomed.then (p:=Builtin.mayShare size sl n _ _) (mild_share _ _ _ _ _) fun b=>?_
        cases b<;> first|exact Doomed.unsupported _|exact Doomed.then (.mark _) fun _=>Doomed.unsupported _)
      |(refine Doomed.then (p:=Builtin.mayShare size sl n _ _) (mild_share _ _ _ _ _) fun b=>?_
        cases b<;> first|exact Doomed.bind' (.unsupported _)|exact Doomed.then (.mark _) fun _=>Doomed.bind' (.unsupported _))
     ·refine SemR.bind' (R_choose _) ?_
      rintro cap _ rfl
      refine SemR.bind' (R_typeInfo elem) ?_
      rintro i _ ⟨rfl,_⟩
      refine SemR.bind' (R_askRoom _) fun _ _ _=>?_
      refine SemR.bind' (R_firstCells size _ hv') fun us vs hus=>?_
      refine SemR.bind' (p:=Builtin.firstCells size n x) (q:=Builtin.firstCells size n y) (R_firstCells size n hx) fun xs ys hxs=>?_
      refine SemR.bind' (R_zeroValue E elem) fun z z' hzz=>?_
      exact SemR.bind' (R_newRow elem ((hus.append hxs).append (hzz.cells.zeroCells _))) fun a b hab=> .pure (.slice _ _ hab)
  |_=>exact .doom _ (.stuck _)
 |_=>exact .doom _ (.stuck _)
end
end Go.Proofs.YtldmcdeibiclkaaGreatDoor.U
end
