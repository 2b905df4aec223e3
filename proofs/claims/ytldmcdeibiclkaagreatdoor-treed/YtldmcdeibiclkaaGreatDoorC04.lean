/-
  Toward: treed_holds, each node's digest is that of its children's, for every argument of Treed. THE MODEL's INSTRUCTIONS, SIDE BY SIDE, ON: composite values, slices, maps.
  EQUALITY AND MAPS, SIDE BY SIDE.
  MAPS, RANGES, ASSERTIONS, OPERATORS, CONVERSIONS, BUILT-IN FUNCTIONS, SIDE BY SIDE.
-/
import Derived.Test.YtldmcdeibiclkaaGreatDoorC03
set_option linter.unusedVariables false
set_option linter.unusedSimpArgs false
set_option maxRecDepth 4000
section
namespace Go.Proofs.YtldmcdeibiclkaaGreatDoor.U
section
variable {P:Program} {G:Array Func} {L:Lim} {C:FuncId→Code→Prop} {τ:Tri}
theorem XR.foldSet (off:Nat): ∀(l:List ((Value×Value)×Nat)) {cs ds:Array Value},(∀z∈l,VR L τ.all z.1.1 z.1.2)→XR (VR L τ.all) cs ds→
  XR (VR L τ.all) (l.foldl (fun c z=>c.setIfInBounds (off+z.2) z.1.1) cs) (l.foldl (fun c z=>c.setIfInBounds (off+z.2) z.1.2) ds)
 |[],_,_,_,h=>h
 |z::l,cs,ds,hz,h=>by
  simp only [List.foldl_cons]
  exact XR.foldSet off l (fun y hy=>hz y (by simp [hy])) (h.set (hz z (by simp)) _)
theorem XR.layIn {xs ys cs ds:Array Value} (off:Nat) (h:XR (VR L τ.all) xs ys) (k:XR (VR L τ.all) cs ds):
  XR (VR L τ.all) (xs.zipIdx.foldl (fun c (x:Value×Nat)=>c.setIfInBounds (off+x.2) x.1) cs) (ys.zipIdx.foldl (fun c (x:Value×Nat)=>c.setIfInBounds (off+x.2) x.1) ds):=by
 obtain ⟨zs,rfl,rfl,hz⟩:=h
 have e1:(zs.map (·.1)).zipIdx.foldl (fun c (x:Value×Nat)=>c.setIfInBounds (off+x.2) x.1) cs=zs.zipIdx.toList.foldl (fun c z=>c.setIfInBounds (off+z.2) z.1.1) cs:=by
  rw [Array.zipIdx_map,Array.foldl_map,← Array.foldl_toList];rfl
 have e2:(zs.map (·.2)).zipIdx.foldl (fun c (x:Value×Nat)=>c.setIfInBounds (off+x.2) x.1) ds=zs.zipIdx.toList.foldl (fun c z=>c.setIfInBounds (off+z.2) z.1.2) ds:=by
  rw [Array.zipIdx_map,Array.foldl_map,← Array.foldl_toList];rfl
 rw [e1,e2]
 refine XR.foldSet off _ (fun z hm=>?_) k
 have hm':(z.1,z.2)∈zs.zipIdx:=Array.mem_toList_iff.1 hm
 obtain ⟨_,_,e⟩:=Array.mem_zipIdx hm'
 exact hz _ (by rw [e];exact Array.getElem_mem _)
def PR (L:Lim) (π:Nat→Nat→Prop) (x y:Nat×Value):Prop:=y.1=x.1∧VR L π x.2 y.2
theorem XR.fill (place:Nat→Option (Nat×Nat)): ∀(l:List ((Nat×Value)×(Nat×Value))) {cs ds:Array Value},(∀z∈l,PR L τ.all z.1 z.2)→XR (VR L τ.all) cs ds→
  (Instr.fill place cs (l.map (·.1))=none)∨∃cs' ds',Instr.fill place cs (l.map (·.1))=some cs'∧Instr.fill place ds (l.map (·.2))=some ds'∧XR (VR L τ.all) cs' ds'
 |[],cs,ds,_,h=> .inr ⟨cs,ds,rfl,rfl,h⟩
 |((i,v),(j,w))::l,cs,ds,hz,h=>by
  obtain ⟨hij,hv⟩:=hz ((i,v),(j,w)) (by simp)
  simp only at hij hv
  subst hij
  simp only [List.map_cons,Instr.fill]
  cases place j with
  |none=>exact .inl rfl
  |some p=>
   obtain ⟨off,size⟩:=p
   have hc:=hv.cells
   simp only [hc.size,h.size]
   by_cases hcond:(decide (v.cells.size≠size)||decide (off+v.cells.size > cs.size))=true
   ·simp only [hcond,if_true];exact .inl trivial
   ·simp only [hcond,Bool.false_eq_true,if_false]
    exact XR.fill place l (fun y hy=>hz y (by simp [hy])) (hc.layIn off h)
theorem R_mapM {α β γ δ:Type} {R:α→β→Prop} {S:γ→δ→Prop} {f:α→Sem γ} {g:β→Sem δ} (hf: ∀a b,R a b→SemR P G L C τ .own S (f a) (g b)): ∀(l:List (α×β)),(∀z∈l,R z.1 z.2)→
  SemR P G L C τ .own (fun xs ys=>∃l':List (γ×δ),xs=l'.map (·.1)∧ys=l'.map (·.2)∧∀z∈l',S z.1 z.2) ((l.map (·.1)).mapM f) ((l.map (·.2)).mapM g)
 |[],_=>by
  simp only [List.map_nil,List.mapM_nil]
  exact .pure ⟨[],rfl,rfl,by simp⟩
 |z::l,hz=>by
  simp only [List.map_cons,List.mapM_cons]
  refine SemR.bind' (hf _ _ (hz z (by simp))) fun x y hxy=>?_
  refine SemR.bind' (R_mapM hf l fun y hy=>hz y (by simp [hy])) ?_
  rintro _ _ ⟨l',rfl,rfl,hl⟩
  exact .pure ⟨(x,y)::l',rfl,rfl,by simp;exact ⟨hxy,fun a b h=>hl _ h⟩⟩
theorem R_mapMArray {α β γ δ:Type} {R:α→β→Prop} {S:γ→δ→Prop} {f:α→Sem γ} {g:β→Sem δ} (hf: ∀a b,R a b→SemR P G L C τ .own S (f a) (g b)) {xs:Array α} {ys:Array β} (h:XR R xs ys):
  SemR P G L C τ .own (XR S) (xs.mapM f) (ys.mapM g):=by
 obtain ⟨l,h1,h2,h3⟩:=h.list
 rw [← Array.toArray_toList (xs:=xs),← Array.toArray_toList (xs:=ys),h1,h2,List.mapM_toArray,List.mapM_toArray]
 refine SemR.bind' (p:=(l.map (·.1)).mapM f) (q:=(l.map (·.2)).mapM g) (R_mapM hf l h3) ?_
 rintro _ _ ⟨l',rfl,rfl,hl⟩
 exact .pure ⟨l'.toArray,by simp,by simp,by simpa using fun a b h=>hl _ h⟩
theorem R_build (E:Env P L τ) (t:TypeId) {xs ys:Array (Nat×Value)} (h:XR (PR L τ.all) xs ys):SemR P G L C τ .own (VR L τ.all) (Instr.build t xs) (Instr.build t ys):=by
 unfold Instr.build
 refine SemR.bind' (R_zeroValue E t) fun u v hv=>?_
 refine SemR.bind' (R_underlying t) ?_
 rintro d _ ⟨rfl,_⟩
 obtain ⟨l,h1,h2,h3⟩:=h.list
 cases d with
 |struct fs=>
  refine SemR.bind' (R_mapMArray (R:=Same) (S:=Same) (xs:=fs) (ys:=fs) ?_ (XR.self fs fun _ _=>rfl)) ?_
  ·rintro f _ rfl
   refine SemR.bind' (R_sizeOf f.type) ?_
   rintro n _ rfl
   exact .pure rfl
  ·intro ps qs hpq
   have e:ps=qs:=by
    obtain ⟨zs,rfl,rfl,hz⟩:=hpq
    refine Array.map_congr_left fun z hz'=>hz z hz'
   subst e
   rw [h1,h2]
   rcases XR.fill (fun i=>ps[i]?) l h3 hv.cells with e|⟨cs,ds,e1,e2,hcd⟩
   ·simp only [e];exact .doom _ (.stuck _)
   ·simp only [e1,e2];exact .pure (.ofRow hcd)
 |array n elem=>
  refine SemR.bind' (R_sizeOf elem) ?_
  rintro n _ rfl
  rw [h1,h2]
  try dsimp only
  rcases XR.fill (fun i=>some (i*n,n)) l h3 hv.cells with e|⟨cs,ds,e1,e2,hcd⟩
  ·simp only [e];exact .doom _ (.stuck _)
  ·simp only [e1,e2];exact .pure (.ofRow hcd)
 |_=>exact .doom _ (.stuck _)
theorem R_buildSlice (E:Env P L τ) (t:TypeId) (len:Nat) {xs ys:Array (Nat×Value)} (h:XR (PR L τ.all) xs ys):SemR P G L C τ .own (VR L τ.own) (Instr.buildSlice t len xs) (Instr.buildSlice t len ys):=by
 unfold Instr.buildSlice
 refine SemR.bind' (R_underlying t) ?_
 rintro d _ ⟨rfl,_⟩
 obtain ⟨l,h1,h2,h3⟩:=h.list
 cases d with
 |slice elem=>
  refine SemR.bind' (R_sizeOf elem) ?_
  rintro n _ rfl
  rw [h1,h2]
  try dsimp only
  split
  ·exact .doom _ (Doomed.bind' (.unsupported _))
  ·split
   ·rename_i h0
    refine SemR.bind' (.pure (R:=fun a b=>a=#[]∧b=#[]) ⟨rfl,rfl⟩) ?_
    rintro _ _ ⟨rfl,rfl⟩
    rw [h0]
    rcases XR.fill (fun i=>some (i*n,n)) l h3 (cs:=(Array.range 0).map fun i=>(#[]:Array Value)[i % (#[]:Array Value).size]!) (ds:=(Array.range 0).map fun i=>(#[]:Array Value)[i % (#[]:Array Value).size]!) (XR.range 0 fun i hi=>absurd hi (Nat.not_lt_zero i)) with e|⟨cs,ds,e1,e2,hcd⟩
    ·simp only [e];exact .doom _ (.stuck _)
    ·simp only [e1,e2];exact SemR.bind' (R_newRow elem hcd) fun a b hab=> .pure (.slice _ _ hab)
   ·refine SemR.bind' (R_zeroValue E elem) fun u v hv=>?_
    refine SemR.bind' (R:=XR (VR L τ.all)) (.pure hv.cells) fun us vs huv=>?_
    try dsimp only
    rw [huv.size]
    rcases XR.fill (fun i=>some (i*n,n)) l h3 (XR.range (f:=fun i=>us[i % us.size]!) (g:=fun i=>vs[i % us.size]!) (len*n) fun i _=>huv.getBang _) with e|⟨cs,ds,e1,e2,hcd⟩
    ·simp only [e];exact .doom _ (.stuck _)
    ·simp only [e1,e2];exact SemR.bind' (R_newRow elem hcd) fun a b hab=> .pure (.slice _ _ hab)
 |_=>exact .doom _ (.stuck _)
theorem R_sliceBound {v w:Value} (h:VR L τ.all v w) (y:Nat) (c:BoundsCode):SemR P G L C τ .own Same (Instr.sliceBound v y c) (Instr.sliceBound w y c):=by
 unfold Instr.sliceBound
 refine SemR.bind' (R_asIntOf h) ?_
 rintro ⟨k,i⟩ _ ⟨rfl,_⟩
 try dsimp only
 split
 ·exact .pure rfl
 ·exact .doom _ (.boundsPanic _ _ _ _)
inductive QR (L:Lim) (π:Nat→Nat→Prop):Option Value→Option Value→Prop
 |none:QR L π none none
 |some {v w:Value}:VR L π v w→QR L π (some v) (some w)
theorem R_sliceBounds (b:Bool) (len cap:Nat) {l h m l' h' m':Option Value} (hl:QR L τ.all l l') (hh:QR L τ.all h h') (hm:QR L τ.all m m'):SemR P G L C τ .own Same (Instr.sliceBounds b len cap l h m) (Instr.sliceBounds b len cap l' h' m'):=by
 have st: ∀{v w:Value} (_:VR L τ.all v w) (y:Nat) (c:BoundsCode) {k l:Nat→Sem (Nat×Nat×Nat)},(∀n,SemR P G L C τ .own Same (k n) (l n))→SemR P G L C τ .own Same (Instr.sliceBound v y c >>=k) (Instr.sliceBound w y c >>=l):=by
  intro v w hv y c k l hk
  refine SemR.bind' (R_sliceBound hv y c) ?_
  rintro n _ rfl
  exact hk n
 unfold Instr.sliceBounds
 cases hm with
 |none=>
  cases hh with
  |none=>
   cases hl with
   |none=>exact .pure rfl
   |some hv=>exact st hv _ _ fun n=> .pure rfl
  |some hu=>
   cases hl with
   |none=>exact st hu _ _ fun n=> .pure rfl
   |some hv=>
    refine st hu _ _ fun n=>?_
    refine st hv _ _ fun n=>?_
    exact .pure rfl
 |some hx=>
  cases hh with
  |none=>exact .doom _ (Doomed.then (.sliceBound _ _ _) fun _=>Doomed.bind' (.stuck _))
  |some hu=>
   cases hl with
   |none=>
    refine st hx _ _ fun n=>?_
    refine st hu _ _ fun n=>?_
    exact .pure rfl
   |some hv=>
    refine st hx _ _ fun n=>?_
    refine st hu _ _ fun n=>?_
    refine st hv _ _ fun n=>?_
    exact .pure rfl
theorem R_asAddrK {κ:Nat→Nat→Prop} {v w:Value} (h:VR L κ v w):SemR P G L C τ .own (AR κ) (asAddr v) (asAddr w):=by
 cases h with
 |ptr h=>exact .pure h
 |nilptr=>exact .doom _ (show Doomed (gp P G) (runtimePanic .nilDeref:Sem Addr) from .runtimePanic _)
 |_=>exact .doom _ (.stuck _)
theorem R_slice {κ:Nat→Nat→Prop} (t:TypeId) {v w:Value} (hv:VR L κ v w) {l h m l' h' m':Option Value} (hl:QR L τ.all l l') (hh:QR L τ.all h h') (hm:QR L τ.all m m'):SemR P G L C τ .own (VR L κ) (Instr.slice t v l h m) (Instr.slice t w l' h' m'):=by
 unfold Instr.slice
 refine SemR.bind' (R_underlying t) ?_
 rintro d _ ⟨rfl,_⟩
 cases d with
 |string=>
  cases hv with
  |string s=>
   have em:m'.isSome=m.isSome:=by cases hm<;> rfl
   try dsimp only
   rw [em]
   split
   ·exact .doom _ (Doomed.bind' (.stuck _))
   ·refine SemR.bind' (R_sliceBounds false s.size s.size hl hh .none) ?_
    rintro ⟨x,y,z⟩ _ rfl
    exact .pure (.string _)
  |_=>exact .doom _ (.stuck _)
 |slice elem=>
  cases hv with
  |nilslice n c=>
   refine SemR.bind' (R_sliceBounds true n c hl hh hm) ?_
   rintro ⟨x,y,z⟩ _ rfl
   refine SemR.bind' (R_sizeOf elem) ?_
   rintro k _ rfl
   refine .pure ?_
   try dsimp only
   split<;> exact .nilslice _ _
  |slice n c hab=>
   refine SemR.bind' (R_sliceBounds true n c hl hh hm) ?_
   rintro ⟨x,y,z⟩ _ rfl
   refine SemR.bind' (R_sizeOf elem) ?_
   rintro k _ rfl
   refine .pure ?_
   try dsimp only
   split
   ·exact .slice _ _ hab
   ·exact .slice _ _ (hab.add _)
  |_=>exact .doom _ (.stuck _)
 |pointer arr=>
  try dsimp only
  refine SemR.bind' (R_asAddrK hv) fun a b hab=>?_
  refine SemR.bind' (R_underlying arr) ?_
  rintro d _ ⟨rfl,_⟩
  cases d with
  |array n elem=>
   refine SemR.bind' (R_sliceBounds false n n hl hh hm) ?_
   rintro ⟨x,y,z⟩ _ rfl
   refine SemR.bind' (R_sizeOf elem) ?_
   rintro k _ rfl
   refine .pure ?_
   try dsimp only
   split
   ·exact .slice _ _ hab
   ·exact .slice _ _ (hab.add _)
  |_=>exact .doom _ (.stuck _)
 |_=>cases hv<;> exact .doom _ (.stuck _)
theorem R_sliceAt {κ:Nat→Nat→Prop} (t:TypeId) {v w:Value} (hv:VR L κ v w) {l h m l' h' m':Option Value} (hl:QR L τ.all l l') (hh:QR L τ.all h h') (hm:QR L τ.all m m'):SemR P G L C τ .own (VR L κ) (Instr.sliceAt t v l h m) (Instr.sliceAt t w l' h' m'):=by
 unfold Instr.sliceAt
 refine SemR.bind' (R_underlying t) ?_
 rintro d _ ⟨rfl,_⟩
 cases d with
 |array n elem=>
  refine SemR.bind' (R_sureAddrK hv) fun a b hab=>?_
  refine SemR.bind' (R_sliceBounds false n n hl hh hm) ?_
  rintro ⟨x,y,z⟩ _ rfl
  refine SemR.bind' (R_sizeOf elem) ?_
  rintro k _ rfl
  refine .pure ?_
  try dsimp only
  split
  ·exact .slice _ _ hab
  ·exact .slice _ _ (hab.add _)
 |_=>exact R_slice t hv hl hh hm
end
end Go.Proofs.YtldmcdeibiclkaaGreatDoor.U
end
section
namespace Go.Proofs.YtldmcdeibiclkaaGreatDoor.U
section
variable {P:Program} {G:Array Func} {L:Lim} {C:FuncId→Code→Prop} {τ:Tri}
def StepR {σ ω:Type} (S:σ→ω→Prop) (x:ForInStep σ) (y:ForInStep ω):Prop:=(∃s t,x= .done s∧y= .done t∧S s t)∨(∃s t,x= .yield s∧y= .yield t∧S s t)
theorem StepR.same {σ:Type} (x:ForInStep σ):StepR Same x x:=by
 cases x with
 |done s=>exact .inl ⟨s,s,rfl,rfl,rfl⟩
 |yield s=>exact .inr ⟨s,s,rfl,rfl,rfl⟩
theorem R_forArr {α σ:Type} (xs:Array α) {f g:α→σ→Sem (ForInStep σ)} (hf: ∀a s,a∈xs→SemR P G L C τ .own (StepR Same) (f a s) (g a s)) (s:σ):SemR P G L C τ .own Same (forIn xs s f) (forIn xs s g):=by
 rw [← Array.forIn_toList,← Array.forIn_toList]
 have:=R_forIn (P:=P) (G:=G) (L:=L) (C:=C) (τ:=τ) (R:=fun a b=>a=b∧a∈xs) (S:=Same) (f:=f) (g:=g) (by rintro a _ ⟨rfl,ha⟩ s _ rfl;exact hf a s ha) (xs.toList.map fun x=>(x,x)) (by simp) s s rfl
 simpa [Function.comp_def] using this
theorem R_forRange {σ:Type} (n:Nat) {f g:Nat→σ→Sem (ForInStep σ)} (hf: ∀a s,SemR P G L C τ .own (StepR Same) (f a s) (g a s)) (s:σ):SemR P G L C τ .own Same (forIn [0:n] s f) (forIn [0:n] s g):=by
 rw [Std.Legacy.Range.forIn_eq_forIn_range',Std.Legacy.Range.forIn_eq_forIn_range']
 have:=R_forIn (P:=P) (G:=G) (L:=L) (C:=C) (τ:=τ) (R:=Same) (S:=Same) (f:=f) (g:=g) (by rintro a _ rfl s _ rfl;exact hf a s) ((List.range' 0 n 1).map fun x=>(x,x)) (by simp) s s rfl
 simpa [Function.comp_def,Std.Legacy.Range.size] using this
theorem doomed_typeInfo {α:Type} {t:TypeId} {f:TypeInfo→Sem α} (h: ∀i,P.info? t=some i→Doomed (gp P G) (f i)):Doomed (gp P G) (typeInfo t >>=f):=fun w es=>by
 cases hi:P.info? t with
 |none=>
  refine ⟨.stuck "no such type",w,es,?_,trivial,.refl w⟩
  show ((match P.info? t with|some i=>Sem.pure i|none=>(stuck "no such type" :Sem TypeInfo)).bind f).runT (gp P G) w es=_
  rw [hi]
  rfl
 |some i=>
  obtain ⟨x,y,z,e,ht,hk⟩:=h i hi w es
  refine ⟨x,y,z,?_,ht,hk⟩
  rw [← e]
  show ((match P.info? t with|some i=>Sem.pure i|none=>(stuck "no such type" :Sem TypeInfo)).bind f).runT (gp P G) w es=_
  rw [hi]
  rfl
def eqOk (P:Program):Nat→TypeId→Bool
 |0,_=>false
 |m+1,t=>match P.underlying t with
  |some .bool|some (.int _)|some .string|some (.pointer _)=>true
  |some (.struct fs)=>fs.all fun f=>eqOk P m f.type
  |some (.array _ e)=>eqOk P m e
  |_=>false
theorem R_equalIn (E:Env P L τ): ∀(n m:Nat) (t:TypeId) {x y u v:Value},eqOk P m t=true→VR L τ.all x u→VR L τ.all y v→SemR P G L C τ .own Same (Op.equalIn n t x y) (Op.equalIn n t u v)
 |0,_,_,_,_,_,_,_,_,_=> .doom _ (.unsupported _)
 |n+1,0,_,_,_,_,_,hok,_,_=>by cases hok
 |n+1,m+1,t,x,y,u,v,hok,hx,hy=>by
  unfold Op.equalIn
  refine SemR.bind' (R_underlying t) ?_
  rintro d _ ⟨rfl,hd⟩
  simp only [eqOk,hd] at hok
  cases d with
  |bool=>
   cases hx with
   |bool a=>cases hy<;> first|exact .pure rfl|exact .doom _ (.stuck _)
   |_=>first|exact .doom _ (.stuck _)|(cases hy<;> exact .doom _ (.stuck _))
  |string=>
   cases hx with
   |string a=>cases hy<;> first|exact .pure rfl|exact .doom _ (.stuck _)
   |_=>first|exact .doom _ (.stuck _)|(cases hy<;> exact .doom _ (.stuck _))
  |int kk=>
   cases hx with
   |int k a=>
    cases hy with
    |int k' b=>
     try dsimp only
     split
     ·exact .pure rfl
     ·exact .doom _ (.stuck _)
    |ptr h=>
     by_cases ha:a=0
     ·subst ha;exact .pure rfl
     ·refine .doom _ ?_
      split<;> first|exact Doomed.unsupported _|exact Doomed.stuck _|(exfalso;simp_all;done)
    |_=>first|exact .doom _ (.unsupported _)|exact .doom _ (.stuck _)
   |ptr h=>
    cases hy with
    |int k' b=>
     by_cases ha:b=0
     ·subst ha;exact .pure rfl
     ·refine .doom _ ?_
      split<;> first|exact Doomed.unsupported _|exact Doomed.stuck _|(exfalso;simp_all;done)
    |ptr k=>
     try dsimp only
     refine SemR.bind' (R_behindNumber h) ?_
     rintro ⟨a,l⟩ ⟨b,l'⟩ ⟨hab,_⟩
     refine SemR.bind' (R_behindNumber k) ?_
     rintro ⟨c,m⟩ ⟨d,m'⟩ ⟨hcd,_⟩
     refine R_program ?_
     try dsimp only
     rw [gp_globals]
     by_cases hlo:(a.block==c.block && decide (a.block< P.globals.size))=true
     ·have hlo':(b.block==d.block && decide (b.block< P.globals.size))=true:=by
       simp only [Bool.and_eq_true,beq_iff_eq,decide_eq_true_eq] at hlo ⊢
       obtain ⟨hbc,hlt⟩:=hlo
       exact ⟨E.bi.fn _ _ _ (.inl hab.1) (.inl (hbc ▸ hcd.1)),(E.high _ _ hab.1).1 hlt⟩
      rw [if_pos hlo,if_pos hlo']
      refine SemR.bind' (R_byteOf hab) ?_
      rintro x _ rfl
      refine SemR.bind' (R_byteOf hcd) ?_
      rintro y _ rfl
      exact .pure rfl
     refine .doom _ ?_
     rw [if_neg hlo]
     refine doomed_typeInfo fun i hi=>?_
     split
     ·rename_i heq
      exact absurd rfl (E.ncc _ _ _ _ hi heq)
     ·exact .unsupported _
    |_=>first|exact .doom _ (.unsupported _)|exact .doom _ (.stuck _)
   |_=>cases hy<;> first|exact .doom _ (.unsupported _)|exact .doom _ (.stuck _)
  |unsafePointer=>cases hok
  |pointer elem=>
   cases hx with
   |nilptr=>cases hy<;> first|exact .pure rfl|exact .doom _ (.stuck _)
   |ptr h=>
    cases hy with
    |nilptr=>exact .pure rfl
    |ptr k=>
     try dsimp only
     refine SemR.bind' (R_sizeOf elem) ?_
     rintro m _ rfl
     rw [← h.eq_iff E.bi.biAll k]
     split
     ·exact R_sameAddr E.bi.biAll h k
     ·split
      ·exact .pure rfl
      ·refine SemR.bind' (R_choose _) ?_
       rintro m _ rfl
       exact .pure rfl
    |_=>exact .doom _ (.stuck _)
   |_=>first|exact .doom _ (.stuck _)|(cases hy<;> exact .doom _ (.stuck _))
  |interface ms=>cases hok
  |struct fs=>
   cases hx with
   |agg xs hxs=>
    cases hy with
    |agg ys hys=>
     try dsimp only
     refine R_program ?_
     rw [gp_stoodInHeld]
     split
     ·exact .doom _ (Doomed.bind' (.unsupported _))
     ·refine SemR.bind' (R_forArr fs (fun f s hmem=>?_) _) ?_
      ·split
       ·have hf:eqOk P m f.type=true:=Array.all_eq_true'.1 hok f hmem
        refine SemR.bind' (R_part f.type ⟨xs,rfl,rfl,hxs⟩ _) fun a b hab=>?_
        refine SemR.bind' (R_part f.type ⟨ys,rfl,rfl,hys⟩ _) fun c d hcd=>?_
        refine SemR.bind' (R_equalIn E n m f.type hf hab hcd) ?_
        rintro r _ rfl
        try dsimp only
        split<;> exact .pure (.same _)
       ·exact .pure (.same _)
      ·rintro r _ rfl
       try dsimp only
       split<;> exact .pure rfl
    |_=>exact .doom _ (.stuck _)
   |_=>first|exact .doom _ (.stuck _)|(cases hy<;> exact .doom _ (.stuck _))
  |array len elem=>
   cases hx with
   |agg xs hxs=>
    cases hy with
    |agg ys hys=>
     try dsimp only
     refine SemR.bind' (R_sizeOf elem) ?_
     rintro sz _ rfl
     refine SemR.bind' (R_forRange len (fun i s=>?_) _) ?_
     ·refine SemR.bind' (R_part elem ⟨xs,rfl,rfl,hxs⟩ _) fun a b hab=>?_
      refine SemR.bind' (R_part elem ⟨ys,rfl,rfl,hys⟩ _) fun c d hcd=>?_
      refine SemR.bind' (R_equalIn E n m elem hok hab hcd) ?_
      rintro r _ rfl
      try dsimp only
      split<;> exact .pure (.same _)
     ·rintro r _ rfl
      try dsimp only
      split<;> exact .pure rfl
    |_=>exact .doom _ (.stuck _)
   |_=>first|exact .doom _ (.stuck _)|(cases hy<;> exact .doom _ (.stuck _))
  |_=>cases hok
theorem R_equal (E:Env P L τ) {m:Nat} {t:TypeId} (hok:eqOk P m t=true) {x y u v:Value} (hx:VR L τ.all x u) (hy:VR L τ.all y v):SemR P G L C τ .own Same (Op.equal t x y) (Op.equal t u v):=R_equalIn E _ m t hok hx hy
end
end Go.Proofs.YtldmcdeibiclkaaGreatDoor.U
end
section
namespace Go.Proofs.YtldmcdeibiclkaaGreatDoor.U
section
variable {P:Program} {G:Array Func} {L:Lim} {C:FuncId→Code→Prop} {τ:Tri}
theorem R_checkKey (b:Bool): ∀(n:Nat) (t:TypeId) {x u:Value},VR L τ.all x u→SemR P G L C τ .own (fun _ _=>True) (Instr.checkKey b n t x) (Instr.checkKey b n t u)
 |0,_,_,_,_=> .doom _ (.unsupported _)
 |n+1,t,x,u,hx=>by
  unfold Instr.checkKey
  refine SemR.bind' (R_underlying t) ?_
  rintro d _ ⟨rfl,_⟩
  cases d with
  |interface ms=>
   cases hx with
   |iface tx h=>
    try dsimp only
    refine SemR.bind' (R_typeInfo tx) ?_
    rintro i _ ⟨rfl,_⟩
    try dsimp only
    split
    ·refine .doom _ ?_
     split
     ·exact Doomed.bind' (.runtimePanic _)
     ·exact Doomed.then (.typeStr _) fun _=>Doomed.bind' (.runtimePanic _)
    ·exact R_checkKey b n tx h
   |nilIface=>exact .pure trivial
   |_=>exact .doom _ (.stuck _)
  |array len elem=>
   cases hx with
   |agg xs hxs=>
    try dsimp only
    refine SemR.bind' (R_forRange len (fun i s=>?_) _) fun _ _ _=> .pure trivial
    refine SemR.bind' (R_sizeOf elem) ?_
    rintro m _ rfl
    refine SemR.bind' (R_part elem ⟨xs,rfl,rfl,hxs⟩ _) fun a b hab=>?_
    exact SemR.bind' (R_checkKey _ n elem hab) fun _ _ _=> .pure (.same _)
   |_=>exact .doom _ (.stuck _)
  |struct fs=>
   cases hx with
   |agg xs hxs=>
    try dsimp only
    refine SemR.bind' (R_forArr fs (fun f s _=>?_) _) fun _ _ _=> .pure trivial
    split
    ·refine SemR.bind' (R_part f.type ⟨xs,rfl,rfl,hxs⟩ _) fun a b hab=>?_
     exact SemR.bind' (R_checkKey _ n f.type hab) fun _ _ _=> .pure (.same _)
    ·exact .pure (.same _)
   |_=>exact .doom _ (.stuck _)
  |_=>exact .pure trivial
def FR (L:Lim) (π:Nat→Nat→Prop) (_:Nat):Option (Nat×Value)→Option (Nat×Value)→Prop
 |none,none=>True
 |some (i,v),some (j,w)=>j=i∧VR L π v w
 |_,_=>False
theorem R_findAsking (E:Env P L τ) {m:Nat} {t:TypeId} (hok:eqOk P m t=true) {x u:Value} (hx:VR L τ.all x u): ∀(l:List (MapEntry×MapEntry)) (i:Nat),(∀z∈l,ER L τ.all z.1 z.2)→
  SemR P G L C τ .own (FR L τ.all 0) (Instr.findAsking t x (l.map (·.1)) i) (Instr.findAsking t u (l.map (·.2)) i)
 |[],_,_=> .pure trivial
 |z::l,i,hz=>by
  simp only [List.map_cons,Instr.findAsking]
  refine SemR.bind' (R_equal E hok hx (hz z (by simp)).1) ?_
  rintro r _ rfl
  try dsimp only
  split
  ·exact .pure ⟨rfl,(hz z (by simp)).2.1⟩
  ·exact R_findAsking E hok hx l (i+1) fun y hy=>hz y (by simp [hy])
theorem R_equalNow {d:TypeDesc} {t:TypeId} (hd:P.underlying t=some d) {x u y v:Value} (hx:VR L τ.all x u) (hy:VR L τ.all y v) {b:Bool} (h:Instr.sameNow d u v=some b) {α β:Type} {R:α→β→Prop} {k:Bool→Sem α} {q:Sem β}
  (hk:SemR P G L C τ .own R (k b) q):SemR P G L C τ .own R (Op.equal t x y >>=k) q:=by
 have go: ∀{f:TypeDesc→Sem Bool},(Op.equalIn 10000 t x y=underlying t >>=f)→(Doomed (gp P G) (f d)∨f d=pure b)→SemR P G L C τ .own R (Op.equal t x y >>=k) q:=by
  intro f hf hor
  show SemR P G L C τ .own R (Op.equalIn 10000 t x y >>=k) q
  rw [hf]
  refine .programL ?_
  show SemR P G L C τ .own R ((((match P.underlying t with|some d=>Sem.pure d|none=>(stuck "no such type" :Sem TypeDesc)).bind f)).bind k) q
  rw [hd]
  rcases hor with hdm|he
  ·exact .doom _ (Doomed.bind hdm)
  ·show SemR P G L C τ .own R ((f d).bind k) q
   rw [he]
   exact hk
 refine go (f:=fun d=>_) (by unfold Op.equalIn;rfl) ?_
 cases d with
 |int kk=>
  cases hx with
  |int k a=>
   cases hy with
   |int k' a'=>
    simp only [Instr.sameNow] at h
    split at h
    ·rename_i e;subst e;cases h;exact .inr (by simp)
    ·cases h
   |junk=>exact .inl (.stuck _)
   |_=>cases h
  |junk=>cases hy<;> first|exact .inl (.stuck _)|exact .inl (.unsupported _)
  |_=>cases hy<;> first|(cases h;done)|(simp [Instr.sameNow] at h;done)
 |string=>
  cases hx with
  |string a=>
   cases hy with
   |string a'=>cases h;exact .inr rfl
   |junk=>exact .inl (.stuck _)
   |_=>cases h
  |junk=>exact .inl (.stuck _)
  |_=>cases hy<;> first|(cases h;done)|(simp [Instr.sameNow] at h;done)
 |bool=>
  cases hx with
  |bool a=>
   cases hy with
   |bool a'=>cases h;exact .inr rfl
   |junk=>exact .inl (.stuck _)
   |_=>cases h
  |junk=>exact .inl (.stuck _)
  |_=>cases hy<;> first|(cases h;done)|(simp [Instr.sameNow] at h;done)
 |_=>cases u<;> cases v<;> cases h
theorem sameNow_of (d:TypeDesc) {x u y v:Value} (hx:VR L τ.all x u) (hy:VR L τ.all y v):Instr.sameNow d x y=none∨Instr.sameNow d u v=Instr.sameNow d x y:=by
 cases d with
 |int k=>
  cases hx with
  |int=>cases hy with
   |int=>exact .inr rfl
   |_=>exact .inl rfl
  |_=>exact .inl rfl
 |string=>
  cases hx with
  |string=>cases hy with
   |string=>exact .inr rfl
   |_=>exact .inl rfl
  |_=>exact .inl rfl
 |bool=>
  cases hx with
  |bool=>cases hy with
   |bool=>exact .inr rfl
   |_=>exact .inl rfl
  |_=>exact .inl rfl
 |_=>exact .inl rfl
theorem findNow_of (d:TypeDesc) {x u:Value} (hx:VR L τ.all x u): ∀(l:List (MapEntry×MapEntry)) (i:Nat),(∀z∈l,ER L τ.all z.1 z.2)→
  Instr.findNow d x (l.map (·.1)) i=none∨∃a b,Instr.findNow d x (l.map (·.1)) i=some a∧Instr.findNow d u (l.map (·.2)) i=some b∧FR L τ.all 0 a b
 |[],_,_=> .inr ⟨none,none,rfl,rfl,trivial⟩
 |z::l,i,hz=>by
  simp only [List.map_cons,Instr.findNow]
  rcases sameNow_of d hx (hz z (by simp)).1 with e|e
  ·rw [e];exact .inl rfl
  ·rw [e]
   cases Instr.sameNow d x z.1.key with
   |none=>exact .inl rfl
   |some b=>
    cases b with
    |true=>exact .inr ⟨_,_,rfl,rfl,rfl,(hz z (by simp)).2.1⟩
    |false=>exact findNow_of d hx l (i+1) fun y hy=>hz y (by simp [hy])
theorem R_findMixed {d:TypeDesc} {t:TypeId} (hd:P.underlying t=some d) {x u:Value} (hx:VR L τ.all x u): ∀(l:List (MapEntry×MapEntry)) (i:Nat),(∀z∈l,ER L τ.all z.1 z.2)→∀r,Instr.findNow d u (l.map (·.2)) i=some r→
  SemR P G L C τ .own (FR L τ.all 0) (Instr.findAsking t x (l.map (·.1)) i) (pure r)
 |[],_,_,r,hr=>by
  simp only [List.map_nil,Instr.findNow,Option.some.injEq] at hr
  subst hr
  exact .pure trivial
 |z::l,i,hz,r,hr=>by
  have h0:=hz z (by simp)
  simp only [List.map_cons,Instr.findNow] at hr
  cases e:Instr.sameNow d u z.2.key with
  |none=>rw [e] at hr;cases hr
  |some b=>
   rw [e] at hr
   simp only [List.map_cons,Instr.findAsking]
   refine R_equalNow hd hx h0.1 e ?_
   cases b with
   |true=>
    simp only [Option.some.injEq] at hr
    subst hr
    exact .pure ⟨rfl,h0.2.1⟩
   |false=>exact R_findMixed hd hx l (i+1) (fun y hy=>hz y (by simp [hy])) r hr
theorem R_findKey (E:Env P L τ) {m:Nat} {t:TypeId} (hok:eqOk P m t=true) {x u:Value} (hx:VR L τ.all x u) {es fs:Array MapEntry} (h:XR (ER L τ.all) es fs):SemR P G L C τ .own (FR L τ.all 0) (Instr.findKey t x es.toList) (Instr.findKey t u fs.toList):=by
 obtain ⟨l,h1,h2,h3⟩:=h.list
 rw [h1,h2]
 unfold Instr.findKey
 refine SemR.bind' (R_underlying t) ?_
 rintro d _ ⟨rfl,hd⟩
 try dsimp only
 rcases findNow_of d hx l 0 h3 with e|⟨a,b,e1,e2,hab⟩
 ·rw [e]
  cases e':Instr.findNow d u (l.map (·.2)) 0 with
  |none=>exact R_findAsking E hok hx l 0 h3
  |some r=>exact R_findMixed hd hx l 0 h3 r e'
 ·rw [e1,e2]
  exact .pure hab
theorem R_lookup (E:Env P L τ) {m:Nat} {t:TypeId} (hok: ∀k e,P.underlying t=some (.map k e)→eqOk P m k=true) {v w x y:Value} (h:VR L τ.all v w) (hx:VR L τ.all x y) (ok:Bool):SemR P G L C τ .own (VR L τ.all) (Instr.lookup t v x ok) (Instr.lookup t w y ok):=by
 have rest: ∀(key elem:TypeId) {es fs:Array MapEntry},eqOk P m key=true→XR (ER L τ.all) es fs→SemR P G L C τ .own (VR L τ.all)
   (do
    Instr.checkKey es.isEmpty 10000 key x
    let (v,k) ← match ← Instr.findKey key x es.toList with
     |some (_,v)=>pure (v,true)
     |none=>do pure (← zeroValue elem,false)
    pure (if ok then .tuple #[v,.bool k] else v))
   (do
    Instr.checkKey fs.isEmpty 10000 key y
    let (v,k) ← match ← Instr.findKey key y fs.toList with
     |some (_,v)=>pure (v,true)
     |none=>do pure (← zeroValue elem,false)
    pure (if ok then .tuple #[v,.bool k] else v)):=by
  intro key elem es fs hk hes
  rw [hes.isEmpty]
  refine SemR.bind' (R_checkKey _ _ key hx) fun _ _ _=>?_
  refine SemR.bind' (R_findKey E hk hx hes) fun a b hab=>?_
  match a,b,hab with
  |none,none,_=>
   refine SemR.bind' (R_zeroValue E elem) fun u v huv=>?_
   refine .pure ?_
   try dsimp only
   split
   ·exact .pair huv (.bool _)
   ·exact huv
  |some (i,u),some (j,v),⟨_,huv⟩=>
   refine .pure ?_
   try dsimp only
   split
   ·exact .pair huv (.bool _)
   ·exact huv
 unfold Instr.lookup
 refine SemR.bind' (R_underlying t) ?_
 rintro d _ ⟨rfl,hd⟩
 cases d with
 |map key elem=>
  have hk:=hok key elem hd
  cases h with
  |nilmap=>exact rest key elem hk .nil
  |map hrs=>
   refine SemR.bind' (R_getObj hrs) fun o q ho=>?_
   cases ho with
   |map c hes=>exact rest key elem hk hes
   |_=>exact .doom _ (Doomed.bind' (.stuck _))
  |_=>exact .doom _ (Doomed.bind' (.stuck _))
 |_=>exact .doom _ (.stuck _)
end
end Go.Proofs.YtldmcdeibiclkaaGreatDoor.U
end
