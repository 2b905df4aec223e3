/-
  Toward: treed_holds, each node's digest is that of its children's, for every argument of Treed. MAPS WRITTEN, RANGES, ASSERTIONS, OPERATORS, SIDE BY SIDE.
-/
import Derived.Test.YtldmcdeibiclkaaGreatDoorC04
set_option linter.unusedVariables false
set_option linter.unusedSimpArgs false
set_option maxRecDepth 4000
section
namespace Go.Proofs.YtldmcdeibiclkaaGreatDoor.U
section
variable {P:Program} {G:Array Func} {L:Lim} {C:FuncId→Code→Prop} {τ:Tri}
theorem bytes_of_beq {a b:ByteArray} (h:(a==b)=true):a=b:=by
 obtain ⟨a⟩:=a;obtain ⟨b⟩:=b
 have h':(a==b)=true:=h
 rw [beq_iff_eq.1 h']
theorem bytes_beq_self (a:ByteArray):(a==a)=true:=by
 obtain ⟨a⟩:=a
 show (a==a)=true
 simp
theorem arr_filter_congr {α:Type} (zs:Array α) (p q:α→Bool) (h: ∀z∈zs,p z=q z):zs.filter p=zs.filter q:=by
 apply Array.toList_inj.1
 simp only [Array.toList_filter]
 exact List.filter_congr fun z hz=>h z (by simpa using hz)
theorem run_equal_string {t:TypeId} (hd:P.underlying t=some .string) (x y:Value) {α:Type} (k:Bool→Sem α) (w:World) (es:Array Event):
  (∃a b,x= .string a∧y= .string b∧(Op.equal t x y >>=k).runT (gp P G) w es=(k (a==b)).runT (gp P G) w es)∨(∃h,(Op.equal t x y >>=k).runT (gp P G) w es=(.halt h w,es)∧Tame h)∧Instr.sameNow .string x y=none:=by
 have e: ∃f,Op.equalIn 10000 t x y=underlying t >>=f∧((∃a b,x= .string a∧y= .string b∧f .string=pure (a==b))∨(f .string=stuck "==: the operands do not fit the type, or the type is not comparable" ∧Instr.sameNow .string x y=none)):=by
  refine ⟨_,by unfold Op.equalIn;rfl,?_⟩
  cases x with
  |string a=>
   cases y with
   |string b=>exact .inl ⟨a,b,rfl,rfl,rfl⟩
   |_=>exact .inr ⟨rfl,rfl⟩
  |_=>exact .inr ⟨rfl,rfl⟩
 obtain ⟨f,hf,hor⟩:=e
 have h1:(Op.equal t x y >>=k).runT (gp P G) w es=((f .string).bind k).runT (gp P G) w es:=by
  show (Op.equalIn 10000 t x y >>=k).runT (gp P G) w es=_
  rw [hf]
  show ((((match P.underlying t with|some d=>Sem.pure d|none=>(stuck "no such type" :Sem TypeDesc)).bind f)).bind k).runT (gp P G) w es=_
  rw [hd]
  rfl
 rcases hor with ⟨a,b,rfl,rfl,he⟩|⟨he,hs⟩
 ·refine .inl ⟨a,b,rfl,rfl,?_⟩
  rw [h1,he];rfl
 ·refine .inr ⟨⟨.stuck "==: the operands do not fit the type, or the type is not comparable",?_,trivial⟩,hs⟩
  rw [h1,he];rfl
theorem doomed_ask {t:TypeId} (hd:P.underlying t=some .string) (x:Value): ∀(l:List MapEntry) (i:Nat),Instr.findNow .string x l i=none→Doomed (gp P G) (Instr.findAsking t x l i)
 |[],_,h=>by cases h
 |e::l,i,h=>fun w es=>by
  simp only [Instr.findNow] at h
  unfold Instr.findAsking
  rcases run_equal_string hd x e.key (fun r=>if r=true then pure (some (i,e.val)) else Instr.findAsking t x l (i+1)) w es with ⟨a,b,rfl,hb,hr⟩|⟨⟨hh,hr,htm⟩,_⟩
  ·rw [hb] at h
   simp only [Instr.sameNow] at h
   by_cases hab:(a==b)=true
   ·simp [hab] at h
   ·have hab':(a==b)=false:=by simpa using hab
    rw [hab'] at h hr
    obtain ⟨h1,w1,es1,e1,ht,hk⟩:=doomed_ask hd (.string a) l (i+1) h w es
    exact ⟨h1,w1,es1,by rw [hr];exact e1,ht,hk⟩
  ·exact ⟨hh,w,es,hr,htm,.refl w⟩
theorem findNow_some {x:Value}: ∀(l:List MapEntry) (i0 i:Nat) (v:Value),Instr.findNow .string x l i0=some (some (i,v))→i0≤i∧∃e s,l[i - i0]? =some e∧x= .string s∧e.key= .string s
 |[],_,_,_,h=>by cases h
 |e::l,i0,i,v,h=>by
  simp only [Instr.findNow] at h
  cases hs:Instr.sameNow .string x e.key with
  |none=>rw [hs] at h;cases h
  |some b=>
   rw [hs] at h
   cases b with
   |true=>
    simp only [Option.some.injEq,Prod.mk.injEq] at h
    obtain ⟨rfl,_⟩:=h
    have: ∃s,x= .string s∧e.key= .string s:=by
     cases x<;> simp [Instr.sameNow] at hs
     rename_i a
     cases hk:e.key<;> rw [hk] at hs<;> simp at hs
     rename_i b
     exact ⟨a,rfl,by rw [bytes_of_beq hs]⟩
    obtain ⟨s,h1,h2⟩:=this
    exact ⟨Nat.le_refl _,e,s,by simp,h1,h2⟩
   |false=>
    obtain ⟨h1,e',s,h2,h3⟩:=findNow_some l (i0+1) i v h
    refine ⟨by omega,e',s,?_,h3⟩
    rw [show i - i0=(i - (i0+1))+1 by omega]
    simpa using h2
theorem R_findText {t:TypeId} (hd:P.underlying t=some .string) {x u:Value} (hx:VR L τ.all x u) {es fs:Array MapEntry} (h:XR (ER L τ.all) es fs):
  SemR P G L C τ .own (fun a b=>FR L τ.all 0 a b∧∀i v,a=some (i,v)→∃s e f,x= .string s∧es[i]? =some e∧fs[i]? =some f∧e.key= .string s∧f.key= .string s) (Instr.findKey t x es.toList) (Instr.findKey t u fs.toList):=by
 have hl:=h.list
 obtain ⟨l,h1,h2,h3⟩:=hl
 unfold Instr.findKey
 refine SemR.bind' (R_underlying t) ?_
 rintro d _ ⟨rfl,hd'⟩
 rw [hd] at hd'
 cases hd'
 rw [h1,h2]
 rcases findNow_of .string hx l 0 h3 with e|⟨a,b,e1,e2,hab⟩
 ·rw [e]
  exact .doom _ (doomed_ask hd x _ _ e)
 ·rw [e1,e2]
  refine .pure ⟨hab,?_⟩
  rintro i v rfl
  obtain ⟨_,e,s,h4,h5,h6⟩:=findNow_some _ _ _ _ e1
  rw [← h1] at h4
  have h4':es[i]? =some e:=by simpa using h4
  rcases h.get? i with ⟨h7,_⟩|⟨e',f,h7,h8,h9⟩
  ·rw [h7] at h4';cases h4'
  ·rw [h7] at h4';cases h4'
   refine ⟨s,e,f,h5,h7,h8,h6,?_⟩
   have:=h9.1
   rw [h6] at this
   cases hk:f.key<;> rw [hk] at this<;> cases this
   rfl
theorem R_mapUpdate (hb:TriOk τ) {t kt et:TypeId} (ht:P.underlying t=some (.map kt et)) (hd:P.underlying kt=some .string) {m n k l x y:Value} (hm:VR L τ.own m n) (hk:VR L τ.all k l) (hx:VR L τ.all x y):SemR P G L C τ .own (fun _ _=>True) (Instr.mapUpdate t m k x) (Instr.mapUpdate t n l y):=by
 unfold Instr.mapUpdate
 refine SemR.bind' (R_underlying t) ?_
 rintro d _ ⟨rfl,hd'⟩
 rw [ht] at hd'
 cases hd'
 cases hm with
 |nilmap=>exact .doom _ (.runtimePanic _)
 |map hrs=>
  try dsimp only
  refine SemR.bind' (R_getObj (hb.own _ _ hrs)) fun o q ho=>?_
  cases ho with
  |@map es fs c hes=>
   try dsimp only
   refine SemR.bind' (R_checkKey _ _ kt hk) fun _ _ _=>?_
   refine SemR.bind' (R_findText hd hk hes) fun a b hab=>?_
   match a,b,hab with
   |none,none,_=>
    exact R_setObj hrs (.map _ (hes.push ⟨hk,hx,rfl⟩)) (by intro _ _ _ e;cases e)
   |some (i,u),some (_,v),⟨⟨rfl,huv⟩,hkey⟩=>
    obtain ⟨s,e,f,rfl,h1,h2,h3,h4⟩:=hkey i u rfl
    cases hk with
    |string=>
     try dsimp only
     rw [h1,h2]
     simp only [Option.map_some,Option.getD_some,h3,h4]
     have hsb:Instr.sameBits 10000 (.string s) (.string s)=true:=by simp only [Instr.sameBits];exact bytes_beq_self s
     simp only [Instr.keyThatStays,hsb,if_true]
     exact R_setObj hrs (.map _ (hes.modify (f:=fun e=>{e with key:= .string s,val:=x}) (g:=fun e=>{e with key:= .string s,val:=y}) (fun a b hab=>⟨.string s,hx,hab.2.2⟩) i)) (by intro _ _ _ e;cases e)
  |_=>exact .doom _ (.stuck _)
 |_=>exact .doom _ (.stuck _)
theorem R_range (t:TypeId) {v w:Value} (h:VR L τ.all v w):SemR P G L C τ .own (VR L τ.own) (Instr.range t v) (Instr.range t w):=by
 have fin: ∀{o q:Obj},OR L τ o q→SemR P G L C τ .own (VR L τ.own) (newObj o >>=fun r=>pure (.pointer (some ⟨r,0,none⟩))) (newObj q >>=fun r=>pure (.pointer (some ⟨r,0,none⟩))):=fun ho=>
  SemR.bind' (R_new ho) fun r s hr=> .pure (VR.ptr ⟨hr,rfl,rfl⟩)
 unfold Instr.range
 refine SemR.bind' (R_underlying t) ?_
 rintro d _ ⟨rfl,_⟩
 cases d with
 |string=>
  cases h with
  |string s=>exact fin (.stringIter s 0)
  |_=>exact .doom _ (Doomed.bind' (.stuck _))
 |map kt et=>
  cases h with
  |nilmap=>exact fin (.mapIter (r:=none) (s:=none) 0 #[] 0 trivial)
  |map hrs=>
   try dsimp only
   refine SemR.bind' (R_getObj hrs) fun o q ho=>?_
   cases ho with
   |map c hes=>exact fin (.mapIter (r:=some _) (s:=some _) c #[] c hrs)
   |_=>exact .doom _ (Doomed.bind' (.stuck _))
  |_=>exact .doom _ (Doomed.bind' (.stuck _))
 |_=>cases h<;> exact .doom _ (Doomed.bind' (.stuck _))
theorem XR.filter {α β:Type} {R:α→β→Prop} {xs:Array α} {ys:Array β} {p:α→Bool} {q:β→Bool} (h:XR R xs ys) (hp: ∀a b,R a b→q b=p a):XR R (xs.filter p) (ys.filter q):=by
 obtain ⟨zs,rfl,rfl,hz⟩:=h
 refine ⟨zs.filter fun z=>p z.1,?_,?_,fun z hm=>hz z (Array.mem_filter.1 hm).1⟩
 ·rw [Array.filter_map];rfl
 ·rw [Array.filter_map]
  congr 1
  exact arr_filter_congr _ _ _ fun z hz'=>hp _ _ (hz z hz')
theorem XR.all {α β:Type} {R:α→β→Prop} {xs:Array α} {ys:Array β} {p:α→Bool} {q:β→Bool} (h:XR R xs ys) (hp: ∀a b,R a b→q b=p a):ys.all q=xs.all p:=by
 obtain ⟨zs,rfl,rfl,hz⟩:=h
 rw [Bool.eq_iff_iff]
 simp only [Array.all_eq_true',Array.mem_map]
 constructor
 ·rintro h _ ⟨z,hz',rfl⟩
  rw [← hp _ _ (hz z hz')]
  exact h _ ⟨z,hz',rfl⟩
 ·rintro h _ ⟨z,hz',rfl⟩
  rw [hp _ _ (hz z hz')]
  exact h _ ⟨z,hz',rfl⟩
theorem XR.find {α β:Type} {R:α→β→Prop} {xs:Array α} {ys:Array β} {p:α→Bool} {q:β→Bool} (h:XR R xs ys) (hp: ∀a b,R a b→q b=p a):(xs.find? p=none∧ys.find? q=none)∨∃x y,xs.find? p=some x∧ys.find? q=some y∧R x y:=by
 obtain ⟨l,h1,h2,h3⟩:=h.list
 rw [← Array.find?_toList,← Array.find?_toList,h1,h2]
 clear h1 h2
 induction l with
 |nil=>exact .inl ⟨rfl,rfl⟩
 |cons z l ih=>
  have:=hp _ _ (h3 z (by simp))
  simp only [List.map_cons,List.find?_cons,this]
  cases hz:p z.1 with
  |true=>exact .inr ⟨z.1,z.2,rfl,rfl,h3 z (by simp)⟩
  |false=>exact ih fun y hy=>h3 y (by simp [hy])
theorem R_next (hb:TriOk τ) {v w:Value} (h:VR L τ.own v w) (t:TypeId):SemR P G L C τ .own (VR L τ.all) (Instr.next v false t) (Instr.next w false t):=by
 unfold Instr.next
 cases h with
 |@ptr a b hab=>
  obtain ⟨ab,ao,as⟩:=a
  obtain ⟨bb,bo,bs⟩:=b
  obtain ⟨h1,h2,h3⟩:=hab
  simp only at h1 h2 h3
  subst h2 h3
  cases bo with
  |succ n=>exact .doom _ (.stuck _)
  |zero=>
   try dsimp only
   refine SemR.bind' (R_getObj (hb.own _ _ h1)) fun o q ho=>?_
   cases ho with
   |stringIter s p=>exact .doom _ (.stuck _)
   |@mapIter r s since seen last hrs=>
    cases r with
    |none=>
     cases s with
     |none=>exact .pure (.one (.bool _))
     |some s=>exact hrs.elim
    |some r=>
     cases s with
     |none=>exact hrs.elim
     |some s=>
      try dsimp only
      refine SemR.bind' (R_getObj hrs) fun o q ho=>?_
      cases ho with
      |@map es fs clock hes=>
       try dsimp only
       rw [hes.isEmpty,hes.all (p:=fun e=>decide (e.born≥last)) (q:=fun e=>decide (e.born≥last)) (fun a b hab=>by rw [hab.2.2])]
       split
       ·exact .doom _ (Doomed.bind' (.unsupported _))
       ·have hleft:=hes.filter (p:=fun e=>!seen.contains e.born) (q:=fun e=>!seen.contains e.born) (fun a b hab=>by rw [hab.2.2])
        have hold:=hleft.filter (p:=fun e=>decide (e.born< since)) (q:=fun e=>decide (e.born< since)) (fun a b hab=>by rw [hab.2.2])
        have hnew:=hleft.filter (p:=fun e=>decide (e.born≥since)) (q:=fun e=>decide (e.born≥since)) (fun a b hab=>by rw [hab.2.2])
        rw [hold.isEmpty]
        have hcand:XR (fun a b=>(a=none∧b=none)∨∃x y,a=some x∧b=some y∧ER L τ.all x y)
          ((if ((es.filter fun e=>!seen.contains e.born).filter fun e=>decide (e.born< since)).isEmpty then #[none] else #[])++(((es.filter fun e=>!seen.contains e.born).filter fun e=>decide (e.born< since))++((es.filter fun e=>!seen.contains e.born).filter fun e=>decide (e.born≥since))).map some)
          ((if ((es.filter fun e=>!seen.contains e.born).filter fun e=>decide (e.born< since)).isEmpty then #[none] else #[])++(((fs.filter fun e=>!seen.contains e.born).filter fun e=>decide (e.born< since))++((fs.filter fun e=>!seen.contains e.born).filter fun e=>decide (e.born≥since))).map some):=by
         refine XR.append ?_ ((hold.append hnew).map fun a b hab=> .inr ⟨a,b,rfl,rfl,hab⟩)
         split
         ·exact XR.push (xs:=#[]) (ys:=#[]) .nil (.inl ⟨rfl,rfl⟩)
         ·exact .nil
        rw [hcand.size]
        refine SemR.bind' (R_choose _) ?_
        rintro n _ rfl
        rcases hcand.get? n with ⟨e1,e2⟩|⟨x,y,e1,e2,(⟨rfl,rfl⟩|⟨x,y,rfl,rfl,hxy⟩)⟩
        ·rw [e1];exact .doom _ (.stuck _)
        ·rw [e1,e2];exact .pure (.one (.bool _))
        ·rw [e1,e2]
         try dsimp only
         rw [hxy.2.2]
         refine SemR.bind' (R_setObj h1 (.mapIter (r:=some _) (s:=some _) _ _ _ hrs) (by intro _ _ _ e;cases e)) fun _ _ _=>?_
         exact .pure (.three (.bool _) hxy.1 hxy.2.1)
      |_=>exact .doom _ (.stuck _)
   |_=>exact .doom _ (.stuck _)
 |_=>exact .doom _ (.stuck _)
theorem R_entry {v w:Value} (h:VR L τ.all v w):SemR P G L C τ .own (VR L τ.all) (Instr.entry v) (Instr.entry w):=by
 unfold Instr.entry
 cases h with
 |@ptr a b hab=>
  obtain ⟨ab,ao,as⟩:=a
  obtain ⟨bb,bo,bs⟩:=b
  obtain ⟨h1,h2,h3⟩:=hab
  simp only at h1 h2 h3
  subst h2 h3
  cases bo with
  |succ n=>exact .doom _ (.stuck _)
  |zero=>
   try dsimp only
   refine SemR.bind' (R_getObj h1) fun o q ho=>?_
   cases ho with
   |@mapIter r s since seen last hrs=>
    cases r with
    |none=>exact .doom _ (.stuck _)
    |some r=>
     cases s with
     |none=>exact hrs.elim
     |some s=>
      try dsimp only
      cases hb:seen.back? with
      |none=>exact .doom _ (.stuck _)
      |some stamp=>
       try dsimp only
       refine SemR.bind' (R_getObj hrs) fun o q ho=>?_
       cases ho with
       |@map es fs clock hes=>
        try dsimp only
        split
        ·exact .doom _ (Doomed.bind' (.unsupported _))
        ·rcases hes.find (p:=fun e=>e.born==stamp) (q:=fun e=>e.born==stamp) (fun a b hab=>by rw [hab.2.2]) with ⟨e1,e2⟩|⟨x,y,e1,e2,hxy⟩
         ·rw [e1];exact .doom _ (.unsupported _)
         ·rw [e1,e2];exact .pure (.pair hxy.1 hxy.2.1)
       |_=>exact .doom _ (.stuck _)
   |_=>exact .doom _ (.stuck _)
 |_=>exact .doom _ (.stuck _)
theorem R_typeAssert (E:Env P L τ) {v w:Value} (h:VR L τ.all v w) (xt at_:TypeId) (ok:Bool):SemR P G L C τ .own (VR L τ.all) (Instr.typeAssert v xt at_ ok) (Instr.typeAssert w xt at_ ok):=by
 have holds: ∀{x y:Value},VR L τ.all x y→SemR P G L C τ .own (VR L τ.all) (pure (if ok then .tuple #[x,.bool true] else x):Sem Value) (pure (if ok then .tuple #[y,.bool true] else y):Sem Value):=fun hx=>by
  refine .pure ?_
  split
  ·exact .pair hx (.bool _)
  ·exact hx
 have fails: ∀(a b:Option TypeId) (m:String) (q:Option TypeId),SemR P G L C τ .own (VR L τ.all) (if ok then do pure (.tuple #[← zeroValue at_,.bool false]) else runtimePanic (.typeAssertion a b at_ m):Sem Value) (if ok then do pure (.tuple #[← zeroValue at_,.bool false]) else runtimePanic (.typeAssertion a b at_ m):Sem Value):=fun a b m _=>by
  split
  ·exact SemR.bind' (R_zeroValue E at_) fun u v huv=> .pure (.pair huv (.bool _))
  ·exact .doom _ (.runtimePanic _)
 unfold Instr.typeAssert
 refine SemR.bind' (R_underlying at_) ?_
 rintro d _ ⟨rfl,_⟩
 cases d with
 |interface ms=>
  cases h with
  |nilIface=>exact fails _ _ _ none
  |iface t h=>
   try dsimp only
   refine SemR.bind' (R_typeInfo t) ?_
   rintro i _ ⟨rfl,_⟩
   try dsimp only
   split
   ·exact holds (.iface t h)
   ·exact fails _ _ _ none
  |_=>exact .doom _ (.stuck _)
 |_=>
  cases h with
  |nilIface=>exact fails _ _ _ none
  |iface t h=>
   try dsimp only
   split
   ·exact holds h
   ·exact fails _ _ _ none
  |_=>exact .doom _ (.stuck _)
end
end Go.Proofs.YtldmcdeibiclkaaGreatDoor.U
end
