/-
  Toward summed_holds: MAPS WRITTEN, RANGES, ASSERTIONS, OPERATORS, SIDE BY SIDE.
-/
import Derived.Test.YtldmcdeibiclkaaGreatC02
set_option linter.unusedVariables false
set_option linter.unusedSimpArgs false
set_option maxRecDepth 100000
set_option maxHeartbeats 20000000
namespace Go.Proofs.YtldmcdeibiclkaaGreat.U
variable {v w x y:Value}{t src dst:TypeId}{α β:Type}{m:Nat}{a b:Addr}
section
section
variable {P:Program}{G:Array Func}{L:au}{C:FuncId->Code->Prop}{τ:ah}
theorem GP{a b:ByteArray}(h:(a==b)=true):a=b:=by
 obtain⟨a⟩:=a;obtain⟨b⟩:=b;have h':(a==b)=true:=h;rw[Rw.1 h']
theorem JB(a:ByteArray):(a==a)=true:=by
 obtain⟨a⟩:=a;show (a==a)=true;simp
theorem E8(zs:Array α)(p q:α->Bool)(h:∀z∈zs,p z=q z):zs.filter p=zs.filter q:=by
 apply Array.toList_inj.1;simp only[Array.toList_filter];exact List.filter_congr λz hz=>h z (by simpa using hz)
theorem IL(hd:P.underlying t=some .string)(x y:Value)(k:Bool->Sem α)(w:World)(es:Array Event):
  (∃a b,x=.string a/\y=.string b/\(Op.equal t x y >>=k).runT (gp P G) w es=(k (a==b)).runT (gp P G) w es)\/(∃h,(Op.equal t x y >>=k).runT (gp P G) w es=(.halt h w,es)/\jN h)/\Instr.sameNow .string x y=none:=by
 have e: ∃f,Op.equalIn 10000 t x y=underlying t >>=f/\((∃a b,x=.string a/\y=.string b/\f .string=pure (a==b))\/(f .string=stuck "==: the operands do not fit the type, or the type is not comparable" /\Instr.sameNow .string x y=none)):=by
  refine⟨_,by unfold Op.equalIn;rfl,?_⟩;cases x with
  |string a=>
   cases y with
   |string b=>exact .inl ⟨a,b,rfl,rfl,rfl⟩
   |_=>exact .inr ⟨rfl,rfl⟩
  |_=>exact .inr ⟨rfl,rfl⟩
 obtain⟨f,hf,hor⟩:=e;have h1:(Op.equal t x y >>=k).runT (gp P G) w es=((f .string).bind k).runT (gp P G) w es:=by
  show (Op.equalIn 10000 t x y >>=k).runT (gp P G) w es=_;rw[hf];show ((((match P.underlying t with|some d=>Sem.pure d|none=>(stuck "no such type" :Sem TypeDesc)).bind f)).bind k).runT (gp P G) w es=_;rw[hd];rfl
 rcases hor with⟨a,b,rfl,rfl,he⟩|⟨he,hs⟩
 ·refine .inl ⟨a,b,rfl,rfl,?_⟩;rw[h1,he];rfl
 ·refine .inr ⟨⟨.stuck "==: the operands do not fit the type, or the type is not comparable",?_,trivial⟩,hs⟩;rw[h1,he];rfl
theorem zr(hd:P.underlying t=some .string)(x:Value):∀(l:List MapEntry) (i:Nat),Instr.findNow .string x l i=none->ai (gp P G) (Instr.findAsking t x l i)
 |[],_,h=>by cases h
 |e::l,i,h=>λw es=>by
  simp only[Instr.findNow]at h;unfold Instr.findAsking;rcases IL hd x e.key (λr=>if r=true then pure (some (i,e.val)) else Instr.findAsking t x l (i+1)) w es with⟨a,b,rfl,hb,hr⟩|⟨⟨hh,hr,htm⟩,_⟩
  ·rw[hb]at h;simp only[Instr.sameNow]at h;by_cases hab:(a==b)=true
   ·simp[hab]at h
   ·have hab':(a==b)=false:=by simpa using hab
    rw[hab']at h hr;obtain⟨h1,w1,es1,e1,ht,hk⟩:=zr hd (.string a) l (i+1) h w es;exact⟨h1,w1,es1,by rw[hr];exact e1,ht,hk⟩
  ·exact⟨hh,w,es,hr,htm,.refl w⟩
theorem mI:∀(l:List MapEntry) (i0 i:Nat) (v:Value),Instr.findNow .string x l i0=some (some (i,v))->i0<=i/\∃e s,l[i-i0]?=some e/\x=.string s/\e.key=.string s
 |[],_,_,_,h=>by cases h
 |e::l,i0,i,v,h=>by
  simp only[Instr.findNow]at h;cases hs:Instr.sameNow .string x e.key with
  |none=>rw[hs]at h;cases h
  |some b=>
   rw[hs]at h;cases b with
   |true=>
    simp only[QA,QM]at h;obtain⟨rfl,_⟩:=h;have: ∃s,x=.string s/\e.key=.string s:=by
     cases x<;>simp[Instr.sameNow]at hs;rename_i a;cases hk:e.key<;>rw[hk]at hs<;>simp at hs;rename_i b;exact⟨a,rfl,by rw[GP hs]⟩
    obtain⟨s,h1,h2⟩:=this;exact⟨AI _,e,s,by simp,h1,h2⟩
   |false=>
    obtain⟨h1,e',s,h2,h3⟩:=mI l (i0+1) i v h;refine⟨by omega,e',s,?_,h3⟩;rw[show i-i0=(i-(i0+1))+1 by omega];simpa using h2
theorem LW(hd:P.underlying t=some .string){u:Value}(hx:VR L τ.all x u){es fs:Array MapEntry}(h:XR (ER L τ.all) es fs):
  ae P G L C τ .own (λa b=>FR L τ.all 0 a b/\∀i v,a=some (i,v)->∃s e f,x=.string s/\es[i]?=some e/\fs[i]?=some f/\e.key=.string s/\f.key=.string s) (Instr.findKey t x es.toList) (Instr.findKey t u fs.toList):=by
 have hl:=h.list;obtain⟨l,h1,h2,h3⟩:=hl;unfold Instr.findKey;refine ae.bind' (bP t) ?_;rintro d _ ⟨rfl,hd'⟩;rw[hd]at hd';cases hd';rw[h1,h2];rcases uE .string hx l 0 h3 with e|⟨a,b,e1,e2,hab⟩
 ·rw[e];exact .af _ (zr hd x _ _ e)
 ·rw[e1,e2];refine .pure ⟨hab,?_⟩;rintro i v rfl;obtain⟨_,e,s,h4,h5,h6⟩:=mI _ _ _ _ e1;rw[<-h1]at h4;have h4':es[i]?=some e:=by simpa using h4
  rcases h.get? i with⟨h7,_⟩|⟨e',f,h7,h8,h9⟩
  ·rw[h7]at h4';cases h4'
  ·rw[h7]at h4';cases h4';refine⟨s,e,f,h5,h7,h8,h6,?_⟩
   have:=h9.1;rw[h6]at this;cases hk:f.key<;>rw[hk]at this<;>cases this;rfl
theorem Jb(hb:eh τ){kt et:TypeId}(ht:P.underlying t=some (.map kt et))(hd:P.underlying kt=some .string){m n k l:Value}(hm:VR L τ.own m n)(hk:VR L τ.all k l)(hx:VR L τ.all x y):ae P G L C τ .own (λ_ _=>True) (Instr.mapUpdate t m k x) (Instr.mapUpdate t n l y):=by
 unfold Instr.mapUpdate;refine ae.bind' (bP t) ?_;rintro d _ ⟨rfl,hd'⟩;rw[ht]at hd';cases hd';cases hm with
 |iV=>exact .af _ (.runtimePanic _)
 |map hrs=>
  try dsimp only
  refine ae.bind' (jf (hb.own _ _ hrs)) λo q ho=>?_;cases ho with
  |@map es fs c hes=>
   try dsimp only
   refine ae.bind' (oe _ _ kt hk) λ_ _ _=>?_;refine ae.bind' (LW hd hk hes) λa b hab=>?_;match a,b,hab with
   |none,none,_=>
    exact uN hrs (.map _ (hes.push ⟨hk,hx,rfl⟩)) (by intro _ _ _ e;cases e)
   |some (i,u),some (_,v),⟨⟨rfl,huv⟩,hkey⟩=>
    obtain⟨s,e,f,rfl,h1,h2,h3,h4⟩:=hkey i u rfl;cases hk with
    |string=>
     try dsimp only
     rw[h1,h2];simp only[Q7,RM,h3,h4];have hsb:Instr.sameBits 10000 (.string s) (.string s)=true:=by simp only[Instr.sameBits];exact JB s
     simp only[Instr.keyThatStays,hsb,QD];exact uN hrs (.map _ (hes.modify (f:=λe=>{e with key:=.string s,val:=x}) (g:=λe=>{e with key:=.string s,val:=y}) (λa b hab=>⟨.string s,hx,hab.2.2⟩) i)) (by intro _ _ _ e;cases e)
  |_=>exact .am
 |_=>exact .am
theorem L5(t:TypeId)(h:VR L τ.all v w):ae P G L C τ .own (VR L τ.own) (Instr.range t v) (Instr.range t w):=by
 have fin:∀{o q:Obj},OR L τ o q->ae P G L C τ .own (VR L τ.own) (newObj o >>=λr=>pure (.pointer (some ⟨r,0,none⟩))) (newObj q >>=λr=>pure (.pointer (some ⟨r,0,none⟩))):=λho=>
  ae.bind' (pU ho) λr s hr=>.pure (VR.ptr ⟨hr,rfl,rfl⟩)
 unfold Instr.range;refine ae.bind' (bP t) ?_;rintro d _ ⟨rfl,_⟩;cases d with
 |string=>
  cases h with
  |string s=>exact fin (.stringIter s 0)
  |_=>exact .af _ (ai.bind' (.stuck _))
 |map kt et=>
  cases h with
  |iV=>exact fin (.mapIter (r:=none) (s:=none) 0 #[] 0 trivial)
  |map hrs=>
   try dsimp only
   refine ae.bind' (jf hrs) λo q ho=>?_;cases ho with
   |map c hes=>exact fin (.mapIter (r:=some _) (s:=some _) c #[] c hrs)
   |_=>exact .af _ (ai.bind' (.stuck _))
  |_=>exact .af _ (ai.bind' (.stuck _))
 |_=>cases h<;>exact .af _ (ai.bind' (.stuck _))
theorem XR.filter{R:α->β->Prop}{xs:Array α}{ys:Array β}{p:α->Bool}{q:β->Bool}(h:XR R xs ys)(hp:∀a b,R a b->q b=p a):XR R (xs.filter p) (ys.filter q):=by
 obtain⟨zs,rfl,rfl,hz⟩:=h;refine⟨zs.filter λz=>p z.1,?_,?_,λz hm=>hz z (Array.mem_filter.1 hm).1⟩
 ·rw[Array.filter_map];rfl
 ·rw[Array.filter_map];congr 1;exact E8 _ _ _ λz hz'=>hp _ _ (hz z hz')
theorem XR.all{R:α->β->Prop}{xs:Array α}{ys:Array β}{p:α->Bool}{q:β->Bool}(h:XR R xs ys)(hp:∀a b,R a b->q b=p a):ys.all q=xs.all p:=by
 obtain⟨zs,rfl,rfl,hz⟩:=h;rw[Bool.eq_iff_iff];simp only[Array.all_eq_true',Array.mem_map];constructor
 ·rintro h _ ⟨z,hz',rfl⟩;rw[<-hp _ _ (hz z hz')];exact h _ ⟨z,hz',rfl⟩
 ·rintro h _ ⟨z,hz',rfl⟩;rw[hp _ _ (hz z hz')];exact h _ ⟨z,hz',rfl⟩
theorem XR.find{R:α->β->Prop}{xs:Array α}{ys:Array β}{p:α->Bool}{q:β->Bool}(h:XR R xs ys)(hp:∀a b,R a b->q b=p a):(xs.find? p=none/\ys.find? q=none)\/∃x y,xs.find? p=some x/\ys.find? q=some y/\R x y:=by
 obtain⟨l,h1,h2,h3⟩:=h.list;rw[<-Array.find?_toList,<-Array.find?_toList,h1,h2];clear h1 h2;induction l with
 |nil=>exact .inl ⟨rfl,rfl⟩
 |cons z l ih=>
  have:=hp _ _ (h3 z (by simp));simp only[QU,List.find?_cons,this];cases hz:p z.1 with
  |true=>exact .inr ⟨z.1,z.2,rfl,rfl,h3 z (by simp)⟩
  |false=>exact ih λy hy=>h3 y (by simp[hy])
theorem H9(hb:eh τ)(h:VR L τ.own v w)(t:TypeId):ae P G L C τ .own (VR L τ.all) (Instr.next v false t) (Instr.next w false t):=by
 unfold Instr.next;cases h with
 |@ptr a b hab=>
  obtain⟨ab,ao,Qw⟩:=a;obtain⟨bb,bo,bs⟩:=b;obtain⟨h1,h2,h3⟩:=hab;simp only at h1 h2 h3;subst h2 h3;cases bo with
  |succ n=>exact .am
  |zero=>
   try dsimp only
   refine ae.bind' (jf (hb.own _ _ h1)) λo q ho=>?_;cases ho with
   |stringIter s p=>exact .am
   |@mapIter r s since seen last hrs=>
    cases r with
    |none=>
     cases s with
     |none=>exact .pure (.one (.bool _))
     |some s=>exact hrs.elim
    |some r=>
     cases s with
     |none=>exact hrs.elim
     |some s=>
      try dsimp only
      refine ae.bind' (jf hrs) λo q ho=>?_;cases ho with
      |@map es fs clock hes=>
       try dsimp only
       rw[hes.isEmpty,hes.all (p:=λe=>decide (e.born≥last)) (q:=λe=>decide (e.born≥last)) (λa b hab=>by rw[hab.2.2])];split
       ·exact .af _ (ai.bind' (.unsupported _))
       ·have hleft:=hes.filter (p:=λe=>!seen.contains e.born) (q:=λe=>!seen.contains e.born) (λa b hab=>by rw[hab.2.2]);have hold:=hleft.filter (p:=λe=>decide (e.born<since)) (q:=λe=>decide (e.born<since)) (λa b hab=>by rw[hab.2.2]);have hnew:=hleft.filter (p:=λe=>decide (e.born≥since)) (q:=λe=>decide (e.born≥since)) (λa b hab=>by rw[hab.2.2]);rw[hold.isEmpty];have hcand:XR (λa b=>(a=none/\b=none)\/∃x y,a=some x/\b=some y/\ER L τ.all x y)
          ((if ((es.filter λe=>!seen.contains e.born).filter λe=>decide (e.born<since)).isEmpty then #[none] else #[])++(((es.filter λe=>!seen.contains e.born).filter λe=>decide (e.born<since))++((es.filter λe=>!seen.contains e.born).filter λe=>decide (e.born≥since))).map some)
          ((if ((es.filter λe=>!seen.contains e.born).filter λe=>decide (e.born<since)).isEmpty then #[none] else #[])++(((fs.filter λe=>!seen.contains e.born).filter λe=>decide (e.born<since))++((fs.filter λe=>!seen.contains e.born).filter λe=>decide (e.born≥since))).map some):=by
         refine XR.append ?_ ((hold.append hnew).map λa b hab=>.inr ⟨a,b,rfl,rfl,hab⟩);split
         ·exact XR.push (xs:=#[]) (ys:=#[]) .nil (.inl ⟨rfl,rfl⟩)
         ·exact .nil
        rw[hcand.size];refine ae.bind' (pg _) ?_;rintro n _ rfl;rcases hcand.get? n with⟨e1,e2⟩|⟨x,y,e1,e2,(⟨rfl,rfl⟩|⟨x,y,rfl,rfl,hxy⟩)⟩
        ·rw[e1];exact .am
        ·rw[e1,e2];exact .pure (.one (.bool _))
        ·rw[e1,e2];try dsimp only
         rw[hxy.2.2];refine ae.bind' (uN h1 (.mapIter (r:=some _) (s:=some _) _ _ _ hrs) (by intro _ _ _ e;cases e)) λ_ _ _=>?_;exact .pure (.three (.bool _) hxy.1 hxy.2.1)
      |_=>exact .am
   |_=>exact .am
 |_=>exact .am
theorem F7(h:VR L τ.all v w):ae P G L C τ .own (VR L τ.all) (Instr.entry v) (Instr.entry w):=by
 unfold Instr.entry;cases h with
 |@ptr a b hab=>
  obtain⟨ab,ao,Qw⟩:=a;obtain⟨bb,bo,bs⟩:=b;obtain⟨h1,h2,h3⟩:=hab;simp only at h1 h2 h3;subst h2 h3;cases bo with
  |succ n=>exact .am
  |zero=>
   try dsimp only
   refine ae.bind' (jf h1) λo q ho=>?_;cases ho with
   |@mapIter r s since seen last hrs=>
    cases r with
    |none=>exact .am
    |some r=>
     cases s with
     |none=>exact hrs.elim
     |some s=>
      try dsimp only
      cases hb:seen.back? with
      |none=>exact .am
      |some stamp=>
       try dsimp only
       refine ae.bind' (jf hrs) λo q ho=>?_;cases ho with
       |@map es fs clock hes=>
        try dsimp only
        split
        ·exact .af _ (ai.bind' (.unsupported _))
        ·rcases hes.find (p:=λe=>e.born==stamp) (q:=λe=>e.born==stamp) (λa b hab=>by rw[hab.2.2]) with⟨e1,e2⟩|⟨x,y,e1,e2,hxy⟩
         ·rw[e1];exact .am
         ·rw[e1,e2];exact .pure (.pair hxy.1 hxy.2.1)
       |_=>exact .am
   |_=>exact .am
 |_=>exact .am
theorem Gt(E:Env P L τ)(h:VR L τ.all v w)(xt at_:TypeId)(ok:Bool):ae P G L C τ .own (VR L τ.all) (Instr.typeAssert v xt at_ ok) (Instr.typeAssert w xt at_ ok):=by
 have holds:∀{x y:Value},VR L τ.all x y->ae P G L C τ .own (VR L τ.all) (pure (if ok then .tuple #[x,.bool true] else x):Sem Value) (pure (if ok then .tuple #[y,.bool true] else y):Sem Value):=λhx=>by
  refine .pure ?_;split
  ·exact .pair hx (.bool _)
  ·exact hx
 have fails:∀(a b:Option TypeId) (m:String) (q:Option TypeId),ae P G L C τ .own (VR L τ.all) (if ok then do pure (.tuple #[<-zeroValue at_,.bool false]) else runtimePanic (.typeAssertion a b at_ m):Sem Value) (if ok then do pure (.tuple #[<-zeroValue at_,.bool false]) else runtimePanic (.typeAssertion a b at_ m):Sem Value):=λa b m _=>by
  split
  ·exact ae.bind' (kP E at_) λu v huv=>.pure (.pair huv (.bool _))
  ·exact .af _ (.runtimePanic _)
 unfold Instr.typeAssert;refine ae.bind' (bP at_) ?_;rintro d _ ⟨rfl,_⟩;cases d with
 |interface ms=>
  cases h with
  |nilIface=>exact fails _ _ _ none
  |iface t h=>
   try dsimp only
   refine ae.bind' (hU t) ?_;rintro i _ ⟨rfl,_⟩;try dsimp only
   split
   ·exact holds (.iface t h)
   ·exact fails _ _ _ none
  |_=>exact .am
 |_=>
  cases h with
  |nilIface=>exact fails _ _ _ none
  |iface t h=>
   try dsimp only
   split
   ·exact holds h
   ·exact fails _ _ _ none
  |_=>exact .am
end
end
section
section
variable {P:Program}{G:Array Func}{L:au}{C:FuncId->Code->Prop}{τ:ah}
theorem yn(ts:Array TypeId)(t:TypeId)(x:Value):ai (gp P G) (Builtin.unsafeAdd_ ts t #[.pointer none,x]):=by
 unfold Builtin.unsafeAdd_;refine ai.then (.asInt _) λn=>?_;try dsimp only
 split
 ·exact .unsupported _
 ·split
  ·exact ai.bind' (.unsupported _)
  ·exact .unsupported _
theorem vw(ts:Array TypeId)(t:TypeId)(hab:AR τ.all a b)(hx:VR L τ.all x y):ae P G L C τ .own (λp q=>∃c d,p=.pointer (some c)/\q=.pointer (some d)/\AR τ.all c d) (Builtin.unsafeAdd_ ts t #[.pointer (some a),x]) (Builtin.unsafeAdd_ ts t #[.pointer (some b),y]):=by
 unfold Builtin.unsafeAdd_;try dsimp only
 refine ae.bind' (oK hx) ?_;rintro n _ rfl;try dsimp only
 split
 ·refine ae.bind' (Bw hab.1) ?_;rintro _ _ ⟨rfl,rfl⟩;exact .pure ⟨_,_,rfl,rfl,hab⟩
 ·split
  ·exact .af _ (ai.bind' (.unsupported _))
  ·refine ae.bind' (kx hab.1) ?_;rintro z _ rfl;cases z with
   |none=>exact .am
   |some z=>
    try dsimp only
    refine jT ?_;simp only[hab.2.1,FO,yb,tR];split
    ·exact .pure ⟨_,_,rfl,rfl,hab.1,rfl,hab.2.2⟩
    ·exact .am
theorem ni(hb:eh τ)(t:TypeId)(h:VR L τ.all v w)(hp: ∃p,v=.pointer p)(hx:VR L τ.all x y):ae P G L C τ .own (VR L τ.all) (movedNumber t v x) (movedNumber t w y):=by
 unfold movedNumber;refine ae.bind' (bP t) ?_;rintro d _ ⟨rfl,_⟩;try dsimp only
 obtain⟨p,rfl⟩:=hp;cases h with
 |bc=>
  refine .af _ ?_;split
  ·exact ai.bind' (.unsupported _)
  ·exact yn #[] t x
 |@ptr a b hab=>
  split
  ·exact .af _ (ai.bind' (.unsupported _))
  ·refine ae.bind' (fu hab) ?_;rintro⟨a,l⟩ ⟨b,l'⟩ ⟨hab,hl⟩;simp only at hl;subst hl;refine ae.bind' (vw _ _ hab hx) ?_;rintro _ _ ⟨c,d,rfl,rfl,hcd⟩;exact Ka hb hcd _
theorem yi(t:TypeId)(h:VR L τ.all v w)(hp: ∃p,v=.pointer p)(hx:VR L τ.all x y):ae P G L C τ .own (VR L τ.all) (movedPointer t v x) (movedPointer t w y):=by
 unfold movedPointer;obtain⟨p,rfl⟩:=hp;cases h with
 |bc=>exact .af _ (yn #[] t x)
 |@ptr a b hab=>
  try dsimp only
  refine ae.bind' (zK hab.1) ?_;rintro p q (⟨rfl,rfl⟩|⟨c,d,l,rfl,rfl,hcd⟩)
  ·refine ae.mono (vw #[] t hab hx) ?_;rintro _ _ ⟨c,d,rfl,rfl,hcd⟩;exact .ptr hcd
  ·exact .af _ (ai.bind' (.unsupported _))
theorem uQ(k:IntKind)(h:AR τ.all a b)(n:Int):ae P G L C τ .own (VR L τ.all) (Op.addrMod k a n) (Op.addrMod k b n):=by
 unfold Op.addrMod;refine ae.bind' (kx h.1) ?_;rintro z _ rfl;cases z with
 |none=>exact .am
 |some z=>
  try dsimp only
  refine ae.bind' (hU z.1) ?_;rintro i _ ⟨rfl,_⟩;try dsimp only
  split
  ·exact .af _ (ai.bind' (.unsupported _))
  ·refine ae.bind' (lA h) ?_;rintro m _ rfl;exact .pure (.int _ _)
theorem oS(E:Env P L τ){c d:Addr}(h:AR τ.all a b)(h':AR τ.all c d):ae P G L C τ .own bS (Op.twoPlaces a c) (Op.twoPlaces b d):=by
 unfold Op.twoPlaces;refine jT ?_;rw[Bp];by_cases hlo:(a.block !=c.block||decide (a.block≥P.globals.size))=true
 ·rw[IN hlo];exact .af _ (ai.bind' (.unsupported _))
 ·have hlo': ¬(b.block !=d.block||decide (b.block≥P.globals.size))=true:=by
   simp only[Q8,bne_iff_ne,QS,not_or,Decidable.not_not,ge_iff_le,Nat.not_le]at hlo ⊢;exact⟨E.bi.fn _ _ _ (.inl h.1) (.inl (hlo.1▸h'.1)),(E.high _ _ h.1).1 hlo.2⟩
  rw[By hlo,By hlo'];refine ae.bind' (lA h) ?_;rintro x _ rfl;refine ae.bind' (lA h') ?_;rintro y _ rfl;exact .pure rfl
theorem LB(E:Env P L τ)(t:TypeId)(hv:VR L τ.all v w)(hx:VR L τ.all x y):ae P G L C τ .own (VR L τ.all) (binOp .add t v x) (binOp .add t w y):=by
 have _:=E.bi;cases hv with
 |int k a=>
  cases hx with
  |int k' b=>
   unfold binOp;try dsimp only
   split
   ·exact .am
   ·exact .pure (.int _ _)
  |ptr h=>exact ni E.bi.toeh t (.ptr h) ⟨_,rfl⟩ (.int _ _)
  |bc=>exact ni E.bi.toeh t .bc ⟨_,rfl⟩ (.int _ _)
  |_=>exact .am
 |ptr h=>
  cases hx with
  |int k' b=>
   refine ae.bind' (bP t) ?_;rintro d _ ⟨rfl,_⟩;have h1:=yi (P:=P) (G:=G) (C:=C) (L:=L) (τ:=τ) t (v:=.pointer _) (w:=.pointer _) (.ptr h) ⟨_,rfl⟩ (.int k' b);have h2:=ni (P:=P) (G:=G) (C:=C) (L:=L) (τ:=τ) E.bi.toeh t (v:=.pointer _) (w:=.pointer _) (.ptr h) ⟨_,rfl⟩ (.int k' b);cases d<;>first|exact h1|exact h2
  |ptr h'=>exact .am
  |_=>exact .am
 |bc=>
  cases hx with
  |int k' b=>
   refine ae.bind' (bP t) ?_;rintro d _ ⟨rfl,_⟩;have h1:=yi (P:=P) (G:=G) (C:=C) (L:=L) (τ:=τ) t (v:=.pointer _) (w:=.pointer _) .bc ⟨_,rfl⟩ (.int k' b);have h2:=ni (P:=P) (G:=G) (C:=C) (L:=L) (τ:=τ) E.bi.toeh t (v:=.pointer _) (w:=.pointer _) .bc ⟨_,rfl⟩ (.int k' b);cases d<;>first|exact h1|exact h2
  |_=>exact .am
 |string s=>
  cases hx with
  |string s'=>
   show ae P G L C τ .own (VR L τ.all) (Op.stringOp .add s s') (Op.stringOp .add s s');unfold Op.stringOp;try dsimp only
   split
   ·exact .am
   ·exact .pure (.string _)
  |_=>exact .am
 |_=>first|exact .am|(cases hx<;>exact .am)
theorem Hb(E:Env P L τ)(t:TypeId)(hv:VR L τ.all v w)(hx:VR L τ.all x y):ae P G L C τ .own (VR L τ.all) (binOp .sub t v x) (binOp .sub t w y):=by
 have _:=E.bi;cases hv with
 |int k a=>
  cases hx with
  |int k' b=>
   unfold binOp;try dsimp only
   split
   ·exact .am
   ·exact .pure (.int _ _)
  |ptr h=>exact .am
  |bc=>exact .am
  |_=>exact .am
 |ptr h=>
  cases hx with
  |int k' b=>exact ni E.bi.toeh t (.ptr h) ⟨_,rfl⟩ (.int _ _)
  |ptr h'=>
   refine ae.bind' (fu h) ?_;rintro⟨a,l⟩ ⟨b,l'⟩ ⟨hab,hl⟩;refine ae.bind' (fu h') ?_;rintro⟨c,m⟩ ⟨d,m'⟩ ⟨hcd,hm⟩;refine ae.bind' (oS E hab hcd) ?_;rintro⟨x,y⟩ _ rfl;exact .pure (.int _ _)
  |_=>exact .am
 |bc=>
  cases hx with
  |int k' b=>exact ni E.bi.toeh t .bc ⟨_,rfl⟩ (.int _ _)
  |_=>exact .am
 |string s=>
  cases hx with
  |string s'=>
   exact .am
  |_=>exact .am
 |_=>first|exact .am|(cases hx<;>exact .am)
theorem Jk(E:Env P L τ)(t:TypeId)(hv:VR L τ.all v w)(hx:VR L τ.all x y):ae P G L C τ .own (VR L τ.all) (binOp .mul t v x) (binOp .mul t w y):=by
 have _:=E.bi;cases hv with
 |int k a=>
  cases hx with
  |int k' b=>
   unfold binOp;try dsimp only
   split
   ·exact .am
   ·exact .pure (.int _ _)
  |ptr h=>exact .am
  |bc=>exact .am
  |_=>exact .am
 |ptr h=>
  cases hx with
  |int k' b=>exact .am
  |ptr h'=>exact .am
  |_=>exact .am
 |bc=>
  cases hx with
  |int k' b=>exact .am
  |_=>exact .am
 |string s=>
  cases hx with
  |string s'=>
   exact .am
  |_=>exact .am
 |_=>first|exact .am|(cases hx<;>exact .am)
theorem PX(E:Env P L τ)(t:TypeId)(hv:VR L τ.all v w)(hx:VR L τ.all x y):ae P G L C τ .own (VR L τ.all) (binOp .quo t v x) (binOp .quo t w y):=by
 have _:=E.bi;cases hv with
 |int k a=>
  cases hx with
  |int k' b=>
   unfold binOp;try dsimp only
   split
   ·exact .am
   ·show ae P G L C τ .own (VR L τ.all) (Op.intDiv .quo k a b) (Op.intDiv .quo k a b);unfold Op.intDiv;split
    ·exact .af _ (.runtimePanic _)
    ·exact .pure (.int _ _)
  |ptr h=>exact .am
  |bc=>exact .am
  |_=>exact .am
 |ptr h=>
  cases hx with
  |int k' b=>exact .am
  |ptr h'=>exact .am
  |_=>exact .am
 |bc=>
  cases hx with
  |int k' b=>exact .am
  |_=>exact .am
 |string s=>
  cases hx with
  |string s'=>
   exact .am
  |_=>exact .am
 |_=>first|exact .am|(cases hx<;>exact .am)
theorem Mm(E:Env P L τ)(t:TypeId)(hv:VR L τ.all v w)(hx:VR L τ.all x y):ae P G L C τ .own (VR L τ.all) (binOp .rem t v x) (binOp .rem t w y):=by
 have _:=E.bi;cases hv with
 |int k a=>
  cases hx with
  |int k' b=>
   unfold binOp;try dsimp only
   split
   ·exact .am
   ·show ae P G L C τ .own (VR L τ.all) (Op.intDiv .rem k a b) (Op.intDiv .rem k a b);unfold Op.intDiv;split
    ·exact .af _ (.runtimePanic _)
    ·exact .pure (.int _ _)
  |ptr h=>exact .am
  |bc=>exact .am
  |_=>exact .am
 |ptr h=>
  cases hx with
  |int k' b=>
   refine ae.bind' (fu h) ?_;rintro⟨a,l⟩ ⟨b,l'⟩ ⟨hab,hl⟩;exact uQ _ hab _
  |ptr h'=>exact .am
  |_=>exact .am
 |bc=>
  cases hx with
  |int k' b=>exact .am
  |_=>exact .am
 |string s=>
  cases hx with
  |string s'=>
   exact .am
  |_=>exact .am
 |_=>first|exact .am|(cases hx<;>exact .am)
theorem N0(E:Env P L τ)(t:TypeId)(hv:VR L τ.all v w)(hx:VR L τ.all x y):ae P G L C τ .own (VR L τ.all) (binOp .and t v x) (binOp .and t w y):=by
 have _:=E.bi;cases hv with
 |int k a=>
  cases hx with
  |int k' b=>
   unfold binOp;try dsimp only
   split
   ·exact .am
   ·exact .pure (.int _ _)
  |ptr h=>
   refine ae.bind' (fu h) ?_;rintro⟨a,l⟩ ⟨b,l'⟩ ⟨hab,hl⟩;exact uQ _ hab _
  |bc=>exact .am
  |_=>exact .am
 |ptr h=>
  cases hx with
  |int k' b=>
   refine ae.bind' (fu h) ?_;rintro⟨a,l⟩ ⟨b,l'⟩ ⟨hab,hl⟩;exact uQ _ hab _
  |ptr h'=>exact .am
  |_=>exact .am
 |bc=>
  cases hx with
  |int k' b=>exact .am
  |_=>exact .am
 |string s=>
  cases hx with
  |string s'=>
   exact .am
  |_=>exact .am
 |_=>first|exact .am|(cases hx<;>exact .am)
theorem Cq(E:Env P L τ)(t:TypeId)(hv:VR L τ.all v w)(hx:VR L τ.all x y):ae P G L C τ .own (VR L τ.all) (binOp .or t v x) (binOp .or t w y):=by
 have _:=E.bi;cases hv with
 |int k a=>
  cases hx with
  |int k' b=>
   unfold binOp;try dsimp only
   split
   ·exact .am
   ·exact .pure (.int _ _)
  |ptr h=>exact .am
  |bc=>exact .am
  |_=>exact .am
 |ptr h=>
  cases hx with
  |int k' b=>exact .am
  |ptr h'=>exact .am
  |_=>exact .am
 |bc=>
  cases hx with
  |int k' b=>exact .am
  |_=>exact .am
 |string s=>
  cases hx with
  |string s'=>
   exact .am
  |_=>exact .am
 |_=>first|exact .am|(cases hx<;>exact .am)
theorem EA(E:Env P L τ)(t:TypeId)(hv:VR L τ.all v w)(hx:VR L τ.all x y):ae P G L C τ .own (VR L τ.all) (binOp .xor t v x) (binOp .xor t w y):=by
 have _:=E.bi;cases hv with
 |int k a=>
  cases hx with
  |int k' b=>
   unfold binOp;try dsimp only
   split
   ·exact .am
   ·exact .pure (.int _ _)
  |ptr h=>exact .am
  |bc=>exact .am
  |_=>exact .am
 |ptr h=>
  cases hx with
  |int k' b=>exact .am
  |ptr h'=>exact .am
  |_=>exact .am
 |bc=>
  cases hx with
  |int k' b=>exact .am
  |_=>exact .am
 |string s=>
  cases hx with
  |string s'=>
   exact .am
  |_=>exact .am
 |_=>first|exact .am|(cases hx<;>exact .am)
theorem Ld(E:Env P L τ)(t:TypeId)(hv:VR L τ.all v w)(hx:VR L τ.all x y):ae P G L C τ .own (VR L τ.all) (binOp .andNot t v x) (binOp .andNot t w y):=by
 have _:=E.bi;cases hv with
 |int k a=>
  cases hx with
  |int k' b=>
   unfold binOp;try dsimp only
   split
   ·exact .am
   ·exact .pure (.int _ _)
  |ptr h=>exact .am
  |bc=>exact .am
  |_=>exact .am
 |ptr h=>
  cases hx with
  |int k' b=>exact .am
  |ptr h'=>exact .am
  |_=>exact .am
 |bc=>
  cases hx with
  |int k' b=>exact .am
  |_=>exact .am
 |string s=>
  cases hx with
  |string s'=>
   exact .am
  |_=>exact .am
 |_=>first|exact .am|(cases hx<;>exact .am)
theorem My(E:Env P L τ)(t:TypeId)(hv:VR L τ.all v w)(hx:VR L τ.all x y):ae P G L C τ .own (VR L τ.all) (binOp .lss t v x) (binOp .lss t w y):=by
 have _:=E.bi;cases hv with
 |int k a=>
  cases hx with
  |int k' b=>
   unfold binOp;try dsimp only
   split
   ·exact .am
   ·exact .pure (.bool _)
  |ptr h=>exact .am
  |bc=>exact .am
  |_=>exact .am
 |ptr h=>
  cases hx with
  |int k' b=>exact .am
  |ptr h'=>
   refine ae.bind' (fu h) ?_;rintro⟨a,l⟩ ⟨b,l'⟩ ⟨hab,hl⟩;refine ae.bind' (fu h') ?_;rintro⟨c,m⟩ ⟨d,m'⟩ ⟨hcd,hm⟩;refine ae.bind' (oS E hab hcd) ?_;rintro⟨x,y⟩ _ rfl;first|exact .pure (.bool _)|exact .am
  |_=>exact .am
 |bc=>
  cases hx with
  |int k' b=>exact .am
  |_=>exact .am
 |string s=>
  cases hx with
  |string s'=>
   exact .pure (.bool _)
  |_=>exact .am
 |_=>first|exact .am|(cases hx<;>exact .am)
theorem Hx(E:Env P L τ)(t:TypeId)(hv:VR L τ.all v w)(hx:VR L τ.all x y):ae P G L C τ .own (VR L τ.all) (binOp .leq t v x) (binOp .leq t w y):=by
 have _:=E.bi;cases hv with
 |int k a=>
  cases hx with
  |int k' b=>
   unfold binOp;try dsimp only
   split
   ·exact .am
   ·exact .pure (.bool _)
  |ptr h=>exact .am
  |bc=>exact .am
  |_=>exact .am
 |ptr h=>
  cases hx with
  |int k' b=>exact .am
  |ptr h'=>
   refine ae.bind' (fu h) ?_;rintro⟨a,l⟩ ⟨b,l'⟩ ⟨hab,hl⟩;refine ae.bind' (fu h') ?_;rintro⟨c,m⟩ ⟨d,m'⟩ ⟨hcd,hm⟩;refine ae.bind' (oS E hab hcd) ?_;rintro⟨x,y⟩ _ rfl;first|exact .pure (.bool _)|exact .am
  |_=>exact .am
 |bc=>
  cases hx with
  |int k' b=>exact .am
  |_=>exact .am
 |string s=>
  cases hx with
  |string s'=>
   exact .pure (.bool _)
  |_=>exact .am
 |_=>first|exact .am|(cases hx<;>exact .am)
theorem GW(E:Env P L τ)(t:TypeId)(hv:VR L τ.all v w)(hx:VR L τ.all x y):ae P G L C τ .own (VR L τ.all) (binOp .gtr t v x) (binOp .gtr t w y):=by
 have _:=E.bi;cases hv with
 |int k a=>
  cases hx with
  |int k' b=>
   unfold binOp;try dsimp only
   split
   ·exact .am
   ·exact .pure (.bool _)
  |ptr h=>exact .am
  |bc=>exact .am
  |_=>exact .am
 |ptr h=>
  cases hx with
  |int k' b=>exact .am
  |ptr h'=>
   refine ae.bind' (fu h) ?_;rintro⟨a,l⟩ ⟨b,l'⟩ ⟨hab,hl⟩;refine ae.bind' (fu h') ?_;rintro⟨c,m⟩ ⟨d,m'⟩ ⟨hcd,hm⟩;refine ae.bind' (oS E hab hcd) ?_;rintro⟨x,y⟩ _ rfl;first|exact .pure (.bool _)|exact .am
  |_=>exact .am
 |bc=>
  cases hx with
  |int k' b=>exact .am
  |_=>exact .am
 |string s=>
  cases hx with
  |string s'=>
   exact .pure (.bool _)
  |_=>exact .am
 |_=>first|exact .am|(cases hx<;>exact .am)
theorem LX(E:Env P L τ)(t:TypeId)(hv:VR L τ.all v w)(hx:VR L τ.all x y):ae P G L C τ .own (VR L τ.all) (binOp .geq t v x) (binOp .geq t w y):=by
 have _:=E.bi;cases hv with
 |int k a=>
  cases hx with
  |int k' b=>
   unfold binOp;try dsimp only
   split
   ·exact .am
   ·exact .pure (.bool _)
  |ptr h=>exact .am
  |bc=>exact .am
  |_=>exact .am
 |ptr h=>
  cases hx with
  |int k' b=>exact .am
  |ptr h'=>
   refine ae.bind' (fu h) ?_;rintro⟨a,l⟩ ⟨b,l'⟩ ⟨hab,hl⟩;refine ae.bind' (fu h') ?_;rintro⟨c,m⟩ ⟨d,m'⟩ ⟨hcd,hm⟩;refine ae.bind' (oS E hab hcd) ?_;rintro⟨x,y⟩ _ rfl;first|exact .pure (.bool _)|exact .am
  |_=>exact .am
 |bc=>
  cases hx with
  |int k' b=>exact .am
  |_=>exact .am
 |string s=>
  cases hx with
  |string s'=>
   exact .pure (.bool _)
  |_=>exact .am
 |_=>first|exact .am|(cases hx<;>exact .am)
theorem Om(E:Env P L τ)(t:TypeId)(hv:VR L τ.all v w)(hx:VR L τ.all x y):ae P G L C τ .own (VR L τ.all) (binOp .shl t v x) (binOp .shl t w y):=by
 have _:=E.bi;cases hv with
 |int k a=>
  cases hx with
  |int k' b=>
   show ae P G L C τ .own (VR L τ.all) (Op.shift .shl k a k' b) (Op.shift .shl k a k' b);unfold Op.shift;split
   ·exact .af _ (.runtimePanic _)
   ·exact .pure (.int _ _)
  |ptr h=>exact .am
  |bc=>exact .am
  |_=>exact .am
 |ptr h=>
  cases hx with
  |int k' b=>exact .am
  |ptr h'=>exact .am
  |_=>exact .am
 |bc=>
  cases hx with
  |int k' b=>exact .am
  |_=>exact .am
 |string s=>
  cases hx with
  |string s'=>
   exact .am
  |_=>exact .am
 |_=>first|exact .am|(cases hx<;>exact .am)
theorem Ga(E:Env P L τ)(t:TypeId)(hv:VR L τ.all v w)(hx:VR L τ.all x y):ae P G L C τ .own (VR L τ.all) (binOp .shr t v x) (binOp .shr t w y):=by
 have _:=E.bi;cases hv with
 |int k a=>
  cases hx with
  |int k' b=>
   show ae P G L C τ .own (VR L τ.all) (Op.shift .shr k a k' b) (Op.shift .shr k a k' b);unfold Op.shift;split
   ·exact .af _ (.runtimePanic _)
   ·exact .pure (.int _ _)
  |ptr h=>exact .am
  |bc=>exact .am
  |_=>exact .am
 |ptr h=>
  cases hx with
  |int k' b=>exact .am
  |ptr h'=>exact .am
  |_=>exact .am
 |bc=>
  cases hx with
  |int k' b=>exact .am
  |_=>exact .am
 |string s=>
  cases hx with
  |string s'=>
   exact .am
  |_=>exact .am
 |_=>first|exact .am|(cases hx<;>exact .am)
end
end
section
section
variable {P:Program}{G:Array Func}{L:au}{C:FuncId->Code->Prop}{τ:ah}
theorem sY{f:TypeDesc->Sem α}(h:∀d,P.underlying t=some d->ai (gp P G) (f d)):ai (gp P G) (underlying t >>=f):=λw es=>by
 cases hi:P.underlying t with
 |none=>
  refine⟨.stuck "no such type",w,es,?_,trivial,.refl w⟩;show ((match P.underlying t with|some i=>Sem.pure i|none=>(stuck "no such type" :Sem TypeDesc)).bind f).runT (gp P G) w es=_;rw[hi];rfl
 |some i=>
  obtain⟨x,y,z,e,ht,hk⟩:=h i hi w es;refine⟨x,y,z,?_,ht,hk⟩;rw[<-e];show ((match P.underlying t with|some i=>Sem.pure i|none=>(stuck "no such type" :Sem TypeDesc)).bind f).runT (gp P G) w es=_;rw[hi];rfl
theorem vV(hok:eR P m t=true)(hv:(∀b,v≠.bool b)/\(∀k n,v≠.int k n)/\(∀s,v≠.string s)/\(∀p,v≠.pointer p)/\((∀c,v≠.agg c)\/∀c,x≠.agg c)):ai (gp P G) (Op.equal t v x):=by
 show ai (gp P G) (Op.equalIn 10000 t v x);unfold Op.equalIn;refine sY λd hd=>?_;cases m with
 |zero=>cases hok
 |succ m=>
  simp only[eR,hd]at hok;obtain⟨h1,h2,h3,h4,h5⟩:=hv;cases v with
  |bool b=>exact absurd rfl (h1 b)
  |int k n=>exact absurd rfl (h2 k n)
  |string s=>exact absurd rfl (h3 s)
  |pointer p=>exact absurd rfl (h4 p)
  |agg c=>
   cases x with
   |agg c'=>rcases h5 with h|h<;>exact absurd rfl (h _)
   |pointer p=>cases d<;>first|exact .stuck _|exact .unsupported _|cases hok
   |_=>cases d<;>first|exact .stuck _|exact .unsupported _|cases hok
  |_=>
   cases x with
   |pointer p=>cases d<;>first|exact .stuck _|exact .unsupported _|cases hok
   |_=>cases d<;>first|exact .stuck _|exact .unsupported _|cases hok
theorem Ai(hok:eR P m t=true)(v:Value)(f:Fn)(a b:Array Value):ai (gp P G) (Op.equal t v (.func f a b)):=by
 show ai (gp P G) (Op.equalIn 10000 t v (.func f a b));unfold Op.equalIn;refine sY λd hd=>?_;cases m with
 |zero=>cases hok
 |succ m=>
  simp only[eR,hd]at hok;cases v with
  |pointer p=>cases p<;>cases d<;>first|exact .stuck _|exact .unsupported _|cases hok
  |_=>cases d<;>first|exact .stuck _|exact .unsupported _|cases hok
theorem vI(op:BinOp)(t:TypeId)(ox oy:Operand):aP (gp P G) (eqGuard op t ox oy .nilIface .nilIface):=by
 have hin:aP (gp P G) (Op.eqGuardIn Op.maxDepth t .nilIface .nilIface):=by
  show aP (gp P G) (Op.eqGuardIn 10000 t .nilIface .nilIface);unfold Op.eqGuardIn;refine aP.bind (.underlying t) λd=>?_;cases d<;>exact .pure _
 unfold eqGuard;dsimp only;refine aP.ite (.pure _) (aP.ite (.pure _) (aP.bind hin λb=>aP.ite (ai.unsupported _).iE (.pure _)))
theorem KT(E:Env P L τ)(hok:eR P m t=true)(hg:P.eqGuardType P.depth t=false)(ox oy:Operand)(hv:VR L τ.all v w)(hx:VR L τ.all x y):
  ae P G L C τ .own (VR L τ.all) (do eqGuard .eql t ox oy v x;binOp .eql t v x) (do eqGuard .eql t ox oy w y;binOp .eql t w y):=by
 have eq:ae P G L C τ .own (VR L τ.all) (do pure (.bool (← Op.equal t v x)):Sem Value) (do pure (.bool (← Op.equal t w y)):Sem Value):=by
  refine ae.bind' (sw E hok hv hx) ?_;rintro b _ rfl;exact .pure (.bool _)
 have dm:((∀b,v≠.bool b)/\(∀k n,v≠.int k n)/\(∀s,v≠.string s)/\(∀p,v≠.pointer p)/\((∀c,v≠.agg c)\/∀c,x≠.agg c))->ai (gp P G) (do pure (.bool (← Op.equal t v x)):Sem Value):=λh=>ai.bind' (vV hok h);have dj:∀(f:Fn) (a b:Array Value),x=.func f a b->ai (gp P G) (do pure (.bool (← Op.equal t v x)):Sem Value):=λf a b e=>by
  subst e;exact ai.bind' (Ai hok _ _ _ _)
 cases hv with
 |bool b=>exact eq
 |bc=>exact eq
 |ptr h=>exact eq
 |int k a=>
  cases hx with
  |int k' b=>
   show ae P G L C τ .own (VR L τ.all) (if k≠k' then stuck "BinOp: operands of different kinds" else Op.intCmp .eql a b) (if k≠k' then stuck "BinOp: operands of different kinds" else Op.intCmp .eql a b);split
   ·exact .am
   ·exact .pure (.bool _)
  |aW=>exact .af _ (dj _ _ _ rfl)
  |_=>exact eq
 |string s=>
  cases hx with
  |string s'=>exact .pure (.bool _)
  |aW=>exact .af _ (dj _ _ _ rfl)
  |_=>exact eq
 |agg xs h=>
  cases hx with
  |agg ys h'=>
   refine .program (.program ?_);show ae P G L C τ .own (VR L τ.all) ((if (!(gp P G).eqGuardType P.depth t)=true then (pure ():Sem Unit) else _).bind _) ((if (!P.eqGuardType P.depth t)=true then (pure ():Sem Unit) else _).bind _);rw[pE,hg];exact eq
  |_=>exact .af _ (dm ⟨by simp,by simp,by simp,by simp,.inr (by simp)⟩)
 |nilIface=>
  cases hx with
  |nilIface=>
   refine .af _ (ai.then ?_ λ_=>dm ⟨by simp,by simp,by simp,by simp,.inl (by simp)⟩);exact vI _ _ _ _
  |_=>exact .af _ (dm ⟨by simp,by simp,by simp,by simp,.inl (by simp)⟩)
 |_=>exact .af _ (dm ⟨by simp,by simp,by simp,by simp,.inl (by simp)⟩)
theorem L0(E:Env P L τ)(hok:eR P m t=true)(hg:P.eqGuardType P.depth t=false)(ox oy:Operand)(hv:VR L τ.all v w)(hx:VR L τ.all x y):
  ae P G L C τ .own (VR L τ.all) (do eqGuard .neq t ox oy v x;binOp .neq t v x) (do eqGuard .neq t ox oy w y;binOp .neq t w y):=by
 have eq:ae P G L C τ .own (VR L τ.all) (do pure (.bool (!(← Op.equal t v x))):Sem Value) (do pure (.bool (!(← Op.equal t w y))):Sem Value):=by
  refine ae.bind' (sw E hok hv hx) ?_;rintro b _ rfl;exact .pure (.bool _)
 have dm:((∀b,v≠.bool b)/\(∀k n,v≠.int k n)/\(∀s,v≠.string s)/\(∀p,v≠.pointer p)/\((∀c,v≠.agg c)\/∀c,x≠.agg c))->ai (gp P G) (do pure (.bool (!(← Op.equal t v x))):Sem Value):=λh=>ai.bind' (vV hok h);have dj:∀(f:Fn) (a b:Array Value),x=.func f a b->ai (gp P G) (do pure (.bool (!(← Op.equal t v x))):Sem Value):=λf a b e=>by
  subst e;exact ai.bind' (Ai hok _ _ _ _)
 cases hv with
 |bool b=>exact eq
 |bc=>exact eq
 |ptr h=>exact eq
 |int k a=>
  cases hx with
  |int k' b=>
   show ae P G L C τ .own (VR L τ.all) (if k≠k' then stuck "BinOp: operands of different kinds" else Op.intCmp .neq a b) (if k≠k' then stuck "BinOp: operands of different kinds" else Op.intCmp .neq a b);split
   ·exact .am
   ·exact .pure (.bool _)
  |aW=>exact .af _ (dj _ _ _ rfl)
  |_=>exact eq
 |string s=>
  cases hx with
  |string s'=>exact .pure (.bool _)
  |aW=>exact .af _ (dj _ _ _ rfl)
  |_=>exact eq
 |agg xs h=>
  cases hx with
  |agg ys h'=>
   refine .program (.program ?_);show ae P G L C τ .own (VR L τ.all) ((if (!(gp P G).eqGuardType P.depth t)=true then (pure ():Sem Unit) else _).bind _) ((if (!P.eqGuardType P.depth t)=true then (pure ():Sem Unit) else _).bind _);rw[pE,hg];exact eq
  |_=>exact .af _ (dm ⟨by simp,by simp,by simp,by simp,.inr (by simp)⟩)
 |nilIface=>
  cases hx with
  |nilIface=>
   refine .af _ (ai.then ?_ λ_=>dm ⟨by simp,by simp,by simp,by simp,.inl (by simp)⟩);exact vI _ _ _ _
  |_=>exact .af _ (dm ⟨by simp,by simp,by simp,by simp,.inl (by simp)⟩)
 |_=>exact .af _ (dm ⟨by simp,by simp,by simp,by simp,.inl (by simp)⟩)
theorem Lu(op:UnOp)(h:VR L τ.all v w):ae P G L C τ .own (VR L τ.all) (Op.unary op v) (Op.unary op w):=by
 cases op<;>cases h<;>first|exact .pure (.int _ _)|exact .pure (.bool _)|exact .am|exact .am
theorem O5{k k':IntKind}(hs:P.underlying src=some (.int k))(hd:P.underlying dst=some (.int k'))(h:VR L τ.all v w):ae P G L C τ .own (VR L τ.all) (convert src dst v) (convert src dst w):=by
 unfold convert;refine ae.bind' (bP src) ?_;rintro d _ ⟨rfl,h1⟩;rw[hs]at h1;cases h1;refine ae.bind' (bP dst) ?_;rintro d _ ⟨rfl,h1⟩;rw[hd]at h1;cases h1;cases h<;>first|exact .pure (.int _ _)|exact .am
theorem Qj(h:VR L τ.all v w):ae P G L C τ .own (VR L τ.all) (Conv.bytesToString v) (Conv.bytesToString w):=by
 unfold Conv.bytesToString;cases h with
 |fX n c=>exact .pure (.string _)
 |slice n c hab=>
  try dsimp only
  refine ae.bind' (rC hab n) λxs ys hx=>?_;obtain⟨l,h1,h2,h3⟩:=hx.list;rw[<-Array.forIn_toList,<-Array.forIn_toList,h1,h2];refine ae.bind' (pK (R:=VR L τ.all) (S:=bS) ?_ l h3 _ _ rfl) ?_
  ·rintro a b hab s _ rfl;cases hab with
   |int k n=>cases k<;>first|exact .pure (.inr ⟨_,_,rfl,rfl,rfl⟩)|exact .am
   |_=>exact .am
  ·rintro s _ rfl;exact .pure (.string _)
 |_=>exact .am
theorem PK{e:TypeId}(hs:P.underlying src=some (.slice e))(he:P.underlying e=some (.int .u8))(hd:P.underlying dst=some .string)(h:VR L τ.all v w):ae P G L C τ .own (VR L τ.all) (convert src dst v) (convert src dst w):=by
 unfold convert;refine ae.bind' (bP src) ?_;rintro d _ ⟨rfl,h1⟩;rw[hs]at h1;cases h1;refine ae.bind' (bP dst) ?_;rintro d _ ⟨rfl,h1⟩;rw[hd]at h1;cases h1;have h':=h;have fin:ae P G L C τ .own (VR L τ.all) (do match ←underlying e with|.int .u8=>Conv.bytesToString v|.int .i32=>Conv.runesToString v|_=>stuck "Convert: a slice of what to string?") (do match ←underlying e with|.int .u8=>Conv.bytesToString w|.int .i32=>Conv.runesToString w|_=>stuck "Convert: a slice of what to string?"):=by
  refine ae.bind' (bP e) ?_;rintro d _ ⟨rfl,h1⟩;rw[he]at h1;cases h1;exact Qj h'
 cases h with
 |int k n=>exact .pure (.string _)
 |string s=>exact .pure (.string _)
 |aW s h1 h2 h3=>exact .af _ (sY λd hd=>by rw[he]at hd;cases hd;exact .stuck _)
 |_=>exact fin
theorem pk(h:VR L τ.all v w):ae P G L C τ .own bS (Builtin.lenOf v) (Builtin.lenOf w):=by
 cases h<;>first|exact .pure rfl|exact .am
theorem XR.bytes(b:Array UInt8):XR (VR L τ.all) (b.map λx=>Value.int .u8 x.toNat) (b.map λx=>Value.int .u8 x.toNat):=XR.self _ λx hx=>by
 obtain⟨y,_,rfl⟩:=Array.mem_map.1 hx;exact .int _ _
theorem kI(size n:Nat)(h:VR L τ.all v w):ae P G L C τ .own (XR (VR L τ.all)) (Builtin.firstCells size n v) (Builtin.firstCells size n w):=by
 cases h with
 |slice _ _ hab=>exact rC hab _
 |fX=>exact .pure .nil
 |string s=>exact .pure (XR.bytes _)
 |_=>exact .am
theorem XR.zeroCells{xs ys:Array Value}(h:XR (VR L τ.all) xs ys)(n:Nat):XR (VR L τ.all) (Builtin.zeroCells xs n) (Builtin.zeroCells ys n):=by
 unfold Builtin.zeroCells;rw[h.size];exact XR.range _ λi _=>h.tQ _
theorem GU{dt xt:TypeId}(t:TypeId)(hv:VR L τ.own v w)(hx:VR L τ.all x y):ae P G L C τ .own (VR L τ.all) (Builtin.copy_ #[dt,xt] t #[v,x]) (Builtin.copy_ #[dt,xt] t #[w,y]):=by
 unfold Builtin.copy_;show ae P G L C τ .own (VR L τ.all) (underlying dt >>=_) (underlying dt >>=_);refine ae.bind' (bP dt) ?_;rintro d _ ⟨rfl,_⟩;cases d with
 |slice elem=>
  cases hv with
  |fX n c=>
   refine ae.bind' (pk hx) ?_;rintro k _ rfl;refine ae.bind' (dD elem) ?_;rintro z _ rfl;refine ae.bind' (kI z _ hx) λxs ys hxs=>?_;exact .pure (.int _ _)
  |slice n c hab=>
   refine ae.bind' (pk hx) ?_;rintro k _ rfl;refine ae.bind' (dD elem) ?_;rintro z _ rfl;refine ae.bind' (kI z _ hx) λxs ys hxs=>?_;exact ae.bind' (sJ hab hxs) λ_ _ _=>.pure (.int _ _)
  |_=>exact .am
 |_=>exact .am
theorem DO{at_:TypeId}(t:TypeId)(ha:∀d,P.underlying at_=some d->d=.string\/∃e,d=.slice e)(hv:VR L τ.all v w):ae P G L C τ .own (VR L τ.all) (Builtin.len_ #[at_] t #[v]) (Builtin.len_ #[at_] t #[w]):=by
 unfold Builtin.len_;show ae P G L C τ .own (VR L τ.all) (underlying at_ >>=_) (underlying at_ >>=_);refine ae.bind' (bP at_) ?_;rintro d _ ⟨rfl,hd⟩;rcases ha d hd with rfl|⟨e,rfl⟩
 ·cases hv<;>first|exact .pure (.int _ _)|exact .am
 ·cases hv<;>first|exact .pure (.int _ _)|exact .am
theorem FC(hv:VR L τ.all v w)(hx:VR L τ.all x y):ae P G L C τ .own (VR L τ.all) (Builtin.min2 v x) (Builtin.min2 w y):=by
 cases hv<;>cases hx<;>first|exact .pure (.int _ _)|exact .am|exact .am|(refine .pure ?_;split<;>exact .string _)
theorem DQ(hv:VR L τ.all v w)(hx:VR L τ.all x y):ae P G L C τ .own (VR L τ.all) (Builtin.max2 v x) (Builtin.max2 w y):=by
 cases hv<;>cases hx<;>first|exact .pure (.int _ _)|exact .am|exact .am|(refine .pure ?_;split<;>exact .string _)
theorem Lm(ts:Array TypeId)(t:TypeId)(hv:VR L τ.all v w)(hx:VR L τ.all x y):ae P G L C τ .own (VR L τ.all) (Builtin.min_ ts t #[v,x]) (Builtin.min_ ts t #[w,y]):=by
 show ae P G L C τ .own (VR L τ.all) ([x].foldlM Builtin.min2 v) ([y].foldlM Builtin.min2 w);simp only[List.foldlM_cons,List.foldlM_nil];exact ae.bind' (FC hv hx) λa b h=>.pure h
theorem EW(ts:Array TypeId)(t:TypeId)(hv:VR L τ.all v w)(hx:VR L τ.all x y):ae P G L C τ .own (VR L τ.all) (Builtin.max_ ts t #[v,x]) (Builtin.max_ ts t #[w,y]):=by
 show ae P G L C τ .own (VR L τ.all) ([x].foldlM Builtin.max2 v) ([y].foldlM Builtin.max2 w);simp only[List.foldlM_cons,List.foldlM_nil];exact ae.bind' (DQ hv hx) λa b h=>.pure h
theorem Hm(hb:eh τ)(ts:Array TypeId)(t:TypeId)(hv:VR L τ.own v w)(hx:VR L τ.all x y):ae P G L C τ .own (VR L τ.all) (Builtin.unsafeString_ ts t #[v,x]) (Builtin.unsafeString_ ts t #[w,y]):=by
 unfold Builtin.unsafeString_;cases hv with
 |bc=>
  refine ae.bind' (oK hx) ?_;rintro n _ rfl;cases hts:ts[0]? with
  |none=>exact .am
  |some pt=>
   try dsimp only
   split
   ·exact .af _ (ai.bind' (.runtimePanic _))
   ·split
    ·exact .af _ (ai.bind' (.unsupported _))
    ·split
     ·exact .pure (.string _)
     ·exact .af _ (.runtimePanic _)
 |ptr hab=>
  refine ae.bind' (oK hx) ?_;rintro n _ rfl;cases hts:ts[0]? with
  |none=>exact .am
  |some pt=>
   try dsimp only
   split
   ·exact .af _ (ai.bind' (.runtimePanic _))
   ·split
    ·exact .af _ (ai.bind' (.unsupported _))
    ·split
     ·exact .pure (.string _)
     ·refine ae.bind' (Fo pt) ?_;rintro e _ rfl;refine ae.bind' (Ge (hab.mono hb.own) e _) ?_;rintro b _ rfl;try dsimp only
      split
      ·refine ae.bind' (wq _ (hab.mono hb.own) _) ?_;rintro s _ rfl;exact ae.bind' (IQ hab _) λ_ _ _=>.pure (.string _)
      ·exact .am
 |_=>exact .am
end
end
end Go.Proofs.YtldmcdeibiclkaaGreat.U
