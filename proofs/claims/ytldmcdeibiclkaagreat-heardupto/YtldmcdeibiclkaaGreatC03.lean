/-
  Toward all_holds
-/
import Derived.Test.YtldmcdeibiclkaaGreatC02
import Derived.Test.YtldmcdeibiclkaaGreatC01
set_option linter.all false
noncomputable section
set_option maxRecDepth 100000
set_option maxHeartbeats 20000000
namespace Go.Proofs.YtldmcdeibiclkaaGreat.U
variable {v w x y:ag}{t src dst:ak}{α β:Type}{m:Nat}{b:Addr}
section
section
variable {P:aj}{G:Array Func}{L:aR}{C:au->Code->Prop}{τ:aJ}
theorem Rw{a b:ah}(h:(a==b)=true):a=b:=by
 obtain⟨a⟩:=a;obtain⟨b⟩:=b;have c:(a==b)=true:=h;rw[abt.1 c]
theorem SN(a:ah):(a==a)=true:=by
 obtain⟨a⟩:=a;show(a==a)=true;simp
theorem Xe(zs:Array α)(p q:α->Bool)(h:∀z∈zs,p z=q z):zs.filter p=zs.filter q:=by
 apply Array.toList_inj.1;simp only[Array.toList_filter];exact List.filter_congr λz a=>h z (by simpa using a)
theorem QP(j:P.underlying t=some .string)(x y:ag)(k:Bool->Sem α)(w:af)(es:Array Event):
  (∃a b,x=.string a/\y=.string b/\(Op.equal t x y >>=k).runT (gp P G) w es=(k (a==b)).runT (gp P G) w es)\/(∃h,(Op.equal t x y >>=k).runT (gp P G) w es=(.halt h w,es)/\nI h)/\Instr.sameNow .string x y=none:=by
 have e: ∃f,Op.equalIn 10000 t x y=underlying t >>=f/\((∃a b,x=.string a/\y=.string b/\f .string=pure (a==b))\/(f .string=stuck "==: the operands do not fit the type, or the type is not comparable" /\Instr.sameNow .string x y=none)):=by
  refine⟨_,by unfold Op.equalIn;rfl,?_⟩;cases x with
  |string a=>
   cases y with
   |string b=>grind
   |_=>exact .inr ⟨rfl,rfl⟩
  |_=>exact .inr ⟨rfl,rfl⟩
 obtain⟨f,l,c⟩:=e;have i:(Op.equal t x y >>=k).runT (gp P G) w es=((f .string).bind k).runT (gp P G) w es:=by
  show(Op.equalIn 10000 t x y >>=k).runT (gp P G) w es=_;rw[l];show((((match P.underlying t with|some d=>Sem.pure d|none=>(stuck "no such type" :Sem TypeDesc)).bind f)).bind k).runT (gp P G) w es=_;rw[j];rfl
 rcases c with⟨a,b,rfl,rfl,g⟩|⟨g,hs⟩
 .refine .inl ⟨a,b,rfl,rfl,?_⟩;rw[i,g];rfl
 .refine .inr ⟨⟨.stuck "==: the operands do not fit the type, or the type is not comparable",?_,trivial⟩,hs⟩;rw[i,g];rfl
theorem I3(j:P.underlying t=some .string)(x:ag):∀(l:List aw) (i:Nat),Instr.findNow .string x l i=none->aM (gp P G) (Instr.findAsking t x l i)
 |[],_,h=>by cases h
 |e::l,i,h=>λw es=>by
  simp only[Instr.findNow]at h;unfold Instr.findAsking;rcases QP j x e.key (λr=>if r=true then pure (some (i,e.val)) else Instr.findAsking t x l (i+1)) w es with⟨a,b,rfl,hb,f⟩|⟨⟨k,f,g⟩,_⟩
  .rw[hb]at h;simp only[Instr.sameNow]at h;by_cases c:(a==b)=true
   .simp[c]at h
   .have d:(a==b)=false:=by simpa using c
    rw[d]at h f;obtain⟨n,w1,es1,o,p,q⟩:=I3 j (.string a) l (i+1) h w es;exact⟨n,w1,es1,by rw[f];exact o,p,q⟩
  .exact⟨k,w,es,f,g,.refl w⟩
theorem sT:∀(l:List aw) (c i:Nat) (v:ag),Instr.findNow .string x l c=some (some (i,v))->c<=i/\∃e s,l[i-c]?=some e/\x=.string s/\e.key=.string s
 |[],_,_,_,h=>by cases h
 |e::l,c,i,v,h=>by
  simp only[Instr.findNow]at h;cases hs:Instr.sameNow .string x e.key with
  |none=>rw[hs]at h;cases h
  |some b=>
   rw[hs]at h;cases b with
   |true=>
    simp only[aaX,abx]at h;obtain⟨rfl,_⟩:=h;have: ∃s,x=.string s/\e.key=.string s:=by
     cases x<;>simp[Instr.sameNow]at hs;rename_i a;cases d:e.key<;>rw[d]at hs<;>simp at hs;rename_i b;exact⟨a,rfl,by rw[Rw hs]⟩
    grind
   |false=>
    obtain⟨f,g,s,j,k⟩:=sT l (c+1) i v h;grind
theorem XE(n:P.underlying t=some .string){u:ag}(z:VR L τ.all x u){es fs:Array aw}(h:XR (ER L τ.all) es fs):
  aD P G L C τ .own (λa b=>FR L τ.all 0 a b/\∀i v,a=some (i,v)->∃s e f,x=.s s/\es[i]?=some e/\fs[i]?=some f/\e.key=.s s/\f.key=.s s) (Instr.findKey t x es.toList) (Instr.findKey t u fs.toList):=by
 have hl:=h.list;obtain⟨l,o,A,B⟩:=hl;unfold Instr.findKey;refine aD.bind' (dG t) ?_;rintro d _ ⟨rfl,c⟩;rw[n]at c;cases c;rw[o,A];rcases yo .string z l 0 B with e|⟨a,b,p,D,j⟩
 .rw[e];exact .aE _ (I3 n x _ _ e)
 .rw[p,D];refine .pure ⟨j,?_⟩;rintro i v rfl;obtain⟨_,e,s,q,E,r⟩:=sT _ _ _ _ p;rw[<-o]at q;have g:es[i]?=some e:=by simpa using q
  rcases h.get? i with⟨k,_⟩|⟨J,f,k,F,H⟩
  .grind
  .rw[k]at g;cases g;refine⟨s,e,f,E,k,F,r,?_⟩
   have:=H.1;rw[r]at this;cases I:f.key<;>rw[I]at this<;>cases this;rfl
theorem OZ(hb:gU τ){kt E:ak}(F:P.underlying t=some (.map kt E))(H:P.underlying kt=some .string){m n k l:ag}(I:VR L τ.own m n)(A:VR L τ.all k l)(D:VR L τ.all x y):aD P G L C τ .own (λ_ _=>True) (Instr.mapUpdate t m k x) (Instr.mapUpdate t n l y):=by
 unfold Instr.mapUpdate;refine aD.bind' (dG t) ?_;rintro d _ ⟨rfl,r⟩;rw[F]at r;cases r;cases I with
 |mD=>exact .aE _ (.runtimePanic _)
 |map h=>
  try dsimp only
  refine aD.bind' (oc (hb.own _ _ h)) λo q J=>?_;cases J with
  |@map es fs c j=>
   try dsimp only
   refine aD.bind' (tQ _ _ kt A) λ_ _ _=>?_;refine aD.bind' (XE H A j) λa b p=>?_;match a,b,p with
   |none,none,_=>
    exact yx h (.map _ (j.push ⟨A,D,rfl⟩)) (by intro _ _ _ e;cases e)
   |some (i,u),some (_,v),⟨⟨rfl,K⟩,z⟩=>
    obtain⟨s,e,f,rfl,M,N,O,Q⟩:=z i u rfl;cases A with
    |string=>
     try dsimp only
     rw[M,N];simp only[aca,Option.getD_some,O,Q];have B:Instr.sameBits 10000 (.s s) (.s s)=true:=by simp only[Instr.sameBits];exact SN s
     simp only[Instr.keyThatStays,B,abj];exact yx h (.map _ (j.modify (f:=λe=>{e with key:=.string s,val:=x}) (g:=λe=>{e with key:=.string s,val:=y}) (λa b p=>⟨.string s,D,p.2.2⟩) i)) (by intro _ _ _ e;cases e)
  |_=>exact .aa
 |_=>exact .aa
theorem Ug(t:ak)(h:VR L τ.all v w):aD P G L C τ .own (VR L τ.own) (Instr.range t v) (Instr.range t w):=by
 have fin:∀{o q:Obj},OR L τ o q->aD P G L C τ .own (VR L τ.own) (newObj o >>=λr=>pure (.p r)) (newObj q >>=λr=>pure (.p r)):=λe=>
  aD.bind' (xf e) λr s f=>.pure (VR.ptr ⟨f,rfl,rfl⟩)
 unfold Instr.range;refine aD.bind' (dG t) ?_;rintro d _ ⟨rfl,_⟩;cases d with
 |string=>
  cases h with
  |string s=>exact fin (.stringIter s 0)
  |_=>exact .aE _ (aM.bind' (.stuck _))
 |map i j=>
  cases h with
  |mD=>exact fin (.mapIter (r:=none) (s:=none) 0 #[] 0 trivial)
  |map a=>
   try dsimp only
   refine aD.bind' (oc a) λo q e=>?_;cases e with
   |map c g=>exact fin (.mapIter (r:=some _) (s:=some _) c #[] c a)
   |_=>exact .aE _ (aM.bind' (.stuck _))
  |_=>exact .aE _ (aM.bind' (.stuck _))
 |_=>cases h<;>exact .aE _ (aM.bind' (.stuck _))
theorem XR.filter{R:α->β->Prop}{xs:Array α}{ys:Array β}{p:α->Bool}{q:β->Bool}(h:XR R xs ys)(e:∀a b,R a b->q b=p a):XR R (xs.filter p) (ys.filter q):=by
 obtain⟨zs,rfl,rfl,d⟩:=h;refine⟨zs.filter λz=>p z.1,?_,?_,λz f=>d z (Array.mem_filter.1 f).1⟩
 .rw[Array.filter_map];rfl
 .rw[Array.filter_map];congr 1;exact Xe _ _ _ λz c=>e _ _ (d z c)
theorem XR.all{R:α->β->Prop}{xs:Array α}{ys:Array β}{p:α->Bool}{q:β->Bool}(h:XR R xs ys)(c:∀a b,R a b->q b=p a):ys.all q=xs.all p:=by
 obtain⟨zs,rfl,rfl,d⟩:=h;grind
theorem XR.find{R:α->β->Prop}{xs:Array α}{ys:Array β}{p:α->Bool}{q:β->Bool}(h:XR R xs ys)(e:∀a b,R a b->q b=p a):(xs.find? p=none/\ys.find? q=none)\/∃x y,xs.find? p=some x/\ys.find? q=some y/\R x y:=by
 obtain⟨l,c,d,f⟩:=h.list;rw[<-Array.find?_toList,<-Array.find?_toList,c,d];clear c d;induction l with
 |nil=>grind
 |cons z l g=>
  grind
theorem Xr(hb:gU τ)(h:VR L τ.own v w)(t:ak):aD P G L C τ .own (VR L τ.all) (Instr.next v false t) (Instr.next w false t):=by
 unfold Instr.next;cases h with
 |@ptr a b c=>
  obtain⟨E,F,aaN⟩:=a;obtain⟨bb,bo,bs⟩:=b;obtain⟨u,B,D⟩:=c;simp only at u B D;subst B D;cases bo with
  |succ n=>exact .aa
  |zero=>
   try dsimp only
   refine aD.bind' (oc (hb.own _ _ u)) λo q z=>?_;cases z with
   |stringIter s p=>exact .aa
   |@mapIter r s since seen last g=>
    cases r with
    |none=>
     cases s with
     |none=>exact .pure (.one (.bool _))
     |some s=>exact g.elim
    |some r=>
     cases s with
     |none=>exact g.elim
     |some s=>
      try dsimp only
      refine aD.bind' (oc g) λo q z=>?_;cases z with
      |@map es fs clock i=>
       try dsimp only
       rw[i.isEmpty,i.all (p:=λe=>decide (e.born≥last)) (q:=λe=>decide (e.born≥last)) (λa b c=>by rw[c.2.2])];split
       .exact .aE _ (aM.bind' (.unsupported _))
       .have d:=i.filter (p:=λe=>!seen.contains e.born) (q:=λe=>!seen.contains e.born) (λa b c=>by rw[c.2.2]);have hold:=d.filter (p:=λe=>decide (e.born<since)) (q:=λe=>decide (e.born<since)) (λa b c=>by rw[c.2.2]);have k:=d.filter (p:=λe=>decide (e.born≥since)) (q:=λe=>decide (e.born≥since)) (λa b c=>by rw[c.2.2]);rw[hold.isEmpty];have f:XR (λa b=>(a=none/\b=none)\/∃x y,a=some x/\b=some y/\ER L τ.all x y)
          ((if ((es.filter λe=>!seen.contains e.born).filter λe=>decide (e.born<since)).isEmpty then #[none] else #[])++(((es.filter λe=>!seen.contains e.born).filter λe=>decide (e.born<since))++((es.filter λe=>!seen.contains e.born).filter λe=>decide (e.born≥since))).map some)
          ((if ((es.filter λe=>!seen.contains e.born).filter λe=>decide (e.born<since)).isEmpty then #[none] else #[])++(((fs.filter λe=>!seen.contains e.born).filter λe=>decide (e.born<since))++((fs.filter λe=>!seen.contains e.born).filter λe=>decide (e.born≥since))).map some):=by
         refine XR.append ?_ ((hold.append k).map λa b c=>.inr ⟨a,b,rfl,rfl,c⟩);split
         .exact XR.push (xs:=#[]) (ys:=#[]) .nil (.inl ⟨rfl,rfl⟩)
         .exact .nil
        rw[f.size];refine aD.bind' (ui _) ?_;rintro n _ rfl;rcases f.get? n with⟨l,A⟩|⟨x,y,l,A,(⟨rfl,rfl⟩|⟨x,y,rfl,rfl,j⟩)⟩
        .rw[l];exact .aa
        .rw[l,A];exact .pure (.one (.bool _))
        .rw[l,A];try dsimp only
         rw[j.2.2];refine aD.bind' (yx u (.mapIter (r:=some _) (s:=some _) _ _ _ g) (by intro _ _ _ e;cases e)) λ_ _ _=>?_;exact .pure (.three (.bool _) j.1 j.2.1)
      |_=>exact .aa
   |_=>exact .aa
 |_=>exact .aa
theorem QD(h:VR L τ.all v w):aD P G L C τ .own (VR L τ.all) (Instr.entry v) (Instr.entry w):=by
 unfold Instr.entry;cases h with
 |@ptr a b d=>
  obtain⟨B,D,aaN⟩:=a;obtain⟨bb,bo,bs⟩:=b;obtain⟨l,u,z⟩:=d;simp only at l u z;subst u z;cases bo with
  |succ n=>exact .aa
  |zero=>
   try dsimp only
   refine aD.bind' (oc l) λo q i=>?_;cases i with
   |@mapIter r s since seen last f=>
    cases r with
    |none=>exact .aa
    |some r=>
     cases s with
     |none=>exact f.elim
     |some s=>
      try dsimp only
      cases hb:seen.back? with
      |none=>exact .aa
      |some c=>
       try dsimp only
       refine aD.bind' (oc f) λo q i=>?_;cases i with
       |@map es fs clock j=>
        try dsimp only
        split
        .exact .aE _ (aM.bind' (.unsupported _))
        .rcases j.find (p:=λe=>e.born==c) (q:=λe=>e.born==c) (λa b d=>by rw[d.2.2]) with⟨k,A⟩|⟨x,y,k,A,g⟩
         .rw[k];exact .aa
         .rw[k,A];exact .pure (.pair g.1 g.2.1)
       |_=>exact .aa
   |_=>exact .aa
 |_=>exact .aa
theorem aaa(E:Env P L τ)(h:VR L τ.all v w)(f at_:ak)(ok:Bool):aD P G L C τ .own (VR L τ.all) (Instr.typeAssert v f at_ ok) (Instr.typeAssert w f at_ ok):=by
 have holds:∀{x y:ag},VR L τ.all x y->aD P G L C τ .own (VR L τ.all) (pure (if ok then .tuple #[x,.bool true] else x):Sem ag) (pure (if ok then .tuple #[y,.bool true] else y):Sem ag):=λg=>by
  refine .pure ?_;split
  .exact .pair g (.bool _)
  .exact g
 have c:∀(a b:Option ak) (m:String) (q:Option ak),aD P G L C τ .own (VR L τ.all) (if ok then do pure (.tuple #[<-zeroValue at_,.bool false]) else runtimePanic (.typeAssertion a b at_ m):Sem ag) (if ok then do pure (.tuple #[<-zeroValue at_,.bool false]) else runtimePanic (.typeAssertion a b at_ m):Sem ag):=λa b m _=>by
  split
  .exact aD.bind' (pM E at_) λu v e=>.pure (.pair e (.bool _))
  .exact .aE _ (.runtimePanic _)
 unfold Instr.typeAssert;refine aD.bind' (dG at_) ?_;rintro d _ ⟨rfl,_⟩;cases d with
 |interface j=>
  cases h with
  |nilIface=>exact c _ _ _ none
  |iface t h=>
   try dsimp only
   refine aD.bind' (kX t) ?_;rintro i _ ⟨rfl,_⟩;try dsimp only
   split
   .exact holds (.iface t h)
   simp_all
  |_=>exact .aa
 |_=>
  cases h with
  |nilIface=>exact c _ _ _ none
  |iface t h=>
   try dsimp only
   split
   .exact holds h
   .exact c _ _ _ none
  |_=>exact .aa
end
end
section
section
variable {P:aj}{G:Array Func}{L:aR}{C:au->Code->Prop}{τ:aJ}
theorem GL(a:Array ak)(t:ak)(x:ag):aM (gp P G) (Builtin.unsafeAdd_ a t #[.pointer none,x]):=by
 unfold Builtin.unsafeAdd_;refine aM.then (.asInt _) λn=>?_;try dsimp only
 split
 .exact .unsupported _
 .split
  .exact aM.bind' (.unsupported _)
  .exact .unsupported _
theorem ID(f:Array ak)(t:ak){a:Addr}(e:AR τ.all a b)(g:VR L τ.all x y):aD P G L C τ .own (λp q=>∃c d,p=.pointer (some c)/\q=.pointer (some d)/\AR τ.all c d) (Builtin.unsafeAdd_ f t #[.pointer (some a),x]) (Builtin.unsafeAdd_ f t #[.pointer (some b),y]):=by
 unfold Builtin.unsafeAdd_;try dsimp only
 refine aD.bind' (ua g) ?_;rintro n _ rfl;try dsimp only
 split
 .refine aD.bind' (Ju e.1) ?_;rintro _ _ ⟨rfl,rfl⟩;exact .pure ⟨_,_,rfl,rfl,e⟩
 .split
  .exact .aE _ (aM.bind' (.unsupported _))
  .refine aD.bind' (pZ e.1) ?_;rintro z _ rfl;cases z with
   |none=>exact .aa
   |some z=>
    try dsimp only
    refine oV ?_;simp only[e.2.1,Qt,DI,A8];split
    .exact .pure ⟨_,_,rfl,rfl,e.1,rfl,e.2.2⟩
    .exact .aa
theorem rG(hb:gU τ)(t:ak)(h:VR L τ.all v w)(g: ∃p,v=.pointer p)(i:VR L τ.all x y):aD P G L C τ .own (VR L τ.all) (movedNumber t v x) (movedNumber t w y):=by
 unfold movedNumber;refine aD.bind' (dG t) ?_;rintro d _ ⟨rfl,_⟩;try dsimp only
 obtain⟨p,rfl⟩:=g;cases h with
 |bZ=>
  refine .aE _ ?_;split
  .exact aM.bind' (.unsupported _)
  .exact GL #[] t x
 |@ptr a b e=>
  split
  .exact .aE _ (aM.bind' (.unsupported _))
  .refine aD.bind' (jk e) ?_;rintro⟨a,l⟩ ⟨b,j⟩ ⟨e,hl⟩;simp only at hl;subst hl;refine aD.bind' (ID _ _ e i) ?_;rintro _ _ ⟨c,d,rfl,rfl,f⟩;exact YV hb f _
theorem F2(t:ak)(h:VR L τ.all v w)(g: ∃p,v=.pointer p)(i:VR L τ.all x y):aD P G L C τ .own (VR L τ.all) (movedPointer t v x) (movedPointer t w y):=by
 unfold movedPointer;obtain⟨p,rfl⟩:=g;cases h with
 |bZ=>exact .aE _ (GL #[] t x)
 |@ptr a b e=>
  try dsimp only
  refine aD.bind' (CM e.1) ?_;rintro p q (⟨rfl,rfl⟩|⟨c,d,l,rfl,rfl,f⟩)
  .refine aD.mono (ID #[] t e i) ?_;rintro _ _ ⟨c,d,rfl,rfl,f⟩;exact .ptr f
  .exact .aE _ (aM.bind' (.unsupported _))
theorem yR(k:IntKind){a:Addr}(h:AR τ.all a b)(n:Int):aD P G L C τ .own (VR L τ.all) (Op.addrMod k a n) (Op.addrMod k b n):=by
 unfold Op.addrMod;refine aD.bind' (pZ h.1) ?_;rintro z _ rfl;cases z with
 |none=>exact .aa
 |some z=>
  try dsimp only
  refine aD.bind' (kX z.1) ?_;rintro i _ ⟨rfl,_⟩;try dsimp only
  split
  .exact .aE _ (aM.bind' (.unsupported _))
  .refine aD.bind' (qW h) ?_;rintro m _ rfl;exact .pure (.int _ _)
theorem uC(E:Env P L τ){a c d:Addr}(h:AR τ.all a b)(g:AR τ.all c d):aD P G L C τ .own dM (Op.twoPlaces a c) (Op.twoPlaces b d):=by
 unfold Op.twoPlaces;refine oV ?_;rw[JV];by_cases e:(a.block !=c.block||decide (a.block≥P.globals.size))=true
 .rw[BY e];exact .aE _ (aM.bind' (.unsupported _))
 .have f: ¬(b.block !=d.block||decide (b.block≥P.globals.size))=true:=by
   simp only[abS,bne_iff_ne,abb,not_or,Decidable.not_not,ge_iff_le,Nat.not_le]at e ⊢;exact⟨E.bi.fn _ _ _ (.inl h.1) (.inl (e.1▸g.1)),(E.high _ _ h.1).1 e.2⟩
  rw[AT e,AT f];refine aD.bind' (qW h) ?_;rintro x _ rfl;refine aD.bind' (qW g) ?_;rintro y _ rfl;exact .pure rfl
theorem Ph(E:Env P L τ)(t:ak)(hv:VR L τ.all v w)(c:VR L τ.all x y):aD P G L C τ .own (VR L τ.all) (binOp .add t v x) (binOp .add t w y):=by
 have _:=E.bi;cases hv with
 |int k a=>
  cases c with
  |int k' b=>
   unfold binOp;try dsimp only
   split
   .exact .aa
   .exact .pure (.int _ _)
  |ptr h=>exact rG E.bi.togU t (.ptr h) ⟨_,rfl⟩ (.int _ _)
  |bZ=>exact rG E.bi.togU t .bZ ⟨_,rfl⟩ (.int _ _)
  |_=>exact .aa
 |ptr h=>
  cases c with
  |int k' b=>
   refine aD.bind' (dG t) ?_;rintro d _ ⟨rfl,_⟩;have f:=F2 (P:=P) (G:=G) (C:=C) (L:=L) (τ:=τ) t (v:=.pointer _) (w:=.pointer _) (.ptr h) ⟨_,rfl⟩ (.int k' b);have g:=rG (P:=P) (G:=G) (C:=C) (L:=L) (τ:=τ) E.bi.togU t (v:=.pointer _) (w:=.pointer _) (.ptr h) ⟨_,rfl⟩ (.int k' b);grind
  |ptr i=>exact .aa
  |_=>exact .aa
 |bZ=>
  cases c with
  |int k' b=>
   refine aD.bind' (dG t) ?_;rintro d _ ⟨rfl,_⟩;have f:=F2 (P:=P) (G:=G) (C:=C) (L:=L) (τ:=τ) t (v:=.pointer _) (w:=.pointer _) .bZ ⟨_,rfl⟩ (.int k' b);have g:=rG (P:=P) (G:=G) (C:=C) (L:=L) (τ:=τ) E.bi.togU t (v:=.pointer _) (w:=.pointer _) .bZ ⟨_,rfl⟩ (.int k' b);grind
  |_=>exact .aa
 |string s=>
  cases c with
  |string e=>
   show aD P G L C τ .own (VR L τ.all) (Op.stringOp .add s e) (Op.stringOp .add s e);unfold Op.stringOp;try dsimp only
   split
   .exact .aa
   .exact .pure (.string _)
  |_=>exact .aa
 |_=>first|exact .aa|(cases c<;>exact .aa)
theorem NK(E:Env P L τ)(t:ak)(hv:VR L τ.all v w)(e:VR L τ.all x y):aD P G L C τ .own (VR L τ.all) (binOp .sub t v x) (binOp .sub t w y):=by
 have _:=E.bi;cases hv with
 |int k a=>
  cases e with
  |int k' b=>
   unfold binOp;try dsimp only
   split
   .exact .aa
   .exact .pure (.int _ _)
  |ptr h=>exact .aa
  |bZ=>exact .aa
  |_=>exact .aa
 |ptr h=>
  cases e with
  |int k' b=>exact rG E.bi.togU t (.ptr h) ⟨_,rfl⟩ (.int _ _)
  |ptr i=>
   refine aD.bind' (jk h) ?_;rintro⟨a,l⟩ ⟨b,j⟩ ⟨f,hl⟩;refine aD.bind' (jk i) ?_;rintro⟨c,m⟩ ⟨d,n⟩ ⟨g,o⟩;refine aD.bind' (uC E f g) ?_;rintro⟨x,y⟩ _ rfl;exact .pure (.int _ _)
  |_=>exact .aa
 |bZ=>
  cases e with
  |int k' b=>exact rG E.bi.togU t .bZ ⟨_,rfl⟩ (.int _ _)
  |_=>exact .aa
 |string s=>
  cases e with
  |string p=>
   exact .aa
  |_=>exact .aa
 |_=>first|exact .aa|(cases e<;>exact .aa)
theorem RG(E:Env P L τ)(t:ak)(hv:VR L τ.all v w)(c:VR L τ.all x y):aD P G L C τ .own (VR L τ.all) (binOp .mul t v x) (binOp .mul t w y):=by
 have _:=E.bi;cases hv with
 |int k a=>
  cases c with
  |int k' b=>
   unfold binOp;try dsimp only
   split
   .exact .aa
   .exact .pure (.int _ _)
  |ptr h=>exact .aa
  |bZ=>exact .aa
  |_=>exact .aa
 |ptr h=>
  cases c with
  |int k' b=>exact .aa
  |ptr d=>exact .aa
  |_=>exact .aa
 |bZ=>
  cases c with
  |int k' b=>exact .aa
  |_=>exact .aa
 |string s=>
  cases c with
  |string e=>
   exact .aa
  |_=>exact .aa
 |_=>first|exact .aa|(cases c<;>exact .aa)
theorem Sa(E:Env P L τ)(t:ak)(hv:VR L τ.all v w)(c:VR L τ.all x y):aD P G L C τ .own (VR L τ.all) (binOp .quo t v x) (binOp .quo t w y):=by
 have _:=E.bi;cases hv with
 |int k a=>
  cases c with
  |int k' b=>
   unfold binOp;try dsimp only
   split
   .exact .aa
   .show aD P G L C τ .own (VR L τ.all) (Op.intDiv .quo k a b) (Op.intDiv .quo k a b);unfold Op.intDiv;split
    .exact .aE _ (.runtimePanic _)
    .exact .pure (.int _ _)
  |ptr h=>exact .aa
  |bZ=>exact .aa
  |_=>exact .aa
 |ptr h=>
  cases c with
  |int k' b=>exact .aa
  |ptr d=>exact .aa
  |_=>exact .aa
 |bZ=>
  cases c with
  |int k' b=>exact .aa
  |_=>exact .aa
 |string s=>
  cases c with
  |string e=>
   exact .aa
  |_=>exact .aa
 |_=>first|exact .aa|(cases c<;>exact .aa)
theorem TX(E:Env P L τ)(t:ak)(hv:VR L τ.all v w)(c:VR L τ.all x y):aD P G L C τ .own (VR L τ.all) (binOp .rem t v x) (binOp .rem t w y):=by
 have _:=E.bi;cases hv with
 |int k a=>
  cases c with
  |int k' b=>
   unfold binOp;try dsimp only
   split
   .exact .aa
   .show aD P G L C τ .own (VR L τ.all) (Op.intDiv .rem k a b) (Op.intDiv .rem k a b);unfold Op.intDiv;split
    .exact .aE _ (.runtimePanic _)
    .exact .pure (.int _ _)
  |ptr h=>exact .aa
  |bZ=>exact .aa
  |_=>exact .aa
 |ptr h=>
  cases c with
  |int k' b=>
   refine aD.bind' (jk h) ?_;rintro⟨a,l⟩ ⟨b,e⟩ ⟨d,hl⟩;exact yR _ d _
  |ptr f=>exact .aa
  |_=>exact .aa
 |bZ=>
  cases c with
  |int k' b=>exact .aa
  |_=>exact .aa
 |string s=>
  cases c with
  |string g=>
   exact .aa
  |_=>exact .aa
 |_=>first|exact .aa|(cases c<;>exact .aa)
theorem Qo(E:Env P L τ)(t:ak)(hv:VR L τ.all v w)(d:VR L τ.all x y):aD P G L C τ .own (VR L τ.all) (binOp .and t v x) (binOp .and t w y):=by
 have _:=E.bi;cases hv with
 |int k a=>
  cases d with
  |int k' b=>
   unfold binOp;try dsimp only
   split
   .exact .aa
   .exact .pure (.int _ _)
  |ptr h=>
   refine aD.bind' (jk h) ?_;rintro⟨a,l⟩ ⟨b,e⟩ ⟨c,hl⟩;exact yR _ c _
  |bZ=>exact .aa
  |_=>exact .aa
 |ptr h=>
  cases d with
  |int k' b=>
   refine aD.bind' (jk h) ?_;rintro⟨a,l⟩ ⟨b,e⟩ ⟨c,hl⟩;exact yR _ c _
  |ptr f=>exact .aa
  |_=>exact .aa
 |bZ=>
  cases d with
  |int k' b=>exact .aa
  |_=>exact .aa
 |string s=>
  cases d with
  |string g=>
   exact .aa
  |_=>exact .aa
 |_=>first|exact .aa|(cases d<;>exact .aa)
theorem OC(E:Env P L τ)(t:ak)(hv:VR L τ.all v w)(c:VR L τ.all x y):aD P G L C τ .own (VR L τ.all) (binOp .or t v x) (binOp .or t w y):=by
 have _:=E.bi;cases hv with
 |int k a=>
  cases c with
  |int k' b=>
   unfold binOp;try dsimp only
   split
   .exact .aa
   .exact .pure (.int _ _)
  |ptr h=>exact .aa
  |bZ=>exact .aa
  |_=>exact .aa
 |ptr h=>
  cases c with
  |int k' b=>exact .aa
  |ptr d=>exact .aa
  |_=>exact .aa
 |bZ=>
  cases c with
  |int k' b=>exact .aa
  |_=>exact .aa
 |string s=>
  cases c with
  |string e=>
   exact .aa
  |_=>exact .aa
 |_=>first|exact .aa|(cases c<;>exact .aa)
theorem S4(E:Env P L τ)(t:ak)(hv:VR L τ.all v w)(c:VR L τ.all x y):aD P G L C τ .own (VR L τ.all) (binOp .xor t v x) (binOp .xor t w y):=by
 have _:=E.bi;cases hv with
 |int k a=>
  cases c with
  |int k' b=>
   unfold binOp;try dsimp only
   split
   .exact .aa
   .exact .pure (.int _ _)
  |ptr h=>exact .aa
  |bZ=>exact .aa
  |_=>exact .aa
 |ptr h=>
  cases c with
  |int k' b=>exact .aa
  |ptr d=>exact .aa
  |_=>exact .aa
 |bZ=>
  cases c with
  |int k' b=>exact .aa
  |_=>exact .aa
 |string s=>
  cases c with
  |string e=>
   exact .aa
  |_=>exact .aa
 |_=>first|exact .aa|(cases c<;>exact .aa)
theorem Q8(E:Env P L τ)(t:ak)(hv:VR L τ.all v w)(c:VR L τ.all x y):aD P G L C τ .own (VR L τ.all) (binOp .andNot t v x) (binOp .andNot t w y):=by
 have _:=E.bi;cases hv with
 |int k a=>
  cases c with
  |int k' b=>
   unfold binOp;try dsimp only
   split
   .exact .aa
   .exact .pure (.int _ _)
  |ptr h=>exact .aa
  |bZ=>exact .aa
  |_=>exact .aa
 |ptr h=>
  cases c with
  |int k' b=>exact .aa
  |ptr d=>exact .aa
  |_=>exact .aa
 |bZ=>
  cases c with
  |int k' b=>exact .aa
  |_=>exact .aa
 |string s=>
  cases c with
  |string e=>
   exact .aa
  |_=>exact .aa
 |_=>first|exact .aa|(cases c<;>exact .aa)
theorem RP(E:Env P L τ)(t:ak)(hv:VR L τ.all v w)(e:VR L τ.all x y):aD P G L C τ .own (VR L τ.all) (binOp .lss t v x) (binOp .lss t w y):=by
 have _:=E.bi;cases hv with
 |int k a=>
  cases e with
  |int k' b=>
   unfold binOp;try dsimp only
   split
   .exact .aa
   .exact .pure (.bool _)
  |ptr h=>exact .aa
  |bZ=>exact .aa
  |_=>exact .aa
 |ptr h=>
  cases e with
  |int k' b=>exact .aa
  |ptr i=>
   refine aD.bind' (jk h) ?_;rintro⟨a,l⟩ ⟨b,j⟩ ⟨f,hl⟩;refine aD.bind' (jk i) ?_;rintro⟨c,m⟩ ⟨d,n⟩ ⟨g,o⟩;refine aD.bind' (uC E f g) ?_;rintro⟨x,y⟩ _ rfl;first|exact .pure (.bool _)|exact .aa
  |_=>exact .aa
 |bZ=>
  cases e with
  |int k' b=>exact .aa
  |_=>exact .aa
 |string s=>
  cases e with
  |string p=>
   exact .pure (.bool _)
  |_=>exact .aa
 |_=>first|exact .aa|(cases e<;>exact .aa)
theorem OX(E:Env P L τ)(t:ak)(hv:VR L τ.all v w)(e:VR L τ.all x y):aD P G L C τ .own (VR L τ.all) (binOp .leq t v x) (binOp .leq t w y):=by
 have _:=E.bi;cases hv with
 |int k a=>
  cases e with
  |int k' b=>
   unfold binOp;try dsimp only
   split
   .exact .aa
   .exact .pure (.bool _)
  |ptr h=>exact .aa
  |bZ=>exact .aa
  |_=>exact .aa
 |ptr h=>
  cases e with
  |int k' b=>exact .aa
  |ptr i=>
   refine aD.bind' (jk h) ?_;rintro⟨a,l⟩ ⟨b,j⟩ ⟨f,hl⟩;refine aD.bind' (jk i) ?_;rintro⟨c,m⟩ ⟨d,n⟩ ⟨g,o⟩;refine aD.bind' (uC E f g) ?_;rintro⟨x,y⟩ _ rfl;first|exact .pure (.bool _)|exact .aa
  |_=>exact .aa
 |bZ=>
  cases e with
  |int k' b=>exact .aa
  |_=>exact .aa
 |string s=>
  cases e with
  |string p=>
   exact .pure (.bool _)
  |_=>exact .aa
 |_=>first|exact .aa|(cases e<;>exact .aa)
theorem S0(E:Env P L τ)(t:ak)(hv:VR L τ.all v w)(e:VR L τ.all x y):aD P G L C τ .own (VR L τ.all) (binOp .gtr t v x) (binOp .gtr t w y):=by
 have _:=E.bi;cases hv with
 |int k a=>
  cases e with
  |int k' b=>
   unfold binOp;try dsimp only
   split
   .exact .aa
   .exact .pure (.bool _)
  |ptr h=>exact .aa
  |bZ=>exact .aa
  |_=>exact .aa
 |ptr h=>
  cases e with
  |int k' b=>exact .aa
  |ptr i=>
   refine aD.bind' (jk h) ?_;rintro⟨a,l⟩ ⟨b,j⟩ ⟨f,hl⟩;refine aD.bind' (jk i) ?_;rintro⟨c,m⟩ ⟨d,n⟩ ⟨g,o⟩;refine aD.bind' (uC E f g) ?_;rintro⟨x,y⟩ _ rfl;first|exact .pure (.bool _)|exact .aa
  |_=>exact .aa
 |bZ=>
  cases e with
  |int k' b=>exact .aa
  |_=>exact .aa
 |string s=>
  cases e with
  |string p=>
   exact .pure (.bool _)
  |_=>exact .aa
 |_=>first|exact .aa|(cases e<;>exact .aa)
theorem NU(E:Env P L τ)(t:ak)(hv:VR L τ.all v w)(e:VR L τ.all x y):aD P G L C τ .own (VR L τ.all) (binOp .geq t v x) (binOp .geq t w y):=by
 have _:=E.bi;cases hv with
 |int k a=>
  cases e with
  |int k' b=>
   unfold binOp;try dsimp only
   split
   .exact .aa
   .exact .pure (.bool _)
  |ptr h=>exact .aa
  |bZ=>exact .aa
  |_=>exact .aa
 |ptr h=>
  cases e with
  |int k' b=>exact .aa
  |ptr i=>
   refine aD.bind' (jk h) ?_;rintro⟨a,l⟩ ⟨b,j⟩ ⟨f,hl⟩;refine aD.bind' (jk i) ?_;rintro⟨c,m⟩ ⟨d,n⟩ ⟨g,o⟩;refine aD.bind' (uC E f g) ?_;rintro⟨x,y⟩ _ rfl;first|exact .pure (.bool _)|exact .aa
  |_=>exact .aa
 |bZ=>
  cases e with
  |int k' b=>exact .aa
  |_=>exact .aa
 |string s=>
  cases e with
  |string p=>
   exact .pure (.bool _)
  |_=>exact .aa
 |_=>first|exact .aa|(cases e<;>exact .aa)
theorem YO(E:Env P L τ)(t:ak)(hv:VR L τ.all v w)(c:VR L τ.all x y):aD P G L C τ .own (VR L τ.all) (binOp .shl t v x) (binOp .shl t w y):=by
 have _:=E.bi;cases hv with
 |int k a=>
  cases c with
  |int k' b=>
   show aD P G L C τ .own (VR L τ.all) (Op.shift .shl k a k' b) (Op.shift .shl k a k' b);unfold Op.shift;split
   .exact .aE _ (.runtimePanic _)
   .exact .pure (.int _ _)
  |ptr h=>exact .aa
  |bZ=>exact .aa
  |_=>exact .aa
 |ptr h=>
  cases c with
  |int k' b=>exact .aa
  |ptr d=>exact .aa
  |_=>exact .aa
 |bZ=>
  cases c with
  |int k' b=>exact .aa
  |_=>exact .aa
 |string s=>
  cases c with
  |string e=>
   exact .aa
  |_=>exact .aa
 |_=>first|exact .aa|(cases c<;>exact .aa)
theorem PY(E:Env P L τ)(t:ak)(hv:VR L τ.all v w)(c:VR L τ.all x y):aD P G L C τ .own (VR L τ.all) (binOp .shr t v x) (binOp .shr t w y):=by
 have _:=E.bi;cases hv with
 |int k a=>
  cases c with
  |int k' b=>
   show aD P G L C τ .own (VR L τ.all) (Op.shift .shr k a k' b) (Op.shift .shr k a k' b);unfold Op.shift;split
   .exact .aE _ (.runtimePanic _)
   .exact .pure (.int _ _)
  |ptr h=>exact .aa
  |bZ=>exact .aa
  |_=>exact .aa
 |ptr h=>
  cases c with
  |int k' b=>exact .aa
  |ptr d=>exact .aa
  |_=>exact .aa
 |bZ=>
  cases c with
  |int k' b=>exact .aa
  |_=>exact .aa
 |string s=>
  cases c with
  |string e=>
   exact .aa
  |_=>exact .aa
 |_=>first|exact .aa|(cases c<;>exact .aa)
end
end
section
section
variable {P:aj}{G:Array Func}{L:aR}{C:au->Code->Prop}{τ:aJ}
theorem Ab{f:TypeDesc->Sem α}(h:∀d,P.underlying t=some d->aM (gp P G) (f d)):aM (gp P G) (underlying t >>=f):=λw es=>by
 cases hi:P.underlying t with
 |none=>
  refine⟨.stuck "no such type",w,es,?_,trivial,.refl w⟩;show((match P.underlying t with|some i=>Sem.pure i|none=>(stuck "no such type" :Sem TypeDesc)).bind f).runT (gp P G) w es=_;rw[hi];rfl
 |some i=>
  obtain⟨x,y,z,e,a,c⟩:=h i hi w es;refine⟨x,y,z,?_,a,c⟩;rw[<-e];show((match P.underlying t with|some i=>Sem.pure i|none=>(stuck "no such type" :Sem TypeDesc)).bind f).runT (gp P G) w es=_;rw[hi];rfl
theorem E0(a:iH P m t=true)(hv:(∀b,v≠.bool b)/\(∀k n,v≠.int k n)/\(∀s,v≠.s s)/\(∀p,v≠.pointer p)/\((∀c,v≠.agg c)\/∀c,x≠.agg c)):aM (gp P G) (Op.equal t v x):=by
 show aM (gp P G) (Op.equalIn 10000 t v x);unfold Op.equalIn;refine Ab λd e=>?_;cases m with
 |zero=>cases a
 |succ m=>
  simp only[iH,e]at a;obtain⟨f,i,g,h,j⟩:=hv;cases v with
  |bool b=>exact absurd rfl (f b)
  |int k n=>grind
  |string s=>exact absurd rfl (g s)
  |pointer p=>exact absurd rfl (h p)
  |agg c=>
   cases x with
   |agg l=>grind
   |pointer p=>cases d<;>first|exact .stuck _|exact .unsupported _|cases a
   |_=>cases d<;>first|exact .stuck _|exact .unsupported _|cases a
  |_=>
   cases x with
   |pointer p=>cases d<;>first|exact .stuck _|exact .unsupported _|cases a
   |_=>cases d<;>first|exact .stuck _|exact .unsupported _|cases a
theorem Is(c:iH P m t=true)(v:ag)(f:Fn)(a b:aa):aM (gp P G) (Op.equal t v (.func f a b)):=by
 show aM (gp P G) (Op.equalIn 10000 t v (.func f a b));unfold Op.equalIn;refine Ab λd e=>?_;cases m with
 |zero=>cases c
 |succ m=>
  simp only[iH,e]at c;cases v with
  |pointer p=>cases p<;>cases d<;>first|exact .stuck _|exact .unsupported _|cases c
  |_=>cases d<;>first|exact .stuck _|exact .unsupported _|cases c
theorem KN(op:BinOp)(t:ak)(c e:ax):bD (gp P G) (eqGuard op t c e .nilIface .nilIface):=by
 have a:bD (gp P G) (Op.eqGuardIn Op.maxDepth t .nilIface .nilIface):=by
  show bD (gp P G) (Op.eqGuardIn 10000 t .nilIface .nilIface);unfold Op.eqGuardIn;refine bD.bind (.underlying t) λd=>?_;cases d<;>exact .pure _
 unfold eqGuard;dsimp only;refine bD.ite (.pure _) (bD.ite (.pure _) (bD.bind a λb=>bD.ite (aM.unsupported _).mN (.pure _)))
theorem P5(E:Env P L τ)(d:iH P m t=true)(q:P.eqGuardType P.depth t=false)(j l:ax)(hv:VR L τ.all v w)(g:VR L τ.all x y):
  aD P G L C τ .own (VR L τ.all) (do eqGuard .eql t j l v x;binOp .eql t v x) (do eqGuard .eql t j l w y;binOp .eql t w y):=by
 have eq:aD P G L C τ .own (VR L τ.all) (do pure (.bool (← Op.equal t v x)):Sem ag) (do pure (.bool (← Op.equal t w y)):Sem ag):=by
  refine aD.bind' (BT E d hv g) ?_;rintro b _ rfl;exact .pure (.bool _)
 have i:((∀b,v≠.bool b)/\(∀k n,v≠.int k n)/\(∀s,v≠.string s)/\(∀p,v≠.pointer p)/\((∀c,v≠.agg c)\/∀c,x≠.agg c))->aM (gp P G) (do pure (.bool (← Op.equal t v x)):Sem ag):=λh=>aM.bind' (E0 d h);have o:∀(f:Fn) (a b:aa),x=.func f a b->aM (gp P G) (do pure (.bool (← Op.equal t v x)):Sem ag):=λf a b e=>by
  subst e;exact aM.bind' (Is d _ _ _ _)
 cases hv with
 |bool b=>exact eq
 |bZ=>exact eq
 |ptr h=>exact eq
 |int k a=>
  cases g with
  |int k' b=>
   show aD P G L C τ .own (VR L τ.all) (if k≠k' then stuck "BinOp: operands of different kinds" else Op.intCmp .eql a b) (if k≠k' then stuck "BinOp: operands of different kinds" else Op.intCmp .eql a b);split
   .exact .aa
   .exact .pure (.bool _)
  |bL=>exact .aE _ (o _ _ _ rfl)
  |_=>exact eq
 |string s=>
  cases g with
  |string r=>exact .pure (.bool _)
  |bL=>exact .aE _ (o _ _ _ rfl)
  |_=>exact eq
 |agg xs h=>
  cases g with
  |agg ys u=>
   refine .program (.program ?_);show aD P G L C τ .own (VR L τ.all) ((if (!(gp P G).eqGuardType P.depth t)=true then (pure ():Sem Unit) else _).bind _) ((if (!P.eqGuardType P.depth t)=true then (pure ():Sem Unit) else _).bind _);rw[xg,q];exact eq
  |_=>exact .aE _ (i ⟨zp,zp,zp,zp,.inr zp⟩)
 |nilIface=>
  cases g with
  |nilIface=>
   refine .aE _ (aM.then ?_ λ_=>i ⟨zp,zp,zp,zp,.inl zp⟩);exact KN _ _ _ _
  |_=>exact .aE _ (i ⟨zp,zp,zp,zp,.inl zp⟩)
 |_=>exact .aE _ (i ⟨zp,zp,zp,zp,.inl zp⟩)
theorem Zs(E:Env P L τ)(d:iH P m t=true)(q:P.eqGuardType P.depth t=false)(j l:ax)(hv:VR L τ.all v w)(g:VR L τ.all x y):
  aD P G L C τ .own (VR L τ.all) (do eqGuard .neq t j l v x;binOp .neq t v x) (do eqGuard .neq t j l w y;binOp .neq t w y):=by
 have eq:aD P G L C τ .own (VR L τ.all) (do pure (.bool (!(← Op.equal t v x))):Sem ag) (do pure (.bool (!(← Op.equal t w y))):Sem ag):=by
  refine aD.bind' (BT E d hv g) ?_;rintro b _ rfl;exact .pure (.bool _)
 have i:((∀b,v≠.bool b)/\(∀k n,v≠.int k n)/\(∀s,v≠.string s)/\(∀p,v≠.pointer p)/\((∀c,v≠.agg c)\/∀c,x≠.agg c))->aM (gp P G) (do pure (.bool (!(← Op.equal t v x))):Sem ag):=λh=>aM.bind' (E0 d h);have o:∀(f:Fn) (a b:aa),x=.func f a b->aM (gp P G) (do pure (.bool (!(← Op.equal t v x))):Sem ag):=λf a b e=>by
  subst e;exact aM.bind' (Is d _ _ _ _)
 cases hv with
 |bool b=>exact eq
 |bZ=>exact eq
 |ptr h=>exact eq
 |int k a=>
  cases g with
  |int k' b=>
   show aD P G L C τ .own (VR L τ.all) (if k≠k' then stuck "BinOp: operands of different kinds" else Op.intCmp .neq a b) (if k≠k' then stuck "BinOp: operands of different kinds" else Op.intCmp .neq a b);split
   .exact .aa
   .exact .pure (.bool _)
  |bL=>exact .aE _ (o _ _ _ rfl)
  |_=>exact eq
 |string s=>
  cases g with
  |string r=>exact .pure (.bool _)
  |bL=>exact .aE _ (o _ _ _ rfl)
  |_=>exact eq
 |agg xs h=>
  cases g with
  |agg ys u=>
   refine .program (.program ?_);show aD P G L C τ .own (VR L τ.all) ((if (!(gp P G).eqGuardType P.depth t)=true then (pure ():Sem Unit) else _).bind _) ((if (!P.eqGuardType P.depth t)=true then (pure ():Sem Unit) else _).bind _);rw[xg,q];exact eq
  |_=>exact .aE _ (i ⟨zp,zp,zp,zp,.inr zp⟩)
 |nilIface=>
  cases g with
  |nilIface=>
   refine .aE _ (aM.then ?_ λ_=>i ⟨zp,zp,zp,zp,.inl zp⟩);exact KN _ _ _ _
  |_=>exact .aE _ (i ⟨zp,zp,zp,zp,.inl zp⟩)
 |_=>exact .aE _ (i ⟨zp,zp,zp,zp,.inl zp⟩)
theorem TV(op:UnOp)(h:VR L τ.all v w):aD P G L C τ .own (VR L τ.all) (Op.unary op v) (Op.unary op w):=by
 cases op<;>cases h<;>first|exact .pure (.int _ _)|exact .pure (.bool _)|exact .aa|exact .aa
theorem Z9{k k':IntKind}(hs:P.underlying src=some (.int k))(c:P.underlying dst=some (.int k'))(h:VR L τ.all v w):aD P G L C τ .own (VR L τ.all) (convert src dst v) (convert src dst w):=by
 unfold convert;refine aD.bind' (dG src) ?_;rintro d _ ⟨rfl,a⟩;rw[hs]at a;cases a;refine aD.bind' (dG dst) ?_;rintro d _ ⟨rfl,a⟩;rw[c]at a;cases a;cases h<;>first|exact .pure (.int _ _)|exact .aa
theorem VB(h:VR L τ.all v w):aD P G L C τ .own (VR L τ.all) (Conv.bytesToString v) (Conv.bytesToString w):=by
 unfold Conv.bytesToString;cases h with
 |jx n c=>exact .pure (.string _)
 |slice n c d=>
  try dsimp only
  refine aD.bind' (yM d n) λxs ys e=>?_;obtain⟨l,f,g,i⟩:=e.list;rw[<-Array.forIn_toList,<-Array.forIn_toList,f,g];refine aD.bind' (xi (R:=VR L τ.all) (S:=dM) ?_ l i _ _ rfl) ?_
  .rintro a b d s _ rfl;cases d with
   |int k n=>cases k<;>first|exact .pure (.inr ⟨_,_,rfl,rfl,rfl⟩)|exact .aa
   |_=>exact .aa
  .rintro s _ rfl;exact .pure (.string _)
 |_=>exact .aa
theorem X0{e:ak}(hs:P.underlying src=some (.slice e))(g:P.underlying e=some (.int .u8))(f:P.underlying dst=some .string)(h:VR L τ.all v w):aD P G L C τ .own (VR L τ.all) (convert src dst v) (convert src dst w):=by
 unfold convert;refine aD.bind' (dG src) ?_;rintro d _ ⟨rfl,c⟩;rw[hs]at c;cases c;refine aD.bind' (dG dst) ?_;rintro d _ ⟨rfl,c⟩;rw[f]at c;cases c;have i:=h;have fin:aD P G L C τ .own (VR L τ.all) (do match ←underlying e with|.int .u8=>Conv.bytesToString v|.int .i32=>Conv.runesToString v|_=>stuck "Convert: a slice of what to string?") (do match ←underlying e with|.int .u8=>Conv.bytesToString w|.int .i32=>Conv.runesToString w|_=>stuck "Convert: a slice of what to string?"):=by
  refine aD.bind' (dG e) ?_;rintro d _ ⟨rfl,c⟩;rw[g]at c;cases c;exact VB i
 cases h with
 |int k n=>exact .pure (.string _)
 |string s=>exact .pure (.string _)
 |bL s c j l=>exact .aE _ (Ab λd f=>by rw[g]at f;cases f;exact .stuck _)
 |_=>exact fin
theorem wP(h:VR L τ.all v w):aD P G L C τ .own dM (Builtin.lenOf v) (Builtin.lenOf w):=by
 cases h<;>first|exact .pure rfl|exact .aa
theorem XR.bytes(b:Array UInt8):XR (VR L τ.all) (b.map λx=>Value.int .u8 x.toNat) (b.map λx=>Value.int .u8 x.toNat):=XR.self _ λx a=>by
 obtain⟨y,_,rfl⟩:=acF.1 a;exact .int _ _
theorem pG(size n:Nat)(h:VR L τ.all v w):aD P G L C τ .own (XR (VR L τ.all)) (Builtin.firstCells size n v) (Builtin.firstCells size n w):=by
 cases h with
 |slice _ _ a=>exact yM a _
 |jx=>exact .pure .nil
 |string s=>exact .pure (XR.bytes _)
 |_=>exact .aa
theorem XR.zeroCells{xs ys:aa}(h:XR (VR L τ.all) xs ys)(n:Nat):XR (VR L τ.all) (Builtin.zeroCells xs n) (Builtin.zeroCells ys n):=by
 unfold Builtin.zeroCells;rw[h.size];exact XR.range _ λi _=>h.zO _
theorem XO{a h:ak}(t:ak)(hv:VR L τ.own v w)(f:VR L τ.all x y):aD P G L C τ .own (VR L τ.all) (Builtin.copy_ #[a,h] t #[v,x]) (Builtin.copy_ #[a,h] t #[w,y]):=by
 unfold Builtin.copy_;show aD P G L C τ .own (VR L τ.all) (underlying a >>=_) (underlying a >>=_);refine aD.bind' (dG a) ?_;rintro d _ ⟨rfl,_⟩;cases d with
 |slice elem=>
  cases hv with
  |jx n c=>
   refine aD.bind' (wP f) ?_;rintro k _ rfl;refine aD.bind' (fV elem) ?_;rintro z _ rfl;refine aD.bind' (pG z _ f) λxs ys e=>?_;exact .pure (.int _ _)
  |slice n c g=>
   refine aD.bind' (wP f) ?_;rintro k _ rfl;refine aD.bind' (fV elem) ?_;rintro z _ rfl;refine aD.bind' (pG z _ f) λxs ys e=>?_;exact aD.bind' (BX g e) λ_ _ _=>.pure (.int _ _)
  |_=>exact .aa
 |_=>exact .aa
theorem Pk{at_:ak}(t:ak)(a:∀d,P.underlying at_=some d->d=.string\/∃e,d=.slice e)(hv:VR L τ.all v w):aD P G L C τ .own (VR L τ.all) (Builtin.len_ #[at_] t #[v]) (Builtin.len_ #[at_] t #[w]):=by
 unfold Builtin.len_;show aD P G L C τ .own (VR L τ.all) (underlying at_ >>=_) (underlying at_ >>=_);refine aD.bind' (dG at_) ?_;rintro d _ ⟨rfl,c⟩;rcases a d c with rfl|⟨e,rfl⟩
 .cases hv<;>first|exact .pure (.int _ _)|exact .aa
 .cases hv<;>first|exact .pure (.int _ _)|exact .aa
theorem aaj(hv:VR L τ.all v w)(a:VR L τ.all x y):aD P G L C τ .own (VR L τ.all) (Builtin.min2 v x) (Builtin.min2 w y):=by
 cases hv<;>cases a<;>first|exact .pure (.int _ _)|exact .aa|exact .aa|(refine .pure ?_;split<;>exact .string _)
theorem Xj(hv:VR L τ.all v w)(a:VR L τ.all x y):aD P G L C τ .own (VR L τ.all) (Builtin.max2 v x) (Builtin.max2 w y):=by
 cases hv<;>cases a<;>first|exact .pure (.int _ _)|exact .aa|exact .aa|(refine .pure ?_;split<;>exact .string _)
theorem P1(c:Array ak)(t:ak)(hv:VR L τ.all v w)(d:VR L τ.all x y):aD P G L C τ .own (VR L τ.all) (Builtin.min_ c t #[v,x]) (Builtin.min_ c t #[w,y]):=by
 show aD P G L C τ .own (VR L τ.all) ([x].foldlM Builtin.min2 v) ([y].foldlM Builtin.min2 w);simp only[List.foldlM_cons,List.foldlM_nil];exact aD.bind' (aaj hv d) λa b h=>.pure h
theorem YM(c:Array ak)(t:ak)(hv:VR L τ.all v w)(d:VR L τ.all x y):aD P G L C τ .own (VR L τ.all) (Builtin.max_ c t #[v,x]) (Builtin.max_ c t #[w,y]):=by
 show aD P G L C τ .own (VR L τ.all) ([x].foldlM Builtin.max2 v) ([y].foldlM Builtin.max2 w);simp only[List.foldlM_cons,List.foldlM_nil];exact aD.bind' (Xj hv d) λa b h=>.pure h
theorem LM(hb:gU τ)(c:Array ak)(t:ak)(hv:VR L τ.own v w)(f:VR L τ.all x y):aD P G L C τ .own (VR L τ.all) (Builtin.unsafeString_ c t #[v,x]) (Builtin.unsafeString_ c t #[w,y]):=by
 unfold Builtin.unsafeString_;cases hv with
 |bZ=>
  refine aD.bind' (ua f) ?_;rintro n _ rfl;cases d:c[0]? with
  |none=>exact .aa
  |some pt=>
   try dsimp only
   split
   .exact .aE _ (aM.bind' (.runtimePanic _))
   .split
    .exact .aE _ (aM.bind' (.unsupported _))
    .split
     .exact .pure (.string _)
     .exact .aE _ (.runtimePanic _)
 |ptr a=>
  refine aD.bind' (ua f) ?_;rintro n _ rfl;cases d:c[0]? with
  |none=>exact .aa
  |some pt=>
   try dsimp only
   split
   .exact .aE _ (aM.bind' (.runtimePanic _))
   .split
    .exact .aE _ (aM.bind' (.unsupported _))
    .split
     .exact .pure (.string _)
     .refine aD.bind' (Oq pt) ?_;rintro e _ rfl;refine aD.bind' (Tv (a.mono hb.own) e _) ?_;rintro b _ rfl;try dsimp only
      split
      .refine aD.bind' (Iv _ (a.mono hb.own) _) ?_;rintro s _ rfl;exact aD.bind' (Yy a _) λ_ _ _=>.pure (.string _)
      .exact .aa
 |_=>exact .aa
end
end
end Go.Proofs.YtldmcdeibiclkaaGreat.U
