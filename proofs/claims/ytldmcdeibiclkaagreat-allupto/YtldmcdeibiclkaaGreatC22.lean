/-
  Toward all_holds
-/
import Derived.Test.YtldmcdeibiclkaaGreatC21
import Derived.Test.YtldmcdeibiclkaaGreatC01
import Derived.Test.YtldmcdeibiclkaaGreatC17
set_option linter.all false
noncomputable section
set_option maxRecDepth 100000
set_option maxHeartbeats 20000000
namespace Go.Proofs.YtldmcdeibiclkaaGreatQ
variable {w wr w' w1:af}{b B bo:Nat}{v:ag}{xs:ae}{t e:ak}{A M:aa}{K:aL}{bm:Nat->Nat}{x:List aG×RS}
open Go.RowKit
def bE(r:RS):aG×RS:=(((aF 1 r).1,((aF 4 (aF 1 r).2).1:Int),(bX (aF 4 (aF 1 r).2).2).1),(bX (aF 4 (aF 1 r).2).2).2)
theorem NJ(b:Nat)(r0:RS)(w:af)(h:cM w b r0):
  Calls aC.prog 194 #[.pointer (some ⟨b,0,none⟩)] w λe w'=>e=.returned (.agg #[.int .i64 (bE r0).1.rep,.int .i64 (bE r0).1.n,.string (bE r0).1.val])/\Rd w w' b (bE r0).2:=by
 have I:=h.lt;have F:=zu (λw1 hb=>rF b r0 w1 (h.below hb));have G:Hid (∀w1,cM w1 b (aF 1 r0).2->Calls aC.prog 176 #[.p b] w1 λe w'=>e=.r (.i (aF 4 (aF 1 r0).2).1)/\Rd w1 w' b (aF 4 (aF 1 r0).2).2):=λw1 hb=>xI b _ w1 hb;have H:Hid (∀w1,cM w1 b (aF 4 (aF 1 r0).2).2->Calls aC.prog 193 #[.pointer (some ⟨b,0,none⟩)] w1 λe w'=>e=.returned (.string (bE r0).1.val)/\Rd w1 w' b (bE r0).2):=λw1 hb=>Kv b _ w1 hb;simp only[aG.rep,aG.n,aG.val] at*;rw[show(bE r0).1.1=(aF 1 r0).1 from rfl,show(bE r0).1.2.1=((aF 4 (aF 1 r0).2).1:Int) from rfl];generalize (bE r0).1.2.2=t at*;generalize (bE r0).2=s at*;generalize (aF 4 (aF 1 r0).2).2=r2 at*;generalize ((aF 4 (aF 1 r0).2).1:Int)=n at*;generalize (aF 1 r0).2=r1 at*;generalize ((aF 1 r0).1:Int)=r at*;clear h;go_enter aC.func194,aC.ntmps194;go_upto_region 2 with (first
  |(go_at_call 98;refine(F.out _ (zj.alloc zf _)).mono ?_;rintro e w1 ⟨rfl,d⟩)
  |(go_at_call 176;refine(G.out _ d.1).mono ?_;rintro e w2 ⟨rfl,f⟩))
 have L:w<w1.heap.size:=by have:=d.2.size;simp at this;omega
 have y:w<w2.heap.size:=by have:=f.2.size;omega
 have g:Hid (cM (w2.alloc (.cells #[.i r,.i n] 115)) b r2):=f.1.below (zj.alloc zf _);have z:Hid (Fr (λk=>k=b) w (w2.alloc (.cells #[.i r,.i n] 115))):=((((Fr.refl _ w).alloc _).trans d.2).trans f.2).alloc _;have C:Hid ((w2.alloc (.cells #[.i r,.i n] 115)).heap[w.heap.size]?=.c #[.i 0,.i 0,.s ⟨#[]⟩] 117):=by
  rw[aaO _ _ _ y];exact f.other (d.other (By w _) zo) zo
 have o:Hid ((w2.alloc (.cells #[.i r,.i n] 115)).heap[w2.heap.size]?=.c #[.i r,.i n] 115):=By w2 _;obtain⟨u,l⟩: ∃W,W=w2.alloc (.cells #[.i r,.i n] 115):=⟨_,rfl⟩
 rw[<-l]at g z C o ⊢;obtain⟨d0,N⟩:=aH o.out;have D:Hid (∀q,Calls aC.prog 193 #[.pointer (some ⟨b,0,none⟩)] (u.drewN q) λe w'=>e=.returned (.string t)/\w'.heap[w.heap.size]?=some (.cells #[.int .i64 0,.int .i64 0,.string ⟨#[]⟩] 117)/\w'.heap[w2.heap.size]?=some (.cells #[.int .i64 r,.int .i64 n] 115)/\Rd w w' b s):=λq=>by
  have hb:Below u u (u.drewN q):=abg zj q;refine(H.out _ (g.out.below hb)).mono ?_;rintro e w3 ⟨rfl,a⟩;exact⟨rfl,a.other C.out zo,a.other o.out zo,a.1,(z.out.below hb).trans a.2⟩
 clear l d f F G H g z C o;go_region_with (first|(go_at_call 193;refine AI (D.out 1) ?_;rintro e w3 ⟨rfl,j,m,a⟩;obtain⟨cv,fv⟩:=aH j;obtain⟨O,P⟩:=aH m;have J:Hid (w3.heap[w.heap.size]?=.c #[.i 0,.i 0,.s ⟨#[]⟩] 117):=j;have E:=zu a;clear j m a))
 all_goals
  go_wp2;refine abn (v:=.agg #[.i r,.i n,.s t]) ?_ rfl ⟨rfl,?_⟩
  .simp[results,aC.results194,go_sem,cv]
  .exact ((E.out.setCell zo _).setCell zo _).setCell zo _
def cH:Nat->RS->RS
 |0,r=>r
 |i+1,r=>(aF 4 (cH i r)).2
def rC(r:RS):Ctx:=λj=>((aF 4 (cH j r)).1:Int)
def eF:Nat->List aG×RS->List aG×RS
 |0,x=>x
 |n+1,x=>if x.2.2=true then x else eF n (x.1++ [(bE x.2).1],(bE x.2).2)
theorem vE(n:Nat)(h:x.2.2=true):eF n x=x:=by
 cases n with
 |zero=>rfl
 |succ n=>rw[eF,BY h]
theorem qZ{n:Nat}(h:x.2.2=false):eF (n+1) x=eF n (x.1++ [(bE x.2).1],(bE x.2).2):=by rw[eF,AT (by simp[h])]
def cg(r:RS):(ah×Ctx×List aG)×RS:=(((bX r).1,rC (bX r).2,(eF (aF 4 (cH 4 (bX r).2)).1 ([],(aF 4 (cH 4 (bX r).2)).2)).1),(eF (aF 4 (cH 4 (bX r).2)).1 ([],(aF 4 (cH 4 (bX r).2)).2)).2)
def gx(c:Ctx)(i j:Nat):Int:=if j<i then c j else 0
abbrev recC(key:ah)(c:Ctx)(i:Nat)(sv:ag):Array Value:=#[.s key,.i (gx c i 0),.i (gx c i 1),.i (gx c i 2),.i (gx c i 3),sv]
def iB(w wr:af)(b bo:Nat)(A:aa)(s:RS):Prop:=
 wr.heap[bo]?=.c A 152/\wr.heap[w.heap.size]?=.c #[.s ⟨#[]⟩,.i 0,.i 0,.i 0,.i 0,.slice none 0 0] 152/\Rd w wr b s
def iB.rd{s t:RS}(h:iB w wr b bo A s)(a:Rd wr w' b t)(h1:bo≠b)(c:w≠b):iB w w' b bo A t:=
 ⟨a.other h.1 h1,a.other h.2.1 c,h.2.2.trans a⟩
theorem iB.set{s:RS}(h:iB w wr b bo A s)(hb:b<w/\w<bo)(o:Nat)(v:ag):iB w (wr.setCell (.a bo o) v) b bo (A.setIfInBounds o v) s:=
 ⟨heap_set h.1,by rw[aaS _ _ _ _ (by show _≠bo;omega)];exact h.2.1,h.2.2.setCell ⟨zo,zo⟩ v⟩
theorem FB(key:ah)(c:Ctx)(sv:ag){i:Nat}(h:i<4):(recC key c i sv).setIfInBounds (1+i) (.i (c i))=recC key c (i+1) sv:=by
 rcases dR h with rfl|rfl|rfl|rfl<;>simp[recC,gx]
theorem CF(key:ah)(c:Ctx)(sv:ag){i:Nat}(h:i<4):(recC key c i sv)[1+i]?=.i 0:=by
 rcases dR h with rfl|rfl|rfl|rfl<;>simp[recC,gx]
theorem Rd.row{n size:Nat}{s f:RS}(h:Rd w w1 b s)(i:cM w b f)(j:w.ownsRow B t size v n xs)(k:t≠212):w1.ownsRow B t size v n xs:=by
 obtain⟨l,a⟩:=j;refine⟨l,?_⟩;rcases a with a|⟨g,cap,c,hv,m,d,r⟩
 .exact Or.inl a
 .exact Or.inr ⟨g,cap,c,hv,m,h.other d (λe=>by subst e;rw[i.1]at d;cases d;exact k rfl),r⟩
theorem mF{size n k:Nat}(h:w.ownsRow B t size v n xs)(a:v.ownBlock=some k):B<=k:=by
 rcases h.2 with⟨h,_⟩|⟨g,cap,c,rfl,d,_⟩
 .rw[h]at a;cases a
 .cases a;exact d
theorem iB.alloc{s:RS}(h:iB w wr b bo A s)(o:Obj):iB w (wr.alloc o) b bo A s:=
 have hb:Below wr wr (wr.alloc o):=zj.alloc zf o
 ⟨bj h.1 hb,bj h.2.1 hb,h.2.2.below hb⟩
def jQ(h:w.grownBy w1 v.ownBlock){size n:Nat}(c:w.ownsRow B e size v n xs){cs:aa}{fr:Nat×Nat}(hb:w.heap[b]?=some (.cells cs t fr))(a:t≠e):w1.heap[b]?=some (.cells cs t fr):=
 cV.other (v1:=v) ⟨h,λ_ h=>Or.inl h⟩ c hb a
theorem iB.grownBy{size n:Nat}{s:RS}(h:iB w wr b bo A s)(a:wr.ownsRow w e size v n xs)(c:wr.grownBy w1 v.ownBlock)(h1:152≠e)(d:212≠e):iB w w1 b bo A s:=
 ⟨jQ c a h.1 h1,jQ c a h.2.1 h1,⟨jQ c a h.2.2.1.1 d,h.2.2.1.2⟩,h.2.2.2.grown c λk f g=>by
  have:=mF a f;omega⟩
theorem dy{size n:Nat}{f:ak}{fr:Nat×Nat}{u:ag}(h:w.ownsRow B t size u n xs)(hb:w.heap[bo]?=some (.cells A f fr))(l:t≠f)(o:Nat)(v:ag):(w.setCell (.a bo o) v).ownsRow B t size u n xs:=by
 obtain⟨i,c⟩:=h;refine⟨i,?_⟩;rcases c with c|⟨g,cap,d,hv,j,k,r⟩
 .exact Or.inl c
 .exact Or.inr ⟨g,cap,d,hv,j,by rw[aaS _ _ _ _ (λe=>zg)];exact k,r⟩
theorem dS{size n:Nat}(h:w.ownsRow B t size v n xs): ∃ad cap,v=.slice ad n cap:=by
 obtain⟨ad,cap,h,_⟩:=lh h;exact⟨ad,cap,h⟩
theorem XS(b:Nat)(r0:RS)(w:af)(h:cM w b r0):
  Calls aC.prog 177 #[.pointer (some ⟨b,0,none⟩)] w λe w'=>∃sv,e=.returned (.agg #[.string (cg r0).1.1,.int .i64 ((cg r0).1.2.1 0),.int .i64 ((cg r0).1.2.1 1),.int .i64 ((cg r0).1.2.1 2),.int .i64 ((cg r0).1.2.1 3),sv])/\w'.ownsRow w.heap.size 117 3 sv (cg r0).1.2.2.length (aQ (cg r0).1.2.2)/\Rd w w' b (cg r0).2:=by
 obtain⟨i0,ar,av,ay,az⟩:=aaY aC.wJ;have a8:=h.lt;have HT:=zu (λw1 hb=>Kv b r0 w1 (h.below hb));unfold cg;generalize (bX r0).1=key at*;generalize (bX r0).2=r1 at*;have bb:=iM 4 (cH 4 r1) zf;have HC:Hid (∀i W,cM W b (cH i r1)->Calls aC.prog 176 #[.p b] W λe w'=>e=.r (.i (rC r1 i))/\Rd W w' b (cH (i+1) r1)):=λi W hW=>xI b _ W hW;have N:Hid (∀W,cM W b (cH 4 r1)->Calls aC.prog 176 #[.pointer (some ⟨b,0,none⟩)] W λe w'=>e=.returned (.int .i64 (aF 4 (cH 4 r1)).1)/\Rd W w' b (aF 4 (cH 4 r1)).2):=λW hW=>xI b _ W hW;simp only;generalize rC r1=c at*;generalize (aF 4 (cH 4 r1)).1=d at*;generalize (aF 4 (cH 4 r1)).2=r2 at*;generalize hF:eF d ([],r2)=F at*;have HF:=zu hF;clear h hF;go_enter aC.func177,aC.ntmps177;go_wp2_with (first
  |(go_at_call 193;refine(HT.out _ (zj.alloc zf _)).mono ?_;rintro e w1 ⟨rfl,o⟩))
 have hz:w<w1.heap.size:=by have:=o.2.size;simp at this;omega
 have HS:Hid (iB w (w1.alloc (.cells (recC key c 0 (.slice none 0 0)) 152)) b w1 (recC key c 0 (.slice none 0 0)) (cH 0 r1)):=
  ⟨By w1 _,by rw[aaO _ _ _ hz];exact o.other (By w _) zo,o.1.below (zj.alloc zf _),(((Fr.refl _ w).alloc _).trans o.2).alloc _⟩
 have bc:b<w1:=zo;have O:=zu ((show b<w/\w<w1.heap.size by omega));generalize w1.heap.size=bo at*;clear o HT;go_loopw [10] (λG wr=>∃i:Nat,i<=4/\G=.i i/\iB w wr b bo (recC key c i (.slice none 0 0)) (cH i r1)) (λG _=>4-(intOf G).toNat)
 case atStart=>exact⟨0,zo,rfl,HS.out⟩
 case round=>
  obtain⟨i,hi,rfl,J⟩:=hrel;by_cases P:i<4
  .have i1:(i:Int)<4:=zo;have bd:(0:Int)<=(i:Int):=zo;have HN:Hid (Calls aC.prog 176 #[.p b] wr λe w'=>e=.r (.i (c i))/\iB w w' b bo (recC key c i (.slice none 0 0)) (cH (i+1) r1)):=by
    refine(HC.out i wr J.2.2.1).mono ?_;rintro e w' ⟨rfl,L⟩;exact⟨rfl,J.rd L zo zo⟩
   clear HS J;go_wp2_with (go_at_call 176;refine HN.out.mono ?_;rintro e w2 ⟨rfl,f⟩;obtain⟨c2,f2⟩:=aH f.1;have cI:=(c2 (1+i)).trans (CF key c (.slice none 0 0) P);have fI:=f2 (1+i);clear c2 f2;have z:=zu f;clear f)
   refine⟨⟨i+1,zo,by go_num,?_⟩,zi⟩
   have:=z.out.set O.out (1+i) (.i (c i));rw[FB key c _ P]at this;exact this
  .obtain rfl:i=4:=zo;have HN:Hid (Calls aC.prog 176 #[.p b] wr λe w'=>e=.r (.i d)/\iB w w' b bo (recC key c 4 (.slice none 0 0)) r2):=by
    refine(N.out wr J.2.2.1).mono ?_;rintro e w' ⟨rfl,L⟩;exact⟨rfl,J.rd L zo zo⟩
   clear HS J HC N;go_wp2_with (go_at_call 176;refine HN.out.mono ?_;rintro e w2 ⟨rfl,f⟩;have z:=zu f;clear f)
   clear HN;go_loopw [6] (λG wr=>∃(k:Nat) (sv:ag) (l:List aG) (r:RS),k<=d/\l.length=k/\G=.i k/\Hid (iB w wr b bo (recC key c 4 sv) r)/\Hid (wr.ownsRow w 117 3 sv k (aQ l))/\Hid (eF (d-k) (l,r)=F)) (λG _=>d-(intOf G).toNat)
   case atStart=>exact⟨0,.slice none 0 0,[],r2,zo,rfl,rfl,z.out,abh _ _ _ _,HF.out⟩
   case round=>
    obtain⟨k,sv,l,⟨s,q⟩,hk,aA,rfl,m,HO,H⟩:=hrel;clear z HF;obtain⟨ad,cap,rfl⟩:=dS HO.out;obtain⟨cb,fb⟩:=aH m.out.1;have c1:wr.cell? (.a b 1)=some (.bool q):=(aH m.out.2.2.1.1).1 1;have c5:=cb 5;have f5:=fb 5;by_cases u:k<d/\q=false
    .obtain⟨u,rfl⟩:=u;have k1:(k:Int)<(d:Int):=zo;have bn:decide ((k:Int)<(d:Int))=true:=by simpa using u
     have Q:Hid (eF (d-(k+1)) (l++ [(bE (s,false)).1],(bE (s,false)).2)=F):=(by have:=H.out;rw[show d-k=(d-(k+1))+1 by omega,qZ rfl]at this;exact this)
     have aB:Hid (Calls aC.prog 194 #[.p b] wr.drew λe w'=>e=.r (.agg #[.i (bE (s,false)).1.rep,.i (bE (s,false)).1.n,.s (bE (s,false)).1.val])/\iB w w' b bo (recC key c 4 (.slice ad k cap)) (bE (s,false)).2/\w'.ownsRow w 117 3 (.slice ad k cap) k (aQ l)):=by
      have h3:=m.out.2.2;refine(NJ b _ _ (h3.1.below zj.drew)).mono ?_;rintro e w' ⟨rfl,L⟩;have R:Rd wr w' b (bE (s,false)).2:=⟨L.1,(Fr.refl _ _).drew.trans L.2⟩
      exact⟨rfl,m.out.rd R zo zo,R.row h3.1 HO.out zd⟩
     generalize (bE (s,false)).1=v at*;generalize (bE (s,false)).2=r' at*;clear H;go_upto_region 11 with fail;go_region_law (first
      |(refine step_append_lies _ rfl _ _ _ rfl w 117 i0 _ 3 32 aC.underlying72 ar av ay az rfl zo (.slice ad k cap) _ _ rfl (aaV S.out _) (.a w3 0) 1 1 [.i v.rep,.i v.n,.s v.val] rfl rfl (aaT (By w3 _)) zv zo ze zo (by have:=T.out.2.2.2.size;simp;omega) (w3.heap.size+1) zp ?_;intro g2 U w4 y D a1 a6;have I:=(T.out.alloc _).grownBy (aaV S.out _) D zd zd;obtain⟨V,X⟩:=aH I.1;have bp:=V 5;have br:=X 5;clear V X;have Y:=zu I;have aE:Hid _:=y;clear I y D)
      |(go_simp;go_at_call 194;refine AI aB.out ?_;rintro e w3 ⟨rfl,C,Z⟩;obtain⟨ab,an⟩:=aH C.1;have a7:=(IN.1 C.1).1;have bs:=ab 5;have bx:=an 5;clear ab an;have T:=zu C;have S:=zu Z;clear C Z))
     all_goals
      go_wp2;refine⟨⟨k+1,.l g2 (k+1) U,l++ [v],r',zo,by simp[aA],by go_num,Y.out.set O.out 5 _,?_,Q.out⟩,zi⟩;rw[pc];exact dy aE.out Y.out.1 zd _ _
    .have ao:(l,(s,q))=F:=by
      have:=H.out;by_cases hq:q=true
      .rwa [vE _ (by exact hq)]at this
      .rwa [show d-k=0 by have: ¬k<d:=λh=>u ⟨h,by simpa using hq⟩;omega,eF]at this
     subst ao;have aq:=zu u;obtain⟨cw,fw⟩:=aH m.out.2.1;have E:Hid (∀w',w'=((((((wr.setCell (.a w 0) (.s key)).setCell (.a w 1) (.i (c 0))).setCell (.a w 2) (.i (c 1))).setCell (.a w 3) (.i (c 2))).setCell (.a w 4) (.i (c 3))).setCell (.a w 5) (.slice ad k cap))->w'.ownsRow w 117 3 (.slice ad k cap) k (aQ l)/\Rd w w' b (s,q)):=λw' aT=>by
      subst aT;have g:w<=w.heap.size/\w≠b:=⟨aba _,zo⟩
      exact⟨dy (dy (dy (dy (dy (dy HO.out m.out.2.1 zd _ _) (heap_set m.out.2.1) zd _ _) (heap_set (heap_set m.out.2.1)) zd _ _) (heap_set (heap_set (heap_set m.out.2.1))) zd _ _) (heap_set (heap_set (heap_set (heap_set m.out.2.1)))) zd _ _) (heap_set (heap_set (heap_set (heap_set (heap_set m.out.2.1))))) zd _ _,(((((m.out.2.2.setCell g _).setCell g _).setCell g _).setCell g _).setCell g _).setCell g _⟩
     have hp:∀j,j<4->gx c 4 j=c j:=λj hj=>by simp[gx,hj]
     simp only[recC,hp 0 zo,hp 1 zo,hp 2 zo,hp 3 zo] at*;by_cases bB:(k:Int)<(d:Int)
     .obtain rfl:q=true:=by
       have:=aq.out;simp only[not_and,acg]at this;exact this zo
      go_wp2;refine abn (v:=.agg (.q key c (.slice ad k cap))) ?_ rfl ⟨_,rfl,E.out _ rfl⟩;simp[results,aC.results177,go_sem,cw]
     .go_wp2;refine abn (v:=.agg (.q key c (.slice ad k cap))) ?_ rfl ⟨_,rfl,E.out _ rfl⟩;simp[results,aC.results177,go_sem,cw]
structure il(c:Ctx)(l:List aG):Prop where
 ctx:cR c=true
 some: ∃i,i<4/\c i≠0
 fX:∀v∈l,v.rep<4/\1<=v.n/\v.val.size<=12/\v.n<=c v.rep
 sorted:l.Pairwise λa b=>bf a b=true
theorem Nh{l:List aG}(h:∀j (hj:j+1<l.length),bf l[j] l[j+1]=true):l.Pairwise λa b=>bf a b=true:=by
 refine acr.2 λi j hi hj c=>?_;obtain⟨d,rfl⟩: ∃d,j=i+1+d:=⟨j-(i+1),zo⟩
 induction d with
 |zero=>exact h i hj
 |succ d f=>
  have a:=f zo zo;have b:=h (i+1+d) hj;simp only[bf,abb,<-Nat.add_assoc] at*;omega
def mY(c:Ctx)(l:List aG)(k:Nat):Prop:=∀j (h:j<l.length),j<k->(l[j].rep<4/\1<=l[j].n/\l[j].val.size<=12/\l[j].n<=c l[j].rep)/\(0<j->bf (l[j-1]'zo) l[j]=true)
theorem mY.on{c:Ctx}{l:List aG}{k:Nat}(h:mY c l k)(d:k<l.length)(h1:l[k].rep<4/\1<=l[k].n/\l[k].val.size<=12/\l[k].n<=c l[k].rep)(f:0<k->bf (l[k-1]'zo) l[k]=true):mY c l (k+1):=λj hj a=>by
 by_cases e:j=k
 .grind
 .exact h j hj zo
theorem mY.all{c:Ctx}{l:List aG}(h:mY c l l.length)(h1:cR c=true)(a: ∃i,i<4/\c i≠0):il c l:=
 ⟨h1,a,λv hv=>by obtain⟨j,hj,rfl⟩:=acZ hv;exact(h j hj hj).1,Nh λj hj=>(h (j+1) hj hj).2 zo⟩
theorem Ry(r:Nat)(n:Int)(t:ah)(w:af)(a:t.size<=maxLen):
  Calls aC.prog 198 #[.agg #[.i r,.i n,.s t]] w λe w'=>e=.r (.bool (decide (r<4/\1<=n/\t.size<=12)))/\Below w w w':=by
 have c:Hid _:=λW=>tL t W a;have a0:(0:Int)<=(r:Int):=zo;go_enter aC.func198,aC.ntmps198;by_cases a1:(r:Int)<4
 .by_cases d:1<=n
  .go_wp2_with (go_at_call 30;refine(c.out _).mono ?_;rintro e w' ⟨rfl,rfl⟩)
   go_ret;exact⟨by simp[show r<4 by omega,d],zj.alloc zf _⟩
  .go_wp2;go_ret;exact⟨congrArg (λz=>Ending.returned (.bool z)) (by symm;simp;intros;omega),zj.alloc zf _⟩
 .go_wp2;go_ret;exact⟨congrArg (λz=>Ending.returned (.bool z)) (by symm;simp;intros;omega),zj.alloc zf _⟩
theorem YX(d:Nat)(W:af)(a b c e:Int):(Op.equalIn (d+2) 70 (.agg #[.i a,.i b,.i c,.i e]) (.agg #[.i 0,.i 0,.i 0,.i 0])).run aC.prog W=.ok (decide (a=0/\b=0/\c=0/\e=0)) W:=by
 have h:=aC.underlying3;have f:=aC.underlying70;have g:=aC.isAgg3;have j:=aC.sizeOf3;rw[Op.equalIn];simp only[abH,abW f,abY];go_simp;rw[show List.range' 0 4= [0,1,2,3] from rfl];simp only[List.forIn_cons,List.forIn_nil,abH,g,abY,abf,abd];by_cases k:a=0
 .by_cases hb:b=0
  .by_cases l:c=0
   .by_cases m:e=0
    .go_simp
    .go_simp
   .go_simp
  .go_simp
 .go_simp
theorem Hb(W:af)(q:Nat)(os:Array Obj):Below W W (Go.Sort.grow (W.drewN q) os):=
 ⟨rfl,rfl,rfl,by simp[Go.Sort.grow],λk a=>by simp[Go.Sort.grow,Array.getElem?_append,a]⟩
theorem XA(c:Ctx)(sv:ag)(l:List aG)(w:af)(h:aU w sv l)(hl:l.length<=4294967296)(O:∀v∈l,v.val.size<=maxLen):
  Calls aC.prog 195 #[bY c sv] w λe w'=>∃z:Bool,e=.returned (.bool z)/\(z=true↔il c l)/\Below w.heap.size w w':=by
 have Z:=zu (λW=>qK c W);obtain⟨ad,cap,rfl,bx⟩:=h.len;have HV:=zu h;have bc:=zu O;have hz:∀W,(Op.equalIn 10000 70 (.agg #[.int .i64 (c 0),.int .i64 (c 1),.int .i64 (c 2),.int .i64 (c 3)]) (.agg #[.int .i64 0,.int .i64 0,.int .i64 0,.int .i64 0])).run aC.prog W=.ok (decide (c 0=0/\c 1=0/\c 2=0/\c 3=0)) W:=λW=>YX 9998 W _ _ _ _;by_cases T:cR c=true
 case neg=>
  rw[Bool.eq_false_iff.2 T]at Z;have HN:Hid (¬il c l):=λh=>T h.ctx;clear h T O;go_enter aC.func195,aC.ntmps195;go_wp2_with (go_at_call 31;refine(Z.out _).mono ?_;rintro e w1 ⟨rfl,m⟩;have f:=zu (bk (zj.alloc zf _) m);clear m)
  go_ret;exact⟨false,rfl,by simpa using HN.out,f.out⟩
 rw[T]at Z;by_cases E:c 0=0/\c 1=0/\c 2=0/\c 3=0
 case pos=>
  rw[abJ E]at hz;have HN:Hid (¬il c l):=λh=>by
   obtain⟨i,hi,hn⟩:=h.some;rcases dR hi with rfl|rfl|rfl|rfl<;>omega
  clear h T E O;go_enter aC.func195,aC.ntmps195;go_wp2_with (go_at_call 31;refine(Z.out _).mono ?_;rintro e w1 ⟨rfl,m⟩;obtain⟨c1,f1⟩:=aH (bj (By w _) m);have f:=zu (bk (zj.alloc zf _) m);clear m)
  go_ret;exact⟨false,rfl,by simpa using HN.out,f.out⟩
 rw[abC E]at hz;have ab:Hid (mY c l l.length->il c l):=λh=>h.all T (by
  by_cases h0:c 0=0
  .by_cases h1:c 1=0
   .by_cases h2:c 2=0
    .exact⟨3,zo,λh3=>E ⟨h0,h1,h2,h3⟩⟩
    .exact⟨2,zo,h2⟩
   .exact⟨1,zo,h1⟩
  .exact⟨0,zo,h0⟩)
 clear h T E O;go_enter aC.func195,aC.ntmps195;go_wp2_with (go_at_call 31;refine(Z.out _).mono ?_;rintro e w1 ⟨rfl,m⟩;obtain⟨c1,f1⟩:=aH (bj (By w _) m);have f:=zu (bk (zj.alloc zf _) m);have an:Hid (w1.heap[w.heap.size]?=some (.cells #[.int .i64 (c 0),.int .i64 (c 1),.int .i64 (c 2),.int .i64 (c 3),.slice ad l.length cap] 74)):=bj (By w _) m;clear m)
 have ao:Hid (aU w1 (.slice ad l.length cap) l):=bH HV.out f.out zf;have bN:=(IN.1 an.out).1;clear Z c1 f1 hz HV;go_loopw [18] (λiv wr=>∃k:Nat,k<=l.length/\iv=.int .i64 k/\Hid (Below w1.heap.size w1 wr)/\Hid (mY c l k)) (λiv _=>l.length-(intOf iv).toNat)
 case atStart=>exact⟨0,zo,rfl,zj,λj _ h=>absurd h (acf j)⟩
 case round=>
  obtain⟨k,hk,rfl,R,U⟩:=hrel;have hwr:=R.out.size;by_cases F:k<l.length
  .obtain⟨g,bB,aq,hg,_,_,d0,d1,d2⟩:=aU.cells (aU.below ao.out R.out) F;cases aq;have k1:(k:Int)<(l.length:Int):=zo;have k0:(0:Int)<=(k:Int):=zo;have ar:=zu (bj an.out R.out);have V:Hid (∀j (h:j<l.length) w',Below wr.heap.size wr w'->w'.cell? ⟨g,j*3,none⟩=some (.int .i64 l[j].rep)/\w'.cell? ⟨g,j*3+1,none⟩=some (.int .i64 l[j].n)/\w'.cell? ⟨g,j*3+2,none⟩=some (.string l[j].val)):=λj hj w' G=>by
    obtain⟨g',bL,e,_,_,_,x0,x1,x2⟩:=aU.cells (aU.below ao.out (bk R.out G)) hj;cases e;exact⟨x0,x1,x2⟩
   have bd:=bc.out _ (IS F);have H:Hid (¬(l[k].rep<4/\1<=l[k].n/\l[k].val.size<=12/\l[k].n<=c l[k].rep)->¬il c l):=λh h'=>h (h'.fX _ (IS F));have S:Hid (∀h:0<k,bf (l[k-1]'zo) l[k]=false->¬il c l):=λh1 h2 h'=>by
    have:=acr.1 h'.sorted (k-1) k zo F zo;rw[h2]at this;cases this
   have av:Hid ((l[k].rep<4/\1<=l[k].n/\l[k].val.size<=12/\l[k].n<=c l[k].rep)->(∀h:0<k,bf (l[k-1]'zo) l[k]=true)->mY c l (k+1)):=U.out.on F;clear U;generalize hv:l[k]=v at*;obtain⟨r,n,t⟩:=v;simp only[aG.rep,aG.n,aG.val] at*;have p:=zu (λW=>Ry r n t W bd);have D:Hid (∀w',Below (wr.heap.size+1) (wr.alloc (.cells #[.int .i64 r,.int .i64 n,.string t] 117)) w'->(∀o,w'.cell? ⟨wr.heap.size,o,none⟩=#[Value.int .i64 r,.int .i64 n,.string t][o]?)/\(∀o,w'.cell? ⟨w.heap.size,o,none⟩=#[Value.int .i64 (c 0),.int .i64 (c 1),.int .i64 (c 2),.int .i64 (c 3),.slice (some ⟨g,0,none⟩) l.length cap][o]?)/\Below wr.heap.size wr w'):=λw' G=>by
    have ay:Below (wr.alloc (.cells #[.int .i64 r,.int .i64 n,.string t] 117)).heap.size (wr.alloc (.cells #[.int .i64 r,.int .i64 n,.string t] 117)) w':=by simpa using G
    have az:=bk (zj.alloc zf _) ay;exact⟨(aH (bj (By wr _) ay)).1,(aH (bj ar.out az)).1,az⟩
   have aA:Hid (∀w',Below (wr.heap.size+1) (wr.alloc (.cells #[.int .i64 r,.int .i64 n,.string t] 117)) w'->Below w.heap.size w w'):=λw' h=>f.out.trans ((bk R.out (D.out _ h).2.2).mono f.out.size);by_cases a:r<4/\1<=n/\t.size<=12
   case neg=>
    rw[abC a]at p;have I:=H.out λh=>a ⟨h.1,h.2.1,h.2.2.1⟩;clear a;go_wp2_with (go_at_call 198;refine(p.out _).mono ?_;rintro e w2 ⟨rfl,d⟩;rw[show(wr.alloc (.cells #[.int .i64 r,.int .i64 n,.string t] 117)).heap.size=wr.heap.size+1 by simp]at d;obtain⟨v2,b2,_⟩:=D.out _ d;have C:Hid (Below (wr.heap.size+1) (wr.alloc (.cells #[.int .i64 r,.int .i64 n,.string t] 117)) w2):=d;clear d)
    go_ret;exact⟨false,rfl,by simpa using I,aA.out _ C.out⟩
   rw[abJ a]at p;have s1:=a.1;have P:=zu (λW=>xO c r n W s1);by_cases s4:n<=c r
   case neg=>
    rw[abC s4]at P;have I:=H.out λh=>s4 h.2.2.2;clear a s4;go_wp2_with (first
     |(go_at_call 198;refine(p.out _).mono ?_;rintro e w2 ⟨rfl,d⟩;rw[show(wr.alloc (.cells #[.int .i64 r,.int .i64 n,.string t] 117)).heap.size=wr.heap.size+1 by simp]at d;obtain⟨v2,b2,_⟩:=D.out _ d;have C:Hid (Below (wr.heap.size+1) (wr.alloc (.cells #[.int .i64 r,.int .i64 n,.string t] 117)) w2):=d;clear d)
     |(go_at_call 85;refine(P.out _).mono ?_;rintro e w3 ⟨rfl,J⟩;have s:=C.out.trans (J.mono (by have:=C.out.size;simpa using this));obtain⟨v3,b3,x3⟩:=D.out _ s;have Q:=zu x3;clear J s x3))
    go_ret;exact⟨false,rfl,by simpa using I,f.out.trans ((bk R.out Q.out).mono f.out.size)⟩
   rw[abJ s4]at P;have L:Hid ((∀h:0<k,bf (l[k-1]'zo) (r,n,t)=true)->mY c l (k+1)):=av.out ⟨s1,a.2.1,a.2.2,s4⟩;clear a H av;go_upto_region 8 with (first
    |(go_at_call 198;refine(p.out _).mono ?_;rintro e w2 ⟨rfl,d⟩;rw[show(wr.alloc (.cells #[.int .i64 r,.int .i64 n,.string t] 117)).heap.size=wr.heap.size+1 by simp]at d;obtain⟨v2,b2,_⟩:=D.out _ d;have C:Hid (Below (wr.heap.size+1) (wr.alloc (.cells #[.int .i64 r,.int .i64 n,.string t] 117)) w2):=d;clear d)
    |(go_at_call 85;refine(P.out _).mono ?_;rintro e w3 ⟨rfl,J⟩;have s:=C.out.trans (J.mono (by have:=C.out.size;simpa using this));obtain⟨v3,b3,x3⟩:=D.out _ s;have Q:=zu x3;clear J s x3))
   have X:=zu (bk R.out Q.out);by_cases bn:k=0
   .subst bn;go_quiet (fail);go_wp2;exact⟨⟨1,zo,by go_num,abg X.out _,L.out λh=>absurd h (Nat.lt_irrefl 0)⟩,zi⟩
   .obtain⟨j,rfl⟩: ∃j,k=j+1:=⟨k-1,zo⟩
    obtain⟨p0,p1,p2⟩:=V.out j zo w3 Q.out;have bR:j<l.length:=zo;have aB:Hid (bf l[j] (r,n,t)=false->¬il c l):=S.out zo;have aE:Hid (bf l[j] (r,n,t)=true->mY c l (j+1+1)):=λh=>L.out λ_=>h;clear S L;generalize bp:l[j]=u at*;obtain⟨Y,n',t'⟩:=u;simp only[aG.rep,aG.n,aG.val] at*;have aT: ∃z:Int,(z<0↔bf (Y,n',t') (r,n,t)=true)/\lY (ir Y r) (ir n' n)=z:=⟨_,by
     simp only[bf,aG.rep,aG.n,abb];unfold lY ir;split<;>split<;>omega,rfl⟩
    obtain⟨z,a1,hz⟩:=aT;have HD:Hid (∀W,Calls aC.prog 62 #[.agg #[.int .i64 Y,.int .i64 n',.string t'],.agg #[.int .i64 r,.int .i64 n,.string t]] W λe w'=>e=.returned (.int .i64 z)/\Below W.heap.size W w'):=λW=>by
     refine(Af Y n' r n t' t W).mono ?_;rintro e w' ⟨rfl,q,br,rfl⟩;exact⟨by rw[hz],Hb W q br⟩
    have j1:((j:Int)+1-1)=(j:Int):=zo;have j2:(0:Int)<=(j:Int):=zo;have j3:(j:Int)<(l.length:Int):=zo;have y4:=b3 4;have q0:=v3 0;have q1:=v3 1;have q2:=v3 2;simp at y4 q0 q1 q2;have a6:Hid (∀w',Below w3.heap.size w3 w'->w'.cell? ⟨w.heap.size,4,none⟩=some (.slice (some ⟨g,0,none⟩) l.length cap)/\w'.cell? ⟨g,j*3,none⟩=some (.int .i64 Y)/\w'.cell? ⟨g,j*3+1,none⟩=some (.int .i64 n')/\w'.cell? ⟨g,j*3+2,none⟩=some (.string t')/\w'.cell? ⟨wr.heap.size,0,none⟩=some (.int .i64 r)/\w'.cell? ⟨wr.heap.size,1,none⟩=some (.int .i64 n)/\w'.cell? ⟨wr.heap.size,2,none⟩=some (.string t)):=λw' G=>⟨aX y4 G,aX p0 G,aX p1 G,aX p2 G,aX q0 G,aX q1 G,aX q2 G⟩
    clear y4 q0 q1 q2 p0 p1 p2 b3 v3 b2 v2 hz bp hv d0 d1 d2;obtain⟨kI,a7⟩: ∃z:Int,((j+1:Nat):Int)=z:=⟨_,rfl⟩
    have m1:IntKind.i64.wrap (kI-1)=(j:Int):=by rw[IntKind.wrap_i64];omega
    have m2:(0:Int)<kI:=zo;have m3:kI<=4294967296:=zo;have a8:=zu ((show kI=(j:Int)+1 by omega));rw[a7] at*;clear j1 a7;by_cases bb:z<0
    .have bs:=zu (aE.out (a1.1 bb));go_region_held3 (λw'=>w'.cell? ⟨w.heap.size,4,none⟩=some (.slice (some ⟨g,0,none⟩) l.length cap)/\w'.cell? ⟨g,j*3,none⟩=some (.int .i64 Y)/\w'.cell? ⟨g,j*3+1,none⟩=some (.int .i64 n')/\w'.cell? ⟨g,j*3+2,none⟩=some (.string t')/\w'.cell? ⟨wr.heap.size,0,none⟩=some (.int .i64 r)/\w'.cell? ⟨wr.heap.size,1,none⟩=some (.int .i64 n)/\w'.cell? ⟨wr.heap.size,2,none⟩=some (.string t))
      ((refine a6.out _ ?_;first|exact N|(simp (maxDischargeDepth:=12) [aaP,aaR];done)))
      (first|(go_at_call 62;refine AI (HD.out _) ?_;rintro e w4 ⟨rfl,y⟩;have N:=bk zj.drew y;clear y))
     all_goals
      go_wp2;exact⟨⟨j+2,zo,by rw[a8.out];go_num,bk X.out N,bs.out⟩,by rw[a8.out];simp[intOf];omega⟩
    .have I:=aB.out (by rw[<-aby];exactλh=>bb (a1.2 h));go_region_held3 (λw'=>w'.cell? ⟨w.heap.size,4,none⟩=some (.slice (some ⟨g,0,none⟩) l.length cap)/\w'.cell? ⟨g,j*3,none⟩=some (.int .i64 Y)/\w'.cell? ⟨g,j*3+1,none⟩=some (.int .i64 n')/\w'.cell? ⟨g,j*3+2,none⟩=some (.string t')/\w'.cell? ⟨wr.heap.size,0,none⟩=some (.int .i64 r)/\w'.cell? ⟨wr.heap.size,1,none⟩=some (.int .i64 n)/\w'.cell? ⟨wr.heap.size,2,none⟩=some (.string t))
      ((refine a6.out _ ?_;first|exact N|(simp (maxDischargeDepth:=12) [aaP,aaR];done)))
      (first|(go_at_call 62;refine AI (HD.out _) ?_;rintro e w4 ⟨rfl,y⟩;have N:=bk zj.drew y;clear y))
     all_goals
      go_wp2;go_ret;exact⟨false,rfl,by simpa using I,f.out.trans ((bk X.out N).mono f.out.size)⟩
  .obtain rfl:k=l.length:=zo;have hs:=ab.out U.out;go_wp2;go_ret;exact⟨true,rfl,by simpa using hs,f.out.trans (R.out.mono f.out.size)⟩
def kL(t:ah×Ctx×List aG)(n:Nat):Prop:=bq t.1=true/\aZ t.1=n/\il t.2.1 t.2.2
theorem XN(key:ah)(c:Ctx)(sv:ag)(l:List aG)(n:Nat)(w:af)(h:aU w sv l)(hl:l.length<=4294967296)(d:∀v∈l,v.val.size<=maxLen)(f:key.size<=maxLen):
  Calls aC.prog 178 #[.agg (.q key c sv),.i n] w λe w'=>∃z:Bool,e=.r (.bool z)/\(z=true↔kL (key,c,l) n)/\Below w w w':=by
 obtain⟨ad,cap,rfl,m⟩:=h.len;have g:Hid _:=λW=>lH key W f;have o:Hid _:=λW=>E7 key W f;have s:Hid (∀W,Below w w W->Calls aC.prog 195 #[bY c (.slice ad l.length cap)] W λe w'=>∃z:Bool,e=.r (.bool z)/\(z=true↔il c l)/\Below w w w'):=λW p=>(XA c _ l W (aU.below h p) hl d).mono λe w' ⟨z,u,k,hb⟩=>⟨z,u,k,bk p hb⟩
 clear h d;go_enter aC.func178,aC.ntmps178;by_cases j:bq key=true
 .rw[j]at g;by_cases y:(aZ key:Int)=(n:Int)
  .have a:aZ key=n:=zo;go_wp2_with (first
    |(go_at_call 29;refine(g.out _).mono ?_;rintro e w' ⟨rfl,rfl⟩)
    |(go_at_call 58;refine(o.out _).mono ?_;rintro e w' ⟨rfl,rfl⟩)
    |(go_at_call 195;refine(s.out _ (zj.alloc zf _)).mono ?_;rintro e w2 ⟨z,rfl,k,hb⟩))
   go_ret;exact⟨z,rfl,by simp[kL,j,k,a],hb⟩
  .have a:aZ key≠n:=zo;go_wp2_with (first
    |(go_at_call 29;refine(g.out _).mono ?_;rintro e w' ⟨rfl,rfl⟩)
    |(go_at_call 58;refine(o.out _).mono ?_;rintro e w' ⟨rfl,rfl⟩))
   go_ret;exact⟨false,rfl,by simp[kL,a],zj.alloc zf _⟩
 .rw[Bool.eq_false_iff.2 j]at g;go_wp2_with (go_at_call 29;refine(g.out _).mono ?_;rintro e w' ⟨rfl,rfl⟩)
  go_ret;exact⟨false,rfl,by simp[kL,j],zj.alloc zf _⟩
theorem Nr{k:ah}(h:bq k=true):k.data.toList.length<=8/\∀b∈k.data.toList,oT b=true:=by
 simp only[bq,No,abb,abK]at h;simp_all
theorem Dj{l:List aG}(h:∀v∈l,v.val.size<=12):(dz l).size<=18*l.length:=by
 have key:∀(m:List aG) (s:ah),(∀v∈m,v.val.size<=12)->(m.foldl (λs v=>s++gq v) s).size<=s.size+18*m.length:=λm=>by
  induction m with
  |nil=>intro s _;simp
  |cons v m a=>
   intro s hs;have c:=a (s++gq v) λx d=>hs x (by simp[d]);have f:=hs v zp;rw[OF,Gn]at c;grind
 have:=key l ByteArray.empty h;simpa[dz] using this
theorem AA{l:List (ah×Ctx×List aG)}(h:∀r∈l,r.1.size<=8/\r.2.2.length<=5000000/\∀v∈r.2.2,v.val.size<=12):(fW l).size<=90000029*l.length:=by
 have key:∀(m:List (ah×Ctx×List aG)) (s:ah),(∀r∈m,r.1.size<=8/\r.2.2.length<=5000000/\∀v∈r.2.2,v.val.size<=12)->(m.foldl (λs r=>s++dY r.1 r.2.1 r.2.2) s).size<=s.size+90000029*m.length:=λm=>by
  induction m with
  |nil=>intro s _;simp
  |cons r m a=>
   intro s hs;have c:=a (s++dY r.1 r.2.1 r.2.2) λx d=>hs x (by simp[d]);obtain⟨g,i,f⟩:=hs r zp;have j:=Dj f;rw[OF,I1]at c;grind
 have:=key l ByteArray.empty h;simpa[fW] using this
section
open Go.Lib (strCells strCells_length strCells_oneCell Bytes)
theorem sx{s:ah}(h:bF w B v s):(convert 124 9 v).run aC.prog w=.ok (.s s) w:=by
 rcases h.2 with⟨rfl,k⟩|⟨g,cap,d,rfl,_,f,l,_,hs,j⟩
 .obtain rfl:s=ByteArray.empty:=by
   simp_all
  simpa using Go.run_convert_bytes_nil (P:=aC.prog) w 124 5 aC.underlying124 aC.underlying5 0 0 9 aC.underlying9
 .refine Go.Lib.run_convert_whole (P:=aC.prog) w 124 5 9 aC.underlying124 aC.underlying5 aC.underlying9 g 0 s (λi hi=>?_) cap;have c:(strCells s)[i]?=some (.int .u8 (s[i].toNat:Int)):=by
   have a:i<s.data.toList.length:=by simp_all
   rw[strCells,ada,abG a];simp;rfl
  rw[<-j,abQ,BY zo]at c;simpa[World.cell?,f] using c
def dB(w:af)(m:Nat):List MapEntry:=match w.heap[m]? with
 |some (.map es _)=>es.toList
 |_=>[]
def gG(w:af)(bm:Nat->Nat)(K:aL)(n:Nat):ByteArray:=fW (iN K (dB w (bm n)))
theorem Fi{n:Nat}(h:w'.heap[bm n]?=w.heap[bm n]?):gG w' bm K n=gG w bm K n:=by
 simp only[gG,dB,h]
theorem Ai(a:mi K){es:List aw}{Q:ah->Prop}{clock:Nat}(h:lU Q es clock)(d:∀k,Q k->bq k=true):∀r∈iN K es,r.1.size<=8/\r.2.2.length<=5000000/\∀v∈r.2.2,v.val.size<=12:=λr f=>by
 obtain⟨x,g,rfl⟩:=aaW.1 f
 have:=Nr (AW (λe i=>(h.2.2.2 e i).imp λk c=>⟨c.1,d k c.2⟩) g);exact⟨by simpa using this.1,(a _).2.1,(a _).2.2.1⟩
theorem Fq(K:aL)(es:List aw):(iN K es).length=es.length:=by
 rw[iN,abe,(pq _).length_eq,fE,abe]
def FL(w:af)(bm:Nat->Nat):Prop:=∀n,n<64->(dB w (bm n)).length<=1300000
def gi(w:af)(bm:Nat->Nat)(K:aL):Prop:=mi K/\FL w bm
theorem yY{m:Nat}(h:w'.heap[m]?=w.heap[m]?):dB w' m=dB w m:=by simp only[dB,h]
theorem gi.below{W:af}{num:Nat}(a:gi w bm K)(h:aV w b bm num K)(hb:Below w w W):gi W bm K:=
 ⟨a.1,λn c=>by rw[yY (hb.block _ (h.2.1 n c).lt)];exact a.2 n c⟩
theorem CQ{num:Nat}(h:aV w b bm num K)(c:gi w bm K){n:Nat}(d:n<64):(gG w bm K n).size<=117100000000000:=by
 have j:=c.2 n d;obtain⟨es,clock,g,l,f,a,_⟩:=h.2.1 n d;have i:=AA (Ai c.1 a λk h=>h.2.2);rw[Fq]at i;simp only[gG,dB,g] at*;omega
theorem EJ(b num n:Nat)(bm:Nat->Nat)(K:aL)(w:af)(h:aV w b bm num K)(u:gi w bm K)(y:n<64):
  Calls aC.prog 49 #[.p b,.i n] w λe w'=>e=.r (.s (gG w bm K n))/\Below w w w':=by
 have E:=h.1.bC y;have I:=CQ h u y;have C:=u.2 n y;obtain⟨es,clock,z,F,f,g,_⟩:=h.2.1 n y;simp only[dB,z]at C;have J:Hid _:=Ai u.1 g λk h=>h.2.2;have j:Hid _:=JI (bm n) n K w es clock z F f g (by rw[Array.length_toList]at C;omega);have G:=zu ((show gG w bm K n=fW (iN K es.toList) by simp only[gG,dB,z]));generalize gG w bm K n=tx at*;have L:(n:Int)<64:=zo;have N:(0:Int)<=(n:Int):=zo;have O:w.cell? (.a b (1+n))=some (.map (some (bm n))):=by rw[acV];exact E
 clear h u z F f g C E;generalize bm n=m at*;go_enter aC.func49,aC.ntmps49;go_wp2_with (first
  |(go_at_call 72;refine AI j.out ?_;rintro e w1 ⟨P,rs,rfl,aT,hv,d,l⟩;have Q:Hid _:=KX w P rs w1 aT (λr H=>⟨hv r H,by have R:=(J.out (Rc.bP r) (by rw[<-d];exact adq H)).2.1;exact IT R zd⟩) (by rw[Cs,d,<-G.out];omega);have o:Hid _:=l;have S:=zu ((show fy rs=tx by rw[Cs,d,<-G.out]));clear aT hv d l)
  |(go_at_call 71;refine AI Q.out ?_;rintro e w2 ⟨T,rfl,c,q⟩;rw[S.out]at c;have hcv:=sx c;have D:Hid _:=o.out.trans (q.mono o.out.size);clear c q))
 go_ret;exact⟨rfl,D.out⟩
end
section
open Go.Lib (strCells strCells_length strCells_oneCell)
theorem aC.CJ:(aC.prog.info? 55).map (λi=>(i.zero,i.size,i.bytes))=some (some (.int .u64 0),1,8):=zk
def jh(w:af)(B:Nat)(v:ag)(ds:List Int):Prop:=w.ownsRow B 55 1 v ds.length (ds.map (.int .u64))
theorem CW{k:Nat}{x:ag}(hs:k<M.size)(h:M.toList.take k=xs):(M.setIfInBounds k x).toList.take (k+1)=xs++ [x]:=by
 subst h;apply adh;grind
def wN(w:af)(f:Nat->Int)(n k:Nat)(wr:af):Prop:=
 ∃M:aa,wr.heap[w.heap.size]?=.c M 55/\M.size=n/\M.toList.take k=((List.range k).map f).map (.int .u64)/\Below w w wr
theorem wN.row{f:Nat->Int}{n:Nat}(h:wN w f n n wr)(a:n<=maxLen):jh wr w (.l w n n) ((List.range n).map f):=by
 obtain⟨M,c,g,d,i⟩:=h;refine⟨zp,Or.inr ⟨w,n,M,zp,zf,c,zp,a,zo,?_⟩⟩;simpa using d
theorem GB{k:Nat}(h:w.heap[b]?=.c M t)(d:k<M.size):(∃x,w.cell? (.a b k)=some x)/\∀o,w.frozen? (.a b o)=false:=
 ⟨⟨M[k],by simp only[World.cell?,h];simp[d]⟩,λo=>by simp[World.frozen?,h]⟩
def BK:Func:={Tryz.f95 with ntmps:=20,results:=#[.tmp 6],body:=some YtldmcdeibiclkaaGreat.U.tq}
theorem aC.func95:aC.prog.funcs[95]?=some BK:=by
 rw[aC.is,aC.IV,YtldmcdeibiclkaaGreat.U.Gg,Array.getElem?_setIfInBounds_self,BY]
 .rw[YtldmcdeibiclkaaGreat.U.po,Tryz.func95];rfl
 .have:=Tryz.func95;grind
def aC.ntmps95:BK.ntmps=20:=rfl
def aC.results95:BK.results=#[.tmp 6]:=rfl
attribute [local simp] aC.results95
theorem OI(b first c:Nat)(T:Nat->ah)(w:af)(V:∀k:Nat,k<64->∀W,Below w w W->Calls aC.prog 49 #[.p b,.i k] W λe w'=>e=.r (.s (T k))/\Below W W w')(j:∀k,k<64->(T k).size<=maxLen)(X:c=1\/c=4\/c=16\/c=64)(hf:first+c<=64):
  Calls aC.prog 95 #[.i first,.i c,.func (.func 49) #[.p b] #[]] w λe w'=>∃v,e=.r v/\jh w' w v ((List.range c).map λi=>ga (T (first+i)))/\Below w w w':=by
 obtain⟨i0,l,m,n,o⟩:=aaY aC.CJ;have d:=run_make (P:=aC.prog) w 158 55 i0 _ aC.underlying158 l m .i64 .i64 c c zo zo (by rw[o];omega) zo;rw[n]at d;simp only[Int.toNat_natCast]at d;have I:=size_madeCells (Value.int .u64 0).cells (c*1);generalize madeCells (Value.int .u64 0).cells (c*1)=M at d I;have HM:=zu ((show M.size=c by rw[I,Nat.mul_one]));have HT:Hid _:=V;have J:Hid _:=j;clear I l m n o V j;obtain⟨b1,Y⟩: ∃x,((c:Int)==1)=x:=⟨_,rfl⟩
 obtain⟨b2,Z⟩: ∃x,((c:Int)==4)=x:=⟨_,rfl⟩
 obtain⟨b3,h3⟩: ∃x,((c:Int)==16)=x:=⟨_,rfl⟩
 obtain⟨L,h4⟩: ∃x,((c:Int)==64)=x:=⟨_,rfl⟩
 have HB:Hid _:=(show(b1||b2||b3||L)=true by
  rw[<-Y,<-Z,<-h3,<-h4];rcases X with rfl|rfl|rfl|rfl<;>rfl)
 clear X;go_enter aC.func95,aC.ntmps95;simp only[YtldmcdeibiclkaaGreat.U.tq,YtldmcdeibiclkaaGreat.U.qOp,YtldmcdeibiclkaaGreat.U.qI,YtldmcdeibiclkaaGreat.U.qU,YtldmcdeibiclkaaGreat.U.kS,YtldmcdeibiclkaaGreat.U.BB,YtldmcdeibiclkaaGreat.U.Bt];go_wp2
 all_goals
  clear Y Z h3 h4;(try cases (show b1=true by assumption))
  (try cases (show b1=false by assumption))
  (try cases (show b2=true by assumption))
  (try cases (show b2=false by assumption))
  (try cases (show b3=true by assumption))
  (try cases (show b3=false by assumption))
  (try cases (show L=true by assumption))
  (try cases (show L=false by assumption))
 all_goals first
  |(exact absurd HB.out zd)
  |(exact absurd (show true=false by assumption) zd)
  |skip
 all_goals
  clear HB;go_loopw [3] (λi wr=>∃k:Nat,k<=c/\i=.i k/\Hid (wN w (λi=>ga (T (first+i))) c k wr)) (λi _=>c-(intOf i).toNat)
  case atStart=>exact⟨0,zo,rfl,M,By w _,HM.out,zp,zj.alloc zf _⟩
  case round=>
   obtain⟨k,hk,rfl,hrel⟩:=hrel;by_cases q:k<c
   .obtain⟨H,N,u,y,hb⟩:=hrel.out;have f:=HT.out (first+k) zo;simp only[Int.natCast_add]at f;have z:Hid _:=f;have O:Hid _:=J.out (first+k) zo;have Q:Hid (((List.range (k+1)).map λi=>ga (T (first+i))).map (Value.int .u64)=((List.range k).map λi=>ga (T (first+i))).map (Value.int .u64)++ [.int .u64 (ga (T (first+k)))]):=(show(((List.range (k+1)).map λi=>ga (T (first+i))).map (Value.int .u64))=_ by simp[List.range_succ])
    have R:=pY (T (first+k)) (T (first+k)).size;have ab:=R.1;have ad:=R.2;clear R f;have HS:Hid _:=λW=>zH _ W O.out;generalize ga (T (first+k))=F at*;generalize T (first+k)=tx at*;have a:Hid (wr.heap[w.heap.size]?=.c H 55/\H.size=c/\H.toList.take k=((List.range k).map λi=>ga (T (first+i))).map (.int .u64)/\Below w w wr):=⟨N,u,y,hb⟩
    have C:=hb.size;have an:=(IN.1 N).1;clear N u y hb hrel;have ao:(k:Int)<(c:Int):=zo;have k0:(0:Int)<=(k:Int):=zo;have f0:(0:Int)<=(first:Int):=zo;have fk:(first:Int)+(k:Int)<64:=zo;go_wp2_with (first
     |(go_at_call 49;refine AI (z.out _ a.out.2.2.2) ?_;rintro e w1 ⟨rfl,D⟩;have g:Hid _:=D;clear D)
     |(go_at_call 49;refine AI (z.out _ (a.out.2.2.2.trans (g.out.mono C))) ?_;rintro e w3 ⟨rfl,E⟩;have G:Hid _:=g.out.trans (E.mono g.out.size);have m0:=bj a.out.1 G.out;obtain⟨⟨x1,m1⟩,m2⟩:=GB (k:=k) m0 (by rw[a.out.2.1];exact q);have S:Hid _:=m0;clear E m0)
     |(go_at_call 84;refine AI (HS.out _) ?_;rintro e w2 ⟨rfl,rfl⟩))
    refine⟨⟨k+1,zo,by go_num,_,heap_set S.out,by rw[acW];exact a.out.2.1,?_,(a.out.2.2.2.trans (G.out.mono C)).setCell zf _⟩,zi⟩;rw[Q.out];exact CW (by rw[a.out.2.1];exact q) a.out.2.2.1
   .obtain rfl:k=c:=zo;have HR:=zu hrel.out;clear hrel;go_wp2;go_ret;exact⟨_,rfl,HR.out.row ze,HR.out.elim λH h=>h.2.2.2⟩
end
section
open Go.Lib (strCells strCells_length strCells_oneCell)
theorem Jc{n:Nat}(h:n<=3):n=0\/n=1\/n=2\/n=3:=zo
theorem mz{k:Nat}(h:k<=3):4 ^ k<=64/\1<=4 ^ k:=by
 rcases Jc h with rfl|rfl|rfl|rfl<;>decide
theorem DV(n:Nat)(f:n<=3)(w:af):Calls aC.prog 70 #[.i n] w λe w'=>e=.r (.i (4 ^ n:Nat))/\w'=w:=by
 go_enter aC.func70,aC.ntmps70;go_wp2;go_loop [3,5] (λc i=>∃k:Nat,k<=n/\i=.i k/\c=.i (4 ^ k:Nat)) (λ_ i=>n-(intOf i).toNat)
 case atStart=>exact⟨0,zo,rfl,rfl⟩
 case round=>
  obtain⟨k,g,rfl,rfl⟩:=hrel;by_cases a:k<n
  .have g1:(k:Int)<(n:Int):=zo;have h:=(mz (k:=k) zo).1;have d:Hid (4 ^ (k+1)=4 ^ k*4):=acR ..;generalize 4 ^ k=p at*;go_wp2;exact⟨⟨k+1,zo,by go_num,by rw[d.out];go_num⟩,zi⟩
  .obtain rfl:k=n:=zo;go_wp2;go_ret;exact⟨rfl,rfl⟩
theorem xB(l n:Nat)(hl:l<=4)(w:af):Calls aC.prog 48 #[.i l,.i n] w λe w'=>e=.r (.bool (decide (l<=3/\n<4 ^ l)))/\w'=w:=by
 have f:(0:Int)<=(l:Int):=zo;have n0:(0:Int)<=(n:Int):=zo;by_cases a:l<=3
 .have g:(l:Int)<=3:=zo;have d:Hid _:=λW=>DV l a W;have c:=zu ((show decide (l<=3/\n<4 ^ l)=decide (n<4 ^ l) by simp[a]));rw[c.out];clear c;generalize 4 ^ l=p at*;go_enter aC.func48,aC.ntmps48;go_wp2_with (go_at_call 70;refine AI (d.out _) ?_;rintro e w1 ⟨rfl,rfl⟩)
  go_ret;exact⟨rfl,rfl⟩
 .obtain rfl:l=4:=zo;go_enter aC.func48,aC.ntmps48;go_wp2;go_ret;exact⟨rfl,rfl⟩
def cu(d:Nat->Int):Nat->ah
 |0=>ByteArray.empty
 |k+1=>cu d k++eA (d k)
def Bi(d:Int):(eA d).size=8:=uW d 8
theorem kx(d:Nat->Int):∀k,(cu d k).size=8*k
 |0=>rfl
 |k+1=>by rw[cu,OF,kx d k,Bi];omega
def jy(d:Nat->Int):Int:=ga (cu d 4)
theorem WY(g c cap:Nat)(d:Nat->Int)(w:af)(E:g<w)(z:∀j,j<4->w.cell? (.a g (c+j))=some (.int .u64 (d j)))(C:(cap:Int)<=9223372036854775807):
  Calls aC.prog 131 #[.slice (.a g c) 4 cap] w λe w'=>e=.r (.int .u64 (jy d))/\Below w w w':=by
 have F:Hid _:=z;clear z;go_enter aC.func131,aC.ntmps131;go_wp2;go_loopw [3,8] (λo i wr=>∃k:Nat,k<=4/\i=.i k/\Hid (bF wr w o (cu d k))/\Hid (Below w w wr)) (λ_ i _=>4-(intOf i).toNat)
 case atStart=>exact⟨0,zo,rfl,bF.nil _ _,zj⟩
 case round=>
  obtain⟨k,J,rfl,D,hb⟩:=hrel;have m:=zu D.out;have n:=zu hb.out;have f:=hb.out.size;clear D hb;by_cases q:k<4
  .have G:=(n.out.cell (p:=(.a g (c+k))) E).trans (F.out k q);have g1:(k:Int)<4:=zo;have g0:(0:Int)<=(k:Int):=zo;have H:Hid _:=Ca w u3 (cu d k) (d k) wr m.out f (by rw[kx];omega);go_wp2_with (go_at_call 77;refine AI H.out ?_;rintro e w1 ⟨v1,rfl,h,l⟩;have u:Hid (bF w1 w v1 (cu d (k+1))):=h;have y:=zu (l.toBelow n.out f m.out);clear h l)
   exact⟨⟨k+1,zo,by go_num,u.out,y.out⟩,zi⟩
  .obtain rfl:k=4:=zo;have hcv:=sx m.out;have I:Hid (∀W,Calls aC.prog 84 #[.s (cu d 4)] W λe w'=>e=.r (.int .u64 (jy d))/\w'=W):=λW=>zH _ W (by rw[kx];decide);go_wp2_with (go_at_call 84;refine AI (I.out _) ?_;rintro e w2 ⟨rfl,rfl⟩)
   go_ret;exact⟨rfl,n.out⟩
def jh.len{ds:List Int}(h:jh w B v ds): ∃ad cap,v=.slice ad ds.length cap/\(cap:Int)<=9223372036854775807/\ds.length<=cap:=lh h
theorem jh.below{ds:List Int}(h:jh w B v ds)(hb:Below w w w'):jh w' B v ds:=bH h hb zf
theorem Qq(B m:Nat)(v:ag)(f:Nat->Int)(w:af)(hm:1<=m/\m<=16)(h:jh w B v ((List.range (m*4)).map f)):
  Calls aC.prog 96 #[v] w λe w'=>∃v',e=.r v'/\jh w' w v' ((List.range m).map λi=>jy λj=>f (i*4+j))/\Below w w w':=by
 obtain⟨g,cap,rfl,y,d,ab,an⟩: ∃g cap,v=.l g (m*4) cap/\g<w/\(∀k,k<m*4->w.cell? (.a g k)=some (.int .u64 (f k)))/\(cap:Int)<=9223372036854775807/\m*4<=cap:=by
  have hl:((List.range (m*4)).map f).length=m*4:=zp;have o:∀k,k<m*4->(((List.range (m*4)).map f).map (Value.int .u64))[k]?=some (.int .u64 (f k)):=λk Q=>by simp[Q]
  unfold jh at h;rw[hl]at h;obtain⟨g,cap,hv,hg,_⟩:=xx h (o 0 zo);obtain⟨ad,z,n,S,T⟩:=lh h;rw[hv]at n;cases n;refine⟨g,cap,hv,hg,λk Q=>?_,S,T⟩;obtain⟨g',z,n,_,hc⟩:=xx h (o k Q);rw[hv]at n;cases n;exact hc
 clear h;obtain⟨i0,C,D,E,G⟩:=aaY aC.CJ;have q:=run_make (P:=aC.prog) w 158 55 i0 _ aC.underlying158 C D .i64 .i64 m m zo zo (by rw[G];omega) zo;rw[E]at q;simp only[Int.toNat_natCast]at q;have U:=size_madeCells (Value.int .u64 0).cells (m*1);generalize madeCells (Value.int .u64 0).cells (m*1)=M at q U;have HM:=zu ((show M.size=m by rw[U,Nat.mul_one]));have HC:Hid _:=d;clear U C D E G d;have H:Int.tdiv ((m*4:Nat):Int) 4=(m:Int):=by
  rw[Int.natCast_mul];exact Int.mul_tdiv_cancel _ zd
 have s:((m*4:Nat):Int) / 4=(m:Int):=zo;go_enter aC.func96,aC.ntmps96;go_wp2;clear H s;go_loopw [11] (λi wr=>∃k:Nat,k<=m/\i=.i k/\Hid (wN w (λi=>jy λj=>f (i*4+j)) m k wr)) (λi _=>m-(intOf i).toNat)
 case atStart=>exact⟨0,zo,rfl,M,By w _,HM.out,zp,zj.alloc zf _⟩
 case round=>
  obtain⟨k,Q,rfl,hrel⟩:=hrel;by_cases I:k<m
  .obtain⟨R,V,J,L,hb⟩:=hrel.out;have X:Hid (((List.range (k+1)).map λi=>jy λj=>f (i*4+j)).map (Value.int .u64)=((List.range k).map λi=>jy λj=>f (i*4+j)).map (Value.int .u64)++ [.int .u64 (jy λj=>f (k*4+j))]):=(show(((List.range (k+1)).map λi=>jy λj=>f (i*4+j)).map (Value.int .u64))=_ by simp[List.range_succ])
   have HN:Hid _:=WY g (k*4) (cap-k*4) (λj=>f (k*4+j)) wr (abc y hb.size) (λj hj=>(hb.cell (p:=(.a g (k*4+j))) y).trans (HC.out (k*4+j) zo)) zo;generalize (jy λj=>f (k*4+j))=F at*;have u:Hid (wr.heap[w.heap.size]?=.c R 55/\R.size=m/\R.toList.take k=((List.range k).map λi=>jy λj=>f (i*4+j)).map (.int .u64)/\Below w w wr):=⟨V,J,L,hb⟩
   have Y:=hb.size;have ao:=(IN.1 V).1;clear V J L hb hrel;have aq:∀W,(Instr.slice 158 (.l g (m*4) cap) (.i ((k:Int)*4)) (.i (((k:Int)+1)*4)) none).run aC.prog W=.ok (.slice (.a g (k*4)) 4 (cap-k*4)) W:=λW=>by
    have:=Go.Lib.run_slice_window (P:=aC.prog) W 158 55 aC.underlying158 aC.sizeOf55 g 0 (m*4) cap (k*4) ((k+1)*4) zo zo;rw[show(k+1)*4-k*4=4 by omega,Nat.zero_add]at this;simpa using this
   have ar:(k:Int)<(m:Int):=zo;have k0:(0:Int)<=(k:Int):=zo;go_wp2_with (go_at_call 131;refine AI HN.out ?_;rintro e w3 ⟨rfl,N⟩;have O:Hid _:=N;have m0:=bj u.out.1 O.out;obtain⟨⟨x1,m1⟩,m2⟩:=GB (k:=k) m0 (by rw[u.out.2.1];exact I);have Z:Hid _:=m0;clear N m0)
   refine⟨⟨k+1,zo,by go_num,_,heap_set Z.out,by rw[acW];exact u.out.2.1,?_,(u.out.2.2.2.trans (O.out.mono Y)).setCell zf _⟩,zi⟩;rw[X.out];exact CW (by rw[u.out.2.1];exact I) u.out.2.2.1
  .obtain rfl:k=m:=zo;have HR:=zu hrel.out;clear hrel;go_wp2;go_ret;exact⟨_,rfl,HR.out.row ze,HR.out.elim λR h=>h.2.2.2⟩
end
end Go.Proofs.YtldmcdeibiclkaaGreatQ
