/-
  Toward all_holds
-/
import Derived.Test.YtldmcdeibiclkaaGreatC18
import Derived.Test.YtldmcdeibiclkaaGreatC17
import Derived.Test.YtldmcdeibiclkaaGreatC01
set_option linter.all false
noncomputable section
set_option maxRecDepth 100000
set_option maxHeartbeats 20000000
namespace Go.Proofs.YtldmcdeibiclkaaGreatQ
variable {w:af}{sv v:ag}{t:ak}
open Go.RowKit
def NR(sv:ag)(g:Nat):Prop:=∀a l c,sv=.slice (some a) l c->a.block≠g
theorem O8{B n size:Nat}{xs:ae}(h:w.ownsRow B t size v n xs):∀g,g<B->NR v g:=by
 intro g i a l c hv e;rcases h.2 with j|⟨k,cap,b,d,f,_⟩
 .grind
 grind
def Sq{l:List aG}(h:aU w sv l)(X:Obj):aU (w.alloc X) sv l:=aaV h X
theorem A3{l:List aG}{g o:Nat}(h:aU w sv l)(d:NR sv g):aU (w.setCell (.a g o) v) sv l:=by
 obtain⟨e,b⟩:=h;refine⟨e,?_⟩;rcases b with b|⟨f,cap,c,hv,i,j,r⟩
 .exact Or.inl b
 .refine Or.inr ⟨f,cap,c,hv,i,?_,r⟩;rw[aaS _ _ _ _ (d _ _ _ hv)];exact j
theorem N9(b num:Nat)(bm:Nat->Nat)(K:aL)(key val:ah)(seen:Ctx)(w:af)(h:aV w b bm num K)(X:mi K)(p:bq key=true)(aE:key.size<=8)(Y:val.size<=12)(z:cR seen=true)(q:num<4)(hn:(aS (K key).2 seen).length<20)(h0:0<=aO (K key).1 seen num)(h1:aO (K key).1 seen num<1000000):
  Calls aC.prog 13 #[.pointer (some ⟨b,0,none⟩),.string key,.string val,bz seen] w λe w'=>e=.returned (.int .i64 0)/\∃C,C.Perm (aS (K key).2 seen++ [(num,aO (K key).1 seen num+1,val)])/\C.Pairwise (λa b=>bf b a=false)/\aV w' b bm num (dV K key (bump (aO (K key).1 seen) num,C))/\w.grownBy w' (some (bm (aZ key))):=by
 have hb:=h.1;have F:=zu h;obtain⟨es,clock,hm,hk,r,_⟩:=h.2.1 _ (kP key);obtain⟨sv,u,j⟩:=r key rfl;obtain⟨ad,cap,rfl,aA⟩:=j.len;have G:∀W:af,W.heap[bm (aZ key)]?=some (.map es clock)->(Instr.lookup 63 (.map (some (bm (aZ key)))) (.s key) false).run aC.prog W=.ok (bY (K key).1 (.slice ad (K key).2.length cap)) W:=λW H=>by
  rw[qx W _ es clock key H hk,u]
 have I:=zu (λW H=>wm b num bm key W ze H);have J:=hb.num;have L:Hid (∀W,Below w w W->gz W b bm num):=λW H=>(h.below H).1;have HL:Hid ((K key).2.length<=8000000):=IT (X key).2.1 zd;have HR:=zu ((X key).1);generalize (K key).1=c at*;generalize (K key).2=l at*;have HV:Hid _:=j;have Z:Hid _:=And.intro hn (And.intro h0 h1);have ab:=zu ((show fj (bump (aO c seen) num) from⟨num,q,by simp only[bump,abj];omega⟩));have an:Hid _:=lH key;have ao:Hid _:=tL val;have aq:Hid _:=qK seen;have ar:decide (val.size<=12)=true:=by simpa using Y
 clear j r u X hn h0 h1 h;generalize x:bm (aZ key)=bms at*;have M:Hid _:=x;clear x;go_enter aC.func13,aC.ntmps13;go_wp2_with (first
  |(go_at_call 29;refine(an.out _ ze).mono ?_;rw[p];rintro e w1 ⟨rfl,rfl⟩)
  |(go_at_call 30;refine(ao.out _ ze).mono ?_;rw[ar];rintro e w1 ⟨rfl,rfl⟩)
  |(go_at_call 31;refine(aq.out _).mono ?_;rw[z];rintro e w2 ⟨rfl,N⟩;obtain⟨c2,f,aT⟩:=sL N;clear N))
 have av:Hid (∀w',Below w2 w2 w'->gz w' b bm num/\w'.cell? (.a b 0)=.i num/\(Instr.lookup 63 (.map (some bms)) (.s key) false).run aC.prog w'=.ok (bY c (.slice ad l.length cap)) w'/\aU w' (.slice ad l.length cap) l/\w'.cell? (.a (w.heap.size+1) 0)=.i (seen 0)/\w'.cell? (.a (w.heap.size+1) 1)=.i (seen 1)/\w'.cell? (.a (w.heap.size+1) 2)=.i (seen 2)/\w'.cell? (.a (w.heap.size+1) 3)=.i (seen 3)):=λw' y=>
  ⟨L.out _ (bk f y),aX (aX J f) y,G w' (bj (bj hm f) y),(aU.below HV.out f).below y,aX (c2 0) y,aX (c2 1) y,aX (c2 2) y,aX (c2 3) y⟩
 have O:Hid _:=f;clear f c2 G;go_region_held3 (λw'=>gz w' b bm num/\w'.cell? ⟨b,0,none⟩=some (.int .i64 num)/\(Instr.lookup 63 (.map (some bms)) (.string key) false).run aC.prog w'=.ok (bY c (.slice ad l.length cap)) w'/\aU w' (.slice ad l.length cap) l/\w'.cell? ⟨w.heap.size+1,0,none⟩=some (.int .i64 (seen 0))/\w'.cell? ⟨w.heap.size+1,1,none⟩=some (.int .i64 (seen 1))/\w'.cell? ⟨w.heap.size+1,2,none⟩=some (.int .i64 (seen 2))/\w'.cell? ⟨w.heap.size+1,3,none⟩=some (.int .i64 (seen 3)))
  ((refine av.out _ ?_;first|(simp (maxDischargeDepth:=12) [aaP,aaR,aaU,abm];done)|(simp (maxDischargeDepth:=12) [aaP,aaR,aaU,abm,S,D];done)|(simp (maxDischargeDepth:=12) [aaP,aaR,aaU,abm,T,E];done)|(simp (maxDischargeDepth:=12) [aaP,aaR,aaU,abm,U,y4,D,E];done)))
  (first
   |(go_at_call 32;refine AI (I.out _ (by go_split_ands;assumption)) ?_;rintro e P ⟨rfl,A,z6⟩;obtain⟨s1,s2⟩:=mG A;(try simp only[acS,eK]at z6);have T:Below w2 w2 P:=ju A (by first|(simp (maxDischargeDepth:=12) [aaP,aaR,aaU];done)|(simp (maxDischargeDepth:=12) [aaP,aaR,aaU,S,D];done));have E:=T.size;(try (have x6:w2<P.heap.size:=zo));(try (have a1:w3<P.heap.size:=zo));clear A)
   |(go_at_call 34;refine(rH val _ zo).mono ?_;rintro e w3 ⟨rfl,o⟩;obtain⟨q1,q2⟩:=mG o;have S:Below w2 w2 w3:=ju o (by first|(simp (maxDischargeDepth:=12) [aaP,aaR,aaU];done)|(simp (maxDischargeDepth:=12) [aaP,aaR,aaU,T,E];done));have D:=S.size;have z3:=o.size;(try simp only[acS,eK]at z3);(try (have x3:w2<w3.heap.size:=zo));(try (have a6:P<w3.heap.size:=zo));clear o)
   |(go_at_call 33;refine(Wi c _ l num val seen _ (by go_split_ands;assumption) HR.out HL.out q Z.out.1 Z.out.2.1 Z.out.2.2).mono ?_;rintro e w4 ⟨v',C,rfl,k,m,d,B⟩;obtain⟨a7,aB,ay⟩:=qX d;subst ay;have V:=aU.uU d;have Q:=O8 d;(try simp only[acS,eK]at Q);(try (have n2:=Q w2 zo));(try (have n3:=Q w3 zo));(try (have n6:=Q P zo));clear Q;obtain⟨p1,p2⟩:=mG B;have U:Below w2 w2 w4:=ju B (by first|(simp (maxDischargeDepth:=12) [aaP,aaR,aaU,S,D];done)|(simp (maxDischargeDepth:=12) [aaP,aaR,aaU,T,E];done));have y4:=U.size;have HP:Hid _:=k;have HS:Hid _:=m;clear d B k m))
 all_goals
  go_wp2_with (go_at_call 35;go_must (refine(Hu b num bm K key (bump (aO c seen) num) _ C _ ⟨zo,p⟩ ab.out (aV.below F.out (bk O.out (by simp (maxDischargeDepth:=12) [aaP,aaR,aaU,abm,U,y4,D,E]))) (by first|(simp[Sq,V];done)|(simp (maxDischargeDepth:=12) [A3,V,n2];done)|(simp (maxDischargeDepth:=12) [A3,V,n3];done)|(simp (maxDischargeDepth:=12) [A3,V,n6];done))).mono ?_);rintro e w5 ⟨rfl,n,R⟩;have B5:=wS (w:=w2) (by simp (maxDischargeDepth:=12) [aaP,aaR,aaU,abm,U,y4,D,E]) R;have az:Hid _:=n;clear n R)
  go_ret;exact⟨rfl,C,HP.out,HS.out,az.out,by have g:=wS O.out B5;rw[M.out]at g;exact g⟩
theorem jX.below{w':af}{b n:Nat}{l:List aY}(h:jX w b n sv l)(hb:Below w w w'):jX w' b n sv l:=
 ⟨by rw[hb.block _ (IN.1 h.1).1];exact h.1,bH h.2 hb zf⟩
theorem SJ{l:List aY}(a:∀q∈l,∃ad m cap,q.2.2=.slice ad m cap)(name:ah): ∃b c ad m cap,dD l name=(b,c,.slice ad m cap):=by
 unfold dD;cases d:l.find? (λk=>decide (k.1=name)) with
 |none=>simp_all
 |some q=>
  grind
theorem TY(b:Nat)(name:ah)(w:af)(hs:name.size<=maxLen)(a:bq name=false):
  Calls aC.prog 28 #[.p b,.s name] w λe w'=>e=.r (.tuple #[.slice none 0 0,bz λ_=>0,.i 2])/\Below w w w':=by
 have c:Hid _:=λW=>by
  have:=jW name W hs;rw[a]at this;exact this
 clear hs a;go_enter aC.func28,aC.ntmps28;go_wp2_with (first
  |(go_at_call 36;refine AI (c.out _) ?_;rintro e w1 ⟨rfl,rfl⟩))
 refine abn (v:=.tuple #[.slice none 0 0,bz λ_=>0,.i 2]) ?_ rfl ⟨rfl,?_⟩
 .simp[results,aC.results28,go_sem]
 .simp (maxDischargeDepth:=12) [aaP,aaU,abm]
theorem UN(b n:Nat)(sv:ag)(l:List aY)(name:ah)(w:af)(h:jX w b n sv l)(j:∀q∈l,∃ad m cap,q.2.2=.slice ad m cap)(hlen:l.length<=1900000000000)(hs:name.size<=maxLen)(f:bq name=true):
  Calls aC.prog 28 #[.p b,.s name] w λe w'=>e=.r (.tuple #[(dD l name).2.2,bz (dD l name).2.1,.i 0])/\Below w w w':=by
 have z:Hid _:=λW=>by
  have:=jW name W hs;rw[f]at this;exact this
 have g:Hid _:=λX=>pI b n sv l name _ (h.below (zj.alloc zf X)) j hlen;obtain⟨A,c,x,y,cv,B⟩:=SJ j name;rw[B]at g;rw[B];clear B h j hs f;go_enter aC.func28,aC.ntmps28;go_wp2_with (first
  |(go_at_call 36;refine AI (z.out _) ?_;rintro e w1 ⟨rfl,rfl⟩)
  |(go_at_call 38;refine AI (g.out _) ?_;rintro e w1 ⟨rfl,d⟩;have G:=d.size;(try simp only[eK]at G);have u:w1.heap[w.heap.size]?=.c #[.i 0,.i 0,.i 0,.i 0] 34:=(by rw[d.block w zp];exact By w _);obtain⟨m0,E⟩:=aH u;have C:=zu ((zj.alloc zf _).trans (d.mono zp));clear u d))
 obtain⟨W,k⟩: ∃W,W=w1.alloc (.cells (.q A c (.slice x y cv)) 82):=⟨_,rfl⟩
 rw[<-k];have K:∀o,W.cell? (.a w1 o)=#[Value.string A,.i (c 0),.i (c 1),.i (c 2),.i (c 3),.slice x y cv][o]? :=by
  rw[k];exact(aH (By w1 _)).1
 have H:∀o,W.cell? (.a w o)=#[Value.int .i64 0,.i 0,.i 0,.i 0][o]? :=λo=>by
  rw[k,abp _ _ _ (show w<w1.heap.size by omega)];exact m0 o
 have L:∀o,W.frozen? (.a w o)=false:=λo=>by
  have I:W.heap[w.heap.size]?=w1.heap[w.heap.size]? :=by rw[k,aaO _ _ _ (show w<w1.heap.size by omega)]
  have:=E o;simp only[World.frozen?,I]at this ⊢;exact this
 have D:Hid (Below w w W):=by
  have:=C.out.alloc (show w<=w1.heap.size by omega) (.cells (.q A c (.slice x y cv)) 82);rw[<-k]at this;exact this
 have J:w≠w1.heap.size:=zo;have F:w1≠w.heap.size:=zo;clear k m0 E;go_region
 all_goals
  go_wp2;refine abn (v:=.tuple #[.slice x y cv,bz c,.i 0]) ?_ rfl ⟨rfl,?_⟩
  .simp[results,aC.results28,go_sem,H]
  .exact (((D.out.drew.setCell zp _).setCell zp _).setCell zp _).setCell zp _
theorem my{w1:af}{A:aa}(hb:Below (w.alloc (.cells A t)).heap.size (w.alloc (.cells A t)) w1):w.heap.size+1<=w1.heap.size/\w1.heap[w.heap.size]?=.c A t/\Below w w w1:=by
 have z:=hb.size;rw[eK]at z;refine⟨z,?_,(zj.alloc zf _).trans (hb.mono zp)⟩;rw[hb.block w zp];exact By w _
theorem WW(b:Nat)(name:ah)(seen:Ctx)(w:af)(hs:name.size<=maxLen)(a:bq name=false):
  Calls aC.prog 16 #[.p b,.s name,bz seen] w λe w'=>e=.r (.i 2)/\Below w w w':=by
 have d:Hid _:=λW=>by
  have:=jW name W hs;rw[a]at this;exact this
 have f:Hid _:=λW=>lx seen W;clear hs a;go_enter aC.func16,aC.ntmps16;go_wp2_with (first
  |(go_at_call 36;refine AI (d.out _) ?_;rintro e w1 ⟨rfl,rfl⟩)
  |(go_at_call 37;refine AI (f.out _) ?_;rintro e w1 ⟨rfl,c⟩;have g:=zu ((my c).2.2);clear c))
 go_ret;exact⟨rfl,g.out⟩
theorem We(b:Nat)(name:ah)(seen:Ctx)(w:af)(hs:name.size<=maxLen)(a:bq name=true)(c:cR seen=false):
  Calls aC.prog 16 #[.p b,.s name,bz seen] w λe w'=>e=.r (.i 4)/\Below w w w':=by
 have f:Hid _:=λW=>by
  have:=jW name W hs;rw[a]at this;exact this
 have g:Hid _:=λW=>by
  have:=lx seen W;rw[c]at this;exact this
 clear hs a c;go_enter aC.func16,aC.ntmps16;go_wp2_with (first
  |(go_at_call 36;refine AI (f.out _) ?_;rintro e w1 ⟨rfl,rfl⟩)
  |(go_at_call 37;refine AI (g.out _) ?_;rintro e w1 ⟨rfl,d⟩;have h:=zu ((my d).2.2);clear d))
 go_ret;exact⟨rfl,h.out⟩
theorem Md(b n:Nat)(sv:ag)(l:List aY)(name K:ah)(seen c:Ctx)(s:Option Addr)(cv:Nat)(vl:List aG)(w:af)(h:jX w b n sv l)(u:∀q∈l,∃ad m cap,q.2.2=.slice ad m cap)(hlen:l.length<=1900000000000)(Y:dD l name=(K,c,.slice s vl.length cv))(hv:fT w (.slice s vl.length cv) vl)(Z:∀v∈vl,v.rep<4)(x:vl.length<=8000000)(hs:name.size<=maxLen)(p:bq name=true)(y:cR seen=true)(r:(aS vl seen).length=vl.length):
  Calls aC.prog 16 #[.pointer (some ⟨b,0,none⟩),.string name,bz seen] w λe w'=>e=.returned (.int .i64 5)/\Below w.heap.size w w':=by
 have M:Hid _:=λW=>by
  have:=jW name W hs;rw[p]at this;exact this
 have N:Hid _:=λW=>by
  have:=lx seen W;rw[y]at this;exact this
 have z:Hid _:=λW O=>by
  have:=pI b n sv l name W (h.below O) u hlen;rw[Y]at this;exact this
 have P:Hid _:=λW O=>p5 _ vl seen W (bH hv O zf) Z x;have an:=(IN.1 h.1).1;have A:Hid ((aS vl seen).length<=8000000):=IT (abV _ _) x;clear hs p y u h Y hv Z;rw[r]at A;have Q:Hid _:=r;clear r;go_enter aC.func16,aC.ntmps16;go_upto_region 8 with (first
  |(go_at_call 36;refine AI (M.out _) ?_;rintro e w1 ⟨rfl,rfl⟩)
  |(go_at_call 37;refine AI (N.out _) ?_;rintro e w1 ⟨rfl,B⟩;obtain⟨z1,C,D⟩:=my B;have E:Hid _:=D;have R:Hid _:=C;clear B C D)
  |(go_at_call 38;refine AI (z.out _ E.out) ?_;rintro e w2 ⟨rfl,j⟩;have S:Hid _:=E.out.trans (j.mono zo);have z2:=j.size;have F:Hid (w2.heap[w.heap.size]?=.c (.k seen) 34):=(by rw[j.block _ zo];exact R.out);have x2:∀X o,(w2.alloc X).cell? (.a w o)=#[Value.int .i64 (seen 0),.i (seen 1),.i (seen 2),.i (seen 3)][o]? :=(λX o=>by rw[abp _ _ _ (show w<w2.heap.size by omega)];exact(aH F.out).1 o);clear j))
 obtain⟨L,f⟩: ∃W,W=w2.alloc (.cells (.q K c (.slice s vl.length cv)) 82):=⟨_,rfl⟩
 rw[<-f];have G:Hid (L.heap[w2.heap.size]?=.c (.q K c (.slice s vl.length cv)) 82):=(by rw[f];exact By w2 _)
 have H:Hid (L.heap[w.heap.size]?=.c (.k seen) 34):=(by rw[f,aaO _ _ _ (show w<w2.heap.size by omega)];exact F.out)
 have I:Hid (Below w w L):=(by rw[f];exact S.out.alloc zo _)
 have z3:L=w2.heap.size+1:=by rw[f,eK]
 have k3:=(aH G.out).1;have x3:=(aH H.out).1;clear f x2;go_upto_region 9 with (first
  |(go_at_call 39;refine AI (P.out _ I.out) ?_;rintro e w4 ⟨v',rfl,d,g⟩;rw[Q.out]at d;obtain⟨ao,ab,rfl,T,-⟩:=cz d;have z4:=g.size;have aq:Hid _:=d;have U:Hid _:=I.out.trans (g.mono zo);have J:Hid (w4.heap[w2.heap.size]?=.c (.q K c (.slice s vl.length cv)) 82):=(by rw[g.block _ zo];exact G.out);have V:Hid (w4.heap[w.heap.size]?=.c (.k seen) 34):=(by rw[g.block _ zo];exact H.out);have k4:=(aH J.out).1;have f4:=(aH J.out).2;have x4:=(aH V.out).1;have ar:=A.out;clear d g k3 x3))
 go_wp2;go_ret;exact⟨rfl,U.out⟩
theorem PT(b n:Nat)(sv:ag)(l:List aY)(name C:ah)(seen c:Ctx)(O:Option Addr)(cv:Nat)(vl:List aG)(w:af)(h:jX w b n sv l)(I:∀q∈l,∃ad m cap,q.2.2=.slice ad m cap)(hlen:l.length<=1900000000000)(hf:dD l name=(C,c,.slice O vl.length cv))(hv:fT w (.slice O vl.length cv) vl)(hr:∀v∈vl,v.rep<4)(P:vl.length<=8000000)(hs:name.size<=maxLen)(H:bq name=true)(Q:cR seen=true)(a1: ¬(aS vl seen).length=vl.length):
  Calls aC.prog 16 #[.pointer (some ⟨b,0,none⟩),.string name,bz seen] w λe w'=>e=.returned (.int .i64 0)/\∃D y f,w'.heap[b]?=some (.cells #[.int .i64 n,D] 45)/\w'.ownsRow w.heap.size 82 6 D (fc l (C,aO c seen,.slice y (aS vl seen).length f)).length (flatK (fc l (C,aO c seen,.slice y (aS vl seen).length f)))/\w'.ownsRow w.heap.size 88 3 (.slice y (aS vl seen).length f) (aS vl seen).length (aQ (aS vl seen))/\Fr (λk=>k=b) w w':=by
 have a6:Hid _:=λW=>by
  have:=jW name W hs;rw[H]at this;exact this
 have a7:Hid _:=λW=>by
  have:=lx seen W;rw[Q]at this;exact this
 have R:Hid _:=λW S=>by
  have:=pI b n sv l name W (h.below S) I hlen;rw[hf]at this;exact this
 have a8:Hid _:=λW S=>p5 _ vl seen W (bH hv S zf) hr P;have bZ:=(IN.1 h.1).1;have T:Hid ((aS vl seen).length<=8000000):=IT (abV _ _) P;have U:Hid _:=λcx y u' f W S=>yD b n sv l C cx y u' f W (h.below S) I hlen;have J:Hid _:=λW=>Ag c seen W;clear hs H Q I h hf hv hr;obtain⟨u,hu⟩: ∃u,(aS vl seen).length=u:=⟨_,rfl⟩
 rw[hu]at T a1 ⊢;have bb:Hid _:=hu;clear hu;have hd:((u:Int)==(vl.length:Int))=false:=zt;go_enter aC.func16,aC.ntmps16;go_upto_region 8 with (first
  |(go_at_call 36;refine AI (a6.out _) ?_;rintro e w1 ⟨rfl,rfl⟩)
  |(go_at_call 37;refine AI (a7.out _) ?_;rintro e w1 ⟨rfl,V⟩;obtain⟨z1,Y,Z⟩:=my V;have ab:Hid _:=Z;have bc:Hid _:=Y;clear V Y Z)
  |(go_at_call 38;refine AI (R.out _ ab.out) ?_;rintro e w2 ⟨rfl,E⟩;have bd:Hid _:=ab.out.trans (E.mono zo);have z2:=E.size;have an:Hid (w2.heap[w.heap.size]?=.c (.k seen) 34):=(by rw[E.block _ zo];exact bc.out);have x2:∀X o,(w2.alloc X).cell? (.a w o)=#[Value.int .i64 (seen 0),.i (seen 1),.i (seen 2),.i (seen 3)][o]? :=(λX o=>by rw[abp _ _ _ (show w<w2.heap.size by omega)];exact(aH an.out).1 o);clear E))
 obtain⟨K,x⟩: ∃W,W=w2.alloc (.cells (.q C c (.slice O vl.length cv)) 82):=⟨_,rfl⟩
 rw[<-x];have ao:Hid (K.heap[w2.heap.size]?=.c (.q C c (.slice O vl.length cv)) 82):=(by rw[x];exact By w2 _)
 have aq:Hid (K.heap[w.heap.size]?=.c (.k seen) 34):=(by rw[x,aaO _ _ _ (show w<w2.heap.size by omega)];exact an.out)
 have ar:Hid (Below w w K):=(by rw[x];exact bd.out.alloc zo _)
 have z3:K=w2.heap.size+1:=by rw[x,eK]
 have k3:=(aH ao.out).1;have x3:=(aH aq.out).1;clear x x2;go_upto_region 9 with (first
  |(go_at_call 39;refine AI (a8.out _ ar.out) ?_;rintro e w4 ⟨v',rfl,r,z⟩;rw[bb.out]at r;obtain⟨j,d,rfl,bm,-⟩:=cz r;have z4:=z.size;have bn:Hid _:=r;have bo:Hid _:=ar.out.trans (z.mono zo);have L:Hid (w4.heap[w2.heap.size]?=.c (.q C c (.slice O vl.length cv)) 82):=(by rw[z.block _ zo];exact ao.out);have ay:Hid (w4.heap[w.heap.size]?=.c (.k seen) 34):=(by rw[z.block _ zo];exact aq.out);have k4:=(aH L.out).1;have f4:=(aH L.out).2;have x4:=(aH ay.out).1;have b0:=T.out;clear r z k3 x3))
 go_upto_region 12 with fail;obtain⟨W5,p⟩: ∃W,W=w4.setCell (.a w2 5) (.slice j u d):=⟨_,rfl⟩
 rw[<-p];have az:Hid (W5.heap[w2.heap.size]?=.c (.q C c (.slice j u d)) 82):=(by rw[p,heap_set L.out];rfl)
 have bp:Hid (W5.heap[w.heap.size]?=.c (.k seen) 34):=(by rw[p,aaS _ _ _ _ (show w≠w2.heap.size by omega)];exact ay.out)
 have br:Hid (Below w w W5):=(by rw[p];exact bo.out.setCell (show w<=w2.heap.size by omega) _)
 have bs:Hid (W5.ownsRow K 88 3 (.slice j u d) u (aQ (aS vl seen))):=(by rw[p];exact jq bn.out zo)
 have z5:W5=w4.heap.size:=by rw[p];simp[World.setCell]
 have k5:=(aH az.out).1;have x5:=(aH bp.out).1;clear p k4 f4 x4;go_upto_region 13 with (first
  |(go_at_call 40;refine AI (J.out _) ?_;rintro e w6 ⟨rfl,A⟩;have z6:=A.size;have bx:Hid _:=br.out.trans (A.mono zo);have M:Hid (w6.heap[w2.heap.size]?=.c (.q C c (.slice j u d)) 82):=(by rw[A.block _ zo];exact az.out);have bB:Hid _:=bH bs.out A zf;have k6:=(aH M.out).1;have f6:=(aH M.out).2;clear A))
 obtain⟨W7,B⟩: ∃W,W=(((w6.setCell (.a w2 1) (.i (aO c seen 0))).setCell (.a w2 2) (.i (aO c seen 1))).setCell (.a w2 3) (.i (aO c seen 2))).setCell (.a w2 4) (.i (aO c seen 3)):=⟨_,rfl⟩
 rw[<-B];have bL:Hid (W7.heap[w2.heap.size]?=.c #[.s C,.i (aO c seen 0),.i (aO c seen 1),.i (aO c seen 2),.i (aO c seen 3),.slice j u d] 82):=(by rw[B,heap_set (heap_set (heap_set (heap_set M.out)))];rfl)
 have F:w<=w2.heap.size:=zo;have N:Hid (Below w w W7):=(by rw[B];exact(((bx.out.setCell F _).setCell F _).setCell F _).setCell F _)
 have G:w2<K.heap.size:=zo;have aA:Hid (W7.ownsRow K 88 3 (.slice j u d) u (aQ (aS vl seen))):=(by rw[B];exact jq (jq (jq (jq bB.out G) G) G) G)
 have k7:=(aH bL.out).1;have z7:=N.out.size;clear B k6 f6 k5 x5;go_wp2_with (first
  |(go_at_call 42;refine AI (U.out (aO c seen) j u d _ N.out) ?_;rintro e w8 ⟨rfl,D,aB,aE,aT⟩;have R1:Hid _:=aB;have R2:Hid _:=aE;have R3:Hid _:=aT;clear aB aE aT))
 go_ret;refine⟨rfl,D,j,d,R1.out,bU R2.out zo,?_,(Fr.cQ N.out).trans R3.out⟩;refine bU (Fr.row R3.out aA.out λg o l' c' hv e=>?_) zo;rcases aA.out.2 with⟨h1,_⟩|⟨g1,bR,bT,bN,b1,_⟩
 .rw[h1]at hv;cases hv
 .rw[bN]at hv;cases hv;omega
theorem Uo(b:Nat)(name value:ah)(seen:Ctx)(w:af)(hs:name.size<=maxLen)(d:value.size<=maxLen)(a:bq name=false):
  Calls aC.prog 14 #[.p b,.s name,.s value,bz seen] w λe w'=>e=.r (.i 2)/\Below w w w':=by
 have f:Hid _:=λW=>by
  have:=jW name W hs;rw[a]at this;exact this
 have g:Hid _:=λW=>by
  have:=lx seen W;exact this
 unfold maxLen at d;clear hs a;go_enter aC.func14,aC.ntmps14;go_wp2_with (first
  |(go_at_call 36;refine AI (f.out _) ?_;rintro e w1 ⟨rfl,rfl⟩)
  |(go_at_call 37;refine AI (g.out _) ?_;rintro e w1 ⟨rfl,c⟩;have h:=zu ((my c).2.2);clear c))
 go_ret;exact⟨rfl,h.out⟩
theorem Ua(b:Nat)(name value:ah)(seen:Ctx)(w:af)(hs:name.size<=maxLen)(d:value.size<=maxLen)(a:bq name=true)(hv:12<value.size):
  Calls aC.prog 14 #[.p b,.s name,.s value,bz seen] w λe w'=>e=.r (.i 3)/\Below w w w':=by
 have f:Hid _:=λW=>by
  have:=jW name W hs;rw[a]at this;exact this
 have g:Hid _:=λW=>by
  have:=lx seen W;exact this
 unfold maxLen at d;clear hs a;have j:(12:Int)<(value.size:Int):=zo;go_enter aC.func14,aC.ntmps14;go_wp2_with (first
  |(go_at_call 36;refine AI (f.out _) ?_;rintro e w1 ⟨rfl,rfl⟩)
  |(go_at_call 37;refine AI (g.out _) ?_;rintro e w1 ⟨rfl,c⟩;have h:=zu ((my c).2.2);clear c))
 go_ret;exact⟨rfl,h.out⟩
theorem Xl(b:Nat)(name value:ah)(seen:Ctx)(w:af)(hs:name.size<=maxLen)(f:value.size<=maxLen)(a:bq name=true)(hv:value.size<=12)(c:cR seen=false):
  Calls aC.prog 14 #[.p b,.s name,.s value,bz seen] w λe w'=>e=.r (.i 4)/\Below w w w':=by
 have g:Hid _:=λW=>by
  have:=jW name W hs;rw[a]at this;exact this
 have h:Hid _:=λW=>by
  have:=lx seen W;rw[c]at this;exact this
 unfold maxLen at f;clear hs a c;have k:(value.size:Int)<=12:=zo;go_enter aC.func14,aC.ntmps14;go_wp2_with (first
  |(go_at_call 36;refine AI (g.out _) ?_;rintro e w1 ⟨rfl,rfl⟩)
  |(go_at_call 37;refine AI (h.out _) ?_;rintro e w1 ⟨rfl,d⟩;have j:=zu ((my d).2.2);clear d))
 go_ret;exact⟨rfl,j.out⟩
theorem R8(b n:Nat)(sv:ag)(l:List aY)(name O value:ah)(seen c:Ctx)(r:Option Addr)(cv:Nat)(vl:List aG)(w:af)(h:jX w b n sv l)(s:∀q∈l,∃ad m cap,q.2.2=.slice ad m cap)(hlen:l.length<=1900000000000)(hf:dD l name=(O,c,.slice r vl.length cv))(hv:fT w (.slice r vl.length cv) vl)(hr:∀v∈vl,v.rep<4)(x:vl.length<=8000000)(hs:name.size<=maxLen)(p:bq name=true)(y:cR seen=true)(z:n<4)(an:value.size<=12)(A:20<=(aS vl seen).length):
  Calls aC.prog 14 #[.pointer (some ⟨b,0,none⟩),.string name,.string value,bz seen] w λe w'=>e=.returned (.int .i64 6)/\Below w.heap.size w w':=by
 have Q:Hid _:=λW=>by
  have:=jW name W hs;rw[p]at this;exact this
 have R:Hid _:=λW=>by
  have:=lx seen W;rw[y]at this;exact this
 have B:Hid _:=λW C=>by
  have:=pI b n sv l name W (h.below C) s hlen;rw[hf]at this;exact this
 have S:Hid _:=λW C=>p5 _ vl seen W (bH hv C zf) hr x;have aq:=(IN.1 h.1).1;have D:Hid ((aS vl seen).length<=8000000):=IT (abV _ _) x;have HN:Hid (∀W,Below w w W->W.cell? (.a b 0)=.i n):=λW C=>by rw[(aH (h.below C).1).1];rfl
 clear hs p y s h hf hv hr;obtain⟨u,T⟩: ∃u,(aS vl seen).length=u:=⟨_,rfl⟩
 rw[T]at D A;have U:Hid _:=T;clear T;have n0:(0:Int)<=(n:Int):=zo;have n4:(n:Int)<4:=zo;have ar:(value.size:Int)<=12:=zo;have hd:(20:Int)<=(u:Int):=zo;go_enter aC.func14,aC.ntmps14;go_upto_region 10 with (first
  |(go_at_call 36;refine AI (Q.out _) ?_;rintro e w1 ⟨rfl,rfl⟩)
  |(go_at_call 37;refine AI (R.out _) ?_;rintro e w1 ⟨rfl,E⟩;obtain⟨z1,F,G⟩:=my E;have H:Hid _:=G;have V:Hid _:=F;clear E F G)
  |(go_at_call 38;refine AI (B.out _ H.out) ?_;rintro e w2 ⟨rfl,j⟩;have Y:Hid _:=H.out.trans (j.mono zo);have z2:=j.size;have I:Hid (w2.heap[w.heap.size]?=.c (.k seen) 34):=(by rw[j.block _ zo];exact V.out);have x2:∀X o,(w2.alloc X).cell? (.a w o)=#[Value.int .i64 (seen 0),.i (seen 1),.i (seen 2),.i (seen 3)][o]? :=(λX o=>by rw[abp _ _ _ (show w<w2.heap.size by omega)];exact(aH I.out).1 o);clear j))
 obtain⟨P,f⟩: ∃W,W=w2.alloc (.cells (.q O c (.slice r vl.length cv)) 82):=⟨_,rfl⟩
 rw[<-f];have J:Hid (P.heap[w2.heap.size]?=.c (.q O c (.slice r vl.length cv)) 82):=(by rw[f];exact By w2 _)
 have K:Hid (P.heap[w.heap.size]?=.c (.k seen) 34):=(by rw[f,aaO _ _ _ (show w<w2.heap.size by omega)];exact I.out)
 have L:Hid (Below w w P):=(by rw[f];exact Y.out.alloc zo _)
 have z3:P=w2.heap.size+1:=by rw[f,eK]
 have k3:=(aH J.out).1;have x3:=(aH K.out).1;clear f x2;go_upto_region 11 with (first
  |(go_at_call 39;refine AI (S.out _ L.out) ?_;rintro e w4 ⟨v',rfl,d,g⟩;rw[U.out]at d;obtain⟨ay,ao,rfl,Z,-⟩:=cz d;have z4:=g.size;have az:Hid _:=d;have M:Hid _:=L.out.trans (g.mono zo);have N:Hid (w4.heap[w2.heap.size]?=.c (.q O c (.slice r vl.length cv)) 82):=(by rw[g.block _ zo];exact J.out);have ab:Hid (w4.heap[w.heap.size]?=.c (.k seen) 34):=(by rw[g.block _ zo];exact K.out);have k4:=(aH N.out).1;have f4:=(aH N.out).2;have x4:=(aH ab.out).1;have aA:=D.out;clear d g k3 x3))
 have cn:=HN.out _ M.out;have ck:w4.cell? (.a w2 (1+n))=.i (c n):=by
  rw[k4];rcases dR z with rfl|rfl|rfl|rfl<;>rfl
 have cx:w4.cell? (.a w n)=.i (seen n):=by
  rw[x4];rcases dR z with rfl|rfl|rfl|rfl<;>rfl
 clear k4 x4 f4;go_wp2;go_ret;exact⟨rfl,M.out⟩
theorem Qi(b n:Nat)(sv:ag)(l:List aY)(name O value:ah)(seen c:Ctx)(r:Option Addr)(cv:Nat)(vl:List aG)(w:af)(h:jX w b n sv l)(s:∀q∈l,∃ad m cap,q.2.2=.slice ad m cap)(hlen:l.length<=1900000000000)(hf:dD l name=(O,c,.slice r vl.length cv))(hv:fT w (.slice r vl.length cv) vl)(hr:∀v∈vl,v.rep<4)(x:vl.length<=8000000)(hs:name.size<=maxLen)(p:bq name=true)(y:cR seen=true)(z:n<4)(an:value.size<=12)(A:(aS vl seen).length<20)(aq:1000000<=c n):
  Calls aC.prog 14 #[.pointer (some ⟨b,0,none⟩),.string name,.string value,bz seen] w λe w'=>e=.returned (.int .i64 6)/\Below w.heap.size w w':=by
 have Q:Hid _:=λW=>by
  have:=jW name W hs;rw[p]at this;exact this
 have R:Hid _:=λW=>by
  have:=lx seen W;rw[y]at this;exact this
 have B:Hid _:=λW C=>by
  have:=pI b n sv l name W (h.below C) s hlen;rw[hf]at this;exact this
 have S:Hid _:=λW C=>p5 _ vl seen W (bH hv C zf) hr x;have ar:=(IN.1 h.1).1;have D:Hid ((aS vl seen).length<=8000000):=IT (abV _ _) x;have HN:Hid (∀W,Below w w W->W.cell? (.a b 0)=.i n):=λW C=>by rw[(aH (h.below C).1).1];rfl
 clear hs p y s h hf hv hr;obtain⟨u,T⟩: ∃u,(aS vl seen).length=u:=⟨_,rfl⟩
 rw[T]at D A;have U:Hid _:=T;clear T;have n0:(0:Int)<=(n:Int):=zo;have n4:(n:Int)<4:=zo;have ay:(value.size:Int)<=12:=zo;have hd:(u:Int)<20:=zo;go_enter aC.func14,aC.ntmps14;go_upto_region 10 with (first
  |(go_at_call 36;refine AI (Q.out _) ?_;rintro e w1 ⟨rfl,rfl⟩)
  |(go_at_call 37;refine AI (R.out _) ?_;rintro e w1 ⟨rfl,E⟩;obtain⟨z1,F,G⟩:=my E;have H:Hid _:=G;have V:Hid _:=F;clear E F G)
  |(go_at_call 38;refine AI (B.out _ H.out) ?_;rintro e w2 ⟨rfl,j⟩;have Y:Hid _:=H.out.trans (j.mono zo);have z2:=j.size;have I:Hid (w2.heap[w.heap.size]?=.c (.k seen) 34):=(by rw[j.block _ zo];exact V.out);have x2:∀X o,(w2.alloc X).cell? (.a w o)=#[Value.int .i64 (seen 0),.i (seen 1),.i (seen 2),.i (seen 3)][o]? :=(λX o=>by rw[abp _ _ _ (show w<w2.heap.size by omega)];exact(aH I.out).1 o);clear j))
 obtain⟨P,f⟩: ∃W,W=w2.alloc (.cells (.q O c (.slice r vl.length cv)) 82):=⟨_,rfl⟩
 rw[<-f];have J:Hid (P.heap[w2.heap.size]?=.c (.q O c (.slice r vl.length cv)) 82):=(by rw[f];exact By w2 _)
 have K:Hid (P.heap[w.heap.size]?=.c (.k seen) 34):=(by rw[f,aaO _ _ _ (show w<w2.heap.size by omega)];exact I.out)
 have L:Hid (Below w w P):=(by rw[f];exact Y.out.alloc zo _)
 have z3:P=w2.heap.size+1:=by rw[f,eK]
 have k3:=(aH J.out).1;have x3:=(aH K.out).1;clear f x2;go_upto_region 11 with (first
  |(go_at_call 39;refine AI (S.out _ L.out) ?_;rintro e w4 ⟨v',rfl,d,g⟩;rw[U.out]at d;obtain⟨az,ao,rfl,Z,-⟩:=cz d;have z4:=g.size;have aA:Hid _:=d;have M:Hid _:=L.out.trans (g.mono zo);have N:Hid (w4.heap[w2.heap.size]?=.c (.q O c (.slice r vl.length cv)) 82):=(by rw[g.block _ zo];exact J.out);have ab:Hid (w4.heap[w.heap.size]?=.c (.k seen) 34):=(by rw[g.block _ zo];exact K.out);have k4:=(aH N.out).1;have f4:=(aH N.out).2;have x4:=(aH ab.out).1;have aB:=D.out;clear d g k3 x3))
 have cn:=HN.out _ M.out;have ck:w4.cell? (.a w2 (1+n))=.i (c n):=by
  rw[k4];rcases dR z with rfl|rfl|rfl|rfl<;>rfl
 have cx:w4.cell? (.a w n)=.i (seen n):=by
  rw[x4];rcases dR z with rfl|rfl|rfl|rfl<;>rfl
 clear k4 x4 f4;go_wp2;go_ret;exact⟨rfl,M.out⟩
theorem Un(b n:Nat)(sv:ag)(l:List aY)(name O value:ah)(seen c:Ctx)(r:Option Addr)(cv:Nat)(vl:List aG)(w:af)(h:jX w b n sv l)(s:∀q∈l,∃ad m cap,q.2.2=.slice ad m cap)(hlen:l.length<=1900000000000)(hf:dD l name=(O,c,.slice r vl.length cv))(hv:fT w (.slice r vl.length cv) vl)(hr:∀v∈vl,v.rep<4)(x:vl.length<=8000000)(hs:name.size<=maxLen)(p:bq name=true)(y:cR seen=true)(z:n<4)(an:value.size<=12)(A:(aS vl seen).length<20)(aq:c n<1000000)(ar:1000000<=seen n):
  Calls aC.prog 14 #[.pointer (some ⟨b,0,none⟩),.string name,.string value,bz seen] w λe w'=>e=.returned (.int .i64 6)/\Below w.heap.size w w':=by
 have Q:Hid _:=λW=>by
  have:=jW name W hs;rw[p]at this;exact this
 have R:Hid _:=λW=>by
  have:=lx seen W;rw[y]at this;exact this
 have B:Hid _:=λW C=>by
  have:=pI b n sv l name W (h.below C) s hlen;rw[hf]at this;exact this
 have S:Hid _:=λW C=>p5 _ vl seen W (bH hv C zf) hr x;have ay:=(IN.1 h.1).1;have D:Hid ((aS vl seen).length<=8000000):=IT (abV _ _) x;have HN:Hid (∀W,Below w w W->W.cell? (.a b 0)=.i n):=λW C=>by rw[(aH (h.below C).1).1];rfl
 clear hs p y s h hf hv hr;obtain⟨u,T⟩: ∃u,(aS vl seen).length=u:=⟨_,rfl⟩
 rw[T]at D A;have U:Hid _:=T;clear T;have n0:(0:Int)<=(n:Int):=zo;have n4:(n:Int)<4:=zo;have az:(value.size:Int)<=12:=zo;have hd:(u:Int)<20:=zo;go_enter aC.func14,aC.ntmps14;go_upto_region 10 with (first
  |(go_at_call 36;refine AI (Q.out _) ?_;rintro e w1 ⟨rfl,rfl⟩)
  |(go_at_call 37;refine AI (R.out _) ?_;rintro e w1 ⟨rfl,E⟩;obtain⟨z1,F,G⟩:=my E;have H:Hid _:=G;have V:Hid _:=F;clear E F G)
  |(go_at_call 38;refine AI (B.out _ H.out) ?_;rintro e w2 ⟨rfl,j⟩;have Y:Hid _:=H.out.trans (j.mono zo);have z2:=j.size;have I:Hid (w2.heap[w.heap.size]?=.c (.k seen) 34):=(by rw[j.block _ zo];exact V.out);have x2:∀X o,(w2.alloc X).cell? (.a w o)=#[Value.int .i64 (seen 0),.i (seen 1),.i (seen 2),.i (seen 3)][o]? :=(λX o=>by rw[abp _ _ _ (show w<w2.heap.size by omega)];exact(aH I.out).1 o);clear j))
 obtain⟨P,f⟩: ∃W,W=w2.alloc (.cells (.q O c (.slice r vl.length cv)) 82):=⟨_,rfl⟩
 rw[<-f];have J:Hid (P.heap[w2.heap.size]?=.c (.q O c (.slice r vl.length cv)) 82):=(by rw[f];exact By w2 _)
 have K:Hid (P.heap[w.heap.size]?=.c (.k seen) 34):=(by rw[f,aaO _ _ _ (show w<w2.heap.size by omega)];exact I.out)
 have L:Hid (Below w w P):=(by rw[f];exact Y.out.alloc zo _)
 have z3:P=w2.heap.size+1:=by rw[f,eK]
 have k3:=(aH J.out).1;have x3:=(aH K.out).1;clear f x2;go_upto_region 11 with (first
  |(go_at_call 39;refine AI (S.out _ L.out) ?_;rintro e w4 ⟨v',rfl,d,g⟩;rw[U.out]at d;obtain⟨aA,ao,rfl,Z,-⟩:=cz d;have z4:=g.size;have aB:Hid _:=d;have M:Hid _:=L.out.trans (g.mono zo);have N:Hid (w4.heap[w2.heap.size]?=.c (.q O c (.slice r vl.length cv)) 82):=(by rw[g.block _ zo];exact J.out);have ab:Hid (w4.heap[w.heap.size]?=.c (.k seen) 34):=(by rw[g.block _ zo];exact K.out);have k4:=(aH N.out).1;have f4:=(aH N.out).2;have x4:=(aH ab.out).1;have aE:=D.out;clear d g k3 x3))
 have cn:=HN.out _ M.out;have ck:w4.cell? (.a w2 (1+n))=.i (c n):=by
  rw[k4];rcases dR z with rfl|rfl|rfl|rfl<;>rfl
 have cx:w4.cell? (.a w n)=.i (seen n):=by
  rw[x4];rcases dR z with rfl|rfl|rfl|rfl<;>rfl
 clear k4 x4 f4;go_wp2;go_ret;exact⟨rfl,M.out⟩
theorem Ka(c:Ctx)(n:Nat):bump c n n=c n+1:=by simp[bump]
theorem Xg(b n:Nat)(sv:ag)(l:List aY)(name z value:ah)(seen c:Ctx)(Q:Option Addr)(cv:Nat)(vl:List aG)(w:af)(h:jX w b n sv l)(V:∀q∈l,∃ad m cap,q.2.2=.slice ad m cap)(hlen:l.length<=1900000000000)(hf:dD l name=(z,c,.slice Q vl.length cv))(hv:fT w (.slice Q vl.length cv) vl)(hr:∀v∈vl,v.rep<4)(az:vl.length<=8000000)(hs:name.size<=maxLen)(U:bq name=true)(aA:cR seen=true)(E:n<4)(cI:value.size<=12)(aB:(aS vl seen).length<20)(cW:c n<1000000)(cY:seen n<1000000)(c0:0<=aO c seen n):
  Calls aC.prog 14 #[.pointer (some ⟨b,0,none⟩),.string name,.string value,bz seen] w λe w'=>e=.returned (.int .i64 0)/\∃A y d,w'.heap[b]?=some (.cells #[.int .i64 n,A] 45)/\w'.ownsRow w.heap.size 82 6 A (fc l (z,bump (aO c seen) n,.slice y ((aS vl seen).length+1) d)).length (flatK (fc l (z,bump (aO c seen) n,.slice y ((aS vl seen).length+1) d)))/\w'.ownsRow w.heap.size 88 3 (.slice y ((aS vl seen).length+1) d) ((aS vl seen).length+1) (aQ (dc (aS vl seen) (n,aO c seen n+1,value)))/\Fr (λk=>k=b) w w':=by
 have bZ:Hid _:=λW=>by
  have:=jW name W hs;rw[U]at this;exact this
 have b0:Hid _:=λW=>by
  have:=lx seen W;rw[aA]at this;exact this
 have aE:Hid _:=λW R=>by
  have:=pI b n sv l name W (h.below R) V hlen;rw[hf]at this;exact this
 have b1:=zu (λW R=>p5 _ vl seen W (bH hv R zf) hr az);have c1:=(IN.1 h.1).1;have aT:Hid ((aS vl seen).length<=8000000):=IT (abV _ _) az;have HN:Hid (∀W,Below w w W->W.cell? (.a b 0)=.i n):=λW R=>by rw[(aH (h.below R).1).1];rfl
 have a1:Hid (∀Y y u' d W,Below w w W->Calls aC.prog 42 #[.p b,p8 (z,Y,.slice y u' d)] W λe w'=>e=.r (.tuple #[])/\∃A,w'.heap[b]?=.c #[.i n,A] 45/\w'.ownsRow W 82 6 A (fc l (z,Y,.slice y u' d)).length (flatK (fc l (z,Y,.slice y u' d)))/\Fr (λk=>k=b) W w'):=λY y u' d W R=>yD b n sv l z Y y u' d W (h.below R) V hlen;have Z:=zu (λW=>Ag c seen W);have c5:aO c seen n<1000000:=by unfold aO;rw[Int.max_def];split<;>omega
 clear hs U aA V h hf hv hr;obtain⟨u,hu⟩: ∃u,(aS vl seen).length=u:=⟨_,rfl⟩
 rw[hu]at aT aB ⊢;have S:=zu hu;have a6:Hid _:=λB f W R=>by
  have:=Ah (.slice B u f) (aS vl seen) n (aO c seen n+1) value W R zo;rw[S.out]at this;exact this
 clear hu;have n0:(0:Int)<=(n:Int):=zo;have n4:(n:Int)<4:=zo;have c6:(value.size:Int)<=12:=zo;have hd:(u:Int)<20:=zo;go_enter aC.func14,aC.ntmps14;go_upto_region 10 with (first
  |(go_at_call 36;refine AI (bZ.out _) ?_;rintro e w1 ⟨rfl,rfl⟩)
  |(go_at_call 37;refine AI (b0.out _) ?_;rintro e w1 ⟨rfl,a7⟩;obtain⟨z1,a8,bb⟩:=my a7;have bc:=zu bb;have b2:=zu a8;clear a7 a8 bb)
  |(go_at_call 38;refine AI (aE.out _ bc.out) ?_;rintro e w2 ⟨rfl,T⟩;have b3:=zu (bc.out.trans (T.mono zo));have z2:=T.size;have bd:Hid (w2.heap[w.heap.size]?=.c (.k seen) 34):=(by rw[T.block _ zo];exact b2.out);have x2:∀X o,(w2.alloc X).cell? (.a w o)=#[Value.int .i64 (seen 0),.i (seen 1),.i (seen 2),.i (seen 3)][o]? :=(λX o=>by rw[abp _ _ _ (show w<w2.heap.size by omega)];exact(aH bd.out).1 o);clear T))
 obtain⟨W3,F⟩: ∃W,W=w2.alloc (.cells (.q z c (.slice Q vl.length cv)) 82):=⟨_,rfl⟩
 rw[<-F];have bm:Hid (W3.heap[w2.heap.size]?=.c (.q z c (.slice Q vl.length cv)) 82):=(by rw[F];exact By w2 _)
 have bn:Hid (W3.heap[w.heap.size]?=.c (.k seen) 34):=(by rw[F,aaO _ _ _ (show w<w2.heap.size by omega)];exact bd.out)
 have bo:Hid (Below w w W3):=(by rw[F];exact b3.out.alloc zo _)
 have z3:W3=w2.heap.size+1:=by rw[F,eK]
 have k3:=(aH bm.out).1;have x3:=(aH bn.out).1;clear F x2;go_upto_region 11 with (first
  |(go_at_call 39;refine AI (b1.out _ bo.out) ?_;rintro e w4 ⟨v',rfl,D,M⟩;rw[S.out]at D;obtain⟨B,f,rfl,b4,-⟩:=cz D;have z4:=M.size;have b5:=zu D;have bp:=zu (bo.out.trans (M.mono zo));have ab:Hid (w4.heap[w2.heap.size]?=.c (.q z c (.slice Q vl.length cv)) 82):=(by rw[M.block _ zo];exact bm.out);have b6:Hid (w4.heap[w.heap.size]?=.c (.k seen) 34):=(by rw[M.block _ zo];exact bn.out);have k4:=(aH ab.out).1;have f4:=(aH ab.out).2;have x4:=(aH b6.out).1;have c8:=aT.out;clear D M k3 x3))
 have cn:=HN.out _ bp.out;have ck:w4.cell? (.a w2 (1+n))=.i (c n):=by
  rw[k4];rcases dR E with rfl|rfl|rfl|rfl<;>rfl
 have Y:w4.cell? (.a w n)=.i (seen n):=by
  rw[x4];rcases dR E with rfl|rfl|rfl|rfl<;>rfl
 have b7:w4.cell? (.a w2 1)=.i (c 0):=k4 1;have b8:w4.cell? (.a w 0)=.i (seen 0):=x4 0;have b9:w4.cell? (.a w2 2)=.i (c 1):=k4 2;have ca:w4.cell? (.a w 1)=.i (seen 1):=x4 1;have cb:w4.cell? (.a w2 3)=.i (c 2):=k4 3;have cc:w4.cell? (.a w 2)=.i (seen 2):=x4 2;have cd:w4.cell? (.a w2 4)=.i (c 3):=k4 4;have cj:w4.cell? (.a w 3)=.i (seen 3):=x4 3;clear k4 x4;go_upto_region 14 with (first
  |(go_at_call 40;refine AI (Z.out _) ?_;rintro e w6 ⟨rfl,N⟩;have z6:=N.size;have cl:=zu (bp.out.trans (N.mono zo));have an:Hid (w6.heap[w2.heap.size]?=.c (.q z c (.slice Q vl.length cv)) 82):=(by rw[N.block _ zo];exact ab.out);have cm:=zu (bH b5.out N zf);have k6:=(aH an.out).1;have f6:=(aH an.out).2;clear N))
 obtain⟨W7,G⟩: ∃W,W=(((w6.setCell (.a w2 1) (.i (aO c seen 0))).setCell (.a w2 2) (.i (aO c seen 1))).setCell (.a w2 3) (.i (aO c seen 2))).setCell (.a w2 4) (.i (aO c seen 3)):=⟨_,rfl⟩
 rw[<-G];have ao:Hid (W7.heap[w2.heap.size]?=.c #[.s z,.i (aO c seen 0),.i (aO c seen 1),.i (aO c seen 2),.i (aO c seen 3),.slice Q vl.length cv] 82):=(by rw[G,heap_set (heap_set (heap_set (heap_set an.out)))];rfl)
 have H:w<=w2.heap.size:=zo;have br:Hid (Below w w W7):=(by rw[G];exact(((cl.out.setCell H _).setCell H _).setCell H _).setCell H _)
 have I:w2<W3.heap.size:=zo;have cp:Hid (W7.ownsRow W3 88 3 (.slice B u f) u (aQ (aS vl seen))):=(by rw[G];exact jq (jq (jq (jq cm.out I) I) I) I)
 have zz:W7=w6.heap.size:=by rw[G];simp[World.setCell]
 have c7:W7.cell? (.a w2 (1+n))=.i (aO c seen n):=by
  rw[(aH ao.out).1];rcases dR E with rfl|rfl|rfl|rfl<;>rfl
 have f7:=(aH ao.out).2;have n7:=HN.out _ br.out;clear G k6 f6 f4 cn ck Y b7 b9 cb cd b8 ca cc cj;go_upto_region 15 with fail;obtain⟨J,K⟩: ∃W,W=W7.setCell (.a w2 (1+n)) (.i (aO c seen n+1)):=⟨_,rfl⟩
 rw[<-K];have aq:Hid (J.heap[w2.heap.size]?=.c #[.s z,.i (bump (aO c seen) n 0),.i (bump (aO c seen) n 1),.i (bump (aO c seen) n 2),.i (bump (aO c seen) n 3),.slice Q vl.length cv] 82):=(by rw[K,heap_set ao.out];rcases dR E with rfl|rfl|rfl|rfl<;>rfl)
 have bs:Hid (Below w w J):=(by rw[K];exact br.out.setCell H _)
 have bx:Hid (J.ownsRow W3 88 3 (.slice B u f) u (aQ (aS vl seen))):=(by rw[K];exact jq cp.out I)
 have z9:J=W7.heap.size:=by rw[K];simp[World.setCell]
 clear K c7 f7 n7;have bB:Hid (∀w',Below J J w'->w'.cell? (.a b 0)=.i n/\w'.cell? (.a w2 (1+n))=.i (aO c seen n+1)/\fT w' (.slice B u f) (aS vl seen)):=λw' hw=>by
  refine⟨HN.out _ (bs.out.trans (hw.mono zo)),?_,?_⟩
  .rw[hw.cell (p:=(.a w2 (1+n))) (show w2<J.heap.size by omega),(aH aq.out).1,<-Ka];rcases dR E with rfl|rfl|rfl|rfl<;>rfl
  .have:=bU (bH bx.out hw zf) (aaZ _);unfold fT;rw[S.out];exact this
 have bL:Hid (∀w' x,Below J J w'->(w'.setCell (.a w2 5) x).cell? (.a b 0)=.i n/\(w'.setCell (.a w2 5) x).cell? (.a w2 (1+n))=.i (aO c seen n+1)/\fT (w'.setCell (.a w2 5) x) (.slice B u f) (aS vl seen)):=λw' x hw=>by
  have hk:w'.heap[w2.heap.size]?=.c #[.s z,.i (bump (aO c seen) n 0),.i (bump (aO c seen) n 1),.i (bump (aO c seen) n 2),.i (bump (aO c seen) n 3),.slice Q vl.length cv] 82:=by rw[hw.block _ zo];exact aq.out
  refine⟨?_,?_,?_⟩
  .rw[ew (show b≠w2 by omega)];exact(bB.out w' hw).1
  .rw[(aH (heap_set hk)).1,<-Ka];rcases dR E with rfl|rfl|rfl|rfl<;>rfl
  .have:=bU (jq (o:=5) (val:=x) (bH bx.out hw zf) I) (aaZ _);unfold fT;rw[S.out];exact this
 go_region_held3 (λw'=>w'.cell? ⟨b,0,none⟩=some (.int .i64 n)/\w'.cell? ⟨w2.heap.size,1+n,none⟩=some (.int .i64 (aO c seen n+1))/\fT w' (.slice B u f) (aS vl seen))
  (first|(refine bL.out _ _ ?_;(simp (maxDischargeDepth:=12) [B1];done))|(refine bB.out _ ?_;first|(simp (maxDischargeDepth:=12) [aaP,aaR];done)|(simp (maxDischargeDepth:=12) [B1];done)))
  (first|(go_at_call 41;refine AI (a6.out _ _ _ (by go_split_ands;assumption)) ?_;rintro e w8 ⟨v',rfl,C,O⟩;obtain⟨L,j,rfl,cq,-⟩:=cz C;have cr:Hid (w8.ownsRow J 88 3 (.slice L (u+1) j) (u+1) (aQ (dc (aS vl seen) (n,aO c seen n+1,value)))):=C;have B1:Below J J w8:=ju O (by simp[aaP,aaR]);have ar:Hid (w8.heap[w2.heap.size]?=.c #[.s z,.i (bump (aO c seen) n 0),.i (bump (aO c seen) n 1),.i (bump (aO c seen) n 2),.i (bump (aO c seen) n 3),.slice Q vl.length cv] 82):=(by rw[B1.block _ zo];exact aq.out);have k8:=(aH ar.out).1;have f8:=(aH ar.out).2;clear C O))
 have z8:=B1.size;have cw:=zu (bs.out.trans (B1.mono zo));clear B1;go_upto_region 16 with fail;obtain⟨WA,P⟩: ∃W,W=w8.setCell (.a w2 5) (.slice L (u+1) j):=⟨_,rfl⟩
 rw[<-P];have cA:Hid (WA.heap[w2.heap.size]?=.c #[.s z,.i (bump (aO c seen) n 0),.i (bump (aO c seen) n 1),.i (bump (aO c seen) n 2),.i (bump (aO c seen) n 3),.slice L (u+1) j] 82):=(by rw[P,heap_set ar.out];rfl)
 have ay:Hid (Below w w WA):=(by rw[P];exact cw.out.setCell H _)
 have bN:Hid (WA.ownsRow J 88 3 (.slice L (u+1) j) (u+1) (aQ (dc (aS vl seen) (n,aO c seen n+1,value)))):=(by rw[P];exact jq cr.out zo)
 have kA:=(aH cA.out).1;have zA:=ay.out.size;clear P k8 f8;go_wp2_with (first
  |(go_at_call 42;refine AI (a1.out (bump (aO c seen) n) L (u+1) j _ ay.out) ?_;rintro e wB ⟨rfl,A,O,bR,bT⟩;have R1:=zu O;have R2:=zu bR;have R3:=zu bT;clear O bR bT))
 go_ret;refine⟨rfl,A,L,j,R1.out,bU R2.out zo,?_,(Fr.cQ ay.out).trans R3.out⟩;refine bU (Fr.row R3.out bN.out λg o l' c' hv e=>?_) zo;rcases bN.out.2 with⟨h1,_⟩|⟨g1,cK,cN,cB,c9,_⟩
 .rw[h1]at hv;cases hv
 .rw[cB]at hv;cases hv;omega
end Go.Proofs.YtldmcdeibiclkaaGreatQ
