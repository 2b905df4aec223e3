/-
  Toward all_holds
-/
import Derived.Test.YtldmcdeibiclkaaGreatC32
import Derived.Test.YtldmcdeibiclkaaGreatC01
import Derived.Test.YtldmcdeibiclkaaGreatC27
import Derived.Test.YtldmcdeibiclkaaGreatC31
import Derived.Test.YtldmcdeibiclkaaGreatC26
import Derived.Deep.CutRange
set_option linter.all false
noncomputable section
set_option maxRecDepth 100000
set_option maxHeartbeats 20000000
namespace Go.Proofs.YtldmcdeibiclkaaGreatQ
variable {b:Nat}{bm:Nat->Nat}
open Go.RowKit
theorem Lk.out{w W a:af}{S:ah}{s:RS}(h:Lk W a b S s)(hb:Below w w W)(hl:w<=b):Below w w a:=
 hb.trans (h.2.toBelow (λk c=>zo) hb.size)
theorem Gx(w:af)(k:Nat)(q:ah)(hs:(aK k++q).size<=140737488355328):jz (w.alloc (.cells #[.s (aK k++q),.i 1,.bool false] 139)) w (aK k++q) (q,false):=
 ⟨1,By w _,by rw[OF,dE];omega,(LW q).symm,hs⟩
theorem Mg(rb:Nat)(q R:ah)(w:af)(hs:(aK (78:Nat)++q).size<=140737488355328)(F:(aF 1 (q,false)).2.2=false->(aF 1 (q,false)).1<3->(eW (aF 1 (q,false)).1 (aF 1 (q,false)).2).2.2=false->∀W B v ps,Below w w W->ps.map Pt.is=(eW (aF 1 (q,false)).1 (aF 1 (q,false)).2).1->kJ W B v ps->Calls aC.prog 82 #[.p rb,.i (aF 1 (q,false)).1,v] W λe w'=>e=.r (.s R)/\Below w w w'):
  Calls aC.prog 57 #[.p rb,.s (aK (78:Nat)++q)] w λe w'=>e=.r (if (aF 1 (q,false)).2.2=false/\(aF 1 (q,false)).1<3/\(eW (aF 1 (q,false)).1 (aF 1 (q,false)).2).2.2=false then .tuple #[.s R,.i 0] else .tuple #[.s ⟨#[]⟩,.i 8])/\Below w w w':=by
 have P:=wv (k:=78) q;have Q:((aK (78:Nat)).toList== [82])=false:=(lA 82 (by decide)).trans rfl;have S:((aK (78:Nat)).toList== [78])=true:=(lA 78 (by decide)).trans rfl;have V:(aK (78:Nat)++q).size=1+q.size:=by rw[OF,dE]
 have X:=wO (k:=78) q;have n:=Gx w 78 q hs;have g:Hid (Below w w (w.alloc (.cells #[.s (aK (78:Nat)++q),.i 1,.bool false] 139))):=(aaP _ _).alloc (aba _) _;have y:=hid (B7 w 1 _ (q,false) _ n (by omega));have z:Hid (∀lv r W,lv<=3->jz W w (aK (78:Nat)++q) r->Calls aC.prog 81 #[.p w,.i (lv:Nat)] W λe w'=>∃v,e=.r v/\Lk W w' w (aK (78:Nat)++q) (eW lv r).2/\((eW lv r).2.2=false->∃ps,ps.map Pt.is=(eW lv r).1/\kJ w' W v ps)):=λlv r W hl I=>EK w lv _ r W I hl;have J:=hid F;have L:=iM 1 (q,false) (aba _);clear F n;generalize aK (78:Nat)++q=T at*;generalize aK (78:Nat)=t1 at*;generalize (aF 1 (q,false)).1=lv at*;generalize (aF 1 (q,false)).2=r2 at*;obtain⟨G,b2⟩:=r2;have M:(1:Int)<=(T.size:Int):=by omega
 simp only at*;cases b2 with
 |true=>
  rw[AT (by simp)];go_enter aC.func57,aC.ntmps57;go_wp2_with (go_at_call 80;refine y.out.mono ?_;rintro e w2 ⟨rfl,c⟩;have d:=hid (c.out g.out (aba _));obtain⟨A,y2,_⟩:=c.1;have x2:w2.cell? (.a w 2)=some (.bool true):=(aH y2).1 2)
  go_ret2;exact⟨rfl,d.out⟩
 |false=>
  by_cases h:lv<3
  .have l2: ¬(2:Int)<(lv:Int):=by omega
   have o:=hid (z.out lv (G,false) · (by omega));cases hb:(eW lv (G,false)).2.2 with
   |true=>
    rw[AT (by simp)];go_enter aC.func57,aC.ntmps57;go_wp2_with (first
     |(go_at_call 80;refine y.out.mono ?_;rintro e w2 ⟨rfl,c⟩;have d:=hid (c.out g.out (aba _));have j:=hid c.1;obtain⟨A,y2,_⟩:=c.1;have x2:w2.cell? (.a w 2)=some (.bool false):=(aH y2).1 2;clear c y2)
     |(go_at_call 81;refine(o.out _ j.out).mono ?_;rintro e w3 ⟨H,rfl,f,_⟩;have m:=hid (f.out d.out (aba _));obtain⟨N,t,_⟩:=f.1;have O:w3.cell? (.a w 2)=some (.bool true):=(by have:=(aH t).1 2;rw[hb]at this;exact this);clear f t))
    go_ret2;exact⟨rfl,m.out⟩
   |false=>
    rw[BY (by simp[h])];go_enter aC.func57,aC.ntmps57;go_wp2_with (first
     |(go_at_call 80;refine y.out.mono ?_;rintro e w2 ⟨rfl,c⟩;have d:=hid (c.out g.out (aba _));have j:=hid c.1;obtain⟨A,y2,_⟩:=c.1;have x2:w2.cell? (.a w 2)=some (.bool false):=(aH y2).1 2;clear c y2)
     |(go_at_call 81;refine(o.out _ j.out).mono ?_;rintro e w3 ⟨H,rfl,f,u⟩;obtain⟨ps,C,x⟩:=u hb;have m:=hid (f.out d.out (aba _));have D:=hid (J.out (by simp) h hb w3 _ H ps m.out C x);obtain⟨N,t,_⟩:=f.1;have O:w3.cell? (.a w 2)=some (.bool false):=(by have:=(aH t).1 2;rw[hb]at this;exact this);clear f t u x)
     |(go_at_call 82;refine D.out.mono ?_;rintro e w4 ⟨rfl,E⟩))
    go_ret2;exact⟨rfl,E⟩
  .have l2:(2:Int)<(lv:Int):=by omega
   rw[AT (by simp[h])];go_enter aC.func57,aC.ntmps57;go_wp2_with (go_at_call 80;refine y.out.mono ?_;rintro e w2 ⟨rfl,c⟩;have d:=hid (c.out g.out (aba _));obtain⟨A,y2,_⟩:=c.1;have x2:w2.cell? (.a w 2)=some (.bool false):=(aH y2).1 2;clear c y2)
   go_ret2;exact⟨rfl,d.out⟩
theorem Jp(rb k:Nat)(z:k=83\/k=84)(q R:ah)(Φ:af->Prop)(w:af)(hs:(aK k++q).size<=140737488355328)(A:(eW 3 (q,false)).2.2=false->∀W B v ps,Below w w W->ps.map Pt.is=(eW 3 (q,false)).1->kJ W B v ps->Calls aC.prog 83 #[.p rb,.s (aK k),v] W λe w'=>e=.r (.s R)/\Φ w')(hb:(eW 3 (q,false)).2.2=true->∀W,Below w w W->Φ W):
  Calls aC.prog 57 #[.p rb,.s (aK k++q)] w λe w'=>e=.r (if (eW 3 (q,false)).2.2=false then .tuple #[.s R,.i 0] else .tuple #[.s ⟨#[]⟩,.i 8])/\Φ w':=by
 have J:=wv (k:=k) q;have L:=(lA 82 zo).trans (abC (show k≠82 by omega));have M:=(lA 78 zo).trans (abC (show k≠78 by omega));have f:((aK k).toList== [83])=true\/((aK k).toList== [83])=false/\((aK k).toList== [84])=true:=by
  rcases z with rfl|rfl
  .exact .inl ((lA 83 zo).trans rfl)
  .exact .inr ⟨(lA 83 zo).trans rfl,(lA 84 zo).trans rfl⟩
 have N:(aK k++q).size=1+q.size:=by rw[OF,dE]
 have O:=wO (k:=k) q;have g:=Gx w k q hs;have h:Hid (Below w w (w.alloc (.cells #[.s (aK k++q),.i 1,.bool false] 139))):=zj.alloc zf _;have C:=hid (EK w 3 _ (q,false) _ g zo);have E:=hid A;have o:=hid hb;clear A hb g z;generalize aK k++q=T at*;generalize aK k=t1 at*;have F:(1:Int)<=(T.size:Int):=zo;cases hb:(eW 3 (q,false)).2.2 with
 |true=>
  rw[AT zp];rcases f with t|⟨t,G⟩
  all_goals
   go_enter aC.func57,aC.ntmps57;go_wp2_with (go_at_call 81;refine C.out.mono ?_;rintro e w3 ⟨D,rfl,c,_⟩;have d:=hid (c.out h.out zf);obtain⟨H,j,_⟩:=c.1;have I:w3.cell? (.a w 2)=some (.bool true):=(by have:=(aH j).1 2;rw[hb]at this;exact this);clear c j)
   go_ret2;exact⟨rfl,o.out hb w3 d.out⟩
 |false=>
  rw[BY rfl];rcases f with t|⟨t,G⟩
  all_goals
   go_enter aC.func57,aC.ntmps57;go_wp2_with (first
    |(go_at_call 81;refine C.out.mono ?_;rintro e w3 ⟨D,rfl,c,m⟩;obtain⟨ps,u,n⟩:=m hb;have d:=hid (c.out h.out zf);have x:=hid (E.out hb w3 _ D ps d.out u n);obtain⟨H,j,_⟩:=c.1;have I:w3.cell? (.a w 2)=some (.bool false):=(by have:=(aH j).1 2;rw[hb]at this;exact this);clear c j m n)
    |(go_at_call 83;refine x.out.mono ?_;rintro e w4 ⟨rfl,y⟩))
   go_ret2;exact⟨rfl,y⟩
section
structure qC(K:aL):Prop where
 size:∀ns:List Nat,(∀n∈ns,n<64)->ns.Pairwise (· < ·)->(cU (gK K ns)).size<=117100000000000
 cnt:∀n,n<64->(fq K n).length<=4294967295
 name:∀s,fj (K s).1->s.size<=8
theorem Zh{w:af}{num:Nat}{K:aL}(d:aV w b bm num K){s:ah}(f:fj (K s).1):bq s=true:=by
 have hs:=d.2.1 (aZ s) (kP _);have a:=(Cf hs rfl).2 f;obtain⟨es,clock,g,i,j,h,k⟩:=hs;have c:dB w (bm (aZ s))=es.toList:=by simp[dB,g]
 rw[c]at a;exact(xn a λe a=>h.2.2.2 e a).2.2
theorem bQ.AM{U:List ah}{K:aL}(a:bQ U K){w:af}{num:Nat}(c:aV w b bm num K)(d:cF K):qC K where
 size ns hns ha:=a.size c d.ok hns ha
 cnt n hn:=by
  have e:=a.jO c [n] (by simpa using hn);have f:=BF [n] U zp;have g:=a.1;grind
 name s hk:=mW (Zh c hk)
section
variable {U:List ah}{w:af}{rb num:Nat}{sv:ag}{l:List aY}{K:aL}
theorem Yt(h:cG w rb num sv l K)(d:bQ U K):l.length<=1300000:=by
 have f:=vm (l:=l.map (·.1)) (U:=U) (acs.2 (h.sorted.imp λ{a b} c e=>?_)) λs hs=>?_
 .rw[abe]at f;exact IT f d.1
 .have:=nu.1 c;grind
 .obtain⟨q,g,rfl⟩:=aaW.1 hs;exact d.2 _ ((h.mem_iff q.1).1 ⟨q,g,rfl⟩)
def BA(h:cG w rb num sv l K)(a:cF K)(c:bQ U K)(d:qC K):mu w rb (iY K) λn=>(fq K n).length:=
 EW h a (λq e=>d.name _ ((h.mem_iff q.1).1 ⟨q,e,rfl⟩)) (Yt h c)
theorem WC(h:cG w rb num sv l K)(t:cF K)(u:bQ U K)(v:qC K)(q:ah)(hs:(aK (82:Nat)++q).size<=140737488355328):
  Calls aC.prog 57 #[.p rb,.s (aK (82:Nat)++q)] w λe w'=>e=.r (.tuple #[.s (fu K (aK (82:Nat)++q)).1,.i (fu K (aK (82:Nat)++q)).2.1])/\fK w w' rb num (fu K (aK (82:Nat)++q)).2.2:=by
 have a:=BA h t u v;refine(Tj rb q (kK (ed K 0 0)) (cu (λj=>dg (iY K) (3-(0+1)) (0*4+j)) 4) w hs (kx _ 4) (λW g=>C6 a W g) (λW g=>B9 a (lv:=0) (n:=0) zo zd W g)).mono ?_;rintro e w' ⟨rfl,hb⟩;have m:fK w w' rb num K:=⟨⟨sv,l,h.below hb⟩,Fr.cQ hb⟩
 have f:=NZ q;by_cases k:q.size=8
 .rw[BY k]at f ⊢;rw[o8 f];have o:=Jt (iY K) 3 0;refine⟨?_,m⟩;have c:=ZS k (d:=ed K 0 0) o.1 o.2;by_cases e:be q=ed K 0 0
  .rw[BY (c.2 e)];simp only[j5,BY e,iE]
  .rw[AT λx=>e (c.1 x),Z4];simp only[j5,AT e,iE]
 .rw[AT k]at f ⊢;rw[nG f];exact⟨rfl,m⟩
theorem Rr(h:cG w rb num sv l K)(G:cF K)(H:bQ U K)(t:qC K)(q:ah)(hs:(aK (78:Nat)++q).size<=140737488355328):
  Calls aC.prog 57 #[.p rb,.s (aK (78:Nat)++q)] w λe w'=>e=.r (.tuple #[.s (fu K (aK (78:Nat)++q)).1,.i (fu K (aK (78:Nat)++q)).2.1])/\fK w w' rb num (fu K (aK (78:Nat)++q)).2.2:=by
 have g:=QK q;have u:fL (q,false)=cf iA (aF 1 (q,false)).1 (ba (decide ((aF 1 (q,false)).1<3)) (aF 1 (q,false)).2):=rfl;have a:dJ (fL (q,false)).2=true↔(aF 1 (q,false)).2.2=false/\(aF 1 (q,false)).1<3/\(eW (aF 1 (q,false)).1 (aF 1 (q,false)).2).2.2=false:=by
  by_cases z:(aF 1 (q,false)).2.2=false/\(aF 1 (q,false)).1<3
  .rw[u,show ba (decide ((aF 1 (q,false)).1<3)) (aF 1 (q,false)).2=(aF 1 (q,false)).2 by rw[abJ z.2];simp[ba],<-(AU z.2 _).1];grind
  .have I:(ba (decide ((aF 1 (q,false)).1<3)) (aF 1 (q,false)).2).2=true:=by
    simp only[ba,abS,Bool.not_eq_true',acA];grind
   rw[u,Ns I];grind
 refine(Mg rb q (iE (j5 K (.nodes (aF 1 (q,false)).1 (fL (q,false)).1))) w hs λJ j A W B v ps C d L=>?_).mono ?_
 .rw[BY (a.2 ⟨J,j,A⟩)]at g;have f:JH _ _:=ug g;have M:fL (q,false)=cf iA (aF 1 (q,false)).1 (aF 1 (q,false)).2:=by
   rw[u,abJ j];simp[ba]
  obtain⟨zs,V,N,O⟩:=(AU j (aF 1 (q,false)).2).2 ((AU j _).1.1 A);rw[<-M]at O;rw[N]at d;have hlen:ps.length=zs.length:=by have:=congrArg List.length d;simpa using this
  have m:(fL (q,false)).1.length=ps.length:=zg;have D:=NP (w:=W) (rb:=rb) (base:=B) (lev:=(aF 1 (q,false)).1) (T:=iY K) (c:=λn=>(fq K n).length) (λX y=>BA (h.below (bk C y)) G H t) j v ps (fL (q,false)).1 L (by rw[<-m];exact f.len.2) m (λi hi=>?_) f.num f.l8 (λk n=>Jt _ k n) t.cnt (λns P Q=>by rw[uc];exact IT (t.size ns Q P) zo)
  .rw[Pz]at D;exact D.mono λe w' ⟨R,hb⟩=>⟨R,bk C hb⟩
  .have Y:i<zs.length:=zo;have E:Pt.is ps[i]=(zs[i].1,zs[i].2.1):=by
    have:=congrArg (λx=>x[i]?) d;grind
   have S:(fL (q,false)).1[i]'zo=(zs[i].1,zs[i].2.2):=by
    grind
   rw[S];refine⟨(congrArg Prod.fst E).symm,?_⟩;have Z:ps[i].2.1=zs[i].2.1.1:=congrArg (λx=>x.2.1) E;grind
 .rintro e w' ⟨rfl,hb⟩;have F:fK w w' rb num K:=⟨⟨sv,l,h.below hb⟩,Fr.cQ hb⟩
  by_cases o:dJ (fL (q,false)).2=true
  .rw[BY o]at g;rw[BY (a.1 o),o8 g];exact⟨rfl,F⟩
  .rw[AT o]at g;rw[AT λx=>o (a.2 x),nG g];exact⟨rfl,F⟩
theorem Y1(h:cG w rb num sv l K)(H:cF K)(I:bQ U K){k:Nat}(u:k=83\/k=84)(q:ah)(y:fO U (aK k++q))(c:qC (fu K (aK k++q)).2.2):
  Calls aC.prog 57 #[.p rb,.s (aK k++q)] w λe w'=>e=.r (.tuple #[.s (fu K (aK k++q)).1,.i (fu K (aK k++q)).2.1])/\fK w w' rb num (fu K (aK k++q)).2.2:=by
 have f:=P2 u q;obtain⟨M,p2⟩:=Um (q,false);cases hb:(eW 3 (q,false)).2.2 with
 |true=>
  rw[AT λx=>by grind]at f;rw[nG f];refine(Jp rb k u q ⟨#[]⟩ (λw'=>fK w w' rb num K) w y.1 (λx=>by rw[hb]at x;cases x) λ_ W j=>⟨⟨sv,l,h.below j⟩,Fr.cQ j⟩).mono ?_;grind
 |false=>
  have J:=M.1 hb;rw[BY J]at f;rw[o8 f]at c ⊢;have a:=ug f;have N:=p2 J;have m:=λg z r A=>y.2 _ (by
   unfold lO;rw[f];exact abO.2 ⟨g,z,aaW.2 ⟨r,A,rfl⟩⟩)
  generalize (cf bW 3 (q,false)).1=sg at*;have C:=H.da a.2;have D:=I.join m;have d:∀n∈sg.map (·.1),n<64:=λn E=>by
   obtain⟨g,z,rfl⟩:=aaW.1 E;exact(a.2.num g z).1
  refine(Jp rb k u q (iE (j5 K (.bS k sg))) (λw'=>fK w w' rb num (da K sg)) w y.1 (λ_ W B v ps j o O=>?_) (λx=>by rw[hb]at x;cases x)).mono ?_
  .rw[N]at o;have P:ps.map (λp=>(p.1,p.2.2.2.map Rk.bP))=sg:=by
    have:=congrArg (List.map λt:Nat×ah×List aJ=>(t.1,t.2.2)) o;rw[acE,acE]at this;rw[show sg=sg.map id by simp];exact this
   refine(Zu (U:=U) (h.below j) H I v ps sg O P a.2 m u (Let.bS 84 (gK (da K sg) (sg.map (·.1)))).bytes λR nv F aT=>?_).mono ?_
   .obtain⟨⟨Q,S,G⟩,L⟩:=F
    have:=F7 (BA G C D c) 84 _ nv (sg.map (·.1)) aT (by rw[abe];exact a.2.len.2) d (λn E=>c.cnt n (d n E)) (by rw[uc];exact IT (c.size _ d a.2.l8) zo);rw[Ou]at this;exact this
   .rintro e w' ⟨rfl,⟨G,L⟩⟩;refine⟨?_,G,(Fr.cQ j).trans L⟩;simp only[j5];by_cases e:k=84
    .rw[BY e,BY e];rfl
    .rw[AT e,AT e];rfl
  .rintro e w' ⟨rfl,F⟩;rw[hb,BY rfl];exact⟨rfl,F⟩
theorem Np(h:cG w rb num sv l K)(c:cF K)(d:bQ U K)(m:qC K)(T:ah)(a:fO U T)(f:qC (fu K T).2.2):
  Calls aC.prog 57 #[.p rb,.s T] w λe w'=>e=.r (.tuple #[.s (fu K T).1,.i (fu K T).2.1])/\fK w w' rb num (fu K T).2.2:=by
 by_cases o:T.size=0
 .obtain rfl:T=⟨#[]⟩:=acj (Array.eq_empty_of_size_eq_zero o);rw[nG Fw];exact(RB rb w).mono λe w' ⟨g,hb⟩=>⟨g,⟨sv,l,h.below hb⟩,Fr.cQ hb⟩
 .obtain⟨k,q,n,rfl⟩:=WJ (show 0<T.size by omega);by_cases k1:k=82
  .subst k1;exact WC h c d m q a.1
  .by_cases j:k=78
   .subst j;exact Rr h c d m q a.1
   .by_cases t:k=83\/k=84
    .exact Y1 h c d t q a f
    .rw[nG (Ys n q k1 j zo zo)];exact(QH rb k q w n a.1 k1 j zo zo).mono λe w' ⟨g,hb⟩=>⟨g,⟨sv,l,h.below hb⟩,Fr.cQ hb⟩
end
end
section
section
variable {U:List ah}{K:aL}{T:ah}
theorem Zv{L:Let}(a:fO U T)(h:dZ T=some L):∀s∈L.keys,s∈U:=by
 have:=a.2;unfold lO at this;grind
theorem vZ(a:bQ U K)(c:fO U T):bQ U (fu K T).2.2:=by
 cases h:dZ T with
 |none=>rw[nG h];exact a
 |some L=>
  rw[o8 h];cases L with
  |bS k sg=>exact a.join λg e r f=>Zv c h _ (abO.2 ⟨g,e,aaW.2 ⟨r,f,rfl⟩⟩)
  |root d=>exact a
  |nodes lv sg=>exact a
theorem yX(a:cF K)(T:ah):cF (fu K T).2.2:=by
 cases h:dZ T with
 |none=>rw[nG h];exact a
 |some L=>
  rw[o8 h];have c:=ug h;cases L with
  |bS k sg=>exact a.da c.2
  |root d=>exact a
  |nodes lv sg=>exact a
theorem Kw{w:af}{num:Nat}(p:bQ U K)(q:aV w b bm num K)(t:cF K){kind:Nat}(A:kind=83\/kind=84){ns:List Nat}(d:∀n∈ns,n<64)(u:ns.Pairwise (· < ·)):fO U (Let.bS kind (gK K ns)).bytes:=by
 have i:=p.AM q t;have hl:=rj (a:=0) (m:=64) u λx j=>⟨aaZ _,d x j⟩
 have e:∀n∈ns,∀r∈fq K n,fj (K r.1).1/\r.2=K r.1:=λn f r c=>by
  have y:=(q.2.1 n (d n f)).names;rw[fq,rZ y]at c;obtain⟨x,j,rfl⟩:=aaW.1 c;exact⟨((y.2 x).1 j).2,rfl⟩
 refine⟨?_,λs hs=>?_⟩
 .rw[Aw]
  have:=i.size ns d u;omega
 .have B:=Px A (sg:=gK K ns) (by rw[gK,abe];omega) (λg k=>?_) s hs
  .obtain⟨g,k,o⟩:=abO.1 B;obtain⟨n,f,rfl⟩:=aaW.1 k;obtain⟨r,c,rfl⟩:=aaW.1 o;exact p.2 _ (e n f r c).1
  .obtain⟨n,f,rfl⟩:=aaW.1 k;refine⟨by have:=i.cnt n (d n f);grind,λr c=>?_⟩;obtain⟨C,z⟩:=e n f r c;have D:=i.name _ C;have h:=t r.1;refine⟨zo,by rw[z];have:=h.len;omega,λv hv=>?_⟩;rw[z]at hv
   have:=(h.each v hv).2.2;omega
theorem EH(lv:Nat){sg:List Nd}(h:sg.length<=256):fO U (Let.nodes lv sg).bytes:=by
 have a:∀l:List Nd,(fR l).size=33*l.length:=λl=>by
  induction l with
  |nil=>rfl
  |cons x l c=>rw[fR,OF,OF,dE,kx,c,abi];omega
 refine⟨?_,by rw[CD (x:=78) (show(Let.nodes lv sg).bytes=aK (78:Nat)++_ from rfl) (.inr rfl)];grind⟩;simp only[Let.bytes,OF,dE,a];omega
theorem yj:fO U ⟨#[]⟩:=⟨aaZ _,by unfold lO;rw[Fw];grind⟩
theorem XZ{w w':af}{num v c:Nat}{p:Nat->Nat}(s:bQ U K)(t:cF K)(y:aV w b bm num K)(z:fO U T)(e:aV w' v p c (fu K T).2.2):fO U (fu K T).1:=by
 have f:=vZ s z;have i:=yX t T;cases h:dZ T with
 |none=>rw[nG h];exact yj
 |some L=>
  have j:=ug h;rw[o8 h]at e f i ⊢;cases L with
  |root d=>
   show fO U (iE (if d=ed K 0 0 then none else some (.nodes 0 (j6 K 0 [0]))));split
   .exact yj
   .exact EH 0 (by simp[j6])
  |nodes lv sg=>
   have q:=j;have A:=vq (D:=ed K (lv+1)) q.num;have u:=vR (D:=ed K (lv+1)) q.l8;have B:=(mz (show lv+1<=3 by have:=q.low;omega)).1;have o:=λn r=>abc (A n r) B;have hl:=rj (a:=0) (m:=64) u λx C=>⟨aaZ _,o x C⟩
   show fO U (iE (if bV (ed K (lv+1)) sg= [] then none else if lv=2 then some (.bS 83 (gK K (bV (ed K (lv+1)) sg))) else some (.nodes (lv+1) (j6 K (lv+1) (bV (ed K (lv+1)) sg)))));split
   .exact yj
   .split
    .exact Kw s y t (.inl rfl) o u
    .exact EH (lv+1) (by rw[j6,abe];omega)
  |bS k sg=>
   obtain⟨F,hs⟩:(k=83\/k=84)/\qh sg:=j;show fO U (iE (if k=84 then none else some (.bS 84 (gK (da K sg) (sg.map (·.1))))));split
   .exact yj
   .exact Kw f e i (.inr rfl) (λn r=>by
     obtain⟨g,E,rfl⟩:=aaW.1 r;exact(hs.num g E).1) hs.l8
theorem K5{w:af}{num:Nat}(d:aV w b bm num K)(g:cF K)(f:bQ U K)(a:fO U T):
  Calls aC.prog 56 #[.p b,.s T] w λe w'=>e=.r (.tuple #[.s (fu K T).1,.i (fu K T).2.1])/\aV w' b bm num (fu K T).2.2/\Fr (pN bm) w w':=by
 cases h:dZ T with
 |none=>
  rw[nG h];exact(N7 b T w a.1 h).mono λe w' ⟨c,hb⟩=>⟨c,d.below hb,Fr.cQ hb⟩
 |some L=>
  rw[o8 h];refine(OL b num bm K T L w a.1 h (ZT d g f (ug h) λkind sg e=>?_)).mono λe w' ⟨c,j,k⟩=>⟨c,j,k.weaken λq m=>m.1⟩
  subst e
  have:=vZ f a;rw[o8 h]at this;exact this
end
end
section
variable {U:List ah}
theorem Ip(wb:Nat)(pv le hv:ag)(gs:List PG)(hs:List Nat)(p:Nat)(hp:p<gs.length)(T:ah)(w:af)(h:dQ U w wb pv le hv gs hs)(P:fO U T)(B:bQ U gs[p].K)(o:∀ad n cap,le=.slice ad n cap->n<=4000000000000):
  Calls aC.prog 26 #[.pointer (some ⟨wb,0,none⟩),.agg #[.pointer (some ⟨gs[p].b,0,none⟩),.pointer (some ⟨gs[p].rb,0,none⟩)],.string T] w λe w'=>e=.returned (.bool true)/\ec U wb pv le hv gs hs w w':=by
 have a:=h.dx gs[p] (IS hp);obtain⟨R,Q,v,C⟩: ∃R Q v,fu gs[p].K T=(R,Q,v):=⟨_,_,_,rfl⟩
 have HP:Hid (∀W,Below w.heap.size w W->Calls aC.prog 56 #[.pointer (some ⟨gs[p].b,0,none⟩),.string T] W λe w'=>e=.returned (.tuple #[.string R,.int .i64 Q])/\aV w' gs[p].b gs[p].bm gs[p].num v/\Fr (gD gs[p].bm) W w'):=λW hb=>by
  have:=K5 (a.rep.below hb) a.inv B P;rw[C]at this;exact this
 have HF:Hid (∀W V,Below w.heap.size w V->Fr (gD gs[p].bm) V W->aV W gs[p].b gs[p].bm gs[p].num v->Calls aC.prog 57 #[.pointer (some ⟨gs[p].rb,0,none⟩),.string T] W λe w'=>e=.returned (.tuple #[.string R,.int .i64 Q])/\(∃j S,cG w' gs[p].rb gs[p].num j S v)/\Fr (λk=>k=gs[p].rb) W w'):=λW V x hF X=>by
  have Y:=vZ B P;have h2:=yX a.inv T;rw[C]at Y h2
  have:=Np ((a.below x).wu hF) a.inv B (B.AM a.rep a.inv) T P (by rw[C];exact Y.AM X h2);rw[C]at this;exact this
 have y:Hid (∀V D w' j S,Below w.heap.size w V->aV D gs[p].b gs[p].bm gs[p].num v->Fr (gD gs[p].bm) V D->cG w' gs[p].rb gs[p].num j S v->Fr (λk=>k=gs[p].rb) D w'->fO U R/\∃m,dQ U w' wb pv le hv m hs/\m.length=gs.length/\(∀g'∈m,∃g∈gs,g'.bm=g.bm/\g'.rb=g.rb/\(bQ U g.K->bQ U g'.K))/\Fr (λk=>∃g∈gs,gD g.bm k\/k=g.rb) w w'):=λV D w' j S x Y h2 h3 h4=>by
  have q1:=vZ B P;have q2:=yX a.inv T;have q3:=XZ (T:=T) B a.inv a.rep P (by rw[C];exact Y);rw[C]at q1 q2 q3;exact⟨q3,h.BL p hp v (λ_=>q1) q2 x Y h2 h3 h4⟩
 have aE:Hid (∀k,w.heap.size<=k->¬gD gs[p].bm k):=λk hk=>by
  rintro⟨n,hn,rfl⟩;obtain⟨es,c,hm⟩:=a.kinds.2.1 n hn
  have:=(IN.1 hm).1;omega
 have bx:gs[p].rb<w.heap.size:=by
  obtain⟨A,hA⟩:=a.kinds.2.2;exact(IN.1 hA).1
 have aT:Hid _:=o;have bR:=(IN.1 h.blk).1;clear P B h a C o;generalize gs[p]=gp at*;generalize gp.b=pb at*;generalize gp.rb=E at*;go_enter aC.func26,aC.ntmps26;go_upto_region 1 with fail;obtain⟨V,x⟩: ∃W,W=w.alloc (.cells #[.pointer (some ⟨pb,0,none⟩),.pointer (some ⟨E,0,none⟩)] 47):=⟨_,rfl⟩
 rw[<-x];have HV:Hid (Below w.heap.size w V):=(by rw[x];exact zj.alloc zf _)
 have HX:Hid (V.heap[w.heap.size]?=some (.cells #[.pointer (some ⟨pb,0,none⟩),.pointer (some ⟨E,0,none⟩)] 47)):=(by rw[x];exact By w _)
 have x0:V.cell? ⟨w.heap.size,0,none⟩=some (.pointer (some ⟨pb,0,none⟩)):=(aH HX.out).1 0;clear x;go_upto_region 3 with (first
  |(go_at_call 56;refine AI (HP.out _ HV.out) ?_;rintro e D ⟨rfl,Z,F⟩;have G:=hid Z;have H:=hid F;have x1:D.cell? ⟨w.heap.size,1,none⟩=some (.pointer (some ⟨E,0,none⟩)):=(aH (F.heap HX.out (aE.out _ zf))).1 1;clear Z F)
  |(go_at_call 57;refine AI (HF.out _ V HV.out H.out G.out) ?_;rintro e I ⟨rfl,⟨j,S,ab⟩,q⟩;have an:=hid ab;have ao:=hid q;clear ab q))
 obtain⟨aq,m,u,ar,av,q⟩:=y.out V D I j S HV.out G.out H.out an.out ao.out;have HG:=hid (And.intro ar (And.intro av q));have a1:=hid aq;have J:=hid u;clear aq ar av q y HP HF G H an ao HX HV x0 x1;obtain⟨ls,L,ay⟩:=u.oi;obtain⟨r,d,rfl,a6,bB⟩:=cz L;have bT:=aT.out _ _ _ rfl;have a7:=hid ay;have M:=hid L;have N:=hid u.blk;have l1:I.cell? ⟨wb,1,none⟩=some (.slice r ls.length d):=(aH N.out).1 1;have bZ:(Q==Q)=true:=zp;have b0:(R.toList==R.toList)=true:=zp;have f:Hid (ec U wb pv (.slice r ls.length d) hv gs hs w I):=(show ec U wb pv (.slice r ls.length d) hv gs hs w I from
  ec.AK ⟨m,J.out,HG.out⟩)
 clear u L ay;cases eR:(R.toList== [])
 .by_cases bL:ls.length<300
  .have az:(ls.length:Int)<300:=zo;obtain⟨j0,a8,bb,bc,bd⟩:=aaY aC.vu;have bn:Hid _:=oA M.out N.out zd;have z6:=HG.out.2.2.size;have bo:Hid (∀A,(I.alloc A).heap[wb]?=some (.cells #[pv,.slice r ls.length d,hv] 30)):=λA=>(aaO _ _ _ zo).trans N.out;go_wp2_with (at_builtin;refine abq _ rfl _ _ _ rfl 0 9 j0 _ 1 16 aC.underlying27 a8 bb bc bd rfl zo (.slice r ls.length d) _ _ rfl (aaV M.out _) ⟨I.heap.size,0,none⟩ 1 1 [.string R] rfl rfl (aaT (cs:=#[.string R]) (t:=9) (fr:=(0,0)) (By I _)) zv zo ze zo (aaZ _) _ rfl ?_;intro gg bN w7 s i z aA;have bp:Hid _:=s;have aB:Hid _:=i;have O:=(aB.out.block wb zt bn.out).trans (bo.out _);obtain⟨c7,f7⟩:=aH O;have b1:=c7 1;have b2:=f7 1;have br:Hid _:=O;have bs:Hid _:=z;clear s i z aA O c7 f7)
   go_ret;obtain⟨b3,q1,q2,q3,q4⟩:=I5 a7.out a1.out J.out zj M.out aB.out bp.out br.out bs.out;exact⟨rfl,f.out.kept ⟨m,J.out,HG.out.1,HG.out.2.1,q1⟩ q2 q3 q4⟩
  .have az: ¬(ls.length:Int)<300:=zo;go_wp2;go_ret;exact⟨rfl,f.out⟩
 .go_wp2;go_ret;exact⟨rfl,f.out⟩
end
section
variable {U:List ah}
structure jL(o:ef):Prop where
 m1: -9223372036854775808<=o.m
 m2:o.m<=9223372036854775807
 b1: -9223372036854775808<=o.b
 b2:o.b<=9223372036854775807
 a1: -9223372036854775808<=o.a
 a2:o.a<=9223372036854775807
 s:o.s.size<=maxLen
 t:o.t.size<=maxLen
theorem KO(wb:Nat)(o:ef)(w:af)(P:af->Prop)(g:o.kind=1)(hb:∀W,Below w w W->Calls aC.prog 8 #[.p wb,.i o.a] W λe w'=>e=.r (.bool true)/\P w'):
  Calls aC.prog 9 #[.p wb,.agg (eV o)] w λe w'=>e=.r (.bool true)/\P w':=by
 have h:Hid _:=hb;obtain⟨kind,m,a,j,s,t,c⟩:=o;have k1:=abt.2 g;clear g hb;simp only[eV] at*;go_enter aC.func9,aC.ntmps9;go_wp2_with (first
  |(go_at_call 8;refine AI (h.out _ (zj.alloc zf _)) ?_;rintro e w3 ⟨rfl,d⟩;have f:Hid _:=d;clear d))
 go_ret;exact⟨rfl,f.out⟩
theorem Qd(B N:Nat)(wb:Nat)(pv le hv:ag)(gs:List PG)(hs:List Nat)(o:ef)(w:af)(h:gY U B N w wb pv le hv gs hs)(x:0<gs.length)(I:N<=1600000000000)(s:U.length<=1300000)(k1:o.kind=1):
  Calls aC.prog 9 #[.p wb,.agg (eV o)] w λe w'=>e=.r (.bool true)/\∃f le i d j,gY U B (N+1) w' wb f le i d j/\0<d.length/\Below B w w':=by
 have y:=h.gl;have z:=h.hl;by_cases J:0<=o.a/\o.a<4
 .obtain⟨n,A⟩: ∃n:Nat,o.a=(n:Int):=⟨o.a.toNat,zo⟩
  refine KO wb o w (λw'=>∃f le i d j,gY U B (N+1) w' wb f le i d j/\0<d.length/\Below B w w') k1 λW q=>?_;rw[A];have hb:=h.below q;refine(KM wb pv le hv gs hs n W hb.law zo zo).mono ?_;rintro e w' ⟨t,g,f,C,D,E,F,v,G⟩;refine⟨t,f,le,hv,gs++ [g],hs,⟨C,h.nZ,λk e=>?_,h.qJ,λu c=>?_,λu c=>?_,zt,zo,IT hb.base v.size,h.leB,λad n cap e=>IT (h.ll ad n cap e) zo⟩,zp,(q.mono h.base).trans (v.toBelow (λk e=>?_) hb.base)⟩
  .rcases G k e with e|e
   .exact h.pa k e
   .exact IT hb.base e
  .rcases abr.1 c with c|c
   .exact h.cU u c
   .rw[abu]at c;rw[c];exact⟨λm H=>IT hb.base (E m H),IT hb.base F⟩
  .rcases abr.1 c with c|c
   .exact h.len u c
   .rw[abu]at c;rw[c,D];exact bQ.none s
  .rcases e with e|e
   .rw[e];exact h.nZ
   .exact h.pa k e
 .refine KO wb o w (λw'=>∃f le i d j,gY U B (N+1) w' wb f le i d j/\0<d.length/\Below B w w') k1 λW q=>?_;refine(CV wb o.a W zo).mono ?_;rintro e w' ⟨t,rfl⟩;exact⟨t,pv,le,hv,gs,hs,(h.below q).more zo,x,q.mono h.base⟩
end
section
variable {U:List ah}
structure mx(U:List ah)(o:ef):Prop where
 ok:jL o
 mem:o.s∈U
 lt:fO U o.s
theorem VN(wb:Nat)(pv le hv:ag)(gs:List PG)(hs:List Nat)(o:ef)(w:af)(h:dQ U w wb pv le hv gs hs)(h0:0<gs.length)(hlen:gs.length<=4000000000000)(N:mx U o)(c8:o.kind≠1)(gd:hs.length<=7000000000000)(hl:∀g∈gs,bQ U g.K)(O:∀ad n cap,le=.slice ad n cap->n<=4000000000000):
  Calls aC.prog 9 #[.p wb,.agg (eV o)] w λe w'=>e=.r (.bool true)/\ec U wb pv le hv gs hs w w':=by
 have S:=λg hg=>(hl g hg).pair (h.dx g hg);have ao:∀g∈gs,g.l.length<=1900000000000:=λg hg=>IT (S g hg) zo;have gj:=N.ok.m1;have gn:=N.ok.m2;obtain⟨ls,bx,c9⟩:=h.oi;obtain⟨B,f,rfl,ee,fz⟩:=cz bx;have gr:=O _ _ _ rfl;have aT:=h.og;obtain⟨ad,cap,rfl,fA,gH⟩:=cz aT;have c0:w.cell? (.a wb 0)=some (.slice ad gs.length cap):=(aH h.blk).1 0;obtain⟨q,p,hq,gI,gV,bB,bZ,d⟩:=VC o.m gs.length h0;obtain⟨g,fC,eg,_,_,hg,P⟩:=dU aT h0;cases eg;obtain⟨f0,f1⟩:=Gt gs p d;have p0:=P _ _ zo f0;have p1:=P _ _ zo f1;have gZ:=(IN.1 h.blk).1;rcases (show o.kind=2\/o.kind=3\/o.kind=4\/o.kind=5\/o.kind=6\/o.kind=7\/o.kind=8\/o.kind=9\/o.kind=10\/(o.kind≠2/\o.kind≠3/\o.kind≠4/\o.kind≠5/\o.kind≠6/\o.kind≠7/\o.kind≠8/\o.kind≠9/\o.kind≠10) by omega) with u|u|u|u|u|u|u|u|u|u;have aq:=zu (λW y=>DH wb _ _ hv gs hs o W (h.below y) h0 hlen ao N.ok.s N.ok.b1 N.ok.b2);obtain⟨bL,aE⟩: ∃bL:Ctx->Int,∀x,lL gs[p].K gs[p].num o.s o.t x=bL x:=⟨_,λ_=>rfl⟩
 have b4:Hid (∀x W,Below w w W->Calls aC.prog 13 #[.p gs[p].b,.s o.s,.s o.t,bz x] W λe w'=>e=.r (.i (bL x))/\aV w' gs[p].b gs[p].bm gs[p].num (lS gs[p].K gs[p].num o.s o.t x)/\Fr (gD gs[p].bm) W w'):=λx W y=>by
  have:=Tx gs[p].b gs[p].num gs[p].bm gs[p].K o.s o.t x W ((h.dx _ (IS d)).rep.below y) (h.dx _ (IS d)).inv (h.dx _ (IS d)).num N.ok.s N.ok.t;rw[aE]at this;exact this
 have b5:Hid (∀x W V,Below w w V->Fr (gD gs[p].bm) V W->Calls aC.prog 14 #[.p gs[p].rb,.s o.s,.s o.t,bz x] W λe w'=>e=.r (.i (bL x))/\(∃C Y,cG w' gs[p].rb gs[p].num C Y (lS gs[p].K gs[p].num o.s o.t x))/\Fr (λk=>k=gs[p].rb) W w'):=λx W V hV hF=>by
  have:=Xa gs[p].rb gs[p].num gs[p].sv gs[p].l gs[p].K o.s o.t x W (((h.dx _ (IS d)).below hV).wu hF) (h.dx _ (IS d)).inv (h.dx _ (IS d)).num (ao _ (IS d)) N.ok.s N.ok.t;rw[aE]at this;exact this.mono λe w' ⟨q1,⟨C,Y,q2,_⟩,q3⟩=>⟨q1,⟨C,Y,q2⟩,q3⟩
 have b6:Hid (∀x V w5 w' C Y,Below w w V->aV w5 gs[p].b gs[p].bm gs[p].num (lS gs[p].K gs[p].num o.s o.t x)->Fr (gD gs[p].bm) V w5->cG w' gs[p].rb gs[p].num C Y (lS gs[p].K gs[p].num o.s o.t x)->Fr (λk=>k=gs[p].rb) w5 w'->ec U wb (.l g gs.length cap) (.slice B ls.length f) hv gs hs w w'):=λx V w5 w' C Y hV h1 h2 h3 h4=>ec.AK (h.BL p d _ (λq=>q.put N.mem) (SI (h.dx _ (IS d)).inv (h.dx _ (IS d)).num) hV h1 h2 h3 h4);have a6:∀n,n<64->gs[p].bm n<w.heap.size:=λn hn=>by
  obtain⟨es,c,hm⟩:=(h.dx _ (IS d)).kinds.2.1 n hn;exact(IN.1 hm).1
 have ar:Hid (∀k,w.heap.size<=k->¬gD gs[p].bm k):=λk u ⟨n,hn,e⟩=>by have:=a6 n hn;omega
 clear aE a6;rotate_left
 have aq:=zu (λW y=>DH wb _ _ hv gs hs o W (h.below y) h0 hlen ao N.ok.s N.ok.b1 N.ok.b2);obtain⟨bN,a7⟩: ∃bN:Ctx->Int,∀x,oC gs[p].K o.s x=bN x:=⟨_,λ_=>rfl⟩
 have b7:Hid (∀x W,Below w w W->Calls aC.prog 15 #[.p gs[p].b,.s o.s,bz x] W λe w'=>e=.r (.i (bN x))/\aV w' gs[p].b gs[p].bm gs[p].num (ly gs[p].K o.s x)/\Fr (gD gs[p].bm) W w'):=λx W y=>by
  have:=VQ gs[p].b gs[p].num gs[p].bm gs[p].K o.s x W ((h.dx _ (IS d)).rep.below y) (h.dx _ (IS d)).inv N.ok.s;rw[a7]at this;exact this
 have b8:Hid (∀x W V,Below w w V->Fr (gD gs[p].bm) V W->Calls aC.prog 16 #[.p gs[p].rb,.s o.s,bz x] W λe w'=>e=.r (.i (bN x))/\(∃C Y,cG w' gs[p].rb gs[p].num C Y (ly gs[p].K o.s x))/\Fr (λk=>k=gs[p].rb) W w'):=λx W V hV hF=>by
  have:=Pw gs[p].rb gs[p].num gs[p].sv gs[p].l gs[p].K o.s x W (((h.dx _ (IS d)).below hV).wu hF) (h.dx _ (IS d)).inv (ao _ (IS d)) N.ok.s;rw[a7]at this;exact this.mono λe w' ⟨q1,⟨C,Y,q2,_⟩,q3⟩=>⟨q1,⟨C,Y,q2⟩,q3⟩
 have b9:Hid (∀x V w5 w' C Y,Below w w V->aV w5 gs[p].b gs[p].bm gs[p].num (ly gs[p].K o.s x)->Fr (gD gs[p].bm) V w5->cG w' gs[p].rb gs[p].num C Y (ly gs[p].K o.s x)->Fr (λk=>k=gs[p].rb) w5 w'->ec U wb (.l g gs.length cap) (.slice B ls.length f) hv gs hs w w'):=λx V w5 w' C Y hV h1 h2 h3 h4=>ec.AK (h.BL p d _ (λq=>q.del N.mem) (OJ (h.dx _ (IS d)).inv) hV h1 h2 h3 h4);have a6:∀n,n<64->gs[p].bm n<w.heap.size:=λn hn=>by
  obtain⟨es,c,hm⟩:=(h.dx _ (IS d)).kinds.2.1 n hn;exact(IN.1 hm).1
 have ar:Hid (∀k,w.heap.size<=k->¬gD gs[p].bm k):=λk u ⟨n,hn,e⟩=>by have:=a6 n hn;omega
 clear a7 a6;rotate_left
 have eh:Hid (∀W,Below w w W->Calls aC.prog 17 #[.p wb,.agg #[.p gs[p].b,.p gs[p].rb],.agg (eV o)] W λe w'=>e=.r (.bool true)/\ec U wb (.l g gs.length cap) (.slice B ls.length f) hv gs hs w w'):=λW y=>
  (L4 wb _ (.slice B ls.length f) hv gs hs gs[p] o W (h.below y) (IS d) zo (ao _ (IS d)) N.ok.s N.ok.t).mono λe w' ⟨he,ei,ej,h1,h2,h3,h4⟩=>⟨he,(ec.held h1 h2 zo h3 h4).from y⟩
 rotate_left
 have bR:Hid (∀W,Below w w W->Calls aC.prog 18 #[.p wb,.agg #[.p gs[p].b,.p gs[p].rb]] W λe w'=>e=.r (.bool true)/\ec U wb (.l g gs.length cap) (.slice B ls.length f) hv gs hs w w'):=λW y=>
  (Tq wb _ (.slice B ls.length f) hv gs hs gs[p] W (h.below y) (IS d) zo (ao _ (IS d))).mono λe w' ⟨he,ei,ej,h1,h2,h3,h4⟩=>⟨he,(ec.held h1 h2 zo h3 h4).from y⟩
 rotate_left
 have db:=zu (λW y=>((h.dx _ (IS d)).below y).KY (S _ (IS d)) o.a W zj);have aA:=zu (λW y=>((h.dx _ (IS d)).below y).Xk (S _ (IS d)) o.a W zj);obtain⟨ha,hc,a8⟩: ∃sb se,sw gs[p].K o.a=.tuple #[.s sb,.i se]:=by
  unfold sw;split<;>exact⟨_,_,rfl⟩
 rw[a8]at db aA;clear a8;rotate_left
 have dd:=zu (λW y=>((h.dx _ (IS d)).below y).PD (S _ (IS d)) o.a o.b W zj);have df:=zu (λW y=>((h.dx _ (IS d)).below y).KU (S _ (IS d)) o.a o.b W zj);obtain⟨hd,hf,a8⟩: ∃sb se,rQ gs[p].K o.a o.b=.tuple #[.int .u64 sb,.i se]:=by
  unfold rQ;split<;>exact⟨_,_,rfl⟩
 rw[a8]at dd df;clear a8;rotate_left
 have ek:=zu (λW y=>((h.dx _ (IS d)).below y).Ma (S _ (IS d)) W zj);have en:=zu (λW y=>((h.dx _ (IS d)).below y).Va (S _ (IS d)) W zj);obtain⟨j0,eo,ep,er,et⟩:=aaY aC.vu;have eu:Hid (fO U (kK (ed gs[p].K 0 0))):=Zm _;have ey:=zu (oA bx h.blk zd);generalize kK (ed gs[p].K 0 0)=lt at*;rotate_left
 have HH:Hid (∀T,fO U T->∀W,Below w w W->Calls aC.prog 26 #[.p wb,.agg #[.p gs[p].b,.p gs[p].rb],.s T] W λe w'=>e=.r (.bool true)/\ec U wb (.l g gs.length cap) (.slice B ls.length f) hv gs hs w w'):=λT hT W y=>
  (Ip wb _ _ hv gs hs p d T W (h.below y) hT (hl _ (IS d)) O).mono λe w' ⟨he,h1⟩=>⟨he,h1.from y⟩
 have di:Hid (1<=ls.length->∀W,Calls aC.prog 25 #[.i o.a,.i ls.length] W λe w'=>e=.r (.i (lj o.a ls.length))/\w'=W):=λh1 W=>Ji o.a ls.length W N.ok.a1 N.ok.a2 zo zo;have dj:Hid (1<=ls.length->0<=lj o.a ls.length/\lj o.a ls.length<ls.length):=λh1=>ET o.a ls.length zo;rotate_left
 have HH:Hid (∀T,fO U T->∀W,Below w w W->Calls aC.prog 26 #[.p wb,.agg #[.p gs[p].b,.p gs[p].rb],.s T] W λe w'=>e=.r (.bool true)/\ec U wb (.l g gs.length cap) (.slice B ls.length f) hv gs hs w w'):=λT hT W y=>
  (Ip wb _ _ hv gs hs p d T W (h.below y) hT (hl _ (IS d)) O).mono λe w' ⟨he,h1⟩=>⟨he,h1.from y⟩
 have dk:=hid (HH.out o.s N.lt);clear HH;rotate_left
 rotate_left
 all_goals
  have H:Hid (∀W,Below w w W->ec U wb (.l g gs.length cap) (.slice B ls.length f) hv gs hs w W):=λW y=>ec.same h y;have dm:Hid (∀T∈ls,fO U T):=c9;have ca:Hid (∀W,Below w w W->dQ U W wb (.l g gs.length cap) (.slice B ls.length f) hv gs hs):=λW y=>h.below y;have dq:Hid (∀W,Below w w W->W.ownsRow 0 9 1 (.slice B ls.length f) ls.length (ls.map Value.string)):=λW y=>(Fr.cQ (X:=λ_=>False) y).fh bx λ_ _ _ h=>h;clear O bx c9 hl ao S N;generalize gs[p]=gp at*;generalize gp.b=pb at*;generalize gp.rb=Z at*;have i0:(0:Int)<=(p:Int):=zo;have i1:(p:Int)<(gs.length:Int):=zo;have n1:(0:Int)<(gs.length:Int):=zo;clear h aT P f0 f1;generalize gs.length=gl at*;have n2: ¬gl=0:=zo;have n3: ¬(gl:Int)=0:=zo;have n4:((gl:Int)==0)=false:=by simpa using n2
  have w1:IntKind.i64.wrap (q+(gl:Int))=q+gl:=wrap_small zo zo;have w2:IntKind.i64.wrap q=q:=wrap_small zo zo;have w3:IntKind.i64.wrap (p:Int)=p:=wrap_small zo zo;have eB:q%(gl:Int)=p:=by rw[<-bZ,Int.add_emod_right]
  obtain⟨kind,m,a,ob,s,t,c⟩:=o;have k1:(kind==1)=false:=aaQ.2 c8;have G:=hid u;clear u c8;simp only[eV] at*;go_enter aC.func9,aC.ntmps9;go_upto_region 4 with fail;obtain⟨W0,bb⟩: ∃W,W=w.alloc (.cells #[.i kind,.i m,.i a,.i ob,.s s,.s t,.i (c 0),.i (c 1),.i (c 2),.i (c 3)] 36):=⟨_,rfl⟩
  rw[<-bb];have bc:Hid (Below w w W0):=(by rw[bb];exact zj.alloc zf _)
  have z0:W0=w.heap.size+1:=by rw[bb];simp
  have cd:Hid (W0.heap[w.heap.size]?=.c #[.i kind,.i m,.i a,.i ob,.s s,.s t,.i (c 0),.i (c 1),.i (c 2),.i (c 3)] 36):=(by rw[bb];exact By w _)
  have y1:W0.cell? (.a w 1)=.i m:=(aH cd.out).1 1;have b0:=aX c0 bc.out;have b1:=aX p0 bc.out;have b2:=aX p1 bc.out;have aB:Hid (∀w',Below W0 W0 w'->w'.cell? (.a wb 0)=.l g gl cap/\w'.cell? (.a g (p*2))=.p pb/\w'.cell? (.a g (p*2+1))=.p Z/\w'.cell? (.a w 1)=.i m):=λw' hw=>⟨aX b0 hw,aX b1 hw,aX b2 hw,aX y1 hw⟩
  clear bb c0 p0 p1 b0 b1 b2 y1;go_region_held3 (λw'=>w'.cell? (.a wb 0)=.l g gl cap/\w'.cell? (.a g (p*2))=.p pb/\w'.cell? (.a g (p*2+1))=.p Z/\w'.cell? (.a w 1)=.i m)
   ((refine aB.out _ ?_;simp (maxDischargeDepth:=12) [aaP,aaR,aaU,abm];done))
   (fail)
  all_goals
   clear bB bZ eB w1 w2 w3 n4;try rw[z0]
   obtain⟨W2,bd⟩: ∃W,W=(W0.alloc (.cells #[.p pb,.p Z] 47)).drew:=⟨_,rfl⟩
   rw[<-bd];have D:Hid (Below w w W2):=(by rw[bd];exact(bc.out.alloc zo _).drew)
   have av:Hid (kp W2 w (w.heap.size+1) ⟨kind,m,a,ob,s,t,c⟩ pb Z):=(by
    rw[bd];refine⟨(aaO W0 _ _ zo).trans cd.out,?_⟩;rw[<-z0];exact By W0 _)
   have z2:W2=w.heap.size+2:=by rw[bd];simp;omega
   obtain⟨x0,x1,x2,x3,x4,x5,x6,x7,x8,x9,y0,y1⟩:=av.out.cells;clear bd aB z0 cd bc
 .have u:=G.out;have k2:=abt.2 u;clear u G;go_upto_region 8 with (first
   |(go_at_call 12;refine AI (aq.out _ D.out) ?_;rintro e w3 ⟨cx,rfl,j⟩))
  have z3:=j.size;obtain⟨W4,I⟩: ∃W,W=w3.alloc (.cells (.k cx) 34):=⟨_,rfl⟩
  rw[<-I];have F:Hid (Below w w W4):=(by rw[I];exact(D.out.trans (j.mono zo)).alloc zo _)
  have bn:Hid (kp W4 w (w.heap.size+1) ⟨kind,m,a,ob,s,t,c⟩ pb Z):=(by rw[I];exact(av.out.below j).below (zj.alloc zf _))
  have J:Hid (W4.heap[w3.heap.size]?=.c (.k cx) 34):=(by rw[I];exact By w3 _)
  clear I j x0 x1 x2 x3 x4 x5 x6 x7 x8 x9 y0 y1;obtain⟨x0,x1,x2,x3,x4,x5,x6,x7,x8,x9,y0,y1⟩:=bn.out.cells;have q0:=(aH J.out).1 0;have q1:=(aH J.out).1 1;have q2:=(aH J.out).1 2;have q3:=(aH J.out).1 3;go_upto_region 9 with (first
   |(go_at_call 13;refine AI (b4.out cx _ F.out) ?_;rintro e w5 ⟨rfl,L,Q⟩))
  have ay:Hid _:=L;have bo:Hid (Fr (gD _) W4 w5):=Q;have cj:=zu (bn.out.fr Q (ar.out _ zf) (ar.out _ zo));have R:=zu (Q.heap J.out (ar.out _ zo));clear L Q x0 x1 x2 x3 x4 x5 x6 x7 x8 x9 y0 y1 q0 q1 q2 q3;obtain⟨x0,x1,x2,x3,x4,x5,x6,x7,x8,x9,y0,y1⟩:=cj.out.cells;have q0:=(aH R.out).1 0;have q1:=(aH R.out).1 1;have q2:=(aH R.out).1 2;have q3:=(aH R.out).1 3;go_wp2_with (first
   |(go_at_call 14;refine AI (b5.out cx _ W4 F.out bo.out) ?_;rintro e w6 ⟨rfl,⟨C,Y,bp⟩,br⟩;have ck:Hid _:=bp;have aA:Hid _:=br;clear bp br))
  go_ret;exact⟨zp,b6.out cx W4 w5 w6 C Y F.out ay.out bo.out ck.out aA.out⟩
 .have u:=G.out;have k2:(kind==2)=false:=aaQ.2 zo;have k3:=abt.2 u;clear u G;go_upto_region 13 with (first
   |(go_at_call 12;refine AI (aq.out _ D.out) ?_;rintro e w3 ⟨cx,rfl,j⟩))
  have z3:=j.size;obtain⟨W4,I⟩: ∃W,W=w3.alloc (.cells (.k cx) 34):=⟨_,rfl⟩
  rw[<-I];have F:Hid (Below w w W4):=(by rw[I];exact(D.out.trans (j.mono zo)).alloc zo _)
  have bn:Hid (kp W4 w (w.heap.size+1) ⟨kind,m,a,ob,s,t,c⟩ pb Z):=(by rw[I];exact(av.out.below j).below (zj.alloc zf _))
  have J:Hid (W4.heap[w3.heap.size]?=.c (.k cx) 34):=(by rw[I];exact By w3 _)
  clear I j x0 x1 x2 x3 x4 x5 x6 x7 x8 x9 y0 y1;obtain⟨x0,x1,x2,x3,x4,x5,x6,x7,x8,x9,y0,y1⟩:=bn.out.cells;have q0:=(aH J.out).1 0;have q1:=(aH J.out).1 1;have q2:=(aH J.out).1 2;have q3:=(aH J.out).1 3;go_upto_region 14 with (first
   |(go_at_call 15;refine AI (b7.out cx _ F.out) ?_;rintro e w5 ⟨rfl,L,Q⟩))
  have ay:Hid _:=L;have bo:Hid (Fr (gD _) W4 w5):=Q;have cj:=zu (bn.out.fr Q (ar.out _ zf) (ar.out _ zo));have R:=zu (Q.heap J.out (ar.out _ zo));clear L Q x0 x1 x2 x3 x4 x5 x6 x7 x8 x9 y0 y1 q0 q1 q2 q3;obtain⟨x0,x1,x2,x3,x4,x5,x6,x7,x8,x9,y0,y1⟩:=cj.out.cells;have q0:=(aH R.out).1 0;have q1:=(aH R.out).1 1;have q2:=(aH R.out).1 2;have q3:=(aH R.out).1 3;go_wp2_with (first
   |(go_at_call 16;refine AI (b8.out cx _ W4 F.out bo.out) ?_;rintro e w6 ⟨rfl,⟨C,Y,bp⟩,br⟩;have ck:Hid _:=bp;have aA:Hid _:=br;clear bp br))
  go_ret;exact⟨zp,b9.out cx W4 w5 w6 C Y F.out ay.out bo.out ck.out aA.out⟩
 .have u:=G.out;have k2:(kind==2)=false:=aaQ.2 zo;have k3:(kind==3)=false:=aaQ.2 zo;have k4:=abt.2 u;clear u G;go_wp2_with (go_at_call 17;refine AI (eh.out _ D.out) ?_;rintro e w3 ⟨rfl,E⟩;have M:=hid E;clear E)
  go_ret;exact⟨rfl,M.out⟩
 .have u:=G.out;have k2:(kind==2)=false:=aaQ.2 zo;have k3:(kind==3)=false:=aaQ.2 zo;have k4:(kind==4)=false:=aaQ.2 zo;have k5:=abt.2 u;clear u G;go_wp2_with (go_at_call 18;refine AI (bR.out _ D.out) ?_;rintro e w3 ⟨rfl,E⟩;have M:=hid E;clear E)
  go_ret;exact⟨rfl,M.out⟩
 .have u:=G.out;have k2:(kind==2)=false:=aaQ.2 zo;have k3:(kind==3)=false:=aaQ.2 zo;have k4:(kind==4)=false:=aaQ.2 zo;have k5:(kind==5)=false:=aaQ.2 zo;have k6:=abt.2 u;clear u G;go_wp2_with (first
   |(go_at_call 19;refine AI (db.out _ D.out) ?_;rintro e w3 ⟨rfl,j⟩;have ab:=hid (bk D.out j);obtain⟨cl,cm,cn,cp,cq,cr,cv,cw,cA,cB,cI,cK⟩:=(av.out.below j).cells;clear j)
   |(go_at_call 20;refine AI (aA.out _ ab.out) ?_;rintro e w4 ⟨rfl,an⟩;have F:=hid (bk ab.out an);clear an))
  go_ret;exact⟨rfl,H.out _ F.out⟩
 .have u:=G.out;have k2:(kind==2)=false:=aaQ.2 zo;have k3:(kind==3)=false:=aaQ.2 zo;have k4:(kind==4)=false:=aaQ.2 zo;have k5:(kind==5)=false:=aaQ.2 zo;have k6:(kind==6)=false:=aaQ.2 zo;have k7:=abt.2 u;clear u G;go_wp2_with (first
   |(go_at_call 21;refine AI (dd.out _ D.out) ?_;rintro e w3 ⟨rfl,j⟩;have ab:=hid (bk D.out j);obtain⟨cl,cm,cn,cp,cq,cr,cv,cw,cA,cB,cI,cK⟩:=(av.out.below j).cells;clear j)
   |(go_at_call 22;refine AI (df.out _ ab.out) ?_;rintro e w4 ⟨rfl,an⟩;have F:=hid (bk ab.out an);clear an))
  go_ret;exact⟨rfl,H.out _ F.out⟩
 .have u:=G.out;have k2:(kind==2)=false:=aaQ.2 zo;have k3:(kind==3)=false:=aaQ.2 zo;have k4:(kind==4)=false:=aaQ.2 zo;have k5:(kind==5)=false:=aaQ.2 zo;have k6:(kind==6)=false:=aaQ.2 zo;have k7:(kind==7)=false:=aaQ.2 zo;have k8:=abt.2 u;clear u G;go_upto_region 31 with (first
   |(go_at_call 23;refine AI (ek.out _ D.out) ?_;rintro e w3 ⟨rfl,j⟩;have ab:=zu (bk D.out j);have eD:=zu (av.out.below j);obtain⟨cl,cm,cn,cp,cq,cr,cv,cw,cA,cB,cI,cK⟩:=eD.out.cells;clear j)
   |(go_at_call 24;refine AI (en.out _ ab.out) ?_;rintro e w4 ⟨rfl,an⟩;have F:=zu (bk ab.out an);clear an))
  have bT:=ca.out w4 F.out;have dt:Hid _:=dq.out w4 F.out;have eR:Hid _:=bT.blk;obtain⟨cb,fb⟩:=aH bT.blk;have l1:w4.cell? (.a wb 1)=some (.slice B ls.length f):=cb 1;have z4:=F.out.size;have eT:Hid (∀A,(w4.alloc A).heap[wb]?=.c #[.l g gl cap,.slice B ls.length f,hv] 30):=λA=>(aaO _ _ _ zo).trans eR.out;have du:Hid _:=bT;clear bT cb fb cl cm cn cp cq cr cv cw cA cB cI cK x0 x1 x2 x3 x4 x5 x6 x7 x8 x9 y0 y1;go_wp2_with (at_builtin;refine abq _ rfl _ _ _ rfl 0 9 j0 _ 1 16 aC.underlying27 eo ep er et rfl zo (.slice B ls.length f) _ _ rfl (aaV dt.out _) (.a w4 0) 1 1 [.s lt] rfl rfl (aaT (cs:=#[.s lt]) (t:=9) (fr:=(0,0)) (By w4 _)) zv zo ze zo (aaZ _) _ rfl ?_;intro gg fI w5 bs az b3 dC;have eX:=zu bs;have bR:Hid _:=az;have cN:=(bR.out.block wb zt ey.out).trans (eT.out _);obtain⟨c5,f5⟩:=aH cN;have hh:=c5 1;have hi:=f5 1;have fa:Hid _:=cN;have ff:Hid ((Value.slice B ls.length f).ownBlock=some gg\/gg=(w4.alloc (.cells #[.s lt] 9)).heap.size):=b3;clear bs az b3 dC cN c5 f5)
  go_ret;obtain⟨hj,q1,q2,q3,q4⟩:=I5 dm.out eu.out du.out zj dt.out bR.out eX.out fa.out ff.out;exact⟨rfl,(H.out w4 F.out).kept ⟨gs,du.out,rfl,λg hg=>⟨g,hg,rfl,rfl,id⟩,q1⟩ q2 q3 q4⟩
 .have u:=G.out;have k2:(kind==2)=false:=aaQ.2 zo;have k3:(kind==3)=false:=aaQ.2 zo;have k4:(kind==4)=false:=aaQ.2 zo;have k5:(kind==5)=false:=aaQ.2 zo;have k6:(kind==6)=false:=aaQ.2 zo;have k7:(kind==7)=false:=aaQ.2 zo;have k8:(kind==8)=false:=aaQ.2 zo;have k9:=abt.2 u;clear u G;have l1:W2.cell? (.a wb 1)=some (.slice B ls.length f):=(aH (ca.out W2 D.out).blk).1 1;by_cases hp:ls.length=0
  .have q0:((ls.length:Int)==0)=true:=abt.2 zo;go_wp2;go_ret;exact⟨rfl,H.out W2 D.out⟩
  .have q0:((ls.length:Int)==0)=false:=aaQ.2 zo;have cW:=di.out zo;have fl:=dj.out zo;obtain⟨pk,bB⟩: ∃pk:Nat,lj a ls.length=(pk:Int):=⟨(lj a ls.length).toNat,zo⟩
   rw[bB]at cW fl;have dW:=hid cW;clear di dj cW bB;go_upto_region 36 with fail;have aB:Hid (∀w',Below W2 W2 w'->w'.cell? (.a w 2)=.i a/\w'.cell? (.a wb 1)=some (.slice B ls.length f)):=λw' hw=>⟨aX x2 hw,aX l1 hw⟩
   have ea:Hid (∀W (n:Nat),n<ls.length->Below W2 W2 W->∃at_:Nat,at_<ls.length/\Value.int .i64 (n:Int)=.i at_/\Hid (Below w w W)/\Hid (kp W w (w.heap.size+1) ⟨kind,m,a,ob,s,t,c⟩ pb Z)):=λW n hn y=>⟨n,hn,rfl,bk D.out y,av.out.below y⟩
   clear x0 x1 x3 x4 x5 x6 x7 x8 x9 y0 y1 x2 l1;go_region_held3 (λw'=>w'.cell? (.a w 2)=.i a/\w'.cell? (.a wb 1)=some (.slice B ls.length f))
    ((refine aB.out _ ?_;simp (maxDischargeDepth:=12) [aaP,aaR];done))
    (first|(go_at_call 25;refine AI (dW.out _) ?_;rintro e w0 ⟨rfl,fo⟩;obtain rfl:=fo.symm))
   obtain⟨W3,cY⟩: ∃W,W=W2.drew:=⟨_,rfl⟩
   rw[<-cY];have j:Below W2 W2 W3:=by rw[cY];exact zj.drew
   obtain⟨x2,l1⟩:=aB.out W3 j;have c6:=hid λn hn=>ea.out W3 n hn j;clear cY aB ea j;go_upto_region 37 with fail;go_cut [207] from 200 to 207 (λz wx=>z=.bool (decide (a<0/\-4<a))/\wx=W3)
   case first=>
    by_cases c1:a<0
    .by_cases c2: -4<a
     .go_wp2;go_meet;exact⟨by rw[abJ zo],rfl⟩
     .go_wp2;go_meet;exact⟨by rw[abC zo],rfl⟩
    .go_wp2;go_meet;exact⟨by rw[abC zo],rfl⟩
   case rest=>
    obtain⟨rfl,hr⟩:=hcut;subst wc;generalize decide (a<0/\-4<a)=dv at*;go_upto_if 207 with fail;go_cut [23] from 208 to 215 (λv wx=>∃at_:Nat,at_<ls.length/\v=.i at_/\Hid (Below w w wx)/\Hid (kp wx w (w.heap.size+1) ⟨kind,m,a,ob,s,t,c⟩ pb Z))
    case first=>
     cases dv
     .go_wp2;go_meet;exact c6.out pk zo
     .have e1:((ls.length-1-pk:Nat):Int)=(ls.length:Int)-1-(pk:Int):=zo;have e2:=c6.out (ls.length-1-pk) zo;rw[e1]at e2;have fp:=hid e2;clear e2 c6;go_wp2;go_meet;exact fp.out
    case rest=>
     obtain⟨at_,eb,rfl,c7,fs⟩:=hcut;have l2:wc.cell? (.a wb 1)=some (.slice B ls.length f):=(aH (ca.out wc c7.out).blk).1 1;obtain⟨gL,fX,e,_,_,ht,cc⟩:=dU (dq.out w zj) zo;cases e;have pL:=aX (cc at_ (.s ls[at_]) zo (by simp[eb])) c7.out;have ft:=hid (HH.out ls[at_] (dm.out _ (IS eb)));clear x2 l1 cc;obtain⟨x0,x1,x2,x3,x4,x5,x6,x7,x8,x9,y0,y1⟩:=fs.out.cells;have i2:(0:Int)<=(at_:Int):=zo;have i3:(at_:Int)<(ls.length:Int):=zo;have fw:=hid c7.out.drew;generalize ls[at_]=Tl at*;clear x0 x1 x2 x3 x4 x5 x6 x7 x8 x9;go_upto_region 39 with fail;go_region_with (first|(go_at_call 26;refine AI (ft.out _ fw.out) ?_;rintro e w3 ⟨rfl,E⟩;have M:=hid E;clear E))
     all_goals
      go_wp2;go_ret;exact⟨rfl,M.out⟩
 .have u:=G.out;have k2:(kind==2)=false:=aaQ.2 zo;have k3:(kind==3)=false:=aaQ.2 zo;have k4:(kind==4)=false:=aaQ.2 zo;have k5:(kind==5)=false:=aaQ.2 zo;have k6:(kind==6)=false:=aaQ.2 zo;have k7:(kind==7)=false:=aaQ.2 zo;have k8:(kind==8)=false:=aaQ.2 zo;have k9:(kind==9)=false:=aaQ.2 zo;have fx:=abt.2 u;clear u G;go_wp2_with (go_at_call 26;refine AI (dk.out _ D.out) ?_;rintro e w3 ⟨rfl,E⟩;have M:=hid E;clear E)
  go_ret;exact⟨rfl,M.out⟩
 .have k2:=aaQ.2 G.out.1;have k3:=aaQ.2 G.out.2.1;have k4:=aaQ.2 G.out.2.2.1;have k5:=aaQ.2 G.out.2.2.2.1;have k6:=aaQ.2 G.out.2.2.2.2.1;have k7:=aaQ.2 G.out.2.2.2.2.2.1;have k8:=aaQ.2 G.out.2.2.2.2.2.2.1;have k9:=aaQ.2 G.out.2.2.2.2.2.2.2.1;have fx:=aaQ.2 G.out.2.2.2.2.2.2.2.2;clear G;go_wp2;go_ret;exact⟨rfl,H.out _ D.out⟩
theorem SL(B N:Nat)(wb:Nat)(pv le hv:ag)(gs:List PG)(hs:List Nat)(o:ef)(w:af)(h:gY U B N w wb pv le hv gs hs)(c:0<gs.length)(u:N<=900000)(k:mx U o)(d:U.length<=1300000)(v:o.kind<=10):
  Calls aC.prog 9 #[.p wb,.agg (eV o)] w λe w'=>e=.r (.bool true)/\∃f g i a j,gY U B (N+1) w' wb f g i a j/\0<a.length/\Below B w w':=by
 have m:=h.gl;have q:=h.hl;by_cases k1:o.kind=1
 .exact Qd B N wb pv le hv gs hs o w h c zo d k1
 .exact (VN wb pv le hv gs hs o w h.law c zo k k1 zo h.len λad n cap e=>by have:=h.ll ad n cap e;omega).mono λe w' ⟨s,t⟩=>⟨s,h.Xp t c⟩
end
end Go.Proofs.YtldmcdeibiclkaaGreatQ
