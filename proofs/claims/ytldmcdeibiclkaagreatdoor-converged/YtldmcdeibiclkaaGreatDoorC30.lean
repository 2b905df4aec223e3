/-
  The statement of Converged: the row, and its tied card: for every list of numbers the answer is true, and the list reads behind the call as it read before; the keys are laid by the program's own text; on every tape and in every order in which the goroutines run.
-/
import Derived.Test.YtldmcdeibiclkaaGreatDoorC26
import Derived.Test.YtldmcdeibiclkaaGreatDoorC27
import Derived.Test.YtldmcdeibiclkaaGreatDoorC29
import Derived.Test.YtldmcdeibiclkaaGreatDoorCards
import Derived.Test.YtldmcdeibiclkaaGreatDoorTie
import Derived.Test.YtldmcdeibiclkaaGreatDoorC15
import Derived.WalkKit
import Derived.ProofKit
import Derived.OpenShut
import Derived.LaidMore
import Derived.ChangeSlices
import Derived.Deep.DeepHandedRow
import Derived.Conc.Holds
set_option linter.unusedVariables false
set_option linter.unusedSimpArgs false
set_option maxRecDepth 100000
set_option maxHeartbeats 20000000
namespace Go.Proofs.YtldmcdeibiclkaaGreatDoorQ
variable {m i k t:Nat}{T:ByteArray}{ks:Nat->ByteArray}{g:ay}{K K':al}
open Go.RowKit
structure pP(ks:Nat->ByteArray)(w:World)(B:Nat)(b:Nat->Nat)(fin:Cv)(m i k n t:Nat)(oL:Option Let)(g:ay)(W:World):Prop where
 jS:o6 W g
 inv:bS ks g
 nr:g.nr=2
 dr:∀i j n m,i<2->j<2->n<64->m<64->g.bm i n=g.bm j m->i=j
 hB:∀i n,i<2->n<64->B<=g.bm i n
 hb:g.b=b
 ik:i<2/\k<2
 letter:∀L,oL=some L->lL (g.K k) L/\tS L=n/\n+m=10
 run:gW ks m ⟨g.ab,oL,i,k,n,t⟩=fin
 bj:Below B w W
theorem zQ{w W:World}{B n:Nat}{b:Nat->Nat}{fin:Cv}{L:Let}(h:pP ks w B b fin (m+1) i k n t (some L) g W)(hT:L.bytes=T)(hBW:B<=W.heap.size):
  Calls aa.prog 18 #[.pointer (some ⟨b i,0,none⟩),.string T] W λe w4=>e=.returned (.tuple #[.string (fK (bW (g.K i) L)),.int .i64 0])/\pP ks w B b fin m k i (if (bW (g.K i) L).isSome then n+1 else n) (touT t (bW (g.K i) L)) (bW (g.K i) L) (g.fG ks i k L g.A) w4/\B<=w4.heap.size:=by
 obtain⟨hL,hst,hmn⟩:=h.letter L rfl;have hi:i<g.nr:=by rw[h.nr];exact h.ik.1
 have hk:k<g.nr:=by rw[h.nr];exact h.ik.2
 rw[<-hT,<-h.hb];have hok:=oV h.jS h.inv hk hL;refine (Od (g.b i) i (g.bm i) (g.K i) L W (QQ h.jS h.inv hi hk hL)).mono ?_;rintro e w4 ⟨rfl,hr,hf⟩;have hf':Fr (kN (g.bm i)) W w4:=hf.weaken λq hq=>hq.1;refine⟨rfl,⟨λj hj=>?_,h.inv.fG g.A hi hk (h.jS k hk).j7 hL hok,h.nr,h.dr,h.hB,rfl,⟨h.ik.2,h.ik.1⟩,λL' hL'=>?_,?_,h.bj.trans (hf'.toBelow (λq ⟨n,hn,e⟩=>by rw[e];exact h.hB i n h.ik.1 hn) hBW)⟩,Nat.le_trans hBW hf'.size⟩
 ·simp only[ay.fG];have hj2:j<2:=by have:j<g.nr:=hj;rw[h.nr]at this;exact this
  by_cases e:j=i
  ·subst e;rw[if_pos rfl];exact hr
  ·rw[if_neg e];have hjr:=h.jS j (by rw[h.nr];exact hj2);have hnc:∀{q:Nat} {C:Array Value} {t:TypeId} {fr:Nat×Nat},W.heap[q]?=some (.cells C t fr)->¬kN (g.bm i) q:=λ{q C t fr} hq ⟨n,hn,e⟩=>by
    obtain⟨es,clock,he,_⟩:=(h.jS i hi).2.1 n hn;rw[e,he]at hq;cases hq
   refine hf'.rep hjr ?_ (λn hn ⟨q,hq,he⟩=>e (h.dr j i n q hj2 h.ik.1 hn hq he)) λq cur hq=>hnc hq;obtain⟨⟨C,hC,_⟩,_⟩:=hjr;exact hnc hC
 ·obtain⟨h1,h2⟩:=Ku hok hL';rw[hL'];simp only[Option.isSome_some,if_true];refine⟨?_,by rw[h2,hst],by omega⟩;simpa[ay.fG] using h1
 ·rw[<-h.run,ni];rfl
def sn:Value->Value->Nat
 |.string s,.int _ n=>if s.size=0 then 0 else 11-n.toNat
 |_,_=>0
theorem Ue(v:Value):sn (.string ⟨#[]⟩) v=0:=by cases v<;>rfl
theorem qh(h: ¬T.size=0)(k:IntKind)(n:Int):sn (.string T) (.int k n)=11-n.toNat:=by simp[sn,h]
def ru(B:Nat)(w:World)(bt bx n cap:Nat)(ad:Option Addr)(ks:Nat->ByteArray)(W:World):Prop:=
 (∃g,g.nr=2/\bk B W bt g/\bS ks g)/\(∃at2,bY W bx ad n cap at2)/\Below B w W
theorem xx(h:0<T.size):T.toList.isEmpty=false:=by
 rw[Go.Lib.toList_data,List.isEmpty_eq_false_iff];intro e;have:T.data.toList.length=0:=by rw[e];rfl
 rw[Array.length_toList]at this;have h':T.data.size=T.size:=rfl;omega
theorem Lg{x y:ByteArray}(h:x.toList=y.toList):x=y:=by
 rw[Go.Lib.toList_data,Go.Lib.toList_data]at h;exact ByteArray.ext (Array.toList_inj.1 h)
noncomputable def fq(K K':al)(m:Nat):Nat:=cg (λn=>decide (aB K n≠aB K' n)) m
theorem FL(K K':al)(m:Nat):fq K K' m<=m:=yy _ m
theorem Bh(h:aB K m≠aB K' m):fq K K' (m+1)=fq K K' m+1:=by simp[fq,cg,h]
theorem M8(h:aB K m=aB K' m):fq K K' (m+1)=fq K K' m:=by simp[fq,cg,h]
theorem Mc{g1:ay}(hT:iE (g.K 0) (g.K 1))(hI1:bS ks g1)(h2:g1.nr=2)(hN1:jh (g.K 1))(hN0:jh (g1.K 0)){oL:Option Let}{n:Nat}(hf:(⟨g1.ab,oL,i,k,n,t⟩:Cv)=gW ks 9 ⟨g.ab,some (.root (aM (g.K 1) 0 0)),0,1,1,0⟩):
  (∀n,n<64->aB (g1.K 0) n=aB (g1.K 1) n)/\t=fq (g.K 0) (g.K 1) 64/\n=if 0<fq (g.K 0) (g.K 1) 64 then 6 else 1:=by
 have hD:fq (g.K 0) (g.K 1) 64=(aQ (g.K 0) (g.K 1) 3).length:=Sx hT _ λn _=>by simp
 by_cases h:dz (g.K 0) (g.K 1) 0 0
 ·have e:=hf.trans (SI (ks:=ks) (s:=g.ab) hT h);have hne:∀lv,lv<=3->aQ (g.K 0) (g.K 1) lv≠[]:=λlv hl=>by
   induction lv with
   |zero=>rw[zd h];simp
   |succ lv ih=>exact zS (by omega) (ih (by omega))
  have hl:0<(aQ (g.K 0) (g.K 1) 3).length:=List.length_pos_iff.2 (hne 3 (by omega));refine⟨Sk hI1 h2 hT hN1 hN0 (congrArg Cv.s e),?_,?_⟩
  ·rw[hD];exact congrArg Cv.told e
  ·rw[hD,if_pos hl];exact congrArg Cv.aW e
 ·have e:=hf.trans (QC (ks:=ks) (s:=g.ab) h);have e0:=FP hT h 3 (by omega);have eK:g1.K=g.K:=congrArg Ab.K (congrArg Cv.s e:g1.ab=g.ab);refine⟨λn hn=>?_,?_,?_⟩
  ·rw[eK];refine Classical.byContradiction λhne=>?_;have:cg (λn=>decide (aB (g.K 0) n≠aB (g.K 1) n)) 64=0:=by rw[show cg _ 64=_ from hD,e0];rfl
   have key:∀m,n<m->0<fq (g.K 0) (g.K 1) m:=λm=>by
    induction m with
    |zero=>omega
    |succ m ih=>
     intro hm;by_cases e:n=m
     ·subst e;rw[Bh hne];omega
     ·have:=ih (by omega);simp only[fq,cg]at this ⊢;omega
   have:=key 64 hn;rw[hD,e0]at this;simp at this
  ·rw[hD,e0];exact congrArg Cv.told e
  ·rw[hD,e0];exact congrArg Cv.aW e
theorem Ry(ad:Option Addr)(n cap:Nat)(ks:Nat->ByteArray)(w:World)(hK:eY w ks)(hC:nu w ad n)(hn:n<=9223372036854775807)(hnb:0<n->∀b off,ad=some ⟨b,off,none⟩->b<w.heap.size)(h0:0<w.heap.size):
  Calls aa.prog 5 #[.slice ad n cap] w λe w'=>e=.returned (.bool true)/\Below w.heap.size w w':=by
 have ha:Below w.heap.size w (w.alloc (.cells #[.slice ad n cap,.int .i64 0] 25)):=(Below.refl _ _).alloc (Nat.le_refl _) _;have hD:bY (w.alloc (.cells #[.slice ad n cap,.int .i64 0] 25)) w.heap.size ad n cap 0:=⟨heap_alloc_new w _,Nat.zero_le _,hn,hC.dH ha⟩
 have HBeg:Hid (Calls aa.prog 7 #[.int .i64 2] (w.alloc (.cells #[.slice ad n cap,.int .i64 0] 25)) λe w'=>∃bt,e=.returned (.pointer (some ⟨bt,0,none⟩))/\ru w.heap.size w bt w.heap.size n cap ad ks w'):=by
  refine (RG (w.heap.size+1) 2 ks (w.alloc (.cells #[.slice ad n cap,.int .i64 0] 25)) (by omega) (by omega) (by simp)).mono ?_;rintro e w' ⟨bt,g,rfl,h1,h2,h3,h4⟩;have h4':Below (w.alloc (.cells #[.slice ad n cap,.int .i64 0] 25)).heap.size (w.alloc (.cells #[.slice ad n cap,.int .i64 0] 25)) w':=by simpa using h4
  exact⟨bt,rfl,⟨g,h1,h2.base (by omega),h3⟩,⟨0,hD.dH h4'⟩,ha.trans (h4'.mono (by simp))⟩
 have HKA:Hid (eY w ks):=hK;clear hD hK hC ha;go_enter aa.func5,aa.ntmps5;go_wp2_with (go_at_call 7;refine Calls.mono HBeg.out ?_;rintro e w2 ⟨bt,rfl,hd⟩;have HS:Hid (ru w.heap.size w bt w.heap.size n cap ad ks w2):=hd;clear hd HBeg)
 go_loopw [5] (λiv wr=>∃i:Nat,i<=100/\iv=.int .i64 i/\Hid (ru w.heap.size w bt w.heap.size n cap ad ks wr)) (λiv _=>100-(intOf iv).toNat)
 case atStart=>exact⟨0,by omega,rfl,HS.out⟩
 case round=>
  obtain⟨i,hi,rfl,HNd⟩:=hrel;clear HS;obtain⟨⟨g,cC,hN,hI⟩,⟨at2,hD⟩,hb⟩:=HNd.out;have HLoc:Hid (∀W,Below wr.heap.size wr W->Calls aa.prog 8 #[.pointer (some ⟨bt,0,none⟩),.pointer (some ⟨w.heap.size,0,none⟩)] W λe w'=>e=.returned (.bool true)/\ru w.heap.size w bt w.heap.size n cap ad ks w'):=λW hW=>by
   refine (Jt w.heap.size bt w.heap.size n cap at2 ad g ks W (hN.below hW) hI (HKA.out.dH (bf hb hW)) (hD.dH hW) hnb (Nat.le_refl _) h0).mono ?_;rintro e w' ⟨rfl,h1,g',h5,h2,h3,h4⟩;exact⟨rfl,⟨g',h5.trans cC,h2,h3⟩,h4,(bf hb hW).trans h1⟩
  obtain⟨c,f⟩:=au hD.1;have c0: ‹World›.cell? ⟨w.heap.size,0,none⟩=some (.slice ad n cap):=c 0;have c1: ‹World›.cell? ⟨w.heap.size,1,none⟩=some (.int .i64 at2):=c 1;clear c f;by_cases hgo:i<100/\at2<n
  ·have i1:(i:Int)<100:=by omega
   have a1:(at2:Int)<(n:Int):=by omega
   have hd1:decide ((at2:Int)<(n:Int))=true:=by simpa using hgo.2
   clear hgo hb hN hI hD cC HNd;go_wp2;go_quiet (fail);go_wp2_with (go_at_call 8;refine Calls.mono (HLoc.out _ (below_drewN (Below.refl _ _) _)) ?_;rintro e w4 ⟨rfl,hn4⟩;have HN4:Hid (ru w.heap.size w bt w.heap.size n cap ad ks w4):=hn4;clear hn4)
   exact⟨⟨i+1,by omega,by go_num,HN4.out⟩,by simp[intOf];omega⟩
  ·obtain⟨Wo,hWo⟩: ∃W,W=wr:=⟨_,rfl⟩
   subst hWo;have HR:Hid (∀W,Below Wo.heap.size Wo W->pP ks w w.heap.size g.b (gW ks 9 ⟨g.ab,some (.root (aM (g.K 1) 0 0)),0,1,1,0⟩) 9 0 1 1 0 (some (.root (aM (g.K 1) 0 0))) g W):=λW hW=>
    ⟨λi hi=>(hN.ct i hi).below hW,hI,cC,λi j n m hi hj=>hN.fe i j n m (by omega) (by omega),λi n hi=>hN.hB.2 i n (by omega),rfl,by omega,λL hL=>by cases hL;exact⟨zf _ _ _,rfl,rfl⟩,rfl,bf hb hW⟩
   have HBw:Hid (w.heap.size<=Wo.heap.size):=hb.size;have t0:Wo.cell? ⟨bt,0,none⟩=some (.slice (some ⟨g.br,0,none⟩) 2 g.cT):=by rw[(au hN.hT).1,hN.h0,cC]
   have t1:Wo.cell? ⟨g.br,0,none⟩=some (.pointer (some ⟨g.b 0,0,none⟩)):=by rw[(au hN.hR).1];exact hN.iQ 0 (by omega)
   have t2:Wo.cell? ⟨g.br,1,none⟩=some (.pointer (some ⟨g.b 1,0,none⟩)):=by rw[(au hN.hR).1];exact hN.iQ 1 (by omega)
   have HTwo:Hid (∀W,Below Wo.heap.size Wo W->nM W (g.b 0) 0 (g.bm 0) (g.K 0) (g.b 1) 1 (g.bm 1) (g.K 1)):=λW hW=>
    have hr:=(HR.out W hW).jS
    ⟨hr 0 (by omega),nX hr hI (by omega),hr 1 (by omega),nX hr hI (by omega)⟩
   have HSe0:Hid (∀n:Nat,n<64->∀W,Below Wo.heap.size Wo W->Calls aa.prog 11 #[.pointer (some ⟨g.b 0,0,none⟩),.int .i64 n] W λe w'=>e=.returned (.tuple #[.string (aB (g.K 0) n),.int .i64 0])/\Below Wo.heap.size Wo w'):=λn hn W hW=>
    (uB (HTwo.out W hW).r1 (HTwo.out W hW).f1 hn).mono λe w' ⟨he,hb⟩=>⟨he,bf hW hb⟩
   have HSe1:Hid (∀n:Nat,n<64->∀W,Below Wo.heap.size Wo W->Calls aa.prog 11 #[.pointer (some ⟨g.b 1,0,none⟩),.int .i64 n] W λe w'=>e=.returned (.tuple #[.string (aB (g.K 1) n),.int .i64 0])/\Below Wo.heap.size Wo w'):=λn hn W hW=>
    (uB (HTwo.out W hW).r2 (HTwo.out W hW).f2 hn).mono λe w' ⟨he,hb⟩=>⟨he,bf hW hb⟩
   have HTw:Hid (∀W,Below Wo.heap.size Wo W->Calls aa.prog 17 #[.pointer (some ⟨g.b 0,0,none⟩),.pointer (some ⟨g.b 1,0,none⟩)] W λe w'=>∃f:Bool,e=.returned (.bool f)/\(f=false->iE (g.K 0) (g.K 1))/\Below Wo.heap.size Wo w'):=λW hW=>
    (GP _ _ _ _ _ _ _ _ W (HTwo.out W hW)).mono λe w' ⟨f,he,hf,hb⟩=>⟨f,he,hf,bf hW hb⟩
   have HHel:Hid (∀W,Below Wo.heap.size Wo W->Calls aa.prog 12 #[.pointer (some ⟨g.b 1,0,none⟩)] W λe w'=>e=.returned (.string (fK (some (.root (aM (g.K 1) 0 0)))))/\Below Wo.heap.size Wo w'):=λW hW=>by
    have hr:=(HTwo.out W hW).r2
    have:=D3 (g.b 1) 1 (g.bm 1) (g.K 1) W hr (HTwo.out W hW).f2;rw[hr.qC (by omega) (by decide)]at this;exact this.mono λe w' ⟨he,hb⟩=>⟨he,bf hW hb⟩
   have HHas:Hid (jh (g.K 1)):=(HTwo.out Wo (Below.refl _ _)).r2.j7;clear hb hN hI hD cC HNd HLoc HTwo;have hgd:((i:Int)<100/\decide ((at2:Int)<(n:Int))=false)\/decide ((i:Int)<100)=false:=by
    by_cases h1:(i:Int)<100
    ·exact .inl ⟨h1,by simp;omega⟩
    ·exact .inr (by simpa using h1)
   clear hgo;rcases hgd with⟨i1,hd1⟩|hd0
   all_goals
    go_wp2;go_quiet (fail);go_wp2
   all_goals try (exfalso;simp at hd1;omega)
   all_goals try clear i1 hd1
   all_goals try clear hd0
   all_goals try (rename (¬at2<n)=>hq;clear hq)
   all_goals
    go_quiet (fail);go_wp2;clear t0 t1 t2 c0 c1;go_loopw [9,10] (λdv nv wr=>∃n:Nat,n<=64/\dv=.int .i64 (fq (g.K 0) (g.K 1) n)/\nv=.int .i64 n/\Hid (Below Wo.heap.size Wo wr)) (λ_ nv _=>64-(intOf nv).toNat)
    case atStart=>exact⟨0,by omega,rfl,rfl,below_drewN (below_drewN (Below.refl _ _) _) _⟩
    case round=>
     obtain⟨n1,hn1,rfl,rfl,HB⟩:=hrel;by_cases hlt:n1<64
     ·have n1':(n1:Int)<64:=by omega
      have hle:=FL (g.K 0) (g.K 1) n1;have HNe:Hid (aB (g.K 0) n1≠aB (g.K 1) n1->fq (g.K 0) (g.K 1) (n1+1)=fq (g.K 0) (g.K 1) n1+1):=Bh;have HEq:Hid (aB (g.K 0) n1=aB (g.K 1) n1->fq (g.K 0) (g.K 1) (n1+1)=fq (g.K 0) (g.K 1) n1):=M8;have S1:Hid _:=HSe0.out n1 hlt;have S2:Hid _:=HSe1.out n1 hlt;generalize fq (g.K 0) (g.K 1) n1=d1 at*;have hd64:(d1:Int)<=64:=by omega
      clear HSe0 HSe1 HTw HHel HHas HR;generalize aB (g.K 0) n1=x1 at*;generalize aB (g.K 1) n1=x2 at*;go_upto_region 18 with (first
       |(go_at_call_of 11 (Value.pointer (some ⟨g.b 0,0,none⟩));refine Calls.mono (S1.out _ HB.out) ?_;rintro e w5 ⟨rfl,hb5⟩;have HB5:Hid (Below Wo.heap.size Wo w5):=hb5;clear hb5)
       |(go_at_call_of 11 (Value.pointer (some ⟨g.b 1,0,none⟩));refine Calls.mono (S2.out _ HB5.out) ?_;rintro e w6 ⟨rfl,hb6⟩;have HB6:Hid (Below Wo.heap.size Wo w6):=hb6;clear hb6))
      go_wp2
      ·rename_i hx;exact⟨⟨n1+1,by omega,by rw[HNe.out (by rintro rfl;simp at hx)];go_num,by go_num,HB6.out⟩,by simp[intOf];omega⟩
      ·rename_i hx;exact⟨⟨n1+1,by omega,by rw[HEq.out (Lg (by simpa using hx))],by go_num,HB6.out⟩,by simp[intOf];omega⟩
     ·obtain rfl:n1=64:=by omega
      clear HSe0 HSe1;have hD64:=FL (g.K 0) (g.K 1) 64;generalize hDD:fq (g.K 0) (g.K 1) 64=D at*;have HDD:Hid (fq (g.K 0) (g.K 1) 64=D):=hDD;clear hDD;go_wp2_with (first
       |(go_at_call 17;refine Calls.mono (HTw.out _ HB.out) ?_;rintro e w5 ⟨f,rfl,hf5,hb5⟩;have HB5:Hid (Below Wo.heap.size Wo w5):=hb5;have HF5:Hid (f=false->iE (g.K 0) (g.K 1)):=hf5;clear hb5 hf5)
       |(go_at_call 12;refine Calls.mono (HHel.out _ HB5.out) ?_;rintro e w6 ⟨rfl,hb6⟩;have HJ6:Hid _:=HR.out _ hb6;have HB6:Hid (Below Wo.heap.size Wo w6):=hb6;clear hb6))
      clear HTw HHel;go_loopw [16,17,18,19,20] (λlv fv sv nv tv wr=>∃(m i k n t:Nat) (oL:Option Let) (g1:ay),lv=.string (fK oL)/\fv=.pointer (some ⟨g.b i,0,none⟩)/\sv=.pointer (some ⟨g.b k,0,none⟩)/\nv=.int .i64 n/\tv=.int .i64 t/\n<=10/\Hid (pP ks w w.heap.size g.b (gW ks 9 ⟨g.ab,some (.root (aM (g.K 1) 0 0)),0,1,1,0⟩) m i k n t oL g1 wr)) (λlv _ _ nv _ _=>sn lv nv)
      case atStart=>exact⟨9,0,1,1,0,_,g,rfl,rfl,rfl,rfl,rfl,by omega,HJ6.out⟩
      case round=>
       obtain⟨m,i1,k1,n2,t1,oL,g1,rfl,rfl,rfl,rfl,rfl,hn10,HJ⟩:=hrel;clear HJ6 HR;have hi2:=HJ.out.ik;have hnr2:=HJ.out.nr;cases hmo:decide (oL=none\/m=0) with
       |true=>
        have hmo':oL=none\/m=0:=by simpa using hmo
        clear hmo;have hrun:gW ks m ⟨g1.ab,oL,i1,k1,n2,t1⟩=⟨g1.ab,oL,i1,k1,n2,t1⟩:=by
         rcases hmo' with rfl|rfl
         ·exact yV ..
         ·rfl
        have HFin:Hid (iE (g.K 0) (g.K 1)->(∀n,n<64->aB (g1.K 0) n=aB (g1.K 1) n)/\t1=D/\n2=if 0<D then 6 else 1):=λhT=>by
         have:=Mc hT HJ.out.inv hnr2 HHas.out (HJ.out.jS 0 (by omega)).j7 (hrun.symm.trans HJ.out.run);rw[HDD.out]at this;exact this
        have hb1:g1.b=g.b:=HJ.out.hb;have HB1:Hid (∀W,Below wr.heap.size wr W->pP ks w w.heap.size g.b (gW ks 9 ⟨g1.ab,some (.root (aM (g1.K 1) 0 0)),0,1,1,0⟩) 9 0 1 1 0 (some (.root (aM (g1.K 1) 0 0))) g1 W):=λW hW=>
         ⟨λi hi=>(HJ.out.jS i hi).below hW,HJ.out.inv,hnr2,HJ.out.dr,HJ.out.hB,hb1,by omega,λL hL=>by cases hL;exact⟨zf _ _ _,rfl,rfl⟩,rfl,bf HJ.out.bj hW⟩
        have HTwo:Hid (∀W,Below wr.heap.size wr W->nM W (g.b 0) 0 (g1.bm 0) (g1.K 0) (g.b 1) 1 (g1.bm 1) (g1.K 1)):=λW hW=>by
         have hr:=(HB1.out W hW).jS;rw[<-hb1];exact⟨hr 0 (by omega),nX hr HJ.out.inv (by omega),hr 1 (by omega),nX hr HJ.out.inv (by omega)⟩
        have HAl:Hid (∀W,Below wr.heap.size wr W->Calls aa.prog 19 #[.pointer (some ⟨g.b 0,0,none⟩),.pointer (some ⟨g.b 1,0,none⟩)] W λe w'=>∃f:Bool,e=.returned (.bool f)/\((∀n,n<64->aB (g1.K 0) n=aB (g1.K 1) n)->f=true)/\Below wr.heap.size wr w'):=λW hW=>
         (SV _ _ _ _ _ _ _ _ W (HTwo.out W hW)).mono λe w' ⟨f,he,hf,hb⟩=>⟨f,he,hf,bf hW hb⟩
        obtain⟨T2,hT2⟩: ∃T,(Let.root (aM (g1.K 1) 0 0)).bytes=T:=⟨_,rfl⟩
        have HHe:Hid (∀W,Below wr.heap.size wr W->Calls aa.prog 12 #[.pointer (some ⟨g.b 1,0,none⟩)] W λe w'=>e=.returned (.string T2)/\Below wr.heap.size wr w'):=λW hW=>by
         have hr:=(HTwo.out W hW).r2
         have:=D3 (g.b 1) 1 (g1.bm 1) (g1.K 1) W hr (HTwo.out W hW).f2;rw[hr.qC (by omega) (by decide)]at this;rw[<-hT2];exact this.mono λe w' ⟨he,hb⟩=>⟨he,bf hW hb⟩
        have HHr:Hid (∀W,Below wr.heap.size wr W->Calls aa.prog 18 #[.pointer (some ⟨g.b 0,0,none⟩),.string T2] W λe w'=>e=.returned (.tuple #[.string (fK (bW (g1.K 0) (.root (aM (g1.K 1) 0 0)))),.int .i64 0])/\Below w.heap.size w w'):=λW hW=>
         (zQ (HB1.out W hW) hT2 (Nat.le_trans HJ.out.bj.size hW.size)).mono λe w' ⟨he,h1,h2⟩=>⟨he,h1.bj⟩
        have HAn:Hid ((∀n,n<64->aB (g1.K 0) n=aB (g1.K 1) n)->fK (bW (g1.K 0) (.root (aM (g1.K 1) 0 0)))=⟨#[]⟩):=λh=>by
         have e:bW (g1.K 0) (.root (aM (g1.K 1) 0 0))=none:=by
          simp only[bW];rw[if_pos];exact (Classical.byContradiction λq=>TM h λe=>q e.symm)
         rw[e];rfl
        have hgd:(fK oL).toList.isEmpty=true\/((fK oL).toList.isEmpty=false/\¬(n2:Int)<10):=by
         cases oL with
         |none=>exact .inl (by rw[Go.Lib.toList_data];rfl)
         |some L=>
          obtain⟨hL,hst,hmn⟩:=HJ.out.letter L rfl;have hok:=oV HJ.out.jS HJ.out.inv (show k1<g1.nr by omega) hL;refine .inr ⟨xx (vQ hok rfl).1,?_⟩;rcases hmo' with h|h
          ·cases h
          ·omega
        clear HJ hrun hmo' HB1 HTwo hT2 HHas HDD hb1;generalize fK (bW (g1.K 0) (.root (aM (g1.K 1) 0 0)))=T3 at*;generalize fK oL=T1 at*;generalize hPr:(∀n,n<64->aB (g1.K 0) n=aB (g1.K 1) n)=Pr at*;clear hPr;cases f with
        |true=>
         clear HFin HAn;rcases hgd with hg1|⟨hg1,hg2⟩
         all_goals
          go_wp2_with (first
           |(go_at_call 19;refine Calls.mono (HAl.out _ (Below.refl _ _)) ?_;rintro e w7 ⟨f7,rfl,hf7,hb7⟩;have HB7:Hid (Below wr.heap.size wr w7):=hb7;clear hb7 hf7)
           |(go_at_call 12;refine Calls.mono (HHe.out _ HB7.out) ?_;rintro e w8 ⟨rfl,hb8⟩;have HB8:Hid (Below wr.heap.size wr w8):=hb8;clear hb8)
           |(go_at_call 18;refine Calls.mono (HHr.out _ HB8.out) ?_;rintro e w9 ⟨rfl,hb9⟩;have HB9:Hid (Below w.heap.size w w9):=hb9;clear hb9))
          go_ret;exact⟨rfl,HB9.out⟩
        |false=>
         obtain⟨hp,rfl,hn2⟩:=HFin.out (HF5.out rfl);have hT3:=HAn.out hp;subst hT3;have HPr:Hid Pr:=hp;clear hp HFin HAn hn10;by_cases hD0:0<t1
         ·rw[if_pos hD0]at hn2;subst hn2;have hD1:(0:Int)<(t1:Int):=by omega
          rcases hgd with hg1|⟨hg1,hg2⟩
          ·go_wp2_with (first
            |(go_at_call 19;refine Calls.mono (HAl.out _ (Below.refl _ _)) ?_;rintro e w7 ⟨f7,rfl,hf7,hb7⟩;obtain rfl:=hf7 HPr.out;have HB7:Hid (Below wr.heap.size wr w7):=hb7;clear hb7 hf7)
            |(go_at_call 12;refine Calls.mono (HHe.out _ HB7.out) ?_;rintro e w8 ⟨rfl,hb8⟩;have HB8:Hid (Below wr.heap.size wr w8):=hb8;clear hb8)
            |(go_at_call 18;refine Calls.mono (HHr.out _ HB8.out) ?_;rintro e w9 ⟨rfl,hb9⟩;have HB9:Hid (Below w.heap.size w w9):=hb9;clear hb9))
           go_ret;exact⟨rfl,HB9.out⟩
          ·exact absurd (by omega) hg2
         ·rw[if_neg hD0]at hn2;subst hn2;obtain rfl:t1=0:=by omega
          rcases hgd with hg1|⟨hg1,hg2⟩
          ·go_wp2_with (first
            |(go_at_call 19;refine Calls.mono (HAl.out _ (Below.refl _ _)) ?_;rintro e w7 ⟨f7,rfl,hf7,hb7⟩;obtain rfl:=hf7 HPr.out;have HB7:Hid (Below wr.heap.size wr w7):=hb7;clear hb7 hf7)
            |(go_at_call 12;refine Calls.mono (HHe.out _ HB7.out) ?_;rintro e w8 ⟨rfl,hb8⟩;have HB8:Hid (Below wr.heap.size wr w8):=hb8;clear hb8)
            |(go_at_call 18;refine Calls.mono (HHr.out _ HB8.out) ?_;rintro e w9 ⟨rfl,hb9⟩;have HB9:Hid (Below w.heap.size w w9):=hb9;clear hb9))
           go_ret;exact⟨rfl,HB9.out⟩
          ·exact absurd (by omega) hg2
       |false=>
        have hmo': ¬(oL=none\/m=0):=by simpa using hmo
        clear hmo HHas HDD HF5;cases oL with
        |none=>exact absurd (.inl rfl) hmo'
        |some L=>
        cases m with
        |zero=>exact absurd (.inr rfl) hmo'
        |succ m=>
        obtain⟨hL,hst,hmn⟩:=HJ.out.letter L rfl;have hok:=oV HJ.out.jS HJ.out.inv (show k1<g1.nr by omega) hL;obtain⟨T,hT⟩: ∃T,L.bytes=T:=⟨_,rfl⟩
        have eo:fK (some L)=T:=hT;rw[eo];have hT0:=(vQ hok hT).1;have hTe:=xx hT0;have hTs: ¬T.size=0:=by omega
        have hlt2:(n2:Int)<10:=by omega
        have HHr:Hid (Calls aa.prog 18 #[.pointer (some ⟨g.b i1,0,none⟩),.string T] wr λe w4=>e=.returned (.tuple #[.string (fK (bW (g1.K i1) L)),.int .i64 0])/\pP ks w w.heap.size g.b (gW ks 9 ⟨g.ab,some (.root (aM (g.K 1) 0 0)),0,1,1,0⟩) m k1 i1 (if (bW (g1.K i1) L).isSome then n2+1 else n2) (touT t1 (bW (g1.K i1) L)) (bW (g1.K i1) L) (g1.fG ks i1 k1 L g1.A) w4):=
         (zQ HJ.out hT HJ.out.bj.size).mono λe w4 ⟨he,h1,_⟩=>⟨he,h1⟩
        have hnr3:(g1.fG ks i1 k1 L g1.A).nr=2:=hnr2;clear HJ hL hst hok hT eo hmo' hT0;generalize g1.fG ks i1 k1 L g1.A=g2 at*;generalize bW (g1.K i1) L=oA at*;cases oA with
        |none=>
         have eo:fK none=⟨#[]⟩:=rfl;rw[eo]at HHr;simp only[Option.isSome_none,Bool.false_eq_true,if_false,touT]at HHr;go_wp2_with (go_at_call 18;refine Calls.mono HHr.out ?_;rintro e w7 ⟨rfl,hj7⟩;have HJ7:Hid _:=hj7;clear hj7)
         exact⟨⟨m,k1,i1,n2,t1,none,g2,rfl,rfl,rfl,rfl,rfl,by omega,HJ7.out⟩,by rw[Ue,qh hTs];omega⟩
        |some L'=>
         obtain⟨T',hT'⟩: ∃T,L'.bytes=T:=⟨_,rfl⟩
         have eo:fK (some L')=T':=hT';rw[eo]at HHr;simp only[Option.isSome_some,if_true]at HHr;go_upto_region 27 with (go_at_call 18;refine Calls.mono HHr.out ?_;rintro e w7 ⟨rfl,hj7⟩;have HJ7:Hid _:=hj7;clear hj7)
         obtain⟨hL',-,hmn'⟩:=HJ7.out.letter L' rfl;have hok':=oV HJ7.out.jS HJ7.out.inv (show i1<g2.nr by omega) hL';obtain⟨hT0',hTb'⟩:=vQ hok' hT';have hb0:(T'[0]'hT0').toNat=kB L':=hTb' hT0';have hTe':=xx hT0';have hTi':(0:Int)<(T'.size:Int):=by omega
         have hTs': ¬T'.size=0:=by omega
         have h8:(kB L'=83/\(1:Int)<(T'.size:Int)/\∀h:1<T'.size,(T'[1]'h).toNat=touT t1 (some L'))\/((kB L'=82\/kB L'=78\/kB L'=84)/\touT t1 (some L')=t1):=by
          cases L' with
          |root d=>exact .inr ⟨.inl rfl,rfl⟩
          |nodes lev sg=>exact .inr ⟨.inr (.inl rfl),rfl⟩
          |aL kind sg=>
           obtain⟨hkd,ns,h1,h2,h3,rfl⟩:=hL';by_cases e:kind=83
           ·subst e;have hl:(bZ (g2.K i1) ns).length<=64:=by rw[show (bZ (g2.K i1) ns).length=ns.length from List.length_map ..];first|exact h1.2|exact h3|omega
            obtain⟨h4,h5⟩:=PH hT' hl;exact .inl ⟨rfl,by omega,λh=>by rw[h5 h];simp only[touT,if_true]⟩
           ·refine .inr ⟨.inr (.inr ?_),by simp only[touT,if_neg e]⟩
            have:=hok'.1;simp only[kB];omega
         clear hL' hok' hTb' HHr;generalize touT t1 (some L')=t2 at*;generalize kB L'=q0 at*;rcases h8 with⟨rfl,hs1,hx1⟩|⟨hq,rfl⟩
         ·have hT1:1<T'.size:=by omega
          have hx:=hx1 hT1;clear hx1;have ht2:(t2:Int)<=255:=by have:=(T'[1]'hT1).toNat_lt;omega
          go_wp2;exact⟨⟨m,k1,i1,n2+1,t2,some L',g2,by rw[eo],rfl,rfl,by go_num,by go_num,by omega,HJ7.out⟩,by rw[qh hTs',qh hTs];omega⟩
         ·rcases hq with rfl|rfl|rfl
          all_goals
           go_wp2;exact⟨⟨m,k1,i1,n2+1,t2,some L',g2,by rw[eo],rfl,rfl,by go_num,rfl,by omega,HJ7.out⟩,by rw[qh hTs',qh hTs];omega⟩
end Go.Proofs.YtldmcdeibiclkaaGreatDoorQ
section
namespace Go
open Go.Conc
section
variable {H:Type}{enc:TypeId×Value->H}
theorem JX{a:Assume}{C:Checked}{os:Os}{f:FuncId}{fn:Func}{s:ChangeSpec}{conds:List PathCond}{apart fresh handsOn again:Bool}{laid:List (String×DataW Unit)}(own:ownKnob C.prog.godebug=none)(started:os.Started)(hfn:C.prog.funcs[f]?=some fn)(witness: ∃(w:World) (tape:Tape) (i:Input),w.os=os/\(w.forCall tape i).Shaped C.prog/\i.vars= []/\Input.okWide C.prog (w.forCall tape i) .any w.heap.size f i/\
   (OpenSpec.ofChange s).preRow enc C.prog fn conds apart laid (w.forCall tape i).memory i.args/\a.holds C.prog (lone (Frame.enter C.prog f i.args .normal) [] (w.forCall tape i)))(runs:∀(W:World) (base:Nat) (args:Array Value) (ds gs:List (DataW H)) (before:List MemPlace),
   (∀(j:Nat) t v,fn.params[j]?=some t->args[j]?=some v->Value.okWide C.prog W .any base t v)->
   DataW.Whole enc C.prog fn.params.toList s.vars apart W args.toList ds gs before->
   laidMetH C.prog laid W->
   ∃M last o w' t',runNT C.prog (M+1) (solo (G (Frame.enter C.prog f args .normal) []) W) #[]=(.ended o w',t')/\runN C.prog M (solo (G (Frame.enter C.prog f args .normal) []) W)=.next last/\
    step C.prog last=.ended o w'/\Conc.Good C.prog (λv W'=>s.post enc C.prog fn apart fresh handsOn again W args v W') last o w' t'):
  ReturnsInLeavingWide a C os f .any ((OpenSpec.ofChange s).preRow enc C.prog fn conds apart laid) (s.post enc C.prog fn apart fresh handsOn again):=by
 refine returnsInLeavingWide_of_good own started witness ?_;intro w tape i _ _ _ hok hpre _;obtain⟨_,_,_,fn',hfn',_,_,_,_,dq⟩:=hok;have e:fn'=fn:=Option.some.inj (hfn'.symm.trans hfn);subst e;obtain⟨⟨hp,hl⟩,_⟩:=hpre;obtain⟨ds,gs,before,hw,_,_⟩:=OpenSpec.pre_parts hp;have hw':=DataW.Whole.of_heap (w':=w.forCall tape i) (by rfl) hw;obtain⟨M,last,o,w',t',h1,h2,h3,h4⟩:=runs (w.forCall tape i) w.heap.size i.args ds gs before dq hw' (hl.of_heap (by rfl));exact⟨M,last,o,w',t',h1,h2,h3,h4.mono λv hp=>ChangeSpec.post_blind hp⟩
end
end Go
namespace Go.Proofs.YtldmcdeibiclkaaGreatDoor.ConvergedRow
variable {W:World}
open Go.ChangeShapes Go.WideShapes Go.ChangeAt Go.RowKit Go.Conc
open Go.Proofs.YtldmcdeibiclkaaGreatDoor.U (nH FV sq fQ Pg cL bare tn nC pe)
open Go.Proofs.YtldmcdeibiclkaaGreatDoorQ (eY nu cS)
theorem own:ownKnob Tryz.prog.godebug=none:=by kernel_rfl
theorem laidOut:laidOutB Tryz.prog=true:=by kernel_rfl
theorem R0:Tryz.prog.globalNamed "attune/attunekeep.keys" =some 0:=by kernel_rfl
theorem SL:(Tryz.prog.globals[0]?).map (·.type)=some 76:=by kernel_rfl
theorem Kj:Tryz.prog.cellsOf 9=1:=by kernel_rfl
theorem Jz:Tryz.prog.cellsOf 3=1:=by kernel_rfl
def mW:Nat->ByteArray
 |0=>⟨#[97]⟩
 |1=>⟨#[98]⟩
 |_=>⟨#[122,122]⟩
theorem vW{s:ByteArray}{l:List UInt8}(h:s.data.toList=l):s=⟨l.toArray⟩:=by
 cases s with
 |mk d=>
  congr 1;exact Array.ext' (by simpa using h)
theorem Ax:(∀k,k<3->cS (mW k)=true/\(mW k).size<=8)/\∀k l,k<3->l<3->mW k=mW l->k=l:=by
 refine⟨λk hk=>?_,λk l hk hl e=>?_⟩
 ·rcases (show k=0\/k=1\/k=2 by omega) with rfl|rfl|rfl<;>exact⟨by decide,by decide⟩
 ·rcases (show k=0\/k=1\/k=2 by omega) with rfl|rfl|rfl<;>rcases (show l=0\/l=1\/l=2 by omega) with rfl|rfl|rfl<;>first|rfl|exact absurd e (by decide)
theorem L7(h:laidMetH Tryz.prog Rows.convergedRow.laid W):∀i,i<3->W.cell? ⟨0,i,none⟩=some (.string (mW i)):=by
 rw[MakeChecks.laidMetH_plain _ _ _ (by kernel_rfl)]at h;obtain⟨ps,⟨g0,t0,cs0,f0,p0,q0,hg0,ht0,hv0,hd0,_,_⟩,_⟩:=h;obtain rfl:=Option.some.inj (R0.symm.trans hg0);obtain rfl:=Option.some.inj (SL.symm.trans ht0);obtain⟨xs,m1,hm1,hx1,hlen,hn3,hel⟩:=DataW.trod_array Tryz.underlying76 hd0;have hxs:xs.map (·.1)= [.lit (.string [97]),.lit (.string [98]),.lit (.string [122,122])]:=by
  have:=congrArg (·.1) hx1;simp only[Rows.laid_attune_attunekeep_keys]at this;injection this with this;exact this.symm
 have each:∀i,i<3->∃s:ByteArray,W.cell? ⟨0,i,none⟩=some (.string s)/\(xs.map (·.1))[i]?=some (.lit (.string s.data.toList)):=by
  intro i hi;have h1:=hel i hi;rw[List.getElem?_eq_getElem (by omega)]at h1;obtain⟨s,e1,e2,_⟩:=DataW.trod_string Tryz.underlying9 h1;refine⟨s,?_,?_⟩
  ·rw[World.var?_cell hg0 hv0 i];rw[Kj,Nat.mul_one]at e1
   have:=congrArg (·[0]?) e1;simpa using this
  ·rw[List.getElem?_map,List.getElem?_eq_getElem (by omega),Option.map_some,e2]
 intro i hi;obtain⟨s,h1,h2⟩:=each i hi;rw[hxs]at h2;rw[h1];rcases (show i=0\/i=1\/i=2 by omega) with rfl|rfl|rfl
 ·have h3:s.data.toList= [97]:=by simpa using h2.symm
  rw[vW h3];rfl
 ·have h3:s.data.toList= [98]:=by simpa using h2.symm
  rw[vW h3];rfl
 ·have h3:s.data.toList= [122,122]:=by simpa using h2.symm
  rw[vW h3];rfl
theorem Uw{b:Nat}{x:TypeId×Nat}(h:W.shape? b=some x): ∃c e f,W.heap[b]?=some (.cells c e f):=by
 unfold World.shape? at h;split at h
 ·rename_i c e f hx;exact⟨_,_,_,hx⟩
 ·cases h
theorem runs{ad:Option Addr}{len cap:Nat}(hk:∀i,i<3->W.cell? ⟨0,i,none⟩=some (.string (mW i)))(had:ad=none/\len=0\/∃b off c e f,ad=some ⟨b,off,none⟩/\W.heap[b]?=some (.cells c e f)/\∀j,j<len->∃z:Int,W.cell? ⟨b,off+j,none⟩=some (.int .i64 z)/\-9223372036854775808<=z/\z<=9223372036854775807)(hlen:len<=9223372036854775807):
  ∃M last o w' t',runNT Tryz.prog (M+1) (solo (G (Frame.enter Tryz.prog 5 #[.slice ad len cap] .normal) []) W) #[]=(.ended o w',t')/\runN Tryz.prog M (solo (G (Frame.enter Tryz.prog 5 #[.slice ad len cap] .normal) []) W)=.next last/\
   step Tryz.prog last=.ended o w'/\Conc.Good Tryz.prog (λv W'=>v=.bool true/\Below W.heap.size W W') last o w' t':=by
 obtain⟨c0,e0,f0,h0⟩: ∃c e f,W.heap[0]?=some (.cells c e f):=by
  have h1:=hk 0 (by omega);unfold World.cell? at h1;split at h1
  ·rename_i c e f hx;exact⟨_,_,_,hx⟩
  ·cases h1
 have hs0:0<W.heap.size:=(Array.getElem?_eq_some_iff.1 h0).1;obtain⟨bs,off,cb,eb,fb,hb,hcode,had2⟩: ∃bs off c e f,W.heap[bs]?=some (.cells c e f)/\(∀j,j<len->∃z:Int,W.cell? ⟨bs,off+j,none⟩=some (.int .i64 z)/\-9223372036854775808<=z/\z<=9223372036854775807)/\(ad=none/\len=0\/ad=some ⟨bs,off,none⟩):=by
  rcases had with⟨rfl,rfl⟩|⟨b,off,c,e,f,rfl,h1,h2⟩
  ·exact⟨0,0,c0,e0,f0,h0,λj hj=>by omega,.inl ⟨rfl,rfl⟩⟩
  ·exact⟨b,off,c,e,f,h1,h2,.inr rfl⟩
 obtain⟨J,V,hbl,hheld⟩:=U.Rs (W:=W) (bs:=bs) (λr i=>(r=0/\i<3)\/(r=bs/\off<=i/\i<off+len)) h0 hb (λr i v hri hv=>by
  rcases hri with⟨rfl,hi⟩|⟨rfl,h1,h2⟩
  ·rw[hk i hi]at hv;cases hv;exact .inr ⟨_,rfl⟩
  ·obtain⟨z,hz,_⟩:=hcode (i-off) (by omega);rw[show off+(i-off)=i by omega,hv]at hz;cases hz;exact .inl ⟨_,_,rfl⟩)
 have hbs:bs<W.heap.size:=(Array.getElem?_eq_some_iff.1 hb).1;have hcell:∀(t:Nat->Question->Nat) r,r∈[0,bs]->∀i,World.cell? {bare [0,bs] V with tape:=t} ⟨r,i,none⟩=V.cell? ⟨r,i,none⟩:=λt r hr i=>by
  have:(bare [0,bs] V).heap[r]?=V.heap[r]? :=nC hr;simp only[World.cell?,this]
 have hcalls:∀t:Nat->Question->Nat,Calls U.Qg 5 #[.slice ad len cap] {bare [0,bs] V with tape:=t} λe w'=>∃v,e=.returned v/\(v=.bool true/\∀k,k<V.heap.size->w'.heap[k]?=(bare [0,bs] V).heap[k]?):=λt=>by
  have hsz:({bare [0,bs] V with tape:=t}:World).heap.size=W.heap.size:=by
   show (bare [0,bs] V).heap.size=_;rw[tn,hbl.1]
  have hka:eY {bare [0,bs] V with tape:=t} mW:=⟨λk hk3=>by
   rw[hcell t 0 (by simp)];exact hheld 0 (by simp) k _ (.inl ⟨rfl,hk3⟩) (hk k hk3),Ax.1,Ax.2⟩
  have hca:nu {bare [0,bs] V with tape:=t} ad len:=by
   rcases had2 with⟨_,h⟩|h
   ·exact .inl h
   ·refine .inr ⟨bs,off,h,λj hj=>?_⟩;obtain⟨z,hz,hr⟩:=hcode j hj;exact⟨z,by rw[hcell t bs (by simp)];exact hheld bs (by simp) _ _ (.inr ⟨rfl,by omega,by omega⟩) hz,hr⟩
  have hq:=Go.Proofs.YtldmcdeibiclkaaGreatDoorQ.Ry ad len cap mW {bare [0,bs] V with tape:=t} hka hca hlen (λhpos b off' e=>by
   rcases had2 with⟨_,h⟩|h
   ·omega
   ·rw[h]at e;cases e;rw[hsz];exact hbs) (by rw[hsz];exact hs0)
  rw[aa.is]at hq;refine hq.mono ?_;rintro e w' ⟨rfl,hb⟩;refine⟨_,rfl,rfl,λk hk=>?_⟩;exact hb.block k (by rw[hsz,<-hbl.1];exact hk)
 obtain⟨M,last,o,w',t',r1,r2,r3,r4⟩:=U.Qh (J:=J) (K:=[0,bs]) (V:=V) (W:=W) (by simp) hs0 hbl (f:=5) (show U.dR.fb 5=true by kernel_rfl) (by decide) (by kernel_rfl) (λi=>by rfl)
  (args:=#[.slice ad len cap]) (λv hv=>by
   simp only[List.mem_toArray,List.mem_cons,List.not_mem_nil,or_false]at hv;obtain rfl:=hv
   ·rcases had2 with⟨h,_⟩|h
    ·subst h;exact .inl rfl
    ·subst h;exact .inr ⟨_,_,_,rfl,by simp,hbs⟩
   )
  (Φ:=λx w1=>x=.bool true/\∀k,k<V.heap.size->w1.heap[k]?=(bare [0,bs] V).heap[k]?) (λ_ _ _ h=>h) hcalls
 exact⟨M,last,o,w',t',r1,r2,r3,r4.mono λv hp=>U.Kl hbl (by kernel_rfl) (λπ y h=>by cases h;rfl) hp⟩
theorem P4(H:Type)(enc:TypeId×Value->H)(W:World)(base:Nat)(args:Array Value)(ds gs:List (DataW H))(before:List MemPlace)(dq:∀(j:Nat) t v,Tryz.f5.params[j]?=some t->args[j]?=some v->Value.okWide Tryz.prog W .any base t v)(hW:DataW.Whole enc Tryz.prog Tryz.f5.params.toList Rows.convergedSpec.vars false W args.toList ds gs before)(hL:laidMetH Tryz.prog Rows.convergedRow.laid W):
  ∃M last o w' t',runNT Tryz.prog (M+1) (solo (G (Frame.enter Tryz.prog 5 args .normal) []) W) #[]=(.ended o w',t')/\runN Tryz.prog M (solo (G (Frame.enter Tryz.prog 5 args .normal) []) W)=.next last/\
   step Tryz.prog last=.ended o w'/\Conc.Good Tryz.prog (λv W'=>Rows.convergedSpec.post enc Tryz.prog Tryz.f5 false true false false W args v W') last o w' t':=by
 have hW':=hW;obtain⟨p,q,hA0,hV,rfl,hfz,hnd⟩:=hW;have hA:DataW.TrodAll enc Tryz.prog W 0 (λ_=>true) true Tryz.f5.params.toList args.toList ds p:=hA0;rw[Tryz.params5]at hA dq;obtain⟨v0,vs0,d0,ds0,p0,q0,hargs,rfl,rfl,t0,r0⟩:=trodAll_cons hA;obtain⟨rfl,rfl,rfl⟩:=trodAll_nil r0;obtain rfl:args=#[v0]:=by cases args;simp_all
 obtain⟨rfl,rfl⟩:=trodVars_none hV;have o0:=dq 0 22 v0 rfl rfl;obtain⟨a0,len,cap,rfl⟩:=okWide_slice Tryz.underlying22 o0;have hK:=L7 hL;have hlt:∀x∈p0,x.block<W.heap.size:=λx hx=>by simpa using hW'.lt x (by simp[hx])
 have rng:∀z:Int,(Lit.int .i64 z).wf=true->-9223372036854775808<=z/\z<=9223372036854775807:=λz hw=>by
  simp[Lit.wf,IntKind.min,IntKind.max,IntKind.bits,IntKind.signed]at hw;omega
 have walk: ∃M last o w' t',runNT Tryz.prog (M+1) (solo (G (Frame.enter Tryz.prog 5 #[.slice a0 len cap] .normal) []) W) #[]=(.ended o w',t')/\runN Tryz.prog M (solo (G (Frame.enter Tryz.prog 5 #[.slice a0 len cap] .normal) []) W)=.next last/\
   step Tryz.prog last=.ended o w'/\Conc.Good Tryz.prog (λv W'=>v=.bool true/\Below W.heap.size W W') last o w' t':=by
  obtain⟨fuel,hf⟩:=t0;have hblk:∀a,a0=some a->a.spot=none/\∃c e f,W.heap[a.block]?=some (.cells c e f):=λa e=>by
   subst e;simp only[Value.okWide,Tryz.underlying22,Cell.okWide,Cell.ok]at o0;obtain⟨_,_,_,hsp,row,cells,hsh,_⟩:=o0;exact⟨hsp,Uw hsh⟩
  rcases open_ints Tryz.underlying22 Tryz.underlying3 Jz hf with⟨hcs,_⟩|⟨a,len',cap',zs,hcs,_,hl,hm,hz,_,hcell,hwz⟩
  ·simp[Value.cells]at hcs;obtain⟨rfl,rfl,rfl⟩:=hcs;exact runs hK (.inl ⟨rfl,rfl⟩) (by omega)
  ·simp[Value.cells]at hcs;obtain⟨rfl,rfl,rfl⟩:=hcs;simp only[if_true]at hz;have hmax:len<=9223372036854775807:=by unfold maxLen at hm;omega
   obtain⟨hsp,c,e,f,hh⟩:=hblk a rfl;obtain⟨b,off,spot⟩:=a;obtain rfl:spot=none:=hsp;have hcell':∀j,j<zs.length->W.cell? ⟨b,off+j,none⟩=some (.int .i64 (zs.getD j 0)):=λj hj=>by rw[<-add_plain];exact hcell j hj
   refine runs hK (.inr ⟨b,off,c,e,f,rfl,hh,λj hj=>⟨zs.getD j 0,hcell' j (by omega),?_⟩⟩) hmax;exact rng _ (hwz (zs.getD j 0) (by
    rw[List.getD_eq_getElem?_getD,List.getElem?_eq_getElem (by omega)];exact List.getElem_mem _))
 clear hA0;obtain⟨M,last,o,w',t',h1,h2,h3,h4⟩:=walk;refine⟨M,last,o,w',t',h1,h2,h3,h4.mono λv ⟨hv,hb⟩=>?_⟩;subst hv;refine⟨_,_,_,[],p0++ [],[],hW',?_,?_,rfl,hb.frame _,λh=>by cases h⟩
 ·exact trodAll_cons_mk (shut_bool Tryz.underlying4 _) trodAll_mk0
 ·exact trodAll_cons_mk (Below.trod laidOut (by kernel_rfl) (of_decide_eq_true (by kernel_rfl)) t0 hb hlt) trodAll_mk0
theorem QE(os:Os):laidMet Tryz.prog Rows.convergedRow.laid ((World.doorLaid Tryz.prog 400 os).forCall (λ_ _=>0) ⟨#[],#[.slice none 0 0],[]⟩).memory:=
 laidMet_of_run' 8 (by kernel_rfl) (by kernel_rfl)
theorem reads(os:Os){H:Type}(enc:TypeId×Value->H): ∃places,DataW.whole enc Tryz.prog ((World.doorLaid Tryz.prog 400 os).forCall (λ_ _=>0) ⟨#[],#[.slice none 0 0],[]⟩).memory Tryz.f5.params.toList Rows.convergedSpec.vars false #[Value.slice none 0 0].toList 8=some ([.nil],[],places):=
 ⟨[],by kernel_rfl⟩
theorem lifted(os:Os)(started:os.Started)(H:Type)(enc:TypeId×Value->H):
  ReturnsInLeavingWide {} Tryz.checked os 5 .any ((OpenSpec.ofChange Rows.convergedSpec).preRow enc Tryz.prog Tryz.f5 Rows.convergedRow.domain false Rows.convergedRow.laid) (Rows.convergedSpec.post enc Tryz.prog Tryz.f5 false true false false):=by
 obtain⟨places,hx⟩:=reads os enc;refine JX (C:=Tryz.checked) (s:=Rows.convergedSpec) own started Tryz.func5
  (witness_row_at (enc:=enc) (C:=Tryz.checked) false (World.doorLaid Tryz.prog 400 os) #[.slice none 0 0] rfl (by kernel_rfl) (by kernel_rfl) (by kernel_rfl)
   (OpenSpec.preRow_of_cond 8 hx (by kernel_rfl) (λk hk=>by cases hk) (by kernel_rfl) (QE os))) ?_
 intro W base args ds gs before dq hW hL;exact P4 H enc W base args ds gs before dq hW hL
theorem said:Rows.ConvergedSaid:=
 OpenClaim.holds_of_wide_leaving 5 Tryz.f5 rfl rfl rfl rfl rfl rfl rfl ⟨rfl,rfl,rfl,rfl,rfl⟩ rfl rfl rfl rfl rfl (by kernel_rfl) Tryz.func5 (by kernel_rfl)
  (of_decide_eq_true (by kernel_rfl)) (by unfold Func.isWrapper;first|(rw[if_pos (by decide+kernel)];kernel_rfl)|(rw[if_neg (by decide+kernel)];exact⟨rfl,rfl⟩))
  (λos started H enc _=>by rw[OpenClaim.pre_eq_preRow];exact lifted os started H enc)
theorem plain(f:FuncId)(fn:Func)(hf:Tryz.pinned.checked.prog.funcNamed "attune/attunekeep.Converged" =some f)(hfn:Tryz.pinned.checked.prog.funcs[f]?=some fn):
  true=Tryz.pinned.checked.prog.looks []/\∀(j:Nat) t,fn.params[j]?=some t->Tryz.pinned.checked.prog.wantsStandIn t=false:=by
 obtain rfl:f=5:=Option.some.inj ((show Tryz.prog.funcNamed "attune/attunekeep.Converged" =some 5 by kernel_rfl).symm.trans hf)|>.symm;obtain rfl:fn=Tryz.f5:=(Option.some.inj (Tryz.func5.symm.trans hfn)).symm;refine⟨by kernel_rfl,λj t ht=>?_⟩;rw[Tryz.params5]at ht;obtain rfl:t=22:=by simpa using Array.mem_of_getElem? ht
 ·exact (show Tryz.prog.wantsStandIn 22=false by kernel_rfl)
end Go.Proofs.YtldmcdeibiclkaaGreatDoor.ConvergedRow
namespace Go.Proofs.YtldmcdeibiclkaaGreatDoor
theorem converged_holds:Rows.ConvergedCardSaid:=
 ⟨Claim7.tied_new_at .later [.data] true (Claim7.new_of_sixth ConvergedRow.said _ true rfl ⟨rfl,rfl⟩ (by kernel_rfl) (by kernel_rfl) ConvergedRow.plain) (by kernel_rfl),(λD hD=>by cases hD),converged_row_tie,(λh=>by cases h),(by kernel_rfl)⟩
end Go.Proofs.YtldmcdeibiclkaaGreatDoor
end
