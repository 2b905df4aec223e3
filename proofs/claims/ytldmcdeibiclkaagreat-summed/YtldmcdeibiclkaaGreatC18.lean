/-
  Toward summed_holds: Contracts of the reference: isKey, isContext, saw, both, ahead.
-/
import Derived.Test.YtldmcdeibiclkaaGreatC16
import Derived.Test.YtldmcdeibiclkaaGreatC17
import Derived.Deep.RegionHeld3
import Derived.Maps.AppendAt
import Derived.Laws.AppendOwnNone
set_option linter.unusedVariables false
set_option linter.unusedSimpArgs false
set_option maxRecDepth 100000
set_option maxHeartbeats 20000000
namespace Go.Proofs.YtldmcdeibiclkaaGreatQ
variable {k B:Nat}{v:Value}{xs:List Value}{e:TypeId}{wr A:World}{a b:Ctx}{l:List ax}{name:ByteArray}
open Go.RowKit
theorem gE(s:ByteArray)(w:World)(hs:s.size<=maxLen):
  Calls aa.prog 36 #[.string s] w λe w'=>e=.returned (.bool (aK s))/\w'=w:=by
 unfold maxLen at hs;go_enter aa.func36,aa.ntmps36;go_wp2;go_loop [3] (λi=>∃k:Nat,k<=s.size/\i=.int .i64 k/\Hid (∀j (h:j<s.size),j<k->j6 s[j]=true)) (λi=>s.size-(intOf i).toNat)
 case atStart=>exact⟨0,by omega,rfl,λj hj=>by omega⟩
 case round=>
  obtain⟨k,hk,rfl,hall⟩:=hrel;by_cases hlt:k<s.size
  ·by_cases hb:97<=s[k].toNat/\s[k].toNat<=122
   ·obtain⟨hb1,hb2⟩:=hb;have hall':Hid (∀j (h:j<s.size),j<k+1->j6 s[j]=true):=λj h hj=>by
     by_cases e:j=k
     ·subst e;exact decide_eq_true ⟨hb1,hb2⟩
     ·exact hall.out j h (by omega)
    go_wp2;exact⟨⟨k+1,by omega,by go_num,hall'⟩,by simp[intOf];omega⟩
   ·have hs':Hid (aK s=false):=BO hlt hb;have hb':s[k].toNat<97\/122<s[k].toNat:=by omega
    clear hb hall;rcases hb' with hb'|hb'
    ·go_wp2;go_ret;exact⟨eY hs'.out.symm,rfl⟩
    ·go_wp2;go_ret;exact⟨eY hs'.out.symm,rfl⟩
  ·by_cases hl:1<=s.size/\s.size<=8
   ·have hs':Hid (aK s=true):=BT hl.1 hl.2 λj h=>hall.out j h (by omega);have h1:(1:Int)<=(s.size:Int):=by omega
    have h2:(s.size:Int)<=8:=by omega
    clear hall hl;go_wp2;go_ret;exact⟨eY hs'.out.symm,rfl⟩
   ·have hs':Hid (aK s=false):=BR hl;have hl':s.size<1\/8<s.size:=by omega
    clear hl hall;rcases hl' with hl'|hl'
    ·have h1: ¬(1:Int)<=(s.size:Int):=by omega
     go_wp2;go_ret;exact⟨eY hs'.out.symm,rfl⟩
    ·have h1:(1:Int)<=(s.size:Int):=by omega
     have h2: ¬(s.size:Int)<=8:=by omega
     go_wp2;go_ret;exact⟨eY hs'.out.symm,rfl⟩
theorem iu(c:Ctx)(w:World):
  Calls aa.prog 37 #[aG c] w λe w'=>e=.returned (.bool (bn c))/\Below w.heap.size w w':=by
 go_enter aa.func37,aa.ntmps37;go_wp2;go_loop [3] (λi=>∃k:Nat,k<=4/\i=.int .i64 k/\∀j,j<k->0<=c j/\c j<=1000000) (λi=>4-(intOf i).toNat)
 case atStart=>exact⟨0,by omega,rfl,λj hj=>by omega⟩
 case round=>
  obtain⟨k,hk,rfl,hall⟩:=hrel;have Hall:=(show Hid _ from hall)
  clear hall;by_cases hlt:k<4
  ·by_cases hb:0<=c k/\c k<=1000000
   ·obtain⟨hb1,hb2⟩:=hb;have hall':Hid (∀j,j<k+1->0<=c j/\c j<=1000000):=λj hj=>by
     by_cases e:j=k
     ·subst e;exact⟨hb1,hb2⟩
     ·exact Hall.out j (by omega)
    clear Hall;rcases cE hlt with rfl|rfl|rfl|rfl
    all_goals
     go_wp2;exact⟨⟨_,by omega,by go_num,hall'.out⟩,by simp[intOf]⟩
   ·have hs:Hid (bn c=false):=vN hlt hb;clear Hall;have hb':c k<0\/1000000<c k:=by omega
    clear hb;rcases hb' with hb'|hb'
    all_goals
     try (have hb0:0<=c k:=by omega)
     rcases cE hlt with rfl|rfl|rfl|rfl
     all_goals
      go_wp2;go_ret;exact⟨eY hs.out.symm,(AT _ _).alloc (AI _) _⟩
  ·obtain rfl:k=4:=by omega
   have hs:Hid (bn c=true):=vB Hall.out;clear Hall;go_wp2;go_ret;exact⟨eY hs.out.symm,(AT _ _).alloc (AI _) _⟩
theorem NF(c:Ctx)(r:Nat)(n:Int)(s:ByteArray)(w:World)(hr:r<4):
  Calls aa.prog 64 #[aG c,.agg #[.int .i64 r,.int .i64 n,.string s]] w λe w'=>e=.returned (.bool (decide (n<=c r)))/\Below w.heap.size w w':=by
 rcases cE hr with rfl|rfl|rfl|rfl
 all_goals
  go_enter aa.func64,aa.ntmps64;go_wp2;go_quiet (fail);go_wp2;go_ret;exact⟨rfl,Rf (((AT _ _).alloc (AI _) _).alloc (by simp) _) _⟩
theorem EY(r1 r2:Nat)(n1 n2:Int)(s1 s2:ByteArray)(w:World):
  Calls aa.prog 65 #[.agg #[.int .i64 r1,.int .i64 n1,.string s1],.agg #[.int .i64 r2,.int .i64 n2,.string s2]] w λe w'=>e=.returned (.bool (cd (r1,n1,s1) (r2,n2,s2)))/\Below w.heap.size w w':=by
 have HL:Hid (cd (r1,n1,s1) (r2,n2,s2)=decide (r1<r2\/r1=r2/\n1<n2)):=rfl;by_cases h1:r1<r2
 ·have h1':(r1:Int)<(r2:Int):=by omega
  go_enter aa.func65,aa.ntmps65;go_wp2;go_ret;exact⟨eY (by rw[HL.out];simp[h1]),((AT _ _).alloc (AI _) _).alloc (by simp) _⟩
 ·have h1': ¬(r1:Int)<(r2:Int):=by omega
  by_cases h2:r1=r2
  ·have h2':(r1:Int)=(r2:Int):=by omega
   subst h2;go_enter aa.func65,aa.ntmps65;go_wp2;go_ret;exact⟨eY (by rw[HL.out];simp),((AT _ _).alloc (AI _) _).alloc (by simp) _⟩
  ·have h2': ¬(r1:Int)=(r2:Int):=by omega
   have h2b:((r1:Int)==(r2:Int))=false:=by simp;omega
   go_enter aa.func65,aa.ntmps65;go_wp2;go_ret;exact⟨eY (by rw[HL.out];simp[h1,h2]),((AT _ _).alloc (AI _) _).alloc (by simp) _⟩
def iB(c:Ctx):Array Value:=#[.int .i64 (c 0),.int .i64 (c 1),.int .i64 (c 2),.int .i64 (c 3)]
theorem vf(c:Ctx)(k:Nat)(h:k<4):(iB c)[k]?=some (.int .i64 (c k)):=by
 rcases cE h with rfl|rfl|rfl|rfl<;>rfl
theorem GY(c d:Ctx)(k:Nat)(v:Int)(h:k<4)(hd:∀j,j<4->d j=if j=k then v else c j):(iB c).setIfInBounds k (.int .i64 v)=iB d:=by
 have h0:=hd 0 (by omega);have h1:=hd 1 (by omega);have h2:=hd 2 (by omega);have h3:=hd 3 (by omega);rcases cE h with rfl|rfl|rfl|rfl<;>simp[iB,h0,h1,h2,h3]
theorem Il{c d:Ctx}(h:∀j,j<4->c j=d j):iB c=iB d:=by
 simp[iB,h 0 (by omega),h 1 (by omega),h 2 (by omega),h 3 (by omega)]
def lE(a b:Ctx)(k:Nat):Ctx:=λj=>if j<k then al a b j else a j
def iA(w:World)(a b:Ctx)(k:Nat)(wr:World):Prop:=
 wr.heap[w.heap.size]?=some (.cells (iB (lE a b k)) 34)/\wr.heap[w.heap.size+1]?=some (.cells (iB b) 34)/\wr.heap[w.heap.size+1+1]?=some (.cells #[.int .i64 0,.int .i64 0,.int .i64 0,.int .i64 0] 34)/\Below w.heap.size w wr
theorem iA.drewN{w:World}(h:iA w a b k wr)(q:Nat):iA w a b k (wr.drewN q):=⟨h.1,h.2.1,h.2.2.1,Rf h.2.2.2 q⟩
theorem iA.skip{w:World}(h:iA w a b k wr)(hle:b k<=a k):iA w a b (k+1) wr:=by
 refine⟨?_,h.2.1,h.2.2.1,h.2.2.2⟩;rw[h.1];congr 2;refine Il λj _=>?_;unfold lE al;by_cases e:j=k
 ·subst e;rw[By (by omega),IN (by omega),Ro];split<;>omega
 ·by_cases hl:j<k
  ·rw[IN hl,IN (by omega)]
  ·rw[By hl,By (by omega)]
theorem iA.set{w:World}(h:iA w a b k wr)(hk:k<4)(hlt:a k<b k):iA w a b (k+1) (wr.setCell ⟨w.heap.size,k,none⟩ (.int .i64 (b k))):=by
 refine⟨?_,?_,?_,h.2.2.2.setCell (AI _) _⟩
 ·rw[heap_set h.1,GY (lE a b k) (lE a b (k+1)) k (b k) hk];intro j _;unfold lE al;by_cases e:j=k
  ·subst e;rw[IN (by omega),IN rfl,Ro];split<;>omega
  ·rw[By e];by_cases hl:j<k
   ·rw[IN (by omega),IN hl]
   ·rw[By (by omega),By hl]
 ·rw[Re _ _ _ _ (show w.heap.size+1≠w.heap.size by omega)];exact h.2.1
 ·rw[Re _ _ _ _ (show w.heap.size+1+1≠w.heap.size by omega)];exact h.2.2.1
theorem zQ(a b:Ctx)(w:World):
  Calls aa.prog 40 #[aG a,aG b] w λe w'=>e=.returned (aG (al a b))/\Below w.heap.size w w':=by
 go_enter aa.func40,aa.ntmps40;go_wp2;go_loopw [5] (λi wr=>∃k:Nat,k<=4/\i=.int .i64 k/\iA w a b k wr) (λi _=>4-(intOf i).toNat)
 case atStart=>
  refine⟨0,by omega,rfl,?_,?_,?_,(((AT _ _).alloc (AI _) _).alloc (by simp) _).alloc (by simp;omega) _⟩
  ·rw[Qx _ _ _ (by simp;omega),Qx _ _ _ (by simp)]
   have:=IS w (.cells (iB (lE a b 0)) 34);exact this
  ·rw[Qx _ _ _ (by simp)]
   have:=IS (w.alloc (.cells #[.int .i64 (a 0),.int .i64 (a 1),.int .i64 (a 2),.int .i64 (a 3)] 34)) (.cells (iB b) 34);rw[cA]at this;exact this
  ·have:=IS ((w.alloc (.cells #[.int .i64 (a 0),.int .i64 (a 1),.int .i64 (a 2),.int .i64 (a 3)] 34)).alloc (.cells #[.int .i64 (b 0),.int .i64 (b 1),.int .i64 (b 2),.int .i64 (b 3)] 34)) (.cells #[.int .i64 0,.int .i64 0,.int .i64 0,.int .i64 0] 34);simpa using this
 case round=>
  obtain⟨k,hk,rfl,hrel⟩:=hrel;by_cases hlt:k<4
  ·have k4:(k:Int)<4:=by omega
   have k0:(0:Int)<=(k:Int):=by omega
   have c0:wr.cell? ⟨w.heap.size,k,none⟩=some (.int .i64 (a k)):=by
    rw[(aj hrel.1).1,vf _ _ hlt];simp[lE]
   have f0:wr.frozen? ⟨w.heap.size,k,none⟩=false:=(aj hrel.1).2 k;have c1:wr.cell? ⟨w.heap.size+1,k,none⟩=some (.int .i64 (b k)):=by
    rw[(aj hrel.2.1).1,vf _ _ hlt]
   have HRel:Hid (iA w a b k wr):=hrel;clear hrel;by_cases hc:a k<b k
   ·have hd:decide (a k<b k)=true:=by simpa using hc
    go_wp2;go_quiet (fail);go_wp2;exact⟨⟨k+1,by omega,by go_num,(HRel.out.drewN _).set hlt hc⟩,by simp[intOf];omega⟩
   ·have hd:decide (a k<b k)=false:=by simpa using hc
    go_wp2;go_quiet (fail);go_wp2;exact⟨⟨k+1,by omega,by go_num,(HRel.out.drewN _).skip (by omega)⟩,by simp[intOf];omega⟩
  ·obtain rfl:k=4:=by omega
   obtain⟨r1,r2,r3,r4⟩:=hrel;obtain⟨e,_⟩:=aj r1;obtain⟨e',f'⟩:=aj r3;have HB:Hid (Below w.heap.size w wr):=r4;have m0:wr.cell? ⟨w.heap.size,0,none⟩=some (.int .i64 (al a b 0)):=e 0;have m1:wr.cell? ⟨w.heap.size,1,none⟩=some (.int .i64 (al a b 1)):=e 1;have m2:wr.cell? ⟨w.heap.size,2,none⟩=some (.int .i64 (al a b 2)):=e 2;have m3:wr.cell? ⟨w.heap.size,3,none⟩=some (.int .i64 (al a b 3)):=e 3;clear r1 r2 r3 r4 e;go_wp2;refine Q1 (v:=aG (al a b)) ?_ rfl ⟨rfl,?_⟩
   ·simp[results,aa.results40,go_sem,e']
   ·exact (((HB.out.setCell (by simp;omega) _).setCell (by simp;omega) _).setCell (by simp;omega) _).setCell (by simp;omega) _
def df(w:World)(sv:Value)(l:List ax):Prop:=w.ownsRow 0 88 3 sv l.length (aw l)
theorem cU{w:World}{size:Nat}{n:Nat}(h:w.ownsRow B e size v n xs)(hn:0<n):
  ∃g cap,v=.slice (some ⟨g,0,none⟩) n cap/\n<=cap/\cap<=maxLen/\g<w.heap.size/\∀t u,t<n*size->xs[t]?=some u->w.cell? ⟨g,t,none⟩=some u:=by
 rcases h.2 with⟨_,h0⟩|⟨g,cap,cur,hv,_,hh,hnc,hc,_,ht⟩
 ·omega
 ·refine⟨g,cap,hv,hnc,hc,(Array.getElem?_eq_some_iff.1 hh).1,λt u h1 h2=>?_⟩;rw[<-ht,List.getElem?_take,IN h1]at h2;simp only[World.cell?,hh];simpa using h2
theorem aZ{w:World}{size:Nat}{n:Nat}(h:w.ownsRow B e size v n xs): ∃ad cap,v=.slice ad n cap/\(cap:Int)<=9223372036854775807/\n<=cap:=by
 rcases h.2 with⟨h1,h2⟩|⟨g,cap,cur,hv,_,_,h3,h4,_⟩
 ·exact⟨_,_,by rw[h1,h2],by simp,by omega⟩
 ·exact⟨_,_,hv,by unfold maxLen at h4;omega,h3⟩
theorem mQ(sv:Value)(l:List ax)(seen:Ctx)(w:World)(h:df w sv l)(hr:∀v∈l,v.rep<4)(hlen:l.length<=100000):
  Calls aa.prog 39 #[sv,aG seen] w λe w'=>∃v',e=.returned v'/\w'.ownsRow w.heap.size 88 3 v' (ak l seen).length (aw (ak l seen))/\Below w.heap.size w w':=by
 obtain⟨ad,cap,rfl,hcap,hlc⟩:=aZ h;have H:Hid (df w (.slice ad l.length cap) l):=h;have HR:Hid _:=hr;clear h hr;go_enter aa.func39,aa.ntmps39;go_wp2;go_loopw [5,6] (λlf i wr=>∃k:Nat,k<=l.length/\i=.int .i64 k/\Hid (wr.ownsRow (w.heap.size+1) 88 3 lf (ak (l.take k) seen).length (aw (ak (l.take k) seen)))/\Hid (Below (w.heap.size+1) (w.alloc (.cells #[.int .i64 (seen 0),.int .i64 (seen 1),.int .i64 (seen 2),.int .i64 (seen 3)] 34)) wr)) (λ_ i _=>l.length-(intOf i).toNat)
 case atStart=>exact⟨0,by omega,rfl,⟨by simp[aw,ak],Or.inl ⟨rfl,by simp[ak]⟩⟩,AT _ _⟩
 case round=>
  obtain⟨k,hk,rfl,hown,hbel⟩:=hrel;by_cases hlt:k<l.length
  ·obtain⟨g,cap',hsv',_,_,hg,hcells⟩:=cU H.out (by omega);cases hsv';obtain⟨f0,f1,f2⟩:=mn l k hlt;have c0:=hcells _ _ (by omega) f0;have c1:=hcells _ _ (by omega) f1;have c2:=hcells _ _ (by omega) f2;have hrk:Hid (l[k].rep<4):=HR.out _ (OF hlt);have HS:Hid _:=wM l seen k hlt;clear f0 f1 f2 hcells;generalize hrr:l[k].rep=r at*;generalize hnn:l[k].n=n at*;generalize hvv:l[k].val=s at*;have Hvk:Hid (l[k]=(r,n,s)):=by rw[<-hrr,<-hnn,<-hvv];rfl
   clear hrr hnn hvv;have HBel:Hid (Below (w.heap.size+1) (w.alloc (.cells #[.int .i64 (seen 0),.int .i64 (seen 1),.int .i64 (seen 2),.int .i64 (seen 3)] 34)) wr):=hbel.out;have hsz:w.heap.size+1<=wr.heap.size:=by have:=hbel.out.size;simp at this;omega
   have hmk:Hid (∀w',Below wr.heap.size wr w'->w'.cell? ⟨g,k*3,none⟩=some (.int .i64 r)/\w'.cell? ⟨g,k*3+1,none⟩=some (.int .i64 n)/\w'.cell? ⟨g,k*3+2,none⟩=some (.string s)/\w'.cell? ⟨w.heap.size,0,none⟩=some (.int .i64 (seen 0))/\w'.cell? ⟨w.heap.size,1,none⟩=some (.int .i64 (seen 1))/\w'.cell? ⟨w.heap.size,2,none⟩=some (.int .i64 (seen 2))/\w'.cell? ⟨w.heap.size,3,none⟩=some (.int .i64 (seen 3))):=λw' hw=>by
    have hg':g<wr.heap.size:=by omega
    have hold:∀o,w'.cell? ⟨g,o,none⟩=w.cell? ⟨g,o,none⟩:=λo=>by
     rw[hw.cell (p:=⟨g,o,none⟩) hg',HBel.out.cell (p:=⟨g,o,none⟩) (show g<w.heap.size+1 by omega),World.cell?_alloc_lt _ _ _ hg]
    have hbox:∀o,w'.cell? ⟨w.heap.size,o,none⟩=#[Value.int .i64 (seen 0),.int .i64 (seen 1),.int .i64 (seen 2),.int .i64 (seen 3)][o]? :=λo=>by
     rw[hw.cell (p:=⟨w.heap.size,o,none⟩) (show w.heap.size<wr.heap.size by omega),HBel.out.cell (p:=⟨w.heap.size,o,none⟩) (show w.heap.size<w.heap.size+1 by omega)];exact (aj (IS w _)).1 o
    exact⟨(hold _).trans c0,(hold _).trans c1,(hold _).trans c2,hbox 0,hbox 1,hbox 2,hbox 3⟩
   have g63:(k:Int)<(l.length:Int):=by omega
   have k0:(0:Int)<=(k:Int):=by omega
   have HW:Hid (∀w1,Below wr.heap.size wr w1->w1.ownsRow (w.heap.size+1) 88 3 u5 (ak (List.take k l) seen).length (aw (ak (List.take k l) seen))):=λw1 hw=>cy hown.out hw (AI _);have HSaw:Hid (∀W,Calls aa.prog 64 #[aG seen,.agg #[.int .i64 r,.int .i64 n,.string s]] W λe w'=>e=.returned (.bool (decide (n<=seen r)))/\Below W.heap.size W w'):=λW=>NF seen r n s W hrk.out;have hseq:om seen l[k]=decide (n<=seen r):=by rw[Hvk.out];rfl
   have HQ:Hid _:=hseq;clear hseq c0 c1 c2 hbel hown;go_wp2_with fail;go_region_held3 (λw'=>w'.cell? ⟨g,k*3,none⟩=some (.int .i64 r)/\w'.cell? ⟨g,k*3+1,none⟩=some (.int .i64 n)/\w'.cell? ⟨g,k*3+2,none⟩=some (.string s)/\w'.cell? ⟨w.heap.size,0,none⟩=some (.int .i64 (seen 0))/\w'.cell? ⟨w.heap.size,1,none⟩=some (.int .i64 (seen 1))/\w'.cell? ⟨w.heap.size,2,none⟩=some (.int .i64 (seen 2))/\w'.cell? ⟨w.heap.size,3,none⟩=some (.int .i64 (seen 3)))
    ((refine hmk.out _ ?_;first|(simp (maxDischargeDepth:=12) [AT,Qy];done)|(simp (maxDischargeDepth:=12) [B1];done)))
    (first|(go_at_call 64;refine BY (HSaw.out _) ?_;rintro e w1 ⟨rfl,hb1⟩;have B1:Below wr.heap.size wr w1:=fL hb1 (by simp[AT,Qy]);clear hb1))
   obtain⟨e0,e1,e2,_⟩:=hmk.out _ B1;have HB1:Hid (Below wr.heap.size wr w1):=B1;have z1:=B1.size;clear B1;by_cases hseen:n<=seen r
   ·have HS':Hid (ak (List.take (k+1) l) seen=ak (List.take k l) seen):=by
     have:=HS.out;rw[HQ.out,IN (by simpa using hseen),RX]at this;exact this
    have hd:decide (n<=seen r)=true:=by simpa using hseen
    clear hseen;go_wp2;exact⟨⟨k+1,by omega,by go_num,by rw[HS'.out];exact HW.out _ HB1.out,HBel.out.trans (HB1.out.mono (by omega))⟩,by simp[intOf];omega⟩
   ·have HS':Hid (ak (List.take (k+1) l) seen=ak (List.take k l) seen++ [(r,n,s)]):=by
     have:=HS.out;rw[HQ.out,By (by simpa using hseen),Hvk.out]at this;exact this
    obtain⟨i0,hi0,hz0,hz1,hz2⟩:=QN aa.oO;have hd:decide (n<=seen r)=false:=by simpa using hseen
    clear hseen;have hul:Hid ((ak (List.take k l) seen).length<=100000):=IT (Q4 _ _) (by simp;omega);have HW1:Hid (w1.ownsRow (w.heap.size+1) 88 3 u5 (ak (List.take k l) seen).length (aw (ak (List.take k l) seen))):=HW.out _ HB1.out;go_wp2_with (first
     |(at_builtin;refine QZ _ rfl _ _ _ rfl (w.heap.size+1) 88 i0 _ 3 32 aa.underlying67 hi0 hz0 hz1 hz2 rfl (by omega) u5 _ _ rfl (HW1.out.alloc _) ⟨w1.heap.size,0,none⟩ 1 1 [.int .i64 r,.int .i64 n,.string s] rfl rfl (QJ (cs:=#[.int .i64 r,.int .i64 n,.string s]) (t:=88) (fr:=(0,0)) (IS w1 _)) (by simp[Value.oneCell']) (by omega) (by have:=hul.out;unfold maxLen;omega) (by have:=hul.out;omega) (by simp;omega) (w1.heap.size+1) (by simp) ?_;intro gg capn w2 hown2 hgrow hat hlt2))
    refine⟨⟨k+1,by omega,by go_num,?_,?_⟩,by simp[intOf];omega⟩
    ·rw[HS'.out,oV,Q2];exact hown2
    ·have hB:=(HBel.out.trans (HB1.out.mono (by omega))).alloc (by omega) (.cells #[.int .i64 r,.int .i64 n,.string s] 88);refine hB.grown hgrow (by simp;omega) λq hq=>?_;rcases HW1.out.2 with⟨h1,_⟩|⟨g1,cap1,cur1,hv1,hg1,_⟩
     ·rw[h1]at hq;cases hq
     ·rw[hv1]at hq;simp[Value.ownBlock]at hq;omega
  ·have hkl:k=l.length:=by omega
   have HK:Hid (List.take k l=l):=RY (by omega);have HO:Hid (wr.ownsRow (w.heap.size+1) 88 3 u5 (ak (List.take k l) seen).length (aw (ak (List.take k l) seen))):=hown.out;clear hown;go_wp2;go_ret;refine⟨_,rfl,?_,?_⟩
   ·have:=HO.out;rw[HK.out]at this;exact bM this (by omega)
   ·exact ((AT _ _).alloc (AI _) _).trans (hbel.out.mono (by omega))
def gA(l:List ax)(v:ax):Nat:=(l.takeWhile λu=>cd u v).length
def dQ(l:List ax)(v:ax):List ax:=l.take (gA l v)++v::l.drop (gA l v)
theorem xF{v:ax}(h:∀j (hj:j<l.length),j<k->cd l[j] v=true)(hk:k<=l.length)(hs:∀hk':k<l.length,cd l[k] v=false):gA l v=k:=by
 unfold gA;induction l generalizing k with
 |nil=>simp at hk;simp[hk]
 |cons u l ih=>
  cases k with
  |zero=>
   have:=hs (by simp);simp at this;simp[List.takeWhile,this]
  |succ k=>
   have h0:=h 0 (by simp) (by omega);simp at h0;simp only[List.takeWhile,h0,QH];rw[ih (k:=k) (λj hj hjk=>by have:=h (j+1) (by simpa using hj) (by omega);simpa using this) (by simpa using hk) (λhk'=>by have:=hs (by simpa using hk');simpa using this)]
theorem lk{w w2:World}{size n:Nat}(hown:w.ownsRow B e size v n xs)(hb:Below B A w)(hB:B<=w.heap.size)(hgrow:w.grownBy w2 v.ownBlock):Below B A w2:=by
 refine hb.grown hgrow hB λq hq=>?_;rcases hown.2 with⟨h1,_⟩|⟨g1,cap1,cur1,hv1,hg1,_⟩
 ·rw[h1]at hq;cases hq
 ·rw[hv1]at hq;simp[Value.ownBlock]at hq;omega
theorem kD{w w2:World}{size n:Nat}{X:Obj}(hown:w.ownsRow B e size v n xs)(hb:Below B A w)(hB:B<=w.heap.size)(hgrow:(w.alloc X).grownBy w2 v.ownBlock):Below B A w2:=
 lk (hown.alloc X) (hb.alloc hB X) (by simp;omega) hgrow
theorem DC(l:List ax)(k:Nat)(h:k<=l.length):aw (l.drop k)=(aw l).drop (k*3):=by
 have h1:aw l=aw (l.take k)++aw (l.drop k):=by rw[<-oV,R4]
 rw[h1,List.drop_left' (by rw[mS,RS];omega)]
theorem GC(l:List ax):∀u∈aw l,u.oneCell'=true:=by
 intro u hu;simp only[aw,List.mem_flatMap]at hu;obtain⟨v,_,hv⟩:=hu;simp[cg]at hv;rcases hv with rfl|rfl|rfl<;>rfl
theorem Gy{w w2:World}{g:Nat}{X:Obj}(hc:∀t u,t<l.length*3->(aw l)[t]?=some u->w.cell? ⟨g,t,none⟩=some u)(hk:k<=l.length)(hb:Below (w.heap.size+1) (w.alloc X) w2)(hg:g<w.heap.size):
  ∀j u,(aw (l.drop k))[j]?=some u->w2.cell? ((⟨g,k*3,none⟩:Addr).add j)=some u:=by
 intro j u hj;have hadd:(⟨g,k*3,none⟩:Addr).add j=⟨g,k*3+j,none⟩:=by unfold Addr.add;split<;>simp_all
 rw[hadd,hb.cell (p:=⟨g,k*3+j,none⟩) (show g<w.heap.size+1 by omega),World.cell?_alloc_lt _ _ _ hg];rw[DC l k hk,List.getElem?_drop]at hj;have hlt:=(List.getElem?_eq_some_iff.1 hj).1;rw[mS]at hlt;exact hc _ _ hlt hj
theorem Jw(sv:Value)(l:List ax)(r0:Nat)(n0:Int)(s0:ByteArray)(w:World)(h:df w sv l)(hnn: ¬sv=.slice none 0 0)(hlen:l.length<=100000):
  Calls aa.prog 41 #[sv,.agg #[.int .i64 r0,.int .i64 n0,.string s0]] w λe w'=>∃v',e=.returned v'/\w'.ownsRow w.heap.size 88 3 v' (l.length+1) (aw (dQ l (r0,n0,s0)))/\Below w.heap.size w w':=by
 obtain⟨ad,cap,rfl,hcap,hlc⟩:=aZ h;have H:Hid (df w (.slice ad l.length cap) l):=h;clear h;go_enter aa.func41,aa.ntmps41;go_wp2;go_loopw [5,6] (λlf i wr=>∃k:Nat,k<=l.length/\i=.int .i64 k/\Hid (wr.ownsRow (w.heap.size+1) 88 3 lf k (aw (l.take k)))/\Hid (Below (w.heap.size+1) (w.alloc (.cells #[.int .i64 r0,.int .i64 n0,.string s0] 88)) wr)/\Hid (∀j (hj:j<l.length),j<k->cd l[j] (r0,n0,s0)=true)) (λ_ i _=>l.length-(intOf i).toNat)
 case atStart=>exact⟨0,by omega,rfl,⟨by simp[aw],Or.inl ⟨rfl,rfl⟩⟩,AT _ _,λj _ hj=>absurd hj (by omega)⟩
 case round=>
  obtain⟨k,hk,rfl,hown,hbel,hall⟩:=hrel;have HBel:Hid (Below (w.heap.size+1) (w.alloc (.cells #[.int .i64 r0,.int .i64 n0,.string s0] 88)) wr):=hbel.out;have hsz:w.heap.size+1<=wr.heap.size:=by have:=hbel.out.size;simp at this;omega
  have hbox:Hid (∀w',Below wr.heap.size wr w'->∀o,w'.cell? ⟨w.heap.size,o,none⟩=#[Value.int .i64 r0,.int .i64 n0,.string s0][o]?):=λw' hw o=>by
   rw[hw.cell (p:=⟨w.heap.size,o,none⟩) (show w.heap.size<wr.heap.size by omega),HBel.out.cell (p:=⟨w.heap.size,o,none⟩) (show w.heap.size<w.heap.size+1 by omega)];exact (aj (IS w _)).1 o
  have HW:Hid (∀w1,Below wr.heap.size wr w1->w1.ownsRow (w.heap.size+1) 88 3 u5 k (aw (l.take k))):=λw1 hw=>cy hown.out hw (AI _);obtain⟨i0,hi0,hz0,hz1,hz2⟩:=QN aa.oO;have k0:(0:Int)<=(k:Int):=by omega
  clear hbel hown;by_cases hlt:k<l.length
  ·obtain⟨g,cap',hsv',_,_,hg,hcells⟩:=cU H.out (by omega);cases hsv';have hold:Hid (∀w',Below wr.heap.size wr w'->∀o,w'.cell? ⟨g,o,none⟩=w.cell? ⟨g,o,none⟩):=λw' hw o=>by
    rw[hw.cell (p:=⟨g,o,none⟩) (show g<wr.heap.size by omega),HBel.out.cell (p:=⟨g,o,none⟩) (show g<w.heap.size+1 by omega),World.cell?_alloc_lt _ _ _ hg]
   obtain⟨f0,f1,f2⟩:=mn l k hlt;have c0:=hcells _ _ (by omega) f0;have c1:=hcells _ _ (by omega) f1;have c2:=hcells _ _ (by omega) f2;have HCells:Hid _:=hcells;clear f0 f1 f2 hcells;generalize hrr:l[k].rep=r at*;generalize hnn:l[k].n=n at*;generalize hvv:l[k].val=s at*;have Hvk:Hid (l[k]=(r,n,s)):=by rw[<-hrr,<-hnn,<-hvv];rfl
   clear hrr hnn hvv;have hmk:Hid (∀w',Below wr.heap.size wr w'->w'.cell? ⟨g,k*3,none⟩=some (.int .i64 r)/\w'.cell? ⟨g,k*3+1,none⟩=some (.int .i64 n)/\w'.cell? ⟨g,k*3+2,none⟩=some (.string s)/\w'.cell? ⟨w.heap.size,0,none⟩=some (.int .i64 r0)/\w'.cell? ⟨w.heap.size,1,none⟩=some (.int .i64 n0)/\w'.cell? ⟨w.heap.size,2,none⟩=some (.string s0)):=λw' hw=>
    ⟨(hold.out w' hw _).trans c0,(hold.out w' hw _).trans c1,(hold.out w' hw _).trans c2,hbox.out w' hw 0,hbox.out w' hw 1,hbox.out w' hw 2⟩
   have g63:(k:Int)<(l.length:Int):=by omega
   clear c0 c1 c2;go_wp2_with fail;go_region_held3 (λw'=>w'.cell? ⟨g,k*3,none⟩=some (.int .i64 r)/\w'.cell? ⟨g,k*3+1,none⟩=some (.int .i64 n)/\w'.cell? ⟨g,k*3+2,none⟩=some (.string s)/\w'.cell? ⟨w.heap.size,0,none⟩=some (.int .i64 r0)/\w'.cell? ⟨w.heap.size,1,none⟩=some (.int .i64 n0)/\w'.cell? ⟨w.heap.size,2,none⟩=some (.string s0))
    ((refine hmk.out _ ?_;first|(simp (maxDischargeDepth:=12) [AT,Qy];done)|(simp (maxDischargeDepth:=12) [B1];done)))
    (first|(go_at_call 65;refine (EY r r0 n n0 s s0 _).mono ?_;rintro e w1 ⟨rfl,hb1⟩;have B1:Below wr.heap.size wr w1:=fL hb1 (by simp[AT,Qy]);clear hb1))
   obtain⟨e0,e1,e2,e3,e4,e5⟩:=hmk.out _ B1;have HB1:Hid (Below wr.heap.size wr w1):=B1;have z1:=B1.size;have HW1:Hid (w1.ownsRow (w.heap.size+1) 88 3 u5 k (aw (l.take k))):=HW.out _ B1;clear B1;cases hah:cd (r,n,s) (r0,n0,s0) with
   |true=>
    go_wp2_with (first
     |(at_builtin;refine QZ _ rfl _ _ _ rfl (w.heap.size+1) 88 i0 _ 3 32 aa.underlying67 hi0 hz0 hz1 hz2 rfl (by omega) u5 _ _ rfl (HW1.out.alloc _) ⟨w1.heap.size,0,none⟩ 1 1 [.int .i64 r,.int .i64 n,.string s] rfl rfl (QJ (cs:=#[.int .i64 r,.int .i64 n,.string s]) (t:=88) (fr:=(0,0)) (IS w1 _)) (by simp[Value.oneCell']) (by omega) (by unfold maxLen;omega) (by omega) (by simp;omega) (w1.heap.size+1) (by simp) ?_;intro gg capn w2 hown2 hgrow hat hlt2))
    refine⟨⟨k+1,by omega,by go_num,?_,?_,?_⟩,by simp[intOf];omega⟩
    ·rw[Bx l k hlt,Hvk.out];exact hown2
    ·have hB:=(HBel.out.trans (HB1.out.mono (by omega))).alloc (by omega) (.cells #[.int .i64 r,.int .i64 n,.string s] 88);refine hB.grown hgrow (by simp;omega) λq hq=>?_;rcases HW1.out.2 with⟨h1,_⟩|⟨g1,cap1,cur1,hv1,hg1,_⟩
     ·rw[h1]at hq;cases hq
     ·rw[hv1]at hq;simp[Value.ownBlock]at hq;omega
    ·intro j hj hjk;by_cases e:j=k
     ·subst e;rw[Hvk.out];exact hah
     ·exact hall.out j hj (by omega)
   |false=>
    have hkc:(k:Int)<=(l.length:Int):=by omega
    have hkc2:(l.length:Int)<=(cap:Int):=by omega
    go_wp2_with (first
     |(at_builtin;(refine QZ _ rfl _ _ _ rfl (w.heap.size+1) 88 i0 _ 3 32 aa.underlying67 hi0 hz0 hz1 hz2 rfl (by omega) u5 _ _ rfl (HW1.out.alloc _) ⟨w1.heap.size,0,none⟩ 1 1 [.int .i64 r0,.int .i64 n0,.string s0] rfl rfl (QJ (cs:=#[.int .i64 r0,.int .i64 n0,.string s0]) (t:=88) (fr:=(0,0)) (IS w1 _)) (by simp[Value.oneCell']) (by omega) (by unfold maxLen;omega) (by omega) (by simp;omega) (w1.heap.size+1) (by simp) ?_;intro gg capn w2 hown2 hgrow hat hlt2;have HO2:Hid (w2.ownsRow (w.heap.size+1) 88 3 (.slice (some ⟨gg,0,none⟩) (k+1) capn) (k+1) (aw (l.take k)++ [.int .i64 r0,.int .i64 n0,.string s0])):=hown2;have HB2:Hid (Below (w.heap.size+1) (w.alloc (.cells #[.int .i64 r0,.int .i64 n0,.string s0] 88)) w2):=kD HW1.out (HBel.out.trans (HB1.out.mono (by omega))) (by omega) hgrow;have z2:=HB2.out.size;(try simp only[cA]at z2);have HN2:Hid _:=Gy HCells.out (k:=k) (by omega) HB2.out hg;clear hown2 hgrow hat hlt2))
     |(at_builtin;refine wpList_append_own_at _ rfl _ _ _ rfl (w.heap.size+1) 88 i0 _ 3 32 aa.underlying67 hi0 hz0 hz1 hz2 rfl (by omega) (.slice (some ⟨gg,0,none⟩) (k+1) capn) _ _ rfl HO2.out ⟨g,k*3,none⟩ (l.length-k) (cap-k) (aw (l.drop k)) rfl (by rw[mS,List.length_drop]) HN2.out (GC _) (by unfold maxLen;omega) (by omega) (by omega) ?_;intro v3 w3 hown3 hgrow3 hnil3 hat3;have HO3:Hid (w3.ownsRow (w.heap.size+1) 88 3 v3 (k+1+(l.length-k)) (aw (l.take k)++ [.int .i64 r0,.int .i64 n0,.string s0]++aw (l.drop k))):=hown3;have HB3:Hid (Below (w.heap.size+1) (w.alloc (.cells #[.int .i64 r0,.int .i64 n0,.string s0] 88)) w3):=lk HO2.out HB2.out (by omega) hgrow3;clear hown3 hgrow3 hnil3 hat3))
    go_ret;refine⟨_,rfl,?_,((AT _ _).alloc (AI _) _).trans (HB3.out.mono (by omega))⟩;have hhd:gA l (r0,n0,s0)=k:=xF hall.out hk (λ_=>by rw[Hvk.out];exact hah);have e1:aw (dQ l (r0,n0,s0))=aw (l.take k)++ [.int .i64 r0,.int .i64 n0,.string s0]++aw (l.drop k):=by
     unfold dQ;rw[hhd];simp[aw,cg]
    rw[e1,show l.length+1=k+1+(l.length-k) by omega];exact bM HO3.out (by omega)
  ·obtain rfl:k=l.length:=by omega
   have hb0:=hbox.out wr (AT _ _);have e3:=hb0 0;have e4:=hb0 1;have e5:=hb0 2;have HW1:Hid (wr.ownsRow (w.heap.size+1) 88 3 u5 l.length (aw (l.take l.length))):=HW.out _ (AT _ _);have hhd:Hid (gA l (r0,n0,s0)=l.length):=xF hall.out (AI _) (λh=>absurd h (by omega));have He1:Hid (aw (dQ l (r0,n0,s0))=aw (l.take l.length)++ [.int .i64 r0,.int .i64 n0,.string s0]):=by
    show _=_;unfold dQ;rw[hhd.out,List.drop_length];simp[aw,cg]
   have hkc2:(l.length:Int)<=(cap:Int):=by omega
   clear hb0;rcases H.out.2 with⟨hsv,hl0⟩|⟨g,cap',cur,hv,_,hh,_⟩
   ·exact absurd hsv hnn
   cases hv;by_cases hcl:cap=l.length
   ·subst hcl;go_wp2_with (first
     |(at_builtin;(refine QZ _ rfl _ _ _ rfl (w.heap.size+1) 88 i0 _ 3 32 aa.underlying67 hi0 hz0 hz1 hz2 rfl (by omega) u5 _ _ rfl (HW1.out.alloc _) ⟨wr.heap.size,0,none⟩ 1 1 [.int .i64 r0,.int .i64 n0,.string s0] rfl rfl (QJ (cs:=#[.int .i64 r0,.int .i64 n0,.string s0]) (t:=88) (fr:=(0,0)) (IS wr _)) (by simp[Value.oneCell']) (by omega) (by unfold maxLen;omega) (by omega) (by simp;omega) (wr.heap.size+1) (by simp) ?_;intro gg capn w2 hown2 hgrow hat hlt2;have HO2:Hid (w2.ownsRow (w.heap.size+1) 88 3 (.slice (some ⟨gg,0,none⟩) (l.length+1) capn) (l.length+1) (aw (l.take l.length)++ [.int .i64 r0,.int .i64 n0,.string s0])):=hown2;have HB2:Hid (Below (w.heap.size+1) (w.alloc (.cells #[.int .i64 r0,.int .i64 n0,.string s0] 88)) w2):=kD HW1.out HBel.out (by omega) hgrow;have z2:=HB2.out.size;(try simp only[cA]at z2);clear hown2 hgrow hat hlt2))
     |(at_builtin;refine wpList_append_own_at _ rfl _ _ _ rfl (w.heap.size+1) 88 i0 _ 3 32 aa.underlying67 hi0 hz0 hz1 hz2 rfl (by omega) (.slice (some ⟨gg,0,none⟩) (l.length+1) capn) _ _ rfl HO2.out ⟨g,0,none⟩ 0 0 [] rfl rfl (λj u hj=>by simp at hj) (λu hu=>by simp at hu) (by unfold maxLen;omega) (by omega) (by omega) ?_;intro v3 w3 hown3 hgrow3 hnil3 hat3;have HO3:Hid (w3.ownsRow (w.heap.size+1) 88 3 v3 (l.length+1+0) (aw (l.take l.length)++ [.int .i64 r0,.int .i64 n0,.string s0]++ [])):=hown3;have HB3:Hid (Below (w.heap.size+1) (w.alloc (.cells #[.int .i64 r0,.int .i64 n0,.string s0] 88)) w3):=lk HO2.out HB2.out (by omega) hgrow3;clear hown3 hgrow3 hnil3 hat3))
    go_ret;refine⟨_,rfl,?_,((AT _ _).alloc (AI _) _).trans (HB3.out.mono (by omega))⟩
    have:=HO3.out;rw[RX,<-He1.out]at this;exact bM this (by omega)
   ·have hcl':(l.length:Int)<(cap:Int):=by omega
    have hcl2: ¬cap-l.length=0:=by omega
    go_wp2_with (first
     |(at_builtin;(refine QZ _ rfl _ _ _ rfl (w.heap.size+1) 88 i0 _ 3 32 aa.underlying67 hi0 hz0 hz1 hz2 rfl (by omega) u5 _ _ rfl (HW1.out.alloc _) ⟨wr.heap.size,0,none⟩ 1 1 [.int .i64 r0,.int .i64 n0,.string s0] rfl rfl (QJ (cs:=#[.int .i64 r0,.int .i64 n0,.string s0]) (t:=88) (fr:=(0,0)) (IS wr _)) (by simp[Value.oneCell']) (by omega) (by unfold maxLen;omega) (by omega) (by simp;omega) (wr.heap.size+1) (by simp) ?_;intro gg capn w2 hown2 hgrow hat hlt2;have HO2:Hid (w2.ownsRow (w.heap.size+1) 88 3 (.slice (some ⟨gg,0,none⟩) (l.length+1) capn) (l.length+1) (aw (l.take l.length)++ [.int .i64 r0,.int .i64 n0,.string s0])):=hown2;have HB2:Hid (Below (w.heap.size+1) (w.alloc (.cells #[.int .i64 r0,.int .i64 n0,.string s0] 88)) w2):=kD HW1.out HBel.out (by omega) hgrow;have z2:=HB2.out.size;(try simp only[cA]at z2);clear hown2 hgrow hat hlt2))
     |(at_builtin;refine wpList_append_own_at _ rfl _ _ _ rfl (w.heap.size+1) 88 i0 _ 3 32 aa.underlying67 hi0 hz0 hz1 hz2 rfl (by omega) (.slice (some ⟨gg,0,none⟩) (l.length+1) capn) _ _ rfl HO2.out ⟨g,l.length*3,none⟩ 0 (cap-l.length) [] rfl rfl (λj u hj=>by simp at hj) (λu hu=>by simp at hu) (by unfold maxLen;omega) (by omega) (by omega) ?_;intro v3 w3 hown3 hgrow3 hnil3 hat3;have HO3:Hid (w3.ownsRow (w.heap.size+1) 88 3 v3 (l.length+1+0) (aw (l.take l.length)++ [.int .i64 r0,.int .i64 n0,.string s0]++ [])):=hown3;have HB3:Hid (Below (w.heap.size+1) (w.alloc (.cells #[.int .i64 r0,.int .i64 n0,.string s0] 88)) w3):=lk HO2.out HB2.out (by omega) hgrow3;clear hown3 hgrow3 hnil3 hat3))
    go_ret;refine⟨_,rfl,?_,((AT _ _).alloc (AI _) _).trans (HB3.out.mono (by omega))⟩
    have:=HO3.out;rw[RX,<-He1.out]at this;exact bM this (by omega)
theorem Dp(r0:Nat)(n0:Int)(s0:ByteArray)(w:World):
  Calls aa.prog 41 #[.slice none 0 0,.agg #[.int .i64 r0,.int .i64 n0,.string s0]] w λe w'=>∃v',e=.returned v'/\w'.ownsRow w.heap.size 88 3 v' 1 (aw [(r0,n0,s0)])/\Below w.heap.size w w':=by
 obtain⟨i0,hi0,hz0,hz1,hz2⟩:=QN aa.oO;have HW1:Hid ((w.alloc (.cells #[.int .i64 r0,.int .i64 n0,.string s0] 88)).ownsRow (w.heap.size+1) 88 3 (.slice none 0 0) 0 []):=⟨rfl,Or.inl ⟨rfl,rfl⟩⟩
 go_enter aa.func41,aa.ntmps41;go_wp2;go_loopw [5,6] (λlf i wr=>lf=.slice none 0 0/\i=.int .i64 0/\wr=w.alloc (.cells #[.int .i64 r0,.int .i64 n0,.string s0] 88)) (λ_ _ _=>0)
 case atStart=>exact⟨rfl,rfl,rfl⟩
 case round=>
  obtain⟨rfl,rfl,rfl⟩:=hrel;go_wp2_with (first
   |(at_builtin;refine QZ _ rfl _ _ _ rfl (w.heap.size+1) 88 i0 _ 3 32 aa.underlying67 hi0 hz0 hz1 hz2 rfl (by omega) (.slice none 0 0) _ _ rfl (HW1.out.alloc _) ⟨w.heap.size+1,0,none⟩ 1 1 [.int .i64 r0,.int .i64 n0,.string s0] rfl rfl (QJ (cs:=#[.int .i64 r0,.int .i64 n0,.string s0]) (t:=88) (fr:=(0,0)) (by have:=IS (w.alloc (.cells #[.int .i64 r0,.int .i64 n0,.string s0] 88)) (.cells #[.int .i64 r0,.int .i64 n0,.string s0] 88);simpa using this)) (by simp[Value.oneCell']) (by omega) (by unfold maxLen;omega) (by omega) (by simp) (w.heap.size+1+1) (by simp) ?_;intro gg capn w2 hown2 hgrow hat hlt2;have HO2:Hid (w2.ownsRow (w.heap.size+1) 88 3 (.slice (some ⟨gg,0,none⟩) 1 capn) 1 [.int .i64 r0,.int .i64 n0,.string s0]):=hown2;have HB2:Hid (Below (w.heap.size+1) (w.alloc (.cells #[.int .i64 r0,.int .i64 n0,.string s0] 88)) w2):=kD HW1.out (AT _ _) (by simp) hgrow;clear hown2 hgrow hat hlt2)
   |(at_builtin;refine wpList_append_own_none rfl _ _ _ rfl (w.heap.size+1) 88 i0 3 aa.underlying67 hi0 (.slice (some ⟨gg,0,none⟩) 1 capn) _ _ rfl HO2.out rfl ?_))
  go_ret;exact⟨_,rfl,bM HO2.out (by omega),((AT _ _).alloc (AI _) _).trans (HB2.out.mono (by omega))⟩
theorem La(sv:Value)(l:List ax)(r0:Nat)(n0:Int)(s0:ByteArray)(w:World)(h:df w sv l)(hlen:l.length<=100000):
  Calls aa.prog 41 #[sv,.agg #[.int .i64 r0,.int .i64 n0,.string s0]] w λe w'=>∃v',e=.returned v'/\w'.ownsRow w.heap.size 88 3 v' (l.length+1) (aw (dQ l (r0,n0,s0)))/\Below w.heap.size w w':=by
 by_cases hs:sv=.slice none 0 0
 ·subst hs;obtain⟨ad,cap,hv,_,_⟩:=aZ h;have hl:l= []:=R5 (by injection hv with _ h2 _;exact h2.symm);subst hl;exact Dp r0 n0 s0 w
 ·exact Jw sv l r0 n0 s0 w h hs hlen
abbrev aC:=ByteArray×Ctx×Value
def dM(k:aC):List Value:=[.string k.1,.int .i64 (k.2.1 0),.int .i64 (k.2.1 1),.int .i64 (k.2.1 2),.int .i64 (k.2.1 3),k.2.2]
def flatK(l:List aC):List Value:=l.flatMap dM
abbrev fV(k:aC):Value:=.agg #[.string k.1,.int .i64 (k.2.1 0),.int .i64 (k.2.1 1),.int .i64 (k.2.1 2),.int .i64 (k.2.1 3),k.2.2]
theorem qc(l:List aC):(flatK l).length=l.length*6:=by
 induction l with
 |nil=>rfl
 |cons v l ih=>simp only[flatK,List.flatMap_cons,Q2,QH] at*;rw[ih];simp[dM];omega
theorem yU(a b:List aC):flatK (a++b)=flatK a++flatK b:=by simp[flatK]
theorem oY(l:List aC)(k:Nat)(h:k<l.length)(j:Nat)(hj:j<6):(flatK l)[k*6+j]?=(dM l[k])[j]? :=by
 induction l generalizing k with
 |nil=>simp at h
 |cons v l ih=>
  have e:flatK (v::l)=dM v++flatK l:=by simp[flatK]
  have el:(dM v).length=6:=by simp[dM]
  cases k with
  |zero=>rw[e,List.getElem?_append_left (by omega)];simp
  |succ k=>
   rw[e,List.getElem?_append_right (by omega),show (k+1)*6+j-(dM v).length=k*6+j by omega,ih k (by simpa using h)];simp
def pI(w:World)(sv:Value)(l:List aC):Prop:=w.ownsRow 0 82 6 sv l.length (flatK l)
def gk(w:World)(b:Nat)(n:Nat)(sv:Value)(l:List aC):Prop:=
 w.heap[b]?=some (.cells #[.int .i64 n,sv] 45)/\pI w sv l
theorem wJ{a b:ByteArray}(h:a=b):(a.toList==b.toList)=true:=by subst h;simp
theorem rU{a b:ByteArray}(h: ¬a=b):(a.toList==b.toList)=false:=by
 rw[ByteArray.toList_eq,ByteArray.toList_eq];simp only[beq_eq_false_iff_ne,ne_eq,Array.toList_inj];intro e;exact h (RJ e)
def bA(l:List aC)(name:ByteArray):aC:=(l.find? λk=>decide (k.1=name)).getD (name,λ_=>0,.slice none 0 0)
theorem MR{l:List aC}(h:k<l.length)(hn:l[k].1=name)(ho:∀j (hj:j<l.length),j<k->¬l[j].1=name):bA l name=l[k]:=by
 unfold bA;have:l.find? (λk=>decide (k.1=name))=some l[k]:=by
  rw[List.find?_eq_some_iff_getElem];exact⟨by simpa using hn,k,h,rfl,λj hj=>by simpa using ho j (by omega) hj⟩
 rw[this];rfl
theorem LJ{l:List aC}(ho:∀j (hj:j<l.length),¬l[j].1=name):bA l name=(name,λ_=>0,.slice none 0 0):=by
 unfold bA;have:l.find? (λk=>decide (k.1=name))=none:=by
  rw[List.find?_eq_none];intro x hx;obtain⟨j,hj,rfl⟩:=List.getElem_of_mem hx;simpa using ho j hj
 rw[this];rfl
theorem lx(b n:Nat)(sv:Value)(l:List aC)(name:ByteArray)(w:World)(h:gk w b n sv l)(hsl:∀q∈l,∃ad m cap,q.2.2=.slice ad m cap)(hlen:l.length<=1900000000000):
  Calls aa.prog 38 #[.pointer (some ⟨b,0,none⟩),.string name] w λe w'=>e=.returned (fV (bA l name))/\Below w.heap.size w w':=by
 obtain⟨ad,cap,rfl,hcap,hlc⟩:=aZ h.2;have hbs:b<w.heap.size:=(Array.getElem?_eq_some_iff.1 h.1).1;have H:Hid (pI w (.slice ad l.length cap) l):=h.2;have HC:Hid (∀o,w.cell? ⟨b,o,none⟩=#[Value.int .i64 n,.slice ad l.length cap][o]?):=(aj h.1).1;have HSL:Hid (∀q∈l,∃ad m cap,q.2.2=.slice ad m cap):=hsl;clear h hsl;go_enter aa.func38,aa.ntmps38;go_wp2;go_loopw [5] (λi wr=>∃k:Nat,k<=l.length/\i=.int .i64 k/\Hid (Below w.heap.size w wr)/\Hid (wr.heap[w.heap.size]?=some (.cells #[.string {data:=#[]},.int .i64 0,.int .i64 0,.int .i64 0,.int .i64 0,.slice none 0 0] 82))/\Hid (∀j (hj:j<l.length),j<k->¬l[j].1=name)) (λi _=>l.length-(intOf i).toNat)
 case atStart=>exact⟨0,by omega,rfl,(AT _ _).alloc (AI _) _,IS w _,λj _ hj=>absurd hj (by omega)⟩
 case round=>
  obtain⟨k,hk,rfl,hbel,hres,hall⟩:=hrel;have cb:wr.cell? ⟨b,1,none⟩=some (.slice ad l.length cap):=by
   rw[hbel.out.cell (p:=⟨b,1,none⟩) hbs,HC.out];rfl
  have k0:(0:Int)<=(k:Int):=by omega
  by_cases hlt:k<l.length
  ·obtain⟨g,cap',hsv',_,_,hg,hcells⟩:=cU H.out (by omega);cases hsv';have hcw:∀j,j<6->wr.cell? ⟨g,k*6+j,none⟩=(dM l[k])[j]? :=λj hj=>by
    have hlt':k*6+j<l.length*6:=by omega
    have hget:(flatK l)[k*6+j]?=some ((dM l[k])[j]'(by simpa[dM] using hj)):=by
     rw[oY l k hlt j hj];simp
    rw[hbel.out.cell (p:=⟨g,k*6+j,none⟩) hg,hcells _ _ hlt' hget];simp
   have c0:wr.cell? ⟨g,k*6,none⟩=some (.string l[k].1):=hcw 0 (by omega);have c1:wr.cell? ⟨g,k*6+1,none⟩=some (.int .i64 (l[k].2.1 0)):=hcw 1 (by omega);have c2:wr.cell? ⟨g,k*6+2,none⟩=some (.int .i64 (l[k].2.1 1)):=hcw 2 (by omega);have c3:wr.cell? ⟨g,k*6+3,none⟩=some (.int .i64 (l[k].2.1 2)):=hcw 3 (by omega);have c4:wr.cell? ⟨g,k*6+4,none⟩=some (.int .i64 (l[k].2.1 3)):=hcw 4 (by omega);have c5:wr.cell? ⟨g,k*6+5,none⟩=some l[k].2.2:=hcw 5 (by omega);have g63:(k:Int)<(l.length:Int):=by omega
   have HF:Hid (l[k].1=name->bA l name=l[k]):=λhn=>MR hlt hn hall.out;have HA:Hid (¬l[k].1=name->∀j (hj:j<l.length),j<k+1->¬l[j].1=name):=λhn j hj hjk=>by
    by_cases e:j=k
    ·subst e;exact hn
    ·exact hall.out j hj (by omega)
   have HSk: ∃ad m cap,l[k].2.2=.slice ad m cap:=HSL.out _ (OF hlt);clear hcw hcells hall;generalize l[k]=q at*;obtain⟨nm,cx,vs⟩:=q;obtain⟨av,mv,cv,hvs⟩:=HSk;simp only at hvs;subst hvs;simp only at c0 c1 c2 c3 c4 c5;by_cases hn:nm=name
   ·have hd:(nm.toList==name.toList)=true:=wJ hn;have HE:Hid (bA l name=(nm,cx,.slice av mv cv)):=HF.out hn;clear hn HF HA;obtain⟨e',f'⟩:=aj hres.out;go_wp2;refine Q1 (v:=fV (bA l name)) ?_ rfl ⟨rfl,?_⟩
    ·rw[HE.out];simp[results,aa.results38,go_sem,e']
    ·exact (((((hbel.out.setCell (by simp) _).setCell (by simp) _).setCell (by simp) _).setCell (by simp) _).setCell (by simp) _).setCell (by simp) _
   ·have hd:(nm.toList==name.toList)=false:=rU hn;have HA':Hid (∀j (hj:j<l.length),j<k+1->¬l[j].1=name):=HA.out hn;clear hn HF HA;go_wp2;exact⟨⟨k+1,by omega,by go_num,hbel,hres,HA'⟩,by simp[intOf];omega⟩
  ·obtain rfl:k=l.length:=by omega
   have HM:Hid (bA l name=(name,λ_=>0,.slice none 0 0)):=LJ λj hj=>hall.out j hj hj;obtain⟨e',f'⟩:=aj hres.out;clear hall;go_wp2;refine Q1 (v:=fV (bA l name)) ?_ rfl ⟨rfl,?_⟩
   ·rw[HM.out];simp[results,aa.results38,go_sem,e']
   ·exact (((((hbel.out.setCell (by simp) _).setCell (by simp) _).setCell (by simp) _).setCell (by simp) _).setCell (by simp) _).setCell (by simp) _
section
structure Fr(X:Nat->Prop)(w w':World):Prop where
 os:w'.os=w.os
 tape:w'.tape=w.tape
 output:w'.output=w.output
 size:w.heap.size<=w'.heap.size
 block:∀k,k<w.heap.size->¬X k->w'.heap[k]?=w.heap[k]?
section
variable {X Y:Nat->Prop}{w w1 w2:World}
theorem Fr.refl(X:Nat->Prop)(w:World):Fr X w w:=⟨rfl,rfl,rfl,AI _,λ_ _ _=>rfl⟩
theorem Fr.trans(h:Fr X w w1)(h':Fr X w1 w2):Fr X w w2:=
 ⟨h'.os.trans h.os,h'.tape.trans h.tape,h'.output.trans h.output,IT h.size h'.size,λk hk hn=>(h'.block k (QL hk h.size) hn).trans (h.block k hk hn)⟩
theorem Fr.weaken(h:Fr X w w1)(hX:∀k,X k->Y k):Fr Y w w1:=⟨h.os,h.tape,h.output,h.size,λk hk hn=>h.block k hk λe=>hn (hX k e)⟩
theorem Fr.below(h:Fr X w w1)(hb:Below w1.heap.size w1 w2):Fr X w w2:=
 ⟨hb.os.trans h.os,hb.tape.trans h.tape,hb.output.trans h.output,IT h.size hb.size,λk hk hn=>(hb.block k (QL hk h.size)).trans (h.block k hk hn)⟩
theorem Fr.bR(hb:Below w.heap.size w w1):Fr X w w1:=(Fr.refl X w).below hb
theorem Fr.grown{row:Option Nat}(h:Fr X w w1)(hg:w1.grownBy w2 row)(hr:∀k,row=some k->k<w.heap.size->X k):Fr X w w2:=
 ⟨hg.os.trans h.os,hg.tape.trans h.tape,hg.output.trans h.output,IT h.size hg.size,λk hk hn=>(hg.block k (QL hk h.size) (λe=>hn (hr k e.symm hk))).trans (h.block k hk hn)⟩
theorem Fr.alloc(h:Fr X w w1)(o:Obj):Fr X w (w1.alloc o):=h.below ((AT _ _).alloc (AI _) o)
theorem Fr.setCell(h:Fr X w w1){b o:Nat}(hb:w.heap.size<=b\/X b)(v:Value):Fr X w (w1.setCell ⟨b,o,none⟩ v):=
 ⟨h.os,h.tape,h.output,by simpa[World.setCell] using h.size,λk hk hn=>by
  have hne:k≠b:=λe=>by
   rcases hb with hb|hb
   ·omega
   ·exact hn (e▸hb)
  rw[Re _ _ _ _ hne];exact h.block k hk hn⟩
theorem Fr.toBelow(h:Fr X w w1)(hX:∀k,X k->B<=k)(hB:B<=w.heap.size):Below B w w1:=
 ⟨h.os,h.tape,h.output,h.size,λk hk=>h.block k (by omega) λe=>by have:=hX k e;omega⟩
theorem Fr.heap(h:Fr X w w1){o:Obj}(hk:w.heap[k]?=some o)(hn: ¬X k):w1.heap[k]?=some o:=by
 rw[h.block k (Array.getElem?_eq_some_iff.1 hk).1 hn];exact hk
theorem Fr.row{n size:Nat}{t:TypeId}(h:Fr X w w1)(hr:w.ownsRow B t size v n xs)(hn:∀g o l c,v=.slice (some ⟨g,o,none⟩) l c->¬X g):w1.ownsRow B t size v n xs:=by
 obtain⟨h1,h2⟩:=hr;refine⟨h1,?_⟩;rcases h2 with h2|⟨g,cap,cur,hv,hg,hh,r⟩
 ·exact Or.inl h2
 ·exact Or.inr ⟨g,cap,cur,hv,hg,h.heap hh (hn _ _ _ _ hv),r⟩
theorem Fr.rep{b num:Nat}{bm:Nat->Nat}{K:aB}(h:Fr X w w1)(hr:ba w b bm num K)(hb: ¬X b)(hm:∀n,n<64->¬X (bm n))(hv:∀g cur,w.heap[g]?=some (.cells cur 117 (0,0))->¬X g):ba w1 b bm num K:=
 hr.jo (h.block _ hr.1.lt hb) (λn hn=>h.block _ (hr.2.1 n hn).lt (hm n hn)) λg hg ⟨cur,hc⟩=>h.block g hg (hv g cur hc)
end
end
end Go.Proofs.YtldmcdeibiclkaaGreatQ
