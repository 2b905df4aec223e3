/-
  Toward settled_holds: Contract: tells: of which keys a letter with segments tells.
-/
import Derived.Test.YtldmcdeibiclkaaGreatDoorC25
import Derived.Test.YtldmcdeibiclkaaGreatDoorC18
import Derived.Deep.CutRange
import Derived.Test.YtldmcdeibiclkaaGreatDoorC24
import Derived.Test.YtldmcdeibiclkaaGreatDoorC22
set_option linter.unusedVariables false
set_option linter.unusedSimpArgs false
set_option maxRecDepth 100000
set_option maxHeartbeats 20000000
namespace Go.Proofs.YtldmcdeibiclkaaGreatDoorQ
variable {b o kind k j B at2:Nat}{F G:Nat->Bool}{sg:List (Nat×List ai)}{W:World}{T P R:ByteArray}{t:TypeId}{C A:Array Value}
open Go.RowKit
theorem wR:∀a b:List (Nat×List ai),bp (a++b)=bp a++bp b
 |[],b=>by rw[YH,bp,iZ]
 |g::a,b=>by rw[XS,bp,wR a b,bp,bY,bY]
theorem byte_at{n:Nat}(hn:n<256)(hT:T=P++(ax n++R))(h:P.size<T.size):(T[P.size]'h).toNat=n:=by
 subst hT;rw[ByteArray.getElem_append_right (iR _)];have h1:0<(ax n).size:=by rw[da];omega
 have e:∀(q:Nat) (hq:q<(ax n++R).size),q=0->((ax n++R)[q]'hq).toNat=n:=λq hq e=>by
  subst e;rw[ByteArray.getElem_append_left h1];have hb:=rp (n:Int);have e2:((ax n)[0]'h1)=byteOf n:=by simp[ax,ByteArray.getElem_eq_getElem_data]
  rw[e2];omega
 exact e _ _ (by omega)
theorem P5{Q S:ByteArray}(hT:T=P++(Q++(S++R))):T.extract (P.size+Q.size) (P.size+Q.size+S.size)=S:=by
 have e:T=(P++Q)++(S++R):=by rw[hT,bY]
 have h1:(P++Q).size=P.size+Q.size:=IS;have hd:T.data.toList=(P++Q).data.toList++(S.data.toList++R.data.toList):=by rw[e];simp[ByteArray.data_append]
 have h2:(P++Q).data.toList.length=P.size+Q.size:=by rw[XC];exact h1
 have h3:S.data.toList.length=S.size:=by rw[XC];rfl
 apply Yp;rw[ByteArray.data_extract];apply Array.ext';rw[Array.toList_extract,hd,List.extract_eq_take_drop,List.drop_append_of_le_length (by omega),List.drop_of_length_le (by omega),YH,List.take_append_of_le_length (by omega),YA (by omega)]
def dI(sg:List (Nat×List ai))(k:Nat):Nat:=2+(bp (sg.take k)).size
theorem Sa(hk:k<sg.length):
  ∃P R,(Let.aK kind sg).bytes=P++(ax sg[k].1++(cz sg[k].2.length++(dS sg[k].2++R)))/\P.size=dI sg k:=by
 refine⟨ax kind++(ax sg.length++bp (sg.take k)),bp (sg.drop (k+1)),?_,?_⟩
 ·have e:bp sg=bp (sg.take k)++bp (sg.drop k):=by rw[<-wR,List.take_append_drop]
  rw[Let.bytes,e,FY hk,gB];simp only[bY]
 ·simp only[IS,da,dI];omega
theorem WW:(Let.aK kind sg).bytes.size=dI sg sg.length:=by
 rw[Let.bytes,dI,Xx];simp only[IS,da];omega
theorem BO(hk:k<sg.length):dI sg (k+1)=dI sg k+5+(dS sg[k].2).size:=by
 rw[dI,dI,Xq hk,wR];simp only[bp,gB,IS,da,jP];have:ByteArray.empty.size=0:=rfl;omega
theorem Wa(hk:k<sg.length)(hn:sg[k].1<256)(hT:(Let.aK kind sg).bytes=T):
  dI sg (k+1)<=T.size/\(∀h:dI sg k<T.size,(T[dI sg k]'h).toNat=sg[k].1)/\T.extract (dI sg k+5) (dI sg k+5+(dS sg[k].2).size)=dS sg[k].2:=by
 obtain⟨P,R,e,hP⟩:=Sa (kind:=kind) hk;rw[hT]at e;have hs:=BO hk;refine⟨?_,λh=>?_,?_⟩
 ·rw[e,hs,<-hP];simp only[IS,da,jP];omega
 ·have:=byte_at (T:=T) (P:=P) hn e (by rw[hP];exact h);simp only[hP]at this;exact this
 ·have:=P5 (T:=T) (P:=P) (Q:=ax sg[k].1++cz sg[k].2.length) (S:=dS sg[k].2) (R:=R) (by rw[e,bY]);rw[IS,da,jP,hP]at this;exact this
theorem Qt(hT:(Let.aK kind sg).bytes=T)(hl:sg.length<=64):2<=T.size/\∀h:1<T.size,(T[1]'h).toNat=sg.length:=by
 have e:T=ax kind++(ax sg.length++bp sg):=hT.symm;refine⟨by rw[e];simp only[IS,da];omega,λh=>?_⟩
 have:=byte_at (T:=T) (P:=ax kind) (n:=sg.length) (by omega) e (by rw[da];exact h);simp only[da]at this;exact this
abbrev b3(F:Nat->Bool):Array Value:=#[.bool (F 0),.bool (F 1),.bool (F 2)]
theorem GK(h:j<3):(b3 F)[j]?=some (.bool (F j)):=by
 rcases (show j=0\/j=1\/j=2 by omega) with rfl|rfl|rfl<;>rfl
theorem S6(h:j<3)(v:Bool):(b3 F).setIfInBounds j (.bool v)=b3 λq=>if q=j then v else F q:=by
 rcases (show j=0\/j=1\/j=2 by omega) with rfl|rfl|rfl<;>rfl
theorem Dv(h:∀j,j<3->F j=G j):b3 F=b3 G:=by
 simp only[b3,h 0 (by omega),h 1 (by omega),h 2 (by omega)]
structure iz(w:World)(F:Nat->Bool)(W:World):Prop where
 out:W.heap[w.heap.size]?=some (.cells (b3 λ_=>false) 82)
 told:W.heap[w.heap.size+1]?=some (.cells (b3 F) 82)
 ba:Below w.heap.size w W
theorem iz.below{w W':World}(h:iz w F W)(hb:Below W.heap.size W W'):iz w F W':=⟨aQ h.out hb,aQ h.told hb,bc h.ba hb⟩
theorem iz.set{w:World}{v:Bool}(h:iz w F W)(hj:j<3)(hG:∀q,q<3->G q=if q=j then v else F q):iz w G (W.setCell ⟨w.heap.size+1,j,none⟩ (.bool v)):=by
 refine⟨?_,?_,h.ba.setCell (show w.heap.size<=w.heap.size+1 by omega) _⟩
 ·rw[Xg _ _ _ _ (by show _≠w.heap.size+1;omega)];exact h.out
 ·rw[heap_set h.told,S6 hj,Dv hG]
theorem iz.Bm{w:World}(h:iz w F W)(hG:∀q,q<3->F q=G q):iz w G W:=⟨h.out,by rw[<-Dv hG];exact h.told,h.ba⟩
theorem K4(B bt i kind:Nat)(g:au)(ks:Nat->ByteArray)(ns:List Nat)(w:World)(hN:aP B w bt g)(hK:dY w ks)(hB0:0<B)(hi:i<g.nr)(bA:g.nr<=4)(hF:dK w (g.bm i) (g.K i))(hl:1<=ns.length/\ns.length<=64)(hns:∀n∈ns,n<64)(ha:ns.Pairwise (· < ·))(T:ByteArray)(hT:(Let.aK kind (bC w (g.bm i) (g.K i) ns)).bytes=T)(hsz:T.size<=140737488355328):
  Calls aa.prog 30 #[.pointer (some ⟨bt,0,none⟩),.string T,.int .i64 i] w λe w'=>e=.returned (.tuple #[.agg (b3 λk=>decide (ay (ks k)∈ns)),.bool true])/\Below w.heap.size w w':=by
 have hlm:(bC w (g.bm i) (g.K i) ns).length=ns.length:=Xn ..;have hgk:∀k (h:k<ns.length),(bC w (g.bm i) (g.K i) ns)[k]'(by rw[hlm];exact h)=(ns[k],dF (g.K i) (cM w (g.bm i ns[k]))):=λk h=>by simp[bC]
 have htx:∀n,dS (dF (g.K i) (cM w (g.bm i n)))=dE w (g.bm i) (g.K i) n:=λn=>by rw[dE,rQ]
 obtain⟨hT2,hT1⟩:=Qt hT (by rw[hlm];exact hl.2);rw[hlm]at hT1;have HFc:Hid (∀k (h:k<ns.length),dI (bC w (g.bm i) (g.K i) ns) (k+1)<=T.size/\dI (bC w (g.bm i) (g.K i) ns) (k+1)=dI (bC w (g.bm i) (g.K i) ns) k+5+(dE w (g.bm i) (g.K i) ns[k]).size/\(∀q:dI (bC w (g.bm i) (g.K i) ns) k<T.size,(T[dI (bC w (g.bm i) (g.K i) ns) k]'q).toNat=ns[k])/\T.extract (dI (bC w (g.bm i) (g.K i) ns) k+5) (dI (bC w (g.bm i) (g.K i) ns) k+5+(dE w (g.bm i) (g.K i) ns[k]).size)=dE w (g.bm i) (g.K i) ns[k]):=λk h=>by
  have h':k<(bC w (g.bm i) (g.K i) ns).length:=by rw[hlm];exact h
  have h64:=hns _ (Xe h);have hf:=Wa (kind:=kind) h' (by rw[hgk k h];exact Xc h64 (by decide)) hT;have hs:=BO h';rw[hgk k h]at hf hs;simp only[htx]at hf hs;exact⟨hf.1,hs,hf.2.1,hf.2.2⟩
 have HEnd:Hid (dI (bC w (g.bm i) (g.K i) ns) ns.length=T.size):=(show _=_ by rw[<-hT,WW,hlm])
 have HSg:Hid (∀n:Nat,n<64->∀W,Below w.heap.size w W->Calls aa.prog 11 #[.pointer (some ⟨g.b i,0,none⟩),.int .i64 n] W λe w'=>e=.returned (.tuple #[.string (dE w (g.bm i) (g.K i) n),.int .i64 0])/\Below W.heap.size W w'):=λn hn W hW=>by
  have hr:=hN.bj i hi
  have:=zY (g.b i) i n (g.bm i) (g.K i) W (hr.below hW) (hF.below hr hW) hn;rw[vT (hW.block _ (hr.2.1 n hn).lt)]at this;exact this
 have HPl:Hid (∀j:Nat,j<3->∀W,Below w.heap.size w W->Calls aa.prog 51 #[.int .i64 j] W λe w'=>e=.returned (.int .i64 (ay (ks j)))/\w'=W):=λj hj W hW=>JK j ks W ⟨λk hk=>by rw[World.cell?_of_block (hW.block 0 ?_)];exact hK.cell k hk,hK.key,hK.ne⟩ hj
 case _=>
  have:=hN.hB.1
  have:=(Array.getElem?_eq_some_iff.1 hN.hT).1;omega
 have HNs:Hid (∀k (h:k<ns.length),ns[k]<64/\je ns k<(ns[k]:Int)/\je ns (k+1)=(ns[k]:Int)):=λk h=>⟨hns _ (Xe h),FL ha h,by simp[je,List.getElem?_eq_getElem h]⟩
 have t0:w.cell? ⟨bt,0,none⟩=some (.slice (some ⟨g.br,0,none⟩) g.nr g.bS):=by rw[(al hN.hT).1];exact hN.h0
 have t1:w.cell? ⟨g.br,i,none⟩=some (.pointer (some ⟨g.b i,0,none⟩)):=by rw[(al hN.hR).1];exact hN.fh i hi
 have hbt:bt<w.heap.size:=(Array.getElem?_eq_some_iff.1 hN.hT).1;have hbr:g.br<w.heap.size:=(Array.getElem?_eq_some_iff.1 hN.hR).1;have hin:(i:Int)<(g.nr:Int):=by omega
 have hi0:(0:Int)<=(i:Int):=by omega
 have HJ0:Hid (iz w (λk=>decide (ay (ks k)∈ns.take 0)) ((w.alloc (.cells (b3 λ_=>false) 82)).alloc (.cells (b3 λ_=>false) 82))):=by
  refine⟨?_,kA w _ _,((AT _ _).alloc (iR _) _).alloc (by simp) _⟩;rw[OF _ _ _ (by simp)];exact BY w _
 have hL1:(1:Int)<=(ns.length:Int):=by omega
 have hL2:(ns.length:Int)<=64:=by omega
 have hT1':(T[1]'(by omega)).toNat=ns.length:=hT1 _;clear hT hK hN hF hgk htx hns ha hlm hT1;generalize bC w (g.bm i) (g.K i) ns=sg at*;generalize dE w (g.bm i) (g.K i)=tx at*;go_enter aa.func30,aa.ntmps30;go_wp2;go_loopw [9,10,11] (λav lv iv wr=>∃k:Nat,k<=ns.length/\av=.int .i64 (dI sg k)/\lv=.int .i64 (je ns k)/\iv=.int .i64 k/\Hid (iz w (λq=>decide (ay (ks q)∈ns.take k)) wr)) (λ_ _ iv _=>ns.length-(intOf iv).toNat)
 case atStart=>exact⟨0,by omega,by simp[dI,bp],rfl,rfl,HJ0.out⟩
 case round=>
  obtain⟨k,hk,rfl,rfl,rfl,HJ⟩:=hrel;clear HJ0;by_cases hlt:k<ns.length
  ·obtain⟨f1,f2,f3,f4⟩:=HFc.out k hlt;obtain⟨n1,n2,n3⟩:=HNs.out k hlt;obtain⟨F,hF⟩: ∃F:Nat->Bool,F=λq=>decide (ay (ks q)∈ns.take k):=⟨_,rfl⟩
   rw[<-hF]at HJ;have HTk:Hid (∀q,decide (ay (ks q)∈ns.take (k+1))=(F q||decide (ay (ks q)=ns[k]))):=(by
    intro q;rw[hF];show _=(decide (ay (ks q)∈ns.take k)||_)
    rw[Xq hlt,<-Bool.decide_or];exact decide_eq_decide.2 (by rw[List.mem_append,List.mem_singleton]))
   have HLn:Hid (je ns (k+1)=(ns[k]:Int)):=n3;have HSk:Hid _:=HSg.out ns[k] n1;have HFs:Hid (dI sg (k+1)=dI sg k+5+(tx ns[k]).size):=f2;have hqt:dI sg k<T.size:=by omega
   have f3':(T[dI sg k]'hqt).toNat=ns[k]:=f3 hqt;have f1':dI sg k+5+(tx ns[k]).size<=T.size:=by omega
   clear f3 HFc HNs n3 f1 f2 HSg;generalize je ns k=la at*;generalize dI sg k=ok at*;clear hF;generalize ns[k]=n at*;generalize tx n=t at*;have a1:(k:Int)<(ns.length:Int):=by omega
   have b1:(ok:Int)<(T.size:Int):=by omega
   have b2:(ok:Int)+5<=(T.size:Int):=by omega
   have b3:(ok:Int)+5+(t.size:Int)<=(T.size:Int):=by omega
   have u0:=aU t0 HJ.out.ba;have u1:=aU t1 HJ.out.ba;go_wp2_with (go_at_call 11;refine By (HSk.out _ HJ.out.ba) ?_;rintro e w2 ⟨rfl,hb2⟩;have HJ2:Hid (iz w F w2):=HJ.out.below hb2;clear hb2)
   clear HJ u0 u1;go_loopw [14] (λjv wr=>∃j:Nat,j<=3/\jv=.int .i64 j/\Hid (iz w (λq=>F q||(decide (q<j)&&decide (ay (ks q)=n))) wr)) (λjv _=>3-(intOf jv).toNat)
   case atStart=>exact⟨0,by omega,rfl,HJ2.out.Bm λq _=>by simp⟩
   case round=>
    obtain⟨j,hj,rfl,HI⟩:=hrel;clear HJ2;by_cases hj3:j<3
    ·have j1:(j:Int)<3:=by omega
     have j0:(0:Int)<=(j:Int):=by omega
     have HPj:Hid _:=HPl.out j hj3;obtain⟨ct,ft⟩:=al HI.out.told;have cj:wr.cell? ⟨w.heap.size+1,j,none⟩=some (.bool (F j)):=by
      rw[ct,GK hj3];simp
     have fj:=ft j;have HSt:Hid (∀v,v=(F j||decide (ay (ks j)=n))->iz w (λq=>F q||(decide (q<j+1)&&decide (ay (ks q)=n))) (wr.setCell ⟨w.heap.size+1,j,none⟩ (.bool v))):=λv hv=>HI.out.set hj3 λq hq=>by
      by_cases e:q=j
      ·subst e;rw[AS rfl,hv];simp
      ·rw[AI e];rw[show decide (q<j+1)=decide (q<j) from decide_eq_decide.2 (by omega)]
     have HB:Hid (Below w.heap.size w wr):=HI.out.ba;clear ct ft HI;generalize ay (ks j)=p at*;cases hf:F j with
     |true=>
      rw[hf]at cj HSt;go_wp2_with (go_at_call 51;refine By (HPj.out _ HB.out) ?_;rintro e w3 ⟨rfl,hw3⟩;obtain rfl:=hw3.symm)
      exact⟨⟨j+1,by omega,by go_num,HSt.out _ rfl⟩,by simp[intOf];omega⟩
     |false=>
      rw[hf]at cj HSt;by_cases hp:p=n
      ·subst hp;go_wp2_with (go_at_call 51;refine By (HPj.out _ HB.out) ?_;rintro e w3 ⟨rfl,hw3⟩;obtain rfl:=hw3.symm)
       exact⟨⟨j+1,by omega,by go_num,HSt.out _ (by simp)⟩,by simp[intOf];omega⟩
      ·have hp': ¬(p:Int)=(n:Int):=by omega
       go_wp2_with (go_at_call 51;refine By (HPj.out _ HB.out) ?_;rintro e w3 ⟨rfl,hw3⟩;obtain rfl:=hw3.symm)
       exact⟨⟨j+1,by omega,by go_num,HSt.out _ (by simp[hp];exact hp')⟩,by simp[intOf];omega⟩
    ·have hj3':j=3:=by omega
     subst hj3';have HJn:Hid (iz w (λq=>F q||decide (ay (ks q)=n)) wr):=HI.out.Bm λq hq=>by
      show (F q||(decide (q<3)&&decide (ay (ks q)=n)))=(F q||decide (ay (ks q)=n))
      rw[YD hq,Bool.true_and]
     clear HI;go_wp2;refine⟨⟨k+1,by omega,?_,?_,by go_num,?_⟩,by simp[intOf];omega⟩
     ·rw[HFs.out];go_num
     ·rw[HLn.out]
     ·rw[show (λq=>decide (ay (ks q)∈ns.take (k+1)))=λq=>(F q||decide (ay (ks q)=n)) from funext HTk.out];exact HJn.out
  ·obtain rfl:k=ns.length:=by omega
   have HJe:Hid (iz w (λq=>decide (ay (ks q)∈ns)) wr):=(by have:=HJ.out;rw[Xx]at this;exact this)
   have hend:=HEnd.out;clear HJ HFc HNs HSg HPl;obtain⟨F,hF⟩: ∃F:Nat->Bool,F=λq=>decide (ay (ks q)∈ns):=⟨_,rfl⟩
   rw[<-hF]at HJe;have HF:Hid (F=λq=>decide (ay (ks q)∈ns)):=hF;clear hF;obtain⟨ct,ft⟩:=al HJe.out.told;obtain⟨co,fo⟩:=al HJe.out.out;have c0:=ct 0;have c1:=ct 1;have c2:=ct 2;have o0:=co 0;have o1:=co 1;have o2:=co 2;clear ct co;go_wp2;refine XF (v:=.tuple #[.agg (b3 F),.bool true]) ?_ rfl ⟨by rw[HF.out],?_⟩
   ·simp[results,go_sem,o0,o1,o2]
   ·have hle:w.heap.size<=w.heap.size:=iR _;exact ((HJe.out.ba.setCell hle _).setCell hle _).setCell hle _
theorem Dn(c n:Int)(w:World)(h1: -9223372036854775808<=c)(h2:c<=9223372036854775807)(hn:1<=n)(hn2:n<=1000):
  Calls aa.prog 9 #[.int .i64 c,.int .i64 n] w λe w'=>e=.returned (.int .i64 (lz c n))/\w'=w:=by
 by_cases h:c<0
 ·go_enter aa.func9,aa.ntmps9;go_wp2;go_ret;refine⟨qt ?_,rfl⟩;rw[lz,AS h,<-Int.neg_tmod,Int.tmod_eq_emod_of_nonneg (by omega)]
 ·go_enter aa.func9,aa.ntmps9;go_wp2;go_ret;refine⟨qt ?_,rfl⟩;rw[lz,AI (by omega)]
def mP(w:World)(ad:Option Addr)(n:Nat):Prop:=n=0\/∃b off,ad=some ⟨b,off,none⟩/\∀j,j<n->∃z:Int,w.cell? ⟨b,off+j,none⟩=some (.int .i64 z)/\-9223372036854775808<=z/\z<=9223372036854775807
def bZ(w:World)(bx:Nat)(ad:Option Addr)(n cap at':Nat):Prop:=
 w.heap[bx]?=some (.cells #[.slice ad n cap,.int .i64 at'] 25)/\at'<=n/\n<=9223372036854775807/\mP w ad n
theorem R9(bx:Nat)(ad:Option Addr)(n cap at':Nat)(m:Int)(w:World)(h:bZ w bx ad n cap at')(he:n<=at'):
  Calls aa.prog 14 #[.pointer (some ⟨bx,0,none⟩),.int .i64 m] w λe w'=>e=.returned (.int .i64 0)/\∃q,w'=w.drewN q:=by
 obtain⟨hb,hle,hn,_⟩:=h;obtain⟨c,f⟩:=al hb;have hge:((n:Int)<=(at':Int)):=by omega
 clear hb;go_enter aa.func14,aa.ntmps14;go_wp2;go_quiet (fail);go_wp2;go_ret;exact⟨rfl,_,rfl⟩
theorem T9(bx b off n cap at':Nat)(m z:Int)(w:World)(hb:w.heap[bx]?=some (.cells #[.slice (some ⟨b,off,none⟩) n cap,.int .i64 at'] 25))(hlt:at'<n)(hn:n<=9223372036854775807)(hz:w.cell? ⟨b,off+at',none⟩=some (.int .i64 z))(hz1: -9223372036854775808<=z)(hz2:z<=9223372036854775807)(hm:1<=m)(hm2:m<=1000):
  Calls aa.prog 14 #[.pointer (some ⟨bx,0,none⟩),.int .i64 m] w λe w'=>e=.returned (.int .i64 (lz z m))/\∃q,w'=(w.drewN q).setCell ⟨bx,1,none⟩ (.int .i64 (at'+1)):=by
 obtain⟨c,f⟩:=al hb;have hlt':((at':Int)<(n:Int)):=by omega
 have h0:(0:Int)<=(at':Int):=by omega
 have hlt2: ¬((n:Int)<=(at':Int)):=by omega
 have hbig:(at':Int)+1<=9223372036854775807:=by omega
 have HP:Hid (∀W,Calls aa.prog 9 #[.int .i64 z,.int .i64 m] W λe w'=>e=.returned (.int .i64 (lz z m))/\w'=W):=λW=>Dn z m W hz1 hz2 hm hm2;generalize lz z m=r at*;have hd:decide (n<=at')=false:=by simpa using hlt
 clear hb hz1 hz2 hlt2;go_enter aa.func14,aa.ntmps14;go_wp2;go_quiet (fail);go_wp2;go_quiet ((go_at_call 9;refine (HP.out _).mono ?_;rintro e w' ⟨rfl,rfl⟩;exact⟨rfl,_,rfl⟩));go_wp2;go_ret;exact⟨rfl,_,rfl⟩
theorem pU(bx:Nat)(ad:Option Addr)(n cap at':Nat)(m:Int)(w:World)(h:bZ w bx ad n cap at')(hnb:0<n->∀b off,ad=some ⟨b,off,none⟩->b≠bx)(hm:1<=m)(hm2:m<=1000):
  Calls aa.prog 14 #[.pointer (some ⟨bx,0,none⟩),.int .i64 m] w λe w'=>∃(r:Nat) (at2:Nat),e=.returned (.int .i64 r)/\(r:Int)<m/\bZ w' bx ad n cap at2/\at'<=at2/\w.grownBy w' (some bx)/\w'.heap.size=w.heap.size:=by
 by_cases he:n<=at'
 ·refine (R9 bx ad n cap at' m w h he).mono ?_;rintro e w' ⟨rfl,q,rfl⟩;exact⟨0,at',rfl,by omega,h,iR _,⟨rfl,rfl,rfl,iR _,λ_ _ _=>rfl⟩,rfl⟩
 ·obtain⟨hb,hle,hn,hc⟩:=h;rcases hc with hc|⟨b,off,rfl,hall⟩
  ·omega
  ·obtain⟨z,hz,hz1,hz2⟩:=hall at' (by omega);have hr:=PU z m hm;refine (T9 bx b off n cap at' m z w hb (by omega) hn hz hz1 hz2 hm hm2).mono ?_;rintro e w' ⟨rfl,q,rfl⟩;obtain⟨r,hr'⟩:=Int.eq_ofNat_of_zero_le hr.1;have hbne:=hnb (by omega) b off rfl;refine⟨r,at'+1,by rw[hr'],by omega,⟨?_,by omega,hn,Or.inr ⟨b,off,rfl,λj hj=>?_⟩⟩,by omega,⟨rfl,rfl,rfl,by simp[World.setCell],λk hk hne=>?_⟩,by simp[World.setCell]⟩
   ·have:=heap_set (w:=w.drewN q) (o:=1) (v:=.int .i64 (at'+1)) (show (w.drewN q).heap[bx]?=_ from hb);simpa using this
   ·obtain⟨z',h1,h2,h3⟩:=hall j hj;exact⟨z',by rw[dA hbne];exact h1,h2,h3⟩
   ·exact Xg (w.drewN q) ⟨bx,1,none⟩ _ k (λe=>hne (by rw[e]))
section
def iN(w:World)(b o:Nat):List Value:=(List.range 84).map λj=>(w.cell? ⟨b,o+j,none⟩).getD undef
def lD(w:World)(b o:Nat):Prop:=∀j,j<84->(w.cell? ⟨b,o+j,none⟩).isSome=true
def rE(w:World):Value->Prop
 |.pointer (some ⟨b,o,none⟩)=>lD w b o
 |_=>False
def xl(w:World):Value->Value
 |.pointer (some ⟨b,o,none⟩)=>.agg (iN w b o).toArray
 |_=>undef
theorem zU(w:World)(b o:Nat):rE w (.pointer (some ⟨b,o,none⟩))=lD w b o:=rfl
theorem sJ(w:World)(b o:Nat):xl w (.pointer (some ⟨b,o,none⟩))=.agg (iN w b o).toArray:=rfl
theorem vu(w:World)(b o:Nat):(iN w b o).length=84:=by simp[iN]
theorem DO{w:World}(h:lD w b o):w.rangeAt b o (iN w b o):=λj v hv=>by
 have hj:j<84:=by have:=(List.getElem?_eq_some_iff.1 hv).1;rwa [vu]at this
 have:=h j hj;obtain⟨u,hu⟩:=Option.isSome_iff_exists.1 this;simp[iN,hj,hu]at hv;rw[hu,hv]
theorem G7{w:World}{cs:List Value}(h:w.rangeAt b o cs)(hl:cs.length=84):iN w b o=cs/\lD w b o:=by
 refine⟨?_,λj hj=>?_⟩
 ·apply List.ext_getElem?;intro j;by_cases hj:j<84
  ·have hc:cs[j]?=some cs[j]:=List.getElem?_eq_getElem (by omega);rw[hc];simp[iN,hj,h j _ hc]
  ·rw[List.getElem?_eq_none (by rw[vu];omega),List.getElem?_eq_none (by omega)]
 ·rw[h j _ (List.getElem?_eq_getElem (by omega))];rfl
theorem aa.yi:(aa.prog.info? 74).map (·.size)=some 84:=by kernel_rfl
theorem xB(d:Option Tmp)(x:Operand)(ty:TypeId)(pos:String)(aft:Array Edge)(gd:Option (Nat×Bool))(a:Act)(w:World)(K:Act->World->Prop)(Q:Exit->Act->World->Prop)(h:rE w (a.eval x)):
  Oper.wp aa.prog {dst:=d,op:=.load 74 x,type:=ty,pos:=pos,after:=aft,guard:=gd} a w K Q=K (a.put d (xl w (a.eval x))) w:=by
 unfold rE at h;split at h
 ·rename_i b o heq;rw[heq,sJ];unfold Oper.wp execOp;simp only[heq,Instr.loadAt,Instr.sureAddr,Xt,X2,XJ,Yv w b o 74 (iN w b o) _ (DO h) aa.underlying74 rfl (by rw[aa.yi,vu])];rfl
 ·exact h.elim
def kY(w:World):Value->Value->Prop
 |.pointer (some ⟨b,o,none⟩),.agg cs=>w.there b o 84/\cs.size=84/\cs.all (·.oneCell')=true
 |_,_=>False
def BL(w:World):Value->Value->World
 |.pointer (some ⟨b,o,none⟩),.agg cs=>w.setCells b o cs.toList
 |_,_=>w
theorem yY(w:World)(b o:Nat)(cs:Array Value):kY w (.pointer (some ⟨b,o,none⟩)) (.agg cs)=(w.there b o 84/\cs.size=84/\cs.all (·.oneCell')=true):=rfl
theorem uM(w:World)(b o:Nat)(cs:Array Value):BL w (.pointer (some ⟨b,o,none⟩)) (.agg cs)=w.setCells b o cs.toList:=rfl
theorem zG(d:Option Tmp)(x y:Operand)(ty:TypeId)(pos:String)(aft:Array Edge)(gd:Option (Nat×Bool))(a:Act)(w:World)(K:Act->World->Prop)(Q:Exit->Act->World->Prop)(h:kY w (a.eval x) (a.eval y)):
  Oper.wp aa.prog {dst:=d,op:=.store 74 x y,type:=ty,pos:=pos,after:=aft,guard:=gd} a w K Q=K (a.put d undef) (BL w (a.eval x) (a.eval y)):=by
 unfold kY at h;split at h
 ·rename_i b o cs heq heq';rw[heq,heq',uM];unfold Oper.wp execOp;simp only[heq,heq',Instr.storeAt,Instr.sureAddr,Xt,X2,XJ,run_storeVar_mid w b o 74 cs (by rw[h.2.1];exact h.1) (by rw[aa.yi,h.2.1]) h.2.2];rfl
 ·exact h.elim
theorem GL(m:Mem):∀v∈cq m,v.oneCell'=true:=by
 intro v hv;simp only[cq,List.mem_append]at hv;rcases hv with hv|hv
 ·simp at hv;rcases hv with rfl|rfl|rfl|rfl<;>rfl
 ·exact yk m.2 v hv
def Jx(w:World)(bx:Nat)(ad:Option Addr)(n cap:Nat)(w':World):Prop:=
 Fr (λk=>k=bx) w w'/\(∃at2:Nat,at2<=n/\w'.heap[bx]?=some (.cells #[.slice ad n cap,.int .i64 at2] 25))/\bx<w.heap.size
section
variable {w w1 w2:World}{bx n cap:Nat}{ad:Option Addr}
theorem Jx.drew(h:Jx w bx ad n cap w1):Jx w bx ad n cap w1.drew:=⟨h.1.drew,h.2.1,h.2.2⟩
theorem Jx.alloc(h:Jx w bx ad n cap w1)(X:Obj):Jx w bx ad n cap (w1.alloc X):=by
 obtain⟨h1,⟨a,h2,h3⟩,h4⟩:=h;exact⟨h1.alloc X,⟨a,h2,by rw[OF _ _ _ (Array.getElem?_eq_some_iff.1 h3).1];exact h3⟩,h4⟩
theorem Jx.below(h:Jx w bx ad n cap w1)(hb:Below w1.heap.size w1 w2):Jx w bx ad n cap w2:=by
 obtain⟨h1,⟨a,h2,h3⟩,h4⟩:=h;exact⟨h1.below hb,⟨a,h2,aQ h3 hb⟩,h4⟩
theorem Jx.setCell(h:Jx w bx ad n cap w1)(hb:w.heap.size<=b)(v:Value):Jx w bx ad n cap (w1.setCell ⟨b,o,none⟩ v):=by
 obtain⟨h1,⟨a,h2,h3⟩,h4⟩:=h;have hne:bx≠b:=by omega
 exact⟨h1.setCell (Or.inl hb) v,⟨a,h2,by rw[Xg _ _ _ _ hne];exact h3⟩,h4⟩
theorem Jx.setCells(h:Jx w bx ad n cap w1)(hb:w.heap.size<=b):∀(vs:List Value) (o:Nat),Jx w bx ad n cap (w1.setCells b o vs):=by
 intro vs;induction vs generalizing w1 with
 |nil=>intro o;exact h
 |cons v vs ih=>intro o;rw[World.setCells];exact ih (h.setCell hb v) (o+1)
theorem Jx.toBelow(h:Jx w bx ad n cap w1)(hb:B<=bx):Below B w w1:=
 h.1.toBelow (λk e=>by rw[e];exact hb) (by have:=h.2.2;omega)
theorem Jx.pQ(h:Jx w bx ad n cap w1)(hn:n<=9223372036854775807)(hc:mP w ad n)(hnb:0<n->∀b off,ad=some ⟨b,off,none⟩->b≠bx): ∃at2,bZ w1 bx ad n cap at2:=by
 obtain⟨h1,⟨a,h2,h3⟩,h4⟩:=h;refine⟨a,h3,h2,hn,?_⟩;rcases hc with hc|⟨b,off,rfl,hall⟩
 ·exact Or.inl hc
 ·refine Or.inr ⟨b,off,rfl,λj hj=>?_⟩;obtain⟨z,hz,hr⟩:=hall j hj;exact⟨z,h1.cell hz (hnb (by omega) b off rfl),hr⟩
theorem Jx.next(h:Jx w bx ad n cap w1)(hg:w1.grownBy w2 (some bx))(hd:bZ w2 bx ad n cap at2):Jx w bx ad n cap w2:=
 ⟨h.1.grown hg (λk e _=>by cases e;rfl),⟨at2,hd.2.1,hd.1⟩,h.2.2⟩
theorem Jx.start(h:bZ w bx ad n cap at2):Jx w bx ad n cap w:=
 ⟨Fr.refl _ _,⟨at2,h.2.1,h.1⟩,(Array.getElem?_eq_some_iff.1 h.1).1⟩
end
end
section
attribute [local go_sem ↓] xB zG
attribute [local go_sem] zU sJ yY uM
theorem yZ(f:Operand->Value)(d:Option Tmp)(x:Operand)(ty:TypeId)(pos:String)(aft:Array Edge)(gd:Option (Nat×Bool))(w:World)(h:rE w (f x)):
  (execOp f {dst:=d,op:=.load 74 x,type:=ty,pos:=pos,after:=aft,guard:=gd}).run aa.prog w=.ok (.value (xl w (f x))) w:=by
 unfold rE at h;split at h
 ·rename_i b o heq;rw[heq,sJ];unfold execOp;simp only[heq,Instr.loadAt,Instr.sureAddr,Xt,X2,XJ,Yv w b o 74 (iN w b o) _ (DO h) aa.underlying74 rfl (by rw[aa.yi,vu])]
 ·exact h.elim
attribute [local go_sem ↓] yZ
def ig(l:List Mem)(r:Nat):Mem:=l.getD r (λ_=>0,λ_=>false)
theorem vK(l:List Mem)(r:Nat)(h:r<l.length):ig l r=l[r]:=by
 unfold ig;rw[List.getD_eq_getElem?_getD,List.getElem?_eq_getElem h];rfl
theorem yl{p:Nat}(hC:C.size=84)(h:W.heap[p]?=some (.cells C t))(m:Mem):
  (storeCells ⟨p,0,none⟩ (cq m)).run aa.prog W=.ok () (W.setCells p 0 (cq m)):=by
 obtain⟨e,f⟩:=al h
 have:=run_storeCells_cells (P:=aa.prog) p 0 (cq m) 0 W (λj hj=>by
   have hj':j<84:=by rwa [lh]at hj
   simp[e,hC,hj']) (λj hj=>by simpa using f j) (GL m)
 simpa using this
theorem te{p:Nat}(hC:C.size=84)(h:W.heap[p]?=some (.cells C t))(m:Mem):(W.setCells p 0 (cq m)).heap[p]?=some (.cells (cq m).toArray t):=by
 have:=pK h (cq m).toArray (by rw[hC,List.size_toArray,lh]);simpa using this
theorem E6(W:World)(m:Mem):(storeCells ⟨W.heap.size,0,none⟩ (cq m)).run aa.prog (W.alloc (.cells fe 74))=.ok () ((W.alloc (.cells fe 74)).setCells W.heap.size 0 (cq m)):=
 yl iB (BY W _) m
theorem FC{w w1:World}{bx:Nat}(hg:(w.drew.alloc (.cells fe 74)).grownBy w1 (some bx))(hbx:bx<w.heap.size):w1.heap[w.heap.size]?=some (.cells fe 74):=by
 rw[hg.block w.heap.size (by simp) (λe=>by cases e;omega)];exact BY w.drew _
def Ke(bt k:Nat)(g:au)(w':World):Prop:=
 w'.cell? ⟨bt,1922+k,none⟩=some (g.mv k)/\(∀r,r<(g.mem k).length->lD w' (g.gm k) (r*84))/\(∀r,r<(g.mem k).length->iN w' (g.gm k) (r*84)=cq (ig (g.mem k) r))
theorem aP.pE{w:World}{bt:Nat}{g:au}(h:aP B w bt g)(hk:k<3):Ke bt k g w:=by
 have hx:∀r,r<(g.mem k).length->w.rangeAt (g.gm k) (r*84) (cq (ig (g.mem k) r)):=λr hr j v hv=>by
  have hj:j<84:=by have:=(List.getElem?_eq_some_iff.1 hv).1;rwa [lh]at this
  obtain⟨gw,cw,hwv,hw1,hw2,hcells⟩:=uy (h.cL k hk) (by omega);cases hwv;refine hcells _ _ ?_ ?_
  ·omega
  ·rw[AN _ r hr j hj];rw[vK _ _ hr]at hv;exact hv
 refine⟨?_,λr hr=>(G7 (hx r hr) (lh _)).2,λr hr=>(G7 (hx r hr) (lh _)).1⟩;rw[(al h.hT).1];exact h.eV k hk
theorem pH(m:Mem)(j:Nat)(h:j<80):(cq m).toArray[4+j]?=some (.bool (m.2 j)):=by
 rw[List.getElem?_toArray,cq,List.getElem?_append_right (by simp)]
 have:=mg m.2 j h;simp only[Xp,XW];rw[show 4+j-(0+1+1+1+1)=j by omega,Array.getElem?_toList];exact this
end
def ku(w:World)(b o:Nat):List Value:=(List.range 80).map λj=>(w.cell? ⟨b,o+j,none⟩).getD undef
def hasB(w:World)(b o:Nat):Prop:=∀j,j<80->(w.cell? ⟨b,o+j,none⟩).isSome=true
def okB(w:World):Value->Prop
 |.pointer (some ⟨b,o,none⟩)=>hasB w b o
 |_=>False
def Cg(w:World):Value->Value
 |.pointer (some ⟨b,o,none⟩)=>.agg (ku w b o).toArray
 |_=>undef
theorem tD(w:World)(b o:Nat):okB w (.pointer (some ⟨b,o,none⟩))=hasB w b o:=rfl
theorem qV(w:World)(b o:Nat):Cg w (.pointer (some ⟨b,o,none⟩))=.agg (ku w b o).toArray:=rfl
theorem E3(w:World)(b o:Nat):(ku w b o).length=80:=by simp[ku]
theorem K7{w:World}(h:hasB w b o):w.rangeAt b o (ku w b o):=λj v hv=>by
 have hj:j<80:=by have:=(List.getElem?_eq_some_iff.1 hv).1;rwa [E3]at this
 have:=h j hj;obtain⟨u,hu⟩:=Option.isSome_iff_exists.1 this;simp[ku,hj,hu]at hv;rw[hu,hv]
theorem ju{w:World}{s:Nat->Bool}(h:∀j,j<80->w.cell? ⟨b,o+j,none⟩=some (.bool (s j))):(ku w b o).toArray=bits s/\hasB w b o:=by
 refine⟨?_,λj hj=>by rw[h j hj];rfl⟩;unfold bits ku;congr 1;refine XI λj hj=>?_;rw[h j (List.mem_range.1 hj)];rfl
theorem vA(w:World)(b o:Nat):ku w.drew b o=ku w b o:=rfl
theorem uJ(w:World)(b o:Nat):hasB w.drew b o=hasB w b o:=rfl
theorem vw(d:Option Tmp)(x:Operand)(ty:TypeId)(pos:String)(aft:Array Edge)(gd:Option (Nat×Bool))(a:Act)(w:World)(K:Act->World->Prop)(Q:Exit->Act->World->Prop)(h:okB w (a.eval x)):
  Oper.wp aa.prog {dst:=d,op:=.load 33 x,type:=ty,pos:=pos,after:=aft,guard:=gd} a w K Q=K (a.put d (Cg w (a.eval x))) w:=by
 unfold okB at h;split at h
 ·rename_i b o heq;rw[heq,qV];unfold Oper.wp execOp;simp only[heq,Instr.loadAt,Instr.sureAddr,Xt,X2,XJ,Yv w b o 33 (ku w b o) _ (K7 h) aa.underlying33 rfl (by rw[aa.ua,E3])];rfl
 ·exact h.elim
def kJ(w:World)(b o:Nat):Prop:=w.there b o 80
theorem xZ(w:World)(b o:Nat):kJ w.drew b o=kJ w b o:=rfl
def vP(w:World):Value->Value->Prop
 |.pointer (some ⟨b,o,none⟩),.agg cs=>kJ w b o/\∃s,cs=bits s
 |_,_=>False
def Cz(w:World):Value->Value->World
 |.pointer (some ⟨b,o,none⟩),.agg cs=>w.setCells b o cs.toList
 |_,_=>w
theorem yB(w:World)(b o:Nat)(s:Nat->Bool):vP w (.pointer (some ⟨b,o,none⟩)) (.agg (bits s))=kJ w b o:=by
 apply propext;exact⟨λh=>h.1,λh=>⟨h,s,rfl⟩⟩
theorem uK(w:World)(b o:Nat)(cs:Array Value):Cz w (.pointer (some ⟨b,o,none⟩)) (.agg cs)=w.setCells b o cs.toList:=rfl
theorem yD(d:Option Tmp)(x y:Operand)(ty:TypeId)(pos:String)(aft:Array Edge)(gd:Option (Nat×Bool))(a:Act)(w:World)(K:Act->World->Prop)(Q:Exit->Act->World->Prop)(h:vP w (a.eval x) (a.eval y)):
  Oper.wp aa.prog {dst:=d,op:=.store 33 x y,type:=ty,pos:=pos,after:=aft,guard:=gd} a w K Q=K (a.put d undef) (Cz w (a.eval x) (a.eval y)):=by
 unfold vP at h;split at h
 ·rename_i b o cs heq heq';obtain⟨h1,s,rfl⟩:=h;rw[heq,heq',uK];unfold Oper.wp execOp;simp only[heq,heq',Instr.storeAt,Instr.sureAddr,Xt,X2,XJ,run_storeVar_mid w b o 33 (bits s) (by rw[jD];exact h1) (by rw[aa.ua,jD]) (Array.all_eq_true_iff_forall_mem.2 (λv hv=>yk s v (by simpa using hv)))];rfl
 ·exact h.elim
theorem pS{w:World}(h:w.heap[b]?=some (.cells A t))(hs:o+80<=A.size):kJ w b o:=λj hj=>by
 obtain⟨e,f⟩:=al h;refine⟨?_,f _⟩;rw[e,Array.getElem?_eq_getElem (by omega)];rfl
theorem pP{w:World}(h:w.heap[b]?=some (.cells A t))(hs:o+80<=A.size)(s:Nat->Bool):
  ∃A',(w.setCells b o (bits s).toList).heap[b]?=some (.cells A' t)/\A'.size=A.size/\(∀j,j<80->A'[o+j]?=some (.bool (s j)))/\∀j,(j<o\/o+80<=j)->A'[j]?=A[j]? :=by
 obtain⟨A',h1,h2,h3⟩:=ze b t (bits s).toList o w A h;have hl:(bits s).toList.length=80:=by rw[XC,jD]
 refine⟨A',h1,h2,λj hj=>?_,λj hj=>?_⟩
 ·rw[h3,AS ⟨by omega,by omega,by omega⟩,show o+j-o=j by omega,Array.getElem?_toList];exact mg s j hj
 ·rw[h3,AI (by omega)]
end Go.Proofs.YtldmcdeibiclkaaGreatDoorQ
namespace Go.Proofs.YtldmcdeibiclkaaGreatDoorQ
variable {ws:List Wr}{k:Nat}{kn m:Nat->Bool}
def gb(f:Nat->Bool):Nat->Bool
 |0=>false
 |j+1=>gb f j||f j
def dh(f:Nat->Bool):Nat->Nat
 |0=>0
 |j+1=>dh f j+(if f j then 1 else 0)
theorem EM{f g:Nat->Bool}:∀{m:Nat},(∀j,j<m->f j=g j)->dh f m=dh g m
 |0,_=>rfl
 |m+1,h=>by rw[dh,dh,EM (λj hj=>h j (by omega)),h m (by omega)]
theorem xN{f m:Nat->Bool}:∀{n:Nat},(gb (λj=>f j&&m j) n=false->dh (λj=>f j&&!m j) n=dh f n)/\(gb (λj=>f j&&m j) n=true->dh (λj=>f j&&!m j) n<dh f n)/\dh (λj=>f j&&!m j) n<=dh f n
 |0=>⟨λ_=>rfl,λh=>by simp[gb]at h,iR _⟩
 |n+1=>by
  obtain⟨h1,h2,h3⟩:=xN (f:=f) (m:=m) (n:=n);simp only[gb,dh];generalize gb (λj=>f j&&m j) n=A at*;generalize dh (λj=>f j&&!m j) n=x at*;generalize dh f n=y at*;rcases Bool.eq_false_or_eq_true (f n) with hf|hf<;>rcases Bool.eq_false_or_eq_true (m n) with hm|hm<;>simp only[hf,hm]<;>cases A<;>simp at* <;>omega
theorem DZ{ws:List Wr}{kn go:Nat->Bool}{k:Nat}(hk:∀(j:Nat) (x:Wr),ws[j]?=some x->kn j=true->x.2.1=k/\x.1<4):∀m,m<=ws.length->
  (cf ws kn go k 0 m).length+(cf ws kn go k 1 m).length+(cf ws kn go k 2 m).length+(cf ws kn go k 3 m).length=dh (λj=>kn j&&!go j) m
 |0,_=>by simp[cf,dh]
 |m+1,hm=>by
  have ih:=DZ (go:=go) hk m (by omega);obtain⟨x,hx⟩: ∃x,ws[m]?=some x:=⟨ws[m],List.getElem?_eq_getElem (by omega)⟩
  rw[dh];by_cases h:kn m=true/\go m=false
  ·obtain⟨h1,h2⟩:=hk m x hx h.1;have hb:∀b,(cf ws kn go k b (m+1)).length=(cf ws kn go k b m).length+(if x.1=b then 1 else 0):=λb=>by
    by_cases e:x.1=b
    ·rw[rz hx h1 e h.1 h.2,AS e];simp
    ·rw[qJ hx (λq=>e q.2.1),AI e];rfl
   rw[hb,hb,hb,hb,h.1,h.2];simp only[Bool.not_false,Bool.and_self,No];rcases fp h2 with e|e|e|e<;>rw[e]<;>simp<;>omega
  ·have hb:∀b,cf ws kn go k b (m+1)=cf ws kn go k b m:=λb=>qJ hx (λq=>h q.2.2);rw[hb,hb,hb,hb,ih];have hf:(kn m&&!go m)=false:=by
    cases e1:kn m<;>cases e2:go m<;>simp_all
   rw[hf];simp
theorem vh{go:Nat->Bool}(hk:∀(j:Nat) (x:Wr),ws[j]?=some x->kn j=true->x.2.1=k/\x.1<4):(expected ws kn go k).length=dh (λj=>kn j&&!go j) ws.length:=by
 rw[<-DZ hk _ (iR _),expected,four];simp only[Xk];omega
theorem uS{go:Nat->Bool}{c:Ctx}(hk:∀(j:Nat) (x:Wr),ws[j]?=some x->kn j=true->x.2.1=k/\x.1<4)(hm:Good ws k c m):
  (aW (expected ws kn go k) c).length=dh (λj=>(kn j&&!go j)&&!m j) ws.length:=by
 rw[we (m:=m) (λj x hx hxk=>by rw[hm.1 j x hx];exact⟨λh=>h.2,λh=>⟨hxk,h⟩⟩),vh hk];refine EM λj _=>?_;cases kn j<;>cases go j<;>cases m j<;>rfl
theorem Q3{go:Nat->Bool}{c:Ctx}(hk:∀(j:Nat) (x:Wr),ws[j]?=some x->kn j=true->x.2.1=k/\x.1<4)(hm:Good ws k c m)(h:gb (λj=>(kn j&&!go j)&&m j) ws.length=false):
  (aW (expected ws kn go k) c).length=(expected ws kn go k).length:=by
 rw[uS hk hm,vh hk];exact xN.1 h
theorem Km{go:Nat->Bool}{c:Ctx}(hk:∀(j:Nat) (x:Wr),ws[j]?=some x->kn j=true->x.2.1=k/\x.1<4)(hm:Good ws k c m)(h:gb (λj=>(kn j&&!go j)&&m j) ws.length=true):
  (aW (expected ws kn go k) c).length<(expected ws kn go k).length:=by
 rw[uS hk hm,vh hk];exact xN.2.1 h
theorem Good.sound{c:Ctx}(h:Good ws k c m)(hl:ws.length<=80):gD c=true:=by
 have hb:∀b,eJ (c b)=true:=λb=>by
  have h1:=h.2.2 b;have h2:=uw ws b k;simp only[eJ,Xs];omega
 simp[gD,hb]
end Go.Proofs.YtldmcdeibiclkaaGreatDoorQ
namespace Go.Proofs.YtldmcdeibiclkaaGreatDoorQ
variable {w w2:World}{i B bt n0 k j:Nat}{g:au}{X:Nat->Prop}{l:List aj}{ks:Nat->ByteArray}{t:TypeId}{m:Mem}{v sv:Value}
open Go.RowKit
structure mz(X:Nat->Prop)(w:World)(bt i n0:Nat)(g:au):Prop where
 only:∀b,X b->b=bt\/b=g.bm i n0\/∃cur,w.heap[b]?=some (.cells cur 115 (0,0))
 hi:i<g.nr
 hn:n0<64
theorem aP.map{B:Nat}{w:World}{bt i n:Nat}{g:au}(hN:aP B w bt g)(hi:i<g.nr)(hn:n<64): ∃es clock,w.heap[g.bm i n]?=some (.map es clock):=by
 obtain⟨es,clock,h,_⟩:=(hN.bj i hi).2.1 n hn;exact⟨es,clock,h⟩
theorem mz.cells(ht:mz X w bt i n0 g)(hN:aP B w bt g){b:Nat}{C:Array Value}{fr:Nat×Nat}(hb:w.heap[b]?=some (.cells C t fr))(h1:t≠42)(h2:t≠115): ¬X b:=λh=>by
 rcases ht.only b h with e|e|⟨cur,e⟩
 ·rw[e,hN.hT]at hb;cases hb;exact h1 rfl
 ·obtain⟨es,clock,hm⟩:=hN.map ht.hi ht.hn;rw[e,hm]at hb;cases hb
 ·rw[e]at hb;cases hb;exact h2 rfl
theorem mz.other(ht:mz X w bt i n0 g)(hN:aP B w bt g){n:Nat}(hj:j<g.nr)(hn:n<64)(hne:j≠i): ¬X (g.bm j n):=λh=>by
 obtain⟨es,clock,hm⟩:=hN.map hj hn;rcases ht.only _ h with e|e|⟨cur,e⟩
 ·rw[e,hN.hT]at hm;cases hm
 ·exact hne (hN.fa j i n n0 hj ht.hi hn ht.hn e)
 ·rw[hm]at e;cases e
theorem mz.rep(ht:mz X w bt i n0 g)(hN:aP B w bt g)(hF:Fr X w w2)(hj:j<g.nr)(hne:j≠i):aB w2 (g.b j) (g.bm j) j (g.K j):=by
 refine hF.rep (hN.bj j hj) ?_ (λn hn=>ht.other hN hj hn hne) (λb cur hb=>ht.cells hN hb (by decide) (by decide));obtain⟨⟨A,hA,_⟩,_⟩:=hN.bj j hj;exact ht.cells hN hA (by decide) (by decide)
theorem ji.upd{K:aw}{key:ByteArray}{c:Ctx}(h:ji K)(h1:∀v∈l,v.rep<4)(h2:l.length<=100)(h3:∀v∈l,v.val.size<=12)(h4:∀i,i<4->0<=c i/\c i<=1000000):ji (bD K key (c,l)):=by
 intro s;by_cases e:s=key
 ·simp only[bD,AS e];exact⟨h1,h2,h3,h4⟩
 ·simp only[bD,AI e];exact h s
theorem Good.bounds{ws:List Wr}{c:Ctx}{m:Nat->Bool}(h:Good ws k c m)(hl:ws.length<=80)(b:Nat):0<=c b/\c b<=80:=by
 have h1:=h.2.2 b;have h2:=uw ws b k;omega
theorem bz.known(hI:bz ks g)(hi:i<g.nr)(hk:k<3)(j:Nat)(x:Wr)(hx:g.ws[j]?=some x)(h:g.kn i k j=true):x.2.1=k/\x.1<4:=
 ⟨(((hI.cU i k hi hk).1 j x hx).1 h).1,hI.dq x (List.mem_of_getElem? hx)⟩
def au.gH(g:au)(ks:Nat->ByteArray)(i k:Nat)(m:Mem)(A:Array Value):au:=
 {g with
  K:=λj=>if j=i then bD (g.K i) (ks k) (aZ (g.K i (ks k)).1 m.1,aW (g.K i (ks k)).2 m.1) else g.K j
  kn:=λj l q=>if j=i/\l=k then g.kn i k q||m.2 q else g.kn j l q
  go:=λj l q=>if j=i/\l=k then g.go i k q||m.2 q else g.go j l q
  A:=A}
theorem bz.gH(hI:bz ks g)(ed:∀k l,k<3->l<3->ks k=ks l->k=l)(A:Array Value)(hi:i<g.nr)(hk:k<3)(hm:Good g.ws k m.1 m.2):bz ks (g.gH ks i k m A) where
 bA:=hI.bA
 hlen:=hI.hlen
 eF:=hI.eF
 dD:=hI.dD
 dq:=hI.dq
 cU:=λj l hj hl=>by
  simp only[au.gH];by_cases e:j=i
  ·subst e;by_cases e':l=k
   ·subst e';simpa[bD] using (hI.cU j l hi hl).join hm
   ·have hne:ks l≠ks k:=λq=>e' (ed l k hl hk q);simpa[bD,e',hne] using hI.cU j l hj hl
  ·simpa[e] using hI.cU j l hj hl
 aD:=λj l hj hl=>by
  simp only[au.gH];by_cases e:j=i
  ·subst e;by_cases e':l=k
   ·subst e';have h1:=hI.aD j l hj hl;have h2:=(hm.2.2 j).2;simp only[No,bD,aZ];omega
   ·have hne:ks l≠ks k:=λq=>e' (ed l k hl hk q);simpa[bD,hne] using hI.aD j l hj hl
  ·simpa[e] using hI.aD j l hj hl
 hex:=λj l hj hl=>by
  simp only[au.gH];by_cases e:j=i
  ·subst e;by_cases e':l=k
   ·subst e';simp only[No,bD,and_self];rw[hI.hex j l hj hl];exact Nr (m:=m.2) (λq x hx hxk=>by rw[hm.1 q x hx];exact⟨λh=>h.2,λh=>⟨hxk,h⟩⟩) (λ_ _=>rfl) (λ_ _=>rfl)
   ·have hne:ks l≠ks k:=λq=>e' (ed l k hl hk q);simpa[bD,e',hne] using hI.hex j l hj hl
  ·simpa[e] using hI.hex j l hj hl
 iC:=λj l q hj hl hq=>by
  simp only[au.gH];by_cases e:j=i/\l=k
  ·rw[AS e,hI.iC i k q hi hk hq,hm.2.1 q hq];rfl
  ·rw[AI e];exact hI.iC j l q hj hl hq
 jQ:=hI.jQ
 jr:=hI.jr
 eT:=λj hj=>by
  simp only[au.gH];by_cases e:j=i
  ·subst e;rw[AS rfl];have hK:=hI.eT j hj;refine hK.upd (λv hv=>(hK (ks k)).1 v (List.mem_filter.1 hv).1) (Xb (List.length_filter_le _ _) (hK (ks k)).2.1) (λv hv=>(hK (ks k)).2.2.1 v (List.mem_filter.1 hv).1) λb _=>?_;have h1:=((hI.cU j k hj hk).join hm).bounds hI.hlen b;omega
  ·rw[AI e];exact hI.eT j hj
 fx:=λj hj s hs=>by
  simp only[au.gH]at hs;by_cases e:j=i
  ·subst e;rw[AS rfl]at hs;by_cases e':s=ks k
   ·exact⟨k,hk,e'⟩
   ·simp only[bD,AI e']at hs;exact hI.fx j hj s hs
  ·rw[AI e]at hs;exact hI.fx j hj s hs
 dH:=λj l q hj hl h=>by
  simp only[au.gH]at h ⊢;by_cases e:j=i/\l=k
  ·obtain⟨rfl,rfl⟩:=e;simp only[and_self,No,Xw]at h ⊢;exact h.imp (hI.dH j l q hj hl) id
  ·rw[AI e]at h ⊢;exact hI.dH j l q hj hl h
theorem aP.gH{A:Array Value}(hN:aP B w bt g)(hF:Fr X w w2)(hX:∀b,X b->b=bt\/b=g.bm i n0)(hi:i<g.nr)(hi4:i<4)(hk:k<3)(hn:n0<64)(hT:w2.heap[bt]?=some (.cells A 42))(hA:A.size=1939)(bj:aB w2 (g.b i) (g.bm i) i (bD (g.K i) (ks k) (aZ (g.K i (ks k)).1 m.1,aW (g.K i (ks k)).2 m.1)))(hg:∀j,j<80->A[962+i*240+k*80+j]?=some (.bool (g.go i k j||m.2 j)))(aV:∀j,j<80->A[2+i*240+k*80+j]?=some (.bool (g.kn i k j||m.2 j)))(ho:∀q,(q<2+i*240+k*80\/2+i*240+k*80+80<=q)->(q<962+i*240+k*80\/962+i*240+k*80+80<=q)->A[q]?=g.A[q]?):aP B w2 bt (g.gH ks i k m A):=by
 have ht:mz X w bt i n0 g:=⟨λb h=>by rcases hX b h with e|e;exact Or.inl e;exact Or.inr (Or.inl e),hi,hn⟩
 have hwr:∀b cur,w.heap[b]?=some (.cells cur 115 (0,0))->¬X b:=λb cur hb h=>by
  rcases hX b h with e|e
  ·rw[e,hN.hT]at hb;cases hb
  ·obtain⟨es,clock,hm'⟩:=hN.map hi hn;rw[e,hm']at hb;cases hb
 exact {
  hB:=hN.hB
  hT:=hT
  hA:=hA
  h0:=by show A[0]?=_;rw[ho 0 (by omega) (by omega)];exact hN.h0
  hR:=hF.heap hN.hR (ht.cells hN hN.hR (by decide) (by decide))
  fh:=hN.fh
  bj:=λj hj=>by
   simp only[au.gH];by_cases e:j=i
   ·subst e;rw[AS rfl];exact bj
   ·rw[AI e];exact ht.rep hN hF hj e
  fa:=hN.fa
  h1:=by show A[1]?=_;rw[ho 1 (by omega) (by omega)];exact hN.h1
  hw:=hF.iL hN.hw hwr
  aV:=λj l q hj hl hq=>by
   simp only[au.gH];by_cases e:j=i/\l=k
   ·obtain⟨rfl,rfl⟩:=e;rw[AS ⟨rfl,rfl⟩];exact aV q hq
   ·rw[AI e,ho _ (by omega) (by omega)];exact hN.aV j l q hj hl hq
  hgo:=λj l q hj hl hq=>by
   simp only[au.gH];by_cases e:j=i/\l=k
   ·obtain⟨rfl,rfl⟩:=e;rw[AS ⟨rfl,rfl⟩];exact hg q hq
   ·rw[AI e,ho _ (by omega) (by omega)];exact hN.hgo j l q hj hl hq
  eV:=λl hl=>by show A[1922+l]?=_;rw[ho _ (by omega) (by omega)];exact hN.eV l hl
  cL:=λl hl=>hF.iL (hN.cL l hl) λb cur hb=>ht.cells hN hb (by decide) (by decide)
  eP:=hN.eP
  j7:=λj l hj hl=>by show A[1927+j*3+l]?=_;rw[ho _ (by omega) (by omega)];exact hN.j7 j l hj hl}
def NR(sv:Value)(g:Nat):Prop:=∀a l c,sv=.slice (some a) l c->a.block≠g
theorem Jm{n size:Nat}{xs:List Value}(h:w.ownsRow B t size v n xs):∀g,g<B->NR v g:=by
 intro g hg a l c hv e;rcases h.2 with h2|⟨g',cap,cur,hv',hg',_⟩
 ·rw[h2.1]at hv;cases hv
 ·rw[hv']at hv;cases hv;simp at e;omega
theorem TY(h:aC w sv l)(X:Obj):aC (w.alloc X) sv l:=Xh h X
theorem zI{g o:Nat}(h:aC w sv l)(hn:NR sv g):aC (w.setCell ⟨g,o,none⟩ v) sv l:=by
 obtain⟨h1,h2⟩:=h;refine⟨h1,?_⟩;rcases h2 with h2|⟨g',cap,cur,hv,hg,hh,r⟩
 ·exact Or.inl h2
 ·refine Or.inr ⟨g',cap,cur,hv,hg,?_,r⟩;rw[Xg _ _ _ _ (hn _ _ _ hv)];exact hh
theorem Ak(b num:Nat)(bm:Nat->Nat)(K:aw)(key val:ByteArray)(seen:Ctx)(w:World)(h:aB w b bm num K)(hK:ji K)(hkey:cV key=true)(ed:key.size<=8)(hvs:val.size<=12)(hseen:gD seen=true)(hnum:num<4)(hn:(aW (K key).2 seen).length<20)(h0:0<=aZ (K key).1 seen num)(h1:aZ (K key).1 seen num<1000000):
  Calls aa.prog 21 #[.pointer (some ⟨b,0,none⟩),.string key,.string val,c9 seen] w λe w'=>e=.returned (.int .i64 0)/\∃l',l'.Perm (aW (K key).2 seen++ [(num,aZ (K key).1 seen num+1,val)])/\l'.Pairwise (λa b=>aR b a=false)/\aB w' b bm num (bD K key (bump (aZ (K key).1 seen) num,l'))/\w.grownBy w' (some (bm (ay key))):=by
 have hb:=h.1;have HRep:Hid (aB w b bm num K):=h;obtain⟨es,clock,hm,hk,hall,_⟩:=h.2.1 _ (eU key);obtain⟨sv,hent,hvs0⟩:=hall key rfl;obtain⟨ad,cap,rfl,hcap⟩:=hvs0.len;have hlk:∀W:World,W.heap[bm (ay key)]?=some (.map es clock)->(Instr.lookup 98 (.map (some (bm (ay key)))) (.string key) false).run aa.prog W=.ok (bL (K key).1 (.slice ad (K key).2.length cap)) W:=λW hW=>by
  rw[oa W _ es clock key hW hk,hent]
 have HSeg:Hid (∀W,er W b bm num->Calls aa.prog 39 #[.pointer (some ⟨b,0,none⟩),.string key] W λe w'=>e=.returned (.map (some (bm (ay key))))/\Below W.heap.size W w'/\w'.heap.size=W.heap.size):=λW hW=>tq b num bm key W (by unfold maxLen;omega) hW;have hbc0:w.cell? ⟨b,0,none⟩=some (.int .i64 num):=hb.num;have HBlk:Hid (∀W,Below w.heap.size w W->er W b bm num):=λW hW=>(h.below hW).1;have HL:Hid ((K key).2.length<=100000):=Xb (hK key).2.1 (by decide);have HR:Hid (∀v∈(K key).2,v.rep<4):=(hK key).1;generalize (K key).1=c at*;generalize (K key).2=l at*;have HV:Hid _:=hvs0;have HN:Hid _:=And.intro hn (And.intro h0 h1);have HKn:Hid (cF (bump (aZ c seen) num)):=(show cF (bump (aZ c seen) num) from⟨num,hnum,by simp only[bump,No];omega⟩)
 have HCK:Hid _:=oj key;have HCV:Hid _:=wU val;have HSO:Hid _:=sA seen;have hvd:decide (val.size<=12)=true:=by simpa using hvs
 clear hvs0 hall hent hK hn h0 h1 h;generalize hbms:bm (ay key)=bms at*;have HBMS:Hid _:=hbms;clear hbms;go_enter aa.func21,aa.ntmps21;go_wp2_with (first
  |(go_at_call 36;refine (HCK.out _ (by unfold maxLen;omega)).mono ?_;rw[hkey];rintro e w1 ⟨rfl,rfl⟩)
  |(go_at_call 37;refine (HCV.out _ (by unfold maxLen;omega)).mono ?_;rw[hvd];rintro e w1 ⟨rfl,rfl⟩)
  |(go_at_call 38;refine (HSO.out _).mono ?_;rw[hseen];rintro e w2 ⟨rfl,hb2⟩;obtain⟨c2,hB2,hz2⟩:=uz hb2;clear hb2))
 have hmk:Hid (∀w',Below w2.heap.size w2 w'->er w' b bm num/\w'.cell? ⟨b,0,none⟩=some (.int .i64 num)/\(Instr.lookup 98 (.map (some bms)) (.string key) false).run aa.prog w'=.ok (bL c (.slice ad l.length cap)) w'/\aC w' (.slice ad l.length cap) l/\w'.cell? ⟨w.heap.size+1,0,none⟩=some (.int .i64 (seen 0))/\w'.cell? ⟨w.heap.size+1,1,none⟩=some (.int .i64 (seen 1))/\w'.cell? ⟨w.heap.size+1,2,none⟩=some (.int .i64 (seen 2))/\w'.cell? ⟨w.heap.size+1,3,none⟩=some (.int .i64 (seen 3))):=λw' hw=>
  ⟨HBlk.out _ (bc hB2 hw),aU (aU hbc0 hB2) hw,hlk w' (aQ (aQ hm hB2) hw),(aC.below HV.out hB2).below hw,aU (c2 0) hw,aU (c2 1) hw,aU (c2 2) hw,aU (c2 3) hw⟩
 have HB2:Hid _:=hB2;clear hB2 c2 hlk;go_region_held3 (λw'=>er w' b bm num/\w'.cell? ⟨b,0,none⟩=some (.int .i64 num)/\(Instr.lookup 98 (.map (some bms)) (.string key) false).run aa.prog w'=.ok (bL c (.slice ad l.length cap)) w'/\aC w' (.slice ad l.length cap) l/\w'.cell? ⟨w.heap.size+1,0,none⟩=some (.int .i64 (seen 0))/\w'.cell? ⟨w.heap.size+1,1,none⟩=some (.int .i64 (seen 1))/\w'.cell? ⟨w.heap.size+1,2,none⟩=some (.int .i64 (seen 2))/\w'.cell? ⟨w.heap.size+1,3,none⟩=some (.int .i64 (seen 3)))
  ((refine hmk.out _ ?_;first|(simp (maxDischargeDepth:=12) [AT,IT,W9,Xj];done)|(simp (maxDischargeDepth:=12) [AT,IT,W9,Xj,B3,y3];done)|(simp (maxDischargeDepth:=12) [AT,IT,W9,Xj,B6,y6];done)|(simp (maxDischargeDepth:=12) [AT,IT,W9,Xj,B4,y4,y3,y6];done)))
  (first
   |(go_at_call 39;refine By (HSeg.out _ (by go_split_ands;assumption)) ?_;rintro e w6 ⟨rfl,hb6,z6⟩;obtain⟨s1,s2⟩:=jN hb6;(try simp only[Yg,kM]at z6);have B6:Below w2.heap.size w2 w6:=iT hb6 (by first|(simp (maxDischargeDepth:=12) [AT,IT,W9];done)|(simp (maxDischargeDepth:=12) [AT,IT,W9,B3,y3];done));have y6:=B6.size;(try (have x6:w2.heap.size<w6.heap.size:=by omega));(try (have x6':w3.heap.size<w6.heap.size:=by omega));clear hb6)
   |(go_at_call 41;refine (sr val _ (by omega)).mono ?_;rintro e w3 ⟨rfl,hb3⟩;obtain⟨q1,q2⟩:=jN hb3;have B3:Below w2.heap.size w2 w3:=iT hb3 (by first|(simp (maxDischargeDepth:=12) [AT,IT,W9];done)|(simp (maxDischargeDepth:=12) [AT,IT,W9,B6,y6];done));have y3:=B3.size;have z3:=hb3.size;(try simp only[Yg,kM]at z3);(try (have x3:w2.heap.size<w3.heap.size:=by omega));(try (have x3':w6.heap.size<w3.heap.size:=by omega));clear hb3)
   |(go_at_call 40;refine (Sv c _ l num val seen _ (by go_split_ands;assumption) HR.out HL.out hnum HN.out.1 HN.out.2.1 HN.out.2.2).mono ?_;rintro e w4 ⟨v',l',rfl,hperm,hsort,aD,hb4⟩;obtain⟨ad',cap',hv'⟩:=oz aD;subst hv';have V4:=aC.si aD;have N4:=Jm aD;(try simp only[Yg,kM]at N4);(try (have n2:=N4 w2.heap.size (by omega)));(try (have n3:=N4 w3.heap.size (by omega)));(try (have n6:=N4 w6.heap.size (by omega)));clear N4;obtain⟨p1,p2⟩:=jN hb4;have B4:Below w2.heap.size w2 w4:=iT hb4 (by first|(simp (maxDischargeDepth:=12) [AT,IT,W9,B3,y3];done)|(simp (maxDischargeDepth:=12) [AT,IT,W9,B6,y6];done));have y4:=B4.size;have HP:Hid _:=hperm;have HS:Hid _:=hsort;clear aD hb4 hperm hsort))
 all_goals
  go_wp2_with (go_at_call 42;go_must (refine (CJ b num bm K key (bump (aZ c seen) num) _ l' _ ⟨by omega,hkey⟩ HKn.out (aB.below HRep.out (bc HB2.out (by simp (maxDischargeDepth:=12) [AT,IT,W9,Xj,B4,y4,y3,y6]))) (by first|(simp[TY,V4];done)|(simp (maxDischargeDepth:=12) [zI,V4,n2];done)|(simp (maxDischargeDepth:=12) [zI,V4,n3];done)|(simp (maxDischargeDepth:=12) [zI,V4,n6];done))).mono ?_);rintro e w5 ⟨rfl,hrep5,hg5⟩;have B5:=tR (w:=w2) (by simp (maxDischargeDepth:=12) [AT,IT,W9,Xj,B4,y4,y3,y6]) hg5;have HR5:Hid _:=hrep5;clear hrep5 hg5)
  go_ret;exact⟨rfl,l',HP.out,HS.out,HR5.out,by have g:=tR HB2.out B5;rw[HBMS.out]at g;exact g⟩
end Go.Proofs.YtldmcdeibiclkaaGreatDoorQ
