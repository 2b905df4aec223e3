/-
  Toward converged_holds: Contract: local.
-/
import Derived.Test.YtldmcdeibiclkaaGreatDoorC28
set_option linter.unusedVariables false
set_option linter.unusedSimpArgs false
set_option maxRecDepth 100000
set_option maxHeartbeats 20000000
namespace Go.Proofs.YtldmcdeibiclkaaGreatDoorQ
variable {w w2 w' w1:World}{B bt j l gg bx cap:Nat}{A C:Array Value}{b gm bm1:Nat->Nat}{bm:Nat->Nat->Nat}{rv:Value}{t0:TypeId}{ad:Option Addr}{g:ay}{ks:Nat->ByteArray}
open Go.RowKit
section
attribute [local go_sem ↓] um Xa Xb Me Dh
attribute [local go_sem] tM qo sA uI Ut EM Eo vT jf kG
theorem Kx{wc:World}{n size o gk L ck:Nat}{u v':Value}{xs:List Value}{A1:Array Value}(hgrow:((wc.alloc (.cells C t0)).drew).grownBy w2 (Value.slice (some ⟨gk,0,none⟩) L ck).ownBlock)(hT2:w2.heap[bt]?=some (.cells A1 42))(aD:w2.ownsRow B 74 size v' n xs)(hat:(Value.slice (some ⟨gk,0,none⟩) L ck).ownBlock=some gg\/gg=wc.heap.size+1):
  (w2.setCell ⟨bt,o,none⟩ u).ownsRow B 74 size v' n xs/\Fr (λb=>b=bt\/b=gk) wc (w2.setCell ⟨bt,o,none⟩ u)/\(gg=gk\/wc.heap.size<=gg):=by
 refine⟨?_,?_,?_⟩
 ·exact (Fr.setCell (X:=λb=>b=bt) (Fr.refl _ w2) (Or.inr rfl) u).ji aD (λb cur hb e=>by rw[e,hT2]at hb;exact absurd (eB hb) (by decide))
 ·exact Fr.setCell (((Fr.refl (λb=>b=bt\/b=gk) wc).alloc _).drew.grown hgrow (λq hq _=>by cases hq;exact Or.inr rfl)) (Or.inr (Or.inl rfl)) u
 ·rcases hat with h|h
  ·cases h;exact Or.inl rfl
  ·exact Or.inr (by omega)
theorem Iu{wc:World}{n at' k:Nat}(hN:bk B wc bt g)(hJ:Jx w bx ad n cap wc)(hD:bY w bx ad n cap at')(hB:B<=bx)(hnb:0<n->∀b off,ad=some ⟨b,off,none⟩->b<B)(hk:k<3)(hF:Fr (λb=>b=bt\/b=g.gm k) wc w2):
  Below B w w2/\∃at2,bY w2 bx ad n cap at2:=by
 obtain⟨hgB,cur,hgc⟩:=rK (hN.cG k hk) (g.gm k) rfl;have hbw:B<=wc.heap.size:=by
  have:=hN.hB.1
  have:=(Array.getElem?_eq_some_iff.1 hN.hT).1;omega
 have hb:Below B w w2:=(hJ.toBelow hB).trans (hF.toBelow (λb e=>by
  rcases e with e|e
  ·rw[e];exact hN.hB.1
  ·rw[e];exact hgB) hbw)
 refine⟨hb,yT hD hJ hF (λe=>?_) hnb hb⟩;obtain⟨_,⟨a,_,h3⟩,_⟩:=hJ;rcases e with e|e
 ·rw[e,hN.hT]at h3;exact absurd (eB h3) (by decide)
 ·rw[e,hgc]at h3;exact absurd (eB h3) (by decide)
theorem Jt(B bt bx n cap at':Nat)(ad:Option Addr)(g:ay)(ks:Nat->ByteArray)(w:World)(hN:bk B w bt g)(hI:bS ks g)(hK:eY w ks)(hD:bY w bx ad n cap at')(hnb:0<n->∀b off,ad=some ⟨b,off,none⟩->b<B)(hB:B<=bx)(hB0:0<B):
  Calls aa.prog 8 #[.pointer (some ⟨bt,0,none⟩),.pointer (some ⟨bx,0,none⟩)] w λe w'=>e=.returned (.bool true)/\Below B w w'/\∃g',g'.nr=g.nr/\bk B w' bt g'/\bS ks g'/\∃at2,bY w' bx ad n cap at2:=by
 have hnb':0<n->∀b off,ad=some ⟨b,off,none⟩->b≠bx:=λh0 b off h=>by have:=hnb h0 b off h;omega
 have HJ:Hid (∀w',Jx w bx ad n cap w'->bk B w' bt g):=λw' h=>hN.fr h.1 (hN.yI hD.1 (by decide) (by decide) (by decide) (by decide) (by decide) (by decide));have HDice:Hid (∀w',Jx w bx ad n cap w'->∃at2,bY w' bx ad n cap at2):=λw' h=>h.yC hD.2.2.1 hD.2.2.2 hnb';have HNx:Hid (∀(m:Int) W,1<=m->m<=1000->Jx w bx ad n cap W->Calls aa.prog 14 #[.pointer (some ⟨bx,0,none⟩),.int .i64 m] W λe w'=>∃r:Nat,e=.returned (.int .i64 r)/\(r:Int)<m/\Jx w bx ad n cap w'):=by
  intro m W h1 h2 hJW;obtain⟨a,hW⟩:=HDice.out W hJW;refine (sx bx ad n cap a m W hW hnb' h1 h2).mono ?_;rintro e w' ⟨r,at2,rfl,hr,hd,_,hg,hz⟩;exact⟨r,rfl,hr,Jx.next hJW hg hd⟩
 have J0:Hid (Jx w bx ad n cap w):=Jx.start hD;have HI:Hid (bS ks g):=hI;have HKA:Hid (eY w ks):=hK;have c0:w.cell? ⟨bt,0,none⟩=some (.slice (some ⟨g.br,0,none⟩) g.nr g.cT):=by rw[(au hN.hT).1];exact hN.h0
 have hnr1:(1:Int)<=(g.nr:Int):=by have:=hI.cC;omega
 have hnr4:(g.nr:Int)<=4:=by have:=hI.cC;omega
 obtain⟨wad,wcap,hwv⟩:=uQ hN.hw;have HT1:Hid (∀w',Jx w bx ad n cap w'->w'.cell? ⟨bt,1,none⟩=some (.slice wad g.ws.length wcap)):=λw' h=>by rw[(au (HJ.out w' h).hT).1,(HJ.out w' h).h1,hwv]
 have HPuts:Hid (∀(W:World) (i k:Nat),Jx w bx ad n cap W->i<g.nr->k<3->g.ws.length<80->Calls aa.prog 24 #[.pointer (some ⟨bt,0,none⟩),.pointer (some ⟨bx,0,none⟩),.int .i64 i,.int .i64 k] W λe w'=>e=.returned (.bool true)/\Below B w w'/\∃g',g'.nr=g.nr/\bk B w' bt g'/\bS ks g'/\∃at2,bY w' bx ad n cap at2):=λW i k hW hi hk hl=>by
  obtain⟨a,hDW⟩:=HDice.out W hW;refine (Sy B bt bx n cap a i k ad g ks W (HJ.out W hW) hI (hK.below hB0 (hW.toBelow hB)) hDW hnb hB hB0 hi hk hl).mono ?_;rintro e w' ⟨rfl,hb,hr⟩;exact⟨rfl,(hW.toBelow hB).trans hb,hr⟩
 have HDels:Hid (∀(W:World) (i k:Nat),Jx w bx ad n cap W->i<g.nr->k<3->Calls aa.prog 25 #[.pointer (some ⟨bt,0,none⟩),.pointer (some ⟨bx,0,none⟩),.int .i64 i,.int .i64 k] W λe w'=>e=.returned (.bool true)/\Below B w w'/\∃g',g'.nr=g.nr/\bk B w' bt g'/\bS ks g'/\∃at2,bY w' bx ad n cap at2):=λW i k hW hi hk=>by
  obtain⟨a,hDW⟩:=HDice.out W hW;refine (Mm B bt bx n cap a i k ad g ks W (HJ.out W hW) hI (hK.below hB0 (hW.toBelow hB)) hDW hnb hB hB0 hi hk).mono ?_;rintro e w' ⟨rfl,hb,hr⟩;exact⟨rfl,(hW.toBelow hB).trans hb,hr⟩
 have HD0:Hid (bY w bx ad n cap at'):=hD;clear hN hI hK hD hwv;go_enter aa.func8,aa.ntmps8;go_wp2_with (first
  |(go_at_call_of 14 (Value.int IntKind.i64 (g.nr:Int));refine By (HNx.out (g.nr:Int) _ hnr1 (by omega) J0.out) ?_;rintro e w1 ⟨ii,rfl,hii,hJ1⟩;have J1:Hid (Jx w bx ad n cap w1):=hJ1;clear hJ1)
  |(go_at_call_of 14 (Value.int IntKind.i64 (3:Int));refine By (HNx.out 3 _ (by omega) (by omega) J1.out) ?_;rintro e w2 ⟨kk,rfl,hkk,hJ2⟩;have J2:Hid (Jx w bx ad n cap w2):=hJ2;clear hJ2)
  |(go_at_call_of 14 (Value.int IntKind.i64 (8:Int));refine By (HNx.out 8 _ (by omega) (by omega) J2.out) ?_;rintro e w3 ⟨cc,rfl,hcc,hJ3⟩;have J3:Hid (Jx w bx ad n cap w3):=hJ3;have t1:=HT1.out _ hJ3;clear hJ3)
  |(go_at_call 24;refine By (HPuts.out _ ii kk J3.out (by omega) (by omega) (by omega)) ?_;rintro e w4 ⟨rfl,hres⟩;have HRes:Hid _:=hres;clear hres)
  |(go_at_call 25;refine By (HDels.out _ ii kk J3.out (by omega) (by omega)) ?_;rintro e w4 ⟨rfl,hres⟩;have HRes:Hid _:=hres;clear hres))
 ·go_ret;exact⟨rfl,HRes.out⟩
 ·go_ret;exact⟨rfl,HRes.out⟩
 ·go_ret;exact⟨rfl,HRes.out⟩
 have hii':ii<g.nr:=by omega
 have hkk':kk<3:=by omega
 have hii0:(0:Int)<=(ii:Int):=by omega
 have hkk0:(0:Int)<=(kk:Int):=by omega
 have hii4:(ii:Int)<4:=by omega
 have N3:Hid (bk B w3 bt g):=HJ.out _ J3.out;have K3:Hid (eY w3 ks):=HKA.out.below hB0 (J3.out.toBelow hB);have hmk:Hid (∀w',Below w3.heap.size w3 w'->w'.cell? ⟨bt,0,none⟩=some (.slice (some ⟨g.br,0,none⟩) g.nr g.cT)/\w'.cell? ⟨g.br,ii,none⟩=some (.pointer (some ⟨g.b ii,0,none⟩))/\w'.cell? ⟨0,kk,none⟩=some (.string (ks kk))/\aA w' (g.b ii) (g.bm ii) ii (g.K ii)):=λw' hw=>
  ⟨bp (by rw[(au N3.out.hT).1];exact N3.out.h0) hw,bp (by rw[(au N3.out.hR).1];exact N3.out.iQ ii hii') hw,bp (K3.out.cell kk hkk') hw,(N3.out.ct ii hii').below hw⟩
 have hget:Hid (∀W,aA W (g.b ii) (g.bm ii) ii (g.K ii)->Calls aa.prog 22 #[.pointer (some ⟨g.b ii,0,none⟩),.string (ks kk)] W λe w'=>∃v',e=.returned (.tuple #[v',cU (g.K ii (ks kk)).1,.int .i64 0])/\w'.ownsRow W.heap.size 71 3 v' (g.K ii (ks kk)).2.length (bd (g.K ii (ks kk)).2)/\Below W.heap.size W w'):=λW hW=>Ep (g.b ii) ii (g.bm ii) (g.K ii) (ks kk) W hW (HI.out.eM ii hii') (K3.out.key kk hkk').1 (K3.out.key kk hkk').2;have hw3:Hid (w.heap.size<=w3.heap.size):=J3.out.1.size;clear t1 HPuts HDels HNx;generalize hcx:(g.K ii (ks kk)).1=cx at*;have HCX:Hid _:=hcx;clear hcx;go_cut [8,9,10] from 46 to 61 (λlv pv ev wx=>ev=.int .i64 0/\∃q,pv=.pointer (some ⟨q,0,none⟩)/\wx.cell? ⟨q,0,none⟩=some (.int .i64 (cx 0))/\wx.cell? ⟨q,1,none⟩=some (.int .i64 (cx 1))/\wx.cell? ⟨q,2,none⟩=some (.int .i64 (cx 2))/\wx.cell? ⟨q,3,none⟩=some (.int .i64 (cx 3))/\Jx w bx ad n cap wx)
 case first=>
  go_region_held3 (λw'=>w'.cell? ⟨bt,0,none⟩=some (.slice (some ⟨g.br,0,none⟩) g.nr g.cT)/\w'.cell? ⟨g.br,ii,none⟩=some (.pointer (some ⟨g.b ii,0,none⟩))/\w'.cell? ⟨0,kk,none⟩=some (.string (ks kk))/\aA w' (g.b ii) (g.bm ii) ii (g.K ii))
   ((refine hmk.out _ ?_;first|(simp (maxDischargeDepth:=12) [AT,No,Vw,VI];done)|(simp (maxDischargeDepth:=12) [AT,No,Vw,VI,B4,z4];done)))
   (first|(go_at_call 22;refine By (hget.out _ (by go_split_ands;assumption)) ?_;rintro e w4 ⟨v',rfl,aD,hb4⟩;obtain⟨q1,q2⟩:=kh hb4;have B4:Below w3.heap.size w3 w4:=jn hb4 (by simp (maxDischargeDepth:=12) [AT,No,Vw]);have z4:=B4.size;have y4:=hb4.size;(try simp only[WK,lr]at y4);(try (have h4:w4.heap[w3.heap.size]?=some (.cells #[.int .i64 0,.int .i64 0,.int .i64 0,.int .i64 0] 66):=aS (W:=w3.drew.alloc (.cells #[.int .i64 0,.int .i64 0,.int .i64 0,.int .i64 0] 66)) (BY w3.drew _) hb4));clear aD hb4))
  ·go_wp2_with fail;go_meet;have e:=(au (BY w4 (.cells #[.int .i64 (cx 0),.int .i64 (cx 1),.int .i64 (cx 2),.int .i64 (cx 3)] 66))).1;exact⟨rfl,w4.heap.size,rfl,e 0,e 1,e 2,e 3,(J3.out.below B4).alloc _⟩
  ·go_wp2_with fail;go_meet;have e:=(au (heap_set (o:=3) (v:=.int .i64 (cx 3)) (heap_set (o:=2) (v:=.int .i64 (cx 2)) (heap_set (o:=1) (v:=.int .i64 (cx 1)) (heap_set (o:=0) (v:=.int .i64 (cx 0)) h4))))).1;exact⟨rfl,w3.heap.size,rfl,e 0,e 1,e 2,e 3,((((J3.out.below B4).setCell hw3.out _).setCell hw3.out _).setCell hw3.out _).setCell hw3.out _⟩
 case rest=>
  obtain⟨rfl,q,rfl,e0,e1,e2,e3,hJ⟩:=hcut;have HJC:Hid (Jx w bx ad n cap wc):=hJ;clear N3 K3 hmk hget;have NC:Hid (bk B wc bt g):=HJ.out _ hJ;have tm:wc.cell? ⟨bt,1922+kk,none⟩=some (.slice (some ⟨g.gm kk,0,none⟩) (g.mem kk).length (g.j9 kk)):=by rw[(au NC.out.hT).1];exact NC.out.eS kk hkk'
  have hL:=HI.out.jb kk hkk';by_cases h30:(g.mem kk).length<30
  ·have h30':((g.mem kk).length:Int)<30:=by omega
   have hi4n:ii<4:=by omega
   obtain⟨r1,q1⟩:=lC (w:=wc) (b:=bt) (o:=2+ii*240+kk*80) (s:=g.kn ii kk) (λj hj=>by rw[(au NC.out.hT).1];exact NC.out.bz ii kk j hi4n hkk' hj);have hE:=Tu cx (g.kn ii kk);have hT:=NC.out.hT;have hbt:=(Array.getElem?_eq_some_iff.1 hT).1;have HT:Hid (wc.heap[bt]?=some (.cells g.A 42)):=hT;have hAs:=NC.out.hA;have WC:Hid (wc.ownsRow B 74 84 (.slice (some ⟨g.gm kk,0,none⟩) (g.mem kk).length (g.j9 kk)) (g.mem kk).length (ij (g.mem kk))):=NC.out.cG kk hkk';have hgb:Hid (∃cur,wc.heap[g.gm kk]?=some (.cells cur 74 (0,0))):=(rK WC.out _ rfl).2;have hbtn:Hid (¬g.gm kk=bt):=λe=>by
    obtain⟨cur,hc⟩:=hgb.out;rw[e,HT.out]at hc;exact absurd (eB hc) (by decide)
   have hBs:Hid (B<=wc.heap.size):=by
    have h1:=NC.out.hB.1;show _<=_;omega
   have hone:Hid (∀u∈b9 (cx,g.kn ii kk),u.oneCell'=true):=EK _;obtain⟨i0,hi0,hz0,hz1,hz2⟩:=VH aa.Gp;clear hT hJ;go_wp2;go_cut [] from 69 to 92 (λwx=>∃A2 ga ca,wx.heap[bt]?=some (.cells A2 42)/\A2.size=1939/\A2[1922+kk]?=some (.slice (some ⟨ga,0,none⟩) ((g.mem kk).length+1) ca)/\(∀q,q≠1922+kk->A2[q]?=g.A[q]?)/\wx.ownsRow B 74 84 (.slice (some ⟨ga,0,none⟩) ((g.mem kk).length+1) ca) ((g.mem kk).length+1) (ij (g.mem kk)++b9 (cx,g.kn ii kk))/\Fr (λb=>b=bt\/b=g.gm kk) wc wx/\(ga=g.gm kk\/wc.heap.size<=ga))
   case first=>
    go_region_law (first|(refine step_append_lies _ rfl _ _ _ rfl B 74 i0 _ 84 112 aa.underlying36 hi0 hz0 hz1 hz2 gR (by omega) (.slice (some ⟨g.gm kk,0,none⟩) (g.mem kk).length (g.j9 kk)) _ _ rfl ((World.ownsRow.drew WC.out).alloc _) ⟨wc.heap.size,0,none⟩ 1 1 (b9 (cx,g.kn ii kk)) rfl (kG _) (VM (cs:=(b9 (cx,g.kn ii kk)).toArray) (t:=74) (fr:=(0,0)) (BY wc.drew _)) hone.out (by omega) (by unfold maxLen;omega) (by omega) (by have:=hBs.out;simp;omega) (wc.heap.size+1) (by simp) ?_;intro gg capn w2 hown2 hgrow hat hlt2;have T2:w2.heap[bt]?=some (.cells g.A 42):=(by rw[hgrow.block bt (by simp;omega) (λe=>hbtn.out (by cases e;rfl))];show (wc.alloc _).heap[bt]?=_;rw[Vx _ _ _ hbt];exact HT.out);have s1:w2.cell? ⟨bt,1922+kk,none⟩=some g.A[1922+kk]:=(by rw[(au T2).1];exact Array.getElem?_eq_getElem (by omega));have s2:w2.frozen? ⟨bt,1922+kk,none⟩=false:=(au T2).2 _;have HT2:Hid (w2.heap[bt]?=some (.cells g.A 42)):=T2;have HO2:Hid _:=Kx (o:=1922+kk) (u:=.slice (some ⟨gg,0,none⟩) ((g.mem kk).length+1) capn) hgrow T2 hown2 hat;clear T2 hown2 hgrow hat hlt2))
    all_goals
     go_wp2_with fail;go_meet;obtain⟨d1,d2,d3⟩:=HO2.out;refine⟨_,gg,capn,heap_set HT2.out,?_,?_,?_,d1,d2,d3⟩
     ·rw[VX];exact hAs
     ·rw[Array.getElem?_setIfInBounds,AS rfl,AS (by omega)]
     ·intro q hq;rw[Array.getElem?_setIfInBounds,AI (λe=>hq e.symm)]
   case rest=>
    have HC:Hid _:=hcut;clear hcut r1 q1 hE tm e0 e1 e2 e3;go_wp2;go_ret;obtain⟨A2,ga,ca,b1,b2,b3,b4,b5,b6,b7⟩:=HC.out;obtain⟨f1,f2⟩:=Iu NC.out HJC.out HD0.out hB hnb hkk' b6;refine⟨rfl,f1,g.jP ks ii kk ga ca A2,rfl,NC.out.jP b6 hkk' (by omega) (λl hl=>(HI.out.jb l hl).1) b1 b2 b3 b4 ?_ b7,HI.out.jP A2 hii' hkk' h30,f2⟩;rw[HCX.out];exact b5
  ·have h30': ¬((g.mem kk).length:Int)<30:=by omega
   clear hJ;go_wp2;go_ret;exact⟨rfl,HJC.out.toBelow hB,g,rfl,NC.out,HI.out,HDice.out _ HJC.out⟩
end
theorem wm:gK.toList=List.replicate 2 (Value.slice none 0 0)++(List.replicate 1920 (Value.bool false)++(List.replicate 5 (Value.slice none 0 0)++List.replicate 12 (Value.int .i64 0))):=by
 unfold gK;rw[List.toList_toArray]
theorem CO(q:Nat)(h:q<2):gK[q]?=some (.slice none 0 0):=by
 rw[<-Array.getElem?_toList,wm,List.getElem?_append_left (by rw[Wu];exact h),List.getElem?_replicate,AS h]
theorem B9(q:Nat)(h:q<1920):gK[2+q]?=some (.bool false):=by
 rw[<-Array.getElem?_toList,wm,List.getElem?_append_right (by rw[Wu];omega),Wu,List.getElem?_append_left (by rw[Wu];omega),List.getElem?_replicate,AS (by omega)]
theorem Tl(q:Nat)(h:q<12):gK[1927+q]?=some (.int .i64 0):=by
 rw[<-Array.getElem?_toList,wm,List.getElem?_append_right (by rw[Wu];omega),Wu,List.getElem?_append_right (by rw[Wu];omega),Wu,List.getElem?_append_right (by rw[Wu];omega),Wu,List.getElem?_replicate,AS (by omega)]
def oa:Mem:=(λ_=>0,λ_=>false)
theorem Qq:(b9 oa).toArray=eJ:=by
 apply Array.ext';simp[b9,oa,eJ,nj,bits,List.map_const']
def od(b:Nat->Nat)(j:Nat):List Value:=(List.range j).map λi=>Value.pointer (some ⟨b i,0,none⟩)
structure gI(B:Nat)(w:World)(bt j l:Nat)(A:Array Value)(rv:Value)(b:Nat->Nat)(bm:Nat->Nat->Nat)(gm:Nat->Nat):Prop where
 hB:B<=bt/\(∀i n,i<j->n<64->B<=bm i n)/\∀k,k<l->B<=gm k
 hT:w.heap[bt]?=some (.cells A 42)
 hA:A.size=1939
 h0:A[0]?=some rv
 ho:∀q,q≠0->(∀k,k<l->q≠1922+k)->A[q]?=gK[q]?
 hr:w.ownsRow B 29 1 rv j (od b j)
 ct:∀i,i<j->aA w (b i) (bm i) i eN
 fe:∀i i' n n',i<j->i'<j->n<64->n'<64->bm i n=bm i' n'->i=i'
 eS:∀k,k<l->A[1922+k]?=some (.slice (some ⟨gm k,0,none⟩) 1 1)
 cG:∀k,k<l->w.heap[gm k]?=some (.cells eJ 74)
 eQ:∀k k',k<l->k'<l->gm k=gm k'->k=k'
theorem gI.below(h:gI B w bt j l A rv b bm gm)(hb:Below w.heap.size w w'):gI B w' bt j l A rv b bm gm where
 hB:=h.hB
 hT:=aS h.hT hb
 hA:=h.hA
 h0:=h.h0
 ho:=h.ho
 hr:=Fr.row (X:=λ_=>False) (Fr.lz hb) h.hr (λ_ _ _ _ _ e=>e)
 ct:=λi hi=>(h.ct i hi).below hb
 fe:=h.fe
 eS:=h.eS
 cG:=λk hk=>aS (h.cG k hk) hb
 eQ:=h.eQ
theorem gI.push{b1 ca:Nat}(h:gI B w1 bt j 0 A rv b bm gm)(hw:w.heap.size<=w1.heap.size)(hbw:∀i n,i<j->n<64->bm i n<w.heap.size)(hB:B<=w.heap.size)(hR:aA w1 b1 bm1 j eN)(hb1:∀m,m<64->w.heap.size<=bm1 m)(hgrow:(w1.alloc (.cells C t0)).grownBy w2 rv.ownBlock)(aD:w2.ownsRow B 29 1 (.slice (some ⟨gg,0,none⟩) (j+1) ca) (j+1) (od b j++ [.pointer (some ⟨b1,0,none⟩)])):
  gI B (w2.setCell ⟨bt,0,none⟩ (.slice (some ⟨gg,0,none⟩) (j+1) ca)) bt (j+1) 0 (A.setIfInBounds 0 (.slice (some ⟨gg,0,none⟩) (j+1) ca)) (.slice (some ⟨gg,0,none⟩) (j+1) ca) (λi=>if i=j then b1 else b i) (λi=>if i=j then bm1 else bm i) gm/\Fr (λq=>q=bt\/∃cur,w1.heap[q]?=some (.cells cur 29 (0,0))) w1 (w2.setCell ⟨bt,0,none⟩ (.slice (some ⟨gg,0,none⟩) (j+1) ca))/\(∀q,q<B->(w2.setCell ⟨bt,0,none⟩ (.slice (some ⟨gg,0,none⟩) (j+1) ca)).heap[q]?=w1.heap[q]?):=by
 have hrow:∀q,rv.ownBlock=some q->B<=q/\∃cur,w1.heap[q]?=some (.cells cur 29 (0,0)):=λq hq=>rK h.hr q hq;have hbtl:=(Array.getElem?_eq_some_iff.1 h.hT).1;have hbtn: ¬rv.ownBlock=some bt:=λe=>by
  obtain⟨_,cur,hc⟩:=hrow bt e;rw[h.hT]at hc;exact absurd (eB hc) (by decide)
 have hT2:w2.heap[bt]?=some (.cells A 42):=by
  rw[hgrow.block bt (by simp;omega) (λe=>hbtn e.symm),Vx _ _ _ hbtl];exact h.hT
 have hF:Fr (λq=>q=bt\/∃cur,w1.heap[q]?=some (.cells cur 29 (0,0))) w1 (w2.setCell ⟨bt,0,none⟩ (.slice (some ⟨gg,0,none⟩) (j+1) ca)):=
  Fr.setCell (((Fr.refl (λq=>q=bt\/∃cur,w1.heap[q]?=some (.cells cur 29 (0,0))) w1).alloc _).grown hgrow (λq hq _=>Or.inr (hrow q hq).2)) (Or.inr (Or.inl rfl)) _
 have hcells:∀{q:Nat} {D:Array Value} {t:TypeId} {fr:Nat×Nat},w1.heap[q]?=some (.cells D t fr)->t≠42->t≠29->¬(q=bt\/∃cur,w1.heap[q]?=some (.cells cur 29 (0,0))):=λhq h1 h2 e=>by
  rcases e with e|⟨cur,e⟩
  ·rw[e,h.hT]at hq;exact h1 (eB hq).symm
  ·rw[e]at hq;exact h2 (eB hq).symm
 have ct:∀{b' num:Nat} {bm':Nat->Nat},aA w1 b' bm' num eN->aA (w2.setCell ⟨bt,0,none⟩ (.slice (some ⟨gg,0,none⟩) (j+1) ca)) b' bm' num eN:=λhr=>by
  refine hF.rep hr ?_ (λn hn e=>?_) (λq cur hq=>hcells hq (by decide) (by decide))
  ·obtain⟨⟨D,hD,_⟩,_⟩:=hr;exact hcells hD (by decide) (by decide)
  ·obtain⟨es,clock,hm,_⟩:=hr.2.1 n hn;rcases e with e|⟨cur,e⟩
   ·rw[e,h.hT]at hm;cases hm
   ·rw[e]at hm;cases hm
 refine⟨?_,hF,λq hq=>?_⟩
 ·exact {
   hB:=⟨h.hB.1,λi n hi hn=>by
    by_cases e:i=j
    ·simp only[AS e];exact OF hB (hb1 n hn)
    ·simp only[AI e];exact h.hB.2.1 i n (by omega) hn,λk hk=>absurd hk (by omega)⟩
   hT:=heap_set hT2
   hA:=by rw[VX];exact h.hA
   h0:=by rw[Array.getElem?_setIfInBounds,AS rfl,AS (by rw[h.hA];omega)]
   ho:=λq hq _=>by rw[Array.getElem?_setIfInBounds,AI (λe=>hq e.symm)];exact h.ho q hq (λk hk=>absurd hk (by omega))
   hr:=by
    have e1:od (λi=>if i=j then b1 else b i) (j+1)=od b j++ [.pointer (some ⟨b1,0,none⟩)]:=by
     unfold od;rw[Wn,WL];congr 1
     ·refine Wb λi hi=>?_
      have:=List.mem_range.1 hi;dsimp only;rw[AI (by omega)]
     ·simp
    rw[e1];exact (Fr.setCell (X:=λq=>q=bt) (Fr.refl _ w2) (Or.inr rfl) _).ji aD (λq cur hq e=>by rw[e,hT2]at hq;exact absurd (eB hq) (by decide))
   ct:=λi hi=>by
    by_cases e:i=j
    ·subst e;simp only[IS];exact ct hR
    ·simp only[AI e];exact ct (h.ct i (by omega))
   fe:=λi i' n n' hi hi' hn hn' he=>by
    by_cases e:i=j
    ·by_cases e':i'=j
     ·rw[e,e']
     ·simp only[AS e,AI e']at he;have h1:=hb1 n hn;have h2:=hbw i' n' (by omega) hn';omega
    ·by_cases e':i'=j
     ·simp only[AI e,AS e']at he;have h1:=hb1 n' hn';have h2:=hbw i n (by omega) hn;omega
     ·simp only[AI e,AI e']at he;exact h.fe i i' n n' (by omega) (by omega) hn hn' he
   eS:=λk hk=>absurd hk (by omega)
   cG:=λk hk=>absurd hk (by omega)
   eQ:=λk k' hk=>absurd hk (by omega)}
 ·have hne:q≠bt:=by have:=h.hB.1;omega
  rw[VC _ _ _ _ hne,hgrow.block q (by simp;omega) (λe=>by have:=(hrow q e.symm).1;omega),Vx _ _ _ (by omega)]
theorem gI.I6(h:gI B w bt j l A rv b bm gm)(hl:l<3)(hB:B<=w.heap.size):
  gI B ((w.setCell ⟨bt,1922+l,none⟩ (.slice (some ⟨w.heap.size,0,none⟩) 1 1)).alloc (.cells eJ 74)) bt j (l+1) (A.setIfInBounds (1922+l) (.slice (some ⟨w.heap.size,0,none⟩) 1 1)) rv b bm (λk=>if k=l then w.heap.size else gm k)/\Fr (λq=>q=bt) w ((w.setCell ⟨bt,1922+l,none⟩ (.slice (some ⟨w.heap.size,0,none⟩) 1 1)).alloc (.cells eJ 74)):=by
 have hF:Fr (λq=>q=bt) w ((w.setCell ⟨bt,1922+l,none⟩ (.slice (some ⟨w.heap.size,0,none⟩) 1 1)).alloc (.cells eJ 74)):=(Fr.setCell (X:=λq=>q=bt) (Fr.refl _ w) (Or.inr rfl) _).alloc _;have hsz:(w.setCell ⟨bt,1922+l,none⟩ (.slice (some ⟨w.heap.size,0,none⟩) 1 1)).heap.size=w.heap.size:=by simp[World.setCell]
 have hbtl:=(Array.getElem?_eq_some_iff.1 h.hT).1;have hlt:∀k,k<l->gm k<w.heap.size:=λk hk=>(Array.getElem?_eq_some_iff.1 (h.cG k hk)).1;refine⟨?_,hF⟩;exact {
  hB:=⟨h.hB.1,h.hB.2.1,λk hk=>by
   by_cases e:k=l
   ·simp only[AS e];exact hB
   ·simp only[AI e];exact h.hB.2.2 k (by omega)⟩
  hT:=by rw[Vx _ _ _ (by rw[hsz];exact hbtl)];exact heap_set h.hT
  hA:=by rw[VX];exact h.hA
  h0:=by rw[Array.getElem?_setIfInBounds,AI (by omega)];exact h.h0
  ho:=λq hq hk=>by rw[Array.getElem?_setIfInBounds,AI (λe=>hk l (by omega) e.symm)];exact h.ho q hq (λk hk'=>hk k (by omega))
  hr:=hF.ji h.hr (λq cur hq e=>by rw[e,h.hT]at hq;exact absurd (eB hq) (by decide))
  ct:=λi hi=>ES (h.ct i hi) h.hT hF
  fe:=h.fe
  eS:=λk hk=>by
   by_cases e:k=l
   ·subst e;simp only[IS];rw[Array.getElem?_setIfInBounds,AS rfl,AS (by rw[h.hA];omega)]
   ·simp only[AI e];rw[Array.getElem?_setIfInBounds,AI (by omega)];exact h.eS k (by omega)
  cG:=λk hk=>by
   by_cases e:k=l
   ·simp only[AS e]
    have:=BY (w.setCell ⟨bt,1922+l,none⟩ (.slice (some ⟨w.heap.size,0,none⟩) 1 1)) (.cells eJ 74);rw[hsz]at this;exact this
   ·simp only[AI e];exact hF.heap (h.cG k (by omega)) (λq=>by have:=h.cG k (by omega);rw[q,h.hT]at this;exact absurd (eB this) (by decide))
  eQ:=λk k' hk hk' he=>by
   by_cases e:k=l
   ·by_cases e':k'=l
    ·rw[e,e']
    ·simp only[AS e,AI e']at he
     have:=hlt k' (by omega);omega
   ·by_cases e':k'=l
    ·simp only[AI e,AS e']at he
     have:=hlt k (by omega);omega
    ·simp only[AI e,AI e']at he;exact h.eQ k k' (by omega) (by omega) he}
def ay.first(nr br cT:Nat)(R:Array Value)(b:Nat->Nat)(bm:Nat->Nat->Nat)(gm:Nat->Nat)(A:Array Value):ay:=
 {nr:=nr,br:=br,cT:=cT,R:=R,b:=b,bm:=bm,K:=λ_=>eN,ws:=[],wv:=.slice none 0 0,kn:=λ_ _ _=>false,go:=λ_ _ _=>false,mem:=λ_=>[oa],gm:=gm,j9:=λ_=>1,A:=A}
theorem tO:jj eN:=λs=>⟨λv hv=>by simp[eN]at hv,by simp[eN],λv hv=>by simp[eN]at hv,λi _=>by simp[eN]⟩
theorem SQ(k:Nat):expected [] (λ_=>false) (λ_=>false) k= []:=by
 simp[expected,cJ]
theorem bS.first{nr br cT:Nat}{R:Array Value}(h1:1<=nr)(h4:nr<=4):bS ks (ay.first nr br cT R b bm gm A) where
 cC:=⟨h1,h4⟩
 hlen:=by simp[ay.first]
 eH:=λj x hx=>by simp[ay.first]at hx
 dq:=λx hx=>by simp[ay.first]at hx
 dQ:=λx hx=>by simp[ay.first]at hx
 dc:=λi k _ _=>⟨λj x hx=>by simp[ay.first]at hx,λj _=>rfl,λb=>by simp[ay.first,eN,bu]⟩
 aD:=λi k _ _=>by simp[ay.first,eN,bu]
 hex:=λi k _ _=>by
  show (eN (ks k)).2=expected [] (λ_=>false) (λ_=>false) k;rw[SQ];rfl
 il:=λ_ _ _ _ _ _=>rfl
 jH:=λk m _ hm=>by
  have:m=oa:=by simpa[ay.first] using hm
  subst this;exact⟨λj x hx=>by simp[ay.first]at hx,λj _=>rfl,λb=>by simp[ay.first,oa,bu]⟩
 jb:=λk _=>by simp[ay.first]
 eM:=λi _=>tO
 eV:=λi _ s hs=>by obtain⟨q,_,hq⟩:=hs;exact absurd rfl hq
 dE:=λ_ _ _ _ _ h=>by cases h
theorem gI.Qy(h:gI B w bt j 3 A rv b bm gm)(hj:0<j): ∃br cT R,bk B w bt (ay.first j br cT R b bm gm A):=by
 rcases h.hr.2 with⟨_,h0⟩|⟨br,cT,R,hv,hbr,hR,hc1,hc2,hc3,htk⟩
 ·omega
 ·refine⟨br,cT,R,?_⟩;exact {
   hB:=⟨h.hB.1,h.hB.2.1⟩
   hT:=h.hT
   hA:=h.hA
   h0:=by show A[0]?=_;rw[h.h0,hv];rfl
   hR:=hR
   iQ:=λi hi=>by
    show R[i]?=_;have hi':i<j:=hi;have e1:(od b j)[i]?=some (.pointer (some ⟨b i,0,none⟩)):=by
     unfold od;rw[List.getElem?_map,List.getElem?_range hi'];rfl
    rw[<-htk,List.getElem?_take,AS (by omega),Array.getElem?_toList]at e1;exact e1
   ct:=h.ct
   fe:=h.fe
   h1:=by show A[1]?=_;rw[h.ho 1 (by omega) (λk hk=>by omega)];exact CO 1 (by omega)
   hw:=⟨rfl,Or.inl ⟨rfl,rfl⟩⟩
   bz:=λi k q hi hk hq=>by
    show A[2+i*240+k*80+q]?=_;rw[h.ho _ (by omega) (λl hl=>by omega),show 2+i*240+k*80+q=2+(i*240+k*80+q) by omega];exact B9 _ (by omega)
   hgo:=λi k q hi hk hq=>by
    show A[962+i*240+k*80+q]?=_;rw[h.ho _ (by omega) (λl hl=>by omega),show 962+i*240+k*80+q=2+(960+i*240+k*80+q) by omega];exact B9 _ (by omega)
   eS:=λk hk=>h.eS k hk
   cG:=λk hk=>by
    show w.ownsRow B 74 84 (.slice (some ⟨gm k,0,none⟩) 1 1) 1 (ij [oa]);have e1:ij [oa]=eJ.toList:=by
     rw[<-Qq];simp[ij]
    rw[e1];refine⟨by rw[Wc,gR],Or.inr ⟨gm k,1,eJ,rfl,h.hB.2.2 k hk,h.cG k hk,eR _,by unfold maxLen;omega,by rw[gR],?_⟩⟩;rw[Xh (by rw[Wc,gR];omega)]
   eQ:=h.eQ
   kV:=λi k hi hk=>by
    show A[1927+i*3+k]?=_;rw[h.ho _ (by omega) (λl hl=>by omega),show 1927+i*3+k=1927+(i*3+k) by omega,Tl _ (by omega)];rfl}
section
attribute [local go_sem ↓] Dh Xa Xb
attribute [local go_sem] Eo vT
abbrev l7:ByteArray:=⟨#[97]⟩
abbrev ub:ByteArray:=⟨#[120]⟩
abbrev Ls:ByteArray:=⟨#[65]⟩
def sC:Ctx:=λ_=>0
def Hp:Ctx:=λi=>if i=0 then 1 else 0
def pW:al:=bl eN l7 (bump (aU sC sC) 0,[(0,1,ub)])
theorem SC:jj pW:=by
 refine tO.upd (λv hv=>?_) (by simp) (λv hv=>?_) (λi hi=>?_)
 ·rw[List.mem_singleton.1 hv];decide
 ·rw[List.mem_singleton.1 hv];decide
 ·rcases fc hi with rfl|rfl|rfl|rfl<;>decide
theorem LA(b:Nat)(bm:Nat->Nat)(w:World)(h:aA w b bm 0 eN):
  Calls aa.prog 21 #[.pointer (some ⟨b,0,none⟩),.string ⟨#[97]⟩,.string ⟨#[120]⟩,.agg #[.int .i64 0,.int .i64 0,.int .i64 0,.int .i64 0]] w λe w'=>e=.returned (.int .i64 0)/\aA w' b bm 0 pW/\w.grownBy w' (some (bm (aC l7))):=by
 refine (Bw b 0 bm eN l7 ub sC w h tO (by decide) (by decide) (by decide) (by decide) (by decide) (by decide) (by decide) (by decide)).mono ?_;rintro e w' ⟨rfl,l',hp,_,hr,hg⟩;have hl:l'= [(0,1,ub)]:=List.perm_singleton.1 hp;subst hl;exact⟨rfl,hr,hg⟩
theorem OV(b:Nat)(bm:Nat->Nat)(w:World)(h:aA w b bm 0 pW):
  Calls aa.prog 22 #[.pointer (some ⟨b,0,none⟩),.string ⟨#[97]⟩] w λe w'=>∃g cap c0 c1 c2 c3,e=.returned (.tuple #[.slice (some ⟨g,0,none⟩) 1 cap,.agg #[.int .i64 c0,.int .i64 c1,.int .i64 c2,.int .i64 c3],.int .i64 0])/\w'.cell? ⟨g,0,none⟩=some (.int .i64 0)/\w'.cell? ⟨g,1,none⟩=some (.int .i64 1)/\w'.cell? ⟨g,2,none⟩=some (.string ⟨#[120]⟩)/\Below w.heap.size w w':=by
 refine (Ep b 0 bm pW l7 w h SC (by decide) (by decide)).mono ?_;rintro e w' ⟨v',rfl,aD,hb⟩;have hk:(pW l7).2= [(0,1,ub)]:=by simp[pW,bl]
 rw[hk]at aD;obtain⟨g,cap,rfl,_,_,hc⟩:=Dj aD (by simp);exact⟨g,cap,_,_,_,_,rfl,hc 0 _ (by simp) rfl,hc 1 _ (by simp) rfl,hc 2 _ (by simp) rfl,hb⟩
theorem MW(b num:Nat)(w:World):
  Calls aa.prog 21 #[.pointer (some ⟨b,0,none⟩),.string ⟨#[65]⟩,.string ⟨#[]⟩,.agg #[.int .i64 0,.int .i64 0,.int .i64 0,.int .i64 0]] w λe w'=>e=.returned (.int .i64 2)/\Below w.heap.size w w':=
 Rt b Ls ⟨#[]⟩ sC w (by decide) (by decide)
theorem MP(b num:Nat)(bm:Nat->Nat)(w:World)(h:aA w b bm num eN):
  Calls aa.prog 23 #[.pointer (some ⟨b,0,none⟩),.string ⟨#[97]⟩,.agg #[.int .i64 1,.int .i64 0,.int .i64 0,.int .i64 0]] w λe w'=>e=.returned (.int .i64 5)/\Below w.heap.size w w':=
 Aq b num bm eN l7 Hp w h tO (by decide) (by decide) (by decide) rfl
theorem aa.Ht:(aa.prog.info? 29).map (λi=>(i.zero,i.size,i.bytes))=some (some (.pointer none),1,8):=by kernel_rfl
theorem SE(h:gI B w1 bt j l A rv b bm gm)(hgrow:(w1.alloc (.cells C t0)).grownBy w2 rv.ownBlock):w2.heap[bt]?=some (.cells A 42):=by
 have hbtl:=(Array.getElem?_eq_some_iff.1 h.hT).1;rw[hgrow.block bt (by simp;omega) (λe=>?_),Vx _ _ _ hbtl]
 ·exact h.hT
 ·obtain⟨_,cur,hc⟩:=rK h.hr bt e.symm;rw[h.hT]at hc;exact absurd (eB hc) (by decide)
def yk(B:Nat)(w:World)(bt j:Nat)(wr:World):Prop:=
 ∃A rv b bm gm,gI B wr bt j 0 A rv b bm gm/\(∀i n,i<j->n<64->bm i n<wr.heap.size)/\(∀q,q<B->wr.heap[q]?=w.heap[q]?)/\wr.os=w.os/\wr.tape=w.tape/\wr.output=w.output/\w.heap.size<=wr.heap.size
theorem Qu{w3:World}{X:Obj}(hB:B<=w.heap.size)(h1:Below (w.alloc (.cells gK 42)).heap.size (w.alloc (.cells gK 42)) w1)(hb:∀m,m<64->(w.alloc (.cells gK 42)).heap.size<=bm1 m)(h2:w1.grownBy w2 (some (bm1 (aC l7))))(h3:Below w2.heap.size w2 w3):
  yk B w w.heap.size 0 (w3.alloc X):=by
 have hn:=hb _ (eX l7);have hsz:(w.alloc (.cells gK 42)).heap.size=w.heap.size+1:=by simp
 have hF:Fr (λq=>q=bm1 (aC l7)) (w.alloc (.cells gK 42)) (w3.alloc X):=(((Fr.lz h1).grown h2 (λq e _=>by cases e;rfl)).below h3).alloc X;have hT:(w3.alloc X).heap[w.heap.size]?=some (.cells gK 42):=hF.heap (BY w _) (λe=>by omega);refine⟨gK,.slice none 0 0,λ_=>0,λ_ _=>0,λ_=>0,?_,λi n hi=>absurd hi (by omega),λq hq=>?_,hF.os,hF.tape,hF.output,OF (by omega) hF.size⟩
 ·exact {
   hB:=⟨hB,λi n hi=>absurd hi (by omega),λk hk=>absurd hk (by omega)⟩
   hT:=hT
   hA:=AX
   h0:=CO 0 (by omega)
   ho:=λq _ _=>rfl
   hr:=⟨rfl,Or.inl ⟨rfl,rfl⟩⟩
   ct:=λi hi=>absurd hi (by omega)
   fe:=λi i' n n' hi=>absurd hi (by omega)
   eS:=λk hk=>absurd hk (by omega)
   cG:=λk hk=>absurd hk (by omega)
   eQ:=λk k' hk=>absurd hk (by omega)}
 ·rw[hF.block q (by omega) (λe=>by omega),Vx _ _ _ (by omega)]
theorem RG(B m:Nat)(ks:Nat->ByteArray)(w:World)(h1:1<=m)(h4:m<=4)(hB:B<=w.heap.size):
  Calls aa.prog 7 #[.int .i64 m] w λe w'=>∃bt g,e=.returned (.pointer (some ⟨bt,0,none⟩))/\g.nr=m/\bk B w' bt g/\bS ks g/\Below B w w':=by
 have hz:=aa.Si;have hzms:=gR;have hzm:=aa.yM;have hzs:=AX;have hneq:=λW=>GH W 0 1 ⟨#[120]⟩;go_enter aa.func7,aa.ntmps7;go_wp2_with (first
  |(go_at_call 20;refine (Fe 0 _ (by omega)).mono ?_;rintro e w1 ⟨b1,bm1,rfl,hb1,hbm1,hR1,hbel1⟩;have HR1:Hid _:=hR1;have HB1:Hid _:=hbel1;clear hR1 hbel1)
  |(go_at_call 21;refine (LA b1 bm1 _ HR1.out).mono ?_;rintro e w2 ⟨rfl,hR2,hg2⟩;have HR2:Hid _:=hR2;have HG2:Hid _:=hg2;clear hR2 hg2)
  |(go_at_call 22;refine (OV b1 bm1 _ HR2.out).mono ?_;rintro e w3 ⟨g3,cap3,x0,x1,x2,x3,rfl,y0,y1,y2,hb3⟩;have hg3:=World.block_lt_of_cell? _ _ y0;have HB3:Hid _:=hb3;clear hb3))
 have HS:Hid (yk B w w.heap.size 0 (w3.alloc (.cells #[.int .i64 x0,.int .i64 x1,.int .i64 x2,.int .i64 x3] 66))):=Qu hB HB1.out hbm1 HG2.out HB3.out;clear y0 y1 y2 hg3 HB1 hbm1 HG2 HB3 HR1 HR2 hneq;obtain⟨i0,hi0,hz0,hz1,hz2⟩:=VH aa.Ht;go_loopw [10] (λiv wr=>∃j:Nat,j<=m/\iv=.int .i64 j/\yk B w w.heap.size j wr) (λiv _=>m-(intOf iv).toNat)
 case atStart=>exact⟨0,by omega,rfl,HS.out⟩
 case round=>
  obtain⟨j,hj,rfl,A,rv,b,bm,gm,hbeg,hbml,hlow,hos,htape,hout,hgr⟩:=hrel;by_cases hjm:j<m
  ·have j1:(j:Int)<(m:Int):=by omega
   have j4:j<4:=by omega
   obtain⟨rad,rcap,hrv⟩:=uQ hbeg.hr;have HBeg:Hid (gI B wr w.heap.size j 0 A (.slice rad j rcap) b bm gm):=by rw[hrv]at hbeg;exact hbeg
   have HLow:Hid _:=And.intro hbml (And.intro hlow (And.intro hos (And.intro htape (And.intro hout hgr))));clear hbeg hbml hlow hos htape hout hrv HS;go_wp2_with (first
    |(go_at_call 20;refine (Fe j _ j4).mono ?_;rintro e w4 ⟨b4,bm4,rfl,hb4,hbm4,hR4,hbel4⟩;have HR4:Hid (aA w4 b4 bm4 j eN):=hR4;have HB4:Hid (Below wr.heap.size wr w4):=hbel4;clear hR4 hbel4)
    |(go_at_call 21;refine (MW b4 j _).mono ?_;rintro e w5 ⟨rfl,hbel5⟩;have HB5:Hid (Below w4.heap.size w4 w5):=hbel5;have HR5:Hid (aA w5 b4 bm4 j eN):=HR4.out.below hbel5;clear hbel5)
    |(go_at_call 23;refine (MP b4 j bm4 _ HR5.out).mono ?_;rintro e w6 ⟨rfl,hbel6⟩;have HB6:Hid (Below w5.heap.size w5 w6):=hbel6;have HR6:Hid (aA w6 b4 bm4 j eN):=HR5.out.below hbel6;have HG6:Hid (gI B w6 w.heap.size j 0 A (.slice rad j rcap) b bm gm):=((HBeg.out.below HB4.out).below HB5.out).below hbel6;have c6:w6.cell? ⟨w.heap.size,0,none⟩=some (.slice rad j rcap):=(by rw[(au HG6.out.hT).1];exact HG6.out.h0);clear hbel6)
    |(at_builtin;refine Xi _ rfl _ _ _ rfl B 29 i0 _ 1 8 aa.underlying30 hi0 hz0 hz1 hz2 rfl (by omega) (.slice rad j rcap) _ _ rfl (HG6.out.hr.alloc _) ⟨w6.heap.size,0,none⟩ 1 1 [.pointer (some ⟨b4,0,none⟩)] rfl rfl (VM (cs:=#[.pointer (some ⟨b4,0,none⟩)]) (t:=29) (fr:=(0,0)) (BY w6 _)) (by simp[Value.oneCell']) (by omega) (by unfold maxLen;omega) (by omega) (by have h1:=HB4.out.size;have h2:=HB5.out.size;have h3:=HB6.out.size;simp;omega) (w6.heap.size+1) (by simp) ?_;intro gg capn w7 hown7 hgrow7 hat7 hlt7;have HP:Hid _:=HG6.out.push (w:=wr) (by have h1:=HB4.out.size;have h2:=HB5.out.size;have h3:=HB6.out.size;omega) HLow.out.1 (by omega) HR6.out hbm4 hgrow7 hown7;have T7:w7.heap[w.heap.size]?=some (.cells A 42):=SE HG6.out hgrow7;have s1:w7.cell? ⟨w.heap.size,0,none⟩=some (.slice rad j rcap):=(by rw[(au T7).1];exact HG6.out.h0);have s2:w7.frozen? ⟨w.heap.size,0,none⟩=false:=(au T7).2 0;clear hown7 hgrow7 hat7 hlt7 T7))
   refine⟨⟨j+1,by omega,by go_num,?_⟩,by simp[intOf];omega⟩;obtain⟨p1,p2,p3⟩:=HP.out;obtain⟨l1,l2,l3,l4,l5,l6⟩:=HLow.out;have z4:=HB4.out.size;have z5:=HB5.out.size;have z6:=HB6.out.size;have z7:=p2.size;refine⟨_,_,_,_,gm,p1,λi n hi hn=>?_,λq hq=>?_,p2.os.trans (HB6.out.os.trans (HB5.out.os.trans (HB4.out.os.trans l3))),p2.tape.trans (HB6.out.tape.trans (HB5.out.tape.trans (HB4.out.tape.trans l4))),p2.output.trans (HB6.out.output.trans (HB5.out.output.trans (HB4.out.output.trans l5))),by omega⟩
   ·by_cases e:i=j
    ·simp only[AS e]
     have:=(HR6.out.2.1 n hn).lt;omega
    ·simp only[AI e]
     have:=l1 i n (by omega) hn;omega
   ·rw[p3 q hq,HB6.out.block q (by omega),HB5.out.block q (by omega),HB4.out.block q (by omega)];exact l2 q hq
  ·obtain rfl:j=m:=by omega
   have HS2:Hid (∃A rv b bm gm,gI B wr w.heap.size j 0 A rv b bm gm/\(∀q,q<B->wr.heap[q]?=w.heap[q]?)/\wr.os=w.os/\wr.tape=w.tape/\wr.output=w.output/\w.heap.size<=wr.heap.size):=⟨A,rv,b,bm,gm,hbeg,hlow,hos,htape,hout,hgr⟩
   clear hbeg hbml hlow hos htape hout hgr HS;go_wp2;go_loopw [15] (λkv wy=>∃l:Nat,l<=3/\kv=.int .i64 l/\∃A rv b bm gm,gI B wy w.heap.size j l A rv b bm gm/\(∀q,q<B->wy.heap[q]?=w.heap[q]?)/\wy.os=w.os/\wy.tape=w.tape/\wy.output=w.output/\w.heap.size<=wy.heap.size) (λkv _=>3-(intOf kv).toNat)
   case atStart=>exact⟨0,by omega,rfl,HS2.out⟩
   case round=>
    obtain⟨l,hl,rfl,A,rv,b,bm,gm,hbeg,hlow,hos,htape,hout,hgr⟩:=hrel;by_cases hl3:l<3
    ·have l1:(l:Int)<3:=by omega
     have l0:(0:Int)<=(l:Int):=by omega
     have hAs:=hbeg.hA;have s1: ‹World›.cell? ⟨w.heap.size,1922+l,none⟩=some A[1922+l]:=by rw[(au hbeg.hT).1];exact Array.getElem?_eq_getElem (by omega)
     have s2: ‹World›.frozen? ⟨w.heap.size,1922+l,none⟩=false:=(au hbeg.hT).2 _;have HM:Hid _:=hbeg.I6 hl3 (by omega);have HLow:Hid _:=And.intro hlow (And.intro hos (And.intro htape (And.intro hout hgr)));have hbl:=(Array.getElem?_eq_some_iff.1 hbeg.hT).1;clear hbeg hlow hos htape hout;go_wp2;obtain⟨p1,p2⟩:=HM.out;obtain⟨f1,f2,f3,f4,f5⟩:=HLow.out;refine⟨⟨l+1,by omega,by go_num,_,rv,b,bm,_,p1,λq hq=>?_,p2.os.trans f2,p2.tape.trans f3,p2.output.trans f4,OF f5 p2.size⟩,by simp[intOf];omega⟩;rw[p2.block q (by omega) (by omega)];exact f1 q hq
    ·obtain rfl:l=3:=by omega
     have HBeg:Hid _:=And.intro hbeg (And.intro hlow (And.intro hos (And.intro htape hout)));clear hbeg hlow hos htape hout;go_wp2;go_ret;obtain⟨f1,f2,f3,f4,f5⟩:=HBeg.out;obtain⟨br,cT,R,hnet⟩:=f1.Qy (by omega);exact⟨w.heap.size,_,rfl,rfl,hnet,bS.first h1 h4,f3,f4,f5,hgr,f2⟩
end
theorem bk.below(h:bk B w bt g)(hb:Below w.heap.size w w'):bk B w' bt g:=
 h.fr (X:=λ_=>False) (Fr.lz hb) ⟨λe=>e,λe=>e,λ_ _ e=>e,λ_ _ _ _ e=>e,λ_ _ _ e=>e,λ_ _ _ e=>e,λ_ _ _ e=>e⟩
theorem bk.base{B':Nat}(h:bk B w bt g)(hB:B'<=B):bk B' w bt g:=
 {h with
  hB:=⟨OF hB h.hB.1,λi n hi hn=>OF hB (h.hB.2 i n hi hn)⟩
  hw:=eE h.hw hB
  cG:=λk hk=>eE (h.cG k hk) hB}
theorem nu.dH{n:Nat}(h:nu w ad n)(hb:Below w.heap.size w w'):nu w' ad n:=by
 rcases h with h|⟨b,off,rfl,hall⟩
 ·exact Or.inl h
 ·refine Or.inr ⟨b,off,rfl,λj hj=>?_⟩;obtain⟨z,hz,hr⟩:=hall j hj;exact⟨z,bp hz hb,hr⟩
theorem bY.dH{n a:Nat}(h:bY w bx ad n cap a)(hb:Below w.heap.size w w'):bY w' bx ad n cap a:=
 ⟨aS h.1 hb,h.2.1,h.2.2.1,h.2.2.2.dH hb⟩
theorem eY.dH(h:eY w ks)(hb:Below w.heap.size w w'):eY w' ks:=
 ⟨λk hk=>bp (h.cell k hk) hb,h.key,h.ne⟩
end Go.Proofs.YtldmcdeibiclkaaGreatDoorQ
