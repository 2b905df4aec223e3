/-
  Toward settled_holds: Contract: local.
-/
import Derived.Test.YtldmcdeibiclkaaGreatDoorC30
import Derived.Test.YtldmcdeibiclkaaGreatDoorC29
import Derived.Test.YtldmcdeibiclkaaGreatDoorC28
set_option linter.unusedVariables false
set_option linter.unusedSimpArgs false
set_option maxRecDepth 100000
set_option maxHeartbeats 20000000
namespace Go.Proofs.YtldmcdeibiclkaaGreatDoorQ
variable {B bt j bx cap l gg at' a:Nat}{w w2 w' w1 W:World}{g:au}{A C:Array Value}{b gm bm1:Nat->Nat}{bm:Nat->Nat->Nat}{rv:Value}{ad:Option Addr}{ks:Nat->ByteArray}{t0:TypeId}
open Go.RowKit
section
attribute [local go_sem ↓] vw Yn Yo QZ EA
attribute [local go_sem] tD qV vA uJ UU GO DI wA jD lh
theorem R8{wc:World}{n size o gk L ck:Nat}{u v':Value}{xs:List Value}{A1:Array Value}(hgrow:((wc.alloc (.cells C t0)).drew).grownBy w2 (Value.slice (some ⟨gk,0,none⟩) L ck).ownBlock)(hT2:w2.heap[bt]?=some (.cells A1 42))(aD:w2.ownsRow B 74 size v' n xs)(hat:(Value.slice (some ⟨gk,0,none⟩) L ck).ownBlock=some gg\/gg=wc.heap.size+1):
  (w2.setCell ⟨bt,o,none⟩ u).ownsRow B 74 size v' n xs/\Fr (λb=>b=bt\/b=gk) wc (w2.setCell ⟨bt,o,none⟩ u)/\(gg=gk\/wc.heap.size<=gg):=by
 refine⟨?_,?_,?_⟩
 ·exact (Fr.setCell (X:=λb=>b=bt) (Fr.refl _ w2) (Or.inr rfl) u).iL aD (λb cur hb e=>by rw[e,hT2]at hb;exact absurd (eu hb) (by decide))
 ·exact Fr.setCell (((Fr.refl (λb=>b=bt\/b=gk) wc).alloc _).drew.grown hgrow (λq hq _=>by cases hq;exact Or.inr rfl)) (Or.inr (Or.inl rfl)) u
 ·rcases hat with h|h
  ·cases h;exact Or.inl rfl
  ·exact Or.inr (by omega)
theorem Jn{wc:World}{n k:Nat}(hN:aP B wc bt g)(hJ:Jx w bx ad n cap wc)(hD:bZ w bx ad n cap at')(hB:B<=bx)(hnb:0<n->∀b off,ad=some ⟨b,off,none⟩->b<B)(hk:k<3)(hF:Fr (λb=>b=bt\/b=g.gm k) wc w2):
  Below B w w2/\∃at2,bZ w2 bx ad n cap at2:=by
 obtain⟨hgB,cur,hgc⟩:=sQ (hN.cL k hk) (g.gm k) rfl;have hbw:B<=wc.heap.size:=by
  have:=hN.hB.1
  have:=(Array.getElem?_eq_some_iff.1 hN.hT).1;omega
 have hb:Below B w w2:=(hJ.toBelow hB).trans (hF.toBelow (λb e=>by
  rcases e with e|e
  ·rw[e];exact hN.hB.1
  ·rw[e];exact hgB) hbw)
 refine⟨hb,vk hD hJ hF (λe=>?_) hnb hb⟩;obtain⟨_,⟨a,_,h3⟩,_⟩:=hJ;rcases e with e|e
 ·rw[e,hN.hT]at h3;exact absurd (eu h3) (by decide)
 ·rw[e,hgc]at h3;exact absurd (eu h3) (by decide)
theorem UD(B bt bx n cap at':Nat)(ad:Option Addr)(g:au)(ks:Nat->ByteArray)(w:World)(hN:aP B w bt g)(hI:bz ks g)(hK:dY w ks)(hD:bZ w bx ad n cap at')(hnb:0<n->∀b off,ad=some ⟨b,off,none⟩->b<B)(hB:B<=bx)(hB0:0<B):
  Calls aa.prog 8 #[.pointer (some ⟨bt,0,none⟩),.pointer (some ⟨bx,0,none⟩)] w λe w'=>e=.returned (.bool true)/\Below B w w'/\∃g',g'.nr=g.nr/\aP B w' bt g'/\bz ks g'/\∃at2,bZ w' bx ad n cap at2:=by
 have hnb':0<n->∀b off,ad=some ⟨b,off,none⟩->b≠bx:=λh0 b off h=>by have:=hnb h0 b off h;omega
 have HJ:Hid (∀w',Jx w bx ad n cap w'->aP B w' bt g):=λw' h=>hN.fr h.1 (hN.ue hD.1 (by decide) (by decide) (by decide) (by decide) (by decide) (by decide));have HDice:Hid (∀w',Jx w bx ad n cap w'->∃at2,bZ w' bx ad n cap at2):=λw' h=>h.pQ hD.2.2.1 hD.2.2.2 hnb';have HNx:Hid (∀(m:Int) W,1<=m->m<=1000->Jx w bx ad n cap W->Calls aa.prog 14 #[.pointer (some ⟨bx,0,none⟩),.int .i64 m] W λe w'=>∃r:Nat,e=.returned (.int .i64 r)/\(r:Int)<m/\Jx w bx ad n cap w'):=by
  intro m W h1 h2 hJW;obtain⟨a,hW⟩:=HDice.out W hJW;refine (pU bx ad n cap a m W hW hnb' h1 h2).mono ?_;rintro e w' ⟨r,at2,rfl,hr,hd,_,hg,hz⟩;exact⟨r,rfl,hr,Jx.next hJW hg hd⟩
 have J0:Hid (Jx w bx ad n cap w):=Jx.start hD;have HI:Hid (bz ks g):=hI;have HKA:Hid (dY w ks):=hK;have c0:w.cell? ⟨bt,0,none⟩=some (.slice (some ⟨g.br,0,none⟩) g.nr g.bS):=by rw[(al hN.hT).1];exact hN.h0
 have hnr1:(1:Int)<=(g.nr:Int):=by have:=hI.bA;omega
 have hnr4:(g.nr:Int)<=4:=by have:=hI.bA;omega
 obtain⟨wad,wcap,hwv⟩:=qE hN.hw;have HT1:Hid (∀w',Jx w bx ad n cap w'->w'.cell? ⟨bt,1,none⟩=some (.slice wad g.ws.length wcap)):=λw' h=>by rw[(al (HJ.out w' h).hT).1,(HJ.out w' h).h1,hwv]
 have HPuts:Hid (∀(W:World) (i k:Nat),Jx w bx ad n cap W->i<g.nr->k<3->g.ws.length<80->Calls aa.prog 24 #[.pointer (some ⟨bt,0,none⟩),.pointer (some ⟨bx,0,none⟩),.int .i64 i,.int .i64 k] W λe w'=>e=.returned (.bool true)/\Below B w w'/\∃g',g'.nr=g.nr/\aP B w' bt g'/\bz ks g'/\∃at2,bZ w' bx ad n cap at2):=λW i k hW hi hk hl=>by
  obtain⟨a,hDW⟩:=HDice.out W hW;refine (Tq B bt bx n cap a i k ad g ks W (HJ.out W hW) hI (hK.below hB0 (hW.toBelow hB)) hDW hnb hB hB0 hi hk hl).mono ?_;rintro e w' ⟨rfl,hb,hr⟩;exact⟨rfl,(hW.toBelow hB).trans hb,hr⟩
 have HDels:Hid (∀(W:World) (i k:Nat),Jx w bx ad n cap W->i<g.nr->k<3->Calls aa.prog 25 #[.pointer (some ⟨bt,0,none⟩),.pointer (some ⟨bx,0,none⟩),.int .i64 i,.int .i64 k] W λe w'=>e=.returned (.bool true)/\Below B w w'/\∃g',g'.nr=g.nr/\aP B w' bt g'/\bz ks g'/\∃at2,bZ w' bx ad n cap at2):=λW i k hW hi hk=>by
  obtain⟨a,hDW⟩:=HDice.out W hW;refine (NV B bt bx n cap a i k ad g ks W (HJ.out W hW) hI (hK.below hB0 (hW.toBelow hB)) hDW hnb hB hB0 hi hk).mono ?_;rintro e w' ⟨rfl,hb,hr⟩;exact⟨rfl,(hW.toBelow hB).trans hb,hr⟩
 have HD0:Hid (bZ w bx ad n cap at'):=hD;clear hN hI hK hD hwv;go_enter aa.func8,aa.ntmps8;go_wp2_with (first
  |(go_at_call_of 14 (Value.int IntKind.i64 (g.nr:Int));refine By (HNx.out (g.nr:Int) _ hnr1 (by omega) J0.out) ?_;rintro e w1 ⟨ii,rfl,hii,hJ1⟩;have J1:Hid (Jx w bx ad n cap w1):=hJ1;clear hJ1)
  |(go_at_call_of 14 (Value.int IntKind.i64 (3:Int));refine By (HNx.out 3 _ (by omega) (by omega) J1.out) ?_;rintro e w2 ⟨kk,rfl,hkk,hJ2⟩;have J2:Hid (Jx w bx ad n cap w2):=hJ2;clear hJ2)
  |(go_at_call_of 14 (Value.int IntKind.i64 (8:Int));refine By (HNx.out 8 _ (by omega) (by omega) J2.out) ?_;rintro e w3 ⟨cc,rfl,hcc,hJ3⟩;have J3:Hid (Jx w bx ad n cap w3):=hJ3;have t1:=HT1.out _ hJ3;clear hJ3)
  |(go_at_call 24;refine By (HPuts.out _ ii kk J3.out (by omega) (by omega) (by omega)) ?_;rintro e w4 ⟨rfl,hres⟩;have HRes:Hid _:=hres;clear hres)
  |(go_at_call 25;refine By (HDels.out _ ii kk J3.out (by omega) (by omega)) ?_;rintro e w4 ⟨rfl,hres⟩;have HRes:Hid _:=hres;clear hres))
 ·go_ret;exact⟨rfl,HRes.out⟩
 ·go_ret;exact⟨rfl,HRes.out⟩
 ·go_ret;exact⟨rfl,HRes.out⟩
 have hii':ii<g.nr:=by omega
 have hkk':kk<3:=by omega
 have hii0:(0:Int)<=(ii:Int):=by omega
 have hkk0:(0:Int)<=(kk:Int):=by omega
 have hii4:(ii:Int)<4:=by omega
 have N3:Hid (aP B w3 bt g):=HJ.out _ J3.out;have K3:Hid (dY w3 ks):=HKA.out.below hB0 (J3.out.toBelow hB);have hmk:Hid (∀w',Below w3.heap.size w3 w'->w'.cell? ⟨bt,0,none⟩=some (.slice (some ⟨g.br,0,none⟩) g.nr g.bS)/\w'.cell? ⟨g.br,ii,none⟩=some (.pointer (some ⟨g.b ii,0,none⟩))/\w'.cell? ⟨0,kk,none⟩=some (.string (ks kk))/\aB w' (g.b ii) (g.bm ii) ii (g.K ii)):=λw' hw=>
  ⟨aU (by rw[(al N3.out.hT).1];exact N3.out.h0) hw,aU (by rw[(al N3.out.hR).1];exact N3.out.fh ii hii') hw,aU (K3.out.cell kk hkk') hw,(N3.out.bj ii hii').below hw⟩
 have hget:Hid (∀W,aB W (g.b ii) (g.bm ii) ii (g.K ii)->Calls aa.prog 22 #[.pointer (some ⟨g.b ii,0,none⟩),.string (ks kk)] W λe w'=>∃v',e=.returned (.tuple #[v',c9 (g.K ii (ks kk)).1,.int .i64 0])/\w'.ownsRow W.heap.size 71 3 v' (g.K ii (ks kk)).2.length (aX (g.K ii (ks kk)).2)/\Below W.heap.size W w'):=λW hW=>wT (g.b ii) ii (g.bm ii) (g.K ii) (ks kk) W hW (HI.out.eT ii hii') (K3.out.key kk hkk').1 (K3.out.key kk hkk').2;have hw3:Hid (w.heap.size<=w3.heap.size):=J3.out.1.size;clear t1 HPuts HDels HNx;generalize hcx:(g.K ii (ks kk)).1=cx at*;have HCX:Hid _:=hcx;clear hcx;go_cut [8,9,10] from 46 to 61 (λlv pv ev wx=>ev=.int .i64 0/\∃q,pv=.pointer (some ⟨q,0,none⟩)/\wx.cell? ⟨q,0,none⟩=some (.int .i64 (cx 0))/\wx.cell? ⟨q,1,none⟩=some (.int .i64 (cx 1))/\wx.cell? ⟨q,2,none⟩=some (.int .i64 (cx 2))/\wx.cell? ⟨q,3,none⟩=some (.int .i64 (cx 3))/\Jx w bx ad n cap wx)
 case first=>
  go_region_held3 (λw'=>w'.cell? ⟨bt,0,none⟩=some (.slice (some ⟨g.br,0,none⟩) g.nr g.bS)/\w'.cell? ⟨g.br,ii,none⟩=some (.pointer (some ⟨g.b ii,0,none⟩))/\w'.cell? ⟨0,kk,none⟩=some (.string (ks kk))/\aB w' (g.b ii) (g.bm ii) ii (g.K ii))
   ((refine hmk.out _ ?_;first|(simp (maxDischargeDepth:=12) [AT,IT,W9,Xj];done)|(simp (maxDischargeDepth:=12) [AT,IT,W9,Xj,B4,z4];done)))
   (first|(go_at_call 22;refine By (hget.out _ (by go_split_ands;assumption)) ?_;rintro e w4 ⟨v',rfl,aD,hb4⟩;obtain⟨q1,q2⟩:=jN hb4;have B4:Below w3.heap.size w3 w4:=iT hb4 (by simp (maxDischargeDepth:=12) [AT,IT,W9]);have z4:=B4.size;have y4:=hb4.size;(try simp only[Yg,kM]at y4);(try (have h4:w4.heap[w3.heap.size]?=some (.cells #[.int .i64 0,.int .i64 0,.int .i64 0,.int .i64 0] 66):=aQ (W:=w3.drew.alloc (.cells #[.int .i64 0,.int .i64 0,.int .i64 0,.int .i64 0] 66)) (BY w3.drew _) hb4));clear aD hb4))
  ·go_wp2_with fail;go_meet;have e:=(al (BY w4 (.cells #[.int .i64 (cx 0),.int .i64 (cx 1),.int .i64 (cx 2),.int .i64 (cx 3)] 66))).1;exact⟨rfl,w4.heap.size,rfl,e 0,e 1,e 2,e 3,(J3.out.below B4).alloc _⟩
  ·go_wp2_with fail;go_meet;have e:=(al (heap_set (o:=3) (v:=.int .i64 (cx 3)) (heap_set (o:=2) (v:=.int .i64 (cx 2)) (heap_set (o:=1) (v:=.int .i64 (cx 1)) (heap_set (o:=0) (v:=.int .i64 (cx 0)) h4))))).1;exact⟨rfl,w3.heap.size,rfl,e 0,e 1,e 2,e 3,((((J3.out.below B4).setCell hw3.out _).setCell hw3.out _).setCell hw3.out _).setCell hw3.out _⟩
 case rest=>
  obtain⟨rfl,q,rfl,e0,e1,e2,e3,hJ⟩:=hcut;have HJC:Hid (Jx w bx ad n cap wc):=hJ;clear N3 K3 hmk hget;have NC:Hid (aP B wc bt g):=HJ.out _ hJ;have tm:wc.cell? ⟨bt,1922+kk,none⟩=some (.slice (some ⟨g.gm kk,0,none⟩) (g.mem kk).length (g.kF kk)):=by rw[(al NC.out.hT).1];exact NC.out.eV kk hkk'
  have hL:=HI.out.jr kk hkk';by_cases h30:(g.mem kk).length<30
  ·have h30':((g.mem kk).length:Int)<30:=by omega
   have hi4n:ii<4:=by omega
   obtain⟨r1,q1⟩:=ju (w:=wc) (b:=bt) (o:=2+ii*240+kk*80) (s:=g.kn ii kk) (λj hj=>by rw[(al NC.out.hT).1];exact NC.out.aV ii kk j hi4n hkk' hj);have hE:=Nu cx (g.kn ii kk);have hT:=NC.out.hT;have hbt:=(Array.getElem?_eq_some_iff.1 hT).1;have HT:Hid (wc.heap[bt]?=some (.cells g.A 42)):=hT;have hAs:=NC.out.hA;have WC:Hid (wc.ownsRow B 74 84 (.slice (some ⟨g.gm kk,0,none⟩) (g.mem kk).length (g.kF kk)) (g.mem kk).length (ik (g.mem kk))):=NC.out.cL kk hkk';have hgb:Hid (∃cur,wc.heap[g.gm kk]?=some (.cells cur 74 (0,0))):=(sQ WC.out _ rfl).2;have hbtn:Hid (¬g.gm kk=bt):=λe=>by
    obtain⟨cur,hc⟩:=hgb.out;rw[e,HT.out]at hc;exact absurd (eu hc) (by decide)
   have hBs:Hid (B<=wc.heap.size):=by
    have h1:=NC.out.hB.1;show _<=_;omega
   have hone:Hid (∀u∈cq (cx,g.kn ii kk),u.oneCell'=true):=GL _;obtain⟨i0,hi0,hz0,hz1,hz2⟩:=Xm aa.CW;clear hT hJ;go_wp2;go_cut [] from 69 to 92 (λwx=>∃A2 ga ca,wx.heap[bt]?=some (.cells A2 42)/\A2.size=1939/\A2[1922+kk]?=some (.slice (some ⟨ga,0,none⟩) ((g.mem kk).length+1) ca)/\(∀q,q≠1922+kk->A2[q]?=g.A[q]?)/\wx.ownsRow B 74 84 (.slice (some ⟨ga,0,none⟩) ((g.mem kk).length+1) ca) ((g.mem kk).length+1) (ik (g.mem kk)++cq (cx,g.kn ii kk))/\Fr (λb=>b=bt\/b=g.gm kk) wc wx/\(ga=g.gm kk\/wc.heap.size<=ga))
   case first=>
    go_region_law (first|(refine step_append_lies _ rfl _ _ _ rfl B 74 i0 _ 84 112 aa.underlying36 hi0 hz0 hz1 hz2 iB (by omega) (.slice (some ⟨g.gm kk,0,none⟩) (g.mem kk).length (g.kF kk)) _ _ rfl ((World.ownsRow.drew WC.out).alloc _) ⟨wc.heap.size,0,none⟩ 1 1 (cq (cx,g.kn ii kk)) rfl (lh _) (Xr (cs:=(cq (cx,g.kn ii kk)).toArray) (t:=74) (fr:=(0,0)) (BY wc.drew _)) hone.out (by omega) (by unfold maxLen;omega) (by omega) (by have:=hBs.out;simp;omega) (wc.heap.size+1) (by simp) ?_;intro gg capn w2 hown2 hgrow hat hlt2;have T2:w2.heap[bt]?=some (.cells g.A 42):=(by rw[hgrow.block bt (by simp;omega) (λe=>hbtn.out (by cases e;rfl))];show (wc.alloc _).heap[bt]?=_;rw[OF _ _ _ hbt];exact HT.out);have s1:w2.cell? ⟨bt,1922+kk,none⟩=some g.A[1922+kk]:=(by rw[(al T2).1];exact Array.getElem?_eq_getElem (by omega));have s2:w2.frozen? ⟨bt,1922+kk,none⟩=false:=(al T2).2 _;have HT2:Hid (w2.heap[bt]?=some (.cells g.A 42)):=T2;have HO2:Hid _:=R8 (o:=1922+kk) (u:=.slice (some ⟨gg,0,none⟩) ((g.mem kk).length+1) capn) hgrow T2 hown2 hat;clear T2 hown2 hgrow hat hlt2))
    all_goals
     go_wp2_with fail;go_meet;obtain⟨d1,d2,d3⟩:=HO2.out;refine⟨_,gg,capn,heap_set HT2.out,?_,?_,?_,d1,d2,d3⟩
     ·rw[XB];exact hAs
     ·rw[Array.getElem?_setIfInBounds,AS rfl,AS (by omega)]
     ·intro q hq;rw[Array.getElem?_setIfInBounds,AI (λe=>hq e.symm)]
   case rest=>
    have HC:Hid _:=hcut;clear hcut r1 q1 hE tm e0 e1 e2 e3;go_wp2;go_ret;obtain⟨A2,ga,ca,b1,b2,b3,b4,b5,b6,b7⟩:=HC.out;obtain⟨f1,f2⟩:=Jn NC.out HJC.out HD0.out hB hnb hkk' b6;refine⟨rfl,f1,g.jZ ks ii kk ga ca A2,rfl,NC.out.jZ b6 hkk' (by omega) (λl hl=>(HI.out.jr l hl).1) b1 b2 b3 b4 ?_ b7,HI.out.jZ A2 hii' hkk' h30,f2⟩;rw[HCX.out];exact b5
  ·have h30': ¬((g.mem kk).length:Int)<30:=by omega
   clear hJ;go_wp2;go_ret;exact⟨rfl,HJC.out.toBelow hB,g,rfl,NC.out,HI.out,HDice.out _ HJC.out⟩
end
theorem wK:hY.toList=List.replicate 2 (Value.slice none 0 0)++(List.replicate 1920 (Value.bool false)++(List.replicate 5 (Value.slice none 0 0)++List.replicate 12 (Value.int .i64 0))):=by
 unfold hY;rw[List.toList_toArray]
theorem Ew(q:Nat)(h:q<2):hY[q]?=some (.slice none 0 0):=by
 rw[<-Array.getElem?_toList,wK,List.getElem?_append_left (by rw[X9];exact h),List.getElem?_replicate,AS h]
theorem Fq(q:Nat)(h:q<1920):hY[2+q]?=some (.bool false):=by
 rw[<-Array.getElem?_toList,wK,List.getElem?_append_right (by rw[X9];omega),X9,List.getElem?_append_left (by rw[X9];omega),List.getElem?_replicate,AS (by omega)]
theorem JX(q:Nat)(h:q<12):hY[1927+q]?=some (.int .i64 0):=by
 rw[<-Array.getElem?_toList,wK,List.getElem?_append_right (by rw[X9];omega),X9,List.getElem?_append_right (by rw[X9];omega),X9,List.getElem?_append_right (by rw[X9];omega),X9,List.getElem?_replicate,AS (by omega)]
def oJ:Mem:=(λ_=>0,λ_=>false)
theorem Vj:(cq oJ).toArray=fe:=by
 apply Array.ext';simp[cq,oJ,fe,mS,bits,List.map_const']
def oO(b:Nat->Nat)(j:Nat):List Value:=(List.range j).map λi=>Value.pointer (some ⟨b i,0,none⟩)
structure gO(B:Nat)(w:World)(bt j l:Nat)(A:Array Value)(rv:Value)(b:Nat->Nat)(bm:Nat->Nat->Nat)(gm:Nat->Nat):Prop where
 hB:B<=bt/\(∀i n,i<j->n<64->B<=bm i n)/\∀k,k<l->B<=gm k
 hT:w.heap[bt]?=some (.cells A 42)
 hA:A.size=1939
 h0:A[0]?=some rv
 ho:∀q,q≠0->(∀k,k<l->q≠1922+k)->A[q]?=hY[q]?
 hr:w.ownsRow B 29 1 rv j (oO b j)
 bj:∀i,i<j->aB w (b i) (bm i) i fc
 fa:∀i i' n n',i<j->i'<j->n<64->n'<64->bm i n=bm i' n'->i=i'
 eV:∀k,k<l->A[1922+k]?=some (.slice (some ⟨gm k,0,none⟩) 1 1)
 cL:∀k,k<l->w.heap[gm k]?=some (.cells fe 74)
 eP:∀k k',k<l->k'<l->gm k=gm k'->k=k'
theorem gO.below(h:gO B w bt j l A rv b bm gm)(hb:Below w.heap.size w w'):gO B w' bt j l A rv b bm gm where
 hB:=h.hB
 hT:=aQ h.hT hb
 hA:=h.hA
 h0:=h.h0
 ho:=h.ho
 hr:=Fr.row (X:=λ_=>False) (Fr.iY hb) h.hr (λ_ _ _ _ _ e=>e)
 bj:=λi hi=>(h.bj i hi).below hb
 fa:=h.fa
 eV:=h.eV
 cL:=λk hk=>aQ (h.cL k hk) hb
 eP:=h.eP
theorem gO.push{b1 ca:Nat}(h:gO B w1 bt j 0 A rv b bm gm)(hw:w.heap.size<=w1.heap.size)(hbw:∀i n,i<j->n<64->bm i n<w.heap.size)(hB:B<=w.heap.size)(hR:aB w1 b1 bm1 j fc)(hb1:∀m,m<64->w.heap.size<=bm1 m)(hgrow:(w1.alloc (.cells C t0)).grownBy w2 rv.ownBlock)(aD:w2.ownsRow B 29 1 (.slice (some ⟨gg,0,none⟩) (j+1) ca) (j+1) (oO b j++ [.pointer (some ⟨b1,0,none⟩)])):
  gO B (w2.setCell ⟨bt,0,none⟩ (.slice (some ⟨gg,0,none⟩) (j+1) ca)) bt (j+1) 0 (A.setIfInBounds 0 (.slice (some ⟨gg,0,none⟩) (j+1) ca)) (.slice (some ⟨gg,0,none⟩) (j+1) ca) (λi=>if i=j then b1 else b i) (λi=>if i=j then bm1 else bm i) gm/\Fr (λq=>q=bt\/∃cur,w1.heap[q]?=some (.cells cur 29 (0,0))) w1 (w2.setCell ⟨bt,0,none⟩ (.slice (some ⟨gg,0,none⟩) (j+1) ca))/\(∀q,q<B->(w2.setCell ⟨bt,0,none⟩ (.slice (some ⟨gg,0,none⟩) (j+1) ca)).heap[q]?=w1.heap[q]?):=by
 have hrow:∀q,rv.ownBlock=some q->B<=q/\∃cur,w1.heap[q]?=some (.cells cur 29 (0,0)):=λq hq=>sQ h.hr q hq;have hbtl:=(Array.getElem?_eq_some_iff.1 h.hT).1;have hbtn: ¬rv.ownBlock=some bt:=λe=>by
  obtain⟨_,cur,hc⟩:=hrow bt e;rw[h.hT]at hc;exact absurd (eu hc) (by decide)
 have hT2:w2.heap[bt]?=some (.cells A 42):=by
  rw[hgrow.block bt (by simp;omega) (λe=>hbtn e.symm),OF _ _ _ hbtl];exact h.hT
 have hF:Fr (λq=>q=bt\/∃cur,w1.heap[q]?=some (.cells cur 29 (0,0))) w1 (w2.setCell ⟨bt,0,none⟩ (.slice (some ⟨gg,0,none⟩) (j+1) ca)):=
  Fr.setCell (((Fr.refl (λq=>q=bt\/∃cur,w1.heap[q]?=some (.cells cur 29 (0,0))) w1).alloc _).grown hgrow (λq hq _=>Or.inr (hrow q hq).2)) (Or.inr (Or.inl rfl)) _
 have hcells:∀{q:Nat} {D:Array Value} {t:TypeId} {fr:Nat×Nat},w1.heap[q]?=some (.cells D t fr)->t≠42->t≠29->¬(q=bt\/∃cur,w1.heap[q]?=some (.cells cur 29 (0,0))):=λhq h1 h2 e=>by
  rcases e with e|⟨cur,e⟩
  ·rw[e,h.hT]at hq;exact h1 (eu hq).symm
  ·rw[e]at hq;exact h2 (eu hq).symm
 have bj:∀{b' num:Nat} {bm':Nat->Nat},aB w1 b' bm' num fc->aB (w2.setCell ⟨bt,0,none⟩ (.slice (some ⟨gg,0,none⟩) (j+1) ca)) b' bm' num fc:=λhr=>by
  refine hF.rep hr ?_ (λn hn e=>?_) (λq cur hq=>hcells hq (by decide) (by decide))
  ·obtain⟨⟨D,hD,_⟩,_⟩:=hr;exact hcells hD (by decide) (by decide)
  ·obtain⟨es,clock,hm,_⟩:=hr.2.1 n hn;rcases e with e|⟨cur,e⟩
   ·rw[e,h.hT]at hm;cases hm
   ·rw[e]at hm;cases hm
 refine⟨?_,hF,λq hq=>?_⟩
 ·exact {
   hB:=⟨h.hB.1,λi n hi hn=>by
    by_cases e:i=j
    ·simp only[AS e];exact Xb hB (hb1 n hn)
    ·simp only[AI e];exact h.hB.2.1 i n (by omega) hn,λk hk=>absurd hk (by omega)⟩
   hT:=heap_set hT2
   hA:=by rw[XB];exact h.hA
   h0:=by rw[Array.getElem?_setIfInBounds,AS rfl,AS (by rw[h.hA];omega)]
   ho:=λq hq _=>by rw[Array.getElem?_setIfInBounds,AI (λe=>hq e.symm)];exact h.ho q hq (λk hk=>absurd hk (by omega))
   hr:=by
    have e1:oO (λi=>if i=j then b1 else b i) (j+1)=oO b j++ [.pointer (some ⟨b1,0,none⟩)]:=by
     unfold oO;rw[XV,Yi];congr 1
     ·refine XI λi hi=>?_
      have:=List.mem_range.1 hi;dsimp only;rw[AI (by omega)]
     ·simp
    rw[e1];exact (Fr.setCell (X:=λq=>q=bt) (Fr.refl _ w2) (Or.inr rfl) _).iL aD (λq cur hq e=>by rw[e,hT2]at hq;exact absurd (eu hq) (by decide))
   bj:=λi hi=>by
    by_cases e:i=j
    ·subst e;simp only[No];exact bj hR
    ·simp only[AI e];exact bj (h.bj i (by omega))
   fa:=λi i' n n' hi hi' hn hn' he=>by
    by_cases e:i=j
    ·by_cases e':i'=j
     ·rw[e,e']
     ·simp only[AS e,AI e']at he;have h1:=hb1 n hn;have h2:=hbw i' n' (by omega) hn';omega
    ·by_cases e':i'=j
     ·simp only[AI e,AS e']at he;have h1:=hb1 n' hn';have h2:=hbw i n (by omega) hn;omega
     ·simp only[AI e,AI e']at he;exact h.fa i i' n n' (by omega) (by omega) hn hn' he
   eV:=λk hk=>absurd hk (by omega)
   cL:=λk hk=>absurd hk (by omega)
   eP:=λk k' hk=>absurd hk (by omega)}
 ·have hne:q≠bt:=by have:=h.hB.1;omega
  rw[Xg _ _ _ _ hne,hgrow.block q (by simp;omega) (λe=>by have:=(hrow q e.symm).1;omega),OF _ _ _ (by omega)]
theorem gO.Ip(h:gO B w bt j l A rv b bm gm)(hl:l<3)(hB:B<=w.heap.size):
  gO B ((w.setCell ⟨bt,1922+l,none⟩ (.slice (some ⟨w.heap.size,0,none⟩) 1 1)).alloc (.cells fe 74)) bt j (l+1) (A.setIfInBounds (1922+l) (.slice (some ⟨w.heap.size,0,none⟩) 1 1)) rv b bm (λk=>if k=l then w.heap.size else gm k)/\Fr (λq=>q=bt) w ((w.setCell ⟨bt,1922+l,none⟩ (.slice (some ⟨w.heap.size,0,none⟩) 1 1)).alloc (.cells fe 74)):=by
 have hF:Fr (λq=>q=bt) w ((w.setCell ⟨bt,1922+l,none⟩ (.slice (some ⟨w.heap.size,0,none⟩) 1 1)).alloc (.cells fe 74)):=(Fr.setCell (X:=λq=>q=bt) (Fr.refl _ w) (Or.inr rfl) _).alloc _;have hsz:(w.setCell ⟨bt,1922+l,none⟩ (.slice (some ⟨w.heap.size,0,none⟩) 1 1)).heap.size=w.heap.size:=by simp[World.setCell]
 have hbtl:=(Array.getElem?_eq_some_iff.1 h.hT).1;have hlt:∀k,k<l->gm k<w.heap.size:=λk hk=>(Array.getElem?_eq_some_iff.1 (h.cL k hk)).1;refine⟨?_,hF⟩;exact {
  hB:=⟨h.hB.1,h.hB.2.1,λk hk=>by
   by_cases e:k=l
   ·simp only[AS e];exact hB
   ·simp only[AI e];exact h.hB.2.2 k (by omega)⟩
  hT:=by rw[OF _ _ _ (by rw[hsz];exact hbtl)];exact heap_set h.hT
  hA:=by rw[XB];exact h.hA
  h0:=by rw[Array.getElem?_setIfInBounds,AI (by omega)];exact h.h0
  ho:=λq hq hk=>by rw[Array.getElem?_setIfInBounds,AI (λe=>hk l (by omega) e.symm)];exact h.ho q hq (λk hk'=>hk k (by omega))
  hr:=hF.iL h.hr (λq cur hq e=>by rw[e,h.hT]at hq;exact absurd (eu hq) (by decide))
  bj:=λi hi=>xJ (h.bj i hi) h.hT hF
  fa:=h.fa
  eV:=λk hk=>by
   by_cases e:k=l
   ·subst e;simp only[No];rw[Array.getElem?_setIfInBounds,AS rfl,AS (by rw[h.hA];omega)]
   ·simp only[AI e];rw[Array.getElem?_setIfInBounds,AI (by omega)];exact h.eV k (by omega)
  cL:=λk hk=>by
   by_cases e:k=l
   ·simp only[AS e]
    have:=BY (w.setCell ⟨bt,1922+l,none⟩ (.slice (some ⟨w.heap.size,0,none⟩) 1 1)) (.cells fe 74);rw[hsz]at this;exact this
   ·simp only[AI e];exact hF.heap (h.cL k (by omega)) (λq=>by have:=h.cL k (by omega);rw[q,h.hT]at this;exact absurd (eu this) (by decide))
  eP:=λk k' hk hk' he=>by
   by_cases e:k=l
   ·by_cases e':k'=l
    ·rw[e,e']
    ·simp only[AS e,AI e']at he
     have:=hlt k' (by omega);omega
   ·by_cases e':k'=l
    ·simp only[AI e,AS e']at he
     have:=hlt k (by omega);omega
    ·simp only[AI e,AI e']at he;exact h.eP k k' (by omega) (by omega) he}
def au.first(nr br bS:Nat)(R:Array Value)(b:Nat->Nat)(bm:Nat->Nat->Nat)(gm:Nat->Nat)(A:Array Value):au:=
 {nr:=nr,br:=br,bS:=bS,R:=R,b:=b,bm:=bm,K:=λ_=>fc,ws:=[],wv:=.slice none 0 0,kn:=λ_ _ _=>false,go:=λ_ _ _=>false,mem:=λ_=>[oJ],gm:=gm,kF:=λ_=>1,A:=A}
theorem vd:ji fc:=λs=>⟨λv hv=>by simp[fc]at hv,by simp[fc],λv hv=>by simp[fc]at hv,λi _=>by simp[fc]⟩
theorem Kz(k:Nat):expected [] (λ_=>false) (λ_=>false) k= []:=by
 simp[expected,cf]
theorem bz.first{nr br bS:Nat}{R:Array Value}(h1:1<=nr)(h4:nr<=4):bz ks (au.first nr br bS R b bm gm A) where
 bA:=⟨h1,h4⟩
 hlen:=by simp[au.first]
 eF:=λj x hx=>by simp[au.first]at hx
 dD:=λx hx=>by simp[au.first]at hx
 dq:=λx hx=>by simp[au.first]at hx
 cU:=λi k _ _=>⟨λj x hx=>by simp[au.first]at hx,λj _=>rfl,λb=>by simp[au.first,fc,bF]⟩
 aD:=λi k _ _=>by simp[au.first,fc,bF]
 hex:=λi k _ _=>by
  show (fc (ks k)).2=expected [] (λ_=>false) (λ_=>false) k;rw[Kz];rfl
 iC:=λ_ _ _ _ _ _=>rfl
 jQ:=λk m _ hm=>by
  have:m=oJ:=by simpa[au.first] using hm
  subst this;exact⟨λj x hx=>by simp[au.first]at hx,λj _=>rfl,λb=>by simp[au.first,oJ,bF]⟩
 jr:=λk _=>by simp[au.first]
 eT:=λi _=>vd
 fx:=λi _ s hs=>by obtain⟨q,_,hq⟩:=hs;exact absurd rfl hq
 dH:=λ_ _ _ _ _ h=>by cases h
theorem gO.dy(h:gO B w bt j 3 A rv b bm gm)(hj:0<j): ∃br bS R,aP B w bt (au.first j br bS R b bm gm A):=by
 rcases h.hr.2 with⟨_,h0⟩|⟨br,bS,R,hv,hbr,hR,hc1,hc2,hc3,htk⟩
 ·omega
 ·refine⟨br,bS,R,?_⟩;exact {
   hB:=⟨h.hB.1,h.hB.2.1⟩
   hT:=h.hT
   hA:=h.hA
   h0:=by show A[0]?=_;rw[h.h0,hv];rfl
   hR:=hR
   fh:=λi hi=>by
    show R[i]?=_;have hi':i<j:=hi;have e1:(oO b j)[i]?=some (.pointer (some ⟨b i,0,none⟩)):=by
     unfold oO;rw[List.getElem?_map,List.getElem?_range hi'];rfl
    rw[<-htk,List.getElem?_take,AS (by omega),Array.getElem?_toList]at e1;exact e1
   bj:=h.bj
   fa:=h.fa
   h1:=by show A[1]?=_;rw[h.ho 1 (by omega) (λk hk=>by omega)];exact Ew 1 (by omega)
   hw:=⟨rfl,Or.inl ⟨rfl,rfl⟩⟩
   aV:=λi k q hi hk hq=>by
    show A[2+i*240+k*80+q]?=_;rw[h.ho _ (by omega) (λl hl=>by omega),show 2+i*240+k*80+q=2+(i*240+k*80+q) by omega];exact Fq _ (by omega)
   hgo:=λi k q hi hk hq=>by
    show A[962+i*240+k*80+q]?=_;rw[h.ho _ (by omega) (λl hl=>by omega),show 962+i*240+k*80+q=2+(960+i*240+k*80+q) by omega];exact Fq _ (by omega)
   eV:=λk hk=>h.eV k hk
   cL:=λk hk=>by
    show w.ownsRow B 74 84 (.slice (some ⟨gm k,0,none⟩) 1 1) 1 (ik [oJ]);have e1:ik [oJ]=fe.toList:=by
     rw[<-Vj];simp[ik]
    rw[e1];refine⟨by rw[XC,iB],Or.inr ⟨gm k,1,fe,rfl,h.hB.2.2 k hk,h.cL k hk,iR _,by unfold maxLen;omega,by rw[iB],?_⟩⟩;rw[YA (by rw[XC,iB];omega)]
   eP:=h.eP
   j7:=λi k hi hk=>by
    show A[1927+i*3+k]?=_;rw[h.ho _ (by omega) (λl hl=>by omega),show 1927+i*3+k=1927+(i*3+k) by omega,JX _ (by omega)];rfl}
section
attribute [local go_sem ↓] EA Yn Yo
attribute [local go_sem] DI wA
abbrev ml:ByteArray:=⟨#[97]⟩
abbrev tW:ByteArray:=⟨#[120]⟩
abbrev JE:ByteArray:=⟨#[65]⟩
def tM:Ctx:=λ_=>0
def Lj:Ctx:=λi=>if i=0 then 1 else 0
def pW:aw:=bD fc ml (bump (aZ tM tM) 0,[(0,1,tW)])
theorem Q5:ji pW:=by
 refine vd.upd (λv hv=>?_) (by simp) (λv hv=>?_) (λi hi=>?_)
 ·rw[List.mem_singleton.1 hv];decide
 ·rw[List.mem_singleton.1 hv];decide
 ·rcases fp hi with rfl|rfl|rfl|rfl<;>decide
theorem Ml(b:Nat)(bm:Nat->Nat)(w:World)(h:aB w b bm 0 fc):
  Calls aa.prog 21 #[.pointer (some ⟨b,0,none⟩),.string ⟨#[97]⟩,.string ⟨#[120]⟩,.agg #[.int .i64 0,.int .i64 0,.int .i64 0,.int .i64 0]] w λe w'=>e=.returned (.int .i64 0)/\aB w' b bm 0 pW/\w.grownBy w' (some (bm (ay ml))):=by
 refine (Ak b 0 bm fc ml tW tM w h vd (by decide) (by decide) (by decide) (by decide) (by decide) (by decide) (by decide) (by decide)).mono ?_;rintro e w' ⟨rfl,l',hp,_,hr,hg⟩;have hl:l'= [(0,1,tW)]:=List.perm_singleton.1 hp;subst hl;exact⟨rfl,hr,hg⟩
theorem SN(b:Nat)(bm:Nat->Nat)(w:World)(h:aB w b bm 0 pW):
  Calls aa.prog 22 #[.pointer (some ⟨b,0,none⟩),.string ⟨#[97]⟩] w λe w'=>∃g cap c0 c1 c2 c3,e=.returned (.tuple #[.slice (some ⟨g,0,none⟩) 1 cap,.agg #[.int .i64 c0,.int .i64 c1,.int .i64 c2,.int .i64 c3],.int .i64 0])/\w'.cell? ⟨g,0,none⟩=some (.int .i64 0)/\w'.cell? ⟨g,1,none⟩=some (.int .i64 1)/\w'.cell? ⟨g,2,none⟩=some (.string ⟨#[120]⟩)/\Below w.heap.size w w':=by
 refine (wT b 0 bm pW ml w h Q5 (by decide) (by decide)).mono ?_;rintro e w' ⟨v',rfl,aD,hb⟩;have hk:(pW ml).2= [(0,1,tW)]:=by simp[pW,bD]
 rw[hk]at aD;obtain⟨g,cap,rfl,_,_,hc⟩:=uy aD (by simp);exact⟨g,cap,_,_,_,_,rfl,hc 0 _ (by simp) rfl,hc 1 _ (by simp) rfl,hc 2 _ (by simp) rfl,hb⟩
theorem Mi(b num:Nat)(w:World):
  Calls aa.prog 21 #[.pointer (some ⟨b,0,none⟩),.string ⟨#[65]⟩,.string ⟨#[]⟩,.agg #[.int .i64 0,.int .i64 0,.int .i64 0,.int .i64 0]] w λe w'=>e=.returned (.int .i64 2)/\Below w.heap.size w w':=
 M7 b JE ⟨#[]⟩ tM w (by decide) (by decide)
theorem Sm(b num:Nat)(bm:Nat->Nat)(w:World)(h:aB w b bm num fc):
  Calls aa.prog 23 #[.pointer (some ⟨b,0,none⟩),.string ⟨#[97]⟩,.agg #[.int .i64 1,.int .i64 0,.int .i64 0,.int .i64 0]] w λe w'=>e=.returned (.int .i64 5)/\Below w.heap.size w w':=
 Am b num bm fc ml Lj w h vd (by decide) (by decide) (by decide) rfl
theorem aa.Jb:(aa.prog.info? 29).map (λi=>(i.zero,i.size,i.bytes))=some (some (.pointer none),1,8):=by kernel_rfl
theorem Px(h:gO B w1 bt j l A rv b bm gm)(hgrow:(w1.alloc (.cells C t0)).grownBy w2 rv.ownBlock):w2.heap[bt]?=some (.cells A 42):=by
 have hbtl:=(Array.getElem?_eq_some_iff.1 h.hT).1;rw[hgrow.block bt (by simp;omega) (λe=>?_),OF _ _ _ hbtl]
 ·exact h.hT
 ·obtain⟨_,cur,hc⟩:=sQ h.hr bt e.symm;rw[h.hT]at hc;exact absurd (eu hc) (by decide)
def zQ(B:Nat)(w:World)(bt j:Nat)(wr:World):Prop:=
 ∃A rv b bm gm,gO B wr bt j 0 A rv b bm gm/\(∀i n,i<j->n<64->bm i n<wr.heap.size)/\(∀q,q<B->wr.heap[q]?=w.heap[q]?)/\wr.os=w.os/\wr.tape=w.tape/\wr.output=w.output/\w.heap.size<=wr.heap.size
theorem U1{w3:World}{X:Obj}(hB:B<=w.heap.size)(h1:Below (w.alloc (.cells hY 42)).heap.size (w.alloc (.cells hY 42)) w1)(hb:∀m,m<64->(w.alloc (.cells hY 42)).heap.size<=bm1 m)(h2:w1.grownBy w2 (some (bm1 (ay ml))))(h3:Below w2.heap.size w2 w3):
  zQ B w w.heap.size 0 (w3.alloc X):=by
 have hn:=hb _ (eU ml);have hsz:(w.alloc (.cells hY 42)).heap.size=w.heap.size+1:=by simp
 have hF:Fr (λq=>q=bm1 (ay ml)) (w.alloc (.cells hY 42)) (w3.alloc X):=(((Fr.iY h1).grown h2 (λq e _=>by cases e;rfl)).below h3).alloc X;have hT:(w3.alloc X).heap[w.heap.size]?=some (.cells hY 42):=hF.heap (BY w _) (λe=>by omega);refine⟨hY,.slice none 0 0,λ_=>0,λ_ _=>0,λ_=>0,?_,λi n hi=>absurd hi (by omega),λq hq=>?_,hF.os,hF.tape,hF.output,Xb (by omega) hF.size⟩
 ·exact {
   hB:=⟨hB,λi n hi=>absurd hi (by omega),λk hk=>absurd hk (by omega)⟩
   hT:=hT
   hA:=EU
   h0:=Ew 0 (by omega)
   ho:=λq _ _=>rfl
   hr:=⟨rfl,Or.inl ⟨rfl,rfl⟩⟩
   bj:=λi hi=>absurd hi (by omega)
   fa:=λi i' n n' hi=>absurd hi (by omega)
   eV:=λk hk=>absurd hk (by omega)
   cL:=λk hk=>absurd hk (by omega)
   eP:=λk k' hk=>absurd hk (by omega)}
 ·rw[hF.block q (by omega) (λe=>by omega),OF _ _ _ (by omega)]
theorem Rx(B m:Nat)(ks:Nat->ByteArray)(w:World)(h1:1<=m)(h4:m<=4)(hB:B<=w.heap.size):
  Calls aa.prog 7 #[.int .i64 m] w λe w'=>∃bt g,e=.returned (.pointer (some ⟨bt,0,none⟩))/\g.nr=m/\aP B w' bt g/\bz ks g/\Below B w w':=by
 have hz:=aa.TA;have hzms:=iB;have hzm:=aa.zy;have hzs:=EU;have hneq:=λW=>Ha W 0 1 ⟨#[120]⟩;go_enter aa.func7,aa.ntmps7;go_wp2_with (first
  |(go_at_call 20;refine (Cd 0 _ (by omega)).mono ?_;rintro e w1 ⟨b1,bm1,rfl,hb1,hbm1,hR1,hbel1⟩;have HR1:Hid _:=hR1;have HB1:Hid _:=hbel1;clear hR1 hbel1)
  |(go_at_call 21;refine (Ml b1 bm1 _ HR1.out).mono ?_;rintro e w2 ⟨rfl,hR2,hg2⟩;have HR2:Hid _:=hR2;have HG2:Hid _:=hg2;clear hR2 hg2)
  |(go_at_call 22;refine (SN b1 bm1 _ HR2.out).mono ?_;rintro e w3 ⟨g3,cap3,x0,x1,x2,x3,rfl,y0,y1,y2,hb3⟩;have hg3:=World.block_lt_of_cell? _ _ y0;have HB3:Hid _:=hb3;clear hb3))
 have HS:Hid (zQ B w w.heap.size 0 (w3.alloc (.cells #[.int .i64 x0,.int .i64 x1,.int .i64 x2,.int .i64 x3] 66))):=U1 hB HB1.out hbm1 HG2.out HB3.out;clear y0 y1 y2 hg3 HB1 hbm1 HG2 HB3 HR1 HR2 hneq;obtain⟨i0,hi0,hz0,hz1,hz2⟩:=Xm aa.Jb;go_loopw [10] (λiv wr=>∃j:Nat,j<=m/\iv=.int .i64 j/\zQ B w w.heap.size j wr) (λiv _=>m-(intOf iv).toNat)
 case atStart=>exact⟨0,by omega,rfl,HS.out⟩
 case round=>
  obtain⟨j,hj,rfl,A,rv,b,bm,gm,hbeg,hbml,hlow,hos,htape,hout,hgr⟩:=hrel;by_cases hjm:j<m
  ·have j1:(j:Int)<(m:Int):=by omega
   have j4:j<4:=by omega
   obtain⟨rad,rcap,hrv⟩:=qE hbeg.hr;have HBeg:Hid (gO B wr w.heap.size j 0 A (.slice rad j rcap) b bm gm):=by rw[hrv]at hbeg;exact hbeg
   have HLow:Hid _:=And.intro hbml (And.intro hlow (And.intro hos (And.intro htape (And.intro hout hgr))));clear hbeg hbml hlow hos htape hout hrv HS;go_wp2_with (first
    |(go_at_call 20;refine (Cd j _ j4).mono ?_;rintro e w4 ⟨b4,bm4,rfl,hb4,hbm4,hR4,hbel4⟩;have HR4:Hid (aB w4 b4 bm4 j fc):=hR4;have HB4:Hid (Below wr.heap.size wr w4):=hbel4;clear hR4 hbel4)
    |(go_at_call 21;refine (Mi b4 j _).mono ?_;rintro e w5 ⟨rfl,hbel5⟩;have HB5:Hid (Below w4.heap.size w4 w5):=hbel5;have HR5:Hid (aB w5 b4 bm4 j fc):=HR4.out.below hbel5;clear hbel5)
    |(go_at_call 23;refine (Sm b4 j bm4 _ HR5.out).mono ?_;rintro e w6 ⟨rfl,hbel6⟩;have HB6:Hid (Below w5.heap.size w5 w6):=hbel6;have HR6:Hid (aB w6 b4 bm4 j fc):=HR5.out.below hbel6;have HG6:Hid (gO B w6 w.heap.size j 0 A (.slice rad j rcap) b bm gm):=((HBeg.out.below HB4.out).below HB5.out).below hbel6;have c6:w6.cell? ⟨w.heap.size,0,none⟩=some (.slice rad j rcap):=(by rw[(al HG6.out.hT).1];exact HG6.out.h0);clear hbel6)
    |(at_builtin;refine YP _ rfl _ _ _ rfl B 29 i0 _ 1 8 aa.underlying30 hi0 hz0 hz1 hz2 rfl (by omega) (.slice rad j rcap) _ _ rfl (HG6.out.hr.alloc _) ⟨w6.heap.size,0,none⟩ 1 1 [.pointer (some ⟨b4,0,none⟩)] rfl rfl (Xr (cs:=#[.pointer (some ⟨b4,0,none⟩)]) (t:=29) (fr:=(0,0)) (BY w6 _)) (by simp[Value.oneCell']) (by omega) (by unfold maxLen;omega) (by omega) (by have h1:=HB4.out.size;have h2:=HB5.out.size;have h3:=HB6.out.size;simp;omega) (w6.heap.size+1) (by simp) ?_;intro gg capn w7 hown7 hgrow7 hat7 hlt7;have HP:Hid _:=HG6.out.push (w:=wr) (by have h1:=HB4.out.size;have h2:=HB5.out.size;have h3:=HB6.out.size;omega) HLow.out.1 (by omega) HR6.out hbm4 hgrow7 hown7;have T7:w7.heap[w.heap.size]?=some (.cells A 42):=Px HG6.out hgrow7;have s1:w7.cell? ⟨w.heap.size,0,none⟩=some (.slice rad j rcap):=(by rw[(al T7).1];exact HG6.out.h0);have s2:w7.frozen? ⟨w.heap.size,0,none⟩=false:=(al T7).2 0;clear hown7 hgrow7 hat7 hlt7 T7))
   refine⟨⟨j+1,by omega,by go_num,?_⟩,by simp[intOf];omega⟩;obtain⟨p1,p2,p3⟩:=HP.out;obtain⟨l1,l2,l3,l4,l5,l6⟩:=HLow.out;have z4:=HB4.out.size;have z5:=HB5.out.size;have z6:=HB6.out.size;have z7:=p2.size;refine⟨_,_,_,_,gm,p1,λi n hi hn=>?_,λq hq=>?_,p2.os.trans (HB6.out.os.trans (HB5.out.os.trans (HB4.out.os.trans l3))),p2.tape.trans (HB6.out.tape.trans (HB5.out.tape.trans (HB4.out.tape.trans l4))),p2.output.trans (HB6.out.output.trans (HB5.out.output.trans (HB4.out.output.trans l5))),by omega⟩
   ·by_cases e:i=j
    ·simp only[AS e]
     have:=(HR6.out.2.1 n hn).lt;omega
    ·simp only[AI e]
     have:=l1 i n (by omega) hn;omega
   ·rw[p3 q hq,HB6.out.block q (by omega),HB5.out.block q (by omega),HB4.out.block q (by omega)];exact l2 q hq
  ·obtain rfl:j=m:=by omega
   have HS2:Hid (∃A rv b bm gm,gO B wr w.heap.size j 0 A rv b bm gm/\(∀q,q<B->wr.heap[q]?=w.heap[q]?)/\wr.os=w.os/\wr.tape=w.tape/\wr.output=w.output/\w.heap.size<=wr.heap.size):=⟨A,rv,b,bm,gm,hbeg,hlow,hos,htape,hout,hgr⟩
   clear hbeg hbml hlow hos htape hout hgr HS;go_wp2;go_loopw [15] (λkv wy=>∃l:Nat,l<=3/\kv=.int .i64 l/\∃A rv b bm gm,gO B wy w.heap.size j l A rv b bm gm/\(∀q,q<B->wy.heap[q]?=w.heap[q]?)/\wy.os=w.os/\wy.tape=w.tape/\wy.output=w.output/\w.heap.size<=wy.heap.size) (λkv _=>3-(intOf kv).toNat)
   case atStart=>exact⟨0,by omega,rfl,HS2.out⟩
   case round=>
    obtain⟨l,hl,rfl,A,rv,b,bm,gm,hbeg,hlow,hos,htape,hout,hgr⟩:=hrel;by_cases hl3:l<3
    ·have l1:(l:Int)<3:=by omega
     have l0:(0:Int)<=(l:Int):=by omega
     have hAs:=hbeg.hA;have s1: ‹World›.cell? ⟨w.heap.size,1922+l,none⟩=some A[1922+l]:=by rw[(al hbeg.hT).1];exact Array.getElem?_eq_getElem (by omega)
     have s2: ‹World›.frozen? ⟨w.heap.size,1922+l,none⟩=false:=(al hbeg.hT).2 _;have HM:Hid _:=hbeg.Ip hl3 (by omega);have HLow:Hid _:=And.intro hlow (And.intro hos (And.intro htape (And.intro hout hgr)));have hbl:=(Array.getElem?_eq_some_iff.1 hbeg.hT).1;clear hbeg hlow hos htape hout;go_wp2;obtain⟨p1,p2⟩:=HM.out;obtain⟨f1,f2,f3,f4,f5⟩:=HLow.out;refine⟨⟨l+1,by omega,by go_num,_,rv,b,bm,_,p1,λq hq=>?_,p2.os.trans f2,p2.tape.trans f3,p2.output.trans f4,Xb f5 p2.size⟩,by simp[intOf];omega⟩;rw[p2.block q (by omega) (by omega)];exact f1 q hq
    ·obtain rfl:l=3:=by omega
     have HBeg:Hid _:=And.intro hbeg (And.intro hlow (And.intro hos (And.intro htape hout)));clear hbeg hlow hos htape hout;go_wp2;go_ret;obtain⟨f1,f2,f3,f4,f5⟩:=HBeg.out;obtain⟨br,bS,R,hnet⟩:=f1.dy (by omega);exact⟨w.heap.size,_,rfl,rfl,hnet,bz.first h1 h4,f3,f4,f5,hgr,f2⟩
end
theorem aP.below(h:aP B w bt g)(hb:Below w.heap.size w w'):aP B w' bt g:=
 h.fr (X:=λ_=>False) (Fr.iY hb) ⟨λe=>e,λe=>e,λ_ _ e=>e,λ_ _ _ _ e=>e,λ_ _ _ e=>e,λ_ _ _ e=>e,λ_ _ _ e=>e⟩
theorem aP.base{B':Nat}(h:aP B w bt g)(hB:B'<=B):aP B' w bt g:=
 {h with
  hB:=⟨Xb hB h.hB.1,λi n hi hn=>Xb hB (h.hB.2 i n hi hn)⟩
  hw:=ej h.hw hB
  cL:=λk hk=>ej (h.cL k hk) hB}
theorem Nt{i:Nat}(hN:aP B w bt g)(hI:bz ks g)(hK:dY w ks)(hi:i<g.nr):BW w bt g.br (g.b i) (g.bm i) i g.nr g.bS i g.A g.R g.wv (g.K i) g.ws (g.kn i) (g.go i) ks where
 hT:=hN.hT
 h0:=hN.h0
 hR:=hN.hR
 hi:=⟨hi,Xc hi hI.bA.2,hI.bA.2⟩
 fh:=hN.fh i hi
 bj:=hN.bj i hi
 hK:=hI.eT i hi
 h1:=hN.h1
 hw:=ej hN.hw (XN _)
 hlen:=hI.hlen
 aV:=λk j hk hj=>hN.aV i k j (Xc hi hI.bA.2) hk hj
 hgo:=λk j hk hj=>hN.hgo i k j (Xc hi hI.bA.2) hk hj
 ed:=λk hk=>⟨hK.cell k hk,(hK.key k hk).1,(hK.key k hk).2⟩
 hex:=λk hk=>hI.hex i k hi hk
theorem NF(hN:aP B w bt g)(hI:bz ks g)(hK:dY w ks):
  Calls aa.prog 16 #[.pointer (some ⟨bt,0,none⟩)] w λe w'=>e=.returned (.bool true)/\Below w.heap.size w w':=by
 refine OQ bt g.nr g.bS (some ⟨g.br,0,none⟩) w (by rw[(al hN.hT).1];exact hN.h0) hI.bA.2 λi hi W hW=>?_;have hK':dY W ks:=⟨λk hk=>aU (hK.cell k hk) hW,hK.key,hK.ne⟩
 exact IU bt g.br (g.b i) (g.bm i) i g.nr g.bS i g.A g.R g.wv (g.K i) g.ws (g.kn i) (g.go i) ks W (Nt (hN.below hW) hI hK' hi)
theorem mP.dO{n:Nat}(h:mP w ad n)(hb:Below w.heap.size w w'):mP w' ad n:=by
 rcases h with h|⟨b,off,rfl,hall⟩
 ·exact Or.inl h
 ·refine Or.inr ⟨b,off,rfl,λj hj=>?_⟩;obtain⟨z,hz,hr⟩:=hall j hj;exact⟨z,aU hz hb,hr⟩
theorem bZ.dO{n:Nat}(h:bZ w bx ad n cap a)(hb:Below w.heap.size w w'):bZ w' bx ad n cap a:=
 ⟨aQ h.1 hb,h.2.1,h.2.2.1,h.2.2.2.dO hb⟩
theorem Mk{n:Nat}(hN:aP B W bt g)(hJ:Jx w bx ad n cap W)(hD:bZ w bx ad n cap at')(hB:B<=bx)(hnb:0<n->∀b off,ad=some ⟨b,off,none⟩->b<B)(hb:Below B W w')(hF:Fr (vo g bt) W w'):Below B w w'/\∃at2,bZ w' bx ad n cap at2:=by
 have hb':Below B w w':=(hJ.toBelow hB).trans hb;refine⟨hb',vk hD hJ hF (λe=>?_) hnb hb'⟩;obtain⟨_,⟨a,_,h3⟩,_⟩:=hJ;rcases e with e|⟨j,hj,m,hm,e⟩
 ·rw[e,hN.hT]at h3;exact absurd (eu h3) (by decide)
 ·obtain⟨es,clock,he⟩:=hN.map hj hm;rw[e,he]at h3;cases h3
def nV(B:Nat)(w:World)(bt bx n cap:Nat)(ad:Option Addr)(ks:Nat->ByteArray)(nr:Nat)(W:World):Prop:=
 (∃g,g.nr=nr/\aP B W bt g/\bz ks g)/\(∃at2,bZ W bx ad n cap at2)/\Below B w W
def tA(B:Nat)(w:World)(bt:Nat)(ks:Nat->ByteArray)(nr:Nat)(g0:au)(i:Nat)(W:World):Prop:=
 ∃g,mw g0 i g/\g.nr=nr/\aP B W bt g/\bz ks g/\Below B w W
theorem DT{b:Nat}(hN:aP B W bt g)(hI:bz ks g)(ha:a<g.nr)(hb:b<g.nr):qk W (g.b a) a (g.bm a) (g.K a) (g.b b) b (g.bm b) (g.K b):=
 ⟨hN.bj a ha,nU hN.bj hI ha,hN.bj b hb,nU hN.bj hI hb⟩
theorem Tk(ad:Option Addr)(n cap:Nat)(way:Int)(ks:Nat->ByteArray)(w:World)(hK:dY w ks)(hC:mP w ad n)(hn:n<=9223372036854775807)(hnb:0<n->∀b off,ad=some ⟨b,off,none⟩->b<w.heap.size)(h0:0<w.heap.size)(hway: -9223372036854775808<=way/\way<=9223372036854775807):
  Calls aa.prog 6 #[.slice ad n cap,.int .i64 way] w λe w'=>e=.returned (.bool true)/\Below w.heap.size w w':=by
 have ha:Below w.heap.size w (w.alloc (.cells #[.slice ad n cap,.int .i64 0] 25)):=(AT _ _).alloc (iR _) _;have hD:bZ (w.alloc (.cells #[.slice ad n cap,.int .i64 0] 25)) w.heap.size ad n cap 0:=⟨BY w _,XN _,hn,hC.dO ha⟩
 have hnb':0<n->∀b off,ad=some ⟨b,off,none⟩->b≠w.heap.size:=λh b off e=>by have:=hnb h b off e;omega
 have HNx:Hid (Calls aa.prog 14 #[.pointer (some ⟨w.heap.size,0,none⟩),.int .i64 3] (w.alloc (.cells #[.slice ad n cap,.int .i64 0] 25)) λe w'=>∃r:Nat,e=.returned (.int .i64 r)/\(r:Int)<3/\(∃at2,bZ w' w.heap.size ad n cap at2)/\Below w.heap.size w w'):=by
  refine (pU w.heap.size ad n cap 0 3 _ hD hnb' (by omega) (by omega)).mono ?_;rintro e w' ⟨r,at2,rfl,hr,hd,_,hg,_⟩;refine⟨r,rfl,hr,⟨at2,hd⟩,ha.grown hg (by simp) (λk e=>by cases e;exact iR _)⟩
 have HBeg:Hid (∀(r:Nat) (W:World),(r:Int)<3->w.heap.size<=W.heap.size->Calls aa.prog 7 #[.int .i64 (2+(r:Int))] W λe w'=>∃bt g,e=.returned (.pointer (some ⟨bt,0,none⟩))/\g.nr=2+r/\aP w.heap.size w' bt g/\bz ks g/\Below W.heap.size W w'):=by
  intro r W hr hW
  have:=Rx W.heap.size (2+r) ks W (by omega) (by omega) (iR _);rw[show ((2+r:Nat):Int)=2+(r:Int) by omega]at this;refine this.mono ?_;rintro e w' ⟨bt,g,rfl,h1,h2,h3,h4⟩;exact⟨bt,g,rfl,h1,h2.base hW,h3,h4⟩
 have HKA:Hid (dY w ks):=hK;have HPk:Hid (∀W,Calls aa.prog 9 #[.int .i64 way,.int .i64 2] W λe w'=>e=.returned (.int .i64 (lz way 2))/\w'=W):=λW=>Dn way 2 W hway.1 hway.2 (by omega) (by omega);generalize lz way 2=pk at*;clear hD hK hC ha hway;go_enter aa.func6,aa.ntmps6;go_upto_region 4 with (first
  |(go_at_call 14;refine By HNx.out ?_;rintro e w1 ⟨r,rfl,hr,hd1,hb1⟩;have HD1:Hid _:=hd1;have HB1:Hid (Below w.heap.size w w1):=hb1;clear hd1 hb1)
  |(go_at_call 7;refine By (HBeg.out r _ hr HB1.out.size) ?_;rintro e w2 ⟨bt,g,rfl,bA,hN,hI,hb2⟩;have HN:Hid (g.nr=2+r/\aP w.heap.size w2 bt g/\bz ks g):=⟨bA,hN,hI⟩;have HB2:Hid (Below w1.heap.size w1 w2):=hb2;clear hN hI hb2 bA))
 obtain⟨nr,bA⟩: ∃nr:Nat,nr=2+r:=⟨_,rfl⟩
 have HS:Hid (nV w.heap.size w bt w.heap.size n cap ad ks nr w2):=by
  obtain⟨at2,hd⟩:=HD1.out;exact⟨⟨g,HN.out.1.trans bA.symm,HN.out.2⟩,⟨at2,hd.dO HB2.out⟩,bc HB1.out HB2.out⟩
 have hn2:(2:Int)<=(nr:Int):=by omega
 have hn4:(nr:Int)<=4:=by omega
 rw[show (2:Int)+(r:Int)=(nr:Int) by omega];clear HN HB2 HB1 HD1 HNx HBeg bA hr;go_wp2;go_loopw [8] (λiv wr=>∃i:Nat,i<=80/\iv=.int .i64 i/\Hid (nV w.heap.size w bt w.heap.size n cap ad ks nr wr)) (λiv _=>80-(intOf iv).toNat)
 case atStart=>exact⟨0,by omega,rfl,HS.out⟩
 case round=>
  obtain⟨i,hi,rfl,HNd⟩:=hrel;clear HS;obtain⟨⟨g,hgn,hN,hI⟩,⟨at2,hD⟩,hb⟩:=HNd.out;obtain⟨c,f⟩:=al hD.1;have c0: ‹World›.cell? ⟨w.heap.size,0,none⟩=some (.slice ad n cap):=c 0;have c1: ‹World›.cell? ⟨w.heap.size,1,none⟩=some (.int .i64 at2):=c 1;clear c f;by_cases hgo:i<80/\at2<n
  ·have HJ:Hid (∀w',Jx wr w.heap.size ad n cap w'->aP w.heap.size w' bt g):=λw' h=>hN.fr h.1 (hN.ue hD.1 (by decide) (by decide) (by decide) (by decide) (by decide) (by decide));have HNx:Hid (∀(m:Int) W,1<=m->m<=1000->Jx wr w.heap.size ad n cap W->Calls aa.prog 14 #[.pointer (some ⟨w.heap.size,0,none⟩),.int .i64 m] W λe w'=>∃r:Nat,e=.returned (.int .i64 r)/\(r:Int)<m/\Jx wr w.heap.size ad n cap w'):=by
    intro m W h1 h2 hJW;obtain⟨a,hW⟩:=hJW.pQ hD.2.2.1 hD.2.2.2 hnb';refine (pU w.heap.size ad n cap a m W hW hnb' h1 h2).mono ?_;rintro e w' ⟨r,at2,rfl,hr,hd,_,hg,hz⟩;exact⟨r,rfl,hr,Jx.next hJW hg hd⟩
   have HLoc:Hid (∀W,Jx wr w.heap.size ad n cap W->Calls aa.prog 8 #[.pointer (some ⟨bt,0,none⟩),.pointer (some ⟨w.heap.size,0,none⟩)] W λe w'=>e=.returned (.bool true)/\nV w.heap.size w bt w.heap.size n cap ad ks nr w'):=λW hW=>by
    obtain⟨a,hDW⟩:=hW.pQ hD.2.2.1 hD.2.2.2 hnb';have hbW:Below w.heap.size w W:=hb.trans (hW.toBelow (iR _));refine (UD w.heap.size bt w.heap.size n cap a ad g ks W (HJ.out W hW) hI (HKA.out.below h0 hbW) hDW hnb (iR _) h0).mono ?_;rintro e w' ⟨rfl,h1,g',h5,h2,h3,h4⟩;exact⟨rfl,⟨g',h5.trans hgn,h2,h3⟩,h4,hbW.trans h1⟩
   have HTk:Hid (∀(a b k:Nat) W,a<nr->b<nr->k<=6->Jx wr w.heap.size ad n cap W->Calls aa.prog 15 #[.pointer (some ⟨bt,0,none⟩),.int .i64 a,.int .i64 b,.int .i64 k] W λe w'=>∃m:Nat,e=.returned (.tuple #[.int .i64 m,.bool true])/\nV w.heap.size w bt w.heap.size n cap ad ks nr w'):=λa b k W ha hb' hk hW=>by
    have hbW:Below w.heap.size w W:=hb.trans (hW.toBelow (iR _));refine (CP w.heap.size bt a b k g ks W (HJ.out W hW) hI (HKA.out.below h0 hbW) h0 (by omega) (by omega) (by omega)).mono ?_;rintro e w' ⟨m,g',rfl,⟨h1,h2⟩,h5,_,h3,h4,_⟩;obtain⟨h6,h7⟩:=Mk (HJ.out W hW) hW hD (iR _) hnb h1 h2;exact⟨m,rfl,⟨g',h5.trans hgn,h3,h4⟩,h7,hb.trans h6⟩
   have HNo:Hid (∀W,Jx wr w.heap.size ad n cap W->nV w.heap.size w bt w.heap.size n cap ad ks nr W):=λW hW=>⟨⟨g,hgn,HJ.out W hW,hI⟩,hW.pQ hD.2.2.1 hD.2.2.2 hnb',hb.trans (hW.toBelow (iR _))⟩
   have J0:Hid (∀q,Jx wr w.heap.size ad n cap (wr.drewN q)):=λq=>⟨(Fr.refl _ _).drewN q,(Jx.start hD).2.1,(Jx.start hD).2.2⟩
   have i1:(i:Int)<80:=by omega
   have a1:(at2:Int)<(n:Int):=by omega
   have hd1:decide ((at2:Int)<(n:Int))=true:=by simpa using hgo.2
   clear hgo hb hN hI hD HNd HJ hgn;go_wp2;go_quiet (fail);go_upto_region 12 with (first
    |(go_at_call 14;refine By (HNx.out 5 _ (by omega) (by omega) (J0.out _)) ?_;rintro e w1 ⟨r1,rfl,hr1,hJ1⟩;have J1:Hid (Jx wr w.heap.size ad n cap w1):=hJ1;clear hJ1)
    |(go_at_call 8;refine By (HLoc.out _ J1.out) ?_;rintro e w2 ⟨rfl,hn2'⟩;have HN2:Hid (nV w.heap.size w bt w.heap.size n cap ad ks nr w2):=hn2';clear hn2'))
   ·exact⟨⟨i+1,by omega,by go_num,HN2.out⟩,by simp[intOf];omega⟩
   go_upto_region 13 with (first
    |(go_at_call 14;refine By (HNx.out (nr:Int) _ (by omega) (by omega) J2.out) ?_;rintro e w3 ⟨r3,rfl,hr3,hJ3⟩;have J3:Hid (Jx wr w.heap.size ad n cap w3):=hJ3;clear hJ3)
    |(go_at_call 14;refine By (HNx.out (nr:Int) _ (by omega) (by omega) J1.out) ?_;rintro e w2 ⟨r2,rfl,hr2,hJ2⟩;have J2:Hid (Jx wr w.heap.size ad n cap w2):=hJ2;clear hJ2))
   by_cases hab:r2=r3
   ·subst hab;go_wp2;exact⟨⟨i+1,by omega,by go_num,HNo.out _ J3.out⟩,by simp[intOf];omega⟩
   ·have hab': ¬(r2:Int)=(r3:Int):=by omega
    go_wp2_with (first
     |(go_at_call 14;refine By (HNx.out 6 _ (by omega) (by omega) J3.out) ?_;rintro e w4 ⟨r4,rfl,hr4,hJ4⟩;have J4:Hid (Jx wr w.heap.size ad n cap w4):=hJ4;clear hJ4)
     |(go_at_call 15;refine By (HTk.out r2 r3 (1+r4) _ (by omega) (by omega) (by omega) J4.out) ?_;rintro e w6 ⟨m6,rfl,hn6⟩;have HN6:Hid (nV w.heap.size w bt w.heap.size n cap ad ks nr w6):=hn6;clear hn6))
    exact⟨⟨i+1,by omega,by go_num,HN6.out⟩,by simp[intOf];omega⟩
  ·obtain⟨Wo,hWo⟩: ∃W,W=wr:=⟨_,rfl⟩
   subst hWo;have HR:Hid (∀W,Below Wo.heap.size Wo W->tA w.heap.size w bt ks nr g 0 W):=λW hW=>⟨g,mw.start (by omega),hgn,hN.below hW,hI,bc hb hW⟩
   have hgd:((i:Int)<80/\decide ((at2:Int)<(n:Int))=false)\/decide ((i:Int)<80)=false:=by
    by_cases h1:(i:Int)<80
    ·exact .inl ⟨h1,by simp;omega⟩
    ·exact .inr (by simpa using h1)
   clear hgo hb hN hI hD HNd hgn;rcases hgd with⟨i1,hd1⟩|hd0
   all_goals
    go_wp2;go_quiet (fail);go_wp2
   all_goals try (exfalso;simp at hd1;omega)
   all_goals try clear i1 hd1
   all_goals try clear hd0
   all_goals try (rename (¬at2<n)=>hq;clear hq)
   all_goals
    clear c0 c1;go_loopw [12] (λiv wr=>∃i:Nat,i<=2*nr/\iv=.int .i64 i/\Hid (tA w.heap.size w bt ks nr g i wr)) (λiv _=>2*nr-(intOf iv).toNat)
    case atStart=>exact⟨0,by omega,rfl,HR.out _ (Xz (AT _ _) _)⟩
    case round=>
     obtain⟨i2,hi2,rfl,HJ⟩:=hrel;clear HR;obtain⟨g1,hA,hg1,hN,hI,hb⟩:=HJ.out;have HCe:Hid (∀W,Below wr.heap.size wr W->W.cell? ⟨bt,0,none⟩=some (.slice (some ⟨g1.br,0,none⟩) nr g1.bS)/\∀a,a<nr->W.cell? ⟨g1.br,a,none⟩=some (.pointer (some ⟨g1.b a,0,none⟩))):=λW hW=>
      ⟨by rw[(al (hN.below hW).hT).1,<-hg1];exact (hN.below hW).h0,λa ha=>by rw[(al (hN.below hW).hR).1];exact (hN.below hW).fh a (by omega)⟩
     have HBw:Hid (Below w.heap.size w wr):=hb;by_cases hlt:i2<2*nr
     ·have l1:(i2:Int)<2*(nr:Int):=by omega
      obtain⟨p1,hp1⟩: ∃p,p=i2%nr:=⟨_,rfl⟩
      obtain⟨p2,hp2⟩: ∃p,p=(i2+1)%nr:=⟨_,rfl⟩
      have hp1n:p1<nr:=by rw[hp1];exact Nat.mod_lt _ (by omega)
      have hp2n:p2<nr:=by rw[hp2];exact Nat.mod_lt _ (by omega)
      have hne:p1≠p2:=by rw[hp1,hp2];rcases (show nr=2\/nr=3\/nr=4 by omega) with e|e|e<;>rw[e]<;>omega
      have m1:(i2:Int).tmod (nr:Int)=(p1:Int):=by rw[hp1];rfl
      have m2:((i2:Int)+1).tmod (nr:Int)=(p2:Int):=by rw[hp2];rfl
      have m1':(i2:Int)%(nr:Int)=(p1:Int):=by rw[hp1];rfl
      have m2':((i2:Int)+1)%(nr:Int)=(p2:Int):=by rw[hp2];rfl
      have n0: ¬(nr:Int)=0:=by omega
      obtain⟨a,b,hab,hs⟩: ∃a b:Nat,((a=p1/\b=p2)\/(b=p1/\a=p2))/\((pk=1/\(p1:Int)=b/\(p2:Int)=a)\/(¬pk=1/\(p1:Int)=a/\(p2:Int)=b)):=by
       by_cases e:pk=1
       ·exact⟨p2,p1,.inr ⟨rfl,rfl⟩,.inl ⟨e,rfl,rfl⟩⟩
       ·exact⟨p1,p2,.inl ⟨rfl,rfl⟩,.inr ⟨e,rfl,rfl⟩⟩
      have ha:a<nr:=by omega
      have hb':b<nr:=by omega
      have hmk:Hid (∀W,Below wr.heap.size wr W->W.cell? ⟨bt,0,none⟩=some (.slice (some ⟨g1.br,0,none⟩) nr g1.bS)/\W.cell? ⟨g1.br,a,none⟩=some (.pointer (some ⟨g1.b a,0,none⟩))/\W.cell? ⟨g1.br,b,none⟩=some (.pointer (some ⟨g1.b b,0,none⟩))):=λW hW=>⟨(HCe.out W hW).1,(HCe.out W hW).2 a ha,(HCe.out W hW).2 b hb'⟩
      have HTw:Hid (∀W,Below wr.heap.size wr W->Calls aa.prog 17 #[.pointer (some ⟨g1.b a,0,none⟩),.pointer (some ⟨g1.b b,0,none⟩)] W λe w'=>∃f:Bool,e=.returned (.bool f)/\(f=false->kl (g1.K a) (g1.K b))/\Below wr.heap.size wr w'):=λW hW=>
       (P8 _ _ _ _ _ _ _ _ W (DT (hN.below hW) hI (by omega) (by omega))).mono λe w' ⟨f,he,hf,hb⟩=>⟨f,he,hf,bc hW hb⟩
      have HTk:Hid (∀W,Below wr.heap.size wr W->kl (g1.K a) (g1.K b)->Calls aa.prog 15 #[.pointer (some ⟨bt,0,none⟩),.int .i64 a,.int .i64 b,.int .i64 9] W λe w'=>∃m:Nat,e=.returned (.tuple #[.int .i64 m,.bool true])/\tA w.heap.size w bt ks nr g (i2+1) w'):=λW hW hT=>by
       have hbW:=bc hb hW;refine (CP w.heap.size bt a b 9 g1 ks W (hN.below hW) hI (HKA.out.below h0 hbW) h0 (by omega) (by omega) (by omega)).mono ?_;rintro e w' ⟨m,g',rfl,⟨h1,_⟩,h5,_,h3,h4,h6⟩;exact⟨m,rfl,g',hA.step (by omega) hN.bj hI h5 (by rw[hg1,<-hp1,<-hp2];exact hab) (by omega) hT h6,h5.trans hg1,h3,h4,hbW.trans h1⟩
      clear hA hN hI hb HJ HCe hab hp1 hp2 hne hp1n hp2n;have ha0:(0:Int)<=(a:Int):=by omega
      have hb0:(0:Int)<=(b:Int):=by omega
      have han:(a:Int)<(nr:Int):=by omega
      have hbn:(b:Int)<(nr:Int):=by omega
      rcases hs with⟨hpk,e1,e2⟩|⟨hpk,e1,e2⟩
      all_goals
       rw[e1]at m1 m1';rw[e2]at m2 m2';clear e1 e2;go_wp2;go_quiet (fail);go_upto_region 23 with (go_at_call 9;refine (HPk.out _).mono ?_;rintro e w' ⟨rfl,hw'⟩;subst w')
       clear m1 m1' m2 m2';go_cut [15] from 80 to 107 (λfv wy=>∃f:Bool,fv=.bool f/\Hid ((f=false->kl (g1.K a) (g1.K b))/\Below wr.heap.size wr wy))
       case first=>
        go_region_held3 (λw'=>w'.cell? ⟨bt,0,none⟩=some (.slice (some ⟨g1.br,0,none⟩) nr g1.bS)/\w'.cell? ⟨g1.br,a,none⟩=some (.pointer (some ⟨g1.b a,0,none⟩))/\w'.cell? ⟨g1.br,b,none⟩=some (.pointer (some ⟨g1.b b,0,none⟩)))
         ((refine hmk.out _ ?_;first|(exact Xz (AT _ _) _)|(simp (maxDischargeDepth:=12) [AT,IT,Xz];done)|exact B4))
         (first|(go_at_call 17;refine By (HTw.out _ (by first|(exact Xz (AT _ _) _)|(simp (maxDischargeDepth:=12) [AT,IT,Xz];done))) ?_;rintro e w4 ⟨f,rfl,hf4,B4⟩))
        all_goals
         go_wp2_with fail;go_meet;exact⟨f,rfl,hf4,B4⟩
       case rest=>
        obtain⟨f,rfl,HF⟩:=hcut;clear hmk HTw;cases f with
        |true=>
         go_wp2;go_ret;exact⟨rfl,bc HBw.out HF.out.2⟩
        |false=>
         go_wp2_with (go_at_call 15;refine By (HTk.out _ HF.out.2 (HF.out.1 rfl)) ?_;rintro e w6 ⟨m6,rfl,hn6⟩;have HN6:Hid (tA w.heap.size w bt ks nr g (i2+1) w6):=hn6;clear hn6)
         exact⟨⟨i2+1,by omega,by go_num,HN6.out⟩,by simp[intOf];omega⟩
     ·obtain⟨Wp,hWp⟩: ∃W,W=wr:=⟨_,rfl⟩
      subst hWp;have HAl:Hid (∀j,j<nr->∀W,Below Wp.heap.size Wp W->Calls aa.prog 19 #[.pointer (some ⟨g1.b 0,0,none⟩),.pointer (some ⟨g1.b j,0,none⟩)] W λe w'=>e=.returned (.bool true)/\Below W.heap.size W w'):=λj hj W hW=>by
       refine (Nz _ _ _ _ _ _ _ _ W (DT (a:=0) (b:=j) (hN.below hW) hI (by omega) (by omega))).mono ?_;rintro e w' ⟨f,rfl,hf,hb⟩;obtain rfl:i2=2*g1.nr:=by omega
       rw[hf λn _=>hA.done hI (by omega) (by omega) n];exact⟨rfl,hb⟩
      have HEv:Hid (∀W,Below Wp.heap.size Wp W->Calls aa.prog 16 #[.pointer (some ⟨bt,0,none⟩)] W λe w'=>e=.returned (.bool true)/\Below w.heap.size w w'):=λW hW=>by
       refine (NF (hN.below hW) hI (HKA.out.below h0 (bc hb hW))).mono ?_;rintro e w' ⟨rfl,hb5⟩;exact⟨rfl,bc (bc hb hW) hb5⟩
      have l1: ¬(i2:Int)<2*(nr:Int):=by omega
      clear hA hN hI hb HJ hlt hi2;go_wp2;clear l1;go_loopw [18] (λiv wr=>∃i:Nat,1<=i/\i<=nr/\iv=.int .i64 i/\Hid (Below Wp.heap.size Wp wr)) (λiv _=>nr-(intOf iv).toNat)
      case atStart=>exact⟨1,by omega,by omega,rfl,AT _ _⟩
      case round=>
       obtain⟨i3,hi31,hi3,rfl,HB3⟩:=hrel;by_cases hj:i3<nr
       ·have j1:(i3:Int)<(nr:Int):=by omega
        have j0:(0:Int)<=(i3:Int):=by omega
        have k1:(0:Int)<(nr:Int):=by omega
        have k2:0<nr:=by omega
        have hmk:Hid (∀W,Below wr.heap.size wr W->W.cell? ⟨bt,0,none⟩=some (.slice (some ⟨g1.br,0,none⟩) nr g1.bS)/\W.cell? ⟨g1.br,0,none⟩=some (.pointer (some ⟨g1.b 0,0,none⟩))/\W.cell? ⟨g1.br,i3,none⟩=some (.pointer (some ⟨g1.b i3,0,none⟩))):=λW hW=>
         have hc:=HCe.out W (bc HB3.out hW)
         ⟨hc.1,hc.2 0 (by omega),hc.2 i3 hj⟩
        have HAj:Hid (∀W,Below wr.heap.size wr W->Calls aa.prog 19 #[.pointer (some ⟨g1.b 0,0,none⟩),.pointer (some ⟨g1.b i3,0,none⟩)] W λe w'=>e=.returned (.bool true)/\Below wr.heap.size wr w'):=λW hW=>(HAl.out i3 hj W (bc HB3.out hW)).mono λe w' ⟨he,hb⟩=>⟨he,bc hW hb⟩
        clear HAl HEv HCe;go_wp2;go_cut [19] from 122 to 136 (λfv wy=>fv=.bool true/\Hid (Below Wp.heap.size Wp wy))
        case first=>
         go_region_held3 (λw'=>w'.cell? ⟨bt,0,none⟩=some (.slice (some ⟨g1.br,0,none⟩) nr g1.bS)/\w'.cell? ⟨g1.br,0,none⟩=some (.pointer (some ⟨g1.b 0,0,none⟩))/\w'.cell? ⟨g1.br,i3,none⟩=some (.pointer (some ⟨g1.b i3,0,none⟩)))
          ((refine hmk.out _ ?_;first|(exact Xz (AT _ _) _)|(simp (maxDischargeDepth:=12) [AT,IT,Xz];done)|exact B4))
          (first|(go_at_call 19;refine By (HAj.out _ (by first|(exact Xz (AT _ _) _)|(simp (maxDischargeDepth:=12) [AT,IT,Xz];done))) ?_;rintro e w4 ⟨rfl,B4⟩))
         all_goals
          go_wp2_with fail;go_meet;exact⟨rfl,bc HB3.out B4⟩
        case rest=>
         obtain⟨rfl,HF⟩:=hcut;clear hmk HAj;go_wp2;exact⟨⟨i3+1,by omega,by omega,by go_num,HF.out⟩,by simp[intOf];omega⟩
       ·have j1: ¬(i3:Int)<(nr:Int):=by omega
        go_wp2_with (go_at_call 16;refine By (HEv.out _ HB3.out) ?_;rintro e w5 ⟨rfl,hb5⟩)
        go_ret;exact⟨rfl,hb5⟩
end Go.Proofs.YtldmcdeibiclkaaGreatDoorQ
