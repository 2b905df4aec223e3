/-
  Toward causal_holds: Contract: local.
-/
import Derived.Test.YtldmcdeibiclkaaGreatDoorC30
import Derived.Test.YtldmcdeibiclkaaGreatDoorC29
set_option linter.unusedVariables false
set_option linter.unusedSimpArgs false
set_option maxRecDepth 100000
set_option maxHeartbeats 20000000
namespace Go.Proofs.YtldmcdeibiclkaaGreatDoorQ
open Go.RowKit
section
attribute [local go_sem ↓] sM Z0 Z1 OP Bx
attribute [local go_sem] sL rX tG uo Q3 DM Bs xD ju kU
theorem OW{B:Nat}{wc w2:World}{bt n size o gk gg L ck:Nat}{u v':Value}{xs:List Value}{A1 C:Array Value}{t0:TypeId}(hgrow:((wc.alloc (.cells C t0)).drew).grownBy w2 (Value.slice (some ⟨gk,0,none⟩) L ck).ownBlock)(hT2:w2.heap[bt]? =some (.cells A1 42))(aA:w2.ownsRow B 74 size v' n xs)(hat:(Value.slice (some ⟨gk,0,none⟩) L ck).ownBlock=some gg\/gg=wc.heap.size+1):
  (w2.setCell ⟨bt,o,none⟩ u).ownsRow B 74 size v' n xs/\Fr (λb=>b=bt\/b=gk) wc (w2.setCell ⟨bt,o,none⟩ u)/\(gg=gk\/wc.heap.size<=gg):=by
 refine⟨?_,?_,?_⟩
 ·exact (Fr.setCell (X:=λb=>b=bt) (Fr.refl _ w2) (Or.inr rfl) u).iO aA (λb cur hb e=>by rw[e,hT2] at hb;exact absurd (dZ hb) (by decide))
 ·exact Fr.setCell (((Fr.refl (λb=>b=bt\/b=gk) wc).alloc _).drew.grown hgrow (λq hq _=>by cases hq;exact Or.inr rfl)) (Or.inr (Or.inl rfl)) u
 ·rcases hat with h|h
  ·cases h;exact Or.inl rfl
  ·exact Or.inr (by omega)
theorem P8{B:Nat}{w wc w2:World}{bt bx n cap at' k:Nat}{ad:Option Addr}{g:ax}(hN:aS B wc bt g)(hJ:Jx w bx ad n cap wc)(hD:bR w bx ad n cap at')(hB:B<=bx)(hnb:0< n->∀b off,ad=some ⟨b,off,none⟩->b< B)(hk:k< 3)(hF:Fr (λb=>b=bt\/b=g.gm k) wc w2):
  Below B w w2/\∃at2,bR w2 bx ad n cap at2:=by
 obtain⟨hgB,cur,hgc⟩:=qZ (hN.cm k hk) (g.gm k) rfl
 have hbw:B<=wc.heap.size:=by
  have:=hN.hB.1
  have:=(IN.1 hN.hT).1
  omega
 have hb:Below B w w2:=(hJ.toBelow hB).trans (hF.toBelow (λb e=>by
  rcases e with e|e
  ·rw[e];exact hN.hB.1
  ·rw[e];exact hgB) hbw)
 refine⟨hb,sO hD hJ hF (λe=>?_) hnb hb⟩
 obtain⟨_,⟨a,_,h3⟩,_⟩:=hJ
 rcases e with e|e
 ·rw[e,hN.hT] at h3;exact absurd (dZ h3) (by decide)
 ·rw[e,hgc] at h3;exact absurd (dZ h3) (by decide)
theorem Pz(B bt bx n cap at':Nat)(ad:Option Addr)(g:ax)(ks:Nat->ByteArray)(w:World)(hN:aS B w bt g)(hI:bF ks g)(hK:dP w ks)(hD:bR w bx ad n cap at')(hnb:0< n->∀b off,ad=some ⟨b,off,none⟩->b< B)(hB:B<=bx)(hB0:0< B):
  Calls aa.prog 8 #[.pointer (some ⟨bt,0,none⟩),.pointer (some ⟨bx,0,none⟩)] w λe w'=>e= .returned (.bool true)/\Below B w w'/\∃g',g'.nr=g.nr/\aS B w' bt g'/\bF ks g'/\∃at2,bR w' bx ad n cap at2:=by
 have hnb':0< n->∀b off,ad=some ⟨b,off,none⟩->b≠bx:=λh0 b off h=>by have:=hnb h0 b off h;omega
 have HJ:Hid (∀w',Jx w bx ad n cap w'->aS B w' bt g):=λw' h=>hN.fr h.1 (hN.tL hD.1 (by decide) (by decide) (by decide) (by decide) (by decide) (by decide))
 have HDice:Hid (∀w',Jx w bx ad n cap w'->∃at2,bR w' bx ad n cap at2):=λw' h=>h.po hD.2.2.1 hD.2.2.2 hnb'
 have HNx:Hid (∀(m:Int) W,1<=m->m<=1000->Jx w bx ad n cap W->Calls aa.prog 14 #[.pointer (some ⟨bx,0,none⟩),.int .i64 m] W λe w'=>∃r:Nat,e= .returned (.int .i64 r)/\(r:Int)< m/\Jx w bx ad n cap w'):=by
  intro m W h1 h2 hJW
  obtain⟨a,hW⟩:=HDice.out W hJW
  refine (p7 bx ad n cap a m W hW hnb' h1 h2).mono ?_
  rintro e w' ⟨r,at2,rfl,hr,hd,_,hg,hz⟩
  exact⟨r,rfl,hr,Jx.next hJW hg hd⟩
 have J0:Hid (Jx w bx ad n cap w):=Jx.start hD
 have HI:Hid (bF ks g):=hI
 have HKA:Hid (dP w ks):=hK
 have c0:w.cell? ⟨bt,0,none⟩=some (.slice (some ⟨g.br,0,none⟩) g.nr g.bQ):=by rw[(au hN.hT).1];exact hN.h0
 have hnr1:(1:Int)<=(g.nr:Int):=by have:=hI.aZ;omega
 have hnr4:(g.nr:Int)<=4:=by have:=hI.aZ;omega
 obtain⟨wad,wcap,hwv⟩:=pR hN.hw
 have HT1:Hid (∀w',Jx w bx ad n cap w'->w'.cell? ⟨bt,1,none⟩=some (.slice wad g.ws.length wcap)):=λw' h=>by rw[(au (HJ.out w' h).hT).1,(HJ.out w' h).h1,hwv]
 have HPuts:Hid (∀(W:World) (i k:Nat),Jx w bx ad n cap W->i< g.nr->k< 3->g.ws.length< 80->Calls aa.prog 24 #[.pointer (some ⟨bt,0,none⟩),.pointer (some ⟨bx,0,none⟩),.int .i64 i,.int .i64 k] W λe w'=>e= .returned (.bool true)/\Below B w w'/\∃g',g'.nr=g.nr/\aS B w' bt g'/\bF ks g'/\∃at2,bR w' bx ad n cap at2):=λW i k hW hi hk hl=>by
  obtain⟨a,hDW⟩:=HDice.out W hW
  refine (OE B bt bx n cap a i k ad g ks W (HJ.out W hW) hI (hK.below hB0 (hW.toBelow hB)) hDW hnb hB hB0 hi hk hl).mono ?_
  rintro e w' ⟨rfl,hb,hr⟩
  exact⟨rfl,(hW.toBelow hB).trans hb,hr⟩
 have HDels:Hid (∀(W:World) (i k:Nat),Jx w bx ad n cap W->i< g.nr->k< 3->Calls aa.prog 25 #[.pointer (some ⟨bt,0,none⟩),.pointer (some ⟨bx,0,none⟩),.int .i64 i,.int .i64 k] W λe w'=>e= .returned (.bool true)/\Below B w w'/\∃g',g'.nr=g.nr/\aS B w' bt g'/\bF ks g'/\∃at2,bR w' bx ad n cap at2):=λW i k hW hi hk=>by
  obtain⟨a,hDW⟩:=HDice.out W hW
  refine (PT B bt bx n cap a i k ad g ks W (HJ.out W hW) hI (hK.below hB0 (hW.toBelow hB)) hDW hnb hB hB0 hi hk).mono ?_
  rintro e w' ⟨rfl,hb,hr⟩
  exact⟨rfl,(hW.toBelow hB).trans hb,hr⟩
 have HD0:Hid (bR w bx ad n cap at'):=hD
 clear hN hI hK hD hwv
 go_enter aa.func8,aa.ntmps8
 go_wp2_with (first
  |(go_at_call_of 14 (Value.int IntKind.i64 (g.nr:Int));refine BY (HNx.out (g.nr:Int) _ hnr1 (by omega) J0.out) ?_;rintro e w1 ⟨ii,rfl,hii,hJ1⟩;have J1:Hid (Jx w bx ad n cap w1):=hJ1;clear hJ1)
  |(go_at_call_of 14 (Value.int IntKind.i64 (3:Int));refine BY (HNx.out 3 _ (by omega) (by omega) J1.out) ?_;rintro e w2 ⟨kk,rfl,hkk,hJ2⟩;have J2:Hid (Jx w bx ad n cap w2):=hJ2;clear hJ2)
  |(go_at_call_of 14 (Value.int IntKind.i64 (8:Int));refine BY (HNx.out 8 _ (by omega) (by omega) J2.out) ?_;rintro e w3 ⟨cc,rfl,hcc,hJ3⟩;have J3:Hid (Jx w bx ad n cap w3):=hJ3;have t1:=HT1.out _ hJ3;clear hJ3)
  |(go_at_call 24;refine BY (HPuts.out _ ii kk J3.out (by omega) (by omega) (by omega)) ?_;rintro e w4 ⟨rfl,hres⟩;have HRes:Hid _:=hres;clear hres)
  |(go_at_call 25;refine BY (HDels.out _ ii kk J3.out (by omega) (by omega)) ?_;rintro e w4 ⟨rfl,hres⟩;have HRes:Hid _:=hres;clear hres))
 ·go_ret
  exact⟨rfl,HRes.out⟩
 ·go_ret
  exact⟨rfl,HRes.out⟩
 ·go_ret
  exact⟨rfl,HRes.out⟩
 have hii':ii< g.nr:=by omega
 have hkk':kk< 3:=by omega
 have hii0:(0:Int)<=(ii:Int):=by omega
 have hkk0:(0:Int)<=(kk:Int):=by omega
 have hii4:(ii:Int)< 4:=by omega
 have N3:Hid (aS B w3 bt g):=HJ.out _ J3.out
 have K3:Hid (dP w3 ks):=HKA.out.below hB0 (J3.out.toBelow hB)
 have hmk:Hid (∀w',Below w3.heap.size w3 w'->w'.cell? ⟨bt,0,none⟩=some (.slice (some ⟨g.br,0,none⟩) g.nr g.bQ)/\w'.cell? ⟨g.br,ii,none⟩=some (.pointer (some ⟨g.b ii,0,none⟩))/\w'.cell? ⟨0,kk,none⟩=some (.string (ks kk))/\aE w' (g.b ii) (g.bm ii) ii (g.K ii)):=λw' hw=>
  ⟨aX (by rw[(au N3.out.hT).1];exact N3.out.h0) hw,aX (by rw[(au N3.out.hR).1];exact N3.out.eZ ii hii') hw,aX (K3.out.cell kk hkk') hw,(N3.out.bk ii hii').below hw⟩
 have hget:Hid (∀W,aE W (g.b ii) (g.bm ii) ii (g.K ii)->Calls aa.prog 22 #[.pointer (some ⟨g.b ii,0,none⟩),.string (ks kk)] W λe w'=>∃v',e= .returned (.tuple #[v',cA (g.K ii (ks kk)).1,.int .i64 0])/\w'.ownsRow W.heap.size 71 3 v' (g.K ii (ks kk)).2.length (aU (g.K ii (ks kk)).2)/\Below W.heap.size W w'):=λW hW=>uW (g.b ii) ii (g.bm ii) (g.K ii) (ks kk) W hW (HI.out.eL ii hii') (K3.out.key kk hkk').1 (K3.out.key kk hkk').2
 have hw3:Hid (w.heap.size<=w3.heap.size):=J3.out.1.size
 clear t1 HPuts HDels HNx
 generalize hcx:(g.K ii (ks kk)).1=cx at*
 have HCX:Hid _:=hcx
 clear hcx
 go_cut [8,9,10] from 46 to 61 (λlv pv ev wx=>ev= .int .i64 0/\∃q,pv= .pointer (some ⟨q,0,none⟩)/\wx.cell? ⟨q,0,none⟩=some (.int .i64 (cx 0))/\wx.cell? ⟨q,1,none⟩=some (.int .i64 (cx 1))/\wx.cell? ⟨q,2,none⟩=some (.int .i64 (cx 2))/\wx.cell? ⟨q,3,none⟩=some (.int .i64 (cx 3))/\Jx w bx ad n cap wx)
 case first=>
  go_region_held3 (λw'=>w'.cell? ⟨bt,0,none⟩=some (.slice (some ⟨g.br,0,none⟩) g.nr g.bQ)/\w'.cell? ⟨g.br,ii,none⟩=some (.pointer (some ⟨g.b ii,0,none⟩))/\w'.cell? ⟨0,kk,none⟩=some (.string (ks kk))/\aE w' (g.b ii) (g.bm ii) ii (g.K ii))
   ((refine hmk.out _ ?_;first|(simp (maxDischargeDepth:=12) [By,XX,XY,Yg];done)|(simp (maxDischargeDepth:=12) [By,XX,XY,Yg,B4,z4];done)))
   (first|(go_at_call 22;refine BY (hget.out _ (by go_split_ands;assumption)) ?_;rintro e w4 ⟨v',rfl,aA,hb4⟩;obtain⟨q1,q2⟩:=jK hb4;have B4:Below w3.heap.size w3 w4:=ji hb4 (by simp (maxDischargeDepth:=12) [By,XX,XY]);have z4:=B4.size;have y4:=hb4.size;(try simp only[Zi,kH] at y4);(try (have h4:w4.heap[w3.heap.size]? =some (.cells #[.int .i64 0,.int .i64 0,.int .i64 0,.int .i64 0] 66):=aY (W:=w3.drew.alloc (.cells #[.int .i64 0,.int .i64 0,.int .i64 0,.int .i64 0] 66)) (IS w3.drew _) hb4));clear aA hb4))
  ·go_wp2_with fail
   go_meet
   have e:=(au (IS w4 (.cells #[.int .i64 (cx 0),.int .i64 (cx 1),.int .i64 (cx 2),.int .i64 (cx 3)] 66))).1
   exact⟨rfl,w4.heap.size,rfl,e 0,e 1,e 2,e 3,(J3.out.below B4).alloc _⟩
  ·go_wp2_with fail
   go_meet
   have e:=(au (heap_set (o:=3) (v:= .int .i64 (cx 3)) (heap_set (o:=2) (v:= .int .i64 (cx 2)) (heap_set (o:=1) (v:= .int .i64 (cx 1)) (heap_set (o:=0) (v:= .int .i64 (cx 0)) h4))))).1
   exact⟨rfl,w3.heap.size,rfl,e 0,e 1,e 2,e 3,((((J3.out.below B4).setCell hw3.out _).setCell hw3.out _).setCell hw3.out _).setCell hw3.out _⟩
 case rest=>
  obtain⟨rfl,q,rfl,e0,e1,e2,e3,hJ⟩:=hcut
  have HJC:Hid (Jx w bx ad n cap wc):=hJ
  clear N3 K3 hmk hget
  have NC:Hid (aS B wc bt g):=HJ.out _ hJ
  have tm:wc.cell? ⟨bt,1922+kk,none⟩=some (.slice (some ⟨g.gm kk,0,none⟩) (g.mem kk).length (g.ku kk)):=by rw[(au NC.out.hT).1];exact NC.out.eJ kk hkk'
  have hL:=HI.out.jw kk hkk'
  by_cases h30:(g.mem kk).length< 30
  ·have h30':((g.mem kk).length:Int)< 30:=by omega
   have hi4n:ii< 4:=by omega
   obtain⟨r1,q1⟩:=jn (w:=wc) (b:=bt) (o:=2+ii*240+kk*80) (s:=g.kn ii kk) (λj hj=>by rw[(au NC.out.hT).1];exact NC.out.bd ii kk j hi4n hkk' hj)
   have hE:=NM cx (g.kn ii kk)
   have hT:=NC.out.hT
   have hbt:=(IN.1 hT).1
   have HT:Hid (wc.heap[bt]? =some (.cells g.A 42)):=hT
   have hAs:=NC.out.hA
   have WC:Hid (wc.ownsRow B 74 84 (.slice (some ⟨g.gm kk,0,none⟩) (g.mem kk).length (g.ku kk)) (g.mem kk).length (ic (g.mem kk))):=NC.out.cm kk hkk'
   have hgb:Hid (∃cur,wc.heap[g.gm kk]? =some (.cells cur 74 (0,0))):=(qZ WC.out _ rfl).2
   have hbtn:Hid (¬ g.gm kk=bt):=λe=>by
    obtain⟨cur,hc⟩:=hgb.out
    rw[e,HT.out] at hc;exact absurd (dZ hc) (by decide)
   have hBs:Hid (B<=wc.heap.size):=by
    have h1:=NC.out.hB.1
    show _<=_;omega
   have hone:Hid (∀u∈bX (cx,g.kn ii kk),u.oneCell'=true):=CL _
   obtain⟨i0,hi0,hz0,hz1,hz2⟩:=Yk aa.zD
   clear hT hJ
   go_wp2
   go_cut [] from 69 to 92 (λwx=>∃A2 ga ca,wx.heap[bt]? =some (.cells A2 42)/\A2.size=1939/\A2[1922+kk]? =some (.slice (some ⟨ga,0,none⟩) ((g.mem kk).length+1) ca)/\(∀q,q≠1922+kk->A2[q]? =g.A[q]?)/\wx.ownsRow B 74 84 (.slice (some ⟨ga,0,none⟩) ((g.mem kk).length+1) ca) ((g.mem kk).length+1) (ic (g.mem kk)++bX (cx,g.kn ii kk))/\Fr (λb=>b=bt\/b=g.gm kk) wc wx/\(ga=g.gm kk\/wc.heap.size<=ga))
   case first=>
    go_region_law (first|(refine Z4 _ rfl _ _ _ rfl B 74 i0 _ 84 112 aa.underlying36 hi0 hz0 hz1 hz2 hY (by omega) (.slice (some ⟨g.gm kk,0,none⟩) (g.mem kk).length (g.ku kk)) _ _ rfl ((World.ownsRow.drew WC.out).alloc _) ⟨wc.heap.size,0,none⟩ 1 1 (bX (cx,g.kn ii kk)) rfl (kU _) (Yo (cs:=(bX (cx,g.kn ii kk)).toArray) (t:=74) (fr:=(0,0)) (IS wc.drew _)) hone.out (by omega) (by unfold maxLen;omega) (by omega) (by have:=hBs.out;simp;omega) (wc.heap.size+1) (by simp) ?_;intro gg capn w2 hown2 hgrow hat hlt2;have T2:w2.heap[bt]? =some (.cells g.A 42):=(by rw[hgrow.block bt (by simp;omega) (λe=>hbtn.out (by cases e;rfl))];show (wc.alloc _).heap[bt]? =_;rw[OF _ _ _ hbt];exact HT.out);have s1:w2.cell? ⟨bt,1922+kk,none⟩=some g.A[1922+kk]:=(by rw[(au T2).1];exact Ym (by omega));have s2:w2.frozen? ⟨bt,1922+kk,none⟩=false:=(au T2).2 _;have HT2:Hid (w2.heap[bt]? =some (.cells g.A 42)):=T2;have HO2:Hid _:=OW (o:=1922+kk) (u:= .slice (some ⟨gg,0,none⟩) ((g.mem kk).length+1) capn) hgrow T2 hown2 hat;clear T2 hown2 hgrow hat hlt2))
    all_goals
     go_wp2_with fail
     go_meet
     obtain⟨d1,d2,d3⟩:=HO2.out
     refine⟨_,gg,capn,heap_set HT2.out,?_,?_,?_,d1,d2,d3⟩
     ·rw[YK];exact hAs
     ·rw[Yl,AT rfl,AT (by omega)]
     ·intro q hq
      rw[Yl,AS (λe=>hq e.symm)]
   case rest=>
    have HC:Hid _:=hcut
    clear hcut r1 q1 hE tm e0 e1 e2 e3
    go_wp2
    go_ret
    obtain⟨A2,ga,ca,b1,b2,b3,b4,b5,b6,b7⟩:=HC.out
    obtain⟨f1,f2⟩:=P8 NC.out HJC.out HD0.out hB hnb hkk' b6
    refine⟨rfl,f1,g.jT ks ii kk ga ca A2,rfl,NC.out.jT b6 hkk' (by omega) (λl hl=>(HI.out.jw l hl).1) b1 b2 b3 b4 ?_ b7,HI.out.jT A2 hii' hkk' h30,f2⟩
    rw[HCX.out];exact b5
  ·have h30': ¬ ((g.mem kk).length:Int)< 30:=by omega
   clear hJ
   go_wp2
   go_ret
   exact⟨rfl,HJC.out.toBelow hB,g,rfl,NC.out,HI.out,HDice.out _ HJC.out⟩
end
theorem yJ:gL.toList=List.replicate 2 (Value.slice none 0 0)++(List.replicate 1920 (Value.bool false)++(List.replicate 5 (Value.slice none 0 0)++List.replicate 12 (Value.int .i64 0))):=by
 unfold gL
 rw[List.toList_toArray]
theorem Ca(q:Nat)(h:q< 2):gL[q]? =some (.slice none 0 0):=by
 rw[←YS,yJ,YW (by rw[Zb];exact h),List.getElem?_replicate,AT h]
theorem Dt(q:Nat)(h:q< 1920):gL[2+q]? =some (.bool false):=by
 rw[←YS,yJ,Yx (by rw[Zb];omega),Zb,YW (by rw[Zb];omega),List.getElem?_replicate,AT (by omega)]
theorem K4(q:Nat)(h:q< 12):gL[1927+q]? =some (.int .i64 0):=by
 rw[←YS,yJ,Yx (by rw[Zb];omega),Zb,Yx (by rw[Zb];omega),Zb,Yx (by rw[Zb];omega),Zb,List.getElem?_replicate,AT (by omega)]
def oj:Mem:=(λ_=>0,λ_=>false)
theorem LS:(bX oj).toArray=eR:=by
 apply Zo
 simp[bX,oj,eR,nH,bits,List.map_const']
def oe(b:Nat->Nat)(j:Nat):List Value:=(List.range j).map λi=>Value.pointer (some ⟨b i,0,none⟩)
structure gU(B:Nat)(w:World)(bt j l:Nat)(A:Array Value)(rv:Value)(b:Nat->Nat)(bm:Nat->Nat->Nat)(gm:Nat->Nat):Prop where
 hB:B<=bt/\(∀i n,i< j->n< 64->B<=bm i n)/\∀k,k< l->B<=gm k
 hT:w.heap[bt]? =some (.cells A 42)
 hA:A.size=1939
 h0:A[0]? =some rv
 ho:∀q,q≠0->(∀k,k< l->q≠1922+k)->A[q]? =gL[q]?
 hr:w.ownsRow B 29 1 rv j (oe b j)
 bk:∀i,i< j->aE w (b i) (bm i) i eT
 eP:∀i i' n n',i< j->i'< j->n< 64->n'< 64->bm i n=bm i' n'->i=i'
 eJ:∀k,k< l->A[1922+k]? =some (.slice (some ⟨gm k,0,none⟩) 1 1)
 cm:∀k,k< l->w.heap[gm k]? =some (.cells eR 74)
 eF:∀k k',k< l->k'< l->gm k=gm k'->k=k'
theorem gU.below{B:Nat}{w w':World}{bt j l:Nat}{A:Array Value}{rv:Value}{b:Nat->Nat}{bm:Nat->Nat->Nat}{gm:Nat->Nat}(h:gU B w bt j l A rv b bm gm)(hb:Below w.heap.size w w'):gU B w' bt j l A rv b bm gm where
 hB:=h.hB
 hT:=aY h.hT hb
 hA:=h.hA
 h0:=h.h0
 ho:=h.ho
 hr:=Fr.row (X:=λ_=>False) (Fr.iV hb) h.hr (λ_ _ _ _ _ e=>e)
 bk:=λi hi=>(h.bk i hi).below hb
 eP:=h.eP
 eJ:=h.eJ
 cm:=λk hk=>aY (h.cm k hk) hb
 eF:=h.eF
theorem gU.push{B:Nat}{w w1 w2:World}{bt j b1 gg ca:Nat}{bm1:Nat->Nat}{A:Array Value}{rv:Value}{b:Nat->Nat}{bm:Nat->Nat->Nat}{gm:Nat->Nat}{C:Array Value}{t0:TypeId}(h:gU B w1 bt j 0 A rv b bm gm)(hw:w.heap.size<=w1.heap.size)(hbw:∀i n,i< j->n< 64->bm i n< w.heap.size)(hB:B<=w.heap.size)(hR:aE w1 b1 bm1 j eT)(hb1:∀m,m< 64->w.heap.size<=bm1 m)(hgrow:(w1.alloc (.cells C t0)).grownBy w2 rv.ownBlock)(aA:w2.ownsRow B 29 1 (.slice (some ⟨gg,0,none⟩) (j+1) ca) (j+1) (oe b j++ [.pointer (some ⟨b1,0,none⟩)])):
  gU B (w2.setCell ⟨bt,0,none⟩ (.slice (some ⟨gg,0,none⟩) (j+1) ca)) bt (j+1) 0 (A.setIfInBounds 0 (.slice (some ⟨gg,0,none⟩) (j+1) ca)) (.slice (some ⟨gg,0,none⟩) (j+1) ca) (λi=>if i=j then b1 else b i) (λi=>if i=j then bm1 else bm i) gm/\Fr (λq=>q=bt\/∃cur,w1.heap[q]? =some (.cells cur 29 (0,0))) w1 (w2.setCell ⟨bt,0,none⟩ (.slice (some ⟨gg,0,none⟩) (j+1) ca))/\(∀q,q< B->(w2.setCell ⟨bt,0,none⟩ (.slice (some ⟨gg,0,none⟩) (j+1) ca)).heap[q]? =w1.heap[q]?):=by
 have hrow:∀q,rv.ownBlock=some q->B<=q/\∃cur,w1.heap[q]? =some (.cells cur 29 (0,0)):=λq hq=>qZ h.hr q hq
 have hbtl:=(IN.1 h.hT).1
 have hbtn: ¬ rv.ownBlock=some bt:=λe=>by
  obtain⟨_,cur,hc⟩:=hrow bt e
  rw[h.hT] at hc;exact absurd (dZ hc) (by decide)
 have hT2:w2.heap[bt]? =some (.cells A 42):=by
  rw[hgrow.block bt (by simp;omega) (λe=>hbtn e.symm),OF _ _ _ hbtl];exact h.hT
 have hF:Fr (λq=>q=bt\/∃cur,w1.heap[q]? =some (.cells cur 29 (0,0))) w1 (w2.setCell ⟨bt,0,none⟩ (.slice (some ⟨gg,0,none⟩) (j+1) ca)):=
  Fr.setCell (((Fr.refl (λq=>q=bt\/∃cur,w1.heap[q]? =some (.cells cur 29 (0,0))) w1).alloc _).grown hgrow (λq hq _=>Or.inr (hrow q hq).2)) (Or.inr (Or.inl rfl)) _
 have hcells:∀{q:Nat} {D:Array Value} {t:TypeId} {fr:Nat×Nat},w1.heap[q]? =some (.cells D t fr)->t≠42->t≠29->¬ (q=bt\/∃cur,w1.heap[q]? =some (.cells cur 29 (0,0))):=λhq h1 h2 e=>by
  rcases e with e|⟨cur,e⟩
  ·rw[e,h.hT] at hq;exact h1 (dZ hq).symm
  ·rw[e] at hq;exact h2 (dZ hq).symm
 have bk:∀{b' num:Nat} {bm':Nat->Nat},aE w1 b' bm' num eT->aE (w2.setCell ⟨bt,0,none⟩ (.slice (some ⟨gg,0,none⟩) (j+1) ca)) b' bm' num eT:=λhr=>by
  refine hF.rep hr ?_ (λn hn e=>?_) (λq cur hq=>hcells hq (by decide) (by decide))
  ·obtain⟨⟨D,hD,_⟩,_⟩:=hr
   exact hcells hD (by decide) (by decide)
  ·obtain⟨es,clock,hm,_⟩:=hr.2.1 n hn
   rcases e with e|⟨cur,e⟩
   ·rw[e,h.hT] at hm;cases hm
   ·rw[e] at hm;cases hm
 refine⟨?_,hF,λq hq=>?_⟩
 ·exact {
   hB:=⟨h.hB.1,λi n hi hn=>by
    by_cases e:i=j
    ·simp only[AT e];exact X0 hB (hb1 n hn)
    ·simp only[AS e];exact h.hB.2.1 i n (by omega) hn,λk hk=>absurd hk (by omega)⟩
   hT:=heap_set hT2
   hA:=by rw[YK];exact h.hA
   h0:=by rw[Yl,AT rfl,AT (by rw[h.hA];omega)]
   ho:=λq hq _=>by rw[Yl,AS (λe=>hq e.symm)];exact h.ho q hq (λk hk=>absurd hk (by omega))
   hr:=by
    have e1:oe (λi=>if i=j then b1 else b i) (j+1)=oe b j++ [.pointer (some ⟨b1,0,none⟩)]:=by
     unfold oe
     rw[Zj,Zx]
     congr 1
     ·refine Y9 λi hi=>?_
      have:=YV.1 hi
      dsimp only
      rw[AS (by omega)]
     ·simp
    rw[e1]
    exact (Fr.setCell (X:=λq=>q=bt) (Fr.refl _ w2) (Or.inr rfl) _).iO aA (λq cur hq e=>by rw[e,hT2] at hq;exact absurd (dZ hq) (by decide))
   bk:=λi hi=>by
    by_cases e:i=j
    ·subst e;simp only[XZ];exact bk hR
    ·simp only[AS e];exact bk (h.bk i (by omega))
   eP:=λi i' n n' hi hi' hn hn' he=>by
    by_cases e:i=j
    ·by_cases e':i'=j
     ·rw[e,e']
     ·simp only[AT e,AS e'] at he
      have h1:=hb1 n hn
      have h2:=hbw i' n' (by omega) hn'
      omega
    ·by_cases e':i'=j
     ·simp only[AS e,AT e'] at he
      have h1:=hb1 n' hn'
      have h2:=hbw i n (by omega) hn
      omega
     ·simp only[AS e,AS e'] at he
      exact h.eP i i' n n' (by omega) (by omega) hn hn' he
   eJ:=λk hk=>absurd hk (by omega)
   cm:=λk hk=>absurd hk (by omega)
   eF:=λk k' hk=>absurd hk (by omega)}
 ·have hne:q≠bt:=by have:=h.hB.1;omega
  rw[Yj _ _ _ _ hne,hgrow.block q (by simp;omega) (λe=>by have:=(hrow q e.symm).1;omega),OF _ _ _ (by omega)]
theorem gU.Rz{B:Nat}{w:World}{bt j l:Nat}{A:Array Value}{rv:Value}{b:Nat->Nat}{bm:Nat->Nat->Nat}{gm:Nat->Nat}(h:gU B w bt j l A rv b bm gm)(hl:l< 3)(hB:B<=w.heap.size):
  gU B ((w.setCell ⟨bt,1922+l,none⟩ (.slice (some ⟨w.heap.size,0,none⟩) 1 1)).alloc (.cells eR 74)) bt j (l+1) (A.setIfInBounds (1922+l) (.slice (some ⟨w.heap.size,0,none⟩) 1 1)) rv b bm (λk=>if k=l then w.heap.size else gm k)/\Fr (λq=>q=bt) w ((w.setCell ⟨bt,1922+l,none⟩ (.slice (some ⟨w.heap.size,0,none⟩) 1 1)).alloc (.cells eR 74)):=by
 have hF:Fr (λq=>q=bt) w ((w.setCell ⟨bt,1922+l,none⟩ (.slice (some ⟨w.heap.size,0,none⟩) 1 1)).alloc (.cells eR 74)):=(Fr.setCell (X:=λq=>q=bt) (Fr.refl _ w) (Or.inr rfl) _).alloc _
 have hsz:(w.setCell ⟨bt,1922+l,none⟩ (.slice (some ⟨w.heap.size,0,none⟩) 1 1)).heap.size=w.heap.size:=by simp[World.setCell]
 have hbtl:=(IN.1 h.hT).1
 have hlt:∀k,k< l->gm k< w.heap.size:=λk hk=>(IN.1 (h.cm k hk)).1
 refine⟨?_,hF⟩
 exact {
  hB:=⟨h.hB.1,h.hB.2.1,λk hk=>by
   by_cases e:k=l
   ·simp only[AT e];exact hB
   ·simp only[AS e];exact h.hB.2.2 k (by omega)⟩
  hT:=by rw[OF _ _ _ (by rw[hsz];exact hbtl)];exact heap_set h.hT
  hA:=by rw[YK];exact h.hA
  h0:=by rw[Yl,AS (by omega)];exact h.h0
  ho:=λq hq hk=>by rw[Yl,AS (λe=>hk l (by omega) e.symm)];exact h.ho q hq (λk hk'=>hk k (by omega))
  hr:=hF.iO h.hr (λq cur hq e=>by rw[e,h.hT] at hq;exact absurd (dZ hq) (by decide))
  bk:=λi hi=>wD (h.bk i hi) h.hT hF
  eP:=h.eP
  eJ:=λk hk=>by
   by_cases e:k=l
   ·subst e
    simp only[XZ]
    rw[Yl,AT rfl,AT (by rw[h.hA];omega)]
   ·simp only[AS e]
    rw[Yl,AS (by omega)];exact h.eJ k (by omega)
  cm:=λk hk=>by
   by_cases e:k=l
   ·simp only[AT e]
    have:=IS (w.setCell ⟨bt,1922+l,none⟩ (.slice (some ⟨w.heap.size,0,none⟩) 1 1)) (.cells eR 74)
    rw[hsz] at this;exact this
   ·simp only[AS e]
    exact hF.heap (h.cm k (by omega)) (λq=>by have:=h.cm k (by omega);rw[q,h.hT] at this;exact absurd (dZ this) (by decide))
  eF:=λk k' hk hk' he=>by
   by_cases e:k=l
   ·by_cases e':k'=l
    ·rw[e,e']
    ·simp only[AT e,AS e'] at he
     have:=hlt k' (by omega);omega
   ·by_cases e':k'=l
    ·simp only[AS e,AT e'] at he
     have:=hlt k (by omega);omega
    ·simp only[AS e,AS e'] at he
     exact h.eF k k' (by omega) (by omega) he}
def ax.first(nr br bQ:Nat)(R:Array Value)(b:Nat->Nat)(bm:Nat->Nat->Nat)(gm:Nat->Nat)(A:Array Value):ax:=
 {nr:=nr,br:=br,bQ:=bQ,R:=R,b:=b,bm:=bm,K:=λ_=>eT,ws:=[],wv:= .slice none 0 0,kn:=λ_ _ _=>false,go:=λ_ _ _=>false,mem:=λ_=>[oj],gm:=gm,ku:=λ_=>1,A:=A}
theorem sI:jc eT:=λs=>⟨λv hv=>by simp[eT] at hv,by simp[eT],λv hv=>by simp[eT] at hv,λi _=>by simp[eT]⟩
theorem IX(k:Nat):expected [] (λ_=>false) (λ_=>false) k= []:=by
 simp[expected,bV]
theorem bF.first{ks:Nat->ByteArray}{nr br bQ:Nat}{R:Array Value}{b:Nat->Nat}{bm:Nat->Nat->Nat}{gm:Nat->Nat}{A:Array Value}(h1:1<=nr)(h4:nr<=4):bF ks (ax.first nr br bQ R b bm gm A) where
 aZ:=⟨h1,h4⟩
 hlen:=by simp[ax.first]
 eS:=λj x hx=>by simp[ax.first] at hx
 dx:=λx hx=>by simp[ax.first] at hx
 dS:=λx hx=>by simp[ax.first] at hx
 dB:=λi k _ _=>⟨λj x hx=>by simp[ax.first] at hx,λj _=>rfl,λb=>by simp[ax.first,eT,bK]⟩
 aA:=λi k _ _=>by simp[ax.first,eT,bK]
 hex:=λi k _ _=>by
  show (eT (ks k)).2=expected [] (λ_=>false) (λ_=>false) k
  rw[IX];rfl
 im:=λ_ _ _ _ _ _=>rfl
 jN:=λk m _ hm=>by
  have:m=oj:=by simpa[ax.first] using hm
  subst this
  exact⟨λj x hx=>by simp[ax.first] at hx,λj _=>rfl,λb=>by simp[ax.first,oj,bK]⟩
 jw:=λk _=>by simp[ax.first]
 eL:=λi _=>sI
 gq:=λi _ s hs=>by obtain⟨q,_,hq⟩:=hs;exact absurd rfl hq
 dF:=λ_ _ _ _ _ h=>by cases h
theorem gU.c9{B:Nat}{w:World}{bt j:Nat}{A:Array Value}{rv:Value}{b:Nat->Nat}{bm:Nat->Nat->Nat}{gm:Nat->Nat}(h:gU B w bt j 3 A rv b bm gm)(hj:0< j): ∃br bQ R,aS B w bt (ax.first j br bQ R b bm gm A):=by
 rcases h.hr.2 with ⟨_,h0⟩|⟨br,bQ,R,hv,hbr,hR,hc1,hc2,hc3,htk⟩
 ·omega
 ·refine⟨br,bQ,R,?_⟩
  exact {
   hB:=⟨h.hB.1,h.hB.2.1⟩
   hT:=h.hT
   hA:=h.hA
   h0:=by show A[0]? =_;rw[h.h0,hv];rfl
   hR:=hR
   eZ:=λi hi=>by
    show R[i]? =_
    have hi':i< j:=hi
    have e1:(oe b j)[i]? =some (.pointer (some ⟨b i,0,none⟩)):=by
     unfold oe
     rw[ZR,List.getElem?_range hi'];rfl
    rw[←htk,YJ,AT (by omega),YS] at e1
    exact e1
   bk:=h.bk
   eP:=h.eP
   h1:=by show A[1]? =_;rw[h.ho 1 (by omega) (λk hk=>by omega)];exact Ca 1 (by omega)
   hw:=⟨rfl,Or.inl ⟨rfl,rfl⟩⟩
   bd:=λi k q hi hk hq=>by
    show A[2+i*240+k*80+q]? =_
    rw[h.ho _ (by omega) (λl hl=>by omega),show 2+i*240+k*80+q=2+(i*240+k*80+q) by omega]
    exact Dt _ (by omega)
   hgo:=λi k q hi hk hq=>by
    show A[962+i*240+k*80+q]? =_
    rw[h.ho _ (by omega) (λl hl=>by omega),show 962+i*240+k*80+q=2+(960+i*240+k*80+q) by omega]
    exact Dt _ (by omega)
   eJ:=λk hk=>h.eJ k hk
   cm:=λk hk=>by
    show w.ownsRow B 74 84 (.slice (some ⟨gm k,0,none⟩) 1 1) 1 (ic [oj])
    have e1:ic [oj]=eR.toList:=by
     rw[←LS];simp[ic]
    rw[e1]
    refine⟨by rw[YR,hY],Or.inr ⟨gm k,1,eR,rfl,h.hB.2.2 k hk,h.cm k hk,AI _,by unfold maxLen;omega,by rw[hY],?_⟩⟩
    rw[ZP (by rw[YR,hY];omega)]
   eF:=h.eF
   ki:=λi k hi hk=>by
    show A[1927+i*3+k]? =_
    rw[h.ho _ (by omega) (λl hl=>by omega),show 1927+i*3+k=1927+(i*3+k) by omega,K4 _ (by omega)]
    rfl}
section
attribute [local go_sem ↓] Bx Z0 Z1
attribute [local go_sem] Bs xD
abbrev mo:ByteArray:=⟨#[97]⟩
abbrev sQ:ByteArray:=⟨#[120]⟩
abbrev VH:ByteArray:=⟨#[65]⟩
def uk:Ctx:=λ_=>0
def R1:Ctx:=λi=>if i=0 then 1 else 0
def pF:aF:=bq eT mo (bump (aL uk uk) 0,[(0,1,sQ)])
theorem TK:jc pF:=by
 refine sI.upd (λv hv=>?_) (by simp) (λv hv=>?_) (λi hi=>?_)
 ·rw[Y4.1 hv];decide
 ·rw[Y4.1 hv];decide
 ·rcases fg hi with rfl|rfl|rfl|rfl<;>decide
theorem TI(b:Nat)(bm:Nat->Nat)(w:World)(h:aE w b bm 0 eT):
  Calls aa.prog 21 #[.pointer (some ⟨b,0,none⟩),.string ⟨#[97]⟩,.string ⟨#[120]⟩,.agg #[.int .i64 0,.int .i64 0,.int .i64 0,.int .i64 0]] w λe w'=>e= .returned (.int .i64 0)/\aE w' b bm 0 pF/\w.grownBy w' (some (bm (ay mo))):=by
 refine (CD b 0 bm eT mo sQ uk w h sI (by decide) (by decide) (by decide) (by decide) (by decide) (by decide) (by decide) (by decide)).mono ?_
 rintro e w' ⟨rfl,l',hp,_,hr,hg⟩
 have hl:l'= [(0,1,sQ)]:=List.perm_singleton.1 hp
 subst hl
 exact⟨rfl,hr,hg⟩
theorem KJ(b:Nat)(bm:Nat->Nat)(w:World)(h:aE w b bm 0 pF):
  Calls aa.prog 22 #[.pointer (some ⟨b,0,none⟩),.string ⟨#[97]⟩] w λe w'=>∃g cap c0 c1 c2 c3,e= .returned (.tuple #[.slice (some ⟨g,0,none⟩) 1 cap,.agg #[.int .i64 c0,.int .i64 c1,.int .i64 c2,.int .i64 c3],.int .i64 0])/\w'.cell? ⟨g,0,none⟩=some (.int .i64 0)/\w'.cell? ⟨g,1,none⟩=some (.int .i64 1)/\w'.cell? ⟨g,2,none⟩=some (.string ⟨#[120]⟩)/\Below w.heap.size w w':=by
 refine (uW b 0 bm pF mo w h TK (by decide) (by decide)).mono ?_
 rintro e w' ⟨v',rfl,aA,hb⟩
 have hk:(pF mo).2= [(0,1,sQ)]:=by simp[pF,bq]
 rw[hk] at aA
 obtain⟨g,cap,rfl,_,_,hc⟩:=tq aA (by simp)
 exact⟨g,cap,_,_,_,_,rfl,hc 0 _ (by simp) rfl,hc 1 _ (by simp) rfl,hc 2 _ (by simp) rfl,hb⟩
theorem Il(b num:Nat)(w:World):
  Calls aa.prog 21 #[.pointer (some ⟨b,0,none⟩),.string ⟨#[65]⟩,.string ⟨#[]⟩,.agg #[.int .i64 0,.int .i64 0,.int .i64 0,.int .i64 0]] w λe w'=>e= .returned (.int .i64 2)/\Below w.heap.size w w':=
 Sr b VH ⟨#[]⟩ uk w (by decide) (by decide)
theorem VM(b num:Nat)(bm:Nat->Nat)(w:World)(h:aE w b bm num eT):
  Calls aa.prog 23 #[.pointer (some ⟨b,0,none⟩),.string ⟨#[97]⟩,.agg #[.int .i64 1,.int .i64 0,.int .i64 0,.int .i64 0]] w λe w'=>e= .returned (.int .i64 5)/\Below w.heap.size w w':=
 As b num bm eT mo R1 w h sI (by decide) (by decide) (by decide) rfl
theorem aa.IC:(aa.prog.info? 29).map (λi=>(i.zero,i.size,i.bytes))=some (some (.pointer none),1,8):=by kernel_rfl
theorem WU{B:Nat}{w1 w2:World}{bt j l:Nat}{A:Array Value}{rv:Value}{b:Nat->Nat}{bm:Nat->Nat->Nat}{gm:Nat->Nat}{C:Array Value}{t0:TypeId}(h:gU B w1 bt j l A rv b bm gm)(hgrow:(w1.alloc (.cells C t0)).grownBy w2 rv.ownBlock):w2.heap[bt]? =some (.cells A 42):=by
 have hbtl:=(IN.1 h.hT).1
 rw[hgrow.block bt (by simp;omega) (λe=>?_),OF _ _ _ hbtl]
 ·exact h.hT
 ·obtain⟨_,cur,hc⟩:=qZ h.hr bt e.symm
  rw[h.hT] at hc;exact absurd (dZ hc) (by decide)
def vq(B:Nat)(w:World)(bt j:Nat)(wr:World):Prop:=
 ∃A rv b bm gm,gU B wr bt j 0 A rv b bm gm/\(∀i n,i< j->n< 64->bm i n< wr.heap.size)/\(∀q,q< B->wr.heap[q]? =w.heap[q]?)/\wr.os=w.os/\wr.tape=w.tape/\wr.output=w.output/\w.heap.size<=wr.heap.size
theorem Sb{B:Nat}{w w1 w2 w3:World}{X:Obj}{bm1:Nat->Nat}(hB:B<=w.heap.size)(h1:Below (w.alloc (.cells gL 42)).heap.size (w.alloc (.cells gL 42)) w1)(hb:∀m,m< 64->(w.alloc (.cells gL 42)).heap.size<=bm1 m)(h2:w1.grownBy w2 (some (bm1 (ay mo))))(h3:Below w2.heap.size w2 w3):
  vq B w w.heap.size 0 (w3.alloc X):=by
 have hn:=hb _ (fa mo)
 have hsz:(w.alloc (.cells gL 42)).heap.size=w.heap.size+1:=by simp
 have hF:Fr (λq=>q=bm1 (ay mo)) (w.alloc (.cells gL 42)) (w3.alloc X):=(((Fr.iV h1).grown h2 (λq e _=>by cases e;rfl)).below h3).alloc X
 have hT:(w3.alloc X).heap[w.heap.size]? =some (.cells gL 42):=hF.heap (IS w _) (λe=>by omega)
 refine⟨gL,.slice none 0 0,λ_=>0,λ_ _=>0,λ_=>0,?_,λi n hi=>absurd hi (by omega),λq hq=>?_,hF.os,hF.tape,hF.output,X0 (by omega) hF.size⟩
 ·exact {
   hB:=⟨hB,λi n hi=>absurd hi (by omega),λk hk=>absurd hk (by omega)⟩
   hT:=hT
   hA:=Cz
   h0:=Ca 0 (by omega)
   ho:=λq _ _=>rfl
   hr:=⟨rfl,Or.inl ⟨rfl,rfl⟩⟩
   bk:=λi hi=>absurd hi (by omega)
   eP:=λi i' n n' hi=>absurd hi (by omega)
   eJ:=λk hk=>absurd hk (by omega)
   cm:=λk hk=>absurd hk (by omega)
   eF:=λk k' hk=>absurd hk (by omega)}
 ·rw[hF.block q (by omega) (λe=>by omega),OF _ _ _ (by omega)]
theorem Of(B m:Nat)(ks:Nat->ByteArray)(w:World)(h1:1<=m)(h4:m<=4)(hB:B<=w.heap.size):
  Calls aa.prog 7 #[.int .i64 m] w λe w'=>∃bt g,e= .returned (.pointer (some ⟨bt,0,none⟩))/\g.nr=m/\aS B w' bt g/\bF ks g/\Below B w w':=by
 have hz:=aa.U8
 have hzms:=hY
 have hzm:=aa.xU
 have hzs:=Cz
 have hneq:=λW=>Cr W 0 1 ⟨#[120]⟩
 go_enter aa.func7,aa.ntmps7
 go_wp2_with (first
  |(go_at_call 20;refine (CI 0 _ (by omega)).mono ?_;rintro e w1 ⟨b1,bm1,rfl,hb1,hbm1,hR1,hbel1⟩;have HR1:Hid _:=hR1;have HB1:Hid _:=hbel1;clear hR1 hbel1)
  |(go_at_call 21;refine (TI b1 bm1 _ HR1.out).mono ?_;rintro e w2 ⟨rfl,hR2,hg2⟩;have HR2:Hid _:=hR2;have HG2:Hid _:=hg2;clear hR2 hg2)
  |(go_at_call 22;refine (KJ b1 bm1 _ HR2.out).mono ?_;rintro e w3 ⟨g3,cap3,x0,x1,x2,x3,rfl,y0,y1,y2,hb3⟩;have hg3:=Z6 _ _ y0;have HB3:Hid _:=hb3;clear hb3))
 have HS:Hid (vq B w w.heap.size 0 (w3.alloc (.cells #[.int .i64 x0,.int .i64 x1,.int .i64 x2,.int .i64 x3] 66))):=Sb hB HB1.out hbm1 HG2.out HB3.out
 clear y0 y1 y2 hg3 HB1 hbm1 HG2 HB3 HR1 HR2 hneq
 obtain⟨i0,hi0,hz0,hz1,hz2⟩:=Yk aa.IC
 go_loopw [10] (λiv wr=>∃j:Nat,j<=m/\iv= .int .i64 j/\vq B w w.heap.size j wr) (λiv _=>m - (intOf iv).toNat)
 case atStart=>exact⟨0,by omega,rfl,HS.out⟩
 case round=>
  obtain⟨j,hj,rfl,A,rv,b,bm,gm,hbeg,hbml,hlow,hos,htape,hout,hgr⟩:=hrel
  by_cases hjm:j< m
  ·have j1:(j:Int)< (m:Int):=by omega
   have j4:j< 4:=by omega
   obtain⟨rad,rcap,hrv⟩:=pR hbeg.hr
   have HBeg:Hid (gU B wr w.heap.size j 0 A (.slice rad j rcap) b bm gm):=by rw[hrv] at hbeg;exact hbeg
   have HLow:Hid _:=And.intro hbml (And.intro hlow (And.intro hos (And.intro htape (And.intro hout hgr))))
   clear hbeg hbml hlow hos htape hout hrv HS
   go_wp2_with (first
    |(go_at_call 20;refine (CI j _ j4).mono ?_;rintro e w4 ⟨b4,bm4,rfl,hb4,hbm4,hR4,hbel4⟩;have HR4:Hid (aE w4 b4 bm4 j eT):=hR4;have HB4:Hid (Below wr.heap.size wr w4):=hbel4;clear hR4 hbel4)
    |(go_at_call 21;refine (Il b4 j _).mono ?_;rintro e w5 ⟨rfl,hbel5⟩;have HB5:Hid (Below w4.heap.size w4 w5):=hbel5;have HR5:Hid (aE w5 b4 bm4 j eT):=HR4.out.below hbel5;clear hbel5)
    |(go_at_call 23;refine (VM b4 j bm4 _ HR5.out).mono ?_;rintro e w6 ⟨rfl,hbel6⟩;have HB6:Hid (Below w5.heap.size w5 w6):=hbel6;have HR6:Hid (aE w6 b4 bm4 j eT):=HR5.out.below hbel6;have HG6:Hid (gU B w6 w.heap.size j 0 A (.slice rad j rcap) b bm gm):=((HBeg.out.below HB4.out).below HB5.out).below hbel6;have c6:w6.cell? ⟨w.heap.size,0,none⟩=some (.slice rad j rcap):=(by rw[(au HG6.out.hT).1];exact HG6.out.h0);clear hbel6)
    |(at_builtin;refine Zq _ rfl _ _ _ rfl B 29 i0 _ 1 8 aa.underlying30 hi0 hz0 hz1 hz2 rfl (by omega) (.slice rad j rcap) _ _ rfl (HG6.out.hr.alloc _) ⟨w6.heap.size,0,none⟩ 1 1 [.pointer (some ⟨b4,0,none⟩)] rfl rfl (Yo (cs:=#[.pointer (some ⟨b4,0,none⟩)]) (t:=29) (fr:=(0,0)) (IS w6 _)) (by simp[Value.oneCell']) (by omega) (by unfold maxLen;omega) (by omega) (by have h1:=HB4.out.size;have h2:=HB5.out.size;have h3:=HB6.out.size;simp;omega) (w6.heap.size+1) (by simp) ?_;intro gg capn w7 hown7 hgrow7 hat7 hlt7;have HP:Hid _:=HG6.out.push (w:=wr) (by have h1:=HB4.out.size;have h2:=HB5.out.size;have h3:=HB6.out.size;omega) HLow.out.1 (by omega) HR6.out hbm4 hgrow7 hown7;have T7:w7.heap[w.heap.size]? =some (.cells A 42):=WU HG6.out hgrow7;have s1:w7.cell? ⟨w.heap.size,0,none⟩=some (.slice rad j rcap):=(by rw[(au T7).1];exact HG6.out.h0);have s2:w7.frozen? ⟨w.heap.size,0,none⟩=false:=(au T7).2 0;clear hown7 hgrow7 hat7 hlt7 T7))
   refine⟨⟨j+1,by omega,by go_num,?_⟩,by simp[intOf];omega⟩
   obtain⟨p1,p2,p3⟩:=HP.out
   obtain⟨l1,l2,l3,l4,l5,l6⟩:=HLow.out
   have z4:=HB4.out.size
   have z5:=HB5.out.size
   have z6:=HB6.out.size
   have z7:=p2.size
   refine⟨_,_,_,_,gm,p1,λi n hi hn=>?_,λq hq=>?_,p2.os.trans (HB6.out.os.trans (HB5.out.os.trans (HB4.out.os.trans l3))),p2.tape.trans (HB6.out.tape.trans (HB5.out.tape.trans (HB4.out.tape.trans l4))),p2.output.trans (HB6.out.output.trans (HB5.out.output.trans (HB4.out.output.trans l5))),by omega⟩
   ·by_cases e:i=j
    ·simp only[AT e]
     have:=(HR6.out.2.1 n hn).lt
     omega
    ·simp only[AS e]
     have:=l1 i n (by omega) hn
     omega
   ·rw[p3 q hq,HB6.out.block q (by omega),HB5.out.block q (by omega),HB4.out.block q (by omega)]
    exact l2 q hq
  ·obtain rfl:j=m:=by omega
   have HS2:Hid (∃A rv b bm gm,gU B wr w.heap.size j 0 A rv b bm gm/\(∀q,q< B->wr.heap[q]? =w.heap[q]?)/\wr.os=w.os/\wr.tape=w.tape/\wr.output=w.output/\w.heap.size<=wr.heap.size):=⟨A,rv,b,bm,gm,hbeg,hlow,hos,htape,hout,hgr⟩
   clear hbeg hbml hlow hos htape hout hgr HS
   go_wp2
   go_loopw [15] (λkv wy=>∃l:Nat,l<=3/\kv= .int .i64 l/\∃A rv b bm gm,gU B wy w.heap.size j l A rv b bm gm/\(∀q,q< B->wy.heap[q]? =w.heap[q]?)/\wy.os=w.os/\wy.tape=w.tape/\wy.output=w.output/\w.heap.size<=wy.heap.size) (λkv _=>3 - (intOf kv).toNat)
   case atStart=>exact⟨0,by omega,rfl,HS2.out⟩
   case round=>
    obtain⟨l,hl,rfl,A,rv,b,bm,gm,hbeg,hlow,hos,htape,hout,hgr⟩:=hrel
    by_cases hl3:l< 3
    ·have l1:(l:Int)< 3:=by omega
     have l0:(0:Int)<=(l:Int):=by omega
     have hAs:=hbeg.hA
     have s1: ‹World›.cell? ⟨w.heap.size,1922+l,none⟩=some A[1922+l]:=by rw[(au hbeg.hT).1];exact Ym (by omega)
     have s2: ‹World›.frozen? ⟨w.heap.size,1922+l,none⟩=false:=(au hbeg.hT).2 _
     have HM:Hid _:=hbeg.Rz hl3 (by omega)
     have HLow:Hid _:=And.intro hlow (And.intro hos (And.intro htape (And.intro hout hgr)))
     have hbl:=(IN.1 hbeg.hT).1
     clear hbeg hlow hos htape hout
     go_wp2
     obtain⟨p1,p2⟩:=HM.out
     obtain⟨f1,f2,f3,f4,f5⟩:=HLow.out
     refine⟨⟨l+1,by omega,by go_num,_,rv,b,bm,_,p1,λq hq=>?_,p2.os.trans f2,p2.tape.trans f3,p2.output.trans f4,X0 f5 p2.size⟩,by simp[intOf];omega⟩
     rw[p2.block q (by omega) (by omega)]
     exact f1 q hq
    ·obtain rfl:l=3:=by omega
     have HBeg:Hid _:=And.intro hbeg (And.intro hlow (And.intro hos (And.intro htape hout)))
     clear hbeg hlow hos htape hout
     go_wp2
     go_ret
     obtain⟨f1,f2,f3,f4,f5⟩:=HBeg.out
     obtain⟨br,bQ,R,hnet⟩:=f1.c9 (by omega)
     exact⟨w.heap.size,_,rfl,rfl,hnet,bF.first h1 h4,f3,f4,f5,hgr,f2⟩
end
theorem aS.below{B:Nat}{w w':World}{bt:Nat}{g:ax}(h:aS B w bt g)(hb:Below w.heap.size w w'):aS B w' bt g:=
 h.fr (X:=λ_=>False) (Fr.iV hb) ⟨λe=>e,λe=>e,λ_ _ e=>e,λ_ _ _ _ e=>e,λ_ _ _ e=>e,λ_ _ _ e=>e,λ_ _ _ e=>e⟩
theorem aS.base{B B':Nat}{w:World}{bt:Nat}{g:ax}(h:aS B w bt g)(hB:B'<=B):aS B' w bt g:=
 {h with
  hB:=⟨X0 hB h.hB.1,λi n hi hn=>X0 hB (h.hB.2 i n hi hn)⟩
  hw:=cY h.hw hB
  cm:=λk hk=>cY (h.cm k hk) hB}
theorem MV{B:Nat}{w:World}{bt i:Nat}{g:ax}{ks:Nat->ByteArray}(hN:aS B w bt g)(hI:bF ks g)(hK:dP w ks)(hi:i< g.nr):CX w bt g.br (g.b i) (g.bm i) i g.nr g.bQ i g.A g.R g.wv (g.K i) g.ws (g.kn i) (g.go i) ks where
 hT:=hN.hT
 h0:=hN.h0
 hR:=hN.hR
 hi:=⟨hi,X4 hi hI.aZ.2,hI.aZ.2⟩
 eZ:=hN.eZ i hi
 bk:=hN.bk i hi
 hK:=hI.eL i hi
 h1:=hN.h1
 hw:=cY hN.hw (Y2 _)
 hlen:=hI.hlen
 bd:=λk j hk hj=>hN.bd i k j (X4 hi hI.aZ.2) hk hj
 hgo:=λk j hk hj=>hN.hgo i k j (X4 hi hI.aZ.2) hk hj
 dQ:=λk hk=>⟨hK.cell k hk,(hK.key k hk).1,(hK.key k hk).2⟩
 hex:=λk hk=>hI.hex i k hi hk
theorem RA{B:Nat}{w:World}{bt:Nat}{g:ax}{ks:Nat->ByteArray}(hN:aS B w bt g)(hI:bF ks g)(hK:dP w ks):
  Calls aa.prog 16 #[.pointer (some ⟨bt,0,none⟩)] w λe w'=>e= .returned (.bool true)/\Below w.heap.size w w':=by
 refine Q5 bt g.nr g.bQ (some ⟨g.br,0,none⟩) w (by rw[(au hN.hT).1];exact hN.h0) hI.aZ.2 λi hi W hW=>?_
 have hK':dP W ks:=⟨λk hk=>aX (hK.cell k hk) hW,hK.key,hK.ne⟩
 exact LB bt g.br (g.b i) (g.bm i) i g.nr g.bQ i g.A g.R g.wv (g.K i) g.ws (g.kn i) (g.go i) ks W (MV (hN.below hW) hI hK' hi)
theorem nF.dO{w w':World}{ad:Option Addr}{n:Nat}(h:nF w ad n)(hb:Below w.heap.size w w'):nF w' ad n:=by
 rcases h with h|⟨b,off,rfl,hall⟩
 ·exact Or.inl h
 ·refine Or.inr ⟨b,off,rfl,λj hj=>?_⟩
  obtain⟨z,hz,hr⟩:=hall j hj
  exact⟨z,aX hz hb,hr⟩
theorem bR.dO{w w':World}{bx n cap a:Nat}{ad:Option Addr}(h:bR w bx ad n cap a)(hb:Below w.heap.size w w'):bR w' bx ad n cap a:=
 ⟨aY h.1 hb,h.2.1,h.2.2.1,h.2.2.2.dO hb⟩
theorem ON{B:Nat}{w W w':World}{bt bx n cap at':Nat}{ad:Option Addr}{g:ax}(hN:aS B W bt g)(hJ:Jx w bx ad n cap W)(hD:bR w bx ad n cap at')(hB:B<=bx)(hnb:0< n->∀b off,ad=some ⟨b,off,none⟩->b< B)(hb:Below B W w')(hF:Fr (uq g bt) W w'):Below B w w'/\∃at2,bR w' bx ad n cap at2:=by
 have hb':Below B w w':=(hJ.toBelow hB).trans hb
 refine⟨hb',sO hD hJ hF (λe=>?_) hnb hb'⟩
 obtain⟨_,⟨a,_,h3⟩,_⟩:=hJ
 rcases e with e|⟨j,hj,m,hm,e⟩
 ·rw[e,hN.hT] at h3;exact absurd (dZ h3) (by decide)
 ·obtain⟨es,clock,he⟩:=hN.map hj hm
  rw[e,he] at h3;cases h3
theorem Xu{r:Nat}(h:r< 7): ∃k:Nat,k<=9/\(#[Value.int .i64 9,.int .i64 9,.int .i64 1,.int .i64 2,.int .i64 3,.int .i64 4,.int .i64 5]:Array Value)[r]? =some (.int .i64 k):=by
 rcases (show r=0\/r=1\/r=2\/r=3\/r=4\/r=5\/r=6 by omega) with rfl|rfl|rfl|rfl|rfl|rfl|rfl
 ·exact⟨9,by decide,rfl⟩
 ·exact⟨9,by decide,rfl⟩
 ·exact⟨1,by decide,rfl⟩
 ·exact⟨2,by decide,rfl⟩
 ·exact⟨3,by decide,rfl⟩
 ·exact⟨4,by decide,rfl⟩
 ·exact⟨5,by decide,rfl⟩
def jZ(B:Nat)(w:World)(bt bx n cap:Nat)(ad:Option Addr)(ks:Nat->ByteArray)(W:World):Prop:=
 (∃g,aS B W bt g/\bF ks g)/\(∃at2,bR W bx ad n cap at2)/\Below B w W
theorem U9(ad:Option Addr)(n cap:Nat)(ks:Nat->ByteArray)(w:World)(hK:dP w ks)(hC:nF w ad n)(hn:n<=9223372036854775807)(hnb:0< n->∀b off,ad=some ⟨b,off,none⟩->b< w.heap.size)(h0:0< w.heap.size):
  Calls aa.prog 4 #[.slice ad n cap] w λe w'=>e= .returned (.bool true)/\Below w.heap.size w w':=by
 have ha:Below w.heap.size w (w.alloc (.cells #[.slice ad n cap,.int .i64 0] 25)):=(By _ _).alloc (AI _) _
 have hD:bR (w.alloc (.cells #[.slice ad n cap,.int .i64 0] 25)) w.heap.size ad n cap 0:=⟨IS w _,Y2 _,hn,hC.dO ha⟩
 have hnb':0< n->∀b off,ad=some ⟨b,off,none⟩->b≠w.heap.size:=λh b off e=>by have:=hnb h b off e;omega
 have HNx:Hid (Calls aa.prog 14 #[.pointer (some ⟨w.heap.size,0,none⟩),.int .i64 3] (w.alloc (.cells #[.slice ad n cap,.int .i64 0] 25)) λe w'=>∃r:Nat,e= .returned (.int .i64 r)/\(r:Int)< 3/\(∃at2,bR w' w.heap.size ad n cap at2)/\Below w.heap.size w w'):=by
  refine (p7 w.heap.size ad n cap 0 3 _ hD hnb' (by omega) (by omega)).mono ?_
  rintro e w' ⟨r,at2,rfl,hr,hd,_,hg,_⟩
  refine⟨r,rfl,hr,⟨at2,hd⟩,ha.grown hg (by simp) (λk e=>by cases e;exact AI _)⟩
 have HBeg:Hid (∀(r:Nat) (W:World),(r:Int)< 3->w.heap.size<=W.heap.size->Calls aa.prog 7 #[.int .i64 (2+(r:Int))] W λe w'=>∃bt g,e= .returned (.pointer (some ⟨bt,0,none⟩))/\aS w.heap.size w' bt g/\bF ks g/\Below W.heap.size W w'):=by
  intro r W hr hW
  have:=Of W.heap.size (2+r) ks W (by omega) (by omega) (AI _)
  rw[show ((2+r:Nat):Int)=2+(r:Int) by omega] at this
  refine this.mono ?_
  rintro e w' ⟨bt,g,rfl,_,h2,h3,h4⟩
  exact⟨bt,g,rfl,h2.base hW,h3,h4⟩
 have HKA:Hid (dP w ks):=hK
 clear hD hK hC ha
 go_enter aa.func4,aa.ntmps4
 go_wp2_with (first
  |(go_at_call 14;refine BY HNx.out ?_;rintro e w1 ⟨r,rfl,hr,hd1,hb1⟩;have HD1:Hid _:=hd1;have HB1:Hid (Below w.heap.size w w1):=hb1;clear hd1 hb1)
  |(go_at_call 7;refine BY (HBeg.out r _ hr HB1.out.size) ?_;rintro e w2 ⟨bt,g,rfl,hN,hI,hb2⟩;have HN:Hid (aS w.heap.size w2 bt g):=hN;have HI:Hid (bF ks g):=hI;have HB2:Hid (Below w1.heap.size w1 w2):=hb2;clear hN hI hb2))
 have HS:Hid (jZ w.heap.size w bt w.heap.size n cap ad ks w2):=by
  obtain⟨at2,hd⟩:=HD1.out
  exact⟨⟨g,HN.out,HI.out⟩,⟨at2,hd.dO HB2.out⟩,bG HB1.out HB2.out⟩
 clear HN HI HB2 HB1 HD1 HNx HBeg
 go_loopw [5] (λiv wr=>∃i:Nat,i<=120/\iv= .int .i64 i/\Hid (jZ w.heap.size w bt w.heap.size n cap ad ks wr)) (λiv _=>120 - (intOf iv).toNat)
 case atStart=>exact⟨0,by omega,rfl,HS.out⟩
 case round=>
  obtain⟨i,hi,rfl,HNd⟩:=hrel
  clear HS
  obtain⟨⟨g,hN,hI⟩,⟨at2,hD⟩,hb⟩:=HNd.out
  obtain⟨bx,hbx⟩: ∃bx,bx=w.heap.size:=⟨_,rfl⟩
  have HJ:Hid (∀w',Jx wr w.heap.size ad n cap w'->aS w.heap.size w' bt g):=λw' h=>hN.fr h.1 (hN.tL hD.1 (by decide) (by decide) (by decide) (by decide) (by decide) (by decide))
  have HNx:Hid (∀(m:Int) W,1<=m->m<=1000->Jx wr w.heap.size ad n cap W->Calls aa.prog 14 #[.pointer (some ⟨w.heap.size,0,none⟩),.int .i64 m] W λe w'=>∃r:Nat,e= .returned (.int .i64 r)/\(r:Int)< m/\Jx wr w.heap.size ad n cap w'/\W.grownBy w' (some w.heap.size)):=by
   intro m W h1 h2 hJW
   obtain⟨a,hW⟩:=hJW.po hD.2.2.1 hD.2.2.2 hnb'
   refine (p7 w.heap.size ad n cap a m W hW hnb' h1 h2).mono ?_
   rintro e w' ⟨r,at2,rfl,hr,hd,_,hg,hz⟩
   exact⟨r,rfl,hr,Jx.next hJW hg hd,hg⟩
  have HLoc:Hid (∀W,Jx wr w.heap.size ad n cap W->Calls aa.prog 8 #[.pointer (some ⟨bt,0,none⟩),.pointer (some ⟨w.heap.size,0,none⟩)] W λe w'=>e= .returned (.bool true)/\jZ w.heap.size w bt w.heap.size n cap ad ks w'):=λW hW=>by
   obtain⟨a,hDW⟩:=hW.po hD.2.2.1 hD.2.2.2 hnb'
   have hbW:Below w.heap.size w W:=hb.trans (hW.toBelow (AI _))
   refine (Pz w.heap.size bt w.heap.size n cap a ad g ks W (HJ.out W hW) hI (HKA.out.below h0 hbW) hDW hnb (AI _) h0).mono ?_
   rintro e w' ⟨rfl,h1,g',_,h2,h3,h4⟩
   exact⟨rfl,⟨g',h2,h3⟩,h4,hbW.trans h1⟩
  have HTk:Hid (∀(a b k:Nat) W,a< g.nr->b< g.nr->k<=9->Jx wr w.heap.size ad n cap W->Calls aa.prog 15 #[.pointer (some ⟨bt,0,none⟩),.int .i64 a,.int .i64 b,.int .i64 k] W λe w'=>∃m:Nat,e= .returned (.tuple #[.int .i64 m,.bool true])/\jZ w.heap.size w bt w.heap.size n cap ad ks w'):=λa b k W ha hb' hk hW=>by
   have hbW:Below w.heap.size w W:=hb.trans (hW.toBelow (AI _))
   refine (Tc w.heap.size bt a b k g ks W (HJ.out W hW) hI (HKA.out.below h0 hbW) h0 ha hb' (by omega)).mono ?_
   rintro e w' ⟨m,g',rfl,⟨h1,h2⟩,_,_,h3,h4,_⟩
   obtain⟨h5,h6⟩:=ON (HJ.out W hW) hW hD (AI _) hnb h1 h2
   exact⟨m,rfl,⟨g',h3,h4⟩,h6,hb.trans h5⟩
  have HNo:Hid (∀W,Jx wr w.heap.size ad n cap W->jZ w.heap.size w bt w.heap.size n cap ad ks W):=λW hW=>⟨⟨g,HJ.out W hW,hI⟩,hW.po hD.2.2.1 hD.2.2.2 hnb',hb.trans (hW.toBelow (AI _))⟩
  have HEv:Hid (∀W,jZ w.heap.size w bt w.heap.size n cap ad ks W->Calls aa.prog 16 #[.pointer (some ⟨bt,0,none⟩)] W λe w'=>e= .returned (.bool true)/\jZ w.heap.size w bt w.heap.size n cap ad ks w'):=λW hW=>by
   obtain⟨⟨g',hN',hI'⟩,⟨a',hD'⟩,hb'⟩:=hW
   refine (RA hN' hI' (HKA.out.below h0 hb')).mono ?_
   rintro e w' ⟨rfl,hb5⟩
   exact⟨rfl,⟨g',hN'.below hb5,hI'⟩,⟨a',hD'.dO hb5⟩,bG hb' hb5⟩
  have J0:Hid (∀q,Jx wr w.heap.size ad n cap (wr.drewN q)):=λq=>⟨(Fr.refl _ _).drewN q,(Jx.start hD).2.1,(Jx.start hD).2.2⟩
  have HBr:Hid (Below w.heap.size w wr):=hb
  have HT0:Hid (∀W,Jx wr w.heap.size ad n cap W->W.cell? ⟨bt,0,none⟩=some (.slice (some ⟨g.br,0,none⟩) g.nr g.bQ)):=λW hW=>by rw[(au (HJ.out W hW).hT).1];exact (HJ.out W hW).h0
  have hnr1:(1:Int)<=(g.nr:Int):=by have:=hI.aZ;omega
  have hnr4:(g.nr:Int)<=4:=by have:=hI.aZ;omega
  obtain⟨c,f⟩:=au hD.1
  have c0: ‹World›.cell? ⟨w.heap.size,0,none⟩=some (.slice ad n cap):=c 0
  have c1: ‹World›.cell? ⟨w.heap.size,1,none⟩=some (.int .i64 at2):=c 1
  clear hb hN hI hD c f HNd HJ
  by_cases hgo:i< 120/\at2< n
  ·have i1:(i:Int)< 120:=by omega
   have a1:(at2:Int)< (n:Int):=by omega
   have hd1:decide ((at2:Int)< (n:Int))=true:=by simpa using hgo.2
   clear hgo
   go_wp2
   go_quiet (fail)
   go_upto_region 11 with (first
    |(go_at_call 14;refine BY (HNx.out 4 _ (by omega) (by omega) (J0.out _)) ?_;rintro e w1 ⟨r1,rfl,hr1,hJ1,_⟩;have J1:Hid (Jx wr w.heap.size ad n cap w1):=hJ1;have t1:=HT0.out _ hJ1;clear hJ1)
    |(go_at_call 8;refine BY (HLoc.out _ J1.out) ?_;rintro e w2 ⟨rfl,hn2⟩;have HN2:Hid (jZ w.heap.size w bt w.heap.size n cap ad ks w2):=hn2;clear hn2)
    |(go_at_call 16;refine BY (HEv.out _ HN2.out) ?_;rintro e w5 ⟨rfl,hn5⟩;have HN5:Hid (jZ w.heap.size w bt w.heap.size n cap ad ks w5):=hn5;clear hn5))
   ·exact⟨⟨i+1,by omega,by go_num,HN5.out⟩,by simp[intOf];omega⟩
   go_region_with (first
    |(go_at_call 14;refine BY (HNx.out (g.nr:Int) _ hnr1 (by omega) J2.out) ?_;rintro e w3 ⟨r3,rfl,hr3,hJ3,_⟩;have J3:Hid (Jx wr w.heap.size ad n cap w3):=hJ3;clear hJ3)
    |(go_at_call 14;refine BY (HNx.out (g.nr:Int) _ hnr1 (by omega) J1.out.drew) ?_;rintro e w2 ⟨r2,rfl,hr2,hJ2,_⟩;have J2:Hid (Jx wr w.heap.size ad n cap w2):=hJ2;have t2:=HT0.out _ hJ2;clear hJ2))
   all_goals
    have HH:Hid (∀w4,(w3.alloc (.cells #[.int .i64 9,.int .i64 9,.int .i64 1,.int .i64 2,.int .i64 3,.int .i64 4,.int .i64 5] 3)).grownBy w4 (some w.heap.size)->w4.heap[w3.heap.size]? =some (.cells #[.int .i64 9,.int .i64 9,.int .i64 1,.int .i64 2,.int .i64 3,.int .i64 4,.int .i64 5] 3)):=λw4 hg=>by
     have h1:=J3.out.1.size
     have h2:=J3.out.2.2
     rw[hg.block w3.heap.size (by simp) (λe=>by injection e with e;omega)]
     exact IS w3 _
    go_upto_region 13 with (go_at_call 14;refine BY (HNx.out 7 _ (by omega) (by omega) (J3.out.alloc _)) ?_;rintro e w4 ⟨r4,rfl,hr4,hJ4,hg4⟩;have J4:Hid (Jx wr w.heap.size ad n cap w4):=hJ4;obtain⟨k4,hk4,hc4⟩:=Xu (show r4< 7 by omega);have c4:w4.cell? ⟨w3.heap.size,r4,none⟩=some (.int .i64 k4):=(by rw[(au (HH.out _ hg4)).1];exact hc4);have r40:(0:Int)<=(r4:Int):=(by omega);clear hJ4 hg4 hc4)
    by_cases hab:r2=r3
    ·subst hab
     go_wp2_with (go_at_call 16;refine BY (HEv.out _ (HNo.out _ J4.out)) ?_;rintro e w5 ⟨rfl,hn5⟩;have HN5:Hid (jZ w.heap.size w bt w.heap.size n cap ad ks w5):=hn5;clear hn5)
     exact⟨⟨i+1,by omega,by go_num,HN5.out⟩,by simp[intOf];omega⟩
    ·have hab': ¬ (r2:Int)=(r3:Int):=by omega
     go_wp2_with (first
      |(go_at_call 15;refine BY (HTk.out r2 r3 k4 _ (by omega) (by omega) hk4 J4.out) ?_;rintro e w6 ⟨m6,rfl,hn6⟩;have HN6:Hid (jZ w.heap.size w bt w.heap.size n cap ad ks w6):=hn6;clear hn6)
      |(go_at_call 16;refine BY (HEv.out _ HN6.out) ?_;rintro e w5 ⟨rfl,hn5⟩;have HN5:Hid (jZ w.heap.size w bt w.heap.size n cap ad ks w5):=hn5;clear hn5))
     exact⟨⟨i+1,by omega,by go_num,HN5.out⟩,by simp[intOf];omega⟩
  ·by_cases hi120:(i:Int)< 120
   ·have a1: ¬ (at2:Int)< (n:Int):=by omega
    have hd1:decide ((at2:Int)< (n:Int))=false:=by simpa using a1
    go_wp2
    go_quiet (fail)
    go_wp2
    go_ret
    exact⟨rfl,Zr HBr.out _⟩
   ·have hd0:decide ((i:Int)< 120)=false:=by simpa using hi120
    go_wp2
    go_quiet (fail)
    go_wp2
    go_ret
    exact⟨rfl,Zr HBr.out _⟩
end Go.Proofs.YtldmcdeibiclkaaGreatDoorQ
