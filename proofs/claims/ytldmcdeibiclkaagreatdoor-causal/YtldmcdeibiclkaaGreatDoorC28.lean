/-
  Toward causal_holds: Contract: Put where it is refused: no key, or too many versions or writes.
-/
import Derived.Test.YtldmcdeibiclkaaGreatDoorC23
import Derived.Test.YtldmcdeibiclkaaGreatDoorC18
import Derived.Test.YtldmcdeibiclkaaGreatDoorC27
import Derived.Deep.DrawnRows
import Derived.Test.YtldmcdeibiclkaaGreatDoorC26
set_option linter.unusedVariables false
set_option linter.unusedSimpArgs false
set_option maxRecDepth 100000
set_option maxHeartbeats 20000000
namespace Go.Proofs.YtldmcdeibiclkaaGreatDoorQ
open Go.RowKit
theorem Jr(b num:Nat)(bm:Nat->Nat)(K:aF)(key val:ByteArray)(seen:Ctx)(w:World)(h:aE w b bm num K)(hK:jc K)(hkey:cL key=true)(dQ:key.size<=8)(hvs:val.size<=12)(hseen:fX seen=true)(hnum:num< 4)(hn:20<=(aQ (K key).2 seen).length\/(aQ (K key).2 seen).length< 20/\1000000<=aL (K key).1 seen num):
  Calls aa.prog 21 #[.pointer (some ⟨b,0,none⟩),.string key,.string val,cA seen] w λe w'=>e= .returned (.int .i64 6)/\Below w.heap.size w w':=by
 have hb:=h.1
 obtain⟨es,clock,hm,hk,hall,_⟩:=h.2.1 _ (fa key)
 obtain⟨sv,hent,hvs0⟩:=hall key rfl
 obtain⟨ad,cap,rfl,hcap⟩:=hvs0.len
 have hlk:∀W:World,W.heap[bm (ay key)]? =some (.map es clock)->(Instr.lookup 98 (.map (some (bm (ay key)))) (.string key) false).run aa.prog W= .ok (bh (K key).1 (.slice ad (K key).2.length cap)) W:=λW hW=>by
  rw[oC W _ es clock key hW hk,hent]
 have HSeg:Hid (∀W,er W b bm num->Calls aa.prog 39 #[.pointer (some ⟨b,0,none⟩),.string key] W λe w'=>e= .returned (.map (some (bm (ay key))))/\Below W.heap.size W w'/\w'.heap.size=W.heap.size):=λW hW=>si b num bm key W (by unfold maxLen;omega) hW
 have hbc0:w.cell? ⟨b,0,none⟩=some (.int .i64 num):=hb.num
 have HBlk:Hid (∀W,Below w.heap.size w W->er W b bm num):=λW hW=>(h.below hW).1
 have HL:Hid ((K key).2.length<=100000):=X0 (hK key).2.1 (by decide)
 have HR:Hid (∀v∈(K key).2,v.rep< 4):=(hK key).1
 generalize (K key).1=c at*
 generalize (K key).2=l at*
 have HV:Hid _:=hvs0
 have HN:Hid _:=hn
 have HCK:Hid _:=oH key
 have HCV:Hid _:=vL val
 have HSO:Hid _:=qO seen
 have hvd:decide (val.size<=12)=true:=by simpa using hvs
 clear hvs0 hall hent hK hn h
 generalize hbms:bm (ay key)=bms at*
 have HBMS:Hid _:=hbms
 clear hbms
 go_enter aa.func21,aa.ntmps21
 go_wp2_with (first
  |(go_at_call 36;refine (HCK.out _ (by unfold maxLen;omega)).mono ?_;rw[hkey];rintro e w1 ⟨rfl,rfl⟩)
  |(go_at_call 37;refine (HCV.out _ (by unfold maxLen;omega)).mono ?_;rw[hvd];rintro e w1 ⟨rfl,rfl⟩)
  |(go_at_call 38;refine (HSO.out _).mono ?_;rw[hseen];rintro e w2 ⟨rfl,hb2⟩;obtain⟨c2,hB2,hz2⟩:=sx hb2;clear hb2))
 have hmk:Hid (∀w',Below w2.heap.size w2 w'->er w' b bm num/\w'.cell? ⟨b,0,none⟩=some (.int .i64 num)/\(Instr.lookup 98 (.map (some bms)) (.string key) false).run aa.prog w'= .ok (bh c (.slice ad l.length cap)) w'/\aC w' (.slice ad l.length cap) l/\w'.cell? ⟨w.heap.size+1,0,none⟩=some (.int .i64 (seen 0))/\w'.cell? ⟨w.heap.size+1,1,none⟩=some (.int .i64 (seen 1))/\w'.cell? ⟨w.heap.size+1,2,none⟩=some (.int .i64 (seen 2))/\w'.cell? ⟨w.heap.size+1,3,none⟩=some (.int .i64 (seen 3))):=λw' hw=>
  ⟨HBlk.out _ (bG hB2 hw),aX (aX hbc0 hB2) hw,hlk w' (aY (aY hm hB2) hw),(aC.below HV.out hB2).below hw,aX (c2 0) hw,aX (c2 1) hw,aX (c2 2) hw,aX (c2 3) hw⟩
 have HB2:Hid _:=hB2
 clear hB2 c2 hlk
 go_region_held3 (λw'=>er w' b bm num/\w'.cell? ⟨b,0,none⟩=some (.int .i64 num)/\(Instr.lookup 98 (.map (some bms)) (.string key) false).run aa.prog w'= .ok (bh c (.slice ad l.length cap)) w'/\aC w' (.slice ad l.length cap) l/\w'.cell? ⟨w.heap.size+1,0,none⟩=some (.int .i64 (seen 0))/\w'.cell? ⟨w.heap.size+1,1,none⟩=some (.int .i64 (seen 1))/\w'.cell? ⟨w.heap.size+1,2,none⟩=some (.int .i64 (seen 2))/\w'.cell? ⟨w.heap.size+1,3,none⟩=some (.int .i64 (seen 3)))
  ((refine hmk.out _ ?_;first|(simp (maxDischargeDepth:=12) [By,XX,XY,Yg];done)|(simp (maxDischargeDepth:=12) [By,XX,XY,Yg,B3,y3];done)|(simp (maxDischargeDepth:=12) [By,XX,XY,Yg,B6,y6];done)|(simp (maxDischargeDepth:=12) [By,XX,XY,Yg,B4,y4,y3,y6];done)))
  (first
   |(go_at_call 39;refine BY (HSeg.out _ (by go_split_ands;assumption)) ?_;rintro e w6 ⟨rfl,hb6,z6⟩;obtain⟨s1,s2⟩:=jK hb6;(try simp only[Zi,kH] at z6);have B6:Below w2.heap.size w2 w6:=ji hb6 (by first|(simp (maxDischargeDepth:=12) [By,XX,XY];done)|(simp (maxDischargeDepth:=12) [By,XX,XY,B3,y3];done));have y6:=B6.size;(try (have x6:w2.heap.size< w6.heap.size:=by omega));(try (have x6':w3.heap.size< w6.heap.size:=by omega));clear hb6)
   |(go_at_call 41;refine (qG val _ (by omega)).mono ?_;rintro e w3 ⟨rfl,hb3⟩;obtain⟨q1,q2⟩:=jK hb3;have B3:Below w2.heap.size w2 w3:=ji hb3 (by first|(simp (maxDischargeDepth:=12) [By,XX,XY];done)|(simp (maxDischargeDepth:=12) [By,XX,XY,B6,y6];done));have y3:=B3.size;have z3:=hb3.size;(try simp only[Zi,kH] at z3);(try (have x3:w2.heap.size< w3.heap.size:=by omega));(try (have x3':w6.heap.size< w3.heap.size:=by omega));clear hb3)
   |(go_at_call 40;refine (XM c _ l num val seen _ (by go_split_ands;assumption) HR.out HL.out hnum HN.out).mono ?_;rintro e w4 ⟨rfl,hb4⟩;obtain⟨p1,p2⟩:=jK hb4;have B4:Below w2.heap.size w2 w4:=ji hb4 (by first|(simp (maxDischargeDepth:=12) [By,XX,XY,B3,y3];done)|(simp (maxDischargeDepth:=12) [By,XX,XY,B6,y6];done));have y4:=B4.size;clear hb4))
 all_goals
  go_wp2_with (go_at_call 42;go_must (refine (C3 b key (λ_=>0) (.slice none 0 0) 6 _ (by decide)).mono ?_);rintro e w5 ⟨rfl,hb5⟩;have B5:Below w2.heap.size w2 w5:=ji hb5 (by simp (maxDischargeDepth:=12) [By,XX,XY,Yg,B4,y4,y3,y6]);clear hb5)
  go_ret
  exact⟨rfl,bG HB2.out B5⟩
theorem Sr(b:Nat)(key val:ByteArray)(seen:Ctx)(w:World)(hkey:cL key=false)(dQ:key.size<=8):
  Calls aa.prog 21 #[.pointer (some ⟨b,0,none⟩),.string key,.string val,cA seen] w λe w'=>e= .returned (.int .i64 2)/\Below w.heap.size w w':=by
 have HCK:Hid _:=oH key
 go_enter aa.func21,aa.ntmps21
 go_wp2_with (go_at_call 36;refine (HCK.out _ (by unfold maxLen;omega)).mono ?_;rw[hkey];rintro e w1 ⟨rfl,rfl⟩)
 go_ret
 exact⟨rfl,((By _ _).alloc (AI _) _).alloc (by simp) _⟩
section
attribute [local go_sem ↓] ym wP xN
attribute [local go_sem] xc rU wE sR
attribute [local go_sem ↓] sM wF Z0 Z1
attribute [local go_sem] sL rX wY uN tG uo xg
theorem dP.below{w w':World}{ks:Nat->ByteArray}{B:Nat}(h:dP w ks)(h0:0< B)(hb:Below B w w'):dP w' ks:=
 ⟨λk hk=>by rw[ZD (hb.block 0 h0)];exact h.cell k hk,h.key,h.ne⟩
theorem dZ{A C:Array Value}{s t:TypeId}{f h:Nat×Nat}(e:some (Obj.cells A s f)=some (Obj.cells C t h)):s=t:=by
 injection e with e
 injection e
theorem wD{w w':World}{bt b num:Nat}{bm:Nat->Nat}{K:aF}{A:Array Value}(hR:aE w b bm num K)(hT:w.heap[bt]? =some (.cells A 42))(hF:Fr (λb=>b=bt) w w'):aE w' b bm num K:=by
 refine hF.rep hR (λe=>?_) (λn hn e=>?_) (λq cur hc e=>?_)
 ·obtain⟨⟨C,hC,_⟩,_⟩:=hR
  rw[e,hT] at hC;cases hC
 ·obtain⟨es,clock,hm,_⟩:=hR.2.1 n hn
  rw[e,hT] at hm;cases hm
 ·rw[e,hT] at hc;cases hc
theorem sO{X:Nat->Prop}{w w1 w2:World}{B bx n cap at':Nat}{ad:Option Addr}(hD:bR w bx ad n cap at')(hJ:Jx w bx ad n cap w1)(hF:Fr X w1 w2)(hx: ¬ X bx)(hnb:0< n->∀b off,ad=some ⟨b,off,none⟩->b< B)(hb:Below B w w2): ∃at2,bR w2 bx ad n cap at2:=by
 obtain⟨_,⟨a,h2,h3⟩,_⟩:=hJ
 obtain⟨_,_,hn,hc⟩:=hD
 refine⟨a,hF.heap h3 hx,h2,hn,?_⟩
 rcases hc with hc|⟨b,off,rfl,hall⟩
 ·exact Or.inl hc
 ·refine Or.inr ⟨b,off,rfl,λj hj=>?_⟩
  obtain⟨z,hz,hr⟩:=hall j hj
  exact⟨z,by rw[ZD (hb.block b (hnb (by omega) b off rfl))];exact hz,hr⟩
theorem WW{B:Nat}{w wc w1 w2:World}{bt bx n cap at' i k:Nat}{ad:Option Addr}{g:ax}{ks:Nat->ByteArray}{m:Mem}{A:Array Value}(hN0:aS B w bt g)(hJ:Jx w bx ad n cap wc)(hN:aS B wc bt g)(hD:bR w bx ad n cap at')(hB:B<=bx)(hnb:0< n->∀b off,ad=some ⟨b,off,none⟩->b< B)(hi:i< g.nr)(hi4:i< 4)(hk:k< 3)(h1:Fr (λb=>b=g.bm i (ay (ks k))) wc w1)(h2:Fr (λb=>b=bt) w1 w2)(hT1:w1.heap[bt]? =some (.cells g.A 42))(hT:w2.heap[bt]? =some (.cells A 42))(hA:A.size=1939)(hR:aE w1 (g.b i) (g.bm i) i (bq (g.K i) (ks k) (aL (g.K i (ks k)).1 m.1,aQ (g.K i (ks k)).2 m.1)))(hg:∀j,j< 80->A[962+i*240+k*80+j]? =some (.bool (g.go i k j||m.2 j)))(bd:∀j,j< 80->A[2+i*240+k*80+j]? =some (.bool (g.kn i k j||m.2 j)))(ho:∀q,(q< 2+i*240+k*80\/2+i*240+k*80+80<=q)->(q< 962+i*240+k*80\/962+i*240+k*80+80<=q)->A[q]? =g.A[q]?):
  Below B w w2/\aS B w2 bt (g.fU ks i k m A)/\∃at2,bR w2 bx ad n cap at2:=by
 have hF:Fr (λb=>b=bt\/b=g.bm i (ay (ks k))) wc w2:=(h1.weaken λb e=>Or.inr e).trans (h2.weaken λb e=>Or.inl e)
 have hbw:B<=wc.heap.size:=by
  have:=hN.hB.1
  have:=(IN.1 hN.hT).1
  omega
 have hb:Below B w w2:=(hJ.toBelow hB).trans (hF.toBelow (λb e=>by
  rcases e with e|e
  ·rw[e];exact hN.hB.1
  ·rw[e];exact hN.hB.2 i _ hi (fa _)) hbw)
 refine⟨hb,hN.fU hF (λb e=>e) hi hi4 hk (fa _) hT hA (wD hR hT1 h2) hg bd ho,sO hD hJ hF (λe=>?_) hnb hb⟩
 obtain⟨_,⟨a,_,h3⟩,_⟩:=hJ
 rcases e with e|e
 ·rw[e,hN.hT] at h3;exact absurd (dZ h3) (by decide)
 ·obtain⟨es,clock,hm⟩:=hN.map hi (fa (ks k))
  rw[e,hm] at h3;cases h3
theorem MP{B:Nat}{w:World}{bt:Nat}{g:ax}{ks:Nat->ByteArray}{i k:Nat}{m:Mem}(hN:aS B w bt g)(hI:bF ks g)(hK:dP w ks)(hi:i< g.nr)(hk:k< 3)(hm:Good g.ws k m.1 m.2)(s:Bool)(hs:gy (λj=>(g.kn i k j && !g.go i k j) && m.2 j) g.ws.length=s)(W:World)(hW:Below w.heap.size w W):
  Calls aa.prog 23 #[.pointer (some ⟨g.b i,0,none⟩),.string (ks k),cA m.1] W λe w'=>e= .returned (.int .i64 (if s=true then 0 else 5))/\W.grownBy w' (some (g.bm i (ay (ks k))))/\(s=false->Below W.heap.size W w')/\(s=true->aE w' (g.b i) (g.bm i) i (bq (g.K i) (ks k) (aL (g.K i (ks k)).1 m.1,aQ (g.K i (ks k)).2 m.1))):=by
 have hR:=(hN.bk i hi).below hW
 have hKO:=hI.eL i hi
 have hso:=hm.sound hI.hlen
 cases s with
 |false=>
  have:=FZ (λj x hx h=>hI.known hi hk j x hx h) hm hs
  rw[←hI.hex i k hi hk] at this
  refine (As (g.b i) i (g.bm i) (g.K i) (ks k) m.1 W hR hKO (hK.key k hk).1 (hK.key k hk).2 hso this).mono ?_
  rintro e w' ⟨rfl,hb⟩
  exact⟨by simp,⟨hb.os,hb.tape,hb.output,hb.size,λq hq _=>hb.block q hq⟩,λ_=>hb,λh=>by cases h⟩
 |true=>
  have:=Mf (λj x hx h=>hI.known hi hk j x hx h) hm hs
  rw[←hI.hex i k hi hk] at this
  refine (Q4 (g.b i) i (g.bm i) (g.K i) (ks k) m.1 W hR hKO (hK.key k hk).1 (hK.key k hk).2 hso this).mono ?_
  rintro e w' ⟨rfl,hr,hg⟩
  exact⟨by simp,hg,(λh=>by cases h),λ_=>hr⟩
theorem PT(B bt bx n cap at' i k:Nat)(ad:Option Addr)(g:ax)(ks:Nat->ByteArray)(w:World)(hN:aS B w bt g)(hI:bF ks g)(hK:dP w ks)(hD:bR w bx ad n cap at')(hnb:0< n->∀b off,ad=some ⟨b,off,none⟩->b< B)(hB:B<=bx)(hB0:0< B)(hi:i< g.nr)(hk:k< 3):
  Calls aa.prog 25 #[.pointer (some ⟨bt,0,none⟩),.pointer (some ⟨bx,0,none⟩),.int .i64 i,.int .i64 k] w λe w'=>e= .returned (.bool true)/\Below B w w'/\∃g',g'.nr=g.nr/\aS B w' bt g'/\bF ks g'/\∃at2,bR w' bx ad n cap at2:=by
 have hL:=hI.jw k hk
 have hnb':0< n->∀b off,ad=some ⟨b,off,none⟩->b≠bx:=λh0 b off h=>by have:=hnb h0 b off h;omega
 have HJ:Hid (∀w',Jx w bx ad n cap w'->aS B w' bt g):=λw' h=>hN.fr h.1 (hN.tL hD.1 (by decide) (by decide) (by decide) (by decide) (by decide) (by decide))
 have HDice:Hid (∀w',Jx w bx ad n cap w'->∃at2,bR w' bx ad n cap at2):=λw' h=>h.po hD.2.2.1 hD.2.2.2 hnb'
 have Hmk:Hid (∀w',Jx w bx ad n cap w'->w'.cell? ⟨bt,1922+k,none⟩=some (.slice (some ⟨g.gm k,0,none⟩) (g.mem k).length (g.ku k))/\(∀r,r< (g.mem k).length->mf w' (g.gm k) (r*84))/\(∀r,r< (g.mem k).length->iL w' (g.gm k) (r*84)=bX (iw (g.mem k) r))/\∃at2,bR w' bx ad n cap at2):=λw' h=>
  ⟨((HJ.out w' h).qh hk).1,((HJ.out w' h).qh hk).2.1,((HJ.out w' h).qh hk).2.2,HDice.out w' h⟩
 have HNext:Hid (∀W,(∃at2,bR W bx ad n cap at2)->Calls aa.prog 14 #[.pointer (some ⟨bx,0,none⟩),.int .i64 (g.mem k).length] W λe w'=>∃(r at2:Nat),e= .returned (.int .i64 r)/\r< (g.mem k).length/\bR w' bx ad n cap at2/\W.grownBy w' (some bx)):=by
  rintro W ⟨a,hW⟩
  refine (p7 bx ad n cap a (g.mem k).length W hW hnb' (by omega) (by omega)).mono ?_
  rintro e w' ⟨r,at2,rfl,hr,hd,_,hg,hz⟩
  exact⟨r,at2,rfl,by omega,hd,hg⟩
 have J0:Hid (Jx w bx ad n cap w):=Jx.start hD
 have HI:Hid _:=hI
 have HKA:Hid _:=hK
 have k3:(k:Int)< 3:=by omega
 have k0:(0:Int)<=(k:Int):=by omega
 have hi4:(i:Int)< 4:=by have:=hI.aZ;omega
 have hi0:(0:Int)<=(i:Int):=by omega
 have hin:(i:Int)< (g.nr:Int):=by omega
 have hbx:bx< w.heap.size:=(IN.1 hD.1).1
 have hz:=aa.xU
 have hst:=De
 have hL30:=hL.2
 have HD0:Hid _:=hD
 have HN0:Hid _:=hN
 clear hD hI hK hN hL
 generalize hgk:g.gm k=gk at*
 generalize hck:g.ku k=ck at*
 have HGK:Hid _:=And.intro hgk hck
 clear hgk hck
 go_enter aa.func25,aa.ntmps25
 go_wp2
 go_cut [9] from 13 to 30 (λpv wx=>∃p r,pv= .pointer (some ⟨p,0,none⟩)/\w.heap.size<=p/\r< (g.mem k).length/\wx.heap[p]? =some (.cells (bX (iw (g.mem k) r)).toArray 74)/\Jx w bx ad n cap wx)
 case first=>
  go_region_held3 (λw'=>w'.cell? ⟨bt,1922+k,none⟩=some (.slice (some ⟨gk,0,none⟩) (g.mem k).length ck)/\(∀r,r< (g.mem k).length->mf w' gk (r*84))/\(∀r,r< (g.mem k).length->iL w' gk (r*84)=bX (iw (g.mem k) r))/\∃at2,bR w' bx ad n cap at2)
   ((refine Hmk.out _ ?_;first|(simp (maxDischargeDepth:=12) [Jx.drew,Jx.alloc,Jx.setCells,J0.out];done)|(simp (maxDischargeDepth:=12) [Jx.drew,Jx.alloc,Jx.setCells,J1,z1];done)))
   (first|(go_at_call 14;refine BY (HNext.out _ (by go_split_ands;assumption)) ?_;rintro e w1 ⟨r,at2,rfl,hr,hd,hg⟩;(try (have bd:=DD (w:=w) hg hbx;have hs1:=vw hY bd));have J1:Jx w bx ad n cap w1:=Jx.next (by simp (maxDischargeDepth:=12) [Jx.drew,Jx.alloc,J0.out]) hg hd;have z1:=J1.1.size;clear hd hg))
  ·go_wp2_with fail
   go_meet
   exact⟨w1.heap.size,r,rfl,z1,hr,uA hY (IS w1 _) _,(J1.alloc _).setCells z1 _ _⟩
  ·go_wp2_with fail
   go_meet
   exact⟨w.heap.size,r,rfl,AI _,hr,uA hY bd _,J1.setCells (AI _) _ _⟩
 case rest=>
  obtain⟨p,r,rfl,hp,hr,hpc,hJ⟩:=hcut
  have HP:Hid _:=hpc
  have HJC:Hid _:=hJ
  have NC:Hid _:=HJ.out _ hJ
  have KC:Hid (dP wc ks):=HKA.out.below hB0 (hJ.toBelow hB)
  have HM:Hid (Good g.ws k (iw (g.mem k) r).1 (iw (g.mem k) r).2):=HI.out.jN k _ hk (by rw[vZ _ _ hr];exact X9 hr)
  clear hpc hJ Hmk HNext hst hz
  generalize iw (g.mem k) r=m at*
  obtain⟨wad,wcap,hwv⟩:=pR NC.out.hw
  have t1:wc.cell? ⟨bt,1,none⟩=some (.slice wad g.ws.length wcap):=by rw[(au NC.out.hT).1,NC.out.h1,hwv]
  have HWV:Hid _:=hwv
  have hlen80:g.ws.length<=80:=HI.out.hlen
  clear hwv
  generalize hF:(λj=>(g.kn i k j && !g.go i k j) && m.2 j)=F
  have HF:Hid (∀j,F j=((g.kn i k j && !g.go i k j) && m.2 j)):=λj=>by rw[←hF]
  have HFF:Hid _:=hF
  clear hF
  go_wp2
  go_loop [10,11] (λsv iv=>∃j:Nat,j<=g.ws.length/\iv= .int .i64 j/\sv= .bool (gy F j)) (λ_ iv=>g.ws.length - (intOf iv).toNat)
  case atStart=>exact⟨0,by omega,rfl,rfl⟩
  case round=>
   obtain⟨j,hj,rfl,hsv⟩:=hrel
   by_cases hjl:j< g.ws.length
   ·have j1:(j:Int)< (g.ws.length:Int):=by omega
    have j80:(j:Int)< 80:=by omega
    have j0:(0:Int)<=(j:Int):=by omega
    have hi4':i< 4:=by omega
    have kc:wc.cell? ⟨bt,2+i*240+k*80+j,none⟩=some (.bool (g.kn i k j)):=by rw[(au NC.out.hT).1];exact NC.out.bd i k j hi4' hk (by omega)
    have gc:wc.cell? ⟨bt,962+i*240+k*80+j,none⟩=some (.bool (g.go i k j)):=by rw[(au NC.out.hT).1];exact NC.out.hgo i k j hi4' hk (by omega)
    have mc:wc.cell? ⟨p,4+j,none⟩=some (.bool (m.2 j)):=by rw[(au HP.out).1];exact qc m j (by omega)
    have hFj:=HF.out j
    have HA:Hid (gy F (j+1)=(gy F j||F j)):=rfl
    cases hs:gy F j with
    |true=>
     rw[hs] at hsv HA
     subst hsv
     go_wp2
     exact⟨⟨j+1,by omega,by go_num,by rw[HA.out];rfl⟩,by simp[intOf];omega⟩
    |false=>
     rw[hs] at hsv HA
     subst hsv
     cases h1:g.kn i k j with
     |false=>
      rw[h1] at kc hFj
      have HA2:Hid (gy F (j+1)=false):=by show _=_;rw[HA.out,hFj];rfl
      clear hFj
      go_wp2
      exact⟨⟨j+1,by omega,by go_num,by rw[HA2.out]⟩,by simp[intOf];omega⟩
     |true=>
      rw[h1] at kc hFj
      cases h2:g.go i k j with
      |true=>
       rw[h2] at gc hFj
       have HA2:Hid (gy F (j+1)=false):=by show _=_;rw[HA.out,hFj];rfl
       clear hFj
       go_wp2
       exact⟨⟨j+1,by omega,by go_num,by rw[HA2.out]⟩,by simp[intOf];omega⟩
      |false=>
       rw[h2] at gc hFj
       have HA2:Hid (gy F (j+1)=m.2 j):=by show _=_;rw[HA.out,hFj];rfl
       clear hFj
       go_wp2
       exact⟨⟨j+1,by omega,by go_num,by rw[HA2.out]⟩,by simp[intOf];omega⟩
   ·obtain rfl:j=g.ws.length:=by omega
    subst hsv
    go_wp2
    have HDel:Hid (∀s,gy F g.ws.length=s->∀W,Below wc.heap.size wc W->Calls aa.prog 23 #[.pointer (some ⟨g.b i,0,none⟩),.string (ks k),cA m.1] W λe w'=>e= .returned (.int .i64 (if s=true then 0 else 5))/\W.grownBy w' (some (g.bm i (ay (ks k))))/\(s=false->Below W.heap.size W w')/\(s=true->aE w' (g.b i) (g.bm i) i (bq (g.K i) (ks k) (aL (g.K i (ks k)).1 m.1,aQ (g.K i (ks k)).2 m.1)))):=λs hs W hW=>
     MP NC.out HI.out (KC.out) hi hk HM.out s (by rw[HFF.out];exact hs) W hW
    have hmap:=NC.out.map hi (fa (ks k))
    have hcell:Hid (∀w',Fr (λb=>b=g.bm i (ay (ks k))) wc w'->w'.cell? ⟨bt,0,none⟩=some (.slice (some ⟨g.br,0,none⟩) g.nr g.bQ)/\w'.cell? ⟨g.br,i,none⟩=some (.pointer (some ⟨g.b i,0,none⟩))/\w'.cell? ⟨0,k,none⟩=some (.string (ks k))/\w'.cell? ⟨p,0,none⟩=some (.int .i64 (m.1 0))/\w'.cell? ⟨p,1,none⟩=some (.int .i64 (m.1 1))/\w'.cell? ⟨p,2,none⟩=some (.int .i64 (m.1 2))/\w'.cell? ⟨p,3,none⟩=some (.int .i64 (m.1 3))):=λw' h=>by
     obtain⟨es,clock,hm⟩:=hmap
     have ne:∀{b C t},wc.heap[b]? =some (.cells C t)->¬ b=g.bm i (ay (ks k)):=λh e=>by rw[e,hm] at h;cases h
     have hp:=(au HP.out).1
     refine⟨h.cell (by rw[(au NC.out.hT).1];exact NC.out.h0) (ne NC.out.hT),h.cell (by rw[(au NC.out.hR).1];exact NC.out.eZ i hi) (ne NC.out.hR),h.cell (KC.out.cell k hk) (λe=>?_),h.cell (hp 0) (ne HP.out),h.cell (hp 1) (ne HP.out),h.cell (hp 2) (ne HP.out),h.cell (hp 3) (ne HP.out)⟩
     have:=NC.out.hB.2 i _ hi (fa (ks k));omega
    have hnr4:g.nr<=4:=HI.out.aZ.2
    have F0:Hid (Fr (λb=>b=g.bm i (ay (ks k))) wc wc):=Fr.refl _ _
    cases hs:gy F g.ws.length with
    |false=>
     have HD:=HDel.out _ hs
     have HDD:Hid _:=HD
     clear HD HDel
     go_wp2_with fail
     go_region_held3 (λw'=>w'.cell? ⟨bt,0,none⟩=some (.slice (some ⟨g.br,0,none⟩) g.nr g.bQ)/\w'.cell? ⟨g.br,i,none⟩=some (.pointer (some ⟨g.b i,0,none⟩))/\w'.cell? ⟨0,k,none⟩=some (.string (ks k))/\w'.cell? ⟨p,0,none⟩=some (.int .i64 (m.1 0))/\w'.cell? ⟨p,1,none⟩=some (.int .i64 (m.1 1))/\w'.cell? ⟨p,2,none⟩=some (.int .i64 (m.1 2))/\w'.cell? ⟨p,3,none⟩=some (.int .i64 (m.1 3)))
      ((refine hcell.out _ ?_;first|(simp[Fr.drew,F0.out];done)|(simp[Fr.drew,F1];done)))
      (first|(go_at_call 23;refine BY (HDD.out _ (by simp[By,XX])) ?_;rintro e w1 ⟨rfl,hg1,hbel,hrep1⟩;have F1:Fr (λb=>b=g.bm i (ay (ks k))) wc w1:=Fr.grown (Fr.drew F0.out) hg1 (λb e _=>by cases e;rfl);have HB1:Hid (Below wc.drew.heap.size wc.drew w1):=hbel (by first|exact trivial|rfl);clear hg1 hbel hrep1))
     go_wp2
     go_ret
     have JF:=(Jx.drew HJC.out).below HB1.out
     exact⟨rfl,JF.toBelow hB,g,rfl,HJ.out _ JF,HI.out,HDice.out _ JF⟩
    |true=>
     have HD:=HDel.out _ hs
     have HDD:Hid _:=HD
     clear HD HDel
     go_wp2_with fail
     go_region_held3 (λw'=>w'.cell? ⟨bt,0,none⟩=some (.slice (some ⟨g.br,0,none⟩) g.nr g.bQ)/\w'.cell? ⟨g.br,i,none⟩=some (.pointer (some ⟨g.b i,0,none⟩))/\w'.cell? ⟨0,k,none⟩=some (.string (ks k))/\w'.cell? ⟨p,0,none⟩=some (.int .i64 (m.1 0))/\w'.cell? ⟨p,1,none⟩=some (.int .i64 (m.1 1))/\w'.cell? ⟨p,2,none⟩=some (.int .i64 (m.1 2))/\w'.cell? ⟨p,3,none⟩=some (.int .i64 (m.1 3)))
      ((refine hcell.out _ ?_;first|(simp[Fr.drew,F0.out];done)|(simp[Fr.drew,F1];done)))
      (first|(go_at_call 23;refine BY (HDD.out _ (by simp[By,XX])) ?_;rintro e w1 ⟨rfl,hg1,hbel,hrep1⟩;have F1:Fr (λb=>b=g.bm i (ay (ks k))) wc w1:=Fr.grown (Fr.drew F0.out) hg1 (λb e _=>by cases e;rfl);have HR1:Hid (aE w1 (g.b i) (g.bm i) i (bq (g.K i) (ks k) (aL (g.K i (ks k)).1 m.1,aQ (g.K i (ks k)).2 m.1))):=hrep1 (by first|exact trivial|rfl);clear hg1 hbel hrep1))
     have hm':=hmap
     obtain⟨es,clock,hmp⟩:=hm'
     have T1:Hid (w1.heap[bt]? =some (.cells g.A 42)):=F1.heap NC.out.hT (λe=>by have:=NC.out.hT;rw[e,hmp] at this;cases this)
     have P1:Hid (w1.heap[p]? =some (.cells (bX m).toArray 74)):=F1.heap HP.out (λe=>by have:=HP.out;rw[e,hmp] at this;cases this)
     have HF1:Hid _:=F1
     have hi4n:i< 4:=by omega
     have hAs:=NC.out.hA
     obtain⟨r1,q1⟩:=jn (w:=w1) (b:=bt) (o:=962+i*240+k*80) (s:=g.go i k) (λj hj=>by rw[(au T1.out).1];exact NC.out.hgo i k j hi4n hk hj)
     obtain⟨r2,q2⟩:=jn (w:=w1) (b:=p) (o:=4) (s:=m.2) (λj hj=>by rw[(au P1.out).1];exact qc m j hj)
     clear F1 hmp hmap
     go_wp2
     go_cut [] from 88 to 106 (λwx=>∃A1,wx.heap[bt]? =some (.cells A1 42)/\A1.size=1939/\(∀j,j< 80->A1[962+i*240+k*80+j]? =some (.bool (g.go i k j||m.2 j)))/\(∀j,(j< 962+i*240+k*80\/962+i*240+k*80+80<=j)->A1[j]? =g.A[j]?)/\Fr (λb=>b=bt) w1 wx)
     case first=>
      go_region_with (first|(go_at_call 45;refine (pO (g.go i k) m.2 _).mono ?_;rintro e w2 ⟨rfl,hb2⟩;have B2:=mP (w0:=w1) hb2 rfl rfl rfl rfl;have T2:=aY T1.out B2;have t2:kq w2 bt (962+i*240+k*80):=pY T2 (by omega);have HT2:Hid _:=T2;have HB2:Hid _:=B2;clear hb2 B2 T2))
      all_goals
       go_wp2_with fail
       go_meet
       obtain⟨A1,a1,a2,a3,a4⟩:=pg HT2.out (show 962+i*240+k*80+80<=g.A.size by omega) (λj=>g.go i k j||m.2 j)
       exact⟨A1,a1,by rw[a2];exact hAs,a3,a4,Fr.setCells (X:=λb=>b=bt) (Fr.iV HB2.out) (Or.inr rfl) _ _⟩
     case rest=>
      obtain⟨A1,a1,a2,a3,a4,a5⟩:=hcut
      have HA1:Hid _:=And.intro a1 (And.intro a2 (And.intro a3 (And.intro a4 a5)))
      have P2:Hid _:=a5.heap P1.out (λe=>by have:=P1.out;rw[e,T1.out] at this;exact absurd (dZ this) (by decide))
      clear r1 q1 r2 q2
      obtain⟨r1,q1⟩:=jn (w:=wc) (b:=bt) (o:=2+i*240+k*80) (s:=g.kn i k) (λj hj=>by rw[(au a1).1,a4 _ (by omega)];exact NC.out.bd i k j hi4n hk hj)
      obtain⟨r2,q2⟩:=jn (w:=wc) (b:=p) (o:=4) (s:=m.2) (λj hj=>by rw[(au P2.out).1];exact qc m j hj)
      clear a1 a3 a4 a5
      go_wp2
      go_cut [] from 106 to 124 (λwx=>∃A2,wx.heap[bt]? =some (.cells A2 42)/\A2.size=1939/\(∀j,j< 80->A2[2+i*240+k*80+j]? =some (.bool (g.kn i k j||m.2 j)))/\(∀j,(j< 2+i*240+k*80\/2+i*240+k*80+80<=j)->A2[j]? =A1[j]?)/\Fr (λb=>b=bt) w1 wx)
      case first=>
       go_region_with (first|(go_at_call 45;refine (pO (g.kn i k) m.2 _).mono ?_;rintro e w2 ⟨rfl,hb2⟩;have B2:=mP (w0:=wc) hb2 rfl rfl rfl rfl;have T2:=aY HA1.out.1 B2;have t2:kq w2 bt (2+i*240+k*80):=pY T2 (by omega);have HT2:Hid _:=T2;have HB2:Hid _:=B2;clear hb2 B2 T2))
       all_goals
        go_wp2_with fail
        go_meet
        obtain⟨A2,b1,b2,b3,b4⟩:=pg HT2.out (show 2+i*240+k*80+80<=A1.size by omega) (λj=>g.kn i k j||m.2 j)
        exact⟨A2,b1,by rw[b2];exact a2,b3,b4,Fr.setCells (X:=λb=>b=bt) (HA1.out.2.2.2.2.below HB2.out) (Or.inr rfl) _ _⟩
      case rest=>
       have HC:Hid _:=hcut
       clear hcut r1 q1 r2 q2
       go_wp2
       go_ret
       obtain⟨A2,b1,b2,b3,b4,b5⟩:=HC.out
       obtain⟨_,_,a3,a4,_⟩:=HA1.out
       obtain⟨hd1,hd2,hd3⟩:=WW HN0.out HJC.out NC.out HD0.out hB hnb hi hi4n hk HF1.out b5 T1.out b1 b2 HR1.out (λj hj=>by rw[b4 _ (by omega)];exact a3 j hj) b3 (λq h1 h2=>by rw[b4 q h1,a4 q h2])
       exact⟨rfl,hd1,g.fU ks i k m A2,rfl,hd2,HI.out.fU KC.out.ne A2 hi hk HM.out,hd3⟩
end
section
attribute [local go_sem ↓] sM wF Z0 Z1
attribute [local go_sem] sL rX wY uN tG uo xg
def gv(f:Nat->Nat->Bool):Array Value:=((List.range 240).map λq=>Value.bool (f (q / 80) (q % 80))).toArray
theorem B7(f:Nat->Nat->Bool):(gv f).size=240:=by simp[gv]
theorem Ay{f:Nat->Nat->Bool}{k j:Nat}(hk:k< 3)(hj:j< 80):(gv f)[k*80+j]? =some (.bool (f k j)):=by
 have h1:k*80+j< 240:=by omega
 have h2:(k*80+j) / 80=k:=by omega
 have h3:(k*80+j) % 80=j:=by omega
 simp[gv,h1,h2,h3]
def cT(t:Nat->Bool)(n:Nat)(a b:Nat->Nat->Bool)(k j:Nat):Bool:=if k< n/\t k=true then a k j||b k j else a k j
structure gu(A A':Array Value)(i n m:Nat)(t:Nat->Bool)(a b ka kb:Nat->Nat->Bool):Prop where
 size:A'.size=A.size
 kn:∀k j,k< 3->j< 80->A'[2+i*240+k*80+j]? =some (.bool (cT t m a ka k j))
 go:∀k j,k< 3->j< 80->A'[962+i*240+k*80+j]? =some (.bool (cT t n b kb k j))
 other:∀q,(q< 2+i*240\/2+i*240+240<=q)->(q< 962+i*240\/962+i*240+240<=q)->A'[q]? =A[q]?
theorem FB{t:Nat->Bool}{n:Nat}{a b:Nat->Nat->Bool}(h:t n=true)(k j:Nat):cT t (n+1) a b k j=if k=n then a k j||b k j else cT t n a b k j:=by
 unfold cT
 by_cases e:k=n
 ·subst e;simp[h]
 ·rw[AS e]
  by_cases hl:k< n
  ·simp[hl,Nat.lt_succ_of_lt hl]
  ·have: ¬ k< n+1:=by omega
   simp[hl,this]
theorem Aq{t:Nat->Bool}{n:Nat}{a b:Nat->Nat->Bool}(h:t n=false)(k j:Nat):cT t (n+1) a b k j=cT t n a b k j:=by
 unfold cT
 by_cases e:k=n
 ·subst e;simp[h]
 ·by_cases hl:k< n
  ·simp[hl,Nat.lt_succ_of_lt hl]
  ·have: ¬ k< n+1:=by omega
   simp[hl,this]
theorem zE{t:Nat->Bool}{n:Nat}{a b:Nat->Nat->Bool}(j:Nat):cT t n a b n j=a n j:=by simp[cT]
theorem gu.OO{A A' A2:Array Value}{i n:Nat}{t:Nat->Bool}{a b ka kb:Nat->Nat->Bool}(h:gu A A' i n n t a b ka kb)(hn:n< 3)(hi:i< 4)(ht:t n=true)(h1:A2.size=A'.size)(h2:∀j,j< 80->A2[2+i*240+n*80+j]? =some (.bool (a n j||ka n j)))(h3:∀j,(j< 2+i*240+n*80\/2+i*240+n*80+80<=j)->A2[j]? =A'[j]?):gu A A2 i n (n+1) t a b ka kb where
 size:=h1.trans h.size
 kn:=λk j hk hj=>by
  rw[FB ht]
  by_cases e:k=n
  ·subst e;rw[AT rfl];exact h2 j hj
  ·rw[AS e,h3 _ (by omega)];exact h.kn k j hk hj
 go:=λk j hk hj=>by rw[h3 _ (by omega)];exact h.go k j hk hj
 other:=λq q1 q2=>by rw[h3 _ (by omega)];exact h.other q q1 q2
theorem gu.SI{A A' A2:Array Value}{i n:Nat}{t:Nat->Bool}{a b ka kb:Nat->Nat->Bool}(h:gu A A' i n (n+1) t a b ka kb)(hn:n< 3)(hi:i< 4)(ht:t n=true)(h1:A2.size=A'.size)(h2:∀j,j< 80->A2[962+i*240+n*80+j]? =some (.bool (b n j||kb n j)))(h3:∀j,(j< 962+i*240+n*80\/962+i*240+n*80+80<=j)->A2[j]? =A'[j]?):gu A A2 i (n+1) (n+1) t a b ka kb where
 size:=h1.trans h.size
 kn:=λk j hk hj=>by rw[h3 _ (by omega)];exact h.kn k j hk hj
 go:=λk j hk hj=>by
  rw[FB ht]
  by_cases e:k=n
  ·subst e;rw[AT rfl];exact h2 j hj
  ·rw[AS e,h3 _ (by omega)];exact h.go k j hk hj
 other:=λq q1 q2=>by rw[h3 _ (by omega)];exact h.other q q1 q2
theorem gu.Xs{A A':Array Value}{i n:Nat}{t:Nat->Bool}{a b ka kb:Nat->Nat->Bool}(h:gu A A' i n n t a b ka kb)(ht:t n=false):gu A A' i (n+1) (n+1) t a b ka kb where
 size:=h.size
 kn:=λk j hk hj=>by rw[Aq ht];exact h.kn k j hk hj
 go:=λk j hk hj=>by rw[Aq ht];exact h.go k j hk hj
 other:=h.other
structure sE(w:World)(bt i n:Nat)(A:Array Value)(t:Nat->Bool)(a b ka kb:Nat->Nat->Bool)(W:World):Prop where
 x1:W.heap[w.heap.size]? =some (.cells (b3 t) 82)
 x2:W.heap[w.heap.size+1]? =some (.cells (gv ka) 34)
 x3:W.heap[w.heap.size+2]? =some (.cells (gv kb) 34)
 c9: ∃A',W.heap[bt]? =some (.cells A' 42)/\gu A A' i n n t a b ka kb
 fr:Fr (λq=>q=bt) w W
theorem Iz(bt i kk:Nat)(A:Array Value)(t:Nat->Bool)(a b ka kb:Nat->Nat->Bool)(w:World)(hT:w.heap[bt]? =some (.cells A 42))(hA:A.size=1939)(hi:i< 4)(bd:∀k j,k< 3->j< 80->A[2+i*240+k*80+j]? =some (.bool (a k j)))(hgo:∀k j,k< 3->j< 80->A[962+i*240+k*80+j]? =some (.bool (b k j))):
  Calls aa.prog 31 #[.pointer (some ⟨bt,0,none⟩),.int .i64 i,.int .i64 kk,.agg (b3 t),.agg (gv ka),.agg (gv kb)] w λe w'=>e= .returned (.tuple #[])/\∃A',w'.heap[bt]? =some (.cells A' 42)/\gu A A' i 3 3 t a b ka kb/\Fr (λq=>q=bt) w w':=by
 have hbt:bt< w.heap.size:=(IN.1 hT).1
 have HJ0:Hid (sE w bt i 0 A t a b ka kb (((w.alloc (.cells (b3 t) 82)).alloc (.cells (gv ka) 34)).alloc (.cells (gv kb) 34))):=by
  refine⟨qa w _ _ _,by simpa using Az w _ _ _,nj w _ _ _,⟨A,?_,rfl,λk j hk hj=>by rw[bd k j hk hj];simp[cT],λk j hk hj=>by rw[hgo k j hk hj];simp[cT],λ_ _ _=>rfl⟩,(((Fr.refl _ _).alloc _).alloc _).alloc _⟩
  rw[OF _ _ _ (by simp;omega),OF _ _ _ (by simp;omega),OF _ _ _ hbt]
  exact hT
 have i4:(i:Int)< 4:=by omega
 have i0:(0:Int)<=(i:Int):=by omega
 have z1:=B7 ka
 have z2:=B7 kb
 have HA:Hid (A.size=1939):=hA
 clear hT bd hgo hA
 go_enter aa.func31,aa.ntmps31
 go_wp2
 go_loopw [12] (λiv wr=>∃n:Nat,n<=3/\iv= .int .i64 n/\Hid (sE w bt i n A t a b ka kb wr)) (λiv _=>3 - (intOf iv).toNat)
 case atStart=>exact⟨0,by omega,rfl,HJ0.out⟩
 case round=>
  obtain⟨n,hn,rfl,HJ⟩:=hrel
  clear HJ0
  by_cases hlt:n< 3
  ·have n3:(n:Int)< 3:=by omega
   have n0:(0:Int)<=(n:Int):=by omega
   have ct:wr.cell? ⟨w.heap.size,n,none⟩=some (.bool (t n)):=by rw[(au HJ.out.x1).1,Ej hlt]
   cases htn:t n with
   |false=>
    rw[htn] at ct
    have HN:Hid (sE w bt i (n+1) A t a b ka kb wr):=(by
     obtain⟨x1,x2,x3,⟨A',h1,h2⟩,h3⟩:=HJ.out
     exact⟨x1,x2,x3,⟨A',h1,h2.Xs htn⟩,h3⟩)
    clear HJ
    go_wp2
    exact⟨⟨n+1,by omega,by go_num,HN.out⟩,by simp[intOf];omega⟩
   |true=>
    rw[htn] at ct
    obtain⟨A1,hT1,hA1⟩:=HJ.out.c9
    have HT1:Hid (wr.heap[bt]? =some (.cells A1 42)):=hT1
    have HL1:Hid (gu A A1 i n n t a b ka kb):=hA1
    have hs1:A1.size=1939:=hA1.size.trans HA.out
    obtain⟨r1,q1⟩:=jn (w:=wr) (b:=bt) (o:=2+i*240+n*80) (s:=a n) (λj hj=>by rw[(au hT1).1,hA1.kn n j hlt hj,zE])
    obtain⟨r2,q2⟩:=jn (w:=wr) (b:=w.heap.size+1) (o:=n*80) (s:=ka n) (λj hj=>by rw[(au HJ.out.x2).1];exact Ay hlt hj)
    clear hT1 hA1
    go_wp2
    go_cut [] from 20 to 39 (λwx=>∃A2,wx.heap[bt]? =some (.cells A2 42)/\A2.size=A1.size/\(∀j,j< 80->A2[2+i*240+n*80+j]? =some (.bool (a n j||ka n j)))/\(∀j,(j< 2+i*240+n*80\/2+i*240+n*80+80<=j)->A2[j]? =A1[j]?)/\Fr (λq=>q=bt) wr wx)
    case first=>
     go_region_with (first|(go_at_call 45;refine (pO (a n) (ka n) _).mono ?_;rintro e w2 ⟨rfl,hb2⟩;have B2:=mP (w0:=wr) hb2 rfl rfl rfl rfl;have T2:=aY HT1.out B2;have t2:kq w2 bt (2+i*240+n*80):=pY T2 (by omega);have HT2:Hid _:=T2;have HB2:Hid _:=B2;clear hb2 B2 T2))
     all_goals
      go_wp2_with fail
      go_meet
      obtain⟨A2,b1,b2,b3,b4⟩:=pg HT2.out (show 2+i*240+n*80+80<=A1.size by omega) (λj=>a n j||ka n j)
      exact⟨A2,b1,b2,b3,b4,Fr.setCells (X:=λq=>q=bt) (Fr.iV HB2.out) (Or.inr rfl) _ _⟩
    case rest=>
     obtain⟨A2,e1,e2,e3,e4,e5⟩:=hcut
     have hL2:=HL1.out.OO hlt hi htn e2 e3 e4
     have HT2:Hid (wc.heap[bt]? =some (.cells A2 42)):=e1
     have HL2:Hid (gu A A2 i n (n+1) t a b ka kb):=hL2
     have HF2:Hid (Fr (λq=>q=bt) wr wc):=e5
     have hs2:A2.size=1939:=e2.trans hs1
     have hX:Hid (∀{q C ty},w.heap.size<=q->wr.heap[q]? =some (.cells C ty)->wc.heap[q]? =some (.cells C ty)):=λ{q C ty} hq h=>e5.heap h (by show ¬ q=bt;omega)
     clear r1 q1 r2 q2
     obtain⟨r1,q1⟩:=jn (w:=wc) (b:=bt) (o:=962+i*240+n*80) (s:=b n) (λj hj=>by rw[(au e1).1,hL2.go n j hlt hj,zE])
     obtain⟨r2,q2⟩:=jn (w:=wc) (b:=w.heap.size+1+1) (o:=n*80) (s:=kb n) (λj hj=>by rw[(au (hX.out (by omega) HJ.out.x3)).1];exact Ay hlt hj)
     clear e1 e2 e3 e4 e5 hL2
     go_wp2
     have HFin:Hid (∀w2,Below wc.heap.size wc w2->sE w bt i (n+1) A t a b ka kb (w2.setCells bt (962+i*240+n*80) (bits λj=>b n j||kb n j).toList)):=λw2 hb2=>by
      obtain⟨A3,b1,b2,b3,b4⟩:=pg (aY HT2.out hb2) (show 962+i*240+n*80+80<=A2.size by omega) (λj=>b n j||kb n j)
      have e5:Fr (λq=>q=bt) wr (w2.setCells bt (962+i*240+n*80) (bits λj=>b n j||kb n j).toList):=Fr.setCells (X:=λq=>q=bt) (HF2.out.below hb2) (Or.inr rfl) _ _
      have dO:∀{q:Nat} {C:Array Value} {ty:TypeId},w.heap.size<=q->wr.heap[q]? =some (.cells C ty)->(w2.setCells bt (962+i*240+n*80) (bits λj=>b n j||kb n j).toList).heap[q]? =some (.cells C ty):=λ{q C ty} hq h=>e5.heap h (by show ¬ q=bt;omega)
      exact⟨dO (AI _) HJ.out.x1,dO (by omega) HJ.out.x2,dO (by omega) HJ.out.x3,⟨A3,b1,HL2.out.SI hlt hi htn b2 b3 b4⟩,HJ.out.fr.trans e5⟩
     clear HJ HL1 HL2 HF2 hX
     go_region_with (first|(go_at_call 45;refine (pO (b n) (kb n) _).mono ?_;rintro e w2 ⟨rfl,hb2⟩;have B2:=mP (w0:=wc) hb2 rfl rfl rfl rfl;have t2:kq w2 bt (962+i*240+n*80):=pY (aY HT2.out B2) (by omega);have HB2:Hid (Below wc.heap.size wc w2):=B2;clear hb2 B2))
     all_goals
      go_wp2_with fail
      exact⟨⟨n+1,by omega,by go_num,HFin.out _ HB2.out⟩,by simp[intOf];omega⟩
  ·obtain rfl:n=3:=by omega
   go_wp2
   go_end0
   obtain⟨A',h1,h2⟩:=HJ.out.c9
   exact⟨rfl,A',h1,h2,HJ.out.fr⟩
end
end Go.Proofs.YtldmcdeibiclkaaGreatDoorQ
namespace Go.Proofs.YtldmcdeibiclkaaGreatDoorQ
section
def mC(K:aF)(n:Nat)(L:List (List UInt8)):Prop:=L.Pairwise (λa b=>a< b)/\∀x,x∈L↔ay (dI x)=n/\cQ (K (dI x)).1
theorem mC.unique{K:aF}{n:Nat}:∀{L M:List (List UInt8)},L.Pairwise (λa b=>a< b)->M.Pairwise (λa b=>a< b)->(∀x,x∈L↔x∈M)->L=M
 |[],[],_,_,_=>rfl
 |[],y::b,_,_,h=>by have:=(h y).2 (by simp);cases this
 |x::a,[],_,_,h=>by have:=(h x).1 (by simp);cases this
 |x::a,y::b,ha,hb,h=>by
  have ha':=YE.1 ha
  have hb':=YE.1 hb
  have e:x=y:=by
   rcases Yv.1 ((h x).1 (by simp)) with e|hx
   ·exact e
   ·rcases Yv.1 ((h y).2 (by simp)) with e|hy
    ·exact e.symm
    ·exact absurd (ha'.1 y hy) (List.lt_asymm (hb'.1 x hx))
  subst e
  congr 1
  refine mC.unique (K:=K) (n:=n) ha'.2 hb'.2 λv=>⟨λhv=>?_,λhv=>?_⟩
  ·rcases Yv.1 ((h v).1 (by simp[hv])) with e|h'
   ·subst e;exact absurd (ha'.1 v hv) (List.lt_irrefl _)
   ·exact h'
  ·rcases Yv.1 ((h v).2 (by simp[hv])) with e|h'
   ·subst e;exact absurd (hb'.1 v hv) (List.lt_irrefl _)
   ·exact h'
open Classical in
noncomputable def th(K:aF)(n:Nat):List (List UInt8):=if h: ∃L,mC K n L then h.choose else []
theorem Ff{K:aF}{n:Nat}{L:List (List UInt8)}(h:mC K n L):th K n=L:=by
 have hex: ∃L,mC K n L:=⟨L,h⟩
 unfold th
 rw[dif_pos hex]
 have hc:=hex.choose_spec
 exact mC.unique (K:=K) (n:=n) hc.1 h.1 λx=>by rw[hc.2,h.2]
noncomputable def oR(K:aF)(n:Nat):List ai:=(th K n).map λx=>(dI x,(K (dI x)).1,(K (dI x)).2)
noncomputable def uV(K:aF)(n:Nat):ByteArray:=kG (oR K n)
noncomputable def eE(K:aF)(lv n:Nat):Int:=dg (uV K) (3 - lv) n
noncomputable def gP(K:aF)(ns:List Nat):List (Nat×List ai):=ns.map λn=>(n,oR K n)
noncomputable def qi(K:aF)(lev:Nat)(ns:List Nat):List Nd:=ns.map λn=>(n,λi=>if i< 4 then eE K (lev+1) (n*4+i) else 0)
theorem Bm{w:World}{m n:Nat}{K:aF}(h:oS w m n K){s:ByteArray}(hs:ay s=n):cg (cp w m) s≠none↔cQ (K s).1:=by
 obtain⟨es,clock,e1,e2,e3,e4,e5⟩:=h
 have hes:cp w m=es.toList:=by simp[cp,e1]
 rw[hes]
 refine⟨e5 s,λhk hn=>?_⟩
 obtain⟨sv,h1,_⟩:=e3 s hs
 rw[hn] at h1
 obtain⟨i,hi,hne⟩:=hk
 simp only[Option.getD_none,lC,bh] at h1
 injection h1 with h1
 have hz:∀(j:Nat) (x:Value),(#[Value.int .i64 0,.int .i64 0,.int .i64 0,.int .i64 0,.slice none 0 0]:Array Value)[j]? =some x->(#[Value.int .i64 ((K s).1 0),.int .i64 ((K s).1 1),.int .i64 ((K s).1 2),.int .i64 ((K s).1 3),sv]:Array Value)[j]? =some x:=λj x hx=>by rw[←h1];exact hx
 rcases fg hi with rfl|rfl|rfl|rfl
 ·have:=hz 0 _ rfl;simp at this;exact hne this
 ·have:=hz 1 _ rfl;simp at this;exact hne this
 ·have:=hz 2 _ rfl;simp at this;exact hne this
 ·have:=hz 3 _ rfl;simp at this;exact hne this
theorem oS.names{w:World}{m n:Nat}{K:aF}(h:oS w m n K):mC K n (eQ (cU (cp w m))):=by
 have hk:=λs hs=>Bm h (s:=s) hs
 obtain⟨es,clock,e1,e2,e3,e4,e5⟩:=h
 have hes:cp w m=es.toList:=by simp[cp,e1]
 rw[hes] at hk ⊢
 refine⟨AV e2 e4.1,λx=>⟨λhx=>?_,λhx=>?_⟩⟩
 ·have h1:=(rE e4.2.2.2 hx).1
  exact⟨h1,(hk _ h1).1 (CB e2 hx)⟩
 ·have:=H7 ((hk _ hx.1).2 hx.2) e2
  simpa[dI] using this
theorem AN{w:World}{m n:Nat}{K:aF}(h:oS w m n K):dA K (cp w m)=oR K n:=by
 rw[dA,oR,Ff h.names]
section
variable {w:World} {b num:Nat} {bm:Nat->Nat} {K:aF}
theorem aE.text(h:aE w b bm num K){n:Nat}(hn:n< 64):dy w bm K n=uV K n:=by rw[dy,uV,AN (h.2.1 n hn)]
theorem aE.aV(h:aE w b bm num K){ns:List Nat}(hns:∀n∈ns,n< 64):bp w bm K ns=gP K ns:=
 Y9 λn hn=>by rw[AN (h.2.1 n (hns n hn))]
theorem aE.uh(h:aE w b bm num K){lv n:Nat}(hl:lv<=3)(hn:n< 4 ^ lv):bH w bm K lv n=eE K lv n:=
 xe (λk hk=>h.text hk) _ (by omega) _ (by rw[show 3 - (3 - lv)=lv by omega];exact hn)
theorem aE.nodes(h:aE w b bm num K){lev:Nat}(hl:lev< 3){ns:List Nat}(hn:∀n∈ns,n< 4 ^ lev):gz w bm K lev ns=qi K lev ns:=by
 refine Y9 λn hm=>?_
 congr 1
 funext i
 unfold kids
 have:=hn n hm
 split
 ·exact h.uh (by omega) (by rw[Y7];omega)
 ·rfl
theorem aE.bO(h:aE w b bm num K){lev:Nat}(hl:lev< 3){sg:List Nd}(hns:∀g∈sg,g.1< 4 ^ lev):bO (bH w bm K (lev+1)) sg=bO (eE K (lev+1)) sg:=by
 have hg:∀g∈sg,dE (bH w bm K (lev+1)) g 4=dE (eE K (lev+1)) g 4:=λg hg=>by
  unfold dE
  congr 1
  refine List.filter_congr λj hj=>?_
  have:=hns g hg
  have hj':=YV.1 hj
  rw[h.uh (by omega) (by rw[Y7];omega)]
 exact l9 sg hg
end
noncomputable def gb(K:aF):Let->Option Let
 | .root d=>if d=eE K 0 0 then none else some (.nodes 0 (qi K 0 [0]))
 | .nodes lev sg=>if bO (eE K (lev+1)) sg= [] then none else if lev=2 then some (.aV 83 (gP K (bO (eE K (lev+1)) sg))) else some (.nodes (lev+1) (qi K (lev+1) (bO (eE K (lev+1)) sg)))
 | .aV kind sg=>if kind=84 then none else some (.aV 84 (gP (cu K sg) (sg.map (·.1))))
theorem Kh{w w':World}{b num:Nat}{bm:Nat->Nat}{K:aF}{L:Let}(h:aE w b bm num K)(h':aE w' b bm num (iI K L))(hok:L.Ok):yw w w' bm K L=gb K L:=by
 cases L with
 |root d=>
  show ly w bm K d=_
  simp only[ly,gb]
  rw[h.uh (by omega) (by decide),h.nodes (by omega) (by simp)]
 |nodes lev sg=>
  have ho:kP lev sg:=hok
  have hn:∀g∈sg,g.1< 4 ^ lev:=λg hg=>(ho.num g hg).1
  have hl:=ho.low
  have hd:=sA (D:=eE K (lev+1)) hn
  show lB w bm K lev sg=_
  simp only[lB,gb]
  rw[h.bO hl hn]
  by_cases h0:bO (eE K (lev+1)) sg= []
  ·rw[AT h0,AT h0]
  ·rw[AS h0,AS h0]
   by_cases h2:lev=2
   ·subst h2
    rw[AT rfl,AT rfl,h.aV λn hn=>hd n hn]
   ·rw[AS h2,AS h2,h.nodes (by omega) hd]
 |aV kind sg=>
  show (if kind=84 then none else some (Let.aV 84 (bp w' bm (cu K sg) (sg.map (·.1)))))=_
  simp only[gb]
  rw[aE.aV (K:=cu K sg) h' λn hn=>?_]
  obtain⟨g,hg,rfl⟩:=Ya.1 hn
  exact (hok.2.num g hg).1
theorem JK(b num:Nat)(bm:Nat->Nat)(K:aF)(L:Let)(w:World)(h:tl b num bm K w L):
  Calls aa.prog 18 #[.pointer (some ⟨b,0,none⟩),.string L.bytes] w λe w'=>e= .returned (.tuple #[.string (jb (gb K L)),.int .i64 0])/\aE w' b bm num (iI K L)/\Fr (λq=>jg bm q/\∃k sg,L= .aV k sg) w w':=by
 refine (OX b num bm K L w h).mono ?_
 rintro e w' ⟨R,rfl,rfl,h1,h2⟩
 exact⟨by rw[Kh h.rep h1 h.ok],h1,h2⟩
end
end Go.Proofs.YtldmcdeibiclkaaGreatDoorQ
namespace Go.Proofs.YtldmcdeibiclkaaGreatDoorQ
open Go.RowKit
def cE(ks:Nat->ByteArray):Let->Nat->Bool
 | .aV _ sg,k=>decide (ay (ks k)∈sg.map (·.1))
 |_,_=>false
def l7(K:aF):Let->Prop
 | .root d=>0<=d/\d< 18446744073709551616
 | .nodes lev sg=>kP lev sg
 | .aV kind sg=>(kind=83\/kind=84)/\∃ns,(1<=ns.length/\ns.length<=64)/\(∀n∈ns,n< 64)/\ns.Pairwise (· < ·)/\sg=gP K ns
def mH(K:aF):Prop:=∀n,n< 64->mC K n (th K n)
theorem aE.vh{w:World}{b num:Nat}{bm:Nat->Nat}{K:aF}(h:aE w b bm num K):mH K:=λn hn=>by
 have:=(h.2.1 n hn).names
 rw[Ff this];exact this
theorem xR{K:aF}(hN:mH K){n:Nat}(hn:n< 64){r:ai}:r∈oR K n↔ay r.1=n/\cQ (K r.1).1/\r.2=K r.1:=by
 rw[oR,Ya]
 constructor
 ·rintro⟨x,hx,rfl⟩
  obtain⟨h1,h2⟩:=((hN n hn).2 x).1 hx
  exact⟨h1,h2,rfl⟩
 ·rintro⟨h1,h2,h3⟩
  refine⟨r.1.data.toList,((hN n hn).2 _).2 ?_,?_⟩
  ·rw[tE];exact⟨h1,h2⟩
  ·rw[tE];exact Prod.ext rfl h3.symm
theorem Sw{K K':aF}(hN:mH K'){ns:List Nat}(hns:∀n∈ns,n< 64)(hok:ko (gP K' ns)){s:ByteArray}(h1:ay s∈ns)(h2:cQ (K' s).1):cu K (gP K' ns) s=kN (K s) (K' s):=
 Xt hok (g:=(ay s,oR K' (ay s))) (r:=(s,K' s)) (Ya.2 ⟨_,h1,rfl⟩) ((xR hN (hns _ h1)).2 ⟨rfl,h2,rfl⟩)
theorem B9{K K':aF}(hN:mH K'){ns:List Nat}(hns:∀n∈ns,n< 64){s:ByteArray}(h: ¬ (ay s∈ns/\cQ (K' s).1)):cu K (gP K' ns) s=K s:=by
 refine NK λg hg r hr e=>h ?_
 obtain⟨n,hn,rfl⟩:=Ya.1 hg
 obtain⟨h1,h2,_⟩:=(xR hN (hns n hn)).1 hr
 subst e
 exact⟨h1 ▸ hn,h2⟩
theorem unknown{c:Ctx}(h: ¬ cQ c):∀b,b< 4->c b=0:=λb hb=>Zn λhn=>h ⟨b,hb,hn⟩
def ax.eM(g:ax)(ks:Nat->ByteArray)(i k:Nat)(L:Let)(A:Array Value):ax:=
 {g with
  K:=λj=>if j=i then iI (g.K i) L else g.K j
  kn:=λj l q=>if j=i then cT (cE ks L) 3 (g.kn i) (g.kn k) l q else g.kn j l q
  go:=λj l q=>if j=i then cT (cE ks L) 3 (g.go i) (g.go k) l q else g.go j l q
  A:=A}
theorem T4{K K':aF}{L:Let}(hN:mH K')(hL:l7 K' L)(hok:L.Ok)(ks:Nat->ByteArray)(l:Nat):(iI K L (ks l)=kN (K (ks l)) (K' (ks l))/\cE ks L l=true)\/(iI K L (ks l)=K (ks l)/\(cE ks L l=true->¬ cQ (K' (ks l)).1)):=by
 cases L with
 |root d=>exact .inr ⟨rfl,λh=>by cases h⟩
 |nodes lev sg=>exact .inr ⟨rfl,λh=>by cases h⟩
 |aV kind sg=>
  obtain⟨_,ns,h1,h2,h3,rfl⟩:=hL
  have hm:(gP K' ns).map (·.1)=ns:=by rw[gP,ZH];show ns.map (λn=>n)=ns;rw[List.map_id']
  by_cases hk:ay (ks l)∈ns/\cQ (K' (ks l)).1
  ·exact .inl ⟨Sw hN h2 hok.2 hk.1 hk.2,by simp only[cE,hm];exact ZL hk.1⟩
  ·refine .inr ⟨B9 hN h2 hk,λht hk'=>hk ⟨?_,hk'⟩⟩
   simp only[cE,hm] at ht
   exact of_decide_eq_true ht
theorem Fx{K K':aF}{L:Let}(hN:mH K')(hL:l7 K' L){s:ByteArray}(h: ¬ cQ (K' s).1):iI K L s=K s:=by
 cases L with
 |root d=>rfl
 |nodes lev sg=>rfl
 |aV kind sg=>
  obtain⟨_,ns,h1,h2,h3,rfl⟩:=hL
  exact B9 hN h2 λhk=>h hk.2
theorem DV(f:Nat->Bool):∀n,cR f n<=n
 |0=>AI _
 |n+1=>by
  have:=DV f n
  simp only[cR]
  split<;>omega
theorem bF.lk{ks:Nat->ByteArray}{g:ax}(hI:bF ks g){i l:Nat}(hi:i< g.nr)(hl:l< 3):gE (g.K i (ks l)).1 (g.K i (ks l)).2:=by
 rw[hI.hex i l hi hl]
 exact yZ hI.eS hI.hlen hI.dx (hI.dB i l hi hl)
theorem bF.EV{ks:Nat->ByteArray}{g:ax}(hI:bF ks g){k l:Nat}(hk:k< g.nr)(hl:l< 3)(h: ¬ cQ (g.K k (ks l)).1):∀j,g.kn k l j=false:=λj=>by
 cases hj:g.kn k l j with
 |false=>rfl
 |true=>
  have hG:=hI.dB k l hk hl
  have hlt:j< g.ws.length:=Zn λhn=>by rw[hG.2.1 j (by omega)] at hj;cases hj
  have hx:g.ws[j]? =some g.ws[j]:=Yn hlt
  have h1:=((hG.1 j _ hx).1 hj).2
  have h2:=(hI.eS.le hx).1
  have h3:=unknown h _ (hI.dS _ (X9 hlt))
  omega
theorem ua{ks:Nat->ByteArray}{g:ax}(hI:bF ks g){i k l:Nat}{L:Let}(hi:i< g.nr)(hk:k< g.nr)(hl:l< 3)(hN:mH (g.K k))(hL:l7 (g.K k) L)(hok:L.Ok):
  Good g.ws l (iI (g.K i) L (ks l)).1 (cT (cE ks L) 3 (g.kn i) (g.kn k) l)/\(iI (g.K i) L (ks l)).2=expected g.ws (cT (cE ks L) 3 (g.kn i) (g.kn k) l) (cT (cE ks L) 3 (g.go i) (g.go k) l) l/\(iI (g.K i) L (ks l)).1 i=(g.K i (ks l)).1 i:=by
 have hGi:=hI.dB i l hi hl
 have hGk:=hI.dB k l hk hl
 rcases T4 (K:=g.K i) hN hL hok ks l with ⟨e,ht⟩|⟨e,ht⟩
 ·have e1:cT (cE ks L) 3 (g.kn i) (g.kn k) l=λj=>g.kn i l j||g.kn k l j:=funext λj=>by simp[cT,ht,hl]
  have e2:cT (cE ks L) 3 (g.go i) (g.go k) l=λj=>g.go i l j||g.go k l j:=funext λj=>by simp[cT,ht,hl]
  rw[e,e1,e2]
  refine⟨hGi.join hGk,?_,?_⟩
  ·show lG _ _ _ _=_
   have o1:=hI.lk hi hl
   have o2:=hI.lk hk hl
   rw[hI.hex i l hi hl] at o1
   rw[hI.hex k l hk hl] at o2
   rw[hI.hex i l hi hl,hI.hex k l hk hl]
   exact Xe hI.eS.num hGi hGk (λj=>hI.dF i l j hi hl) (λj=>hI.dF k l j hk hl) o1 o2
  ·have h1:=hI.aA i l hi hl
   have h2:=(hGk.2.2 i).2
   simp only[kN,aL]
   omega
 ·have e1:cT (cE ks L) 3 (g.kn i) (g.kn k) l=g.kn i l:=funext λj=>by
   unfold cT
   split
   ·rename_i h
    rw[hI.EV hk hl (ht h.2) j,Bool.or_false]
   ·rfl
  have e2:cT (cE ks L) 3 (g.go i) (g.go k) l=g.go i l:=funext λj=>by
   unfold cT
   split
   ·rename_i h
    have hn:=hI.EV hk hl (ht h.2) j
    have hs:g.go k l j=false:=by
     cases hg:g.go k l j with
     |false=>rfl
     |true=>rw[hI.dF k l j hk hl hg] at hn;cases hn
    rw[hs,Bool.or_false]
   ·rfl
  rw[e,e1,e2]
  exact⟨hGi,hI.hex i l hi hl,rfl⟩
theorem bF.eM{ks:Nat->ByteArray}{g:ax}(hI:bF ks g){i k:Nat}{L:Let}(A:Array Value)(hi:i< g.nr)(hk:k< g.nr)(hN:mH (g.K k))(hL:l7 (g.K k) L)(hok:L.Ok):bF ks (g.eM ks i k L A) where
 aZ:=hI.aZ
 hlen:=hI.hlen
 eS:=hI.eS
 dx:=hI.dx
 dS:=hI.dS
 dB:=λj l hj hl=>by
  simp only[ax.eM]
  by_cases e:j=i
  ·subst e;simpa using (ua hI hi hk hl hN hL hok).1
  ·simpa[e] using hI.dB j l hj hl
 aA:=λj l hj hl=>by
  simp only[ax.eM]
  by_cases e:j=i
  ·subst e
   rw[AT rfl,(ua hI hi hk hl hN hL hok).2.2]
   exact hI.aA j l hj hl
  ·simpa[e] using hI.aA j l hj hl
 hex:=λj l hj hl=>by
  simp only[ax.eM]
  by_cases e:j=i
  ·subst e;simpa using (ua hI hi hk hl hN hL hok).2.1
  ·simpa[e] using hI.hex j l hj hl
 im:=λj l q hj hl hq=>by
  simp only[ax.eM]
  by_cases e:j=i
  ·subst e
   rw[AT rfl]
   unfold cT
   rw[hI.im j l q hi hl hq,hI.im k l q hk hl hq]
   simp
  ·rw[AS e];exact hI.im j l q hj hl hq
 jN:=hI.jN
 jw:=hI.jw
 eL:=λj hj=>by
  simp only[ax.eM]
  by_cases e:j=i
  ·subst e
   rw[AT rfl]
   intro s
   by_cases hs: ∃l,l< 3/\s=ks l
   ·obtain⟨l,hl,rfl⟩:=hs
    obtain⟨h1,h2,_⟩:=ua hI hi hk hl hN hL hok
    have ho:=yZ hI.eS hI.hlen hI.dx (go:=cT (cE ks L) 3 (g.go j) (g.go k) l) h1
    rw[h2]
    refine⟨λv hv=>(ho.iX v hv).1,?_,λv hv=>(ho.iX v hv).2.2.1,ho.ctx⟩
    rw[tR λq x hx h=>⟨((h1.1 q x hx).1 h).1,hI.dS x (aaj hx)⟩]
    have:=DV (λq=>cT (cE ks L) 3 (g.kn j) (g.kn k) l q && !cT (cE ks L) 3 (g.go j) (g.go k) l q) g.ws.length
    have:=hI.hlen
    omega
   ·rw[Fx hN hL λh=>hs (hI.gq k hk s h)]
    exact hI.eL j hj s
  ·rw[AS e];exact hI.eL j hj
 gq:=λj hj s hs=>by
  simp only[ax.eM] at hs
  by_cases e:j=i
  ·subst e
   rw[AT rfl] at hs
   by_cases hk':cQ (g.K k s).1
   ·exact hI.gq k hk s hk'
   ·rw[Fx hN hL hk'] at hs
    exact hI.gq j hj s hs
  ·rw[AS e] at hs;exact hI.gq j hj s hs
 dF:=λj l q hj hl h=>by
  simp only[ax.eM] at h ⊢
  by_cases e:j=i
  ·subst e
   rw[AT rfl] at h ⊢
   unfold cT at h ⊢
   split
   ·rename_i ht
    rw[AT ht,YF] at h
    rw[YF]
    exact h.imp (hI.dF j l q hj hl) (hI.dF k l q hk hl)
   ·rename_i ht
    rw[AS ht] at h
    exact hI.dF j l q hj hl h
  ·rw[AS e] at h ⊢;exact hI.dF j l q hj hl h
theorem aS.eM{B:Nat}{w w1 w2:World}{bt:Nat}{g:ax}{ks:Nat->ByteArray}{i k:Nat}{L:Let}{A:Array Value}(hN:aS B w bt g)(hi:i< g.nr)(hi4:i< 4)(hF1:Fr (jg (g.bm i)) w w1)(hF2:Fr (λq=>q=bt) w1 w2)(hR:aE w1 (g.b i) (g.bm i) i (iI (g.K i) L))(hT:w2.heap[bt]? =some (.cells A 42))(hA:gu g.A A i 3 3 (cE ks L) (g.kn i) (g.go i) (g.kn k) (g.go k)):aS B w2 bt (g.eM ks i k L A)/\Below B w w2:=by
 have hF:Fr (λq=>q=bt\/jg (g.bm i) q) w w2:=(hF1.weaken λq h=> .inr h).trans (hF2.weaken λq h=> .inl h)
 have hX:∀{q:Nat} {C:Array Value} {t:TypeId} {fr:Nat×Nat},w.heap[q]? =some (.cells C t fr)->t≠42->¬ (q=bt\/jg (g.bm i) q):=λ{q C t fr} hq ht h=>by
  rcases h with e|⟨n,hn,e⟩
  ·rw[e,hN.hT] at hq;cases hq;exact ht rfl
  ·obtain⟨es,clock,hm⟩:=hN.map hi hn
   rw[e,hm] at hq;cases hq
 have hT1:w1.heap[bt]? =some (.cells g.A 42):=hF1.heap hN.hT λ⟨n,hn,e⟩=>by
  obtain⟨es,clock,hm⟩:=hN.map hi hn
  have:=hN.hT
  rw[e,hm] at this;cases this
 have hB:Below B w w2:=hF.toBelow (λq h=>by
  rcases h with e|⟨n,hn,e⟩
  ·rw[e];exact hN.hB.1
  ·rw[e];exact hN.hB.2 i n hi hn) (by
   have:=hN.hB.1
   have:=(IN.1 hN.hT).1
   omega)
 refine⟨?_,hB⟩
 exact {
  hB:=hN.hB
  hT:=hT
  hA:=hA.size.trans hN.hA
  h0:=by show A[0]? =_;rw[hA.other 0 (by omega) (by omega)];exact hN.h0
  hR:=hF.heap hN.hR (hX hN.hR (by decide))
  eZ:=hN.eZ
  bk:=λj hj=>by
   simp only[ax.eM]
   by_cases e:j=i
   ·subst e;rw[AT rfl];exact wD hR hT1 hF2
   ·rw[AS e]
    refine hF.rep (hN.bk j hj) ?_ (λn hn h=>?_) λq cur hq=>hX hq (by decide)
    ·obtain⟨⟨C,hC,_⟩,_⟩:=hN.bk j hj
     exact hX hC (by decide)
    ·obtain⟨es,clock,hm⟩:=hN.map hj hn
     rcases h with h|⟨m,hm',h⟩
     ·rw[h,hN.hT] at hm;cases hm
     ·exact e (hN.eP j i n m hj hi hn hm' h)
  eP:=hN.eP
  h1:=by show A[1]? =_;rw[hA.other 1 (by omega) (by omega)];exact hN.h1
  hw:=hF.iO hN.hw λq cur hq=>hX hq (by decide)
  bd:=λj l q hj hl hq=>by
   simp only[ax.eM]
   by_cases e:j=i
   ·subst e;rw[AT rfl];exact hA.kn l q hl hq
   ·rw[AS e,hA.other _ (by omega) (by omega)];exact hN.bd j l q hj hl hq
  hgo:=λj l q hj hl hq=>by
   simp only[ax.eM]
   by_cases e:j=i
   ·subst e;rw[AT rfl];exact hA.go l q hl hq
   ·rw[AS e,hA.other _ (by omega) (by omega)];exact hN.hgo j l q hj hl hq
  eJ:=λl hl=>by show A[1922+l]? =_;rw[hA.other _ (by omega) (by omega)];exact hN.eJ l hl
  cm:=λl hl=>hF.iO (hN.cm l hl) λq cur hq=>hX hq (by decide)
  eF:=hN.eF
  ki:=λj l hj hl=>by show A[1927+j*3+l]? =_;rw[hA.other _ (by omega) (by omega)];exact hN.ki j l hj hl}
end Go.Proofs.YtldmcdeibiclkaaGreatDoorQ
