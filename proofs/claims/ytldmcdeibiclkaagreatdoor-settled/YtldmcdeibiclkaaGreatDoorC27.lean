/-
  Toward settled_holds: Contract: Put where it is refused: no key, or too many versions or writes.
-/
import Derived.Test.YtldmcdeibiclkaaGreatDoorC22
import Derived.Test.YtldmcdeibiclkaaGreatDoorC18
import Derived.Test.YtldmcdeibiclkaaGreatDoorC26
import Derived.Deep.DrawnRows
import Derived.Test.YtldmcdeibiclkaaGreatDoorC25
set_option linter.unusedVariables false
set_option linter.unusedSimpArgs false
set_option maxRecDepth 100000
set_option maxHeartbeats 20000000
namespace Go.Proofs.YtldmcdeibiclkaaGreatDoorQ
variable {A A' A2:Array Value}{t:Nat->Bool}{a b ka kb:Nat->Nat->Bool}{w w' w1 w2:World}{i B bt k bx cap at':Nat}{ks:Nat->ByteArray}{ad:Option Addr}{g:au}{m:Mem}
open Go.RowKit
theorem VN(b num:Nat)(bm:Nat->Nat)(K:aw)(key val:ByteArray)(seen:Ctx)(w:World)(h:aB w b bm num K)(hK:ji K)(hkey:cV key=true)(ed:key.size<=8)(hvs:val.size<=12)(hseen:gD seen=true)(hnum:num<4)(hn:20<=(aW (K key).2 seen).length\/(aW (K key).2 seen).length<20/\1000000<=aZ (K key).1 seen num):
  Calls aa.prog 21 #[.pointer (some ⟨b,0,none⟩),.string key,.string val,c9 seen] w λe w'=>e=.returned (.int .i64 6)/\Below w.heap.size w w':=by
 have hb:=h.1;obtain⟨es,clock,hm,hk,hall,_⟩:=h.2.1 _ (eU key);obtain⟨sv,hent,hvs0⟩:=hall key rfl;obtain⟨ad,cap,rfl,hcap⟩:=hvs0.len;have hlk:∀W:World,W.heap[bm (ay key)]?=some (.map es clock)->(Instr.lookup 98 (.map (some (bm (ay key)))) (.string key) false).run aa.prog W=.ok (bL (K key).1 (.slice ad (K key).2.length cap)) W:=λW hW=>by
  rw[oa W _ es clock key hW hk,hent]
 have HSeg:Hid (∀W,er W b bm num->Calls aa.prog 39 #[.pointer (some ⟨b,0,none⟩),.string key] W λe w'=>e=.returned (.map (some (bm (ay key))))/\Below W.heap.size W w'/\w'.heap.size=W.heap.size):=λW hW=>tq b num bm key W (by unfold maxLen;omega) hW;have hbc0:w.cell? ⟨b,0,none⟩=some (.int .i64 num):=hb.num;have HBlk:Hid (∀W,Below w.heap.size w W->er W b bm num):=λW hW=>(h.below hW).1;have HL:Hid ((K key).2.length<=100000):=Xb (hK key).2.1 (by decide);have HR:Hid (∀v∈(K key).2,v.rep<4):=(hK key).1;generalize (K key).1=c at*;generalize (K key).2=l at*;have HV:Hid _:=hvs0;have HN:Hid _:=hn;have HCK:Hid _:=oj key;have HCV:Hid _:=wU val;have HSO:Hid _:=sA seen;have hvd:decide (val.size<=12)=true:=by simpa using hvs
 clear hvs0 hall hent hK hn h;generalize hbms:bm (ay key)=bms at*;have HBMS:Hid _:=hbms;clear hbms;go_enter aa.func21,aa.ntmps21;go_wp2_with (first
  |(go_at_call 36;refine (HCK.out _ (by unfold maxLen;omega)).mono ?_;rw[hkey];rintro e w1 ⟨rfl,rfl⟩)
  |(go_at_call 37;refine (HCV.out _ (by unfold maxLen;omega)).mono ?_;rw[hvd];rintro e w1 ⟨rfl,rfl⟩)
  |(go_at_call 38;refine (HSO.out _).mono ?_;rw[hseen];rintro e w2 ⟨rfl,hb2⟩;obtain⟨c2,hB2,hz2⟩:=uz hb2;clear hb2))
 have hmk:Hid (∀w',Below w2.heap.size w2 w'->er w' b bm num/\w'.cell? ⟨b,0,none⟩=some (.int .i64 num)/\(Instr.lookup 98 (.map (some bms)) (.string key) false).run aa.prog w'=.ok (bL c (.slice ad l.length cap)) w'/\aC w' (.slice ad l.length cap) l/\w'.cell? ⟨w.heap.size+1,0,none⟩=some (.int .i64 (seen 0))/\w'.cell? ⟨w.heap.size+1,1,none⟩=some (.int .i64 (seen 1))/\w'.cell? ⟨w.heap.size+1,2,none⟩=some (.int .i64 (seen 2))/\w'.cell? ⟨w.heap.size+1,3,none⟩=some (.int .i64 (seen 3))):=λw' hw=>
  ⟨HBlk.out _ (bc hB2 hw),aU (aU hbc0 hB2) hw,hlk w' (aQ (aQ hm hB2) hw),(aC.below HV.out hB2).below hw,aU (c2 0) hw,aU (c2 1) hw,aU (c2 2) hw,aU (c2 3) hw⟩
 have HB2:Hid _:=hB2;clear hB2 c2 hlk;go_region_held3 (λw'=>er w' b bm num/\w'.cell? ⟨b,0,none⟩=some (.int .i64 num)/\(Instr.lookup 98 (.map (some bms)) (.string key) false).run aa.prog w'=.ok (bL c (.slice ad l.length cap)) w'/\aC w' (.slice ad l.length cap) l/\w'.cell? ⟨w.heap.size+1,0,none⟩=some (.int .i64 (seen 0))/\w'.cell? ⟨w.heap.size+1,1,none⟩=some (.int .i64 (seen 1))/\w'.cell? ⟨w.heap.size+1,2,none⟩=some (.int .i64 (seen 2))/\w'.cell? ⟨w.heap.size+1,3,none⟩=some (.int .i64 (seen 3)))
  ((refine hmk.out _ ?_;first|(simp (maxDischargeDepth:=12) [AT,IT,W9,Xj];done)|(simp (maxDischargeDepth:=12) [AT,IT,W9,Xj,B3,y3];done)|(simp (maxDischargeDepth:=12) [AT,IT,W9,Xj,B6,y6];done)|(simp (maxDischargeDepth:=12) [AT,IT,W9,Xj,B4,y4,y3,y6];done)))
  (first
   |(go_at_call 39;refine By (HSeg.out _ (by go_split_ands;assumption)) ?_;rintro e w6 ⟨rfl,hb6,z6⟩;obtain⟨s1,s2⟩:=jN hb6;(try simp only[Yg,kM]at z6);have B6:Below w2.heap.size w2 w6:=iT hb6 (by first|(simp (maxDischargeDepth:=12) [AT,IT,W9];done)|(simp (maxDischargeDepth:=12) [AT,IT,W9,B3,y3];done));have y6:=B6.size;(try (have x6:w2.heap.size<w6.heap.size:=by omega));(try (have x6':w3.heap.size<w6.heap.size:=by omega));clear hb6)
   |(go_at_call 41;refine (sr val _ (by omega)).mono ?_;rintro e w3 ⟨rfl,hb3⟩;obtain⟨q1,q2⟩:=jN hb3;have B3:Below w2.heap.size w2 w3:=iT hb3 (by first|(simp (maxDischargeDepth:=12) [AT,IT,W9];done)|(simp (maxDischargeDepth:=12) [AT,IT,W9,B6,y6];done));have y3:=B3.size;have z3:=hb3.size;(try simp only[Yg,kM]at z3);(try (have x3:w2.heap.size<w3.heap.size:=by omega));(try (have x3':w6.heap.size<w3.heap.size:=by omega));clear hb3)
   |(go_at_call 40;refine (Q2 c _ l num val seen _ (by go_split_ands;assumption) HR.out HL.out hnum HN.out).mono ?_;rintro e w4 ⟨rfl,hb4⟩;obtain⟨p1,p2⟩:=jN hb4;have B4:Below w2.heap.size w2 w4:=iT hb4 (by first|(simp (maxDischargeDepth:=12) [AT,IT,W9,B3,y3];done)|(simp (maxDischargeDepth:=12) [AT,IT,W9,B6,y6];done));have y4:=B4.size;clear hb4))
 all_goals
  go_wp2_with (go_at_call 42;go_must (refine (AM b key (λ_=>0) (.slice none 0 0) 6 _ (by decide)).mono ?_);rintro e w5 ⟨rfl,hb5⟩;have B5:Below w2.heap.size w2 w5:=iT hb5 (by simp (maxDischargeDepth:=12) [AT,IT,W9,Xj,B4,y4,y3,y6]);clear hb5)
  go_ret;exact⟨rfl,bc HB2.out B5⟩
theorem M7(b:Nat)(key val:ByteArray)(seen:Ctx)(w:World)(hkey:cV key=false)(ed:key.size<=8):
  Calls aa.prog 21 #[.pointer (some ⟨b,0,none⟩),.string key,.string val,c9 seen] w λe w'=>e=.returned (.int .i64 2)/\Below w.heap.size w w':=by
 have HCK:Hid _:=oj key;go_enter aa.func21,aa.ntmps21;go_wp2_with (go_at_call 36;refine (HCK.out _ (by unfold maxLen;omega)).mono ?_;rw[hkey];rintro e w1 ⟨rfl,rfl⟩)
 go_ret;exact⟨rfl,((AT _ _).alloc (iR _) _).alloc (by simp) _⟩
section
attribute [local go_sem ↓] xB zG yZ
attribute [local go_sem] zU sJ yY uM
attribute [local go_sem ↓] vw yD Yn Yo
attribute [local go_sem] tD qV yB uK vA uJ xZ
theorem dY.below(h:dY w ks)(h0:0<B)(hb:Below B w w'):dY w' ks:=
 ⟨λk hk=>by rw[World.cell?_of_block (hb.block 0 h0)];exact h.cell k hk,h.key,h.ne⟩
theorem eu{C:Array Value}{s t:TypeId}{f h:Nat×Nat}(e:some (Obj.cells A s f)=some (Obj.cells C t h)):s=t:=by
 injection e with e;injection e
theorem xJ{b num:Nat}{bm:Nat->Nat}{K:aw}(hR:aB w b bm num K)(hT:w.heap[bt]?=some (.cells A 42))(hF:Fr (λb=>b=bt) w w'):aB w' b bm num K:=by
 refine hF.rep hR (λe=>?_) (λn hn e=>?_) (λq cur hc e=>?_)
 ·obtain⟨⟨C,hC,_⟩,_⟩:=hR;rw[e,hT]at hC;cases hC
 ·obtain⟨es,clock,hm,_⟩:=hR.2.1 n hn;rw[e,hT]at hm;cases hm
 ·rw[e,hT]at hc;cases hc
theorem vk{X:Nat->Prop}{n:Nat}(hD:bZ w bx ad n cap at')(hJ:Jx w bx ad n cap w1)(hF:Fr X w1 w2)(hx: ¬X bx)(hnb:0<n->∀b off,ad=some ⟨b,off,none⟩->b<B)(hb:Below B w w2): ∃at2,bZ w2 bx ad n cap at2:=by
 obtain⟨_,⟨a,h2,h3⟩,_⟩:=hJ;obtain⟨_,_,hn,hc⟩:=hD;refine⟨a,hF.heap h3 hx,h2,hn,?_⟩;rcases hc with hc|⟨b,off,rfl,hall⟩
 ·exact Or.inl hc
 ·refine Or.inr ⟨b,off,rfl,λj hj=>?_⟩;obtain⟨z,hz,hr⟩:=hall j hj;exact⟨z,by rw[World.cell?_of_block (hb.block b (hnb (by omega) b off rfl))];exact hz,hr⟩
theorem QG{wc:World}{n:Nat}(hN0:aP B w bt g)(hJ:Jx w bx ad n cap wc)(hN:aP B wc bt g)(hD:bZ w bx ad n cap at')(hB:B<=bx)(hnb:0<n->∀b off,ad=some ⟨b,off,none⟩->b<B)(hi:i<g.nr)(hi4:i<4)(hk:k<3)(h1:Fr (λb=>b=g.bm i (ay (ks k))) wc w1)(h2:Fr (λb=>b=bt) w1 w2)(hT1:w1.heap[bt]?=some (.cells g.A 42))(hT:w2.heap[bt]?=some (.cells A 42))(hA:A.size=1939)(hR:aB w1 (g.b i) (g.bm i) i (bD (g.K i) (ks k) (aZ (g.K i (ks k)).1 m.1,aW (g.K i (ks k)).2 m.1)))(hg:∀j,j<80->A[962+i*240+k*80+j]?=some (.bool (g.go i k j||m.2 j)))(aV:∀j,j<80->A[2+i*240+k*80+j]?=some (.bool (g.kn i k j||m.2 j)))(ho:∀q,(q<2+i*240+k*80\/2+i*240+k*80+80<=q)->(q<962+i*240+k*80\/962+i*240+k*80+80<=q)->A[q]?=g.A[q]?):
  Below B w w2/\aP B w2 bt (g.gH ks i k m A)/\∃at2,bZ w2 bx ad n cap at2:=by
 have hF:Fr (λb=>b=bt\/b=g.bm i (ay (ks k))) wc w2:=(h1.weaken λb e=>Or.inr e).trans (h2.weaken λb e=>Or.inl e);have hbw:B<=wc.heap.size:=by
  have:=hN.hB.1
  have:=(Array.getElem?_eq_some_iff.1 hN.hT).1;omega
 have hb:Below B w w2:=(hJ.toBelow hB).trans (hF.toBelow (λb e=>by
  rcases e with e|e
  ·rw[e];exact hN.hB.1
  ·rw[e];exact hN.hB.2 i _ hi (eU _)) hbw)
 refine⟨hb,hN.gH hF (λb e=>e) hi hi4 hk (eU _) hT hA (xJ hR hT1 h2) hg aV ho,vk hD hJ hF (λe=>?_) hnb hb⟩;obtain⟨_,⟨a,_,h3⟩,_⟩:=hJ;rcases e with e|e
 ·rw[e,hN.hT]at h3;exact absurd (eu h3) (by decide)
 ·obtain⟨es,clock,hm⟩:=hN.map hi (eU (ks k));rw[e,hm]at h3;cases h3
theorem UT(hN:aP B w bt g)(hI:bz ks g)(hK:dY w ks)(hi:i<g.nr)(hk:k<3)(hm:Good g.ws k m.1 m.2)(s:Bool)(hs:gb (λj=>(g.kn i k j&&!g.go i k j)&&m.2 j) g.ws.length=s)(W:World)(hW:Below w.heap.size w W):
  Calls aa.prog 23 #[.pointer (some ⟨g.b i,0,none⟩),.string (ks k),c9 m.1] W λe w'=>e=.returned (.int .i64 (if s=true then 0 else 5))/\W.grownBy w' (some (g.bm i (ay (ks k))))/\(s=false->Below W.heap.size W w')/\(s=true->aB w' (g.b i) (g.bm i) i (bD (g.K i) (ks k) (aZ (g.K i (ks k)).1 m.1,aW (g.K i (ks k)).2 m.1))):=by
 have hR:=(hN.bj i hi).below hW;have hKO:=hI.eT i hi;have hso:=hm.sound hI.hlen;cases s with
 |false=>
  have:=Q3 (λj x hx h=>hI.known hi hk j x hx h) hm hs;rw[<-hI.hex i k hi hk]at this;refine (Am (g.b i) i (g.bm i) (g.K i) (ks k) m.1 W hR hKO (hK.key k hk).1 (hK.key k hk).2 hso this).mono ?_;rintro e w' ⟨rfl,hb⟩;exact⟨by simp,⟨hb.os,hb.tape,hb.output,hb.size,λq hq _=>hb.block q hq⟩,λ_=>hb,λh=>by cases h⟩
 |true=>
  have:=Km (λj x hx h=>hI.known hi hk j x hx h) hm hs;rw[<-hI.hex i k hi hk]at this;refine (Oa (g.b i) i (g.bm i) (g.K i) (ks k) m.1 W hR hKO (hK.key k hk).1 (hK.key k hk).2 hso this).mono ?_;rintro e w' ⟨rfl,hr,hg⟩;exact⟨by simp,hg,(λh=>by cases h),λ_=>hr⟩
theorem NV(B bt bx n cap at' i k:Nat)(ad:Option Addr)(g:au)(ks:Nat->ByteArray)(w:World)(hN:aP B w bt g)(hI:bz ks g)(hK:dY w ks)(hD:bZ w bx ad n cap at')(hnb:0<n->∀b off,ad=some ⟨b,off,none⟩->b<B)(hB:B<=bx)(hB0:0<B)(hi:i<g.nr)(hk:k<3):
  Calls aa.prog 25 #[.pointer (some ⟨bt,0,none⟩),.pointer (some ⟨bx,0,none⟩),.int .i64 i,.int .i64 k] w λe w'=>e=.returned (.bool true)/\Below B w w'/\∃g',g'.nr=g.nr/\aP B w' bt g'/\bz ks g'/\∃at2,bZ w' bx ad n cap at2:=by
 have hL:=hI.jr k hk;have hnb':0<n->∀b off,ad=some ⟨b,off,none⟩->b≠bx:=λh0 b off h=>by have:=hnb h0 b off h;omega
 have HJ:Hid (∀w',Jx w bx ad n cap w'->aP B w' bt g):=λw' h=>hN.fr h.1 (hN.ue hD.1 (by decide) (by decide) (by decide) (by decide) (by decide) (by decide));have HDice:Hid (∀w',Jx w bx ad n cap w'->∃at2,bZ w' bx ad n cap at2):=λw' h=>h.pQ hD.2.2.1 hD.2.2.2 hnb';have Hmk:Hid (∀w',Jx w bx ad n cap w'->w'.cell? ⟨bt,1922+k,none⟩=some (.slice (some ⟨g.gm k,0,none⟩) (g.mem k).length (g.kF k))/\(∀r,r<(g.mem k).length->lD w' (g.gm k) (r*84))/\(∀r,r<(g.mem k).length->iN w' (g.gm k) (r*84)=cq (ig (g.mem k) r))/\∃at2,bZ w' bx ad n cap at2):=λw' h=>
  ⟨((HJ.out w' h).pE hk).1,((HJ.out w' h).pE hk).2.1,((HJ.out w' h).pE hk).2.2,HDice.out w' h⟩
 have HNext:Hid (∀W,(∃at2,bZ W bx ad n cap at2)->Calls aa.prog 14 #[.pointer (some ⟨bx,0,none⟩),.int .i64 (g.mem k).length] W λe w'=>∃(r at2:Nat),e=.returned (.int .i64 r)/\r<(g.mem k).length/\bZ w' bx ad n cap at2/\W.grownBy w' (some bx)):=by
  rintro W ⟨a,hW⟩;refine (pU bx ad n cap a (g.mem k).length W hW hnb' (by omega) (by omega)).mono ?_;rintro e w' ⟨r,at2,rfl,hr,hd,_,hg,hz⟩;exact⟨r,at2,rfl,by omega,hd,hg⟩
 have J0:Hid (Jx w bx ad n cap w):=Jx.start hD;have HI:Hid _:=hI;have HKA:Hid _:=hK;have k3:(k:Int)<3:=by omega
 have k0:(0:Int)<=(k:Int):=by omega
 have hi4:(i:Int)<4:=by have:=hI.bA;omega
 have hi0:(0:Int)<=(i:Int):=by omega
 have hin:(i:Int)<(g.nr:Int):=by omega
 have hbx:bx<w.heap.size:=(Array.getElem?_eq_some_iff.1 hD.1).1;have hz:=aa.zy;have hst:=E6;have hL30:=hL.2;have HD0:Hid _:=hD;have HN0:Hid _:=hN;clear hD hI hK hN hL;generalize hgk:g.gm k=gk at*;generalize hck:g.kF k=ck at*;have HGK:Hid _:=And.intro hgk hck;clear hgk hck;go_enter aa.func25,aa.ntmps25;go_wp2;go_cut [9] from 13 to 30 (λpv wx=>∃p r,pv=.pointer (some ⟨p,0,none⟩)/\w.heap.size<=p/\r<(g.mem k).length/\wx.heap[p]?=some (.cells (cq (ig (g.mem k) r)).toArray 74)/\Jx w bx ad n cap wx)
 case first=>
  go_region_held3 (λw'=>w'.cell? ⟨bt,1922+k,none⟩=some (.slice (some ⟨gk,0,none⟩) (g.mem k).length ck)/\(∀r,r<(g.mem k).length->lD w' gk (r*84))/\(∀r,r<(g.mem k).length->iN w' gk (r*84)=cq (ig (g.mem k) r))/\∃at2,bZ w' bx ad n cap at2)
   ((refine Hmk.out _ ?_;first|(simp (maxDischargeDepth:=12) [Jx.drew,Jx.alloc,Jx.setCells,J0.out];done)|(simp (maxDischargeDepth:=12) [Jx.drew,Jx.alloc,Jx.setCells,J1,z1];done)))
   (first|(go_at_call 14;refine By (HNext.out _ (by go_split_ands;assumption)) ?_;rintro e w1 ⟨r,at2,rfl,hr,hd,hg⟩;(try (have aV:=FC (w:=w) hg hbx;have hs1:=yl iB aV));have J1:Jx w bx ad n cap w1:=Jx.next (by simp (maxDischargeDepth:=12) [Jx.drew,Jx.alloc,J0.out]) hg hd;have z1:=J1.1.size;clear hd hg))
  ·go_wp2_with fail;go_meet;exact⟨w1.heap.size,r,rfl,z1,hr,te iB (BY w1 _) _,(J1.alloc _).setCells z1 _ _⟩
  ·go_wp2_with fail;go_meet;exact⟨w.heap.size,r,rfl,iR _,hr,te iB aV _,J1.setCells (iR _) _ _⟩
 case rest=>
  obtain⟨p,r,rfl,hp,hr,hpc,hJ⟩:=hcut;have HP:Hid _:=hpc;have HJC:Hid _:=hJ;have NC:Hid _:=HJ.out _ hJ;have KC:Hid (dY wc ks):=HKA.out.below hB0 (hJ.toBelow hB);have HM:Hid (Good g.ws k (ig (g.mem k) r).1 (ig (g.mem k) r).2):=HI.out.jQ k _ hk (by rw[vK _ _ hr];exact Xe hr);clear hpc hJ Hmk HNext hst hz;generalize ig (g.mem k) r=m at*;obtain⟨wad,wcap,hwv⟩:=qE NC.out.hw;have t1:wc.cell? ⟨bt,1,none⟩=some (.slice wad g.ws.length wcap):=by rw[(al NC.out.hT).1,NC.out.h1,hwv]
  have HWV:Hid _:=hwv;have hlen80:g.ws.length<=80:=HI.out.hlen;clear hwv;generalize hF:(λj=>(g.kn i k j&&!g.go i k j)&&m.2 j)=F;have HF:Hid (∀j,F j=((g.kn i k j&&!g.go i k j)&&m.2 j)):=λj=>by rw[<-hF]
  have HFF:Hid _:=hF;clear hF;go_wp2;go_loop [10,11] (λsv iv=>∃j:Nat,j<=g.ws.length/\iv=.int .i64 j/\sv=.bool (gb F j)) (λ_ iv=>g.ws.length-(intOf iv).toNat)
  case atStart=>exact⟨0,by omega,rfl,rfl⟩
  case round=>
   obtain⟨j,hj,rfl,hsv⟩:=hrel;by_cases hjl:j<g.ws.length
   ·have j1:(j:Int)<(g.ws.length:Int):=by omega
    have j80:(j:Int)<80:=by omega
    have j0:(0:Int)<=(j:Int):=by omega
    have hi4':i<4:=by omega
    have kc:wc.cell? ⟨bt,2+i*240+k*80+j,none⟩=some (.bool (g.kn i k j)):=by rw[(al NC.out.hT).1];exact NC.out.aV i k j hi4' hk (by omega)
    have gc:wc.cell? ⟨bt,962+i*240+k*80+j,none⟩=some (.bool (g.go i k j)):=by rw[(al NC.out.hT).1];exact NC.out.hgo i k j hi4' hk (by omega)
    have mc:wc.cell? ⟨p,4+j,none⟩=some (.bool (m.2 j)):=by rw[(al HP.out).1];exact pH m j (by omega)
    have hFj:=HF.out j;have HA:Hid (gb F (j+1)=(gb F j||F j)):=rfl;cases hs:gb F j with
    |true=>
     rw[hs]at hsv HA;subst hsv;go_wp2;exact⟨⟨j+1,by omega,by go_num,by rw[HA.out];rfl⟩,by simp[intOf];omega⟩
    |false=>
     rw[hs]at hsv HA;subst hsv;cases h1:g.kn i k j with
     |false=>
      rw[h1]at kc hFj;have HA2:Hid (gb F (j+1)=false):=by show _=_;rw[HA.out,hFj];rfl
      clear hFj;go_wp2;exact⟨⟨j+1,by omega,by go_num,by rw[HA2.out]⟩,by simp[intOf];omega⟩
     |true=>
      rw[h1]at kc hFj;cases h2:g.go i k j with
      |true=>
       rw[h2]at gc hFj;have HA2:Hid (gb F (j+1)=false):=by show _=_;rw[HA.out,hFj];rfl
       clear hFj;go_wp2;exact⟨⟨j+1,by omega,by go_num,by rw[HA2.out]⟩,by simp[intOf];omega⟩
      |false=>
       rw[h2]at gc hFj;have HA2:Hid (gb F (j+1)=m.2 j):=by show _=_;rw[HA.out,hFj];rfl
       clear hFj;go_wp2;exact⟨⟨j+1,by omega,by go_num,by rw[HA2.out]⟩,by simp[intOf];omega⟩
   ·obtain rfl:j=g.ws.length:=by omega
    subst hsv;go_wp2;have HDel:Hid (∀s,gb F g.ws.length=s->∀W,Below wc.heap.size wc W->Calls aa.prog 23 #[.pointer (some ⟨g.b i,0,none⟩),.string (ks k),c9 m.1] W λe w'=>e=.returned (.int .i64 (if s=true then 0 else 5))/\W.grownBy w' (some (g.bm i (ay (ks k))))/\(s=false->Below W.heap.size W w')/\(s=true->aB w' (g.b i) (g.bm i) i (bD (g.K i) (ks k) (aZ (g.K i (ks k)).1 m.1,aW (g.K i (ks k)).2 m.1)))):=λs hs W hW=>
     UT NC.out HI.out (KC.out) hi hk HM.out s (by rw[HFF.out];exact hs) W hW
    have hmap:=NC.out.map hi (eU (ks k));have hcell:Hid (∀w',Fr (λb=>b=g.bm i (ay (ks k))) wc w'->w'.cell? ⟨bt,0,none⟩=some (.slice (some ⟨g.br,0,none⟩) g.nr g.bS)/\w'.cell? ⟨g.br,i,none⟩=some (.pointer (some ⟨g.b i,0,none⟩))/\w'.cell? ⟨0,k,none⟩=some (.string (ks k))/\w'.cell? ⟨p,0,none⟩=some (.int .i64 (m.1 0))/\w'.cell? ⟨p,1,none⟩=some (.int .i64 (m.1 1))/\w'.cell? ⟨p,2,none⟩=some (.int .i64 (m.1 2))/\w'.cell? ⟨p,3,none⟩=some (.int .i64 (m.1 3))):=λw' h=>by
     obtain⟨es,clock,hm⟩:=hmap;have ne:∀{b C t},wc.heap[b]?=some (.cells C t)->¬b=g.bm i (ay (ks k)):=λh e=>by rw[e,hm]at h;cases h
     have hp:=(al HP.out).1;refine⟨h.cell (by rw[(al NC.out.hT).1];exact NC.out.h0) (ne NC.out.hT),h.cell (by rw[(al NC.out.hR).1];exact NC.out.fh i hi) (ne NC.out.hR),h.cell (KC.out.cell k hk) (λe=>?_),h.cell (hp 0) (ne HP.out),h.cell (hp 1) (ne HP.out),h.cell (hp 2) (ne HP.out),h.cell (hp 3) (ne HP.out)⟩
     have:=NC.out.hB.2 i _ hi (eU (ks k));omega
    have hnr4:g.nr<=4:=HI.out.bA.2;have F0:Hid (Fr (λb=>b=g.bm i (ay (ks k))) wc wc):=Fr.refl _ _;cases hs:gb F g.ws.length with
    |false=>
     have HD:=HDel.out _ hs;have HDD:Hid _:=HD;clear HD HDel;go_wp2_with fail;go_region_held3 (λw'=>w'.cell? ⟨bt,0,none⟩=some (.slice (some ⟨g.br,0,none⟩) g.nr g.bS)/\w'.cell? ⟨g.br,i,none⟩=some (.pointer (some ⟨g.b i,0,none⟩))/\w'.cell? ⟨0,k,none⟩=some (.string (ks k))/\w'.cell? ⟨p,0,none⟩=some (.int .i64 (m.1 0))/\w'.cell? ⟨p,1,none⟩=some (.int .i64 (m.1 1))/\w'.cell? ⟨p,2,none⟩=some (.int .i64 (m.1 2))/\w'.cell? ⟨p,3,none⟩=some (.int .i64 (m.1 3)))
      ((refine hcell.out _ ?_;first|(simp[Fr.drew,F0.out];done)|(simp[Fr.drew,F1];done)))
      (first|(go_at_call 23;refine By (HDD.out _ (by simp[AT,IT])) ?_;rintro e w1 ⟨rfl,hg1,hbel,hrep1⟩;have F1:Fr (λb=>b=g.bm i (ay (ks k))) wc w1:=Fr.grown (Fr.drew F0.out) hg1 (λb e _=>by cases e;rfl);have HB1:Hid (Below wc.drew.heap.size wc.drew w1):=hbel (by first|exact trivial|rfl);clear hg1 hbel hrep1))
     go_wp2;go_ret;have JF:=(Jx.drew HJC.out).below HB1.out;exact⟨rfl,JF.toBelow hB,g,rfl,HJ.out _ JF,HI.out,HDice.out _ JF⟩
    |true=>
     have HD:=HDel.out _ hs;have HDD:Hid _:=HD;clear HD HDel;go_wp2_with fail;go_region_held3 (λw'=>w'.cell? ⟨bt,0,none⟩=some (.slice (some ⟨g.br,0,none⟩) g.nr g.bS)/\w'.cell? ⟨g.br,i,none⟩=some (.pointer (some ⟨g.b i,0,none⟩))/\w'.cell? ⟨0,k,none⟩=some (.string (ks k))/\w'.cell? ⟨p,0,none⟩=some (.int .i64 (m.1 0))/\w'.cell? ⟨p,1,none⟩=some (.int .i64 (m.1 1))/\w'.cell? ⟨p,2,none⟩=some (.int .i64 (m.1 2))/\w'.cell? ⟨p,3,none⟩=some (.int .i64 (m.1 3)))
      ((refine hcell.out _ ?_;first|(simp[Fr.drew,F0.out];done)|(simp[Fr.drew,F1];done)))
      (first|(go_at_call 23;refine By (HDD.out _ (by simp[AT,IT])) ?_;rintro e w1 ⟨rfl,hg1,hbel,hrep1⟩;have F1:Fr (λb=>b=g.bm i (ay (ks k))) wc w1:=Fr.grown (Fr.drew F0.out) hg1 (λb e _=>by cases e;rfl);have HR1:Hid (aB w1 (g.b i) (g.bm i) i (bD (g.K i) (ks k) (aZ (g.K i (ks k)).1 m.1,aW (g.K i (ks k)).2 m.1))):=hrep1 (by first|exact trivial|rfl);clear hg1 hbel hrep1))
     have hm':=hmap;obtain⟨es,clock,hmp⟩:=hm';have T1:Hid (w1.heap[bt]?=some (.cells g.A 42)):=F1.heap NC.out.hT (λe=>by have:=NC.out.hT;rw[e,hmp]at this;cases this);have P1:Hid (w1.heap[p]?=some (.cells (cq m).toArray 74)):=F1.heap HP.out (λe=>by have:=HP.out;rw[e,hmp]at this;cases this);have HF1:Hid _:=F1;have hi4n:i<4:=by omega
     have hAs:=NC.out.hA;obtain⟨r1,q1⟩:=ju (w:=w1) (b:=bt) (o:=962+i*240+k*80) (s:=g.go i k) (λj hj=>by rw[(al T1.out).1];exact NC.out.hgo i k j hi4n hk hj);obtain⟨r2,q2⟩:=ju (w:=w1) (b:=p) (o:=4) (s:=m.2) (λj hj=>by rw[(al P1.out).1];exact pH m j hj);clear F1 hmp hmap;go_wp2;go_cut [] from 88 to 106 (λwx=>∃A1,wx.heap[bt]?=some (.cells A1 42)/\A1.size=1939/\(∀j,j<80->A1[962+i*240+k*80+j]?=some (.bool (g.go i k j||m.2 j)))/\(∀j,(j<962+i*240+k*80\/962+i*240+k*80+80<=j)->A1[j]?=g.A[j]?)/\Fr (λb=>b=bt) w1 wx)
     case first=>
      go_region_with (first|(go_at_call 45;refine (qi (g.go i k) m.2 _).mono ?_;rintro e w2 ⟨rfl,hb2⟩;have B2:=mA (w0:=w1) hb2 rfl rfl rfl rfl;have T2:=aQ T1.out B2;have t2:kJ w2 bt (962+i*240+k*80):=pS T2 (by omega);have HT2:Hid _:=T2;have HB2:Hid _:=B2;clear hb2 B2 T2))
      all_goals
       go_wp2_with fail;go_meet;obtain⟨A1,a1,a2,a3,a4⟩:=pP HT2.out (show 962+i*240+k*80+80<=g.A.size by omega) (λj=>g.go i k j||m.2 j);exact⟨A1,a1,by rw[a2];exact hAs,a3,a4,Fr.setCells (X:=λb=>b=bt) (Fr.iY HB2.out) (Or.inr rfl) _ _⟩
     case rest=>
      obtain⟨A1,a1,a2,a3,a4,a5⟩:=hcut;have HA1:Hid _:=And.intro a1 (And.intro a2 (And.intro a3 (And.intro a4 a5)));have P2:Hid _:=a5.heap P1.out (λe=>by have:=P1.out;rw[e,T1.out]at this;exact absurd (eu this) (by decide));clear r1 q1 r2 q2;obtain⟨r1,q1⟩:=ju (w:=wc) (b:=bt) (o:=2+i*240+k*80) (s:=g.kn i k) (λj hj=>by rw[(al a1).1,a4 _ (by omega)];exact NC.out.aV i k j hi4n hk hj);obtain⟨r2,q2⟩:=ju (w:=wc) (b:=p) (o:=4) (s:=m.2) (λj hj=>by rw[(al P2.out).1];exact pH m j hj);clear a1 a3 a4 a5;go_wp2;go_cut [] from 106 to 124 (λwx=>∃A2,wx.heap[bt]?=some (.cells A2 42)/\A2.size=1939/\(∀j,j<80->A2[2+i*240+k*80+j]?=some (.bool (g.kn i k j||m.2 j)))/\(∀j,(j<2+i*240+k*80\/2+i*240+k*80+80<=j)->A2[j]?=A1[j]?)/\Fr (λb=>b=bt) w1 wx)
      case first=>
       go_region_with (first|(go_at_call 45;refine (qi (g.kn i k) m.2 _).mono ?_;rintro e w2 ⟨rfl,hb2⟩;have B2:=mA (w0:=wc) hb2 rfl rfl rfl rfl;have T2:=aQ HA1.out.1 B2;have t2:kJ w2 bt (2+i*240+k*80):=pS T2 (by omega);have HT2:Hid _:=T2;have HB2:Hid _:=B2;clear hb2 B2 T2))
       all_goals
        go_wp2_with fail;go_meet;obtain⟨A2,b1,b2,b3,b4⟩:=pP HT2.out (show 2+i*240+k*80+80<=A1.size by omega) (λj=>g.kn i k j||m.2 j);exact⟨A2,b1,by rw[b2];exact a2,b3,b4,Fr.setCells (X:=λb=>b=bt) (HA1.out.2.2.2.2.below HB2.out) (Or.inr rfl) _ _⟩
      case rest=>
       have HC:Hid _:=hcut;clear hcut r1 q1 r2 q2;go_wp2;go_ret;obtain⟨A2,b1,b2,b3,b4,b5⟩:=HC.out;obtain⟨_,_,a3,a4,_⟩:=HA1.out;obtain⟨hd1,hd2,hd3⟩:=QG HN0.out HJC.out NC.out HD0.out hB hnb hi hi4n hk HF1.out b5 T1.out b1 b2 HR1.out (λj hj=>by rw[b4 _ (by omega)];exact a3 j hj) b3 (λq h1 h2=>by rw[b4 q h1,a4 q h2]);exact⟨rfl,hd1,g.gH ks i k m A2,rfl,hd2,HI.out.gH KC.out.ne A2 hi hk HM.out,hd3⟩
end
section
attribute [local go_sem ↓] vw yD Yn Yo
attribute [local go_sem] tD qV yB uK vA uJ xZ
def gL(f:Nat->Nat->Bool):Array Value:=((List.range 240).map λq=>Value.bool (f (q / 80) (q%80))).toArray
theorem CD(f:Nat->Nat->Bool):(gL f).size=240:=by simp[gL]
theorem EC{f:Nat->Nat->Bool}{j:Nat}(hk:k<3)(hj:j<80):(gL f)[k*80+j]?=some (.bool (f k j)):=by
 have h1:k*80+j<240:=by omega
 have h2:(k*80+j) / 80=k:=by omega
 have h3:(k*80+j)%80=j:=by omega
 simp[gL,h1,h2,h3]
def cO(t:Nat->Bool)(n:Nat)(a b:Nat->Nat->Bool)(k j:Nat):Bool:=if k<n/\t k=true then a k j||b k j else a k j
structure gz(A A':Array Value)(i n m:Nat)(t:Nat->Bool)(a b ka kb:Nat->Nat->Bool):Prop where
 size:A'.size=A.size
 kn:∀k j,k<3->j<80->A'[2+i*240+k*80+j]?=some (.bool (cO t m a ka k j))
 go:∀k j,k<3->j<80->A'[962+i*240+k*80+j]?=some (.bool (cO t n b kb k j))
 other:∀q,(q<2+i*240\/2+i*240+240<=q)->(q<962+i*240\/962+i*240+240<=q)->A'[q]?=A[q]?
theorem Ea{n:Nat}(h:t n=true)(k j:Nat):cO t (n+1) a b k j=if k=n then a k j||b k j else cO t n a b k j:=by
 unfold cO;by_cases e:k=n
 ·subst e;simp[h]
 ·rw[AI e];by_cases hl:k<n
  ·simp[hl,Nat.lt_succ_of_lt hl]
  ·have: ¬k<n+1:=by omega
   simp[hl,this]
theorem FU{n:Nat}(h:t n=false)(k j:Nat):cO t (n+1) a b k j=cO t n a b k j:=by
 unfold cO;by_cases e:k=n
 ·subst e;simp[h]
 ·by_cases hl:k<n
  ·simp[hl,Nat.lt_succ_of_lt hl]
  ·have: ¬k<n+1:=by omega
   simp[hl,this]
theorem EJ{n:Nat}(j:Nat):cO t n a b n j=a n j:=by simp[cO]
theorem gz.OM{n:Nat}(h:gz A A' i n n t a b ka kb)(hn:n<3)(hi:i<4)(ht:t n=true)(h1:A2.size=A'.size)(h2:∀j,j<80->A2[2+i*240+n*80+j]?=some (.bool (a n j||ka n j)))(h3:∀j,(j<2+i*240+n*80\/2+i*240+n*80+80<=j)->A2[j]?=A'[j]?):gz A A2 i n (n+1) t a b ka kb where
 size:=h1.trans h.size
 kn:=λk j hk hj=>by
  rw[Ea ht];by_cases e:k=n
  ·subst e;rw[AS rfl];exact h2 j hj
  ·rw[AI e,h3 _ (by omega)];exact h.kn k j hk hj
 go:=λk j hk hj=>by rw[h3 _ (by omega)];exact h.go k j hk hj
 other:=λq q1 q2=>by rw[h3 _ (by omega)];exact h.other q q1 q2
theorem gz.L0{n:Nat}(h:gz A A' i n (n+1) t a b ka kb)(hn:n<3)(hi:i<4)(ht:t n=true)(h1:A2.size=A'.size)(h2:∀j,j<80->A2[962+i*240+n*80+j]?=some (.bool (b n j||kb n j)))(h3:∀j,(j<962+i*240+n*80\/962+i*240+n*80+80<=j)->A2[j]?=A'[j]?):gz A A2 i (n+1) (n+1) t a b ka kb where
 size:=h1.trans h.size
 kn:=λk j hk hj=>by rw[h3 _ (by omega)];exact h.kn k j hk hj
 go:=λk j hk hj=>by
  rw[Ea ht];by_cases e:k=n
  ·subst e;rw[AS rfl];exact h2 j hj
  ·rw[AI e,h3 _ (by omega)];exact h.go k j hk hj
 other:=λq q1 q2=>by rw[h3 _ (by omega)];exact h.other q q1 q2
theorem gz.Nk{n:Nat}(h:gz A A' i n n t a b ka kb)(ht:t n=false):gz A A' i (n+1) (n+1) t a b ka kb where
 size:=h.size
 kn:=λk j hk hj=>by rw[FU ht];exact h.kn k j hk hj
 go:=λk j hk hj=>by rw[FU ht];exact h.go k j hk hj
 other:=h.other
structure uF(w:World)(bt i n:Nat)(A:Array Value)(t:Nat->Bool)(a b ka kb:Nat->Nat->Bool)(W:World):Prop where
 x1:W.heap[w.heap.size]?=some (.cells (b3 t) 82)
 x2:W.heap[w.heap.size+1]?=some (.cells (gL ka) 34)
 x3:W.heap[w.heap.size+2]?=some (.cells (gL kb) 34)
 dy: ∃A',W.heap[bt]?=some (.cells A' 42)/\gz A A' i n n t a b ka kb
 fr:Fr (λq=>q=bt) w W
theorem WI(bt i kk:Nat)(A:Array Value)(t:Nat->Bool)(a b ka kb:Nat->Nat->Bool)(w:World)(hT:w.heap[bt]?=some (.cells A 42))(hA:A.size=1939)(hi:i<4)(aV:∀k j,k<3->j<80->A[2+i*240+k*80+j]?=some (.bool (a k j)))(hgo:∀k j,k<3->j<80->A[962+i*240+k*80+j]?=some (.bool (b k j))):
  Calls aa.prog 31 #[.pointer (some ⟨bt,0,none⟩),.int .i64 i,.int .i64 kk,.agg (b3 t),.agg (gL ka),.agg (gL kb)] w λe w'=>e=.returned (.tuple #[])/\∃A',w'.heap[bt]?=some (.cells A' 42)/\gz A A' i 3 3 t a b ka kb/\Fr (λq=>q=bt) w w':=by
 have hbt:bt<w.heap.size:=(Array.getElem?_eq_some_iff.1 hT).1;have HJ0:Hid (uF w bt i 0 A t a b ka kb (((w.alloc (.cells (b3 t) 82)).alloc (.cells (gL ka) 34)).alloc (.cells (gL kb) 34))):=by
  refine⟨um w _ _ _,by simpa using yG w _ _ _,qe w _ _ _,⟨A,?_,rfl,λk j hk hj=>by rw[aV k j hk hj];simp[cO],λk j hk hj=>by rw[hgo k j hk hj];simp[cO],λ_ _ _=>rfl⟩,(((Fr.refl _ _).alloc _).alloc _).alloc _⟩;rw[OF _ _ _ (by simp;omega),OF _ _ _ (by simp;omega),OF _ _ _ hbt];exact hT
 have i4:(i:Int)<4:=by omega
 have i0:(0:Int)<=(i:Int):=by omega
 have z1:=CD ka;have z2:=CD kb;have HA:Hid (A.size=1939):=hA;clear hT aV hgo hA;go_enter aa.func31,aa.ntmps31;go_wp2;go_loopw [12] (λiv wr=>∃n:Nat,n<=3/\iv=.int .i64 n/\Hid (uF w bt i n A t a b ka kb wr)) (λiv _=>3-(intOf iv).toNat)
 case atStart=>exact⟨0,by omega,rfl,HJ0.out⟩
 case round=>
  obtain⟨n,hn,rfl,HJ⟩:=hrel;clear HJ0;by_cases hlt:n<3
  ·have n3:(n:Int)<3:=by omega
   have n0:(0:Int)<=(n:Int):=by omega
   have ct:wr.cell? ⟨w.heap.size,n,none⟩=some (.bool (t n)):=by rw[(al HJ.out.x1).1,GK hlt]
   cases htn:t n with
   |false=>
    rw[htn]at ct;have HN:Hid (uF w bt i (n+1) A t a b ka kb wr):=(by
     obtain⟨x1,x2,x3,⟨A',h1,h2⟩,h3⟩:=HJ.out;exact⟨x1,x2,x3,⟨A',h1,h2.Nk htn⟩,h3⟩)
    clear HJ;go_wp2;exact⟨⟨n+1,by omega,by go_num,HN.out⟩,by simp[intOf];omega⟩
   |true=>
    rw[htn]at ct;obtain⟨A1,hT1,hA1⟩:=HJ.out.dy;have HT1:Hid (wr.heap[bt]?=some (.cells A1 42)):=hT1;have HL1:Hid (gz A A1 i n n t a b ka kb):=hA1;have hs1:A1.size=1939:=hA1.size.trans HA.out;obtain⟨r1,q1⟩:=ju (w:=wr) (b:=bt) (o:=2+i*240+n*80) (s:=a n) (λj hj=>by rw[(al hT1).1,hA1.kn n j hlt hj,EJ]);obtain⟨r2,q2⟩:=ju (w:=wr) (b:=w.heap.size+1) (o:=n*80) (s:=ka n) (λj hj=>by rw[(al HJ.out.x2).1];exact EC hlt hj);clear hT1 hA1;go_wp2;go_cut [] from 20 to 39 (λwx=>∃A2,wx.heap[bt]?=some (.cells A2 42)/\A2.size=A1.size/\(∀j,j<80->A2[2+i*240+n*80+j]?=some (.bool (a n j||ka n j)))/\(∀j,(j<2+i*240+n*80\/2+i*240+n*80+80<=j)->A2[j]?=A1[j]?)/\Fr (λq=>q=bt) wr wx)
    case first=>
     go_region_with (first|(go_at_call 45;refine (qi (a n) (ka n) _).mono ?_;rintro e w2 ⟨rfl,hb2⟩;have B2:=mA (w0:=wr) hb2 rfl rfl rfl rfl;have T2:=aQ HT1.out B2;have t2:kJ w2 bt (2+i*240+n*80):=pS T2 (by omega);have HT2:Hid _:=T2;have HB2:Hid _:=B2;clear hb2 B2 T2))
     all_goals
      go_wp2_with fail;go_meet;obtain⟨A2,b1,b2,b3,b4⟩:=pP HT2.out (show 2+i*240+n*80+80<=A1.size by omega) (λj=>a n j||ka n j);exact⟨A2,b1,b2,b3,b4,Fr.setCells (X:=λq=>q=bt) (Fr.iY HB2.out) (Or.inr rfl) _ _⟩
    case rest=>
     obtain⟨A2,e1,e2,e3,e4,e5⟩:=hcut;have hL2:=HL1.out.OM hlt hi htn e2 e3 e4;have HT2:Hid (wc.heap[bt]?=some (.cells A2 42)):=e1;have HL2:Hid (gz A A2 i n (n+1) t a b ka kb):=hL2;have HF2:Hid (Fr (λq=>q=bt) wr wc):=e5;have hs2:A2.size=1939:=e2.trans hs1;have hX:Hid (∀{q C ty},w.heap.size<=q->wr.heap[q]?=some (.cells C ty)->wc.heap[q]?=some (.cells C ty)):=λ{q C ty} hq h=>e5.heap h (by show ¬q=bt;omega);clear r1 q1 r2 q2;obtain⟨r1,q1⟩:=ju (w:=wc) (b:=bt) (o:=962+i*240+n*80) (s:=b n) (λj hj=>by rw[(al e1).1,hL2.go n j hlt hj,EJ]);obtain⟨r2,q2⟩:=ju (w:=wc) (b:=w.heap.size+1+1) (o:=n*80) (s:=kb n) (λj hj=>by rw[(al (hX.out (by omega) HJ.out.x3)).1];exact EC hlt hj);clear e1 e2 e3 e4 e5 hL2;go_wp2;have HFin:Hid (∀w2,Below wc.heap.size wc w2->uF w bt i (n+1) A t a b ka kb (w2.setCells bt (962+i*240+n*80) (bits λj=>b n j||kb n j).toList)):=λw2 hb2=>by
      obtain⟨A3,b1,b2,b3,b4⟩:=pP (aQ HT2.out hb2) (show 962+i*240+n*80+80<=A2.size by omega) (λj=>b n j||kb n j);have e5:Fr (λq=>q=bt) wr (w2.setCells bt (962+i*240+n*80) (bits λj=>b n j||kb n j).toList):=Fr.setCells (X:=λq=>q=bt) (HF2.out.below hb2) (Or.inr rfl) _ _;have dO:∀{q:Nat} {C:Array Value} {ty:TypeId},w.heap.size<=q->wr.heap[q]?=some (.cells C ty)->(w2.setCells bt (962+i*240+n*80) (bits λj=>b n j||kb n j).toList).heap[q]?=some (.cells C ty):=λ{q C ty} hq h=>e5.heap h (by show ¬q=bt;omega);exact⟨dO (iR _) HJ.out.x1,dO (by omega) HJ.out.x2,dO (by omega) HJ.out.x3,⟨A3,b1,HL2.out.L0 hlt hi htn b2 b3 b4⟩,HJ.out.fr.trans e5⟩
     clear HJ HL1 HL2 HF2 hX;go_region_with (first|(go_at_call 45;refine (qi (b n) (kb n) _).mono ?_;rintro e w2 ⟨rfl,hb2⟩;have B2:=mA (w0:=wc) hb2 rfl rfl rfl rfl;have t2:kJ w2 bt (962+i*240+n*80):=pS (aQ HT2.out B2) (by omega);have HB2:Hid (Below wc.heap.size wc w2):=B2;clear hb2 B2))
     all_goals
      go_wp2_with fail;exact⟨⟨n+1,by omega,by go_num,HFin.out _ HB2.out⟩,by simp[intOf];omega⟩
  ·obtain rfl:n=3:=by omega
   go_wp2;go_end0;obtain⟨A',h1,h2⟩:=HJ.out.dy;exact⟨rfl,A',h1,h2,HJ.out.fr⟩
end
end Go.Proofs.YtldmcdeibiclkaaGreatDoorQ
namespace Go.Proofs.YtldmcdeibiclkaaGreatDoorQ
variable {m lev:Nat}{ns:List Nat}
section
def jR(K:aw)(n:Nat)(L:List (List UInt8)):Prop:=L.Pairwise (λa b=>a<b)/\∀x,x∈L↔ay (dR x)=n/\cF (K (dR x)).1
theorem jR.unique{K:aw}{n:Nat}:∀{L M:List (List UInt8)},L.Pairwise (λa b=>a<b)->M.Pairwise (λa b=>a<b)->(∀x,x∈L↔x∈M)->L=M
 |[],[],_,_,_=>rfl
 |[],y::b,_,_,h=>by have:=(h y).2 (by simp);cases this
 |x::a,[],_,_,h=>by have:=(h x).1 (by simp);cases this
 |x::a,y::b,ha,hb,h=>by
  have ha':=List.pairwise_cons.1 ha;have hb':=List.pairwise_cons.1 hb;have e:x=y:=by
   rcases YQ.1 ((h x).1 (by simp)) with e|hx
   ·exact e
   ·rcases YQ.1 ((h y).2 (by simp)) with e|hy
    ·exact e.symm
    ·exact absurd (ha'.1 y hy) (List.lt_asymm (hb'.1 x hx))
  subst e;congr 1;refine jR.unique (K:=K) (n:=n) ha'.2 hb'.2 λv=>⟨λhv=>?_,λhv=>?_⟩
  ·rcases YQ.1 ((h v).1 (by simp[hv])) with e|h'
   ·subst e;exact absurd (ha'.1 v hv) (List.lt_irrefl _)
   ·exact h'
  ·rcases YQ.1 ((h v).2 (by simp[hv])) with e|h'
   ·subst e;exact absurd (hb'.1 v hv) (List.lt_irrefl _)
   ·exact h'
open Classical in
noncomputable def lL(K:aw)(n:Nat):List (List UInt8):=if h: ∃L,jR K n L then h.choose else []
theorem wO{K:aw}{n:Nat}{L:List (List UInt8)}(h:jR K n L):lL K n=L:=by
 have hex: ∃L,jR K n L:=⟨L,h⟩
 unfold lL;rw[dif_pos hex];have hc:=hex.choose_spec;exact jR.unique (K:=K) (n:=n) hc.1 h.1 λx=>by rw[hc.2,h.2]
noncomputable def j5(K:aw)(n:Nat):List ai:=(lL K n).map λx=>(dR x,(K (dR x)).1,(K (dR x)).2)
noncomputable def aJ(K:aw)(n:Nat):ByteArray:=kU (j5 K n)
noncomputable def aS(K:aw)(lv n:Nat):Int:=dg (aJ K) (3-lv) n
noncomputable def cE(K:aw)(ns:List Nat):List (Nat×List ai):=ns.map λn=>(n,j5 K n)
noncomputable def dZ(K:aw)(lev:Nat)(ns:List Nat):List Nd:=ns.map λn=>(n,λi=>if i<4 then aS K (lev+1) (n*4+i) else 0)
theorem DW{w:World}{n:Nat}{K:aw}(h:oM w m n K){s:ByteArray}(hs:ay s=n):cH (cM w m) s≠none↔cF (K s).1:=by
 obtain⟨es,clock,e1,e2,e3,e4,e5⟩:=h;have hes:cM w m=es.toList:=by simp[cM,e1]
 rw[hes];refine⟨e5 s,λhk hn=>?_⟩;obtain⟨sv,h1,_⟩:=e3 s hs;rw[hn]at h1;obtain⟨i,hi,hne⟩:=hk;simp only[Option.getD_none,lU,bL]at h1;injection h1 with h1;have hz:∀(j:Nat) (x:Value),(#[Value.int .i64 0,.int .i64 0,.int .i64 0,.int .i64 0,.slice none 0 0]:Array Value)[j]?=some x->(#[Value.int .i64 ((K s).1 0),.int .i64 ((K s).1 1),.int .i64 ((K s).1 2),.int .i64 ((K s).1 3),sv]:Array Value)[j]?=some x:=λj x hx=>by rw[<-h1];exact hx
 rcases fp hi with rfl|rfl|rfl|rfl
 ·have:=hz 0 _ rfl;simp at this;exact hne this
 ·have:=hz 1 _ rfl;simp at this;exact hne this
 ·have:=hz 2 _ rfl;simp at this;exact hne this
 ·have:=hz 3 _ rfl;simp at this;exact hne this
theorem oM.names{w:World}{n:Nat}{K:aw}(h:oM w m n K):jR K n (fg (de (cM w m))):=by
 have hk:=λs hs=>DW h (s:=s) hs;obtain⟨es,clock,e1,e2,e3,e4,e5⟩:=h;have hes:cM w m=es.toList:=by simp[cM,e1]
 rw[hes]at hk ⊢;refine⟨Cx e2 e4.1,λx=>⟨λhx=>?_,λhx=>?_⟩⟩
 ·have h1:=(sx e4.2.2.2 hx).1;exact⟨h1,(hk _ h1).1 (Ep e2 hx)⟩
 ·have:=MQ ((hk _ hx.1).2 hx.2) e2;simpa[dR] using this
theorem C8{w:World}{n:Nat}{K:aw}(h:oM w m n K):dF K (cM w m)=j5 K n:=by
 rw[dF,j5,wO h.names]
section
variable {w:World}{b num:Nat}{bm:Nat->Nat}{K:aw}
theorem aB.text(h:aB w b bm num K){n:Nat}(hn:n<64):dE w bm K n=aJ K n:=by rw[dE,aJ,C8 (h.2.1 n hn)]
theorem aB.aK(h:aB w b bm num K)(hns:∀n∈ns,n<64):bC w bm K ns=cE K ns:=
 XI λn hn=>by rw[C8 (h.2.1 n (hns n hn))]
theorem aB.uV(h:aB w b bm num K){lv n:Nat}(hl:lv<=3)(hn:n<4 ^ lv):bR w bm K lv n=aS K lv n:=
 xY (λk hk=>h.text hk) _ (by omega) _ (by rw[show 3-(3-lv)=lv by omega];exact hn)
theorem aB.nodes(h:aB w b bm num K)(hl:lev<3)(hn:∀n∈ns,n<4 ^ lev):gq w bm K lev ns=dZ K lev ns:=by
 refine XI λn hm=>?_;congr 1;funext i;unfold kids
 have:=hn n hm;split
 ·exact h.uV (by omega) (by rw[XH];omega)
 ·rfl
theorem aB.bJ(h:aB w b bm num K)(hl:lev<3){sg:List Nd}(hns:∀g∈sg,g.1<4 ^ lev):bJ (bR w bm K (lev+1)) sg=bJ (aS K (lev+1)) sg:=by
 have hg:∀g∈sg,dL (bR w bm K (lev+1)) g 4=dL (aS K (lev+1)) g 4:=λg hg=>by
  unfold dL;congr 1;refine YK λj hj=>?_
  have:=hns g hg;have hj':=List.mem_range.1 hj;rw[h.uV (by omega) (by rw[XH];omega)]
 exact k9 sg hg
end
noncomputable def cQ(K:aw):Let->Option Let
 |.root d=>if d=aS K 0 0 then none else some (.nodes 0 (dZ K 0 [0]))
 |.nodes lev sg=>if bJ (aS K (lev+1)) sg= [] then none else if lev=2 then some (.aK 83 (cE K (bJ (aS K (lev+1)) sg))) else some (.nodes (lev+1) (dZ K (lev+1) (bJ (aS K (lev+1)) sg)))
 |.aK kind sg=>if kind=84 then none else some (.aK 84 (cE (cm K sg) (sg.map (·.1))))
theorem Iu{w w':World}{b num:Nat}{bm:Nat->Nat}{K:aw}{L:Let}(h:aB w b bm num K)(h':aB w' b bm num (ir K L))(hok:L.Ok):yH w w' bm K L=cQ K L:=by
 cases L with
 |root d=>
  show lR w bm K d=_;simp only[lR,cQ];rw[h.uV (by omega) (by decide),h.nodes (by omega) (by simp)]
 |nodes lev sg=>
  have ho:kV lev sg:=hok;have hn:∀g∈sg,g.1<4 ^ lev:=λg hg=>(ho.num g hg).1;have hl:=ho.low;have hd:=vq (D:=aS K (lev+1)) hn;show lG w bm K lev sg=_;simp only[lG,cQ];rw[h.bJ hl hn];by_cases h0:bJ (aS K (lev+1)) sg= []
  ·rw[AS h0,AS h0]
  ·rw[AI h0,AI h0];by_cases h2:lev=2
   ·subst h2;rw[AS rfl,AS rfl,h.aK λn hn=>hd n hn]
   ·rw[AI h2,AI h2,h.nodes (by omega) hd]
 |aK kind sg=>
  show (if kind=84 then none else some (Let.aK 84 (bC w' bm (cm K sg) (sg.map (·.1)))))=_;simp only[cQ];rw[aB.aK (K:=cm K sg) h' λn hn=>?_];obtain⟨g,hg,rfl⟩:=XP.1 hn;exact (hok.2.num g hg).1
theorem ND(b num:Nat)(bm:Nat->Nat)(K:aw)(L:Let)(w:World)(h:uf b num bm K w L):
  Calls aa.prog 18 #[.pointer (some ⟨b,0,none⟩),.string L.bytes] w λe w'=>e=.returned (.tuple #[.string (iU (cQ K L)),.int .i64 0])/\aB w' b bm num (ir K L)/\Fr (λq=>iQ bm q/\∃k sg,L=.aK k sg) w w':=by
 refine (Nq b num bm K L w h).mono ?_;rintro e w' ⟨R,rfl,rfl,h1,h2⟩;exact⟨by rw[Iu h.rep h1 h.ok],h1,h2⟩
end
end Go.Proofs.YtldmcdeibiclkaaGreatDoorQ
namespace Go.Proofs.YtldmcdeibiclkaaGreatDoorQ
variable {K K':aw}{L:Let}{ks:Nat->ByteArray}{g:au}{i k l:Nat}{s:ByteArray}{w:World}{ns:List Nat}
open Go.RowKit
def cG(ks:Nat->ByteArray):Let->Nat->Bool
 |.aK _ sg,k=>decide (ay (ks k)∈sg.map (·.1))
 |_,_=>false
def l7(K:aw):Let->Prop
 |.root d=>0<=d/\d<18446744073709551616
 |.nodes lev sg=>kV lev sg
 |.aK kind sg=>(kind=83\/kind=84)/\∃ns,(1<=ns.length/\ns.length<=64)/\(∀n∈ns,n<64)/\ns.Pairwise (· < ·)/\sg=cE K ns
def mU(K:aw):Prop:=∀n,n<64->jR K n (lL K n)
theorem aB.kB{b num:Nat}{bm:Nat->Nat}(h:aB w b bm num K):mU K:=λn hn=>by
 have:=(h.2.1 n hn).names;rw[wO this];exact this
theorem rX(hN:mU K){n:Nat}(hn:n<64){r:ai}:r∈j5 K n↔ay r.1=n/\cF (K r.1).1/\r.2=K r.1:=by
 rw[j5,XP];constructor
 ·rintro⟨x,hx,rfl⟩;obtain⟨h1,h2⟩:=((hN n hn).2 x).1 hx;exact⟨h1,h2,rfl⟩
 ·rintro⟨h1,h2,h3⟩;refine⟨r.1.data.toList,((hN n hn).2 _).2 ?_,?_⟩
  ·rw[th];exact⟨h1,h2⟩
  ·rw[th];exact Prod.ext rfl h3.symm
theorem Nj(hN:mU K')(hns:∀n∈ns,n<64)(hok:ky (cE K' ns))(h1:ay s∈ns)(h2:cF (K' s).1):cm K (cE K' ns) s=lB (K s) (K' s):=
 IM hok (g:=(ay s,j5 K' (ay s))) (r:=(s,K' s)) (XP.2 ⟨_,h1,rfl⟩) ((rX hN (hns _ h1)).2 ⟨rfl,h2,rfl⟩)
theorem G4(hN:mU K')(hns:∀n∈ns,n<64)(h: ¬(ay s∈ns/\cF (K' s).1)):cm K (cE K' ns) s=K s:=by
 refine UN λg hg r hr e=>h ?_;obtain⟨n,hn,rfl⟩:=XP.1 hg;obtain⟨h1,h2,_⟩:=(rX hN (hns n hn)).1 hr;subst e;exact⟨h1▸hn,h2⟩
theorem unknown{c:Ctx}(h: ¬cF c):∀b,b<4->c b=0:=λb hb=>XD λhn=>h ⟨b,hb,hn⟩
def au.eW(g:au)(ks:Nat->ByteArray)(i k:Nat)(L:Let)(A:Array Value):au:=
 {g with
  K:=λj=>if j=i then ir (g.K i) L else g.K j
  kn:=λj l q=>if j=i then cO (cG ks L) 3 (g.kn i) (g.kn k) l q else g.kn j l q
  go:=λj l q=>if j=i then cO (cG ks L) 3 (g.go i) (g.go k) l q else g.go j l q
  A:=A}
theorem Qe(hN:mU K')(hL:l7 K' L)(hok:L.Ok)(ks:Nat->ByteArray)(l:Nat):(ir K L (ks l)=lB (K (ks l)) (K' (ks l))/\cG ks L l=true)\/(ir K L (ks l)=K (ks l)/\(cG ks L l=true->¬cF (K' (ks l)).1)):=by
 cases L with
 |root d=>exact .inr ⟨rfl,λh=>by cases h⟩
 |nodes lev sg=>exact .inr ⟨rfl,λh=>by cases h⟩
 |aK kind sg=>
  obtain⟨_,ns,h1,h2,h3,rfl⟩:=hL;have hm:(cE K' ns).map (·.1)=ns:=by rw[cE,Yd];show ns.map (λn=>n)=ns;rw[List.map_id']
  by_cases hk:ay (ks l)∈ns/\cF (K' (ks l)).1
  ·exact .inl ⟨Nj hN h2 hok.2 hk.1 hk.2,by simp only[cG,hm];exact YD hk.1⟩
  ·refine .inr ⟨G4 hN h2 hk,λht hk'=>hk ⟨?_,hk'⟩⟩;simp only[cG,hm]at ht;exact of_decide_eq_true ht
theorem Gc(hN:mU K')(hL:l7 K' L)(h: ¬cF (K' s).1):ir K L s=K s:=by
 cases L with
 |root d=>rfl
 |nodes lev sg=>rfl
 |aK kind sg=>
  obtain⟨_,ns,h1,h2,h3,rfl⟩:=hL;exact G4 hN h2 λhk=>h hk.2
theorem Gj(f:Nat->Bool):∀n,dh f n<=n
 |0=>iR _
 |n+1=>by
  have:=Gj f n;simp only[dh];split<;>omega
theorem bz.kY(hI:bz ks g)(hi:i<g.nr)(hl:l<3):gx (g.K i (ks l)).1 (g.K i (ks l)).2:=by
 rw[hI.hex i l hi hl];exact Fl hI.eF hI.hlen hI.dD (hI.cU i l hi hl)
theorem bz.Ga(hI:bz ks g)(hk:k<g.nr)(hl:l<3)(h: ¬cF (g.K k (ks l)).1):∀j,g.kn k l j=false:=λj=>by
 cases hj:g.kn k l j with
 |false=>rfl
 |true=>
  have hG:=hI.cU k l hk hl;have hlt:j<g.ws.length:=XD λhn=>by rw[hG.2.1 j (by omega)]at hj;cases hj
  have hx:g.ws[j]?=some g.ws[j]:=List.getElem?_eq_getElem hlt;have h1:=((hG.1 j _ hx).1 hj).2;have h2:=(hI.eF.le hx).1;have h3:=unknown h _ (hI.dq _ (Xe hlt));omega
theorem vn(hI:bz ks g)(hi:i<g.nr)(hk:k<g.nr)(hl:l<3)(hN:mU (g.K k))(hL:l7 (g.K k) L)(hok:L.Ok):
  Good g.ws l (ir (g.K i) L (ks l)).1 (cO (cG ks L) 3 (g.kn i) (g.kn k) l)/\(ir (g.K i) L (ks l)).2=expected g.ws (cO (cG ks L) 3 (g.kn i) (g.kn k) l) (cO (cG ks L) 3 (g.go i) (g.go k) l) l/\(ir (g.K i) L (ks l)).1 i=(g.K i (ks l)).1 i:=by
 have hGi:=hI.cU i l hi hl;have hGk:=hI.cU k l hk hl;rcases Qe (K:=g.K i) hN hL hok ks l with⟨e,ht⟩|⟨e,ht⟩
 ·have e1:cO (cG ks L) 3 (g.kn i) (g.kn k) l=λj=>g.kn i l j||g.kn k l j:=funext λj=>by simp[cO,ht,hl]
  have e2:cO (cG ks L) 3 (g.go i) (g.go k) l=λj=>g.go i l j||g.go k l j:=funext λj=>by simp[cO,ht,hl]
  rw[e,e1,e2];refine⟨hGi.join hGk,?_,?_⟩
  ·show mr _ _ _ _=_;have o1:=hI.kY hi hl;have o2:=hI.kY hk hl;rw[hI.hex i l hi hl]at o1;rw[hI.hex k l hk hl]at o2;rw[hI.hex i l hi hl,hI.hex k l hk hl];exact Ln hI.eF.num hGi hGk (λj=>hI.dH i l j hi hl) (λj=>hI.dH k l j hk hl) o1 o2
  ·have h1:=hI.aD i l hi hl;have h2:=(hGk.2.2 i).2;simp only[lB,aZ];omega
 ·have e1:cO (cG ks L) 3 (g.kn i) (g.kn k) l=g.kn i l:=funext λj=>by
   unfold cO;split
   ·rename_i h;rw[hI.Ga hk hl (ht h.2) j,Bool.or_false]
   ·rfl
  have e2:cO (cG ks L) 3 (g.go i) (g.go k) l=g.go i l:=funext λj=>by
   unfold cO;split
   ·rename_i h;have hn:=hI.Ga hk hl (ht h.2) j;have hs:g.go k l j=false:=by
     cases hg:g.go k l j with
     |false=>rfl
     |true=>rw[hI.dH k l j hk hl hg]at hn;cases hn
    rw[hs,Bool.or_false]
   ·rfl
  rw[e,e1,e2];exact⟨hGi,hI.hex i l hi hl,rfl⟩
theorem bz.eW(hI:bz ks g)(A:Array Value)(hi:i<g.nr)(hk:k<g.nr)(hN:mU (g.K k))(hL:l7 (g.K k) L)(hok:L.Ok):bz ks (g.eW ks i k L A) where
 bA:=hI.bA
 hlen:=hI.hlen
 eF:=hI.eF
 dD:=hI.dD
 dq:=hI.dq
 cU:=λj l hj hl=>by
  simp only[au.eW];by_cases e:j=i
  ·subst e;simpa using (vn hI hi hk hl hN hL hok).1
  ·simpa[e] using hI.cU j l hj hl
 aD:=λj l hj hl=>by
  simp only[au.eW];by_cases e:j=i
  ·subst e;rw[AS rfl,(vn hI hi hk hl hN hL hok).2.2];exact hI.aD j l hj hl
  ·simpa[e] using hI.aD j l hj hl
 hex:=λj l hj hl=>by
  simp only[au.eW];by_cases e:j=i
  ·subst e;simpa using (vn hI hi hk hl hN hL hok).2.1
  ·simpa[e] using hI.hex j l hj hl
 iC:=λj l q hj hl hq=>by
  simp only[au.eW];by_cases e:j=i
  ·subst e;rw[AS rfl];unfold cO;rw[hI.iC j l q hi hl hq,hI.iC k l q hk hl hq];simp
  ·rw[AI e];exact hI.iC j l q hj hl hq
 jQ:=hI.jQ
 jr:=hI.jr
 eT:=λj hj=>by
  simp only[au.eW];by_cases e:j=i
  ·subst e;rw[AS rfl];intro s;by_cases hs: ∃l,l<3/\s=ks l
   ·obtain⟨l,hl,rfl⟩:=hs;obtain⟨h1,h2,_⟩:=vn hI hi hk hl hN hL hok;have ho:=Fl hI.eF hI.hlen hI.dD (go:=cO (cG ks L) 3 (g.go j) (g.go k) l) h1;rw[h2];refine⟨λv hv=>(ho.iV v hv).1,?_,λv hv=>(ho.iV v hv).2.2.1,ho.ctx⟩;rw[vh λq x hx h=>⟨((h1.1 q x hx).1 h).1,hI.dq x (List.mem_of_getElem? hx)⟩]
    have:=Gj (λq=>cO (cG ks L) 3 (g.kn j) (g.kn k) l q&&!cO (cG ks L) 3 (g.go j) (g.go k) l q) g.ws.length
    have:=hI.hlen;omega
   ·rw[Gc hN hL λh=>hs (hI.fx k hk s h)];exact hI.eT j hj s
  ·rw[AI e];exact hI.eT j hj
 fx:=λj hj s hs=>by
  simp only[au.eW]at hs;by_cases e:j=i
  ·subst e;rw[AS rfl]at hs;by_cases hk':cF (g.K k s).1
   ·exact hI.fx k hk s hk'
   ·rw[Gc hN hL hk']at hs;exact hI.fx j hj s hs
  ·rw[AI e]at hs;exact hI.fx j hj s hs
 dH:=λj l q hj hl h=>by
  simp only[au.eW]at h ⊢;by_cases e:j=i
  ·subst e;rw[AS rfl]at h ⊢;unfold cO at h ⊢;split
   ·rename_i ht;rw[AS ht,Xw]at h;rw[Xw];exact h.imp (hI.dH j l q hj hl) (hI.dH k l q hk hl)
   ·rename_i ht;rw[AI ht]at h;exact hI.dH j l q hj hl h
  ·rw[AI e]at h ⊢;exact hI.dH j l q hj hl h
theorem aP.eW{B:Nat}{w1 w2:World}{bt:Nat}{A:Array Value}(hN:aP B w bt g)(hi:i<g.nr)(hi4:i<4)(hF1:Fr (iQ (g.bm i)) w w1)(hF2:Fr (λq=>q=bt) w1 w2)(hR:aB w1 (g.b i) (g.bm i) i (ir (g.K i) L))(hT:w2.heap[bt]?=some (.cells A 42))(hA:gz g.A A i 3 3 (cG ks L) (g.kn i) (g.go i) (g.kn k) (g.go k)):aP B w2 bt (g.eW ks i k L A)/\Below B w w2:=by
 have hF:Fr (λq=>q=bt\/iQ (g.bm i) q) w w2:=(hF1.weaken λq h=>.inr h).trans (hF2.weaken λq h=>.inl h);have hX:∀{q:Nat} {C:Array Value} {t:TypeId} {fr:Nat×Nat},w.heap[q]?=some (.cells C t fr)->t≠42->¬(q=bt\/iQ (g.bm i) q):=λ{q C t fr} hq ht h=>by
  rcases h with e|⟨n,hn,e⟩
  ·rw[e,hN.hT]at hq;cases hq;exact ht rfl
  ·obtain⟨es,clock,hm⟩:=hN.map hi hn;rw[e,hm]at hq;cases hq
 have hT1:w1.heap[bt]?=some (.cells g.A 42):=hF1.heap hN.hT λ⟨n,hn,e⟩=>by
  obtain⟨es,clock,hm⟩:=hN.map hi hn
  have:=hN.hT;rw[e,hm]at this;cases this
 have hB:Below B w w2:=hF.toBelow (λq h=>by
  rcases h with e|⟨n,hn,e⟩
  ·rw[e];exact hN.hB.1
  ·rw[e];exact hN.hB.2 i n hi hn) (by
   have:=hN.hB.1
   have:=(Array.getElem?_eq_some_iff.1 hN.hT).1;omega)
 refine⟨?_,hB⟩;exact {
  hB:=hN.hB
  hT:=hT
  hA:=hA.size.trans hN.hA
  h0:=by show A[0]?=_;rw[hA.other 0 (by omega) (by omega)];exact hN.h0
  hR:=hF.heap hN.hR (hX hN.hR (by decide))
  fh:=hN.fh
  bj:=λj hj=>by
   simp only[au.eW];by_cases e:j=i
   ·subst e;rw[AS rfl];exact xJ hR hT1 hF2
   ·rw[AI e];refine hF.rep (hN.bj j hj) ?_ (λn hn h=>?_) λq cur hq=>hX hq (by decide)
    ·obtain⟨⟨C,hC,_⟩,_⟩:=hN.bj j hj;exact hX hC (by decide)
    ·obtain⟨es,clock,hm⟩:=hN.map hj hn;rcases h with h|⟨m,hm',h⟩
     ·rw[h,hN.hT]at hm;cases hm
     ·exact e (hN.fa j i n m hj hi hn hm' h)
  fa:=hN.fa
  h1:=by show A[1]?=_;rw[hA.other 1 (by omega) (by omega)];exact hN.h1
  hw:=hF.iL hN.hw λq cur hq=>hX hq (by decide)
  aV:=λj l q hj hl hq=>by
   simp only[au.eW];by_cases e:j=i
   ·subst e;rw[AS rfl];exact hA.kn l q hl hq
   ·rw[AI e,hA.other _ (by omega) (by omega)];exact hN.aV j l q hj hl hq
  hgo:=λj l q hj hl hq=>by
   simp only[au.eW];by_cases e:j=i
   ·subst e;rw[AS rfl];exact hA.go l q hl hq
   ·rw[AI e,hA.other _ (by omega) (by omega)];exact hN.hgo j l q hj hl hq
  eV:=λl hl=>by show A[1922+l]?=_;rw[hA.other _ (by omega) (by omega)];exact hN.eV l hl
  cL:=λl hl=>hF.iL (hN.cL l hl) λq cur hq=>hX hq (by decide)
  eP:=hN.eP
  j7:=λj l hj hl=>by show A[1927+j*3+l]?=_;rw[hA.other _ (by omega) (by omega)];exact hN.j7 j l hj hl}
end Go.Proofs.YtldmcdeibiclkaaGreatDoorQ
