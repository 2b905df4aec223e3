/-
  Toward settled_holds: The zero value of a replica.
-/
import Derived.Test.YtldmcdeibiclkaaGreatDoorC16
import Derived.WalkKit
import Derived.Test.YtldmcdeibiclkaaGreatDoorC17
import Derived.Deep.AppendLies
import Derived.Lib.AppendStr
import Derived.Lib.SlBytesRow
import Derived.Below
import Derived.Laws.BitsLemmas
set_option linter.unusedVariables false
set_option linter.unusedSimpArgs false
set_option maxRecDepth 100000
set_option maxHeartbeats 20000000
namespace Go.Proofs.YtldmcdeibiclkaaGreatDoorQ
variable {v v1 sv:Value}{B b o k:Nat}{t ta tb e:TypeId}{l:List aj}{s:ByteArray}{W w':World}{xs:List Value}{A cs:Array Value}{ops:Array Oper}{rest:List Oper}{a:Act}
open Go.RowKit
theorem pc{P:Program}{z:Value}(h:(P.info? t).map (·.zero)=some (some z))(w:World):(zeroValue t).run P w=.ok z w:=by
 cases hq:P.info? t with
 |none=>simp[hq]at h
 |some i=>
  have hz:i.zero=some z:=by simpa[hq] using h
  simp[zeroValue,typeInfo,hq,hz]
def pI:Array Value:=#[Value.int .i64 0]++Array.replicate 64 (Value.map none)
theorem Fp:pI.size=65:=by simp[pI]
theorem QM:(pI=#[])=False:=by simp[pI]
theorem aa.Nc:(aa.prog.info? 101).map (·.zero)=some (some (.agg pI)):=by kernel_rfl
theorem aa.Jw(w:World):(zeroValue 101).run aa.prog w=.ok (.agg pI) w:=pc aa.Nc w
def fc:aw:=λ_=>(λ_=>0,[])
def ji(K:aw):Prop:=∀s,(∀v∈(K s).2,v.rep<4)/\(K s).2.length<=100/\(∀v∈(K s).2,v.val.size<=12)/\∀i,i<4->0<=(K s).1 i/\(K s).1 i<=1000000
def tP(w:World)(num k:Nat)(bm:Nat->Nat)(wr:World):Prop:=
 (∃A:Array Value,wr.heap[w.heap.size]?=some (.cells A 101)/\A.size=65/\A[0]?=some (.int .i64 num)/\∀n,n<k->A[n+1]?=some (.map (some (bm n))))/\
 (∀n,n<k->w.heap.size<bm n/\wr.heap[bm n]?=some (.map #[] 0))/\(∀n m,n<k->m<k->bm n=bm m->n=m)/\Below w.heap.size w wr
theorem tP.step{w wr:World}{num k:Nat}{bm:Nat->Nat}(h:tP w num k bm wr)(hk:k<64):
  tP w num (k+1) (λn=>if n=k then wr.heap.size else bm n) ((wr.setCell ⟨w.heap.size,1+k,none⟩ (.map (some wr.heap.size))).alloc (.map #[] 0)):=by
 obtain⟨⟨A,h1,h2,h3,h4⟩,h5,h6,h7⟩:=h;have hlt:=(Array.getElem?_eq_some_iff.1 h1).1;have hsz:(wr.setCell ⟨w.heap.size,1+k,none⟩ (.map (some wr.heap.size))).heap.size=wr.heap.size:=by simp[World.setCell]
 have hlts:∀n,n<k->bm n<wr.heap.size:=λn hn=>(Array.getElem?_eq_some_iff.1 (h5 n hn).2).1;refine⟨⟨A.setIfInBounds (k+1) (.map (some wr.heap.size)),by rw[OF _ _ _ (by rw[hsz];exact hlt),Yk];exact heap_set h1,by simpa using h2,?_,λn hn=>?_⟩,λn hn=>?_,λn m hn hm he=>?_,(h7.setCell (iR _) _).alloc (by rw[hsz];exact h7.size) _⟩
 ·rw[Array.getElem?_setIfInBounds,AI (by omega)];exact h3
 ·rw[Array.getElem?_setIfInBounds];dsimp only;by_cases e:n=k
  ·subst e;rw[AS rfl,AS (by omega),AS rfl]
  ·rw[AI (by omega),AI e];exact h4 n (by omega)
 ·dsimp only;by_cases e:n=k
  ·subst e;rw[AS rfl];refine⟨hlt,?_⟩
   have:=BY (wr.setCell ⟨w.heap.size,1+n,none⟩ (.map (some wr.heap.size))) (.map #[] 0);rw[hsz]at this;exact this
  ·rw[AI e];have hn':n<k:=by omega
   refine⟨(h5 n hn').1,?_⟩;have hne:bm n≠w.heap.size:=by have:=(h5 n hn').1;omega
   rw[OF _ _ _ (by rw[hsz];exact hlts n hn'),Xg _ _ _ _ hne];exact (h5 n hn').2
 ·by_cases e:n=k
  ·by_cases e':m=k
   ·rw[e,e']
   ·simp only[AS e,AI e']at he
    have:=hlts m (by omega);omega
  ·by_cases e':m=k
   ·simp only[AI e,AS e']at he
    have:=hlts n (by omega);omega
   ·simp only[AI e,AI e']at he;exact h6 n m (by omega) (by omega) he
theorem Cd(n:Nat)(w:World)(hn:n<4):
  Calls aa.prog 20 #[.int .i64 n] w λe w'=>∃b bm,e=.returned (.tuple #[.pointer (some ⟨b,0,none⟩),.int .i64 0])/\w.heap.size<=b/\(∀m,m<64->w.heap.size<=bm m)/\aB w' b bm n fc/\Below w.heap.size w w':=by
 have hn':(n:Int)<4:=by omega
 go_enter aa.func20,aa.ntmps20;have hmm:∀W:World,(Instr.makeMap 98 none).run aa.prog W=.ok (.map (some W.heap.size)) (W.alloc (.map #[] 0)):=λW=>rfl;have hz:=aa.Jw;have hne:=QM;go_wp2;go_loopw [15] (λiv wr=>∃k:Nat,k<=64/\iv=.int .i64 k/\∃bm,tP w n k bm wr) (λiv _=>64-(intOf iv).toNat)
 case atStart=>
  refine⟨0,by omega,rfl,λ_=>0,⟨_,BY w _,by simp[Fp],by simp[Fp],λn hn=>absurd hn (by omega)⟩,λn hn=>absurd hn (by omega),λn m hn=>absurd hn (by omega),(AT _ _).alloc (iR _) _⟩
 case round=>
  obtain⟨k,hk,rfl,bm,hrel⟩:=hrel;by_cases hlt:k<64
  ·have k1:(k:Int)<64:=by omega
   have k0:(0:Int)<=(k:Int):=by omega
   have hst:Hid _:=hrel.step hlt;obtain⟨⟨A,h1,h2,_,_⟩,_⟩:=hrel;have hblt:=(Array.getElem?_eq_some_iff.1 h1).1;have hcell:(wr.alloc (.map #[] 0)).cell? ⟨w.heap.size,k+1,none⟩=some A[k+1]:=by
    rw[World.cell?_alloc_lt _ _ _ hblt];simp[World.cell?,h1]
   have hcell':(wr.alloc (.map #[] 0)).cell? ⟨w.heap.size,1+k,none⟩=some A[k+1]:=by rw[Yk];exact hcell
   have hfr:∀o,(wr.alloc (.map #[] 0)).frozen? ⟨w.heap.size,o,none⟩=false:=λo=>by
    rw[World.frozen?_alloc_past _ _ _ hblt];simp[World.frozen?,h1]
   clear h1;go_wp2;refine⟨⟨k+1,by omega,by go_num,λn=>if n=k then wr.heap.size else bm n,?_⟩,by simp[intOf];omega⟩;exact hst.out
  ·obtain rfl:k=64:=by omega
   have HR:Hid _:=hrel;clear hrel;go_wp2;go_ret2;obtain⟨⟨A,h1,h2,h3,h4⟩,h5,h6,h7⟩:=HR.out;exact⟨w.heap.size,bm,rfl,iR _,λm hm=>by have:=(h5 m hm).1;omega,⟨⟨A,h1,h3,h4⟩,λm hm=>⟨#[],0,(h5 m hm).2,by simp[fX],λs _=>⟨.slice none 0 0,rfl,⟨rfl,Or.inl ⟨rfl,rfl⟩⟩⟩,by simp[kH],λs h=>absurd rfl h⟩,h6⟩,h7⟩
theorem KN{w w1:World}{q:Nat}{B:Array Value}(hb1:Below ((((w.alloc (.cells A ta)).drewN q).alloc (.cells B tb)).drew).heap.size ((((w.alloc (.cells A ta)).drewN q).alloc (.cells B tb)).drew) w1):
  (∀o,w1.cell? ⟨w.heap.size,o,none⟩=A[o]?)/\(∀o,w1.frozen? ⟨w.heap.size,o,none⟩=false)/\(∀o,w1.cell? ⟨w.heap.size+1,o,none⟩=B[o]?)/\Below (w.heap.size+2) ((w.alloc (.cells A ta)).alloc (.cells B tb)) w1:=by
 have hb2:Below ((w.alloc (.cells A ta)).alloc (.cells B tb)).heap.size ((w.alloc (.cells A ta)).alloc (.cells B tb)) w1:=mA hb1 rfl rfl rfl rfl;have hsz:((w.alloc (.cells A ta)).alloc (.cells B tb)).heap.size=w.heap.size+2:=by simp
 rw[hsz]at hb2;have e0:w1.heap[w.heap.size]?=some (.cells A ta):=by
  rw[hb2.block _ (by omega),OF _ _ _ (by simp)];exact BY w _
 have e1:w1.heap[w.heap.size+1]?=some (.cells B tb):=by
  rw[hb2.block _ (by omega)];simpa using BY (w.alloc (.cells A ta)) (.cells B tb)
 exact⟨λo=>by simp[World.cell?,e0],λo=>by simp[World.frozen?,e0],λo=>by simp[World.cell?,e1],hb2⟩
theorem Ou(w:World)(A B:Array Value)(ta tb:TypeId)(q o:Nat):((((w.alloc (.cells A ta)).drewN q).alloc (.cells B tb)).drew).cell? ⟨w.heap.size+1,o,none⟩=B[o]? :=by
 have e:(((w.alloc (.cells A ta)).drewN q).alloc (.cells B tb)).heap[w.heap.size+1]?=some (.cells B tb):=by
  have:=BY ((w.alloc (.cells A ta)).drewN q) (.cells B tb);have hs:((w.alloc (.cells A ta)).drewN q).heap.size=w.heap.size+1:=by simp
  rw[hs]at this;exact this
 have e':((((w.alloc (.cells A ta)).drewN q).alloc (.cells B tb)).drew).heap[w.heap.size+1]?=some (.cells B tb):=e;simp only[World.cell?,e'];simp
theorem JM(w:World)(A B:Array Value)(ta tb:TypeId)(q o:Nat):(((w.alloc (.cells A ta)).drewN q).alloc (.cells B tb)).cell? ⟨w.heap.size+1,o,none⟩=B[o]? :=Ou w A B ta tb q o
theorem wT(b num:Nat)(bm:Nat->Nat)(K:aw)(key:ByteArray)(w:World)(h:aB w b bm num K)(hK:ji K)(hkey:cV key=true)(ed:key.size<=8):
  Calls aa.prog 22 #[.pointer (some ⟨b,0,none⟩),.string key] w λe w'=>∃v',e=.returned (.tuple #[v',c9 (K key).1,.int .i64 0])/\w'.ownsRow w.heap.size 71 3 v' (K key).2.length (aX (K key).2)/\Below w.heap.size w w':=by
 obtain⟨es,clock,hm,hk,hall,_⟩:=h.2.1 _ (eU key);obtain⟨sv,hent,hvs⟩:=hall key rfl;obtain⟨ad,cap,rfl,hcap⟩:=hvs.len;have hlk:∀W:World,W.heap[bm (ay key)]?=some (.map es clock)->(Instr.lookup 98 (.map (some (bm (ay key)))) (.string key) false).run aa.prog W=.ok (bL (K key).1 (.slice ad (K key).2.length cap)) W:=λW hW=>by
  rw[oa W _ es clock key hW hk,hent]
 have hmlt:=(Array.getElem?_eq_some_iff.1 hm).1;have hma:∀X,(w.alloc X).heap[bm (ay key)]?=some (.map es clock):=λX=>by
  rw[OF _ _ _ hmlt];exact hm
 have HSeg:Hid (∀X,Calls aa.prog 39 #[.pointer (some ⟨b,0,none⟩),.string key] (w.alloc X) λe w'=>e=.returned (.map (some (bm (ay key))))/\∃q,w'=(w.alloc X).drewN q):=λX=>wh b num bm key _ (by unfold maxLen;omega) (h.below ((AT _ _).alloc (iR _) X)).1;have hck:=oj key;have HL:Hid ((K key).2.length<=100000):=Xb (hK key).2.1 (by decide);have HS:Hid (∀v∈(K key).2,v.val.size<=281474976710656):=λv hv=>by have:=(hK key).2.2.1 v hv;omega
 generalize (K key).1=c at*;generalize (K key).2=l at*;have HV:Hid _:=hvs;have HCK:Hid _:=hck;clear hvs hck hall hent hK h hm;generalize bm (ay key)=bms at*;go_enter aa.func22,aa.ntmps22;go_wp2_with (first
  |(go_at_call 36;refine (HCK.out _ (by unfold maxLen;omega)).mono ?_;rw[hkey];rintro e w1 ⟨rfl,rfl⟩)
  |(go_at_call 39;refine By (HSeg.out _) ?_;rintro e w0 ⟨rfl,q,rfl⟩))
 have hbn:w.heap.size+1≠w.heap.size:=by omega
 have HX:Hid (∀A B,aC ((((w.alloc A).drewN q).alloc B).drew) (.slice ad l.length cap) l):=λA B=>(show aC ((((w.alloc A).drewN q).alloc B)) _ _ from Xh (show World.ownsRow ((w.alloc A).drewN q) 0 144 3 (.slice ad l.length cap) l.length (aX l) from HV.out.alloc A) B).drew;go_region_held3 (λw'=>w'.cell? ⟨w.heap.size+1,0,none⟩=some (.int .i64 (c 0))/\w'.cell? ⟨w.heap.size+1,1,none⟩=some (.int .i64 (c 1))/\w'.cell? ⟨w.heap.size+1,2,none⟩=some (.int .i64 (c 2))/\w'.cell? ⟨w.heap.size+1,3,none⟩=some (.int .i64 (c 3))/\w'.cell? ⟨w.heap.size+1,4,none⟩=some (.slice ad l.length cap))
  (first|(simp[JM];done)|go_keep|(go_split_ands;exact⟨aU (by assumption) hb1,aU (by assumption) hb1,aU (by assumption) hb1,aU (by assumption) hb1,aU (by assumption) hb1⟩)|(go_split_ands;exact⟨by rw[dA hbn,dA hbn,dA hbn,dA hbn];assumption,by rw[dA hbn,dA hbn,dA hbn,dA hbn];assumption,by rw[dA hbn,dA hbn,dA hbn,dA hbn];assumption,by rw[dA hbn,dA hbn,dA hbn,dA hbn];assumption,by rw[dA hbn,dA hbn,dA hbn,dA hbn];assumption⟩))
  (first|(go_at_call 43;refine (VU _ l _ (HX.out _ _) HL.out HS.out).mono ?_;rintro e w1 ⟨v',rfl,aD,hb1⟩;obtain⟨m0,m1,m2,m3⟩:=KN hb1;have HO:Hid _:=ej aD (show w.heap.size+2<=_ by simp[World.drew]);have HB:Hid _:=m3;clear aD m3))
 all_goals
  go_wp2;refine XF (v:=.tuple #[v',c9 c,.int .i64 0]) ?_ rfl ⟨_,rfl,?_,?_⟩
  ·simp[results,aa.results22,go_sem,m0]
  ·exact ej (XK (XK (XK (XK HO.out (by simp) _) (by simp) _) (by simp) _) (by simp) _) (by omega)
  ·have base:Below w.heap.size w w1:=(((AT _ _).alloc (iR _) _).alloc (by simp) _).trans (HB.out.mono (by omega));exact (((base.setCell (iR _) _).setCell (iR _) _).setCell (iR _) _).setCell (iR _) _
theorem jN{w1:World}(hb:Below W.heap.size W w1):(∀b o,b<W.heap.size->w1.cell? ⟨b,o,none⟩=W.cell? ⟨b,o,none⟩)/\(∀b o,b<W.heap.size->w1.frozen? ⟨b,o,none⟩=W.frozen? ⟨b,o,none⟩):=
 ⟨λb o h=>hb.cell (p:=⟨b,o,none⟩) h,λb o h=>hb.frozen (p:=⟨b,o,none⟩) h⟩
theorem tq(b num:Nat)(bm:Nat->Nat)(key:ByteArray)(w:World)(hs:key.size<=maxLen)(h:er w b bm num):
  Calls aa.prog 39 #[.pointer (some ⟨b,0,none⟩),.string key] w λe w'=>e=.returned (.map (some (bm (ay key))))/\Below w.heap.size w w'/\w'.heap.size=w.heap.size:=by
 refine (wh b num bm key w hs h).mono ?_;rintro e w' ⟨rfl,q,rfl⟩;exact⟨rfl,Xz (AT _ _) q,rfl⟩
theorem aC.below{w:World}(h:aC w sv l)(hb:Below w.heap.size w W):aC W sv l:=h.dO λg hg _=>hb.block g hg
theorem al{w:World}(h:w.heap[b]?=some (.cells A t)):(∀o,w.cell? ⟨b,o,none⟩=A[o]?)/\(∀o,w.frozen? ⟨b,o,none⟩=false):=
 ⟨λo=>by simp[World.cell?,h],λo=>by simp[World.frozen?,h]⟩
theorem iT{w w3:World}(hb:Below W.heap.size W w3)(h:Below w.heap.size w W):Below w.heap.size w w3:=bc h hb
theorem uz{w w2:World}{B:Array Value}(hb2:Below ((w.alloc (.cells A ta)).alloc (.cells B tb)).heap.size ((w.alloc (.cells A ta)).alloc (.cells B tb)) w2):
  (∀o,w2.cell? ⟨w.heap.size+1,o,none⟩=B[o]?)/\Below w.heap.size w w2/\w.heap.size+1<w2.heap.size:=by
 have hsz:((w.alloc (.cells A ta)).alloc (.cells B tb)).heap.size=w.heap.size+2:=by simp
 rw[hsz]at hb2;have e1:w2.heap[w.heap.size+1]?=some (.cells B tb):=by
  rw[hb2.block _ (by omega)];simpa using BY (w.alloc (.cells A ta)) (.cells B tb)
 exact⟨λo=>by simp[World.cell?,e1],(((AT _ _).alloc (iR _) _).alloc (by simp) _).trans (hb2.mono (by omega)),(Array.getElem?_eq_some_iff.1 e1).1⟩
theorem Am(b num:Nat)(bm:Nat->Nat)(K:aw)(key:ByteArray)(seen:Ctx)(w:World)(h:aB w b bm num K)(hK:ji K)(hkey:cV key=true)(ed:key.size<=8)(hseen:gD seen=true)(hn:(aW (K key).2 seen).length=(K key).2.length):
  Calls aa.prog 23 #[.pointer (some ⟨b,0,none⟩),.string key,c9 seen] w λe w'=>e=.returned (.int .i64 5)/\Below w.heap.size w w':=by
 have hb:=h.1;obtain⟨es,clock,hm,hk,hall,_⟩:=h.2.1 _ (eU key);obtain⟨sv,hent,hvs⟩:=hall key rfl;obtain⟨ad,cap,rfl,hcap⟩:=hvs.len;have hlk:∀W:World,W.heap[bm (ay key)]?=some (.map es clock)->(Instr.lookup 98 (.map (some (bm (ay key)))) (.string key) false).run aa.prog W=.ok (bL (K key).1 (.slice ad (K key).2.length cap)) W:=λW hW=>by
  rw[oa W _ es clock key hW hk,hent]
 have HSeg:Hid (∀W,er W b bm num->Calls aa.prog 39 #[.pointer (some ⟨b,0,none⟩),.string key] W λe w'=>e=.returned (.map (some (bm (ay key))))/\Below W.heap.size W w'/\w'.heap.size=W.heap.size):=λW hW=>tq b num bm key W (by unfold maxLen;omega) hW;have HBlk:Hid (∀W,Below w.heap.size w W->er W b bm num):=λW hW=>(h.below hW).1;have HL:Hid ((K key).2.length<=100000):=Xb (hK key).2.1 (by decide);have HR:Hid (∀v∈(K key).2,v.rep<4):=(hK key).1;generalize (K key).1=c at*;generalize (K key).2=l at*;have HV:Hid _:=hvs;have HN:Hid _:=hn;have HCK:Hid _:=oj key;have HSO:Hid _:=sA seen;clear hvs hall hent hK hn h;generalize hbms:bm (ay key)=bms at*;have HBMS:Hid _:=hbms;clear hbms;go_enter aa.func23,aa.ntmps23;go_wp2_with (first
  |(go_at_call 36;refine (HCK.out _ (by unfold maxLen;omega)).mono ?_;rw[hkey];rintro e w1 ⟨rfl,rfl⟩)
  |(go_at_call 38;refine (HSO.out _).mono ?_;rw[hseen];rintro e w2 ⟨rfl,hb2⟩;obtain⟨c2,hB2,hz2⟩:=uz hb2;clear hb2))
 have hmk:Hid (∀w',Below w2.heap.size w2 w'->er w' b bm num/\(Instr.lookup 98 (.map (some bms)) (.string key) false).run aa.prog w'=.ok (bL c (.slice ad l.length cap)) w'/\aC w' (.slice ad l.length cap) l/\w'.cell? ⟨w.heap.size+1,0,none⟩=some (.int .i64 (seen 0))/\w'.cell? ⟨w.heap.size+1,1,none⟩=some (.int .i64 (seen 1))/\w'.cell? ⟨w.heap.size+1,2,none⟩=some (.int .i64 (seen 2))/\w'.cell? ⟨w.heap.size+1,3,none⟩=some (.int .i64 (seen 3))):=λw' hw=>
  ⟨HBlk.out _ (bc hB2 hw),hlk w' (aQ (aQ hm hB2) hw),(aC.below HV.out hB2).below hw,aU (c2 0) hw,aU (c2 1) hw,aU (c2 2) hw,aU (c2 3) hw⟩
 have HB2:Hid _:=hB2;clear hB2 c2 hlk;go_region_held3 (λw'=>er w' b bm num/\(Instr.lookup 98 (.map (some bms)) (.string key) false).run aa.prog w'=.ok (bL c (.slice ad l.length cap)) w'/\aC w' (.slice ad l.length cap) l/\w'.cell? ⟨w.heap.size+1,0,none⟩=some (.int .i64 (seen 0))/\w'.cell? ⟨w.heap.size+1,1,none⟩=some (.int .i64 (seen 1))/\w'.cell? ⟨w.heap.size+1,2,none⟩=some (.int .i64 (seen 2))/\w'.cell? ⟨w.heap.size+1,3,none⟩=some (.int .i64 (seen 3)))
  ((refine hmk.out _ ?_;first|(simp (maxDischargeDepth:=12) [AT,IT,W9,Xj];done)|(simp (maxDischargeDepth:=12) [AT,IT,W9,Xj,B5,y5];done)|(simp (maxDischargeDepth:=12) [AT,IT,W9,Xj,B3,z3];done)))
  (first|(go_at_call 39;refine By (HSeg.out _ (by go_split_ands;assumption)) ?_;rintro e w5 ⟨rfl,hb5,z5⟩;obtain⟨s1,s2⟩:=jN hb5;(try simp only[Yg,kM]at z5);have B5:Below w2.heap.size w2 w5:=iT hb5 (by simp (maxDischargeDepth:=12) [AT,IT,W9]);have y5:=B5.size;clear hb5)|(go_at_call 44;refine (MI c _ l seen _ (by go_split_ands;assumption) HR.out HL.out HN.out).mono ?_;rintro e w3 ⟨rfl,hb3⟩;obtain⟨q1,q2⟩:=jN hb3;have B3:Below w2.heap.size w2 w3:=iT hb3 (by simp (maxDischargeDepth:=12) [AT,IT,W9,B5,y5]);have z3:=B3.size;clear hb3))
 all_goals
  go_wp2_with (go_at_call 42;refine (AM b key (λ_=>0) (.slice none 0 0) 5 _ (by decide)).mono ?_;rintro e w4 ⟨rfl,hb4⟩;have B4:Below w2.heap.size w2 w4:=iT hb4 (by simp (maxDischargeDepth:=12) [AT,IT,W9,Xj,B3,z3]);clear hb4)
  go_ret;exact⟨rfl,bc HB2.out B4⟩
theorem kM(w:World)(X:Obj):(w.alloc X).heap.size=w.heap.size+1:=by simp
theorem tR{w w4:World}{row:Option Nat}(h:Below w.heap.size w W)(hg:W.grownBy w4 row):w.grownBy w4 row:=
 ⟨hg.os.trans h.os,hg.tape.trans h.tape,hg.output.trans h.output,Xb h.size hg.size,λk hk hn=>(hg.block k (Xc hk h.size) hn).trans (h.block k hk)⟩
theorem aC.si{w:World}(h:w.ownsRow B 144 3 v l.length (aX l)):aC w v l:=ej h (XN _)
theorem ID{w:World}{es:List MapEntry}{key:ByteArray}{c:Ctx}(h:(cH es key).getD lU=bL c sv)(hv:aC w sv l)(hl:0<l.length):cH es key≠none:=λhn=>by
 rw[hn]at h;obtain⟨ad,cap,rfl,_⟩:=hv.len;simp[lU]at h;omega
theorem Mh{c d:Ctx}(hc:∀i,i<4->0<=c i)(h:cF c):cF (aZ c d):=by
 obtain⟨i,hi,hn⟩:=h
 have:=hc i hi;refine⟨i,hi,?_⟩;simp only[aZ];omega
theorem Oa(b num:Nat)(bm:Nat->Nat)(K:aw)(key:ByteArray)(seen:Ctx)(w:World)(h:aB w b bm num K)(hK:ji K)(hkey:cV key=true)(ed:key.size<=8)(hseen:gD seen=true)(hn:(aW (K key).2 seen).length<(K key).2.length):
  Calls aa.prog 23 #[.pointer (some ⟨b,0,none⟩),.string key,c9 seen] w λe w'=>e=.returned (.int .i64 0)/\aB w' b bm num (bD K key (aZ (K key).1 seen,aW (K key).2 seen))/\w.grownBy w' (some (bm (ay key))):=by
 have hb:=h.1;have HRep:Hid _:=h;obtain⟨es,clock,hm,hk,hall,_,aV⟩:=h.2.1 _ (eU key);obtain⟨sv,hent,hvs⟩:=hall key rfl;have HKn:Hid (cF (aZ (K key).1 seen)):=Mh (λi hi=>((hK key).2.2.2 i hi).1) (aV key (ID hent hvs (by omega)));obtain⟨ad,cap,rfl,hcap⟩:=hvs.len;have hlk:∀W:World,W.heap[bm (ay key)]?=some (.map es clock)->(Instr.lookup 98 (.map (some (bm (ay key)))) (.string key) false).run aa.prog W=.ok (bL (K key).1 (.slice ad (K key).2.length cap)) W:=λW hW=>by
  rw[oa W _ es clock key hW hk,hent]
 have HSeg:Hid (∀W,er W b bm num->Calls aa.prog 39 #[.pointer (some ⟨b,0,none⟩),.string key] W λe w'=>e=.returned (.map (some (bm (ay key))))/\Below W.heap.size W w'/\w'.heap.size=W.heap.size):=λW hW=>tq b num bm key W (by unfold maxLen;omega) hW;have HBlk:Hid (∀W,Below w.heap.size w W->er W b bm num):=λW hW=>(h.below hW).1;have HL:Hid ((K key).2.length<=100000):=Xb (hK key).2.1 (by decide);have HR:Hid (∀v∈(K key).2,v.rep<4):=(hK key).1;generalize (K key).1=c at*;generalize (K key).2=l at*;have HV:Hid _:=hvs;have HN:Hid _:=hn;have HCK:Hid _:=oj key;have HSO:Hid _:=sA seen;clear hvs hall hent hK hn h;generalize hbms:bm (ay key)=bms at*;have HBMS:Hid _:=hbms;clear hbms;go_enter aa.func23,aa.ntmps23;go_wp2_with (first
  |(go_at_call 36;refine (HCK.out _ (by unfold maxLen;omega)).mono ?_;rw[hkey];rintro e w1 ⟨rfl,rfl⟩)
  |(go_at_call 38;refine (HSO.out _).mono ?_;rw[hseen];rintro e w2 ⟨rfl,hb2⟩;obtain⟨c2,hB2,hz2⟩:=uz hb2;clear hb2))
 have hmk:Hid (∀w',Below w2.heap.size w2 w'->er w' b bm num/\(Instr.lookup 98 (.map (some bms)) (.string key) false).run aa.prog w'=.ok (bL c (.slice ad l.length cap)) w'/\aC w' (.slice ad l.length cap) l/\w'.cell? ⟨w.heap.size+1,0,none⟩=some (.int .i64 (seen 0))/\w'.cell? ⟨w.heap.size+1,1,none⟩=some (.int .i64 (seen 1))/\w'.cell? ⟨w.heap.size+1,2,none⟩=some (.int .i64 (seen 2))/\w'.cell? ⟨w.heap.size+1,3,none⟩=some (.int .i64 (seen 3))):=λw' hw=>
  ⟨HBlk.out _ (bc hB2 hw),hlk w' (aQ (aQ hm hB2) hw),(aC.below HV.out hB2).below hw,aU (c2 0) hw,aU (c2 1) hw,aU (c2 2) hw,aU (c2 3) hw⟩
 have HB2:Hid _:=hB2;clear hB2 c2 hlk;go_region_held3 (λw'=>er w' b bm num/\(Instr.lookup 98 (.map (some bms)) (.string key) false).run aa.prog w'=.ok (bL c (.slice ad l.length cap)) w'/\aC w' (.slice ad l.length cap) l/\w'.cell? ⟨w.heap.size+1,0,none⟩=some (.int .i64 (seen 0))/\w'.cell? ⟨w.heap.size+1,1,none⟩=some (.int .i64 (seen 1))/\w'.cell? ⟨w.heap.size+1,2,none⟩=some (.int .i64 (seen 2))/\w'.cell? ⟨w.heap.size+1,3,none⟩=some (.int .i64 (seen 3)))
  ((refine hmk.out _ ?_;first|(simp (maxDischargeDepth:=12) [AT,IT,W9,Xj];done)|(simp (maxDischargeDepth:=12) [AT,IT,W9,Xj,B5,y5];done)|(simp (maxDischargeDepth:=12) [AT,IT,W9,Xj,B3,z3];done)))
  (first|(go_at_call 39;refine By (HSeg.out _ (by go_split_ands;assumption)) ?_;rintro e w5 ⟨rfl,hb5,z5⟩;obtain⟨s1,s2⟩:=jN hb5;(try simp only[Yg,kM]at z5);have B5:Below w2.heap.size w2 w5:=iT hb5 (by simp (maxDischargeDepth:=12) [AT,IT,W9]);have y5:=B5.size;clear hb5)|(go_at_call 44;refine (Ra c _ l seen _ (by go_split_ands;assumption) HR.out HL.out HN.out).mono ?_;rintro e w3 ⟨v',rfl,aD,hb3⟩;obtain⟨ad',cap',hv'⟩:=oz aD;subst hv';have O3:=aD;(try simp only[Yg,kM,z5]at O3);clear aD;obtain⟨q1,q2⟩:=jN hb3;have B3:Below w2.heap.size w2 w3:=iT hb3 (by simp (maxDischargeDepth:=12) [AT,IT,W9,B5,y5]);have z3:=B3.size;clear hb3))
 all_goals
  go_wp2_with (go_at_call 42;go_must (refine (CJ b num bm K key (aZ c seen) _ (aW l seen) _ ⟨by omega,hkey⟩ HKn.out (aB.below HRep.out (bc HB2.out (by simp (maxDischargeDepth:=12) [AT,IT,W9,Xj,B3,z3]))) (by first|(refine aC.si (B:=w2.heap.size) ?_;simp (maxDischargeDepth:=12) [Xh,O3];done)|(refine aC.si (B:=w2.heap.size+1) ?_;simp (maxDischargeDepth:=12) [XK,O3];done))).mono ?_);rintro e w4 ⟨rfl,hrep4,hg4⟩;have B5:=tR (w:=w2) (by simp (maxDischargeDepth:=12) [AT,IT,W9,Xj,B3,z3]) hg4;have HR4:Hid _:=hrep4;clear hrep4 hg4)
  go_ret;exact⟨rfl,HR4.out,by have g:=tR HB2.out B5;rw[HBMS.out]at g;exact g⟩
section
structure Fr(X:Nat->Prop)(w w':World):Prop where
 os:w'.os=w.os
 tape:w'.tape=w.tape
 output:w'.output=w.output
 size:w.heap.size<=w'.heap.size
 block:∀k,k<w.heap.size->¬X k->w'.heap[k]?=w.heap[k]?
section
variable {X Y:Nat->Prop}{w w1 w2:World}
theorem Fr.refl(X:Nat->Prop)(w:World):Fr X w w:=⟨rfl,rfl,rfl,iR _,λ_ _ _=>rfl⟩
theorem Fr.trans(h:Fr X w w1)(h':Fr X w1 w2):Fr X w w2:=
 ⟨h'.os.trans h.os,h'.tape.trans h.tape,h'.output.trans h.output,Xb h.size h'.size,λk hk hn=>(h'.block k (Xc hk h.size) hn).trans (h.block k hk hn)⟩
theorem Fr.weaken(h:Fr X w w1)(hX:∀k,X k->Y k):Fr Y w w1:=⟨h.os,h.tape,h.output,h.size,λk hk hn=>h.block k hk λe=>hn (hX k e)⟩
theorem Fr.below(h:Fr X w w1)(hb:Below w1.heap.size w1 w2):Fr X w w2:=
 ⟨hb.os.trans h.os,hb.tape.trans h.tape,hb.output.trans h.output,Xb h.size hb.size,λk hk hn=>(hb.block k (Xc hk h.size)).trans (h.block k hk hn)⟩
theorem Fr.iY(hb:Below w.heap.size w w1):Fr X w w1:=(Fr.refl X w).below hb
theorem Fr.grown{row:Option Nat}(h:Fr X w w1)(hg:w1.grownBy w2 row)(hr:∀k,row=some k->k<w.heap.size->X k):Fr X w w2:=
 ⟨hg.os.trans h.os,hg.tape.trans h.tape,hg.output.trans h.output,Xb h.size hg.size,λk hk hn=>(hg.block k (Xc hk h.size) (λe=>hn (hr k e.symm hk))).trans (h.block k hk hn)⟩
theorem Fr.drew(h:Fr X w w1):Fr X w w1.drew:=⟨h.os,h.tape,h.output,h.size,h.block⟩
theorem Fr.drewN(h:Fr X w w1)(q:Nat):Fr X w (w1.drewN q):=⟨h.os,h.tape,h.output,h.size,h.block⟩
theorem Fr.alloc(h:Fr X w w1)(o:Obj):Fr X w (w1.alloc o):=h.below ((AT _ _).alloc (iR _) o)
theorem Fr.setCell(h:Fr X w w1)(hb:w.heap.size<=b\/X b)(v:Value):Fr X w (w1.setCell ⟨b,o,none⟩ v):=
 ⟨h.os,h.tape,h.output,by simpa[World.setCell] using h.size,λk hk hn=>by
  have hne:k≠b:=λe=>by
   rcases hb with hb|hb
   ·omega
   ·exact hn (e▸hb)
  rw[Xg _ _ _ _ hne];exact h.block k hk hn⟩
theorem Fr.toBelow(h:Fr X w w1)(hX:∀k,X k->B<=k)(hB:B<=w.heap.size):Below B w w1:=
 ⟨h.os,h.tape,h.output,h.size,λk hk=>h.block k (by omega) λe=>by have:=hX k e;omega⟩
theorem Fr.heap(h:Fr X w w1){o:Obj}(hk:w.heap[k]?=some o)(hn: ¬X k):w1.heap[k]?=some o:=by
 rw[h.block k (Array.getElem?_eq_some_iff.1 hk).1 hn];exact hk
theorem Fr.cell(h:Fr X w w1)(hc:w.cell? ⟨b,o,none⟩=some v)(hn: ¬X b):w1.cell? ⟨b,o,none⟩=some v:=by
 rw[World.cell?_of_block (h.block b (World.block_lt_of_cell? w _ hc) hn)];exact hc
theorem Fr.row{n size:Nat}(h:Fr X w w1)(hr:w.ownsRow B t size v n xs)(hn:∀g o l c,v=.slice (some ⟨g,o,none⟩) l c->¬X g):w1.ownsRow B t size v n xs:=by
 obtain⟨h1,h2⟩:=hr;refine⟨h1,?_⟩;rcases h2 with h2|⟨g,cap,cur,hv,hg,hh,r⟩
 ·exact Or.inl h2
 ·exact Or.inr ⟨g,cap,cur,hv,hg,h.heap hh (hn _ _ _ _ hv),r⟩
theorem Fr.rep{num:Nat}{bm:Nat->Nat}{K:aw}(h:Fr X w w1)(hr:aB w b bm num K)(hb: ¬X b)(hm:∀n,n<64->¬X (bm n))(hv:∀g cur,w.heap[g]?=some (.cells cur 144 (0,0))->¬X g):aB w1 b bm num K:=
 hr.dO (h.block _ hr.1.lt hb) (λn hn=>h.block _ (hr.2.1 n hn).lt (hm n hn)) λg hg ⟨cur,hc⟩=>h.block g hg (hv g cur hc)
end
end
section
open Go.Lib (strCells strCells_length strCells_oneCell)
structure bE(w w':World)(v v':Value):Prop where
 grown:w.grownBy w' v.ownBlock
 vc:∀g,v'.ownBlock=some g->v.ownBlock=some g\/w.heap.size<=g
theorem bE.refl(w:World)(v:Value):bE w w v v:=⟨⟨rfl,rfl,rfl,iR _,λ_ _ _=>rfl⟩,λ_ h=>Or.inl h⟩
theorem bE.trans{w w1 w2:World}{v2:Value}(h:bE w w1 v v1)(h':bE w1 w2 v1 v2):bE w w2 v v2:=
 ⟨⟨h'.grown.os.trans h.grown.os,h'.grown.tape.trans h.grown.tape,h'.grown.output.trans h.grown.output,Xb h.grown.size h'.grown.size,λk hk hn=>(h'.grown.block k (Xc hk h.grown.size) λe=>by
   rcases h.vc k e.symm with e1|e1
   ·exact hn e1.symm
   ·omega).trans (h.grown.block k hk hn)⟩,
  λg hg=>by
   rcases h'.vc g hg with e1|e1
   ·exact h.vc g e1
   ·exact Or.inr (Xb h.grown.size e1)⟩
theorem bE.alloc{w w1:World}(h:bE w w1 v v1)(o:Obj):bE w (w1.alloc o) v v1:=
 ⟨⟨h.grown.os,h.grown.tape,h.grown.output,Xb h.grown.size (by simp),λk hk hn=>(OF w1 o k (Xc hk h.grown.size)).trans (h.grown.block k hk hn)⟩,h.vc⟩
theorem bE.other{w w1:World}(h:bE w w1 v v1){size n:Nat}(hr:w.ownsRow B e size v n xs){fr:Nat×Nat}(hb:w.heap[b]?=some (.cells cs t fr))(hne:t≠e):w1.heap[b]?=some (.cells cs t fr):=by
 rw[h.grown.block b (Array.getElem?_eq_some_iff.1 hb).1,hb];intro e1;rcases hr.2 with⟨rfl,_⟩|⟨g,cap,cur,rfl,_,hg,_⟩
 ·cases e1
 ·simp only[Value.ownBlock,Xa]at e1;subst e1;rw[hb]at hg;cases hg;exact hne rfl
theorem bE.map{w w1:World}{v v1:Value}(h:bE w w1 v v1){B size n:Nat}{e:TypeId}{xs:List Value}(hr:w.ownsRow B e size v n xs){b:Nat}{es:Array MapEntry}{c:Nat}(hb:w.heap[b]?=some (.map es c)):w1.heap[b]?=some (.map es c):=by
 rw[h.grown.block b (Array.getElem?_eq_some_iff.1 hb).1,hb];intro e1;rcases hr.2 with⟨rfl,_⟩|⟨g,cap,cur,rfl,_,hg,_⟩
 ·cases e1
 ·simp only[Value.ownBlock,Xa]at e1;subst e1;rw[hb]at hg;cases hg
theorem bE.toBelow{w0 w w1:World}(h:bE w w1 v v1)(hb:Below B w0 w)(hB:B<=w.heap.size){size n:Nat}(hr:w.ownsRow B e size v n xs):Below B w0 w1:=
 hb.grown h.grown hB λk hk=>by
  rcases hr.2 with⟨rfl,_⟩|⟨g,cap,cur,rfl,hg,_⟩
  ·cases hk
  ·simp only[Value.ownBlock,Xa]at hk;omega
section
variable {P:Program} (w:World)
theorem U6(base:Nat)(t u ty e:TypeId)(i:TypeInfo)(ht:P.underlying t=some (.slice e))(hu:P.underlying u=some .string)(hi:P.info? e=some i)(hz:i.zero=some (.int .u8 0))(hsize:i.size=1)(dq:i.bytes=1)(v:Value)(n:Nat)(xs:List Value)(aD:w.ownsRow base e 1 v n xs)(s:ByteArray)(h63:n+s.size<=maxLen)(hbytes:n+s.size<=140737488355328)(hbase:base<=w.heap.size):
  ∃v' w',(Builtin.append_ #[t,u] ty #[v,.string s]).run P w=.ok v' w'/\w'.ownsRow base e 1 v' (n+s.size) (xs++strCells s)/\bE w w' v v':=by
 obtain⟨v',w',hr,h2,h3,_⟩:=Go.Lib.run_append_own_string (P:=P) w base t u ty e i ht hu hi hz hsize dq v n xs aD s h63 hbytes hbase;refine⟨v',w',hr,h2,h3,λg' hg'=>?_⟩;rcases aD.2 with⟨rfl,rfl⟩|⟨g,cap,cur,rfl,hbg,hg,hnc,hcm,hcs,htake⟩
 ·obtain⟨v2,w2,hr2,h4,_⟩:=Go.Lib.run_append_own_string (P:=P) w w.heap.size t u ty e i ht hu hi hz hsize dq (.slice none 0 0) 0 xs ⟨aD.1,Or.inl ⟨rfl,rfl⟩⟩ s h63 hbytes (iR _);rw[hr]at hr2;cases hr2;right;rcases h4.2 with⟨rfl,_⟩|⟨g,cap,cur,rfl,hbg,_⟩
  ·cases hg'
  ·simp only[Value.ownBlock,Xa]at hg';omega
 ·by_cases hroom:n+s.size<=cap
  ·have hcs':cur.size=cap:=by simpa using hcs
   have hr2:=Go.Lib.run_append_room_string (P:=P) w t u ty e i ht hu hi hsize g n cap cur hg s hroom (by omega);rw[hr]at hr2;cases hr2;exact Or.inl hg'
  ·have hxl:xs.length=n:=by simpa using aD.1
   have holds:∀j u,xs[j]?=some u->w.cell? ((⟨g,0,none⟩:Addr).add j)=some u:=aD.cells (g:=g) rfl;have hr2:=Go.Lib.run_append_grow_string (P:=P) w t u ty e i (.int .u8 0) ht hu hi hz ⟨g,0,none⟩ n cap xs (by rw[hsize];simpa using hxl) holds s (by omega) (by simp only[maxLen]at h63;omega) (by rw[dq];exact growslice_fits (by omega) (by omega));rw[hr]at hr2;cases hr2;simp only[Value.ownBlock,Xa]at hg';right;omega
theorem Lf{o:Oper}{Q:Exit->Act->World->Prop}(hgd:o.guard=none)(sl x:Operand)(t u:TypeId)(ho:o.op=.call {callee:=.builtin .append,args:=#[sl,x],argTypes:=#[t,u]})(base:Nat)(e:TypeId)(i:TypeInfo)(ht:P.underlying t=some (.slice e))(hu:P.underlying u=some .string)(hi:P.info? e=some i)(hz:i.zero=some (.int .u8 0))(hsize:i.size=1)(dq:i.bytes=1)(v:Value)(n:Nat)(xs:List Value)(hs:a.eval sl=v)(aD:w.ownsRow base e 1 v n xs)(s:ByteArray)(hx:a.eval x=.string s)(h63:n+s.size<=maxLen)(hbytes:n+s.size<=140737488355328)(hbase:base<=w.heap.size)(h:∀v' w',w'.ownsRow base e 1 v' (n+s.size) (xs++strCells s)->bE w w' v v'->wpList P ops Q rest (a.put o.dst v') w'):wpList P ops Q (o::rest) a w:=by
 refine wpList_plain hgd λK hK=>?_;obtain⟨v',w',hr,h2,h3⟩:=U6 (P:=P) w base t u o.type e i ht hu hi hz hsize dq v n xs aD s h63 hbytes hbase;unfold Oper.wp execOp;simp only[ho,resolve,invoke,builtin,Xt,X2,XJ,List.map_toArray,XE,List.map_nil,hs,hx,hr];exact hK _ _ (h v' w' h2 h3)
theorem jm{o:Oper}{Q:Exit->Act->World->Prop}(hgd:o.guard=none)(s x:Operand)(t:TypeId)(ho:o.op=.call {callee:=.builtin .append,args:=#[s,x],argTypes:=#[t,t]})(base:Nat)(e:TypeId)(i:TypeInfo)(z:Value)(size bytes:Nat)(ht:P.underlying t=some (.slice e))(hi:P.info? e=some i)(hz:i.zero=some z)(hsize:i.size=size)(dq:i.bytes=bytes)(hzs:z.cells.size=size)(hsz:0<size)(v:Value)(n:Nat)(xs:List Value)(hs:a.eval s=v)(aD:w.ownsRow base e size v n xs)(ad:Addr)(m c:Nat)(news:List Value)(hx:a.eval x=.slice (some ad) m c)(hl:news.length=m*size)(hnews:∀j u,news[j]?=some u->w.cell? (ad.add j)=some u)(h1:∀u∈news,u.oneCell'=true)(hm:0<m)(h63:n+m<=maxLen)(hbytes:(n+m)*bytes<=140737488355328)(hbase:base<=w.heap.size)(h:∀g cap w',w'.ownsRow base e size (.slice (some ⟨g,0,none⟩) (n+m) cap) (n+m) (xs++news)->bE w w' v (.slice (some ⟨g,0,none⟩) (n+m) cap)->wpList P ops Q rest (a.put o.dst (.slice (some ⟨g,0,none⟩) (n+m) cap)) w'):wpList P ops Q (o::rest) a w:=
 YP w hgd s x t ho base e i z size bytes ht hi hz hsize dq hzs hsz v n xs hs aD ad m c news hx hl hnews h1 hm h63 hbytes hbase _ rfl λg cap w' h2 h3 h4 _=>
  h g cap w' h2 ⟨h3,λg' hg'=>by
   simp only[Value.ownBlock,Xa]at hg';subst hg';rcases h4 with h4|h4
   ·exact Or.inl h4
   ·exact Or.inr (by omega)⟩
end
end
section
open Go.Lib (strCells strCells_length strCells_oneCell)
theorem aa.oP:(aa.prog.info? 5).map (λi=>(i.zero,i.size,i.bytes))=some (some (.int .u8 0),1,1):=by kernel_rfl
def aH(w:World)(B:Nat)(v:Value)(s:ByteArray):Prop:=w.ownsRow B 5 1 v s.size (strCells s)
def byteOf(z:Int):UInt8:=UInt8.ofNat (z%256).toNat
theorem rp(z:Int):((byteOf z).toNat:Int)=z%256:=by
 have h1:=YL z (show (256:Int)≠0 by decide);have h2:=Int.emod_lt_of_pos z (show (0:Int)<256 by decide);simp only[byteOf,UInt8.toNat_ofNat'];omega
def cz(n:Int):ByteArray:=⟨#[byteOf (n / 16777216),byteOf (n / 65536),byteOf (n / 256),byteOf n]⟩
def ax(n:Int):ByteArray:=⟨#[byteOf n]⟩
theorem jP(n:Int):(cz n).size=4:=rfl
theorem da(n:Int):(ax n).size=1:=rfl
theorem oW(a b:ByteArray):strCells (a++b)=strCells a++strCells b:=by
 simp[strCells,ByteArray.data_append]
theorem aH.of{w:World}{n:Nat}{t:ByteArray}(h:w.ownsRow B 5 1 v (s.size+n) (strCells s++xs))(hn:n=t.size)(hx:xs=strCells t):aH w B v (s++t):=by
 subst hn hx;unfold aH;rw[oW,IS];exact h
theorem aH.nil(w:World)(B:Nat):aH w B (.slice none 0 0) ByteArray.empty:=XZ _ _ _ _
theorem aH.below{w:World}(h:aH w B v s)(hb:Below w.heap.size w w'):aH w' B v s:=ec h hb (iR _)
theorem aH.alloc{w:World}(h:aH w B v s)(o:Obj):aH (w.alloc o) B v s:=Xh h o
theorem aH.len{w:World}(h:aH w B v s): ∃ad cap,v=.slice ad s.size cap/\cap<=maxLen/\s.size<=cap:=by
 rcases h.2 with⟨h1,h2⟩|⟨g,cap,cur,hv,_,_,h4,h3,_⟩
 ·exact⟨_,_,by rw[h1,h2],by simp,by omega⟩
 ·exact⟨_,_,hv,h3,h4⟩
theorem OP(n:Int):strCells (cz n)= [.int .u8 (n / 16777216%256),.int .u8 (n / 65536%256),.int .u8 (n / 256%256),.int .u8 (n%256)]:=by
 simp[strCells,cz,rp]
theorem jA(n:Int):strCells (ax n)= [.int .u8 (n%256)]:=by
 simp[strCells,ax,rp]
theorem tn(B:Nat)(v:Value)(s:ByteArray)(n:Int)(w:World)(h:aH w B v s)(hB:B<=w.heap.size)(hlen:s.size+4<=140737488355328):
  Calls aa.prog 94 #[v,.int .i64 n] w λe w'=>∃v',e=.returned v'/\aH w' B v' (s++cz n)/\bE w w' v v':=by
 obtain⟨i0,hi0,hz0,hz1,hz2⟩:=Xm aa.oP;have H:Hid (aH w B v s):=h;clear h;go_enter aa.func94,aa.ntmps94;go_wp2_with (at_builtin;refine jm _ rfl _ _ _ rfl B 5 i0 _ 1 1 aa.underlying48 hi0 hz0 hz1 hz2 rfl (by omega) v _ _ rfl (Xh H.out _) ⟨w.heap.size,0,none⟩ 4 4 _ rfl (by rfl) (Xr (BY w _)) (by simp[Value.oneCell']) (by omega) (by unfold maxLen;omega) (by omega) (by simp;omega) ?_;intro g capn w1 aD hgr)
 go_ret;refine⟨_,rfl,aH.of aD rfl ?_,(((bE.refl w v).alloc _).trans hgr)⟩;rw[OP]
theorem GH(B:Nat)(v:Value)(s t:ByteArray)(w:World)(h:aH w B v s)(hB:B<=w.heap.size)(hlen:s.size+1+t.size<=140737488355328):
  Calls aa.prog 93 #[v,.string t] w λe w'=>∃v',e=.returned v'/\aH w' B v' (s++(ax t.size++t))/\bE w w' v v':=by
 obtain⟨i0,hi0,hz0,hz1,hz2⟩:=Xm aa.oP;have H:Hid (aH w B v s):=h;clear h;go_enter aa.func93,aa.ntmps93;go_wp2_with (first
  |(at_builtin;refine jm _ rfl _ _ _ rfl B 5 i0 _ 1 1 aa.underlying48 hi0 hz0 hz1 hz2 rfl (by omega) v _ _ rfl (Xh H.out _) ⟨w.heap.size,0,none⟩ 1 1 _ rfl (by rfl) (Xr (BY w _)) (by simp[Value.oneCell']) (by omega) (by unfold maxLen;omega) (by omega) (by simp;omega) ?_;intro g capn w1 aD hgr;have HO:Hid _:=aD;have HG:Hid _:=hgr;clear aD hgr)
  |(at_builtin;refine Lf _ rfl _ _ _ _ rfl B 5 i0 aa.underlying48 aa.underlying9 hi0 hz0 hz1 hz2 _ _ _ rfl HO.out t rfl (by unfold maxLen;omega) (by omega) (by have:=HG.out.grown.size;simp at this;omega) ?_;intro v2 w2 hown2 hgr2))
 go_ret;refine⟨_,rfl,?_,(((bE.refl w v).alloc _).trans HG.out).trans hgr2⟩;rw[X4,Nat.add_assoc]at hown2;refine aH.of hown2 (by rw[IS,da]) ?_;rw[oW,jA]
def fF(d:Int):Nat->ByteArray
 |0=>ByteArray.empty
 |k+1=>fF d k++ax (d / 2 ^ (56-8*k))
def fW(d:Int):ByteArray:=fF d 8
theorem rn(d:Int):∀k,(fF d k).size=k
 |0=>rfl
 |k+1=>by rw[fF,IS,rn d k,da]
theorem gN(s:ByteArray):s++ByteArray.empty=s:=by
 apply Yp;simp
theorem iZ(s:ByteArray):ByteArray.empty++s=s:=by
 apply Yp;simp
theorem bY(a b c:ByteArray):a++b++c=a++(b++c):=by
 apply Yp;simp[ByteArray.data_append]
theorem wL(B:Nat)(v:Value)(s:ByteArray)(d:Int)(w:World)(h:aH w B v s)(hB:B<=w.heap.size)(hlen:s.size+8<=140737488355328):
  Calls aa.prog 50 #[v,.int .u64 d] w λe w'=>∃v',e=.returned v'/\aH w' B v' (s++fW d)/\bE w w' v v':=by
 obtain⟨i0,hi0,hz0,hz1,hz2⟩:=Xm aa.oP;have H:Hid (aH w B v s):=h;clear h;go_enter aa.func50,aa.ntmps50;go_wp2;go_loopw [0,5] (λo i wr=>∃k:Nat,k<=8/\i=.int .i64 (56-8*(k:Int))/\Hid (aH wr B o (s++fF d k))/\Hid (bE w wr v o)) (λ_ i _=>((intOf i)+8).toNat)
 case atStart=>exact⟨0,by omega,rfl,by show aH _ _ _ _;rw[fF,gN];exact H.out,bE.refl w v⟩
 case round=>
  obtain⟨k,hk,rfl,hrow,hgr⟩:=hrel;by_cases hlt:k<8
  ·have g1:(0:Int)<=56-8*(k:Int):=by omega
   have g2:56-8*(k:Int)<=64:=by omega
   have hsz:B<=wr.heap.size:=by have:=hgr.out.grown.size;omega
   have hl2:(s++fF d k).size+1<=140737488355328:=by rw[IS,rn];omega
   have HN:Hid ((56-8*(k:Int)).toNat=56-8*k):=(show (56-8*(k:Int)).toNat=56-8*k by omega)
   have HR:Hid (aH wr B u0 (s++fF d k)):=hrow.out;have HG:Hid (bE w wr v u0):=hgr.out;clear hrow hgr;generalize hst:s++fF d k=st at*;have HST:Hid (st=s++fF d k):=hst.symm;clear hst;go_wp2_with (at_builtin;refine jm _ rfl _ _ _ rfl B 5 i0 _ 1 1 aa.underlying48 hi0 hz0 hz1 hz2 rfl (by omega) u0 _ _ rfl (Xh HR.out _) ⟨wr.heap.size,0,none⟩ 1 1 _ rfl (by rfl) (Xr (BY wr _)) (by simp[Value.oneCell']) (by omega) (by unfold maxLen;omega) (by omega) (by simp;omega) ?_;intro g capn w1 aD hgr1)
   refine⟨⟨k+1,by omega,by go_num,?_,(HG.out.alloc _).trans hgr1⟩,by simp[intOf];omega⟩;show aH _ _ _ _;rw[fF,<-bY,<-HST.out];refine aH.of aD rfl ?_;rw[jA,<-HN.out]
  ·obtain rfl:k=8:=by omega
   have HR:Hid (aH wr B u0 (s++fF d 8)):=hrow.out;have HG:Hid (bE w wr v u0):=hgr.out;clear hrow hgr;go_wp2;go_ret;exact⟨_,rfl,HR.out,HG.out⟩
end
section
open Go.Lib (strCells strCells_length strCells_oneCell)
def dJ(t:ByteArray):ByteArray:=ax t.size++t
def gT(c:Ctx):Nat->ByteArray
 |0=>ByteArray.empty
 |k+1=>gT c k++cz (c k)
def kr(c:Ctx):ByteArray:=gT c 4
def fT(v:aj):ByteArray:=ax v.rep++(cz v.n++dJ v.val)
def dz(l:List aj):ByteArray:=l.foldl (λs v=>s++fT v) ByteArray.empty
def dc(key:ByteArray)(c:Ctx)(l:List aj):ByteArray:=dJ key++(kr c++(cz l.length++dz l))
theorem rh(t:ByteArray):(dJ t).size=1+t.size:=by rw[dJ,IS,da]
theorem vC(c:Ctx):∀k,(gT c k).size=4*k
 |0=>rfl
 |k+1=>by rw[gT,IS,vC c k,jP];omega
theorem Gx(v:aj):(fT v).size=6+v.val.size:=by
 rw[fT,IS,IS,da,jP,rh];omega
theorem RO(l:List aj)(v:aj):dz (l++ [v])=dz l++fT v:=by
 simp[dz,List.foldl_append]
theorem Ez(h:k<l.length):dz (l.take (k+1))=dz (l.take k)++fT l[k]:=by
 rw[Xq h,RO]
theorem IE(l:List aj):∀k,(dz (l.take k)).size<=(dz l).size:=λk=>by
 have key:∀(m:List aj) (s:ByteArray),s.size<=(m.foldl (λs v=>s++fT v) s).size:=λm=>by
  induction m with
  |nil=>intro s;exact iR _
  |cons v m ih=>intro s;refine Xb ?_ (ih (s++fT v));rw[IS];omega
 conv=>rhs;rw[<-List.take_append_drop k l]
 rw[dz,dz,List.foldl_append];exact key _ _
theorem Hq(key:ByteArray)(c:Ctx)(l:List aj):(dc key c l).size=21+key.size+(dz l).size:=by
 simp only[dc,kr,IS,rh,vC,jP];omega
def jU(key:ByteArray)(c:Ctx)(sv:Value):List Value:=[.string key,.int .i64 (c 0),.int .i64 (c 1),.int .i64 (c 2),.int .i64 (c 3),sv]
theorem aC.mW{w:World}{v':Value}(h:aC w sv l)(hr:aH w B v s)(hg:bE w w' v v'):aC w' sv l:=by
 refine⟨h.1,?_⟩;rcases h.2 with h2|⟨g,cap,cur,hv,hb,hh,r⟩
 ·exact Or.inl h2
 ·exact Or.inr ⟨g,cap,cur,hv,hb,hg.other hr hh (by decide),r⟩
theorem nJ{w:World}{fr:Nat×Nat}(h:w.heap[b]?=some (.cells cs t fr))(o:Nat):w.cell? ⟨b,o,none⟩=cs[o]? :=by
 simp[World.cell?,h]
theorem kA(w:World)(x o:Obj):((w.alloc x).alloc o).heap[w.heap.size+1]?=some o:=by
 have:=BY (w.alloc x) o;simpa using this
theorem De(B:Nat)(v:Value)(s key:ByteArray)(c:Ctx)(sv:Value)(l:List aj)(w:World)(h:aH w B v s)(hB:B<=w.heap.size)(hv:aC w sv l)(hl:l.length<=100000)(hlen:s.size+(dc key c l).size<=140737488355328):
  Calls aa.prog 70 #[.agg (jU key c sv).toArray,v] w λe w'=>∃v',e=.returned v'/\aH w' B v' (s++dc key c l)/\bE w w' v v':=by
 obtain⟨i0,hi0,hz0,hz1,hz2⟩:=Xm aa.oP;rw[Hq]at hlen;obtain⟨ad,cap,rfl,hcap⟩: ∃ad cap,sv=.slice ad l.length cap/\(cap:Int)<=9223372036854775807:=by
  rcases hv.2 with⟨h1,h2⟩|⟨g,cap,cur,hv,_,_,_,h3,_⟩
  ·exact⟨_,_,by rw[h1,h2],by simp⟩
  ·exact⟨_,_,hv,by unfold maxLen at h3;omega⟩
 have H:Hid (aH w B v s):=h;have HV:Hid (aC w (.slice ad l.length cap) l):=hv;clear h hv;have hb0:=BY w (.cells #[.string key,.int .i64 (c 0),.int .i64 (c 1),.int .i64 (c 2),.int .i64 (c 3),.slice ad l.length cap] 151);have HBx:Hid ((w.alloc (.cells #[.string key,.int .i64 (c 0),.int .i64 (c 1),.int .i64 (c 2),.int .i64 (c 3),.slice ad l.length cap] 151)).heap[w.heap.size]?=some (.cells #[.string key,.int .i64 (c 0),.int .i64 (c 1),.int .i64 (c 2),.int .i64 (c 3),.slice ad l.length cap] 151)):=hb0;clear hb0;have HA:Hid (aH (w.alloc (.cells #[.string key,.int .i64 (c 0),.int .i64 (c 1),.int .i64 (c 2),.int .i64 (c 3),.slice ad l.length cap] 151)) B v s):=H.out.alloc _;have HGA:Hid (bE w (w.alloc (.cells #[.string key,.int .i64 (c 0),.int .i64 (c 1),.int .i64 (c 2),.int .i64 (c 3),.slice ad l.length cap] 151)) v v):=(bE.refl w v).alloc _;simp only[jU];go_enter aa.func70,aa.ntmps70;go_wp2_with (go_at_call 93;refine (GH B v s key _ HA.out (by simp;omega) (by omega)).mono ?_;rintro e w1 ⟨v1,rfl,hr1,hg1⟩;have hb1:=hg1.other HA.out HBx.out (by decide);have k1:=nJ hb1 1;have k2:=nJ hb1 2;have k3:=nJ hb1 3;have k4:=nJ hb1 4;have HB1:Hid (w1.heap[w.heap.size]?=some (.cells #[.string key,.int .i64 (c 0),.int .i64 (c 1),.int .i64 (c 2),.int .i64 (c 3),.slice ad l.length cap] 151)):=hb1;have HR1:Hid (aH w1 B v1 (s++dJ key)):=hr1;have HG1:Hid (bE w w1 v v1):=HGA.out.trans hg1;simp at k1 k2 k3 k4;clear hb1 hr1 hg1)
 have HKs:Hid (w1.cell? ⟨w.heap.size,1,none⟩=some (.int .i64 (c 0))/\w1.cell? ⟨w.heap.size,2,none⟩=some (.int .i64 (c 1))/\w1.cell? ⟨w.heap.size,3,none⟩=some (.int .i64 (c 2))/\w1.cell? ⟨w.heap.size,4,none⟩=some (.int .i64 (c 3))):=⟨k1,k2,k3,k4⟩
 clear k1 k2 k3 k4;go_loopw [1,16] (λo i wr=>∃k:Nat,k<=4/\i=.int .i64 k/\Hid (aH wr B o (s++dJ key++gT c k))/\Hid (bE w wr v o)/\Hid (wr.heap[w.heap.size]?=some (.cells #[.string key,.int .i64 (c 0),.int .i64 (c 1),.int .i64 (c 2),.int .i64 (c 3),.slice ad l.length cap] 151))) (λ_ i _=>4-(intOf i).toNat)
 case atStart=>exact⟨0,by omega,rfl,by show aH _ _ _ _;rw[gT,gN];exact HR1.out,HG1.out,HB1.out⟩
 case round=>
  obtain⟨k,hk,rfl,hr,hg,hb⟩:=hrel;have hsz:B<=wr.heap.size:=by have:=hg.out.grown.size;omega
  have HR:Hid (aH wr B u1 (s++dJ key++gT c k)):=hr.out;have HG:Hid (bE w wr v u1):=hg.out;have HB:Hid (wr.heap[w.heap.size]?=some (.cells #[.string key,.int .i64 (c 0),.int .i64 (c 1),.int .i64 (c 2),.int .i64 (c 3),.slice ad l.length cap] 151)):=hb.out;clear hr hg hb;have hls:(s++dJ key++gT c k).size+4<=140737488355328:=by rw[IS,IS,rh,vC];omega
  by_cases hlt:k<4
  ·have HS:Hid (∀n:Int,n=c k->s++dJ key++gT c k++cz n=s++dJ key++gT c (k+1)):=λn hn=>by rw[hn,gT,bY]
   generalize hst:s++dJ key++gT c k=st at*;clear hst;rcases fp hlt with rfl|rfl|rfl|rfl
   all_goals
    have hix:=sU;go_wp2_with (go_at_call 94;refine (tn B u1 st _ wr HR.out hsz hls).mono ?_;rintro e w2 ⟨v2,rfl,hr2,hg2⟩;have hb2:=hg2.other HR.out HB.out (by decide);have HB2:Hid (w2.heap[w.heap.size]?=some (.cells #[.string key,.int .i64 (c 0),.int .i64 (c 1),.int .i64 (c 2),.int .i64 (c 3),.slice ad l.length cap] 151)):=hb2;have HR2:Hid _:=hr2;have HG2:Hid (bE w w2 v v2):=HG.out.trans hg2;clear hb2 hr2 hg2)
    have hr3:=HR2.out;rw[HS.out _ rfl]at hr3;exact⟨⟨_,by omega,by go_num,hr3,HG2.out,HB2.out⟩,by simp[intOf]⟩
  ·obtain rfl:k=4:=by omega
   have HRc:Hid (aH wr B u1 (s++dJ key++kr c)):=HR.out;clear HR;have hls':(s++dJ key++kr c).size+4+(dz l).size<=140737488355328:=by rw[IS,IS,rh,kr,vC];omega
   clear hls;have k5:=nJ HB.out 5;simp at k5;have HVr:Hid (aC wr (.slice ad l.length cap) l):=HV.out.mW H.out HG.out;have HE:Hid (s++dJ key++kr c++(cz l.length++dz l)=s++dc key c l):=(show s++dJ key++kr c++(cz l.length++dz l)=s++dc key c l by simp only[dc,bY])
   generalize hst:s++dJ key++kr c=st at*;clear hst;go_wp2_with (go_at_call 94;refine (tn B u1 st _ wr HRc.out hsz (by omega)).mono ?_;rintro e w2 ⟨v2,rfl,hr2,hg2⟩;have hb2:=hg2.other HRc.out HB.out (by decide);have k6:=nJ hb2 5;simp at k6;have HR2:Hid (aH w2 B v2 (st++cz l.length)):=hr2;have HV2:Hid (aC w2 (.slice ad l.length cap) l):=HVr.out.mW HRc.out hg2;have HG2:Hid (bE w w2 v v2):=HG.out.trans hg2;clear hb2 hr2 hg2)
   have HS2:Hid (s++dc key c l=st++cz l.length++dz l):=(show s++dc key c l=st++cz l.length++dz l by rw[<-HE.out,bY])
   clear HE HV HVr HRc HB k5 k6 HG;have hsz2:B<=w2.heap.size:=by have:=HG2.out.grown.size;omega
   have hl2:(st++cz l.length).size+(dz l).size<=140737488355328:=by rw[IS,jP];omega
   generalize hsu:st++cz l.length=su at*;clear hsu;go_loopw [1,33] (λo i wz=>∃k:Nat,k<=l.length/\i=.int .i64 k/\Hid (aH wz B o (su++dz (l.take k)))/\Hid (bE w2 wz v2 o)) (λ_ i _=>l.length-(intOf i).toNat)
   case atStart=>exact⟨0,by omega,rfl,by show aH _ _ _ _;rw[List.take_zero,show dz []=ByteArray.empty from rfl,gN];exact HR2.out,bE.refl _ _⟩
   case round=>
    obtain⟨k,hk,rfl,hr,hg⟩:=hrel;have hsz:B<=wr.heap.size:=by have:=hg.out.grown.size;omega
    have HR:Hid (aH wr B u1 (su++dz (l.take k))):=hr.out;have HG:Hid (bE w2 wr v2 u1):=hg.out;clear hr hg;by_cases hlt:k<l.length
    ·have HVz:aC wr (.slice ad l.length cap) l:=HV2.out.mW HR2.out HG.out;obtain⟨g,cap',hsv',hgl,_,_,c0,c1,c2⟩:=aC.cells HVz hlt;cases hsv';have htk:=IE l (k+1);rw[Ez hlt,IS,Gx]at htk;have HT:Hid (su++dz (l.take k)++fT l[k]=su++dz (l.take (k+1))):=(show su++dz (l.take k)++fT l[k]=su++dz (l.take (k+1)) by rw[Ez hlt,bY])
     have hls:(su++dz (l.take k)).size+6+l[k].val.size<=140737488355328:=by rw[IS];omega
     clear htk HVz;have HVe:Hid (fT l[k]=ax l[k].rep++(cz l[k].n++dJ l[k].val)):=rfl;generalize su++dz (l.take k)=sk at*;generalize fT l[k]=vb at*;generalize l[k].rep=r at*;generalize l[k].n=n at*;generalize l[k].val=val at*;have g63:(k:Int)<(l.length:Int):=by omega
     have k0:(0:Int)<=(k:Int):=by omega
     have HRa:Hid (aH (wr.alloc (.cells #[.int .i64 r,.int .i64 n,.string val] 144)) B u1 sk):=HR.out.alloc _;have HBa:Hid ((wr.alloc (.cells #[.int .i64 r,.int .i64 n,.string val] 144)).heap[wr.heap.size]?=some (.cells #[.int .i64 r,.int .i64 n,.string val] 144)):=BY wr _;go_wp2_with (first
      |(at_builtin;refine jm _ rfl _ _ _ rfl B 5 i0 _ 1 1 aa.underlying48 hi0 hz0 hz1 hz2 rfl (by omega) u1 _ _ rfl (Xh HRa.out _) ⟨wr.heap.size+1,0,none⟩ 1 1 _ rfl (by rfl) (Xr (kA wr _ _)) (by simp[Value.oneCell']) (by omega) (by unfold maxLen;omega) (by omega) (by simp;omega) ?_;intro g3 cap3 w3 hown3 hgr3;have HR3:Hid (aH w3 B _ (sk++ax r)):=aH.of hown3 rfl (jA r).symm;have HG3:Hid (bE wr w3 u1 _):=(((bE.refl wr u1).alloc _).alloc _).trans hgr3;have hb3:=hgr3.other (Xh HRa.out _) ((OF _ _ _ (by simp)).trans HBa.out) (by decide);have k7:=nJ hb3 1;simp at k7;have hsz3:B<=w3.heap.size:=Xb hsz HG3.out.grown.size;have HB3:Hid (w3.heap[wr.heap.size]?=some (.cells #[.int .i64 r,.int .i64 n,.string val] 144)):=hb3;clear hown3 hgr3 hb3)
      |(go_at_call 94;refine (tn B _ _ _ w3 HR3.out hsz3 (by rw[IS,da];omega)).mono ?_;rintro e w4 ⟨v4,rfl,hr4,hg4⟩;have hb4:=hg4.other HR3.out HB3.out (by decide);have k8:=nJ hb4 2;simp at k8;have HR4:Hid (aH w4 B v4 (sk++ax r++cz n)):=hr4;have HG4:Hid (bE wr w4 u1 v4):=HG3.out.trans hg4;have hsz4:B<=w4.heap.size:=Xb hsz HG4.out.grown.size;clear hr4 hg4 hb4)
      |(go_at_call 93;refine (GH B _ _ _ w4 HR4.out hsz4 (by rw[IS,IS,da,jP];omega)).mono ?_;rintro e w5 ⟨v5,rfl,hr5,hg5⟩;have HR5:Hid (aH w5 B v5 (sk++ax r++cz n++dJ val)):=hr5;have HG5:Hid (bE wr w5 u1 v5):=HG4.out.trans hg5;clear hr5 hg5))
     refine⟨⟨k+1,by omega,by go_num,?_,HG.out.trans HG5.out⟩,by simp[intOf];omega⟩;show aH _ _ _ _;rw[<-HT.out,HVe.out,<-bY,<-bY];exact HR5.out
    ·obtain rfl:k=l.length:=by omega
     have HRe:Hid (aH wr B u1 (s++dc key c l)):=(by have:=HR.out;rw[Xx,<-HS2.out]at this;exact this)
     go_wp2;go_ret;exact⟨_,rfl,HRe.out,HG2.out.trans HG.out⟩
end
end Go.Proofs.YtldmcdeibiclkaaGreatDoorQ
