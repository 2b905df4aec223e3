/-
  Toward converged_holds: DERIVED: THE SHELF's CONTRACTS AT THIS DUMP, IN PLAIN WORDS (tools/lay-plain.mjs out of 'Y
-/
import Derived.Shelf.SlGeneric
import Derived.Shelf.SlIter.Nil
import Derived.Shelf.SortM.Plain
import Derived.Shelf.SortM.SortNone
import Derived.Ground.GgzProg
import Derived.Ground.SlgmProg
import Derived.Test.YtldmcdeibiclkaaGreatDoorC15
import Derived.Test.YtldmcdeibiclkaaGreatDoorC17
import Derived.Test.YtldmcdeibiclkaaGreatDoorC18
set_option linter.unusedVariables false
set_option linter.unusedSimpArgs false
set_option maxRecDepth 100000
set_option maxHeartbeats 20000000
namespace Go.Proofs
section
open Go.Shelf
def aa.Ad:Go.Shelf.Ren:=⟨fun|7=>72|10=>97|n=>n,fun|23=>98|26=>9|3=>106|28=>155|0=>0|27=>154|33=>103|4=>4|n=>n,fun|n=>n⟩
theorem aa.EE:Go.Proofs.SlLaysZ.n7 aa.prog aa.Ad:={
 mixed:=by kernel_rfl
 f7:=⟨aa.f72.name,by decide,aa.func72.trans (congrArg some (by kernel_rfl))⟩
 f10:=⟨aa.f97.name,by decide,aa.func97.trans (congrArg some (by kernel_rfl))⟩
 t0:=aa.underlying0
 a0:=aa.isAgg0
 z0:=aa.sizeOf0
 v0:=aa.zeroValue0
 t4:=aa.underlying4
 a4:=aa.isAgg4
 z4:=aa.sizeOf4
 v4:=aa.zeroValue4
 t23:=aa.underlying98
 a23:=aa.isAgg98
 z23:=aa.sizeOf98
 v23:=aa.zeroValue98
 t26:=aa.underlying9
 a26:=aa.isAgg9
 z26:=aa.sizeOf9
 v26:=aa.zeroValue9
 t27:=aa.underlying154
 a27:=aa.isAgg154
 z27:=aa.sizeOf154
 v27:=aa.zeroValue154
 t28:=aa.underlying155
 a28:=aa.isAgg155
 z28:=aa.sizeOf155
 v28:=aa.zeroValue155
 t33:=aa.underlying103
 a33:=aa.isAgg103
 z33:=aa.sizeOf103
 v33:=aa.zeroValue103}
def aa.FY:Go.Shelf.Ren:=⟨fun|6=>71|8=>95|9=>96|11=>136|13=>85|12=>137|23=>115|24=>116|14=>152|15=>153|16=>154|17=>155|18=>156|19=>157|20=>158|21=>159|22=>160|25=>163|26=>143|27=>144|28=>164|29=>165|30=>166|31=>167|n=>n,fun|26=>9|28=>155|24=>38|0=>0|3=>3|37=>175|48=>186|50=>44|4=>4|40=>200|39=>199|45=>55|5=>5|9=>9|51=>225|55=>228|57=>242|58=>243|33=>103|n=>n,fun|n=>n⟩
theorem aa.Rz:Go.Proofs.SlLaysZ.n6 aa.prog aa.FY:={
 mixed:=by kernel_rfl
 f6:=⟨aa.f71.name,by decide,aa.func71.trans (congrArg some (by kernel_rfl))⟩
 f8:=⟨aa.f95.name,by decide,aa.func95.trans (congrArg some (by kernel_rfl))⟩
 f11:=⟨aa.f136.name,by decide,aa.func136.trans (congrArg some (by kernel_rfl))⟩
 t0:=aa.underlying0
 a0:=aa.isAgg0
 z0:=aa.sizeOf0
 v0:=aa.zeroValue0
 t24:=aa.underlying38
 a24:=aa.isAgg38
 z24:=aa.sizeOf38
 v24:=aa.zeroValue38
 t26:=aa.underlying9
 a26:=aa.isAgg9
 z26:=aa.sizeOf9
 v26:=aa.zeroValue9
 t28:=aa.underlying155
 a28:=aa.isAgg155
 z28:=aa.sizeOf155
 v28:=aa.zeroValue155
 i26:=by kernel_rfl}
def aa.MI:Go.Shelf.Ren:=⟨fun|6=>96|8=>85|9=>137|19=>115|20=>116|21=>152|22=>153|23=>154|24=>155|25=>156|26=>157|27=>158|28=>159|29=>160|36=>163|31=>143|32=>144|37=>164|38=>165|39=>166|41=>167|n=>n,fun|27=>38|29=>9|3=>3|32=>175|26=>38|0=>0|44=>186|46=>44|4=>4|36=>200|35=>199|41=>55|5=>5|9=>9|53=>225|57=>228|63=>242|64=>243|n=>n,fun|n=>n⟩
theorem aa.Dp:Go.Proofs.SlLaysM.n6 aa.prog aa.MI:={
 mixed:=by kernel_rfl
 f6:=⟨aa.f96.name,by decide,aa.func96.trans (congrArg some (by kernel_rfl))⟩
 f8:=aa.func85.trans (congrArg some (by kernel_rfl))
 f9:=⟨aa.f137.name,by decide,aa.func137.trans (congrArg some (by kernel_rfl))⟩
 f19:=aa.func115.trans (congrArg some (by kernel_rfl))
 f20:=aa.func116.trans (congrArg some (by kernel_rfl))
 f21:=⟨aa.f152.name,by decide,aa.func152.trans (congrArg some (by kernel_rfl))⟩
 f22:=⟨aa.f153.name,by decide,aa.func153.trans (congrArg some (by kernel_rfl))⟩
 f23:=⟨aa.f154.name,by decide,aa.func154.trans (congrArg some (by kernel_rfl))⟩
 f24:=⟨aa.f155.name,by decide,aa.func155.trans (congrArg some (by kernel_rfl))⟩
 f25:=⟨aa.f156.name,by decide,aa.func156.trans (congrArg some (by kernel_rfl))⟩
 f26:=⟨aa.f157.name,by decide,aa.func157.trans (congrArg some (by kernel_rfl))⟩
 f27:=⟨aa.f158.name,by decide,aa.func158.trans (congrArg some (by kernel_rfl))⟩
 f28:=⟨aa.f159.name,by decide,aa.func159.trans (congrArg some (by kernel_rfl))⟩
 f29:=⟨aa.f160.name,by decide,aa.func160.trans (congrArg some (by kernel_rfl))⟩
 f31:=aa.func143.trans (congrArg some (by kernel_rfl))
 f32:=aa.func144.trans (congrArg some (by kernel_rfl))
 f36:=⟨aa.f163.name,by decide,aa.func163.trans (congrArg some (by kernel_rfl))⟩
 f37:=⟨aa.f164.name,by decide,aa.func164.trans (congrArg some (by kernel_rfl))⟩
 f38:=⟨aa.f165.name,by decide,aa.func165.trans (congrArg some (by kernel_rfl))⟩
 f39:=⟨aa.f166.name,by decide,aa.func166.trans (congrArg some (by kernel_rfl))⟩
 f41:=⟨aa.f167.name,by decide,aa.func167.trans (congrArg some (by kernel_rfl))⟩
 t0:=aa.underlying0
 a0:=aa.isAgg0
 z0:=aa.sizeOf0
 v0:=aa.zeroValue0
 t3:=aa.underlying3
 a3:=aa.isAgg3
 z3:=aa.sizeOf3
 v3:=aa.zeroValue3
 t4:=aa.underlying4
 a4:=aa.isAgg4
 z4:=aa.sizeOf4
 v4:=aa.zeroValue4
 t5:=aa.underlying5
 a5:=aa.isAgg5
 z5:=aa.sizeOf5
 v5:=aa.zeroValue5
 t9:=aa.underlying9
 a9:=aa.isAgg9
 z9:=aa.sizeOf9
 v9:=aa.zeroValue9
 t26:=aa.underlying38
 a26:=aa.isAgg38
 z26:=aa.sizeOf38
 v26:=aa.zeroValue38
 t27:=aa.underlying38
 a27:=aa.isAgg38
 z27:=aa.sizeOf38
 v27:=aa.zeroValue38
 t29:=aa.underlying9
 a29:=aa.isAgg9
 z29:=aa.sizeOf9
 v29:=aa.zeroValue9
 t32:=aa.underlying175
 a32:=aa.isAgg175
 z32:=aa.sizeOf175
 v32:=aa.zeroValue175
 t35:=aa.underlying199
 a35:=aa.isAgg199
 z35:=aa.sizeOf199
 v35:=aa.zeroValue199
 t36:=aa.underlying200
 a36:=aa.isAgg200
 z36:=aa.sizeOf200
 v36:=aa.zeroValue200
 t41:=aa.underlying55
 a41:=aa.isAgg55
 z41:=aa.sizeOf55
 v41:=aa.zeroValue55
 t44:=aa.underlying186
 a44:=aa.isAgg186
 z44:=aa.sizeOf186
 v44:=aa.zeroValue186
 t46:=aa.underlying44
 a46:=aa.isAgg44
 z46:=aa.sizeOf44
 v46:=aa.zeroValue44
 t53:=aa.underlying225
 a53:=aa.isAgg225
 z53:=aa.sizeOf225
 v53:=aa.zeroValue225
 t57:=aa.underlying228
 a57:=aa.isAgg228
 z57:=aa.sizeOf228
 v57:=aa.zeroValue228
 t63:=aa.underlying242
 a63:=aa.isAgg242
 z63:=aa.sizeOf242
 v63:=aa.zeroValue242
 t64:=aa.underlying243
 a64:=aa.isAgg243
 z64:=aa.sizeOf243
 v64:=aa.zeroValue243}
end
end Go.Proofs
section
namespace Go.Proofs
open Go.RowKit Go.Maps Go.Sort Go.Shelf
namespace YtldmcdeibiclkaaGreatDoorQ
open Go.WideElems (Fit rd rg rd_mk)
theorem Q4(m:Nat):AnyZ.SortsIn aa.prog aa.FY Fence.wide m:=
 ⟨λblk off cap ss W hH hblk hsz=>callsIn_wide.2 (AnyM.slices_Sort_string aa.Dp blk off cap ss W hH hblk hsz),
  λp cap W=>callsIn_wide.2 (AnyM.slices_Sort_string_none aa.Dp p cap W)⟩
theorem R2(mb:Option Nat)(W:World):Calls aa.prog 72 #[.map mb] W λe w'=>e=.returned (.func (.func 97) #[] #[.pointer (some ⟨W.heap.size,0,none⟩)])/\w'=W.alloc (.cells #[.map mb] 98):=
 callsIn_wide.1 (AnyZ.keys_in aa.EE Fence.wide 5 trivial rfl mb W)
theorem KO(b nn:Nat)(D0:DataW Unit)(R:Value->Option (DataW Unit×List MemPlace))(w:World)(aD:w.ownsMap aa.prog 9 R b nn D0)(hmax:Maps.size D0<=maxLen)(hbytes:Maps.size D0*16<=140737488355328):
  Calls aa.prog 71 #[.func (.func 97) #[] #[.pointer (some ⟨w.heap.size,0,none⟩)]] (w.alloc (.cells #[.map (some b)] 98)) λe w'=>∃(v:Value) (ss:List (List UInt8)),e=.returned v/\ss.Perm (strKeys D0)/\
   w'.ownsRow (w.heap.size+1) 9 1 v ss.length ((ss.mergeSort (λx y=>decide (x<=y))).map encStr)/\Below (w.alloc (.cells #[.map (some b)] 98)).heap.size (w.alloc (.cells #[.map (some b)] 98)) w':=by
 have hbl:=aD.lt;have eH:SeqGives Fence.wide 2 aa.prog 97 #[.pointer (some ⟨w.heap.size,0,none⟩)] encStr (λss=>ss.Perm (strKeys D0)) (Maps.size D0) (w.alloc (.cells #[.map (some b)] 98)):=
  AnyZ.keys_gives (ρ:=aa.Ad) {aa.EE with} Fence.wide _ trivial rfl (by omega) w.heap.size b nn D0 _ (by simp) (by simp) (by
   obtain⟨es,clock,hb,Ft,hs,hD⟩:=aD;exact⟨es,clock,(Vx _ _ b hbl).trans hb,Ft,hs,hD⟩)
 have h:=AnyZ.sorted_in aa.Rz Fence.wide 5 trivial trivial trivial trivial rfl (by omega) (Q4 _) (enters_of aa.func96 (by kernel_rfl) rfl) 97 #[.pointer (some ⟨w.heap.size,0,none⟩)] trivial (enters_of aa.func97 (by kernel_rfl) rfl) _ _ hmax hbytes _ eH;refine (callsIn_wide.1 h).mono ?_;rintro e w' ⟨v,ss,h1,h2,h3,_,h5⟩;rw[show (w.alloc (.cells #[.map (some b)] 98)).heap.size=w.heap.size+1 by simp]at h3;exact⟨v,ss,h1,h2,h3,h5⟩
def oO(e:MapEntry):List UInt8:=match e.key with
 |.string k=>k.data.toList
 |_=>[]
def cX(es:List MapEntry):List (List UInt8):=es.map oO
def rE:Value->Option (DataW Unit×List MemPlace):=λ_=>some (.nil,[])
theorem Ia{e:MapEntry}{k:ByteArray}(he:e.key=.string k)(hk:k.size<=maxLen):rd aa.prog 9 rE e=some (.string k.data.toList,.nil):=by
 obtain⟨key,val,born⟩:=e;subst he;exact rd_mk (R:=rE) (yv:=(.nil,[])) (Go.WideMaps.keyOf_string_mk aa.underlying9 hk) rfl
theorem Qp{w:World}{m:Nat}{es:Array MapEntry}{clock:Nat}{Q:ByteArray->Prop}(hm:w.heap[m]?=some (.map es clock))(hst:j8 Q es.toList clock)(hQ:∀k,Q k->k.size<=maxLen)(hsz:es.size<=maxLen):
  ∃D0:DataW Unit,w.ownsMap aa.prog 9 rE m es.size D0/\Maps.size D0=es.size/\(strKeys D0).Perm (cX es.toList):=by
 obtain⟨h1,h2,h3,h4⟩:=hst;have hrd:∀x∈es.toList,∃k,x.key=.string k/\rd aa.prog 9 rE x=some (.string k.data.toList,.nil):=λx hx=>by
  obtain⟨k,hk,hq⟩:=h4 x hx;exact⟨k,hk,Ia hk (hQ k hq)⟩
 refine⟨_,⟨es,clock,hm,⟨hsz,⟨h3,h2,h1⟩,λx hx=>(hrd x hx).elim λk hk=>⟨_,hk.2⟩⟩,eR _,rfl⟩,?_,?_⟩
 ·show List.length _=_;rw[(Go.WideShapes.sorted_perm _).length_eq];simp
 ·show (List.map _ _).Perm _;refine ((Go.WideShapes.sorted_perm _).map _).trans (List.Perm.of_eq ?_);rw[WN,cX];apply Wb;intro x hx;obtain⟨k,hk,hr⟩:=hrd x hx;simp[rg,hr,strOf,oO,hk]
end YtldmcdeibiclkaaGreatDoorQ
end Go.Proofs
end
namespace Go.Proofs.YtldmcdeibiclkaaGreatDoorQ
variable {w wr w1:World}{xs:List Value}{v:Value}{B b k bo i:Nat}{t e:TypeId}{s key:ByteArray}{A:Array Value}{Q:ByteArray->Prop}{l:List aj}
open Go.RowKit
section
open Go.Lib (strCells strCells_length strCells_oneCell)
theorem aa.BV:(aa.prog.info? 151).map (λi=>(i.zero,i.size,i.bytes))=some (some (.agg #[.string ⟨#[]⟩,.int .i64 0,.int .i64 0,.int .i64 0,.int .i64 0,.slice none 0 0]),6,72):=by kernel_rfl
def eP(ss:List (List UInt8)):List (List UInt8):=ss.mergeSort λx y=>decide (x<=y)
theorem oe(ss:List (List UInt8)):(eP ss).Perm ss:=List.mergeSort_perm ss _
def dF(x:List UInt8):ByteArray:=⟨x.toArray⟩
theorem sW(k:ByteArray):dF k.data.toList=k:=by
 apply WV;simp[dF]
def dN(K:al)(es:List MapEntry):List (ByteArray×Ctx×List aj):=(eP (cX es)).map λx=>(dF x,(K (dF x)).1,(K (dF x)).2)
def kL(l:List (ByteArray×Ctx×List aj)):ByteArray:=l.foldl (λs r=>s++dp r.1 r.2.1 r.2.2) ByteArray.empty
def Rc.bV(r:Rc):ByteArray×Ctx×List aj:=(r.key,r.c,r.l)
theorem yX(rs:List Rc):cZ rs=kL (rs.map Rc.bV):=by
 simp[cZ,kL,List.foldl_map,Rc.bV]
theorem qL{es:List MapEntry}(h:∀e∈es,∃k,e.key=.string k/\Q k){x:List UInt8}(hx:x∈eP (cX es)):Q (dF x):=by
 rw[(oe _).mem_iff,cX,Wm]at hx;obtain⟨e,he,rfl⟩:=hx;obtain⟨k,hk,hq⟩:=h e he;simpa[oO,hk,sW] using hq
theorem jE{size n:Nat}(h:w.ownsRow B t size v n xs): ∃ad cap,v=.slice ad n cap/\(cap:Int)<=9223372036854775807/\n<=cap:=by
 rcases h.2 with⟨h1,h2⟩|⟨g,cap,cur,hv,_,_,h4,h3,_⟩
 ·exact⟨_,_,by rw[h1,h2],by simp,by omega⟩
 ·exact⟨_,_,hv,by unfold maxLen at h3;omega,h4⟩
theorem tW{n:Nat}(h:w.ownsRow B t 1 v n xs){x:Value}(hx:xs[k]?=some x): ∃g cap,v=.slice (some ⟨g,0,none⟩) n cap/\g<w.heap.size/\w.cell? ⟨g,k,none⟩=some x:=by
 have hk:k<n:=by
  have h1:=h.1
  have:=(List.getElem?_eq_some_iff.1 hx).1;omega
 rcases h.2 with⟨_,h2⟩|⟨g,cap,cur,hv,_,hh,hn,hc,hs,ht⟩
 ·omega
 ·refine⟨g,cap,hv,(Array.getElem?_eq_some_iff.1 hh).1,?_⟩;rw[<-ht,List.getElem?_take,AS (by omega)]at hx;simpa[World.cell?,hh] using hx
theorem Ua{m:Nat}{es:Array MapEntry}{clock:Nat}(hm:w.heap[m]?=some (.map es clock))(hst:j8 Q es.toList clock)(hQ:∀k,Q k->k.size<=maxLen)(hsz:es.size<=300000000000):
  Calls aa.prog 71 #[.func (.func 97) #[] #[.pointer (some ⟨w.heap.size,0,none⟩)]] (w.alloc (.cells #[.map (some m)] 98)) λe w'=>∃v:Value,e=.returned v/\
   w'.ownsRow (w.heap.size+1) 9 1 v es.size ((eP (cX es.toList)).map encStr)/\Below w.heap.size w w':=by
 obtain⟨D0,aD,hD,hperm⟩:=Qp hm hst hQ (by unfold maxLen;omega);refine (KO m es.size D0 rE w aD (by rw[hD];unfold maxLen;omega) (by rw[hD];omega)).mono ?_;rintro e w1 ⟨v,ss,rfl,hp,hrow,hb⟩;have hss:ss.mergeSort (λx y=>decide (x<=y))=eP (cX es.toList):=mergeSort_of_perm (hp.trans hperm);have hl:ss.length=es.size:=by rw[(hp.trans hperm).length_eq,cX,VJ,Wc]
 rw[hss,hl]at hrow;exact⟨v,rfl,hrow,((AT _ _).alloc (eR _) _).trans (hb.mono (by simp))⟩
theorem Dn(m n:Nat)(K:al)(w:World)(es:Array MapEntry)(clock:Nat)(hm:w.heap[m]?=some (.map es clock))(hk:fB es.toList)(hall:∀s,aC s=n->∃sv,(cy es.toList s).getD lh=bD (K s).1 sv/\az w sv (K s).2)(hst:j8 (λk=>aC k=n/\k.size<=281474976710656/\cS k=true) es.toList clock)(hsz:es.size<=300000000000):
  Calls aa.prog 49 #[.map (some m)] w λe w'=>∃v rs,e=.returned v/\da w' w.heap.size v rs/\(∀r∈rs,az w' r.sv r.l)/\rs.map Rc.bV=dN K es.toList/\Below w.heap.size w w':=by
 obtain⟨svf,hsv⟩: ∃svf:ByteArray->Value,∀s,aC s=n->(cy es.toList s).getD lh=bD (K s).1 (svf s)/\az w (svf s) (K s).2:=by
  have:∀s,∃v,aC s=n->(cy es.toList s).getD lh=bD (K s).1 v/\az w v (K s).2:=λs=>by
   by_cases hs:aC s=n
   ·obtain⟨sv,h⟩:=hall s hs;exact⟨sv,λ_=>h⟩
   ·exact⟨.slice none 0 0,λh=>(hs h).elim⟩
  exact⟨λs=>(this s).choose,λs hs=>(this s).choose_spec hs⟩
 have hseg:∀x∈eP (cX es.toList),aC (dF x)=n:=λx hx=>(qL hst.2.2.2 hx).1;have hll:(eP (cX es.toList)).length=es.size:=by rw[(oe _).length_eq,cX,VJ,Wc]
 have hmlt:m<w.heap.size:=(Array.getElem?_eq_some_iff.1 hm).1;have HLk:Hid (∀s,aC s=n->∀W:World,W.heap[m]?=some (.map es clock)->(Instr.lookup 98 (.map (some m)) (.string s) false).run aa.prog W=.ok (bD (K s).1 (svf s)) W):=λs hs W hW=>by
  rw[ou W m es clock s hW hk,(hsv s hs).1]
 have HM:Hid (w.heap[m]?=some (.map es clock)):=hm;have HSv:Hid (∀s,aC s=n->az w (svf s) (K s).2):=λs hs=>(hsv s hs).2;have HSeg:Hid (∀x∈eP (cX es.toList),aC (dF x)=n):=hseg;have HKeys:Hid _:=R2 (some m) w;have HSort:Hid _:=Ua hm hst (λk h=>by have:=h.2.1;unfold maxLen;omega) hsz;have HRo:Hid (dN K es.toList=(eP (cX es.toList)).map λx=>(dF x,(K (dF x)).1,(K (dF x)).2)):=rfl;clear hsv hall hk hst hseg hm;generalize dN K es.toList=ro at*;obtain⟨i0,hi0,hz0,hz1,hz2⟩:=VH aa.BV;go_enter aa.func49,aa.ntmps49;go_wp2_with (first
  |(go_at_call 72;refine By HKeys.out ?_;rintro e w1 ⟨rfl,rfl⟩)
  |(go_at_call 71;refine By HSort.out ?_;rintro e w1 ⟨v1,rfl,hrow1,hb1⟩;obtain⟨ad,cap,rfl,hcap,hlc⟩:=jE hrow1;have HRow:Hid (w1.ownsRow (w.heap.size+1) 9 1 (.slice ad es.size cap) es.size ((eP (cX es.toList)).map encStr)):=hrow1;have HB1:Hid (Below w.heap.size w w1):=hb1;clear hrow1 hb1))
 clear HKeys HSort;have hz1':=HB1.out.size;obtain⟨L,hL⟩: ∃L,L=eP (cX es.toList):=⟨_,rfl⟩
 rw[<-hL]at hll HRow HSeg HRo;clear hL;obtain⟨rs,hrs⟩: ∃rs:List Rc,rs=L.map λx=>⟨dF x,(K (dF x)).1,svf (dF x),(K (dF x)).2⟩:=⟨_,rfl⟩
 have hrl:rs.length=es.size:=by rw[hrs,VJ,hll]
 have HGet:Hid (∀k (h:k<rs.length),rs[k].sv=svf rs[k].key/\rs[k].c=(K rs[k].key).1/\rs[k].l=(K rs[k].key).2/\aC rs[k].key=n/\(L.map encStr)[k]?=some (.string rs[k].key)):=λk h=>by
  subst hrs;rw[VJ]at h;refine⟨by simp,by simp,by simp,by simpa using HSeg.out _ (VB h),?_⟩;rw[List.getElem?_map,List.getElem?_eq_getElem h];simp[encStr,dF]
 have HTri:Hid (rs.map Rc.bV=ro):=(show rs.map Rc.bV=ro by rw[HRo.out,hrs,WN];rfl)
 have HVr:Hid (∀r∈rs,az w r.sv r.l):=λr hr=>by
  subst hrs;obtain⟨x,hx,rfl⟩:=Wm.1 hr;exact HSv.out _ (HSeg.out x hx)
 clear hrs HRo HSeg;go_loopw [3,10] (λo i wr=>∃k:Nat,k<=rs.length/\i=.int .i64 k/\Hid (da wr w1.heap.size o (rs.take k))/\Hid (Below w1.heap.size w1 wr)) (λ_ i _=>rs.length-(intOf i).toNat)
 case atStart=>exact⟨0,by omega,rfl,Ww _ _ _ _,AT _ _⟩
 case round=>
  obtain⟨k,hk,rfl,hr,hb⟩:=hrel;have HR:Hid (da wr w1.heap.size u3 (rs.take k)):=hr.out;have HB:Hid (Below w1.heap.size w1 wr):=hb.out;have hszr:=hb.out.size;clear hr hb;by_cases hlt:k<rs.length
  ·obtain⟨e1,e2,e3,e4,e5⟩:=HGet.out k hlt;obtain⟨g,cap',hv',hgl,hc⟩:=tW HRow.out e5;cases hv';have hcw:wr.cell? ⟨g,k,none⟩=some (.string rs[k].key):=(HB.out.cell (p:=⟨g,k,none⟩) hgl).trans hc;have hmw:wr.heap[m]?=some (.map es clock):=(HB.out.block m (by omega)).trans ((HB1.out.block m hmlt).trans HM.out);have hlk:=HLk.out _ e4 wr hmw;have hvk:az w rs[k].sv rs[k].l:=HVr.out _ (VB hlt);obtain⟨adv,capv,hsvv⟩:=pk hvk;have HT:Hid (rs.take (k+1)=rs.take k++ [rs[k]]):=VO hlt;have HF:Hid (iR [rs[k]]= [.string rs[k].key,.int .i64 (rs[k].c 0),.int .i64 (rs[k].c 1),.int .i64 (rs[k].c 2),.int .i64 (rs[k].c 3),.slice adv rs[k].l.length capv]):=(show iR [rs[k]]= [.string rs[k].key,.int .i64 (rs[k].c 0),.int .i64 (rs[k].c 1),.int .i64 (rs[k].c 2),.int .i64 (rs[k].c 3),.slice adv rs[k].l.length capv] by rw[<-hsvv];rfl)
   rw[<-e1,<-e2,hsvv]at hlk;have htl:(rs.take k).length=k:=by rw[List.length_take];omega
   have HL1:Hid ((rs.take (k+1)).length=k+1):=(show (rs.take (k+1)).length=k+1 by rw[List.length_take];omega)
   have HRk:Hid (wr.ownsRow w1.heap.size 151 6 u3 k (iR (rs.take k))):=(by have:=HR.out;unfold da at this;rw[htl]at this;exact this)
   clear HR e1 e2 e3 e4 e5 hvk hsvv hc hmw htl;generalize hq:rs[k]=rk at*;clear hq;generalize rk.key=key at*;generalize rk.c=c at*;generalize rk.l.length=len at*;have g63:(k:Int)<(es.size:Int):=by omega
   have k0:(0:Int)<=(k:Int):=by omega
   go_wp2_with (at_builtin;refine jw _ rfl _ _ _ rfl w1.heap.size 151 i0 _ 6 72 aa.underlying119 hi0 hz0 hz1 hz2 rfl (by omega) u3 _ _ rfl (VD HRk.out _) ⟨wr.heap.size,0,none⟩ 1 1 _ rfl (by rfl) (VM (BY wr _)) (by simp[Value.oneCell']) (by omega) (by unfold maxLen;omega) (by omega) (by simp;omega) ?_;intro g2 cap2 w2 hown2 hgr2)
   refine⟨⟨k+1,by omega,by go_num,?_,?_⟩,by simp[intOf];omega⟩
   ·show da _ _ _ _;unfold da;rw[HL1.out,HT.out,Fx,HF.out];exact hown2
   ·exact hgr2.toBelow (HB.out.alloc hszr _) (by simp;omega) (VD HRk.out _)
  ·obtain rfl:k=rs.length:=by omega
   have HRe:Hid (da wr w1.heap.size u3 rs):=(by have:=HR.out;rw[VW]at this;exact this)
   clear HR;go_wp2;go_ret;refine⟨_,rs,rfl,eE HRe.out hz1',λr hr=>?_,HTri.out,HB1.out.trans (HB.out.mono hz1')⟩;exact dS (HVr.out r hr) (HB1.out.trans (HB.out.mono hz1')) (eR _)
end
def gz(c:Ctx)(i j:Nat):Int:=if j<i then c j else 0
def j6(c:Ctx)(i:Nat):ByteArray:=(List.range' i (4-i)).foldr (λj s=>cF (c j)++s) ByteArray.empty
theorem Ug(c:Ctx):j6 c 0=kx c:=by
 simp[j6,kx,jr,List.range'_succ,gN,cM,jm]
theorem Rb(c:Ctx)(h:i<4):j6 c i=cF (c i)++j6 c (i+1):=by
 unfold j6;rw[show 4-i=(4-(i+1))+1 by omega,List.range'_succ];simp
theorem Mw(c:Ctx):j6 c 4=ByteArray.empty:=rfl
def fa:List aj->ByteArray
 |[]=>ByteArray.empty
 |v::l=>gf v++fa l
theorem Nr(l:List aj):∀s,l.foldl (λs v=>s++gf v) s=s++fa l:=by
 induction l with
 |nil=>intro s;simp[fa,gN]
 |cons v l ih=>intro s;rw[WM,ih,fa,cM]
theorem UN(l:List aj):dn l=fa l:=by rw[dn,Nr,jm]
theorem NL(h:k<l.length):fa (l.drop k)=gf l[k]++fa (l.drop (k+1)):=by
 rw[List.drop_eq_getElem_cons h,fa]
def AF(key:ByteArray)(c:Ctx)(l:List aj):Prop:=key.size<256/\(∀i,i<4->0<=c i/\c i<4294967296)/\l.length<=100000/\∀v∈l,C1 v
abbrev recC(key:ByteArray)(c:Ctx)(i:Nat)(sv:Value):Array Value:=#[.string key,.int .i64 (gz c i 0),.int .i64 (gz c i 1),.int .i64 (gz c i 2),.int .i64 (gz c i 3),sv]
def eL(w wr:World)(b bo:Nat)(A:Array Value)(s:ByteArray):Prop:=
 wr.heap[bo]?=some (.cells A 151)/\wr.heap[w.heap.size]?=some (.cells #[.string ⟨#[]⟩,.int .i64 0,.int .i64 0,.int .i64 0,.int .i64 0,.slice none 0 0] 151)/\Rd w wr b s
theorem eL.rd{w':World}{t:ByteArray}(h:eL w wr b bo A s)(hr:Rd wr w' b t)(h1:bo≠b)(h2:w.heap.size≠b):eL w w' b bo A t:=
 ⟨hr.other h.1 h1,hr.other h.2.1 h2,h.2.2.trans hr⟩
theorem eL.set(h:eL w wr b bo A s)(hb:b<w.heap.size/\w.heap.size<bo)(o:Nat)(v:Value):eL w (wr.setCell ⟨bo,o,none⟩ v) b bo (A.setIfInBounds o v) s:=
 ⟨heap_set h.1,by rw[VC _ _ _ _ (by show _≠bo;omega)];exact h.2.1,h.2.2.setCell ⟨by omega,by omega⟩ v⟩
theorem JW(key:ByteArray)(c:Ctx)(sv:Value)(h:i<4):(recC key c i sv).setIfInBounds (1+i) (.int .i64 (c i))=recC key c (i+1) sv:=by
 rcases fc h with rfl|rfl|rfl|rfl<;>simp[recC,gz]
theorem MQ(key:ByteArray)(c:Ctx)(sv:Value)(h:i<4):(recC key c i sv)[1+i]?=some (.int .i64 0):=by
 rcases fc h with rfl|rfl|rfl|rfl<;>simp[recC,gz]
theorem Rd.row{n size:Nat}{s0:ByteArray}(h:Rd w w1 b s)(h0:bG w b s0)(hr:w.ownsRow B t size v n xs)(ht:t≠158):w1.ownsRow B t size v n xs:=by
 obtain⟨h1,h2⟩:=hr;refine⟨h1,?_⟩;rcases h2 with h2|⟨g,cap,cur,hv,hg,hh,r⟩
 ·exact Or.inl h2
 ·exact Or.inr ⟨g,cap,cur,hv,hg,h.other hh (λe=>by subst e;rw[h0.1]at hh;cases hh;exact ht rfl),r⟩
theorem oZ{size n:Nat}(h:w.ownsRow B t size v n xs)(hk:v.ownBlock=some k):B<=k:=by
 rcases h.2 with⟨h,_⟩|⟨g,cap,cur,rfl,hg,_⟩
 ·rw[h]at hk;cases hk
 ·cases hk;exact hg
theorem eL.alloc(h:eL w wr b bo A s)(o:Obj):eL w (wr.alloc o) b bo A s:=
 have hb:Below wr.heap.size wr (wr.alloc o):=(AT _ _).alloc (eR _) o
 ⟨aS h.1 hb,aS h.2.1 hb,h.2.2.below hb⟩
theorem lx(h:w.grownBy w1 v.ownBlock){size n:Nat}(hr:w.ownsRow B e size v n xs){cs:Array Value}{fr:Nat×Nat}(hb:w.heap[b]?=some (.cells cs t fr))(hne:t≠e):w1.heap[b]?=some (.cells cs t fr):=
 bq.other (v1:=v) ⟨h,λ_ h=>Or.inl h⟩ hr hb hne
theorem eL.grownBy{size n:Nat}(h:eL w wr b bo A s)(hr:wr.ownsRow w.heap.size e size v n xs)(hg:wr.grownBy w1 v.ownBlock)(h1:151≠e)(h2:158≠e):eL w w1 b bo A s:=
 ⟨lx hg hr h.1 h1,lx hg hr h.2.1 h1,⟨lx hg hr h.2.2.1.1 h2,h.2.2.1.2⟩,h.2.2.2.grown hg λk hk hlt=>by
  have:=oZ hr hk;omega⟩
theorem fX{size n:Nat}{t':TypeId}{fr:Nat×Nat}{u:Value}(h:w.ownsRow B t size u n xs)(hb:w.heap[bo]?=some (.cells A t' fr))(ht:t≠t')(o:Nat)(v:Value):(w.setCell ⟨bo,o,none⟩ v).ownsRow B t size u n xs:=by
 obtain⟨h1,h2⟩:=h;refine⟨h1,?_⟩;rcases h2 with h2|⟨g,cap,cur,hv,hg,hh,r⟩
 ·exact Or.inl h2
 ·exact Or.inr ⟨g,cap,cur,hv,hg,by rw[VC _ _ _ _ (λe=>by subst e;rw[hb]at hh;cases hh;exact ht rfl)];exact hh,r⟩
theorem gD{size n:Nat}(h:w.ownsRow B t size v n xs): ∃ad cap,v=.slice ad n cap:=by
 obtain⟨ad,cap,h,_⟩:=jE h;exact⟨ad,cap,h⟩
theorem LP(b:Nat)(key:ByteArray)(c:Ctx)(l:List aj)(s:ByteArray)(w:World)(h:bG w b (dp key c l++s))(hf:AF key c l):
  Calls aa.prog 101 #[.pointer (some ⟨b,0,none⟩)] w λe w'=>∃sv,e=.returned (.agg #[.string key,.int .i64 (c 0),.int .i64 (c 1),.int .i64 (c 2),.int .i64 (c 3),sv])/\w'.ownsRow w.heap.size 144 3 sv l.length (bd l)/\Rd w w' b s:=by
 obtain⟨hk,hc,hl,hv⟩:=hf;obtain⟨i0,hi0,hz0,hz1,hz2⟩:=VH aa.td;have hlt:=h.lt;rw[dp,cM,cM,cM,<-Ug,UN]at h;have HT:Hid (∀w1,Below w.heap.size w w1->Calls aa.prog 138 #[.pointer (some ⟨b,0,none⟩)] w1 λe w'=>e=.returned (.string key)/\Rd w1 w' b (j6 c 0++(cF l.length++(fa l++s)))):=λw1 hb=>DY b key _ w1 (h.below hb) hk;clear h;go_enter aa.func101,aa.ntmps101;go_wp2_with (first
  |(go_at_call 138;refine (HT.out _ ((AT _ _).alloc (eR _) _)).mono ?_;rintro e w1 ⟨rfl,hr1⟩))
 have hz:w.heap.size<w1.heap.size:=by have:=hr1.2.size;simp at this;omega
 have HS:Hid (eL w (w1.alloc (.cells (recC key c 0 (.slice none 0 0)) 151)) b w1.heap.size (recC key c 0 (.slice none 0 0)) (j6 c 0++(cF l.length++(fa l++s)))):=
  ⟨BY w1 _,by rw[Vx _ _ _ hz];exact hr1.other (BY w _) (by omega),hr1.1.below ((AT _ _).alloc (eR _) _),(((Fr.refl _ w).alloc _).trans hr1.2).alloc _⟩
 have hbo:b<w1.heap.size:=by omega
 have HBo:Hid (b<w.heap.size/\w.heap.size<w1.heap.size):=(show b<w.heap.size/\w.heap.size<w1.heap.size by omega)
 generalize w1.heap.size=bo at*;clear hr1 HT;go_loopw [10] (λiv wr=>∃i:Nat,i<=4/\iv=.int .i64 i/\eL w wr b bo (recC key c i (.slice none 0 0)) (j6 c i++(cF l.length++(fa l++s)))) (λiv _=>4-(intOf iv).toNat)
 case atStart=>exact⟨0,by omega,rfl,HS.out⟩
 case round=>
  obtain⟨i,hi,rfl,hL⟩:=hrel;by_cases hi4:i<4
  ·have i1:(i:Int)<4:=by omega
   have i00:(0:Int)<=(i:Int):=by omega
   have HN:Hid (Calls aa.prog 100 #[.pointer (some ⟨b,0,none⟩)] wr λe w'=>e=.returned (.int .i64 (c i))/\eL w w' b bo (recC key c i (.slice none 0 0)) (j6 c (i+1)++(cF l.length++(fa l++s)))):=by
    have h3:=hL.2.2;rw[Rb c hi4,cM]at h3;refine (sR b (c i) _ wr h3.1 (hc i hi4).1 (hc i hi4).2).mono ?_;rintro e w' ⟨rfl,hr⟩;exact⟨rfl,hL.rd hr (by omega) (by omega)⟩
   clear HS hL;go_wp2_with (go_at_call 100;refine HN.out.mono ?_;rintro e w2 ⟨rfl,hL2⟩;obtain⟨c2,f2⟩:=au hL2.1;have cI:=(c2 (1+i)).trans (MQ key c (.slice none 0 0) hi4);have fI:=f2 (1+i);clear c2 f2;have HL2:Hid (eL w w2 b bo (recC key c i (.slice none 0 0)) (j6 c (i+1)++(cF l.length++(fa l++s)))):=hL2;clear hL2)
   refine⟨⟨i+1,by omega,by go_num,?_⟩,by simp[intOf];omega⟩
   have:=HL2.out.set HBo.out (1+i) (.int .i64 (c i));rw[JW key c _ hi4]at this;exact this
  ·obtain rfl:i=4:=by omega
   have HN:Hid (Calls aa.prog 100 #[.pointer (some ⟨b,0,none⟩)] wr λe w'=>e=.returned (.int .i64 l.length)/\eL w w' b bo (recC key c 4 (.slice none 0 0)) (fa l++s)):=by
    have h3:=hL.2.2;rw[Mw,jm]at h3;refine (sR b l.length _ wr h3.1 (by omega) (by omega)).mono ?_;rintro e w' ⟨rfl,hr⟩;exact⟨rfl,hL.rd hr (by omega) (by omega)⟩
   clear HS hL;go_wp2_with (go_at_call 100;refine HN.out.mono ?_;rintro e w2 ⟨rfl,hL2⟩;have HL2:Hid (eL w w2 b bo (recC key c 4 (.slice none 0 0)) (fa l++s)):=hL2;clear hL2)
   clear HN;go_loopw [6] (λiv wr=>∃(k:Nat) (sv:Value),k<=l.length/\iv=.int .i64 k/\Hid (eL w wr b bo (recC key c 4 sv) (fa (l.drop k)++s))/\Hid (wr.ownsRow w.heap.size 144 3 sv k (bd (l.take k)))) (λiv _=>l.length-(intOf iv).toNat)
   case atStart=>exact⟨0,.slice none 0 0,by omega,rfl,HL2.out,Ww _ _ _ _⟩
   case round=>
    obtain⟨k,sv,hk,rfl,HL,HO⟩:=hrel;clear HL2;obtain⟨ad,cap,rfl⟩:=gD HO.out;obtain⟨cb,fb⟩:=au HL.out.1;have c1:wr.cell? ⟨b,1,none⟩=some (.bool false):=(au HL.out.2.2.1.1).1 1;have c5:=cb 5;have f5:=fb 5;by_cases hkl:k<l.length
    ·have k1:(k:Int)<(l.length:Int):=by omega
     have hdk:decide ((k:Int)<(l.length:Int))=true:=by simpa using hkl
     have HVn:Hid (Calls aa.prog 139 #[.pointer (some ⟨b,0,none⟩)] wr.drew λe w'=>e=.returned (.agg #[.int .i64 l[k].rep,.int .i64 l[k].n,.string l[k].val])/\eL w w' b bo (recC key c 4 (.slice ad k cap)) (fa (l.drop (k+1))++s)/\w'.ownsRow w.heap.size 144 3 (.slice ad k cap) k (bd (l.take k))):=by
      have h3:=HL.out.2.2;rw[NL hkl,cM]at h3;refine (OX b l[k] _ _ (h3.1.below (AT _ _).drew) (hv _ (VB hkl))).mono ?_;rintro e w' ⟨rfl,hr⟩;have hr':Rd wr w' b (fa (l.drop (k+1))++s):=⟨hr.1,(Fr.refl _ _).drew.trans hr.2⟩
      exact⟨rfl,HL.out.rd hr' (by omega) (by omega),hr'.row h3.1 HO.out (by decide)⟩
     go_upto_region 11 with fail;go_region_law (first
      |(refine step_append_lies _ rfl _ _ _ rfl w.heap.size 144 i0 _ 3 32 aa.underlying104 hi0 hz0 hz1 hz2 rfl (by omega) (.slice ad k cap) _ _ rfl (VD HO3.out _) ⟨w3.heap.size,0,none⟩ 1 1 [.int .i64 l[k].rep,.int .i64 l[k].n,.string l[k].val] rfl rfl (VM (BY w3 _)) (by simp[Value.oneCell']) (by omega) (by unfold maxLen;omega) (by omega) (by have:=HL3.out.2.2.2.size;simp;omega) (w3.heap.size+1) (by simp) ?_;intro g2 cap2 w4 hown4 hgr4 hat4 hlt4;have hL4:=(HL3.out.alloc _).grownBy (VD HO3.out _) hgr4 (by decide) (by decide);obtain⟨cb4,fb4⟩:=au hL4.1;have c54:=cb4 5;have f54:=fb4 5;clear cb4 fb4;have HL4:Hid (eL w w4 b bo (recC key c 4 (.slice ad k cap)) (fa (l.drop (k+1))++s)):=hL4;have HO4:Hid _:=hown4;clear hL4 hown4 hgr4)
      |(go_simp;go_at_call 139;refine By HVn.out ?_;rintro e w3 ⟨rfl,hL3,hO3⟩;obtain⟨cb3,fb3⟩:=au hL3.1;have hbo3:=(Array.getElem?_eq_some_iff.1 hL3.1).1;have c53:=cb3 5;have f53:=fb3 5;clear cb3 fb3;have HL3:Hid (eL w w3 b bo (recC key c 4 (.slice ad k cap)) (fa (l.drop (k+1))++s)):=hL3;have HO3:Hid (w3.ownsRow w.heap.size 144 3 (.slice ad k cap) k (bd (l.take k))):=hO3;clear hL3 hO3))
     all_goals
      go_wp2;refine⟨⟨k+1,.slice (some ⟨g2,0,none⟩) (k+1) cap2,by omega,by go_num,HL4.out.set HBo.out 5 _,?_⟩,by simp[intOf];omega⟩;rw[VO hkl,qO];exact fX HO4.out HL4.out.1 (by decide) _ _
    ·obtain rfl:k=l.length:=by omega
     obtain⟨cw,fw⟩:=au HL.out.2.1;go_wp2;have hp:∀j,j<4->gz c 4 j=c j:=λj hj=>by simp[gz,hj]
     refine V9 (v:=.agg #[.string key,.int .i64 (c 0),.int .i64 (c 1),.int .i64 (c 2),.int .i64 (c 3),.slice ad l.length cap]) ?_ rfl ⟨_,rfl,?_,?_⟩
     ·rw[hp 0 (by omega),hp 1 (by omega),hp 2 (by omega),hp 3 (by omega)];simp[results,aa.results101,go_sem,cw]
     ·have h1:=HO.out;rw[VW]at h1;exact fX (fX (fX (fX (fX (fX h1 HL.out.2.1 (by decide) _ _) (heap_set HL.out.2.1) (by decide) _ _) (heap_set (heap_set HL.out.2.1)) (by decide) _ _) (heap_set (heap_set (heap_set HL.out.2.1))) (by decide) _ _) (heap_set (heap_set (heap_set (heap_set HL.out.2.1)))) (by decide) _ _) (heap_set (heap_set (heap_set (heap_set (heap_set HL.out.2.1))))) (by decide) _ _
     ·have hne:w.heap.size<=w.heap.size/\w.heap.size≠b:=⟨eR _,by omega⟩
      have h2:=HL.out.2.2;rw[List.drop_length,fa,jm]at h2;exact (((((h2.setCell hne _).setCell hne _).setCell hne _).setCell hne _).setCell hne _).setCell hne _
structure kM(c:Ctx)(l:List aj):Prop where
 ctx:fZ c=true
 some: ∃i,i<4/\c i≠0
 iS:∀v∈l,v.rep<4/\1<=v.n/\v.val.size<=12/\v.n<=c v.rep
 sorted:l.Pairwise λa b=>aP a b=true
theorem Ke(r:Nat)(n:Int)(t:ByteArray)(w:World)(h1:r<4)(h2:1<=n)(h3:t.size<=12):
  Calls aa.prog 161 #[.agg #[.int .i64 r,.int .i64 n,.string t]] w λe w'=>e=.returned (.bool true)/\Below w.heap.size w w':=by
 have HV:Hid (∀W,Calls aa.prog 37 #[.string t] W λe w'=>e=.returned (.bool true)/\w'=W):=λW=>by
  have:=wT t W (by unfold maxLen;omega);rw[Xl h3]at this;exact this
 have a1:(r:Int)<4:=by omega
 have a0:(0:Int)<=(r:Int):=by omega
 go_enter aa.func161,aa.ntmps161;go_wp2_with (go_at_call 37;refine (HV.out _).mono ?_;rintro e w' ⟨rfl,rfl⟩)
 go_ret;exact⟨rfl,(AT _ _).alloc (eR _) _⟩
theorem Hw(d:Nat)(W:World)(a b c e:Int)(h:a≠0\/b≠0\/c≠0\/e≠0):(Op.equalIn (d+2) 102 (.agg #[.int .i64 a,.int .i64 b,.int .i64 c,.int .i64 e]) (.agg #[.int .i64 0,.int .i64 0,.int .i64 0,.int .i64 0])).run aa.prog W=.ok false W:=by
 have u3:=aa.underlying3;have u9:=aa.underlying102;have a3:=aa.isAgg3;have z3:=aa.sizeOf3;rw[Op.equalIn];simp only[VQ,Wx u9,We];go_simp;rw[show List.range' 0 4= [0,1,2,3] from rfl];simp only[List.forIn_cons,List.forIn_nil,VQ,a3,We,Vz,Vy];by_cases ha:a=0
 ·by_cases hb:b=0
  ·by_cases hc:c=0
   ·have he:e≠0:=by omega
    go_simp
   ·go_simp
  ·go_simp
 ·go_simp
theorem Ag(W:World)(q:Nat)(os:Array Obj):Below W.heap.size W (Go.Sort.grow (W.drewN q) os):=
 ⟨rfl,rfl,rfl,by simp[Go.Sort.grow],λk hk=>by simp[Go.Sort.grow,Array.getElem?_append,hk]⟩
theorem LG(c:Ctx)(sv:Value)(l:List aj)(w:World)(h:az w sv l)(hs:kM c l)(hl:l.length<=100000):
  Calls aa.prog 140 #[bD c sv] w λe w'=>e=.returned (.bool true)/\Below w.heap.size w w':=by
 have HS:Hid (∀W,Calls aa.prog 38 #[cU c] W λe w'=>e=.returned (.bool true)/\Below W.heap.size W w'):=λW=>by
  have:=rA c W;rw[hs.ctx]at this;exact this
 obtain⟨ad,cap,rfl,hcap⟩:=h.len;have HV:Hid (az w (.slice ad l.length cap) l):=h;have HSS:Hid (kM c l):=hs;have hz:∀W,(Op.equalIn 10000 102 (.agg #[.int .i64 (c 0),.int .i64 (c 1),.int .i64 (c 2),.int .i64 (c 3)]) (.agg #[.int .i64 0,.int .i64 0,.int .i64 0,.int .i64 0])).run aa.prog W=.ok false W:=λW=>by
  refine Hw 9998 W _ _ _ _ ?_;obtain⟨i,hi,hn⟩:=hs.some;rcases fc hi with rfl|rfl|rfl|rfl
  ·exact .inl hn
  ·exact .inr (.inl hn)
  ·exact .inr (.inr (.inl hn))
  ·exact .inr (.inr (.inr hn))
 clear h hs;go_enter aa.func140,aa.ntmps140;go_wp2_with (go_at_call 38;refine (HS.out _).mono ?_;rintro e w1 ⟨rfl,hb1⟩;obtain⟨c1,f1⟩:=au (aS (BY w _) hb1);have HB1:Hid (Below w.heap.size w w1):=bf ((AT _ _).alloc (eR _) _) hb1;have HC1:Hid (w1.heap[w.heap.size]?=some (.cells #[.int .i64 (c 0),.int .i64 (c 1),.int .i64 (c 2),.int .i64 (c 3),.slice ad l.length cap] 106)):=aS (BY w _) hb1;clear hb1)
 have HV1:Hid (az w1 (.slice ad l.length cap) l):=dS HV.out HB1.out (eR _);have hw1:w.heap.size<w1.heap.size:=(Array.getElem?_eq_some_iff.1 HC1.out).1;clear HS c1 f1 hz HV;go_loopw [18] (λiv wr=>∃k:Nat,k<=l.length/\iv=.int .i64 k/\Hid (Below w1.heap.size w1 wr)) (λiv _=>l.length-(intOf iv).toNat)
 case atStart=>exact⟨0,by omega,rfl,AT _ _⟩
 case round=>
  obtain⟨k,hk,rfl,HB⟩:=hrel;have hwr:=HB.out.size;by_cases hlt:k<l.length
  ·obtain⟨g,cap',hsv',hg,_,_,d0,d1,d2⟩:=az.cells (az.below HV1.out HB.out) hlt;cases hsv';obtain⟨s1,s2,s3,s4⟩:=HSS.out.iS _ (VB hlt);have k1:(k:Int)<(l.length:Int):=by omega
   have k0:(0:Int)<=(k:Int):=by omega
   have HBox:Hid (wr.heap[w.heap.size]?=some (.cells #[.int .i64 (c 0),.int .i64 (c 1),.int .i64 (c 2),.int .i64 (c 3),.slice (some ⟨g,0,none⟩) l.length cap] 106)):=aS HC1.out HB.out;have HPrev:Hid (∀j (h:j<l.length) w',Below wr.heap.size wr w'->w'.cell? ⟨g,j*3,none⟩=some (.int .i64 l[j].rep)/\w'.cell? ⟨g,j*3+1,none⟩=some (.int .i64 l[j].n)/\w'.cell? ⟨g,j*3+2,none⟩=some (.string l[j].val)):=λj hj w' hw=>by
    obtain⟨g',cap2,e,_,_,_,x0,x1,x2⟩:=az.cells (az.below HV1.out (bf HB.out hw)) hj;cases e;exact⟨x0,x1,x2⟩
   have HSort:Hid (∀j (h:j<k),aP (l[j]'(by omega)) l[k]=true):=λj h=>List.pairwise_iff_getElem.1 HSS.out.sorted j k (by omega) hlt h;generalize hv:l[k]=v at*;obtain⟨r,n,t⟩:=v;simp only[aj.rep,aj.n,aj.val] at*;have HOne:Hid (∀W,Calls aa.prog 161 #[.agg #[.int .i64 r,.int .i64 n,.string t]] W λe w'=>e=.returned (.bool true)/\Below W.heap.size W w'):=λW=>Ke r n t W s1 s2 s3;have HSn:Hid (∀W,Calls aa.prog 83 #[cU c,.agg #[.int .i64 r,.int .i64 n]] W λe w'=>e=.returned (.bool true)/\Below W.heap.size W w'):=λW=>by
    have:=uU c r n W s1;rw[Xl s4]at this;exact this
   have HWv:Hid (∀w',Below (wr.heap.size+1) (wr.alloc (.cells #[.int .i64 r,.int .i64 n,.string t] 144)) w'->(∀o,w'.cell? ⟨wr.heap.size,o,none⟩=#[Value.int .i64 r,.int .i64 n,.string t][o]?)/\(∀o,w'.cell? ⟨w.heap.size,o,none⟩=#[Value.int .i64 (c 0),.int .i64 (c 1),.int .i64 (c 2),.int .i64 (c 3),.slice (some ⟨g,0,none⟩) l.length cap][o]?)/\Below wr.heap.size wr w'):=λw' hw=>by
    have hb':Below (wr.alloc (.cells #[.int .i64 r,.int .i64 n,.string t] 144)).heap.size (wr.alloc (.cells #[.int .i64 r,.int .i64 n,.string t] 144)) w':=by simpa using hw
    have hb0:Below wr.heap.size wr w':=bf ((AT _ _).alloc (eR _) _) hb';exact⟨(au (aS (BY wr _) hb')).1,(au (aS HBox.out hb0)).1,hb0⟩
   go_upto_region 8 with (first
    |(go_at_call 161;refine (HOne.out _).mono ?_;rintro e w2 ⟨rfl,hb2⟩;rw[show (wr.alloc (.cells #[.int .i64 r,.int .i64 n,.string t] 144)).heap.size=wr.heap.size+1 by simp]at hb2;obtain⟨v2,b2,_⟩:=HWv.out _ hb2;have HB2:Hid (Below (wr.heap.size+1) (wr.alloc (.cells #[.int .i64 r,.int .i64 n,.string t] 144)) w2):=hb2;clear hb2)
    |(go_at_call 83;refine (HSn.out _).mono ?_;rintro e w3 ⟨rfl,hb3⟩;have hb3':=HB2.out.trans (hb3.mono (by have:=HB2.out.size;simpa using this));obtain⟨v3,b3,x3⟩:=HWv.out _ hb3';have HB3:Hid (Below wr.heap.size wr w3):=x3;clear hb3 hb3' x3))
   have hk3:Hid (Below w1.heap.size w1 w3):=bf HB.out HB3.out;by_cases hk0:k=0
   ·subst hk0;go_quiet (fail);go_wp2;exact⟨⟨1,by omega,by go_num,Wq hk3.out _⟩,by simp[intOf];omega⟩
   ·obtain⟨j,rfl⟩: ∃j,k=j+1:=⟨k-1,by omega⟩
    obtain⟨p0,p1,p2⟩:=HPrev.out j (by omega) w3 HB3.out;have hjl:j<l.length:=by omega
    have hlj:=HSort.out j (by omega);generalize hvj:l[j]=u at*;obtain⟨r',n',t'⟩:=u;simp only[aj.rep,aj.n,aj.val] at*;have hcmp: ∃z:Int,z<0/\jZ (gh r' r) (gh n' n)=z:=⟨_,by
     simp only[aP,aj.rep,aj.n,VN]at hlj;unfold jZ gh;split<;>split<;>omega,rfl⟩
    obtain⟨z,hz0,hz⟩:=hcmp;have HD:Hid (∀W,Calls aa.prog 66 #[.agg #[.int .i64 r',.int .i64 n',.string t'],.agg #[.int .i64 r,.int .i64 n,.string t]] W λe w'=>e=.returned (.int .i64 z)/\Below W.heap.size W w'):=λW=>by
     refine (wR r' n' r n t' t W).mono ?_;rintro e w' ⟨rfl,q,os',rfl⟩;exact⟨by rw[hz],Ag W q os'⟩
    have j1:((j:Int)+1-1)=(j:Int):=by omega
    have j2:(0:Int)<=(j:Int):=by omega
    have j3:(j:Int)<(l.length:Int):=by omega
    have y4:=b3 4;have q0:=v3 0;have q1:=v3 1;have q2:=v3 2;simp at y4 q0 q1 q2;have hmk:Hid (∀w',Below w3.heap.size w3 w'->w'.cell? ⟨w.heap.size,4,none⟩=some (.slice (some ⟨g,0,none⟩) l.length cap)/\w'.cell? ⟨g,j*3,none⟩=some (.int .i64 r')/\w'.cell? ⟨g,j*3+1,none⟩=some (.int .i64 n')/\w'.cell? ⟨g,j*3+2,none⟩=some (.string t')/\w'.cell? ⟨wr.heap.size,0,none⟩=some (.int .i64 r)/\w'.cell? ⟨wr.heap.size,1,none⟩=some (.int .i64 n)/\w'.cell? ⟨wr.heap.size,2,none⟩=some (.string t)):=λw' hw=>⟨bp y4 hw,bp p0 hw,bp p1 hw,bp p2 hw,bp q0 hw,bp q1 hw,bp q2 hw⟩
    clear y4 q0 q1 q2 p0 p1 p2 b3 v3 b2 v2 hlj hz hvj hv d0 d1 d2;obtain⟨kI,hkI⟩: ∃z:Int,((j+1:Nat):Int)=z:=⟨_,rfl⟩
    have m1:IntKind.i64.wrap (kI-1)=(j:Int):=by rw[IntKind.wrap_i64];omega
    have m2:(0:Int)<kI:=by omega
    have m3:kI<=100000:=by omega
    have HkI:Hid (kI=(j:Int)+1):=(show kI=(j:Int)+1 by omega)
    rw[hkI] at*;clear j1 hkI;go_region_held3 (λw'=>w'.cell? ⟨w.heap.size,4,none⟩=some (.slice (some ⟨g,0,none⟩) l.length cap)/\w'.cell? ⟨g,j*3,none⟩=some (.int .i64 r')/\w'.cell? ⟨g,j*3+1,none⟩=some (.int .i64 n')/\w'.cell? ⟨g,j*3+2,none⟩=some (.string t')/\w'.cell? ⟨wr.heap.size,0,none⟩=some (.int .i64 r)/\w'.cell? ⟨wr.heap.size,1,none⟩=some (.int .i64 n)/\w'.cell? ⟨wr.heap.size,2,none⟩=some (.string t))
     ((refine hmk.out _ ?_;first|exact hb4|(simp (maxDischargeDepth:=12) [AT,No];done)))
     (first|(go_at_call 66;refine By (HD.out _) ?_;rintro e w4 ⟨rfl,hb4'⟩;have hb4:Below w3.heap.size w3 w4:=bf (AT _ _).drew hb4';clear hb4'))
    all_goals
     go_wp2;exact⟨⟨j+2,by omega,by rw[HkI.out];go_num,bf hk3.out hb4⟩,by rw[HkI.out];simp[intOf];omega⟩
  ·obtain rfl:k=l.length:=by omega
   go_wp2;go_ret;exact⟨rfl,HB1.out.trans (HB.out.mono HB1.out.size)⟩
theorem Mu(key:ByteArray)(c:Ctx)(sv:Value)(l:List aj)(n:Nat)(w:World)(h:az w sv l)(hs:kM c l)(hl:l.length<=100000)(hk:cS key=true)(hks:key.size<=8)(hn:aC key=n):
  Calls aa.prog 102 #[.agg #[.string key,.int .i64 (c 0),.int .i64 (c 1),.int .i64 (c 2),.int .i64 (c 3),sv],.int .i64 n] w λe w'=>e=.returned (.bool true)/\Below w.heap.size w w':=by
 obtain⟨ad,cap,rfl,hcap⟩:=h.len;have HK:Hid (∀W,Calls aa.prog 36 #[.string key] W λe w'=>e=.returned (.bool true)/\w'=W):=λW=>by
  have:=nR key W (by unfold maxLen;omega);rw[hk]at this;exact this
 have HG:Hid (∀W,Calls aa.prog 62 #[.string key] W λe w'=>e=.returned (.int .i64 n)/\w'=W):=λW=>by
  have:=zZ key W (by unfold maxLen;omega);rw[hn]at this;exact this
 have HS:Hid (∀W,Below w.heap.size w W->Calls aa.prog 140 #[bD c (.slice ad l.length cap)] W λe w'=>e=.returned (.bool true)/\Below w.heap.size w w'):=λW hW=>(LG c _ l W (az.below h hW) hs hl).mono λe w' ⟨he,hb⟩=>⟨he,bf hW hb⟩
 clear h hs;go_enter aa.func102,aa.ntmps102;go_wp2_with (first
  |(go_at_call 36;refine (HK.out _).mono ?_;rintro e w' ⟨rfl,rfl⟩)
  |(go_at_call 62;refine (HG.out _).mono ?_;rintro e w' ⟨rfl,rfl⟩)
  |(go_at_call 140;refine (HS.out _ ((AT _ _).alloc (eR _) _)).mono ?_;rintro e w2 ⟨rfl,hb⟩))
 go_ret;exact⟨rfl,hb⟩
abbrev ai:=ByteArray×Ctx×List aj
def gb:List ai->ByteArray
 |[]=>ByteArray.empty
 |r::l=>dp r.1 r.2.1 r.2.2++gb l
theorem U7(l:List ai):∀s,l.foldl (λs r=>s++dp r.1 r.2.1 r.2.2) s=s++gb l:=by
 induction l with
 |nil=>intro s;simp[gb,gN]
 |cons v l ih=>intro s;rw[WM,ih,gb,cM]
theorem BP(l:List ai):kL l=gb l:=by rw[kL,U7,jm]
theorem Ii{l:List ai}(h:k<l.length):gb (l.drop k)=dp l[k].1 l[k].2.1 l[k].2.2++gb (l.drop (k+1)):=by
 rw[List.drop_eq_getElem_cons h,gb]
def mX(rs:List ai):Nat->ByteArray
 |0=>⟨#[]⟩
 |k+1=>(rs[k]?.map (·.1)).getD ⟨#[]⟩
structure jK(n:Nat)(rs:List ai):Prop where
 len:rs.length<=1000000
 snd:∀r∈rs,kM r.2.1 r.2.2/\r.2.2.length<=100000/\cS r.1=true/\aC r.1=n
 iM:∀k (h:k<rs.length),(Op.bytesLess rs[k].1.toList (mX rs k).toList||rs[k].1.toList==(mX rs k).toList)=false
theorem sL(h:cS key=true):1<=key.size/\key.size<=8:=by
 simp only[cS,IN,VN]at h;exact h.1
theorem kM.fit{c:Ctx}(h:kM c l)(hl:l.length<=100000)(hk:cS key=true):AF key c l:=by
 have hk':=sL hk;have hc:∀i,i<4->0<=c i/\c i<=1000000:=by
  have:=h.ctx;simp only[fZ,ej,IN,VN]at this;intro i hi;rcases fc hi with rfl|rfl|rfl|rfl<;>omega
 refine⟨by omega,λi hi=>by have:=hc i hi;omega,hl,λv hv=>?_⟩;obtain⟨h1,h2,h3,h4⟩:=h.iS v hv
 have:=hc _ h1;exact⟨by omega,by omega,by omega,by omega⟩
theorem Rd.refl(h:bG w b s):Rd w w b s:=⟨h,Fr.refl _ w⟩
theorem Rd.mj{size n:Nat}(h:Rd w wr b s)(hr:wr.ownsRow w.heap.size e size v n xs)(hg:wr.grownBy w1 v.ownBlock)(h2:158≠e):Rd w w1 b s:=
 ⟨⟨lx hg hr h.1.1 h2,h.1.2⟩,h.2.grown hg λk hk hlt=>by
  have:=oZ hr hk;omega⟩
theorem uJ{size n:Nat}(h:w.ownsRow B t size v n xs)(hk:v.ownBlock=some k):k<w.heap.size:=by
 rcases h.2 with⟨h,_⟩|⟨g,cap,cur,rfl,_,hh,_⟩
 ·rw[h]at hk;cases hk
 ·cases hk;exact (Array.getElem?_eq_some_iff.1 hh).1
theorem yH(h:w.grownBy w1 v.ownBlock){size n:Nat}(hr:w.ownsRow B e size v n xs){B' size' n':Nat}{e':TypeId}{v':Value}{xs':List Value}(hr':w.ownsRow B' e' size' v' n' xs')(hne:e'≠e):w1.ownsRow B' e' size' v' n' xs':=by
 obtain⟨h1,h2⟩:=hr';refine⟨h1,?_⟩;rcases h2 with h2|⟨g,cap,cur,hv,hg,hh,r⟩
 ·exact Or.inl h2
 ·exact Or.inr ⟨g,cap,cur,hv,hg,lx h hr hh hne,r⟩
theorem CY(b:Nat)(s:ByteArray)(w:World)(h:bG w b s):
  Calls aa.prog 99 #[.pointer (some ⟨b,0,none⟩)] w λe w'=>e=.returned (.bool false)/\w'=w:=by
 obtain⟨c,f⟩:=au h.1;go_enter aa.func99,aa.ntmps99;go_wp2;go_ret;exact⟨rfl,rfl⟩
structure iP(w wr:World)(v:Value)(rc:List Rc)(rs:List ai):Prop where
 row:da wr w.heap.size v rc
 bV:rc.map Rc.bV=rs
 rG:∀r∈rc,wr.ownsRow w.heap.size 144 3 r.sv r.l.length (bd r.l)
theorem QO(b n:Nat)(rs:List ai)(s:ByteArray)(w:World)(h:bG w b (cF rs.length++(gb rs++s)))(hr:jK n rs):
  Calls aa.prog 77 #[.pointer (some ⟨b,0,none⟩),.int .i64 n] w λe w'=>∃v rc,e=.returned v/\iP w w' v rc rs/\Rd w w' b s:=by
 have hlen:=hr.len;obtain⟨i0,hi0,hz0,hz1,hz2⟩:=VH aa.BV;have HN:Hid (Calls aa.prog 100 #[.pointer (some ⟨b,0,none⟩)] w λe w'=>e=.returned (.int .i64 rs.length)/\Rd w w' b (gb rs++s)):=sR b rs.length _ w h (by omega) (by omega);have HR:Hid (jK n rs):=hr;have hbl:=h.lt;clear h hr;go_enter aa.func77,aa.ntmps77;go_wp2_with (go_at_call 100;refine HN.out.mono ?_;rintro e w1 ⟨rfl,hr1⟩;have HR1:Hid (Rd w w1 b (gb rs++s)):=hr1;clear hr1)
 clear HN;go_loopw [5,7,8] (λrv lv iv wr=>∃(k:Nat) (rc:List Rc),k<=rs.length/\iv=.int .i64 k/\lv=.string (mX rs k)/\Hid (iP w wr rv rc (rs.take k))/\Hid (Rd w wr b (gb (rs.drop k)++s))) (λ_ _ iv _=>rs.length-(intOf iv).toNat)
 case atStart=>exact⟨0,[],by omega,rfl,rfl,⟨Ww _ _ _ _,rfl,λr hr=>by cases hr⟩,HR1.out⟩
 case round=>
  obtain⟨k,rc,hk,rfl,rfl,HA,HRd⟩:=hrel;obtain⟨cr,fr⟩:=au HRd.out.1.1;by_cases hkl:k<rs.length
  ·have k1:(k:Int)<(rs.length:Int):=by omega
   have hdk:decide ((k:Int)<(rs.length:Int))=true:=by simpa using hkl
   obtain⟨hsnd,hlv,hkey,hseg⟩:=HR.out.snd _ (VB hkl);have hasc:=HR.out.iM k hkl;have HLk:Hid (mX rs (k+1)=rs[k].1):=(show mX rs (k+1)=rs[k].1 by simp[mX,hkl])
   have HTk:Hid (rs.take (k+1)=rs.take k++ [rs[k]]):=VO hkl;have HRd':Hid (bG wr b (dp rs[k].1 rs[k].2.1 rs[k].2.2++(gb (rs.drop (k+1))++s))):=by
    have:=HRd.out.1;rw[Ii hkl,cM]at this;exact this
   generalize rs[k]=r at*;obtain⟨key,c,l⟩:=r;simp only at*;have hks:=sL hkey;have HRec:Hid (Calls aa.prog 101 #[.pointer (some ⟨b,0,none⟩)] wr λe w'=>∃ad cap,e=.returned (.agg #[.string key,.int .i64 (c 0),.int .i64 (c 1),.int .i64 (c 2),.int .i64 (c 3),.slice ad l.length cap])/\w'.ownsRow w.heap.size 144 3 (.slice ad l.length cap) l.length (bd l)/\iP w w' u5 rc (rs.take k)/\Rd w w' b (gb (rs.drop (k+1))++s)/\w.heap.size<=w'.heap.size):=by
    refine (LP b key c l _ wr HRd'.out (hsnd.fit hlv hkey)).mono ?_;rintro e w' ⟨sv,rfl,aD,hrd⟩;obtain⟨ad,cap,rfl⟩:=gD aD;have hA:=HA.out;exact⟨ad,cap,rfl,eE aD HRd.out.2.size,⟨hrd.row HRd'.out hA.row (by decide),hA.bV,λr hr=>hrd.row HRd'.out (hA.rG r hr) (by decide)⟩,HRd.out.trans hrd,(HRd.out.trans hrd).2.size⟩
   have HIs:Hid (∀ad cap W,az W (.slice ad l.length cap) l->Calls aa.prog 102 #[.agg #[.string key,.int .i64 (c 0),.int .i64 (c 1),.int .i64 (c 2),.int .i64 (c 3),.slice ad l.length cap],.int .i64 n] W λe w'=>e=.returned (.bool true)/\Below W.heap.size W w'):=λad cap W hW=>Mu key c _ l n W hW hsnd hlv hkey hks.2 hseg;have HM:Hid _:=uf b;have HFl:Hid (Calls aa.prog 99 #[.pointer (some ⟨b,0,none⟩)] wr λe w'=>e=.returned (.bool false)/\w'=wr):=CY b _ wr HRd.out.1;have hrcl:rc.length=k:=by have:=congrArg List.length HA.out.bV;simpa[Nat.min_eq_left hk] using this
   clear HRd' hsnd HR;go_wp2_with (first
    |(go_at_call 101;refine HRec.out.mono ?_;rintro e w2 ⟨ad,cap,rfl,hown2,hA2,hrd2,hsz2⟩;have HB2:Hid (Below w2.heap.size w2 (w2.alloc (.cells #[.string key,.int .i64 (c 0),.int .i64 (c 1),.int .i64 (c 2),.int .i64 (c 3),.slice ad l.length cap] 151))):=(AT _ _).alloc (eR _) _;have HO2:Hid (w2.ownsRow w.heap.size 144 3 (.slice ad l.length cap) l.length (bd l)):=hown2;have HA2:Hid (iP w w2 u5 rc (rs.take k)):=hA2;have HRd2:Hid (Rd w w2 b (gb (rs.drop (k+1))++s)):=hrd2;have HAk:Hid (w2.ownsRow w.heap.size 151 6 u5 k (iR rc)):=(by have:=hA2.row;unfold da at this;rw[hrcl]at this;exact this);clear hown2 hA2 hrd2)
    |(go_at_call 99;refine HFl.out.mono ?_;rintro e w' ⟨rfl,hw'⟩;subst w')
    |(go_at_call 102;refine (HIs.out ad cap _ (eE (dS HO2.out HB2.out (eR _)) (WD _))).mono ?_;rintro e w3 ⟨rfl,hb3⟩;have hc3:=aS (BY w2 _) hb3;obtain⟨c3,f3⟩:=au hc3;have HC3:Hid (w3.heap[w2.heap.size]?=some (.cells #[.string key,.int .i64 (c 0),.int .i64 (c 1),.int .i64 (c 2),.int .i64 (c 3),.slice ad l.length cap] 151)):=hc3;have HB3:Hid (Below w2.heap.size w2 w3):=bf HB2.out hb3;clear hb3 hc3)
    |(go_at_call 57;refine (HM.out _).mono ?_;rintro e w' ⟨rfl,hw'⟩;subst w')
    |(at_builtin;refine jw _ rfl _ _ _ rfl w.heap.size 151 i0 _ 6 72 aa.underlying119 hi0 hz0 hz1 hz2 rfl (by omega) u5 _ _ rfl (VD (dS HAk.out HB3.out (eR _)) _) ⟨w3.heap.size,0,none⟩ 1 1 _ rfl (by rfl) (VM (BY w3 _)) (by simp[Value.oneCell']) (by omega) (by unfold maxLen;omega) (by omega) (by have:=HB3.out.size;simp;omega) ?_;intro g4 cap4 w4 hown4 hgr4;have hne4:some w2.heap.size≠u5.ownBlock:=λe=>Nat.lt_irrefl _ (uJ HAk.out e.symm);obtain⟨c4,f4⟩:=au ((hgr4.grown.block w2.heap.size (by have:=(Array.getElem?_eq_some_iff.1 HC3.out).1;simp;omega) hne4).trans ((Vx w3 _ _ (Array.getElem?_eq_some_iff.1 HC3.out).1).trans HC3.out));have HO4:Hid (w4.ownsRow w.heap.size 151 6 (.slice (some ⟨g4,0,none⟩) (k+1) cap4) (k+1) (iR rc++ [.string key,.int .i64 (c 0),.int .i64 (c 1),.int .i64 (c 2),.int .i64 (c 3),.slice ad l.length cap])):=hown4;have HG4:Hid (bq (w3.alloc (.cells #[.string key,.int .i64 (c 0),.int .i64 (c 1),.int .i64 (c 2),.int .i64 (c 3),.slice ad l.length cap] 151)) w4 u5 (.slice (some ⟨g4,0,none⟩) (k+1) cap4)):=hgr4;clear hown4 hgr4 hne4))
   have HB3':Hid (Below w2.heap.size w2 (w3.alloc (.cells #[.string key,.int .i64 (c 0),.int .i64 (c 1),.int .i64 (c 2),.int .i64 (c 3),.slice ad l.length cap] 151))):=HB3.out.alloc HB3.out.size _;have HRow:Hid _:=dS HAk.out HB3'.out (eR _);refine⟨⟨k+1,rc++ [⟨key,c,.slice ad l.length cap,l⟩],by omega,by go_num,by rw[HLk.out],⟨?_,?_,?_⟩,?_⟩,by simp[intOf];omega⟩
   ·unfold da;rw[VF,hrcl,Fx];exact HO4.out
   ·rw[HTk.out,WL,HA2.out.bV];rfl
   ·intro r hr;rcases List.mem_append.1 hr with hr|hr
    ·exact yH HG4.out.grown HRow.out (dS (HA2.out.rG r hr) HB3'.out (eR _)) (by decide)
    ·obtain rfl:=List.mem_singleton.1 hr;exact yH HG4.out.grown HRow.out (dS HO2.out HB3'.out (eR _)) (by decide)
   ·exact (HRd2.out.below HB3'.out).mj HRow.out HG4.out.grown (by decide)
  ·obtain rfl:k=rs.length:=by omega
   go_wp2;go_ret;exact⟨_,rc,rfl,by have:=HA.out;rw[VW]at this;exact this,by have:=HRd.out;rw[List.drop_length,gb,jm]at this;exact this⟩
end Go.Proofs.YtldmcdeibiclkaaGreatDoorQ
