/-
  Toward: treed_holds, each node's digest is that of its children's, for every argument of Treed. Contract: wire.AppendRecords: the bytes of a row of records.
  DERIVED: THE SHELF's CONTRACTS AT THIS DUMP, IN PLAIN WORDS (tools/lay-plain.mjs out of 'YtldmcdeibiclkaaGreatDoorSI0.lean', which tools/lay-shelf.mjs wrote): THE SAME DECLARATIONS UNDER THE SAME NAMES: 'import', 'namespace', 'open', 'def', 'theorem' AND NOTHING ELSE: no command of the shelf's: FOR A HAND-IN. Each laying: the table of numbers ('.._ren') and one theorem, a field a fact of the dump's own or the kernel's comparison; each contract: ONE APPLICATION.
  DERIVED: THE SHELF's CONTRACTS AT THIS DUMP, IN PLAIN WORDS (tools/lay-plain.mjs out of 'YtldmcdeibiclkaaGreatDoorSH0.lean', which tools/lay-shelf.mjs wrote): THE SAME DECLARATIONS UNDER THE SAME NAMES: 'import', 'namespace', 'open', 'def', 'theorem' AND NOTHING ELSE: no command of the shelf's: FOR A HAND-IN. Each laying: the table of numbers ('.._ren') and one theorem, a field a fact of the dump's own or the kernel's comparison; each contract: ONE APPLICATION.
  Contract: strings.Clone: the same text; nothing that was there turns.
  Contracts: cmp.Or at two numbers, and the comparison of two versions by their dots.
  Contracts: State.Delete and State.Put: what is left of a key's state, in new memory.
-/
import Derived.Test.YtldmcdeibiclkaaGreatDoorC36
import Derived.Shelf.SlGeneric
import Derived.Shelf.SlIter.Nil
import Derived.Shelf.SortM.Plain
import Derived.Shelf.SortM.SortNone
import Derived.Ground.GgzProg
import Derived.Ground.SlgmProg
import Derived.Test.YtldmcdeibiclkaaGreatDoorC34
import Derived.Shelf.Strconv.Clone
import Derived.Shelf.SlSortCmp.WholeK
import Derived.Ground.NamesProg
import Derived.Ground.SlsfProg
import Derived.Test.YtldmcdeibiclkaaGreatDoorC35
import Derived.Deep.RegionHeld3
import Derived.Sort.Grow
set_option linter.unusedVariables false
set_option linter.unusedSimpArgs false
set_option maxRecDepth 4000
section
namespace Go.Proofs.YtldmcdeibiclkaaGreatDoorQ
open Go.RowKit
open Go.Lib (strCells strCells_length strCells_oneCell)
structure Rc where
 key:ByteArray
 c:Ctx
 sv:Value
 l:List Ver
def flatR (rs:List Rc):List Value:=rs.flatMap fun r=>encR r.key r.c r.sv
def recsB (rs:List Rc):ByteArray:=rs.foldl (fun s r=>s++recB r.key r.c r.l) ByteArray.empty
def RSl (w:World) (B:Nat) (rv:Value) (rs:List Rc):Prop:=w.ownsRow B 151 6 rv rs.length (flatR rs)
theorem flatR_append (a b:List Rc):flatR (a++b)=flatR a++flatR b:=by simp [flatR]
theorem flatR_get (rs:List Rc) (k:Nat) (h:k< rs.length) (j:Nat) (hj:j< 6):(flatR rs)[k*6+j]? =(encR rs[k].key rs[k].c rs[k].sv)[j]? :=by
 induction rs generalizing k with
 |nil=>simp at h
 |cons r rs ih=>
  have e:flatR (r::rs)=encR r.key r.c r.sv++flatR rs:=by simp [flatR]
  have el:(encR r.key r.c r.sv).length=6:=rfl
  cases k with
  |zero=>rw [e,List.getElem?_append_left (by omega)];simp
  |succ k=>
   have h':k< rs.length:=by simpa using h
   rw [e,List.getElem?_append_right (by omega),el,show (k+1)*6+j - 6=k*6+j by omega,ih k h']
   rfl
theorem recsB_snoc (l:List Rc) (r:Rc):recsB (l++ [r])=recsB l++recB r.key r.c r.l:=by
 simp [recsB,List.foldl_append]
theorem recsB_take {l:List Rc} {k:Nat} (h:k< l.length):recsB (l.take (k+1))=recsB (l.take k)++recB l[k].key l[k].c l[k].l:=by
 rw [List.take_succ_eq_append_getElem h,recsB_snoc]
theorem recsB_le (l:List Rc): ∀k,(recsB (l.take k)).size≤(recsB l).size:=fun k=>by
 have key: ∀(m:List Rc) (s:ByteArray),s.size≤(m.foldl (fun s r=>s++recB r.key r.c r.l) s).size:=fun m=>by
  induction m with
  |nil=>intro s;exact Nat.le_refl _
  |cons v m ih=>intro s;refine Nat.le_trans ?_ (ih (s++recB v.key v.c v.l));rw [ByteArray.size_append];omega
 conv=>rhs;rw [← List.take_append_drop k l]
 rw [recsB,recsB,List.foldl_append]
 exact key _ _
theorem RSl.cells {w:World} {B:Nat} {rv:Value} {rs:List Rc} (h:RSl w B rv rs) {k:Nat} (hk:k< rs.length):
  ∃g cap,rv= .slice (some ⟨g,0,none⟩) rs.length cap∧g< w.heap.size∧rs.length≤cap∧cap≤maxLen∧∀j,j< 6→w.cell? ⟨g,k*6+j,none⟩=(encR rs[k].key rs[k].c rs[k].sv)[j]? :=by
 obtain ⟨h1,h2⟩:=h
 rcases h2 with ⟨_,h2⟩|⟨g,cap,cur,hv,_,hh,hn,hc,hs,ht⟩
 ·omega
 ·refine ⟨g,cap,hv,(Array.getElem?_eq_some_iff.1 hh).1,hn,hc,fun j hj=>?_⟩
  rw [← flatR_get rs k hk j hj,← ht,List.getElem?_take,if_pos (by omega)]
  simp [World.cell?,hh]
theorem RSl.len {w:World} {B:Nat} {v:Value} {rs:List Rc} (h:RSl w B v rs): ∃ad cap,v= .slice ad rs.length cap∧cap≤maxLen∧rs.length≤cap:=by
 rcases h.2 with ⟨h1,h2⟩|⟨g,cap,cur,hv,_,_,h4,h3,_⟩
 ·exact ⟨_,_,by rw [h1,h2],by simp,by omega⟩
 ·exact ⟨_,_,hv,h3,h4⟩
theorem vsl_form {w:World} {sv:Value} {l:List Ver} (h:VSl w sv l): ∃ad cap,sv= .slice ad l.length cap:=by
 rcases h.2 with ⟨h1,h2⟩|⟨g,cap,cur,hv,_⟩
 ·exact ⟨_,_,by rw [h1,h2]⟩
 ·exact ⟨_,_,hv⟩
set_option maxRecDepth 100000 in
set_option maxHeartbeats 4000000 in
theorem appendRecords_any (B:Nat) (rv:Value) (rs:List Rc) (w:World) (h:RSl w B rv rs) (hv: ∀r∈rs,VSl w r.sv r.l∧r.l.length≤100000) (hlen:(recsB rs).size≤140737488355328):
  Calls Qry.prog 48 #[.slice none 0 0,rv] w fun e w'=>∃v',e= .returned v'∧BRow w' w.heap.size v' (recsB rs)∧Below w.heap.size w w':=by
 obtain ⟨ad,cap,rfl,hcap,hlc⟩:=h.len
 unfold maxLen at hcap
 have H:Hid (RSl w B (.slice ad rs.length cap) rs):=h
 have HV:Hid (∀r∈rs,VSl w r.sv r.l∧r.l.length≤100000):=hv
 clear h hv
 go_enter Qry.func48,Qry.ntmps48
 go_wp2
 go_loopw [0,9] (fun o i wr=>∃k:Nat,k≤rs.length∧i= .int .i64 k∧Hid (BRow wr w.heap.size o (recsB (rs.take k)))∧Hid (Below w.heap.size w wr)) (fun _ i _=>rs.length - (intOf i).toNat)
 case atStart=>exact ⟨0,by omega,rfl,BRow.nil _ _,Below.refl _ _⟩
 case round=>
  obtain ⟨k,hk,rfl,hr,hb⟩:=hrel
  have HR:Hid (BRow wr w.heap.size u0 (recsB (rs.take k))):=hr.out
  have HB:Hid (Below w.heap.size w wr):=hb.out
  have hsz:=hb.out.size
  clear hr hb
  by_cases hlt:k< rs.length
  ·obtain ⟨g,cap',hsv',hgl,_,_,cc⟩:=RSl.cells H.out hlt
   cases hsv'
   have cw: ∀j,j< 6→wr.cell? ⟨g,k*6+j,none⟩=(encR rs[k].key rs[k].c rs[k].sv)[j]? :=fun j hj=>(HB.out.cell (p:=⟨g,k*6+j,none⟩) hgl).trans (cc j hj)
   have c0:=cw 0 (by omega)
   have c1:=cw 1 (by omega)
   have c2:=cw 2 (by omega)
   have c3:=cw 3 (by omega)
   have c4:=cw 4 (by omega)
   have c5:=cw 5 (by omega)
   clear cc cw
   simp [encR] at c0 c1 c2 c3 c4 c5
   have hvk:=HV.out rs[k] (List.getElem_mem hlt)
   have HVk:Hid (∀W,Below w.heap.size w W→VSl W rs[k].sv rs[k].l):=fun W hW=>ownsRow_below hvk.1 hW (Nat.le_refl _)
   have hvl:=hvk.2
   obtain ⟨adv,capv,hsvv⟩:=vsl_form hvk.1
   clear hvk
   have htk:=recsB_le rs (k+1)
   rw [recsB_take hlt,ByteArray.size_append] at htk
   have HT:Hid (recsB (rs.take k)++recB rs[k].key rs[k].c rs[k].l=recsB (rs.take (k+1))):=(recsB_take hlt).symm
   generalize recsB (rs.take k)=st at*
   have hst:st.size+(recB rs[k].key rs[k].c rs[k].l).size≤140737488355328:=by omega
   clear htk
   generalize rs[k].key=key at*
   generalize rs[k].c=c at*
   generalize rs[k].sv=sv at*
   generalize rs[k].l=l at*
   subst hsvv
   have g63:(k:Int)< (rs.length:Int):=by omega
   have k0:(0:Int)≤(k:Int):=by omega
   have HBa:Hid (Below w.heap.size w (wr.alloc (.cells #[.string key,.int .i64 (c 0),.int .i64 (c 1),.int .i64 (c 2),.int .i64 (c 3),.slice adv l.length capv] 151))):=HB.out.alloc hsz _
   have HRa:Hid (BRow (wr.alloc (.cells #[.string key,.int .i64 (c 0),.int .i64 (c 1),.int .i64 (c 2),.int .i64 (c 3),.slice adv l.length capv] 151)) w.heap.size u0 st):=HR.out.alloc _
   go_wp2_with (go_at_call 70;refine (appendTo_any w.heap.size u0 st key c (.slice adv l.length capv) l (wr.alloc (.cells #[.string key,.int .i64 (c 0),.int .i64 (c 1),.int .i64 (c 2),.int .i64 (c 3),.slice adv l.length capv] 151)) HRa.out (by simp;omega) (HVk.out _ HBa.out) hvl hst).mono ?_;rintro e w1 ⟨v1,rfl,hr1,hg1⟩;have HR1:Hid (BRow w1 w.heap.size v1 (st++recB key c l)):=hr1;have HB1:Hid (Below w.heap.size w w1):=hg1.toBelow HBa.out (by simp;omega) HRa.out;clear hr1 hg1)
   refine ⟨⟨k+1,by omega,by go_num,?_,HB1.out⟩,by simp [intOf];omega⟩
   show BRow _ _ _ _
   rw [← HT.out]
   exact HR1.out
  ·obtain rfl:k=rs.length:=by omega
   have HRe:Hid (BRow wr w.heap.size u0 (recsB rs)):=(by have:=HR.out;rw [List.take_length] at this;exact this)
   clear HR
   go_wp2
   go_ret
   exact ⟨_,rfl,HRe.out,HB.out⟩
end Go.Proofs.YtldmcdeibiclkaaGreatDoorQ
end
section
namespace Go.Proofs
open Go.Shelf
def Qry.keysS_ren:Go.Shelf.Ren:=⟨fun|7=>72|10=>97|n=>n,fun|23=>98|26=>9|3=>106|28=>155|0=>0|27=>154|33=>103|4=>4|n=>n,fun|n=>n⟩
theorem Qry.keysS:Go.Proofs.SlLaysZ.n7 Qry.prog Qry.keysS_ren:={
 mixed:=by kernel_rfl
 f7:=⟨Qry.f72.name,by decide,Qry.func72.trans (congrArg some (by kernel_rfl))⟩
 f10:=⟨Qry.f97.name,by decide,Qry.func97.trans (congrArg some (by kernel_rfl))⟩
 t0:=Qry.underlying0
 a0:=Qry.isAgg0
 z0:=Qry.sizeOf0
 v0:=Qry.zeroValue0
 t4:=Qry.underlying4
 a4:=Qry.isAgg4
 z4:=Qry.sizeOf4
 v4:=Qry.zeroValue4
 t23:=Qry.underlying98
 a23:=Qry.isAgg98
 z23:=Qry.sizeOf98
 v23:=Qry.zeroValue98
 t26:=Qry.underlying9
 a26:=Qry.isAgg9
 z26:=Qry.sizeOf9
 v26:=Qry.zeroValue9
 t27:=Qry.underlying154
 a27:=Qry.isAgg154
 z27:=Qry.sizeOf154
 v27:=Qry.zeroValue154
 t28:=Qry.underlying155
 a28:=Qry.isAgg155
 z28:=Qry.sizeOf155
 v28:=Qry.zeroValue155
 t33:=Qry.underlying103
 a33:=Qry.isAgg103
 z33:=Qry.sizeOf103
 v33:=Qry.zeroValue103}
def Qry.sortedS_ren:Go.Shelf.Ren:=⟨fun|6=>71|8=>95|9=>96|11=>136|13=>85|12=>137|23=>115|24=>116|14=>152|15=>153|16=>154|17=>155|18=>156|19=>157|20=>158|21=>159|22=>160|25=>163|26=>143|27=>144|28=>164|29=>165|30=>166|31=>167|n=>n,fun|26=>9|28=>155|24=>38|0=>0|3=>3|37=>175|48=>186|50=>44|4=>4|40=>200|39=>199|45=>55|5=>5|9=>9|51=>225|55=>228|57=>242|58=>243|33=>103|n=>n,fun|n=>n⟩
theorem Qry.sortedS:Go.Proofs.SlLaysZ.n6 Qry.prog Qry.sortedS_ren:={
 mixed:=by kernel_rfl
 f6:=⟨Qry.f71.name,by decide,Qry.func71.trans (congrArg some (by kernel_rfl))⟩
 f8:=⟨Qry.f95.name,by decide,Qry.func95.trans (congrArg some (by kernel_rfl))⟩
 f11:=⟨Qry.f136.name,by decide,Qry.func136.trans (congrArg some (by kernel_rfl))⟩
 t0:=Qry.underlying0
 a0:=Qry.isAgg0
 z0:=Qry.sizeOf0
 v0:=Qry.zeroValue0
 t24:=Qry.underlying38
 a24:=Qry.isAgg38
 z24:=Qry.sizeOf38
 v24:=Qry.zeroValue38
 t26:=Qry.underlying9
 a26:=Qry.isAgg9
 z26:=Qry.sizeOf9
 v26:=Qry.zeroValue9
 t28:=Qry.underlying155
 a28:=Qry.isAgg155
 z28:=Qry.sizeOf155
 v28:=Qry.zeroValue155
 i26:=by kernel_rfl}
def Qry.sortS_ren:Go.Shelf.Ren:=⟨fun|6=>96|8=>85|9=>137|19=>115|20=>116|21=>152|22=>153|23=>154|24=>155|25=>156|26=>157|27=>158|28=>159|29=>160|36=>163|31=>143|32=>144|37=>164|38=>165|39=>166|41=>167|n=>n,fun|27=>38|29=>9|3=>3|32=>175|26=>38|0=>0|44=>186|46=>44|4=>4|36=>200|35=>199|41=>55|5=>5|9=>9|53=>225|57=>228|63=>242|64=>243|n=>n,fun|n=>n⟩
theorem Qry.sortS:Go.Proofs.SlLaysM.n6 Qry.prog Qry.sortS_ren:={
 mixed:=by kernel_rfl
 f6:=⟨Qry.f96.name,by decide,Qry.func96.trans (congrArg some (by kernel_rfl))⟩
 f8:=Qry.func85.trans (congrArg some (by kernel_rfl))
 f9:=⟨Qry.f137.name,by decide,Qry.func137.trans (congrArg some (by kernel_rfl))⟩
 f19:=Qry.func115.trans (congrArg some (by kernel_rfl))
 f20:=Qry.func116.trans (congrArg some (by kernel_rfl))
 f21:=⟨Qry.f152.name,by decide,Qry.func152.trans (congrArg some (by kernel_rfl))⟩
 f22:=⟨Qry.f153.name,by decide,Qry.func153.trans (congrArg some (by kernel_rfl))⟩
 f23:=⟨Qry.f154.name,by decide,Qry.func154.trans (congrArg some (by kernel_rfl))⟩
 f24:=⟨Qry.f155.name,by decide,Qry.func155.trans (congrArg some (by kernel_rfl))⟩
 f25:=⟨Qry.f156.name,by decide,Qry.func156.trans (congrArg some (by kernel_rfl))⟩
 f26:=⟨Qry.f157.name,by decide,Qry.func157.trans (congrArg some (by kernel_rfl))⟩
 f27:=⟨Qry.f158.name,by decide,Qry.func158.trans (congrArg some (by kernel_rfl))⟩
 f28:=⟨Qry.f159.name,by decide,Qry.func159.trans (congrArg some (by kernel_rfl))⟩
 f29:=⟨Qry.f160.name,by decide,Qry.func160.trans (congrArg some (by kernel_rfl))⟩
 f31:=Qry.func143.trans (congrArg some (by kernel_rfl))
 f32:=Qry.func144.trans (congrArg some (by kernel_rfl))
 f36:=⟨Qry.f163.name,by decide,Qry.func163.trans (congrArg some (by kernel_rfl))⟩
 f37:=⟨Qry.f164.name,by decide,Qry.func164.trans (congrArg some (by kernel_rfl))⟩
 f38:=⟨Qry.f165.name,by decide,Qry.func165.trans (congrArg some (by kernel_rfl))⟩
 f39:=⟨Qry.f166.name,by decide,Qry.func166.trans (congrArg some (by kernel_rfl))⟩
 f41:=⟨Qry.f167.name,by decide,Qry.func167.trans (congrArg some (by kernel_rfl))⟩
 t0:=Qry.underlying0
 a0:=Qry.isAgg0
 z0:=Qry.sizeOf0
 v0:=Qry.zeroValue0
 t3:=Qry.underlying3
 a3:=Qry.isAgg3
 z3:=Qry.sizeOf3
 v3:=Qry.zeroValue3
 t4:=Qry.underlying4
 a4:=Qry.isAgg4
 z4:=Qry.sizeOf4
 v4:=Qry.zeroValue4
 t5:=Qry.underlying5
 a5:=Qry.isAgg5
 z5:=Qry.sizeOf5
 v5:=Qry.zeroValue5
 t9:=Qry.underlying9
 a9:=Qry.isAgg9
 z9:=Qry.sizeOf9
 v9:=Qry.zeroValue9
 t26:=Qry.underlying38
 a26:=Qry.isAgg38
 z26:=Qry.sizeOf38
 v26:=Qry.zeroValue38
 t27:=Qry.underlying38
 a27:=Qry.isAgg38
 z27:=Qry.sizeOf38
 v27:=Qry.zeroValue38
 t29:=Qry.underlying9
 a29:=Qry.isAgg9
 z29:=Qry.sizeOf9
 v29:=Qry.zeroValue9
 t32:=Qry.underlying175
 a32:=Qry.isAgg175
 z32:=Qry.sizeOf175
 v32:=Qry.zeroValue175
 t35:=Qry.underlying199
 a35:=Qry.isAgg199
 z35:=Qry.sizeOf199
 v35:=Qry.zeroValue199
 t36:=Qry.underlying200
 a36:=Qry.isAgg200
 z36:=Qry.sizeOf200
 v36:=Qry.zeroValue200
 t41:=Qry.underlying55
 a41:=Qry.isAgg55
 z41:=Qry.sizeOf55
 v41:=Qry.zeroValue55
 t44:=Qry.underlying186
 a44:=Qry.isAgg186
 z44:=Qry.sizeOf186
 v44:=Qry.zeroValue186
 t46:=Qry.underlying44
 a46:=Qry.isAgg44
 z46:=Qry.sizeOf44
 v46:=Qry.zeroValue44
 t53:=Qry.underlying225
 a53:=Qry.isAgg225
 z53:=Qry.sizeOf225
 v53:=Qry.zeroValue225
 t57:=Qry.underlying228
 a57:=Qry.isAgg228
 z57:=Qry.sizeOf228
 v57:=Qry.zeroValue228
 t63:=Qry.underlying242
 a63:=Qry.isAgg242
 z63:=Qry.sizeOf242
 v63:=Qry.zeroValue242
 t64:=Qry.underlying243
 a64:=Qry.isAgg243
 z64:=Qry.sizeOf243
 v64:=Qry.zeroValue243}
end Go.Proofs
end
section
namespace Go.Proofs
open Go.Shelf
def Qry.cloneS_ren:Go.Shelf.Ren:=⟨fun|316=>67|n=>n,fun|9=>9|3=>3|4=>4|37=>48|0=>0|127=>177|5=>5|n=>n,fun|n=>n⟩
theorem Qry.cloneS:Go.Proofs.LaysM.n316 Qry.prog Qry.cloneS_ren:={
 mixed:=by kernel_rfl
 f316:=Qry.func67.trans (congrArg some (by kernel_rfl))
 t0:=Qry.underlying0
 a0:=Qry.isAgg0
 z0:=Qry.sizeOf0
 v0:=Qry.zeroValue0
 t3:=Qry.underlying3
 a3:=Qry.isAgg3
 z3:=Qry.sizeOf3
 v3:=Qry.zeroValue3
 t4:=Qry.underlying4
 a4:=Qry.isAgg4
 z4:=Qry.sizeOf4
 v4:=Qry.zeroValue4
 t9:=Qry.underlying9
 a9:=Qry.isAgg9
 z9:=Qry.sizeOf9
 v9:=Qry.zeroValue9
 t37:=Qry.underlying48
 a37:=Qry.isAgg48
 z37:=Qry.sizeOf48
 v37:=Qry.zeroValue48
 t127:=Qry.underlying177
 a127:=Qry.isAgg177
 z127:=Qry.sizeOf177
 v127:=Qry.zeroValue177
 t5:=Qry.underlying5
 a5:=Qry.isAgg5
 z5:=Qry.sizeOf5
 v5:=Qry.zeroValue5
 i0:=by kernel_rfl
 i3:=by kernel_rfl
 i4:=by kernel_rfl
 i5:=by kernel_rfl
 i9:=by kernel_rfl
 i37:=by kernel_rfl
 i127:=by kernel_rfl}
def Qry.sortV_ren:Go.Shelf.Ren:=⟨fun|6=>65|15=>85|14=>84|28=>115|29=>116|20=>107|21=>108|22=>109|23=>110|24=>111|25=>112|26=>113|27=>114|46=>142|47=>143|48=>144|49=>145|50=>146|57=>162|n=>n,fun|22=>104|24=>144|25=>146|3=>3|39=>175|0=>0|53=>186|55=>44|4=>4|46=>200|45=>199|50=>55|5=>5|9=>9|66=>225|70=>228|76=>242|77=>243|n=>n,fun|n=>n⟩
theorem Qry.sortV:Go.Proofs.SlLaysF0.n6 Qry.prog Qry.sortV_ren:={
 mixed:=by kernel_rfl
 f6:=⟨Qry.f65.name,by decide,Qry.func65.trans (congrArg some (by kernel_rfl))⟩
 f14:=⟨Qry.f84.name,by decide,Qry.func84.trans (congrArg some (by kernel_rfl))⟩
 f15:=Qry.func85.trans (congrArg some (by kernel_rfl))
 f20:=⟨Qry.f107.name,by decide,Qry.func107.trans (congrArg some (by kernel_rfl))⟩
 f21:=⟨Qry.f108.name,by decide,Qry.func108.trans (congrArg some (by kernel_rfl))⟩
 f22:=⟨Qry.f109.name,by decide,Qry.func109.trans (congrArg some (by kernel_rfl))⟩
 f23:=⟨Qry.f110.name,by decide,Qry.func110.trans (congrArg some (by kernel_rfl))⟩
 f24:=⟨Qry.f111.name,by decide,Qry.func111.trans (congrArg some (by kernel_rfl))⟩
 f25:=⟨Qry.f112.name,by decide,Qry.func112.trans (congrArg some (by kernel_rfl))⟩
 f26:=⟨Qry.f113.name,by decide,Qry.func113.trans (congrArg some (by kernel_rfl))⟩
 f27:=⟨Qry.f114.name,by decide,Qry.func114.trans (congrArg some (by kernel_rfl))⟩
 f28:=Qry.func115.trans (congrArg some (by kernel_rfl))
 f29:=Qry.func116.trans (congrArg some (by kernel_rfl))
 f46:=⟨Qry.f142.name,by decide,Qry.func142.trans (congrArg some (by kernel_rfl))⟩
 f47:=Qry.func143.trans (congrArg some (by kernel_rfl))
 f48:=Qry.func144.trans (congrArg some (by kernel_rfl))
 f49:=⟨Qry.f145.name,by decide,Qry.func145.trans (congrArg some (by kernel_rfl))⟩
 f50:=⟨Qry.f146.name,by decide,Qry.func146.trans (congrArg some (by kernel_rfl))⟩
 f57:=⟨Qry.f162.name,by decide,Qry.func162.trans (congrArg some (by kernel_rfl))⟩
 t0:=Qry.underlying0
 a0:=Qry.isAgg0
 z0:=Qry.sizeOf0
 v0:=Qry.zeroValue0
 t3:=Qry.underlying3
 a3:=Qry.isAgg3
 z3:=Qry.sizeOf3
 v3:=Qry.zeroValue3
 t4:=Qry.underlying4
 a4:=Qry.isAgg4
 z4:=Qry.sizeOf4
 v4:=Qry.zeroValue4
 t5:=Qry.underlying5
 a5:=Qry.isAgg5
 z5:=Qry.sizeOf5
 v5:=Qry.zeroValue5
 t9:=Qry.underlying9
 a9:=Qry.isAgg9
 z9:=Qry.sizeOf9
 v9:=Qry.zeroValue9
 t22:=Qry.underlying104
 a22:=Qry.isAgg104
 z22:=Qry.sizeOf104
 v22:=Qry.zeroValue104
 t25:=Qry.underlying146
 a25:=Qry.isAgg146
 z25:=Qry.sizeOf146
 v25:=Qry.zeroValue146
 t39:=Qry.underlying175
 a39:=Qry.isAgg175
 z39:=Qry.sizeOf175
 v39:=Qry.zeroValue175
 t45:=Qry.underlying199
 a45:=Qry.isAgg199
 z45:=Qry.sizeOf199
 v45:=Qry.zeroValue199
 t46:=Qry.underlying200
 a46:=Qry.isAgg200
 z46:=Qry.sizeOf200
 v46:=Qry.zeroValue200
 t50:=Qry.underlying55
 a50:=Qry.isAgg55
 z50:=Qry.sizeOf55
 v50:=Qry.zeroValue55
 t53:=Qry.underlying186
 a53:=Qry.isAgg186
 z53:=Qry.sizeOf186
 v53:=Qry.zeroValue186
 t55:=Qry.underlying44
 a55:=Qry.isAgg44
 z55:=Qry.sizeOf44
 v55:=Qry.zeroValue44
 t66:=Qry.underlying225
 a66:=Qry.isAgg225
 z66:=Qry.sizeOf225
 v66:=Qry.zeroValue225
 t70:=Qry.underlying228
 a70:=Qry.isAgg228
 z70:=Qry.sizeOf228
 v70:=Qry.zeroValue228
 t76:=Qry.underlying242
 a76:=Qry.isAgg242
 z76:=Qry.sizeOf242
 v76:=Qry.zeroValue242
 t77:=Qry.underlying243
 a77:=Qry.isAgg243
 z77:=Qry.sizeOf243
 v77:=Qry.zeroValue243}
end Go.Proofs
end
section
namespace Go.Proofs
open Go.Shelf Go.RowKit
namespace YtldmcdeibiclkaaGreatDoorQ
theorem cloneLite_any (s:ByteArray) (w:World) (hs:s.size≤281474976710656):
  Calls Qry.prog 67 #[.string s] w fun e w'=>e= .returned (.string s)∧Below w.heap.size w w':=
 Any.stringslite_Clone Qry.cloneS s w hs
set_option maxHeartbeats 400000 in
theorem clone_any (s:ByteArray) (w:World) (hs:s.size≤281474976710656):
  Calls Qry.prog 41 #[.string s] w fun e w'=>e= .returned (.string s)∧Below w.heap.size w w':=by
 go_enter Qry.func41,Qry.ntmps41
 go_wp2_with (go_at_call 67;refine (cloneLite_any s _ hs).mono ?_;rintro e w' ⟨rfl,hb⟩)
 go_ret
 exact ⟨rfl,hb⟩
end YtldmcdeibiclkaaGreatDoorQ
end Go.Proofs
end
section
namespace Go.Proofs.YtldmcdeibiclkaaGreatDoorQ
open Go.RowKit
def orI (x y:Int):Int:=if x=0 then y else x
set_option maxHeartbeats 1000000 in
theorem or_any (b off cap:Nat) (x y:Int) (w:World) (h0:w.cell? ⟨b,off,none⟩=some (.int .i64 x)) (h1:w.cell? ⟨b,off+1,none⟩=some (.int .i64 y)):
  Calls Qry.prog 86 #[.slice (some ⟨b,off,none⟩) 2 cap] w fun e w'=>e= .returned (.int .i64 (orI x y))∧w'=w:=by
 go_enter Qry.func86,Qry.ntmps86
 go_wp2
 go_loop [8] (fun i=>∃k:Nat,k≤2∧i= .int .i64 k∧Hid ((0< k→x=0)∧(1< k→y=0))) (fun i=>2 - (intOf i).toNat)
 case atStart=>exact ⟨0,by omega,rfl,fun h=>by omega,fun h=>by omega⟩
 case round=>
  obtain ⟨k,hk,rfl,hall⟩:=hrel
  by_cases hlt:k< 2
  ·have hk':k=0∨k=1:=by omega
   rcases hk' with rfl|rfl
   ·by_cases hx:x=0
    ·subst hx
     go_wp2
     exact ⟨⟨1,by omega,rfl,fun _=>by trivial,fun h=>by omega⟩,by simp [intOf]⟩
    ·have hx':(x==0)=false:=by simp [hx]
     have hx2:(x !=0)=true:=by simp [hx]
     go_wp2
     go_ret
     exact ⟨ret_int (by simp [orI,hx]),rfl⟩
   ·have hx:=hall.out.1 (by omega)
    subst hx
    by_cases hy:y=0
    ·subst hy
     go_wp2
     exact ⟨⟨2,by omega,rfl,fun _=>by trivial,fun _=>by trivial⟩,by simp [intOf]⟩
    ·have hy':(y==0)=false:=by simp [hy]
     have hy2:(y !=0)=true:=by simp [hy]
     go_wp2
     go_ret
     exact ⟨ret_int (by simp [orI]),rfl⟩
  ·obtain rfl:k=2:=by omega
   have hx:=hall.out.1 (by omega)
   have hy:=hall.out.2 (by omega)
   subst hx hy
   go_wp2
   go_ret
   exact ⟨ret_int (by simp [orI]),rfl⟩
def cmpI (x y:Int):Int:=if x< y then -1 else if y< x then 1 else 0
def cmpV (a b:Ver):Int:=orI (cmpI a.rep b.rep) (cmpI a.n b.n)
set_option maxHeartbeats 2000000 in
theorem byDot_any (ra na rb nb:Int) (va vb:ByteArray) (w:World):
  Calls Qry.prog 66 #[.agg #[.int .i64 ra,.int .i64 na,.string va],.agg #[.int .i64 rb,.int .i64 nb,.string vb]] w fun e w'=>e= .returned (.int .i64 (orI (cmpI ra rb) (cmpI na nb)))∧∃q os',w'=Go.Sort.grow (w.drewN q) os':=by
 have hc1: ∀W,Calls Qry.prog 87 #[.int .i64 ra,.int .i64 rb] W fun e w'=>e= .returned (.int .i64 (cmpI ra rb))∧w'=W:=fun W=>compare_any ra rb W
 have hc2: ∀W,Calls Qry.prog 87 #[.int .i64 na,.int .i64 nb] W fun e w'=>e= .returned (.int .i64 (cmpI na nb))∧w'=W:=fun W=>compare_any na nb W
 have H1:Hid _:=hc1
 have H2:Hid _:=hc2
 clear hc1 hc2
 generalize cmpI ra rb=r1 at*
 generalize cmpI na nb=r2 at*
 go_enter Qry.func66,Qry.ntmps66
 go_wp2
 go_region_held3 (fun w'=>w'.cell? ⟨w.heap.size,0,none⟩=some (.int .i64 ra)∧w'.cell? ⟨w.heap.size,1,none⟩=some (.int .i64 na)∧w'.cell? ⟨w.heap.size+1,0,none⟩=some (.int .i64 rb)∧w'.cell? ⟨w.heap.size+1,1,none⟩=some (.int .i64 nb)) (go_keep) (first
  |(go_at_call_of 87 (Value.int .i64 ra);refine (H1.out _).mono ?_;rintro e w' ⟨rfl,rfl⟩)
  |(go_at_call_of 87 (Value.int .i64 na);refine (H2.out _).mono ?_;rintro e w' ⟨rfl,rfl⟩)
  |(go_at_call 86;refine (or_any _ _ _ r1 r2 _ (by go_simp) (by go_simp)).mono ?_;rintro e w' ⟨rfl,rfl⟩))
 go_wp2
 go_ret
 exact ⟨rfl,1,_,by rw [Go.Sort.alloc_eq_grow,Go.Sort.alloc_eq_grow,Go.Sort.alloc_eq_grow,Go.Sort.grow_grow,Go.Sort.grow_grow];rfl⟩
end Go.Proofs.YtldmcdeibiclkaaGreatDoorQ
end
section
namespace Go.Proofs.YtldmcdeibiclkaaGreatDoorQ
open Go.RowKit
theorem box3 {w w1:World} {A B C:Array Value} {ta tb tc:TypeId} (hb:Below (w.heap.size+3) (((w.alloc (.cells A ta)).alloc (.cells B tb)).alloc (.cells C tc)) w1):
  (∀o,w1.cell? ⟨w.heap.size,o,none⟩=A[o]?)∧(∀o,w1.cell? ⟨w.heap.size+1,o,none⟩=B[o]?)∧(∀o,w1.cell? ⟨w.heap.size+1+1,o,none⟩=C[o]?)∧(∀o,w1.frozen? ⟨w.heap.size,o,none⟩=false)∧(∀o,w1.frozen? ⟨w.heap.size+1,o,none⟩=false)∧(∀o,w1.frozen? ⟨w.heap.size+1+1,o,none⟩=false):=by
 have e0:w1.heap[w.heap.size]? =some (.cells A ta):=by
  rw [hb.block _ (by omega),Below.heap_alloc _ _ _ (by simp;omega),Below.heap_alloc _ _ _ (by simp)]
  exact heap_alloc_new w _
 have e1:w1.heap[w.heap.size+1]? =some (.cells B tb):=by
  rw [hb.block _ (by omega),Below.heap_alloc _ _ _ (by simp)]
  have:=heap_alloc_new (w.alloc (.cells A ta)) (.cells B tb)
  simpa using this
 have e2:w1.heap[w.heap.size+1+1]? =some (.cells C tc):=by
  rw [hb.block _ (by omega)]
  have:=heap_alloc_new ((w.alloc (.cells A ta)).alloc (.cells B tb)) (.cells C tc)
  simpa using this
 refine ⟨fun o=>?_,fun o=>?_,fun o=>?_,fun o=>?_,fun o=>?_,fun o=>?_⟩
 ·simp [World.cell?,e0]
 ·simp [World.cell?,e1]
 ·simp [World.cell?,e2]
 ·simp [World.frozen?,e0]
 ·simp [World.frozen?,e1]
 ·simp [World.frozen?,e2]
theorem VSl.len {w:World} {sv:Value} {l:List Ver} (h:VSl w sv l): ∃ad cap,sv= .slice ad l.length cap∧(cap:Int)≤9223372036854775807:=by
 rcases h.2 with ⟨h1,h2⟩|⟨g,cap,cur,hv,_,_,_,h3,_⟩
 ·exact ⟨_,_,by rw [h1,h2],by simp⟩
 ·exact ⟨_,_,hv,by unfold maxLen at h3;omega⟩
theorem ownsRow_len {w:World} {B:Nat} {sv:Value} {l:List Ver} (h:w.ownsRow B 144 3 sv l.length (flatV l)): ∃ad cap,sv= .slice ad l.length cap:=by
 rcases h.2 with ⟨h1,h2⟩|⟨g,cap,cur,hv,_⟩
 ·exact ⟨_,_,by rw [h1,h2]⟩
 ·exact ⟨_,_,hv⟩
abbrev stV (c:Ctx) (sv:Value):Value:= .agg #[.int .i64 (c 0),.int .i64 (c 1),.int .i64 (c 2),.int .i64 (c 3),sv]
set_option maxRecDepth 100000 in
set_option maxHeartbeats 1000000 in
theorem stDelete_none (c:Ctx) (sv:Value) (l:List Ver) (seen:Ctx) (w:World) (h:VSl w sv l) (hr: ∀v∈l,v.rep< 4) (hlen:l.length≤100000) (hn:(unseenL l seen).length=l.length):
  Calls Qry.prog 44 #[stV c sv,ctxV seen] w fun e w'=>e= .returned (.tuple #[stV (fun _=>0) (.slice none 0 0),.int .i64 5])∧Below w.heap.size w w':=by
 obtain ⟨ad,cap,rfl,hcap⟩:=h.len
 have H3:Hid (∀a b d,VSl (((w.alloc a).alloc b).alloc d) (.slice ad l.length cap) l):=fun a b d=>((World.ownsRow.alloc h a).alloc b).alloc d
 have HN:Hid _:=hn
 have HR:Hid _:=hr
 clear h hr hn
 go_enter Qry.func44,Qry.ntmps44
 go_wp2_with (go_at_call 63;refine (unseenBy_any c _ l seen _ (H3.out _ _ _) HR.out hlen).mono ?_;rintro e w1 ⟨v',rfl,hown,hb⟩;obtain ⟨ad',cap',hv'⟩:=ownsRow_len hown;rw [HN.out] at hv';subst hv';simp at hb;obtain ⟨b0,b1,b2,f0,f1,f2⟩:=box3 hb;have HO:Hid _:=hown;have HB:Hid _:=hb;clear hown hb)
 refine bodyPost_ret (v:= .tuple #[stV (fun _=>0) (.slice none 0 0),.int .i64 5]) ?_ rfl ⟨rfl,?_⟩
 ·simp [results,Qry.results44,go_sem,b2]
 ·exact ((((((((Below.refl _ _).alloc (Nat.le_refl _) _).alloc (by simp) _).alloc (by simp;omega) _).trans (HB.out.mono (by omega))).setCell (by simp;omega) _).setCell (by simp;omega) _).setCell (by simp;omega) _|>.setCell (by simp;omega) _).setCell (by simp;omega) _
set_option maxRecDepth 100000 in
set_option maxHeartbeats 1000000 in
theorem stDelete_some (c:Ctx) (sv:Value) (l:List Ver) (seen:Ctx) (w:World) (h:VSl w sv l) (hr: ∀v∈l,v.rep< 4) (hlen:l.length≤100000) (hn:(unseenL l seen).length< l.length):
  Calls Qry.prog 44 #[stV c sv,ctxV seen] w fun e w'=>∃v',e= .returned (.tuple #[stV (bothC c seen) v',.int .i64 0])∧w'.ownsRow w.heap.size 144 3 v' (unseenL l seen).length (flatV (unseenL l seen))∧Below w.heap.size w w':=by
 obtain ⟨ad,cap,rfl,hcap⟩:=h.len
 have H3:Hid (∀a b d,VSl (((w.alloc a).alloc b).alloc d) (.slice ad l.length cap) l):=fun a b d=>((World.ownsRow.alloc h a).alloc b).alloc d
 have HR:Hid _:=hr
 clear h hr
 have hne:(((unseenL l seen).length:Int)==(l.length:Int))=false:=by simp;omega
 go_enter Qry.func44,Qry.ntmps44
 go_wp2_with (first
  |(go_at_call 63;refine (unseenBy_any c _ l seen _ (H3.out _ _ _) HR.out hlen).mono ?_;rintro e w1 ⟨v',rfl,hown,hb⟩;obtain ⟨ad',cap',hv'⟩:=ownsRow_len hown;subst hv';simp at hb;obtain ⟨b0,b1,b2,f0,f1,f2⟩:=box3 hb;have HO:Hid _:=hown;have HB:Hid _:=hb;clear hown hb)
  |(go_at_call 64;refine (greater_any c seen _).mono ?_;rintro e w2 ⟨rfl,hb2⟩;have hb3:=HB.out.trans (hb2.mono (by have:=HB.out.size;simp at this;omega));obtain ⟨b0,b1,b2,f0,f1,f2⟩:=box3 hb3;have HB3:Hid _:=hb3;have HB2:Hid _:=hb2;clear hb3 hb2))
 refine bodyPost_ret (v:= .tuple #[stV (bothC c seen) (.slice ad' (unseenL l seen).length cap'),.int .i64 0]) ?_ rfl ⟨_,rfl,?_,?_⟩
 ·simp [results,Qry.results44,go_sem,b2]
 ·have h1:=ownsRow_base HO.out (show w.heap.size+3≤_ by simp)
  have h2:=ownsRow_below h1 HB2.out (Nat.le_refl _)
  exact ownsRow_base (ownsRow_setCell_below (ownsRow_setCell_below (ownsRow_setCell_below (ownsRow_setCell_below (ownsRow_setCell_below h2 (by simp) _) (by simp) _) (by simp) _) (by simp) _) (by simp) _) (by omega)
 ·exact ((((((((Below.refl _ _).alloc (Nat.le_refl _) _).alloc (by simp) _).alloc (by simp;omega) _).trans (HB3.out.mono (by omega))).setCell (by simp;omega) _).setCell (by simp;omega) _).setCell (by simp;omega) _|>.setCell (by simp;omega) _).setCell (by simp;omega) _
end Go.Proofs.YtldmcdeibiclkaaGreatDoorQ
end
