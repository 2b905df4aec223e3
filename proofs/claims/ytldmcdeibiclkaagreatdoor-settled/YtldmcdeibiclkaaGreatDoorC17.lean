/-
  Toward settled_holds: Contracts: State.Delete and State.Put: what is left of a key's state, in new memory.
-/
import Derived.Test.YtldmcdeibiclkaaGreatDoorC16
import Derived.Shelf.SlGeneric
import Derived.Shelf.Strconv.Clone
import Derived.Shelf.SlSortCmp.WholeK
import Derived.Ground.NamesProg
import Derived.Ground.SlsfProg
import Derived.Laws.StructEq
import Derived.Laws.Bits64
import Derived.Deep.RegionHeld3
import Derived.Laws.MakeOwn
set_option linter.unusedVariables false
set_option linter.unusedSimpArgs false
set_option maxRecDepth 100000
set_option maxHeartbeats 20000000
namespace Go.Proofs.YtldmcdeibiclkaaGreatDoorQ
variable {w:World}{sv:Value}{l:List aj}
open Go.RowKit
theorem lX{w1:World}{A B C:Array Value}{ta tb tc:TypeId}(hb:Below (w.heap.size+3) (((w.alloc (.cells A ta)).alloc (.cells B tb)).alloc (.cells C tc)) w1):
  (∀o,w1.cell? ⟨w.heap.size,o,none⟩=A[o]?)/\(∀o,w1.cell? ⟨w.heap.size+1,o,none⟩=B[o]?)/\(∀o,w1.cell? ⟨w.heap.size+1+1,o,none⟩=C[o]?)/\(∀o,w1.frozen? ⟨w.heap.size,o,none⟩=false)/\(∀o,w1.frozen? ⟨w.heap.size+1,o,none⟩=false)/\(∀o,w1.frozen? ⟨w.heap.size+1+1,o,none⟩=false):=by
 have e0:w1.heap[w.heap.size]?=some (.cells A ta):=by
  rw[hb.block _ (by omega),OF _ _ _ (by simp;omega),OF _ _ _ (by simp)];exact BY w _
 have e1:w1.heap[w.heap.size+1]?=some (.cells B tb):=by
  rw[hb.block _ (by omega),OF _ _ _ (by simp)]
  have:=BY (w.alloc (.cells A ta)) (.cells B tb);simpa using this
 have e2:w1.heap[w.heap.size+1+1]?=some (.cells C tc):=by
  rw[hb.block _ (by omega)]
  have:=BY ((w.alloc (.cells A ta)).alloc (.cells B tb)) (.cells C tc);simpa using this
 refine⟨λo=>?_,λo=>?_,λo=>?_,λo=>?_,λo=>?_,λo=>?_⟩
 ·simp[World.cell?,e0]
 ·simp[World.cell?,e1]
 ·simp[World.cell?,e2]
 ·simp[World.frozen?,e0]
 ·simp[World.frozen?,e1]
 ·simp[World.frozen?,e2]
theorem aC.len(h:aC w sv l): ∃ad cap,sv=.slice ad l.length cap/\(cap:Int)<=9223372036854775807:=by
 rcases h.2 with⟨h1,h2⟩|⟨g,cap,cur,hv,_,_,_,h3,_⟩
 ·exact⟨_,_,by rw[h1,h2],by simp⟩
 ·exact⟨_,_,hv,by unfold maxLen at h3;omega⟩
theorem oz{B:Nat}(h:w.ownsRow B 144 3 sv l.length (aX l)): ∃ad cap,sv=.slice ad l.length cap:=by
 rcases h.2 with⟨h1,h2⟩|⟨g,cap,cur,hv,_⟩
 ·exact⟨_,_,by rw[h1,h2]⟩
 ·exact⟨_,_,hv⟩
abbrev bL(c:Ctx)(sv:Value):Value:=.agg #[.int .i64 (c 0),.int .i64 (c 1),.int .i64 (c 2),.int .i64 (c 3),sv]
theorem MI(c:Ctx)(sv:Value)(l:List aj)(seen:Ctx)(w:World)(h:aC w sv l)(hr:∀v∈l,v.rep<4)(hlen:l.length<=100000)(hn:(aW l seen).length=l.length):
  Calls aa.prog 44 #[bL c sv,c9 seen] w λe w'=>e=.returned (.tuple #[bL (λ_=>0) (.slice none 0 0),.int .i64 5])/\Below w.heap.size w w':=by
 obtain⟨ad,cap,rfl,hcap⟩:=h.len;have H3:Hid (∀a b d,aC (((w.alloc a).alloc b).alloc d) (.slice ad l.length cap) l):=λa b d=>((Xh h a).alloc b).alloc d;have HN:Hid _:=hn;have HR:Hid _:=hr;clear h hr hn;go_enter aa.func44,aa.ntmps44;go_wp2_with (go_at_call 63;refine (pn c _ l seen _ (H3.out _ _ _) HR.out hlen).mono ?_;rintro e w1 ⟨v',rfl,aD,hb⟩;obtain⟨ad',cap',hv'⟩:=oz aD;rw[HN.out]at hv';subst hv';simp at hb;obtain⟨b0,b1,b2,f0,f1,f2⟩:=lX hb;have HO:Hid _:=aD;have HB:Hid _:=hb;clear aD hb)
 refine XF (v:=.tuple #[bL (λ_=>0) (.slice none 0 0),.int .i64 5]) ?_ rfl ⟨rfl,?_⟩
 ·simp[results,aa.results44,go_sem,b2]
 ·exact ((((((((AT _ _).alloc (iR _) _).alloc (by simp) _).alloc (by simp;omega) _).trans (HB.out.mono (by omega))).setCell (by simp;omega) _).setCell (by simp;omega) _).setCell (by simp;omega) _|>.setCell (by simp;omega) _).setCell (by simp;omega) _
theorem Ra(c:Ctx)(sv:Value)(l:List aj)(seen:Ctx)(w:World)(h:aC w sv l)(hr:∀v∈l,v.rep<4)(hlen:l.length<=100000)(hn:(aW l seen).length<l.length):
  Calls aa.prog 44 #[bL c sv,c9 seen] w λe w'=>∃v',e=.returned (.tuple #[bL (aZ c seen) v',.int .i64 0])/\w'.ownsRow w.heap.size 144 3 v' (aW l seen).length (aX (aW l seen))/\Below w.heap.size w w':=by
 obtain⟨ad,cap,rfl,hcap⟩:=h.len;have H3:Hid (∀a b d,aC (((w.alloc a).alloc b).alloc d) (.slice ad l.length cap) l):=λa b d=>((Xh h a).alloc b).alloc d;have HR:Hid _:=hr;clear h hr;have hne:(((aW l seen).length:Int)==(l.length:Int))=false:=by simp;omega
 go_enter aa.func44,aa.ntmps44;go_wp2_with (first
  |(go_at_call 63;refine (pn c _ l seen _ (H3.out _ _ _) HR.out hlen).mono ?_;rintro e w1 ⟨v',rfl,aD,hb⟩;obtain⟨ad',cap',hv'⟩:=oz aD;subst hv';simp at hb;obtain⟨b0,b1,b2,f0,f1,f2⟩:=lX hb;have HO:Hid _:=aD;have HB:Hid _:=hb;clear aD hb)
  |(go_at_call 64;refine (sC c seen _).mono ?_;rintro e w2 ⟨rfl,hb2⟩;have hb3:=HB.out.trans (hb2.mono (by have:=HB.out.size;simp at this;omega));obtain⟨b0,b1,b2,f0,f1,f2⟩:=lX hb3;have HB3:Hid _:=hb3;have HB2:Hid _:=hb2;clear hb3 hb2))
 refine XF (v:=.tuple #[bL (aZ c seen) (.slice ad' (aW l seen).length cap'),.int .i64 0]) ?_ rfl ⟨_,rfl,?_,?_⟩
 ·simp[results,aa.results44,go_sem,b2]
 ·have h1:=ej HO.out (show w.heap.size+3<=_ by simp);have h2:=ec h1 HB2.out (iR _);exact ej (XK (XK (XK (XK (XK h2 (by simp) _) (by simp) _) (by simp) _) (by simp) _) (by simp) _) (by omega)
 ·exact ((((((((AT _ _).alloc (iR _) _).alloc (by simp) _).alloc (by simp;omega) _).trans (HB3.out.mono (by omega))).setCell (by simp;omega) _).setCell (by simp;omega) _).setCell (by simp;omega) _|>.setCell (by simp;omega) _).setCell (by simp;omega) _
end Go.Proofs.YtldmcdeibiclkaaGreatDoorQ
namespace Go.Proofs
section
open Go.Shelf
def aa.OT:Go.Shelf.Ren:=⟨fun|316=>67|n=>n,fun|9=>9|3=>3|4=>4|37=>48|0=>0|127=>177|5=>5|n=>n,fun|n=>n⟩
theorem aa.Vt:Go.Proofs.LaysM.n316 aa.prog aa.OT:={
 mixed:=by kernel_rfl
 f316:=aa.func67.trans (congrArg some (by kernel_rfl))
 t0:=aa.underlying0
 a0:=aa.isAgg0
 z0:=aa.sizeOf0
 v0:=aa.zeroValue0
 t3:=aa.underlying3
 a3:=aa.isAgg3
 z3:=aa.sizeOf3
 v3:=aa.zeroValue3
 t4:=aa.underlying4
 a4:=aa.isAgg4
 z4:=aa.sizeOf4
 v4:=aa.zeroValue4
 t9:=aa.underlying9
 a9:=aa.isAgg9
 z9:=aa.sizeOf9
 v9:=aa.zeroValue9
 t37:=aa.underlying48
 a37:=aa.isAgg48
 z37:=aa.sizeOf48
 v37:=aa.zeroValue48
 t127:=aa.underlying177
 a127:=aa.isAgg177
 z127:=aa.sizeOf177
 v127:=aa.zeroValue177
 t5:=aa.underlying5
 a5:=aa.isAgg5
 z5:=aa.sizeOf5
 v5:=aa.zeroValue5
 i0:=by kernel_rfl
 i3:=by kernel_rfl
 i4:=by kernel_rfl
 i5:=by kernel_rfl
 i9:=by kernel_rfl
 i37:=by kernel_rfl
 i127:=by kernel_rfl}
def aa.UQ:Go.Shelf.Ren:=⟨fun|6=>65|15=>85|14=>84|28=>115|29=>116|20=>107|21=>108|22=>109|23=>110|24=>111|25=>112|26=>113|27=>114|46=>142|47=>143|48=>144|49=>145|50=>146|57=>162|n=>n,fun|22=>104|24=>144|25=>146|3=>3|39=>175|0=>0|53=>186|55=>44|4=>4|46=>200|45=>199|50=>55|5=>5|9=>9|66=>225|70=>228|76=>242|77=>243|n=>n,fun|n=>n⟩
theorem aa.PE:Go.Proofs.SlLaysF0.n6 aa.prog aa.UQ:={
 mixed:=by kernel_rfl
 f6:=⟨aa.f65.name,by decide,aa.func65.trans (congrArg some (by kernel_rfl))⟩
 f14:=⟨aa.f84.name,by decide,aa.func84.trans (congrArg some (by kernel_rfl))⟩
 f15:=aa.func85.trans (congrArg some (by kernel_rfl))
 f20:=⟨aa.f107.name,by decide,aa.func107.trans (congrArg some (by kernel_rfl))⟩
 f21:=⟨aa.f108.name,by decide,aa.func108.trans (congrArg some (by kernel_rfl))⟩
 f22:=⟨aa.f109.name,by decide,aa.func109.trans (congrArg some (by kernel_rfl))⟩
 f23:=⟨aa.f110.name,by decide,aa.func110.trans (congrArg some (by kernel_rfl))⟩
 f24:=⟨aa.f111.name,by decide,aa.func111.trans (congrArg some (by kernel_rfl))⟩
 f25:=⟨aa.f112.name,by decide,aa.func112.trans (congrArg some (by kernel_rfl))⟩
 f26:=⟨aa.f113.name,by decide,aa.func113.trans (congrArg some (by kernel_rfl))⟩
 f27:=⟨aa.f114.name,by decide,aa.func114.trans (congrArg some (by kernel_rfl))⟩
 f28:=aa.func115.trans (congrArg some (by kernel_rfl))
 f29:=aa.func116.trans (congrArg some (by kernel_rfl))
 f46:=⟨aa.f142.name,by decide,aa.func142.trans (congrArg some (by kernel_rfl))⟩
 f47:=aa.func143.trans (congrArg some (by kernel_rfl))
 f48:=aa.func144.trans (congrArg some (by kernel_rfl))
 f49:=⟨aa.f145.name,by decide,aa.func145.trans (congrArg some (by kernel_rfl))⟩
 f50:=⟨aa.f146.name,by decide,aa.func146.trans (congrArg some (by kernel_rfl))⟩
 f57:=⟨aa.f162.name,by decide,aa.func162.trans (congrArg some (by kernel_rfl))⟩
 t0:=aa.underlying0
 a0:=aa.isAgg0
 z0:=aa.sizeOf0
 v0:=aa.zeroValue0
 t3:=aa.underlying3
 a3:=aa.isAgg3
 z3:=aa.sizeOf3
 v3:=aa.zeroValue3
 t4:=aa.underlying4
 a4:=aa.isAgg4
 z4:=aa.sizeOf4
 v4:=aa.zeroValue4
 t5:=aa.underlying5
 a5:=aa.isAgg5
 z5:=aa.sizeOf5
 v5:=aa.zeroValue5
 t9:=aa.underlying9
 a9:=aa.isAgg9
 z9:=aa.sizeOf9
 v9:=aa.zeroValue9
 t22:=aa.underlying104
 a22:=aa.isAgg104
 z22:=aa.sizeOf104
 v22:=aa.zeroValue104
 t25:=aa.underlying146
 a25:=aa.isAgg146
 z25:=aa.sizeOf146
 v25:=aa.zeroValue146
 t39:=aa.underlying175
 a39:=aa.isAgg175
 z39:=aa.sizeOf175
 v39:=aa.zeroValue175
 t45:=aa.underlying199
 a45:=aa.isAgg199
 z45:=aa.sizeOf199
 v45:=aa.zeroValue199
 t46:=aa.underlying200
 a46:=aa.isAgg200
 z46:=aa.sizeOf200
 v46:=aa.zeroValue200
 t50:=aa.underlying55
 a50:=aa.isAgg55
 z50:=aa.sizeOf55
 v50:=aa.zeroValue55
 t53:=aa.underlying186
 a53:=aa.isAgg186
 z53:=aa.sizeOf186
 v53:=aa.zeroValue186
 t55:=aa.underlying44
 a55:=aa.isAgg44
 z55:=aa.sizeOf44
 v55:=aa.zeroValue44
 t66:=aa.underlying225
 a66:=aa.isAgg225
 z66:=aa.sizeOf225
 v66:=aa.zeroValue225
 t70:=aa.underlying228
 a70:=aa.isAgg228
 z70:=aa.sizeOf228
 v70:=aa.zeroValue228
 t76:=aa.underlying242
 a76:=aa.isAgg242
 z76:=aa.sizeOf242
 v76:=aa.zeroValue242
 t77:=aa.underlying243
 a77:=aa.isAgg243
 z77:=aa.sizeOf243
 v77:=aa.zeroValue243}
end
end Go.Proofs
section
namespace Go.Proofs
open Go.Shelf Go.RowKit Go.Lib Go.Sort
namespace YtldmcdeibiclkaaGreatDoorQ
theorem Cc(x y:Int):gI x y<0↔x<y:=by
 unfold gI;split<;>(try split)<;>omega
theorem GN(x y:Int):gI x y=0↔x=y:=by
 unfold gI;split<;>(try split)<;>omega
def aR(a b:aj):Bool:=decide (a.rep<b.rep\/a.rep=b.rep/\a.n<b.n)
theorem Hp:ltOf gC=aR:=by
 funext a b;unfold ltOf gC aR kD;rw[decide_eq_decide];by_cases h:gI a.rep b.rep=0
 ·rw[AS h,Cc];have:=(GN _ _).1 h;omega
 ·rw[AI h,Cc];have: ¬(a.rep:Int)=b.rep:=λe=>h ((GN _ _).2 e);omega
theorem Q8:SWO (ltOf gC):=by
 rw[Hp];exact {irrefl:=λx=>by simp[aR],trans:=λx y z h1 h2=>by simp[aR] at*;omega,ntrans:=λx y z h1 h2=>by simp[aR] at*;omega}
theorem TM(blk off size:Nat)(w:World):CmpLays aa.prog 66 #[] dG 3 gC blk off size w:=
 λ_ _ _ _ (x y:aj)=>wN x.rep x.n y.rep y.n x.val y.val _
theorem NZ(blk off cap:Nat)(d:Array aj)(w:World)(hH:HoldsK dG 3 w blk off d)(hblk:blk<w.heap.size)(hsz:d.size<4611686018427387904):
  Calls aa.prog 65 #[.slice (some ⟨blk,off,none⟩) d.size cap,.func (.func 66) #[] #[]] w λe w'=>e=.returned (.tuple #[])/\∃d' n os,PermIn 0 d.size d d'/\SortedIn aR 0 d.size d'/\w'=sortWorldK dG 3 w blk off n d' os:=by
 have eg:∀args w,(callFunc 66 args).run aa.prog w=.ok (.enter 66 args) w:=enters_of aa.func66 (by kernel_rfl) rfl;have hcon:=AnyQ.slices_SortFunc aa.PE 3 aa.isAgg144 aa.sizeOf144 dG (λ_=>rfl) (λx v hv=>by simp[dG]at hv;rcases hv with rfl|rfl|rfl<;>rfl) gC Q8 66 #[] blk off cap d w eg (TM blk off d.size w) hH hblk hsz;rw[Hp]at hcon;exact hcon
end YtldmcdeibiclkaaGreatDoorQ
end Go.Proofs
end
namespace Go.Proofs.YtldmcdeibiclkaaGreatDoorQ
section
open Go.Shelf Go.RowKit Go.Lib Go.Sort
theorem H6(l:List aj):(flatK dG 3 l.toArray).toList=aX l:=by
 apply List.ext_getElem?;intro t;by_cases ht:t<l.length*3
 ·have hk:t / 3<l.length:=by omega
  obtain⟨a,b,c⟩:=xg l (t / 3) hk;have e:(flatK dG 3 l.toArray).toList[t]?=some ((dG l[t / 3])[t%3]!):=by
   have h1:=get_flatK dG 3 l.toArray t (by simpa using ht);rw[getElem!_pos _ t (by simpa using ht)]at h1;rw[Array.getElem?_toList,Array.getElem?_eq_getElem (by simpa using ht),h1];congr 2;simp[hk]
  rw[e];have h3:t%3=0\/t%3=1\/t%3=2:=by omega
  rcases h3 with h3|h3|h3
  ·rw[h3];rw[show (aX l)[t]?=(aX l)[t / 3*3]? by congr 1;omega,a];rfl
  ·rw[h3];rw[show (aX l)[t]?=(aX l)[t / 3*3+1]? by congr 1;omega,b];rfl
  ·rw[h3];rw[show (aX l)[t]?=(aX l)[t / 3*3+2]? by congr 1;omega,c];rfl
 ·rw[List.getElem?_eq_none (by simp;omega),List.getElem?_eq_none (by rw[ym];omega)]
theorem Pz{w:World}{g:Nat}{l:List aj}{cur:Array Value}(hh:w.heap[g]?=some (.cells cur 144 (0,0)))(ht:cur.toList.take (l.length*3)=aX l):HoldsK dG 3 w g 0 l.toArray:=by
 intro j hj;have hj':j<l.length*3:=by simpa using hj
 refine⟨?_,by simp[World.frozen?,hh]⟩;simp only[World.cell?,hh,Nat.zero_add,id];rw[getElem!_pos _ j hj];have e1:(flatK dG 3 l.toArray).toList[j]?=some (flatK dG 3 l.toArray)[j]:=by rw[Array.getElem?_toList,Array.getElem?_eq_getElem hj]
 rw[H6,<-ht,List.getElem?_take,AS hj']at e1;simpa using e1
theorem BH(B:Nat)(v:Value)(l:List aj)(w:World)(h:w.ownsRow B 144 3 v l.length (aX l))(hn:0<l.length)(hsz:l.length<1000000):
  Calls aa.prog 65 #[v,.func (.func 66) #[] #[]] w λe w'=>e=.returned (.tuple #[])/\∃l':List aj,l'.Perm l/\l'.Pairwise (λa b=>aR b a=false)/\w'.ownsRow B 144 3 v l'.length (aX l')/\w.grownBy w' v.ownBlock:=by
 obtain⟨h1,h2⟩:=h;rcases h2 with⟨_,h2⟩|⟨g,cap,cur,rfl,hg,hh,hnc,hc,hs,ht⟩
 ·omega
 have hglt:g<w.heap.size:=(Array.getElem?_eq_some_iff.1 hh).1;have hH:HoldsK dG 3 w g 0 l.toArray:=Pz hh ht;refine (NZ g 0 cap l.toArray w hH hglt (by simp;omega)).mono ?_;rintro e w' ⟨rfl,d',n,os,hp,hso,rfl⟩;refine⟨rfl,d'.toList,?_,?_,?_,?_⟩
 ·have:=hp.2.2;have e:=hp.1;simp only[List.size_toArray]at e this;rw[Array.extract_eq_self_of_le (by omega),Array.extract_eq_self_of_le (by simp)]at this;simpa using this
 ·rw[List.pairwise_iff_getElem];intro i j hi hj hij
  have:=hso i j (by omega) hij (by have:=hp.1;simp at this hj ⊢;omega);rw[getElem!_pos d' j (by simpa using hj),getElem!_pos d' i (by simpa using hi)]at this;simpa using this
 ·have hsz':d'.size=l.length:=by simpa using hp.1
  have hb:(sortWorldK dG 3 w g 0 n d' os).heap[g]?=some (.cells (putCells id 0 (flatK dG 3 d') cur) 144 (0,0)):=by
   unfold sortWorldK;rw[heap_grow_old _ _ (by simpa[putRowK,putRow,mapBlock,Sort.ahead] using hglt)];simp[putRowK,putRow,mapBlock,Sort.ahead,Array.getElem?_modify,hh,onCells]
  refine⟨by rw[ym],Or.inr ⟨g,cap,_,by simp[hsz'],hg,hb,by simp[hsz'];exact hnc,hc,by simp[putCells,hs],?_⟩⟩;have hf:aX d'.toList=(flatK dG 3 d').toList:=by rw[<-H6]
  rw[hf];apply List.ext_getElem?;intro t;by_cases htl:t<l.length*3
  ·rw[List.getElem?_take,AS (by simp[hsz'];exact htl),Array.getElem?_toList,Array.getElem?_toList];have hF:t<(flatK dG 3 d').size:=by simp[hsz'];exact htl
   have hC:t<cur.size:=by rw[hs];have:=Nat.mul_le_mul_right 3 hnc;omega
   simp only[putCells,Array.getElem?_mapIdx,Array.getElem?_eq_getElem hC,XL,Array.getElem?_eq_getElem hF];rw[AS ⟨by omega,by omega⟩];simp only[id,Nat.sub_zero];rw[getElem!_pos _ t hF]
  ·rw[List.getElem?_eq_none (by simp[hsz'];omega),List.getElem?_eq_none (by simp[hsz'];omega)]
 ·refine⟨rfl,rfl,rfl,by simp[sortWorldK,putRowK,putRow,mapBlock,Sort.ahead],λk hk hne=>?_⟩;unfold sortWorldK;rw[heap_grow_old _ _ (by simp[putRowK,putRow,mapBlock,Sort.ahead];omega)];simp only[putRowK,putRow,mapBlock,Sort.ahead,Array.getElem?_modify];rw[AI (λe=>hne (by subst e;rfl))]
end
end Go.Proofs.YtldmcdeibiclkaaGreatDoorQ
namespace Go.Proofs.YtldmcdeibiclkaaGreatDoorQ
open Go.RowKit
def bump(c:Ctx)(r:Nat):Ctx:=λi=>if i=r then c i+1 else c i
theorem Q2(c:Ctx)(sv:Value)(l:List aj)(rep:Nat)(val:ByteArray)(seen:Ctx)(w:World)(h:aC w sv l)(hr:∀v∈l,v.rep<4)(hlen:l.length<=100000)(bj:rep<4)(hn:20<=(aW l seen).length\/(aW l seen).length<20/\1000000<=aZ c seen rep):
  Calls aa.prog 40 #[bL c sv,.int .i64 rep,.string val,c9 seen] w λe w'=>e=.returned (.tuple #[bL (λ_=>0) (.slice none 0 0),.int .i64 6])/\Below w.heap.size w w':=by
 obtain⟨ad,cap,rfl,hcap⟩:=h.len;have H3:Hid (∀a b d,aC (((w.alloc a).alloc b).alloc d) (.slice ad l.length cap) l):=λa b d=>((Xh h a).alloc b).alloc d;have HR:Hid _:=hr;clear h hr;generalize hun:aW l seen=U at*;have HU:Hid _:=hun;clear hun;rcases hn with hn|⟨hn,hm⟩
 ·rcases fp bj with rfl|rfl|rfl|rfl
  all_goals
   go_enter aa.func40,aa.ntmps40;go_wp2_with (first
    |(go_at_call 63;refine (pn c _ l seen _ (H3.out _ _ _) HR.out hlen).mono ?_;rintro e w1 ⟨v',rfl,aD,hb⟩;rw[HU.out]at aD;obtain⟨ad',cap',hv'⟩:=oz aD;subst hv';simp at hb;obtain⟨b0,b1,b2,f0,f1,f2⟩:=lX hb;have HO:Hid _:=aD;have HB:Hid _:=hb;clear aD hb)
    |(go_at_call 64;refine (sC c seen _).mono ?_;rintro e w2 ⟨rfl,hb2⟩;have hb3:=HB.out.trans (hb2.mono (by have:=HB.out.size;simp at this;omega));obtain⟨b0,b1,b2,f0,f1,f2⟩:=lX hb3;have HB3:Hid _:=hb3;have HB2:Hid _:=hb2;have z2:w.heap.size+1+1<w2.heap.size:=(by have:=hb3.size;simp at this;omega);clear hb3 hb2))
   refine XF (v:=.tuple #[bL (λ_=>0) (.slice none 0 0),.int .i64 6]) ?_ rfl ⟨rfl,?_⟩
   ·simp[results,aa.results40,go_sem,b2,z2]
   ·have base:Below w.heap.size w w2:=((((AT _ _).alloc (iR _) _).alloc (by simp) _).alloc (by simp;omega) _).trans (HB3.out.mono (by omega));repeat' (with_reducible (first|exact base|refine Xj ?_ ?_ _|refine W9 ?_ ?_ _))
    all_goals (first|omega|(simp;omega))
 ·rcases fp bj with rfl|rfl|rfl|rfl
  all_goals
   go_enter aa.func40,aa.ntmps40;go_wp2_with (first
    |(go_at_call 63;refine (pn c _ l seen _ (H3.out _ _ _) HR.out hlen).mono ?_;rintro e w1 ⟨v',rfl,aD,hb⟩;rw[HU.out]at aD;obtain⟨ad',cap',hv'⟩:=oz aD;subst hv';simp at hb;obtain⟨b0,b1,b2,f0,f1,f2⟩:=lX hb;have HO:Hid _:=aD;have HB:Hid _:=hb;clear aD hb)
    |(go_at_call 64;refine (sC c seen _).mono ?_;rintro e w2 ⟨rfl,hb2⟩;have hb3:=HB.out.trans (hb2.mono (by have:=HB.out.size;simp at this;omega));obtain⟨b0,b1,b2,f0,f1,f2⟩:=lX hb3;have HB3:Hid _:=hb3;have HB2:Hid _:=hb2;have z2:w.heap.size+1+1<w2.heap.size:=(by have:=hb3.size;simp at this;omega);clear hb3 hb2))
   refine XF (v:=.tuple #[bL (λ_=>0) (.slice none 0 0),.int .i64 6]) ?_ rfl ⟨rfl,?_⟩
   ·simp[results,aa.results40,go_sem,b2,z2]
   ·have base:Below w.heap.size w w2:=((((AT _ _).alloc (iR _) _).alloc (by simp) _).alloc (by simp;omega) _).trans (HB3.out.mono (by omega));repeat' (with_reducible (first|exact base|refine Xj ?_ ?_ _|refine W9 ?_ ?_ _))
    all_goals (first|omega|(simp;omega))
end Go.Proofs.YtldmcdeibiclkaaGreatDoorQ
section
namespace Go.Proofs
open Go.Shelf Go.RowKit
namespace YtldmcdeibiclkaaGreatDoorQ
theorem JG(s:ByteArray)(w:World)(hs:s.size<=281474976710656):
  Calls aa.prog 67 #[.string s] w λe w'=>e=.returned (.string s)/\Below w.heap.size w w':=
 Any.stringslite_Clone aa.Vt s w hs
theorem sr(s:ByteArray)(w:World)(hs:s.size<=281474976710656):
  Calls aa.prog 41 #[.string s] w λe w'=>e=.returned (.string s)/\Below w.heap.size w w':=by
 go_enter aa.func41,aa.ntmps41;go_wp2_with (go_at_call 67;refine (JG s _ hs).mono ?_;rintro e w' ⟨rfl,hb⟩)
 go_ret;exact⟨rfl,hb⟩
end YtldmcdeibiclkaaGreatDoorQ
end Go.Proofs
end
namespace Go.Proofs.YtldmcdeibiclkaaGreatDoorQ
variable {w w1 W w':World}{b k clock o:Nat}{bm:Nat->Nat}{M:Array Value}{v sv x y z:Value}{es:Array MapEntry}{t:TypeId}{l:List aj}
open Go.RowKit
theorem bytes_beq(a b:ByteArray):(a==b)=decide (a=b):=by
 rw[beq_toListBytes,Bool.eq_iff_iff];simp only[ByteArray.toList_eq,beq_iff_eq,Array.toList_inj,Xs];exact⟨λh=>by cases a;cases b;simp_all,λh=>by rw[h]⟩
def fX(es:List MapEntry):Prop:=∀e∈es,∃k,e.key=.string k
def cH:List MapEntry->ByteArray->Option Value
 |[],_=>none
 |e::es,s=>match e.key with
  |.string k=>if s=k then some e.val else cH es s
  |_=>cH es s
theorem xC(s:ByteArray):∀(es:List MapEntry) (i:Nat),fX es->cH es s=none->Instr.findNow .string (.string s) es i=some none
 |[],_,_,_=>rfl
 |e::es,i,hk,h=>by
  obtain⟨k,he⟩:=hk e (by simp);simp only[cH,he]at h;by_cases hs:s=k
  ·rw[AS hs]at h;cases h
  ·rw[AI hs]at h;have hsb:(s==k)=false:=by rw[bytes_beq];simpa using hs
   simp only[Instr.findNow,Instr.sameNow,he,hsb];exact xC s es (i+1) (λe' h'=>hk e' (by simp[h'])) h
theorem o6(s:ByteArray)(v:Value):∀(es:List MapEntry) (i:Nat),fX es->cH es s=some v->∃j,j<es.length/\Instr.findNow .string (.string s) es i=some (some (i+j,v))/\(es[j]?).map (·.key)=some (.string s)
 |[],_,_,h=>by cases h
 |e::es,i,hk,h=>by
  obtain⟨k,he⟩:=hk e (by simp);simp only[cH,he]at h;by_cases hs:s=k
  ·rw[AS hs]at h;cases h;subst hs;exact⟨0,by simp,by simp[Instr.findNow,Instr.sameNow,he,bytes_beq],by simp[he]⟩
  ·rw[AI hs]at h;have hsb:(s==k)=false:=by rw[bytes_beq];simpa using hs
   obtain⟨j,hj,hf,hkey⟩:=o6 s v es (i+1) (λe' h'=>hk e' (by simp[h'])) h;refine⟨j+1,by simpa using hj,?_,by simpa using hkey⟩;simp only[Instr.findNow,Instr.sameNow,he,hsb];rw[hf];congr 3;omega
theorem EE(w:World)(b:Bool)(n:Nat)(s:ByteArray):(Instr.checkKey b (n+1) 9 (.string s)).run aa.prog w=.ok () w:=by
 have hs:aa.prog.underlying 9=some .string:=aa.underlying9;simp only[Instr.checkKey,Xt,Yb hs,XJ];rfl
abbrev lU:Value:=.agg #[.int .i64 0,.int .i64 0,.int .i64 0,.int .i64 0,.slice none 0 0]
theorem oa(w:World)(bm:Nat)(es:Array MapEntry)(clock:Nat)(s:ByteArray)(hm:w.heap[bm]?=some (.map es clock))(hk:fX es.toList):
  (Instr.lookup 98 (.map (some bm)) (.string s) false).run aa.prog w=.ok ((cH es.toList s).getD lU) w:=by
 have hu:aa.prog.underlying 98=some (.map 9 106):=aa.underlying98;have hs:aa.prog.underlying 9=some .string:=aa.underlying9;have hck:∀b,(Instr.checkKey b 10000 9 (.string s)).run aa.prog w=.ok () w:=λb=>EE w b 9999 s;cases he:cH es.toList s with
 |none=>
  have hf:=xC s es.toList 0 hk he;simp[Instr.lookup,Yb hu,Yb hs,getObj,Sem.run,hm,hck,Instr.findKey,hf]
 |some v=>
  obtain⟨j,hj,hf,hkey⟩:=o6 s v es.toList 0 hk he;simp[Instr.lookup,Yb hu,Yb hs,getObj,Sem.run,hm,hck,Instr.findKey,hf]
theorem GW(t:ByteArray)(e:MapEntry)(k:ByteArray)(he:e.key=.string k):∀es:List MapEntry,fX es->cH (es++ [e]) t=(cH es t).or (if t=k then some e.val else none)
 |[],_=>by simp[cH,he]
 |x::es,hk=>by
  obtain⟨q,hq⟩:=hk x (by simp);simp only[XS,cH,hq];by_cases h:t=q
  ·simp[h]
  ·rw[AI h,AI h];exact GW t e k he es (λe' h'=>hk e' (by simp[h']))
theorem AZ(s:ByteArray):∀(es:List MapEntry) (i q:Nat) (v:Value),Instr.findNow .string (.string s) es i=some (some (q,v))->i<=q
 |[],i,q,v,h=>by simp[Instr.findNow]at h
 |e::es,i,q,v,h=>by
  simp only[Instr.findNow]at h;split at h
  ·simp at h;omega
  ·have:=AZ s es (i+1) q v h;omega
  ·cases h
theorem zL(s t:ByteArray)(v v':Value)(f:MapEntry->MapEntry)(hfk:∀e,(f e).key=.string s)(hfv:∀e,(f e).val=v'):∀(es:List MapEntry) (i j:Nat),fX es->Instr.findNow .string (.string s) es i=some (some (i+j,v))->cH (es.modify j f) t=(if t=s then some v' else cH es t)/\fX (es.modify j f)
 |[],i,j,_,h=>by simp[Instr.findNow]at h
 |e::es,i,j,hk,h=>by
  obtain⟨k,he⟩:=hk e (by simp);by_cases hs:s=k
  ·subst hs;simp only[Instr.findNow,Instr.sameNow,he,bytes_beq,decide_true]at h;have hj:j=0:=by simp at h;omega
   subst hj;refine⟨?_,?_⟩
   ·simp only[List.modify_zero_cons,cH,hfk,hfv,he];by_cases h':t=s<;>simp[h']
   ·intro x hx;simp only[List.modify_zero_cons,YQ]at hx;rcases hx with rfl|hx
    ·exact⟨s,hfk e⟩
    ·exact hk x (by simp[hx])
  ·have hsb:(s==k)=false:=by rw[bytes_beq];simpa using hs
   simp only[Instr.findNow,Instr.sameNow,he,hsb]at h;have hj:1<=j:=by
    rcases Yw j with h0|h0
    ·subst h0
     have:=AZ s es (i+1) _ _ h;omega
    ·exact h0
   obtain⟨j',rfl⟩: ∃j',j=j'+1:=⟨j-1,by omega⟩
   rw[show i+(j'+1)=i+1+j' by omega]at h;obtain⟨h1,h2⟩:=zL s t v v' f hfk hfv es (i+1) j' (λe' h'=>hk e' (by simp[h'])) h;refine⟨?_,?_⟩
   ·simp only[List.modify_succ_cons,cH,he];rw[h1];by_cases h':t=k
    ·simp[h'];intro q;exact absurd q (λq=>hs q.symm)
    ·simp[h']
   ·intro x hx;simp only[List.modify_succ_cons,YQ]at hx;rcases hx with rfl|hx
    ·exact⟨k,he⟩
    ·exact h2 x hx
def kH(Q:ByteArray->Prop)(es:List MapEntry)(clock:Nat):Prop:=
 (es.map (·.key)).Nodup/\(es.map (·.born)).Nodup/\(∀e∈es,e.born<clock)/\∀e∈es,∃k,e.key=.string k/\Q k
theorem xR{s:ByteArray}:∀{es:List MapEntry},fX es->cH es s=none->∀e∈es,e.key≠.string s
 |[],_,_,e,he=>by simp at he
 |x::es,hk,h,e,he=>by
  obtain⟨q,hq⟩:=hk x (by simp);simp only[cH,hq]at h;by_cases hs:s=q
  ·rw[AS hs]at h;cases h
  ·rw[AI hs]at h;simp only[YQ]at he;rcases he with rfl|he
   ·rw[hq];intro e;injection e with e;exact hs e.symm
   ·exact xR (λe' h'=>hk e' (by simp[h'])) h e he
theorem Bv{α β:Type}(g:α->β)(f:α->α)(l:List α)(j:Nat)(h:∀x,l[j]?=some x->g (f x)=g x):(l.modify j f).map g=l.map g:=by
 apply List.ext_getElem?;intro i;simp only[List.getElem?_map,List.getElem?_modify];by_cases e:j=i
 ·subst e;simp only[No];cases hx:l[j]? with
  |none=>rfl
  |some x=>simp[h x hx]
 ·simp[e]
def iu(w:World)(bm:Nat)(es:Array MapEntry)(clock:Nat):World:={w with heap:=w.heap.setIfInBounds bm (.map es clock)}
theorem Ct(bm:Nat)(es:Array MapEntry)(clock:Nat)(s:ByteArray)(v:Value)(hk:fX es.toList):
  ∃es' clock',(∀w:World,w.heap[bm]?=some (.map es clock)->(Instr.mapUpdate 98 (.map (some bm)) (.string s) v).run aa.prog w=.ok () (iu w bm es' clock'))/\fX es'.toList/\(∀t,cH es'.toList t=if t=s then some v else cH es.toList t)/\∀Q,Q s->kH Q es.toList clock->kH Q es'.toList clock':=by
 have hu:aa.prog.underlying 98=some (.map 9 106):=aa.underlying98;have hs:aa.prog.underlying 9=some .string:=aa.underlying9;have hck:∀w b,(Instr.checkKey b 10000 9 (.string s)).run aa.prog w=.ok () w:=λw b=>EE w b 9999 s;cases he:cH es.toList s with
 |none=>
  have hf:=xC s es.toList 0 hk he;refine⟨es.push {key:=.string s,val:=v,born:=clock},clock+1,?_,?_,?_,?_⟩
  ·intro w hm;simp[Instr.mapUpdate,Yb hu,Yb hs,getObj,setObj,Sem.run,hm,hck,Instr.findKey,hf,iu]
  ·intro x hx;simp at hx;rcases hx with hx|rfl
   ·exact hk x (by simpa using hx)
   ·exact⟨s,rfl⟩
  ·intro t;rw[Array.toList_push,GW t _ s rfl _ hk];by_cases h:t=s
   ·subst h;simp[he]
   ·simp[h]
  ·rintro Q hQ ⟨s1,s2,s3,s4⟩;rw[Array.toList_push];refine⟨?_,?_,λe h=>?_,λe h=>?_⟩
   ·rw[Yi,List.nodup_append];refine⟨s1,by simp,λa ha b hb=>?_⟩;simp at hb;subst hb;obtain⟨x,hx,rfl⟩:=XP.1 ha;exact xR hk he x hx
   ·rw[Yi,List.nodup_append];refine⟨s2,by simp,λa ha b hb=>?_⟩;simp at hb;subst hb;obtain⟨x,hx,rfl⟩:=XP.1 ha;exact Nat.ne_of_lt (s3 x hx)
   ·simp only[List.mem_append,List.mem_singleton]at h;rcases h with h|rfl
    ·have:=s3 e h;omega
    ·exact Nat.lt_succ_self _
   ·simp only[List.mem_append,List.mem_singleton]at h;rcases h with h|rfl
    ·exact s4 e h
    ·exact⟨s,rfl,hQ⟩
 |some u=>
  obtain⟨j,hj,hf,hkey⟩:=o6 s u es.toList 0 hk he;have hkj:(es[j]?).map (·.key)=some (.string s):=by simpa using hkey
  have hsb:Instr.sameBits 10000 (.string s) (.string s)=true:=by simp[Instr.sameBits,bytes_beq]
  refine⟨es.modify j λe=>{e with key:=.string s,val:=v},clock,?_,?_,?_,?_⟩
  ·intro w hm;simp[Instr.mapUpdate,Yb hu,Yb hs,getObj,setObj,Sem.run,hm,hck,Instr.findKey,hf,hkj,Instr.keyThatStays,hsb,iu]
  ·rw[Array.toList_modify];exact (zL s s u v _ (λ_=>rfl) (λ_=>rfl) es.toList 0 j hk hf).2
  ·intro t;rw[Array.toList_modify];exact (zL s t u v _ (λ_=>rfl) (λ_=>rfl) es.toList 0 j hk hf).1
  ·rintro Q hQ ⟨s1,s2,s3,s4⟩;rw[Array.toList_modify];have ek:(es.toList.modify j λe=>{e with key:=.string s,val:=v}).map (·.key)=es.toList.map (·.key):=Bv _ _ _ _ λx hx=>by
    rw[hx]at hkey;simp at hkey;exact hkey.symm
   have eb:(es.toList.modify j λe=>{e with key:=.string s,val:=v}).map (·.born)=es.toList.map (·.born):=Bv _ _ _ _ λx hx=>rfl;refine⟨by rw[ek];exact s1,by rw[eb];exact s2,λe h=>?_,λe h=>?_⟩
   ·have:e.born∈(es.toList.modify j λe=>{e with key:=.string s,val:=v}).map (·.born):=XP.2 ⟨e,h,rfl⟩;rw[eb]at this;obtain⟨x,hx,e1⟩:=XP.1 this;rw[<-e1];exact s3 x hx
   ·have:e.key∈(es.toList.modify j λe=>{e with key:=.string s,val:=v}).map (·.key):=XP.2 ⟨e,h,rfl⟩;rw[ek]at this;obtain⟨x,hx,e1⟩:=XP.1 this;obtain⟨k,hk1,hk2⟩:=s4 x hx;exact⟨k,by rw[<-e1];exact hk1,hk2⟩
def lr(s:ByteArray)(k:Nat):Int:=if h:k<s.size then (s[k].toNat:Int) else 0
def iw(s:ByteArray):Nat->Int
 |0=>14695981039346656037
 |k+1=>IntKind.u64.wrap (Go.bits .xor .u64 (iw s k) (lr s k)*1099511628211)
def cS(s:ByteArray):Int:=iw s s.size
def ay(s:ByteArray):Nat:=(cS s%64).toNat
theorem pL(s:ByteArray):∀k,0<=iw s k/\iw s k<18446744073709551616
 |0=>by simp[iw]
 |k+1=>by
  simp only[iw,IntKind.wrap_u64];exact⟨YL _ (by decide),Int.emod_lt_of_pos _ (by decide)⟩
theorem eU(s:ByteArray):ay s<64:=by
 unfold ay;have h1:=YL (cS s) (show (64:Int)≠0 by decide);have h2:=Int.emod_lt_of_pos (cS s) (show (0:Int)<64 by decide);omega
theorem Az(s:ByteArray):((ay s:Nat):Int)=cS s%64:=by
 unfold ay;have h1:=YL (cS s) (show (64:Int)≠0 by decide);omega
theorem yd(b:UInt8):IntKind.u64.wrap (b.toNat:Int)=(b.toNat:Int):=by
 rw[IntKind.wrap_u64]
 have:=b.toNat_lt;omega
theorem xA(s:ByteArray)(k:Nat)(h:k<s.size):lr s k=(s[k].toNat:Int):=by simp[lr,h]
theorem yQ(s:ByteArray)(w:World)(hs:s.size<=maxLen):
  Calls aa.prog 82 #[.string s] w λe w'=>e=.returned (.int .u64 (cS s))/\w'=w:=by
 unfold maxLen at hs;go_enter aa.func82,aa.ntmps82;go_wp2;go_loop [3,7] (λd i=>∃k:Nat,k<=s.size/\i=.int .i64 k/\d=.int .u64 (iw s k)) (λ_ i=>s.size-(intOf i).toNat)
 case atStart=>exact⟨0,by omega,rfl,rfl⟩
 case round=>
  obtain⟨k,hk,rfl,rfl⟩:=hrel;by_cases hlt:k<s.size
  ·have g1:(k:Int)<(s.size:Int):=by omega
   have g0:(0:Int)<=(k:Int):=by omega
   have hst:Hid (iw s (k+1)=IntKind.u64.wrap (Go.bits .xor .u64 (iw s k) (s[k].toNat:Int)*1099511628211)):=by
    show iw s (k+1)=_;rw[iw,xA s k hlt]
   go_wp2;refine⟨⟨k+1,by omega,by go_num,?_⟩,by simp[intOf];omega⟩;rw[hst.out,yd]
  ·have hke:k=s.size:=by omega
   go_wp2;go_ret;exact⟨rfl,rfl⟩
theorem Ug(w:World):Calls aa.prog 46 #[.int .i64 3] w λe w'=>e=.returned (.int .i64 64)/\w'=w:=by
 go_enter aa.func46,aa.ntmps46;go_wp2;go_loop [3,5] (λc i=>(i=.int .i64 0/\c=.int .i64 1)\/(i=.int .i64 1/\c=.int .i64 4)\/(i=.int .i64 2/\c=.int .i64 16)\/(i=.int .i64 3/\c=.int .i64 64)) (λ_ i=>3-(intOf i).toNat)
 case atStart=>exact Or.inl ⟨rfl,rfl⟩
 case round=>
  rcases hrel with⟨rfl,rfl⟩|⟨rfl,rfl⟩|⟨rfl,rfl⟩|⟨rfl,rfl⟩
  ·go_wp2;exact⟨Or.inr (Or.inl ⟨rfl,rfl⟩),by decide⟩
  ·go_wp2;exact⟨Or.inr (Or.inr (Or.inl ⟨rfl,rfl⟩)),by decide⟩
  ·go_wp2;exact⟨Or.inr (Or.inr (Or.inr ⟨rfl,rfl⟩)),by decide⟩
  ·go_wp2;go_ret;exact⟨rfl,rfl⟩
theorem Gi(s:ByteArray)(w:World)(hs:s.size<=maxLen):
  Calls aa.prog 62 #[.string s] w λe w'=>e=.returned (.int .i64 (ay s))/\w'=w:=by
 have HS:Hid _:=λW=>yQ s W hs;have h0:=(pL s s.size).1;have h1:=(pL s s.size).2;have hx:Hid (cS s%64=(ay s:Int)):=(Az s).symm;have hl:=eU s;change 0<=cS s at h0;change cS s<_ at h1;generalize cS s=F at*;go_enter aa.func62,aa.ntmps62;go_wp2_with (first
  |(go_at_call 82;refine By (HS.out _) ?_;rintro e w1 ⟨rfl,rfl⟩)
  |(go_at_call 46;refine (Ug _).mono ?_;rintro e w1 ⟨rfl,rfl⟩))
 go_ret;refine⟨qt ?_,rfl⟩;exact hx.out
abbrev aw:=ByteArray->Ctx×List aj
def er(w:World)(b:Nat)(bm:Nat->Nat)(num:Nat):Prop:=
 ∃A:Array Value,w.heap[b]?=some (.cells A 101)/\A[0]?=some (.int .i64 num)/\∀n,n<64->A[n+1]?=some (.map (some (bm n)))
def cF(c:Ctx):Prop:=∃i,i<4/\c i≠0
def oM(w:World)(m n:Nat)(K:aw):Prop:=
 ∃es clock,w.heap[m]?=some (.map es clock)/\fX es.toList/\(∀s,ay s=n->∃sv,(cH es.toList s).getD lU=bL (K s).1 sv/\aC w sv (K s).2)/\kH (λk=>ay k=n/\k.size<=281474976710656/\cV k=true) es.toList clock/\∀s,cH es.toList s≠none->cF (K s).1
def aB(w:World)(b:Nat)(bm:Nat->Nat)(num:Nat)(K:aw):Prop:=
 er w b bm num/\(∀n,n<64->oM w (bm n) n K)/\∀n m,n<64->m<64->bm n=bm m->n=m
theorem Ah{Q:ByteArray->Prop}:∀{es:List MapEntry} {s:ByteArray},cH es s≠none->(∀e∈es,∃k,e.key=.string k/\Q k)->Q s
 |[],_,h,_=>absurd rfl h
 |e::es,s,h,hq=>by
  obtain⟨k,hk,hQ⟩:=hq e List.mem_cons_self;by_cases ed:s=k
  ·rw[ed];exact hQ
  ·refine Ah (es:=es) (λhn=>h ?_) λe he=>hq e (List.mem_cons_of_mem _ he);simp[cH,hk,ed,hn]
def bD(K:aw)(s:ByteArray)(x:Ctx×List aj):aw:=λt=>if t=s then x else K t
theorem aC.dO(h:aC w sv l)(hk:∀g,g<w.heap.size->(∃cur,w.heap[g]?=some (.cells cur 144 (0,0)))->w'.heap[g]?=w.heap[g]?):aC w' sv l:=by
 obtain⟨h1,h2⟩:=h;refine⟨h1,?_⟩;rcases h2 with h2|⟨g,cap,cur,hv,hg,hh,r⟩
 ·exact Or.inl h2
 ·exact Or.inr ⟨g,cap,cur,hv,hg,by rw[hk g (Array.getElem?_eq_some_iff.1 hh).1 ⟨cur,hh⟩];exact hh,r⟩
theorem er.lt{num:Nat}(h:er w b bm num):b<w.heap.size:=by
 obtain⟨A,h1,_⟩:=h;exact (Array.getElem?_eq_some_iff.1 h1).1
theorem oM.lt{m n:Nat}{K:aw}(h:oM w m n K):m<w.heap.size:=by
 obtain⟨es,clock,h1,_⟩:=h;exact (Array.getElem?_eq_some_iff.1 h1).1
theorem er.num{num:Nat}(h:er w b bm num):w.cell? ⟨b,0,none⟩=some (.int .i64 num):=by
 obtain⟨A,h1,h2,_⟩:=h;simp[World.cell?,h1,h2]
theorem er.tS{num:Nat}(h:er w b bm num){n:Nat}(hn:n<64):w.cell? ⟨b,n+1,none⟩=some (.map (some (bm n))):=by
 obtain⟨A,h1,_,h2⟩:=h;simp[World.cell?,h1,h2 n hn]
theorem aB.dO{num:Nat}{K:aw}(h:aB w b bm num K)(hb:w'.heap[b]?=w.heap[b]?)(hm:∀n,n<64->w'.heap[bm n]?=w.heap[bm n]?)(hk:∀g,g<w.heap.size->(∃cur,w.heap[g]?=some (.cells cur 144 (0,0)))->w'.heap[g]?=w.heap[g]?):aB w' b bm num K:=by
 obtain⟨⟨A,h1,h2⟩,h3,h4⟩:=h;refine⟨⟨A,by rw[hb];exact h1,h2⟩,λn hn=>?_,h4⟩;obtain⟨es,clock,e1,e2,e3,e4⟩:=h3 n hn;refine⟨es,clock,by rw[hm n hn];exact e1,e2,λs hs=>?_,e4⟩;obtain⟨sv,h5,h6⟩:=e3 s hs;exact⟨sv,h5,h6.dO hk⟩
theorem aB.below{num:Nat}{K:aw}(h:aB w b bm num K)(hb:Below w.heap.size w w'):aB w' b bm num K:=
 h.dO (hb.block _ h.1.lt) (λn hn=>hb.block _ (h.2.1 n hn).lt) λg hg _=>hb.block g hg
theorem AM(b:Nat)(key:ByteArray)(c:Ctx)(sv:Value)(e:Int)(w:World)(he:(e==0)=false):
  Calls aa.prog 42 #[.pointer (some ⟨b,0,none⟩),.string key,bL c sv,.int .i64 e] w λr w'=>r=.returned (.int .i64 e)/\Below w.heap.size w w':=by
 go_enter aa.func42,aa.ntmps42;go_wp2;go_ret;exact⟨rfl,(AT _ _).alloc (iR _) _⟩
theorem aU{p:Addr}(h:W.cell? p=some v)(hb:Below W.heap.size W w1):w1.cell? p=some v:=by
 rw[hb.cell (World.block_lt_of_cell? W p h)];exact h
theorem aQ{o:Obj}(h:W.heap[k]?=some o)(hb:Below W.heap.size W w1):w1.heap[k]?=some o:=by
 rw[hb.block k (Array.getElem?_eq_some_iff.1 h).1];exact h
theorem bc(h:Below w.heap.size w W)(hb:Below W.heap.size W w1):Below w.heap.size w w1:=h.trans (hb.mono h.size)
theorem TQ{bm:Nat}(h:bm<w.heap.size):(iu w bm es clock).heap[bm]?=some (.map es clock):=by
 simp[iu,h]
theorem vG{bm:Nat}(h:k≠bm):(iu w bm es clock).heap[k]?=w.heap[k]? :=by
 simp only[iu,Array.getElem?_setIfInBounds];rw[AI (Xl h)]
theorem BU{num:Nat}{K:aw}{key:ByteArray}{c:Ctx}{es':Array MapEntry}{clock':Nat}(hB:Below w.heap.size w w1)(h:aB w b bm num K)(hm:w.heap[bm (ay key)]?=some (.map es clock))(hk':fX es'.toList)(he:∀t,cH es'.toList t=if t=key then some (bL c sv) else cH es.toList t)(hst:∀Q,Q key->kH Q es.toList clock->kH Q es'.toList clock')(ed:key.size<=281474976710656/\cV key=true)(aV:cF c)(hv:aC w sv l):
  aB (iu w1 (bm (ay key)) es' clock') b bm num (bD K key (c,l))/\w.grownBy (iu w1 (bm (ay key)) es' clock') (some (bm (ay key))):=by
 have hblt:=h.1.lt;have hmlt:=(Array.getElem?_eq_some_iff.1 hm).1;have hseg:=eU key;obtain⟨⟨A,hA,hA2⟩,hS,hinj⟩:=h;have hne:b≠bm (ay key):=λe=>by rw[e,hm]at hA;cases hA
 have hvk:∀sv l,aC w sv l->aC (iu w1 (bm (ay key)) es' clock') sv l:=λsv l h=>h.dO λg hg ⟨cur,hc⟩=>by
  rw[vG (λe=>by rw[e,hm]at hc;cases hc),hB.block g hg]
 refine⟨⟨⟨A,?_,hA2⟩,λn hn=>?_,hinj⟩,?_⟩
 ·rw[vG hne,hB.block b hblt];exact hA
 ·by_cases hns:n=ay key
  ·subst hns;obtain⟨es0,clock0,e1,e2,e3,e4⟩:=hS _ hseg;rw[hm]at e1;cases e1;refine⟨es',clock',TQ (Xc hmlt hB.size),hk',λs hs=>?_,hst _ ⟨rfl,ed⟩ e4.1,λs hs=>?_⟩;rotate_left
   ·by_cases h:s=key
    ·simpa[bD,h] using aV
    ·rw[he,AI h]at hs;simpa[bD,h] using e4.2 s hs
   rw[he];by_cases h:s=key
   ·rw[AS h];exact⟨sv,by simp[bD,h],by simpa[bD,h] using hvk _ _ hv⟩
   ·rw[AI h];obtain⟨sv',h1,h2⟩:=e3 s hs;exact⟨sv',by simpa[bD,h] using h1,by simpa[bD,h] using hvk _ _ h2⟩
  ·have hl:=(hS n hn).lt;obtain⟨es0,clock0,e1,e2,e3,e4⟩:=hS n hn;refine⟨es0,clock0,?_,e2,λs hs=>?_,e4.1,λs hs=>?_⟩;rotate_left
   rotate_left
   ·have hsk:s≠key:=λe=>by
     subst e;exact hns (Ah hs e4.1.2.2.2|>.1.symm)
    simpa[bD,hsk] using e4.2 s hs
   ·rw[vG (λe=>hns (hinj _ _ hn hseg e)),hB.block _ hl];exact e1
   ·have hsk:s≠key:=λe=>hns (by rw[<-hs,e]);obtain⟨sv',h1,h2⟩:=e3 s hs;exact⟨sv',by simpa[bD,hsk] using h1,by simpa[bD,hsk] using hvk _ _ h2⟩
 ·refine⟨hB.os,hB.tape,hB.output,by simpa[iu] using hB.size,λk hk hn=>?_⟩;rw[vG (λe=>hn (by rw[e])),hB.block k hk]
theorem mA{w0:World}(hb:Below W.heap.size W w1)(e1:W.heap=w0.heap)(e2:W.os=w0.os)(e3:W.tape=w0.tape)(e4:W.output=w0.output):Below w0.heap.size w0 w1:=
 ⟨hb.os.trans e2,hb.tape.trans e3,hb.output.trans e4,by rw[<-e1];exact hb.size,λk hk=>by rw[<-e1];exact hb.block k (by rw[e1];exact hk)⟩
theorem wh(b num:Nat)(bm:Nat->Nat)(key:ByteArray)(w:World)(hs:key.size<=maxLen)(h:er w b bm num):
  Calls aa.prog 39 #[.pointer (some ⟨b,0,none⟩),.string key] w λe w'=>e=.returned (.map (some (bm (ay key))))/\∃q,w'=w.drewN q:=by
 have HS:Hid _:=λW=>Gi key W hs;have hl:=eU key;have hc:=h.tS hl;generalize ay key=n at*;have hl':(n:Int)<64:=by omega
 have hl0:(0:Int)<=(n:Int):=by omega
 have hc':w.cell? ⟨b,1+n,none⟩=some (.map (some (bm n))):=by rw[Yk];exact hc
 clear h;go_enter aa.func39,aa.ntmps39;go_wp2;go_quiet ((go_at_call 62;refine By (HS.out _) ?_;rintro e w' ⟨rfl,rfl⟩;exact⟨rfl,_,rfl⟩));go_wp2;go_ret;exact⟨rfl,_,rfl⟩
theorem CJ(b num:Nat)(bm:Nat->Nat)(K:aw)(key:ByteArray)(c:Ctx)(sv:Value)(l:List aj)(w:World)(hs:key.size<=281474976710656/\cV key=true)(aV:cF c)(h:aB w b bm num K)(hv:aC w sv l):
  Calls aa.prog 42 #[.pointer (some ⟨b,0,none⟩),.string key,bL c sv,.int .i64 0] w λr w'=>r=.returned (.int .i64 0)/\aB w' b bm num (bD K key (c,l))/\w.grownBy w' (some (bm (ay key))):=by
 have hs1:=hs.1;obtain⟨es,clock,hm,hk,_⟩:=h.2.1 _ (eU key);obtain⟨es',clock',hrun,hk',hent,hstp⟩:=Ct (bm (ay key)) es clock key (bL c sv) hk;have HF:Hid (∀w1,Below w.heap.size w w1->aB (iu w1 (bm (ay key)) es' clock') b bm num (bD K key (c,l))/\w.grownBy (iu w1 (bm (ay key)) es' clock') (some (bm (ay key)))):=λw1 hB=>BU hB h hm hk' hent hstp hs aV hv;have HSeg:Hid (∀w1,Below w.heap.size w w1->Calls aa.prog 39 #[.pointer (some ⟨b,0,none⟩),.string key] w1 λe w'=>e=.returned (.map (some (bm (ay key))))/\∃q,w'=w1.drewN q):=λw1 hB=>wh b num bm key w1 (by unfold maxLen;omega) (h.below hB).1;have HM:Hid (∀w1,Below w.heap.size w w1->w1.heap[bm (ay key)]?=some (.map es clock)):=λw1 hB=>aQ hm hB;have HC:Hid (∀w1,Below (w.alloc (.cells #[.int .i64 (c 0),.int .i64 (c 1),.int .i64 (c 2),.int .i64 (c 3),sv] 106)).heap.size (w.alloc (.cells #[.int .i64 (c 0),.int .i64 (c 1),.int .i64 (c 2),.int .i64 (c 3),sv] 106)) w1->∀o,w1.cell? ⟨w.heap.size,o,none⟩=#[Value.int .i64 (c 0),.int .i64 (c 1),.int .i64 (c 2),.int .i64 (c 3),sv][o]?):=λw1 hB o=>by
  have:=aQ (BY w _) hB;simp[World.cell?,this]
 have HA:Hid (∀w1,Below (w.alloc (.cells #[.int .i64 (c 0),.int .i64 (c 1),.int .i64 (c 2),.int .i64 (c 3),sv] 106)).heap.size (w.alloc (.cells #[.int .i64 (c 0),.int .i64 (c 1),.int .i64 (c 2),.int .i64 (c 3),sv] 106)) w1->Below w.heap.size w w1):=λw1 hB=>bc ((AT _ _).alloc (iR _) _) hB;clear hent hv hk hk' h hm hstp;generalize bm (ay key)=bms at*;go_enter aa.func42,aa.ntmps42;go_wp2;go_region_with (first
  |(go_at_call 41;refine (sr key _ hs1).mono ?_;rintro e w1 ⟨rfl,hb1⟩;have hB0:=mA (w0:=w.alloc (.cells #[.int .i64 (c 0),.int .i64 (c 1),.int .i64 (c 2),.int .i64 (c 3),sv] 106)) hb1 rfl rfl rfl rfl;have HB:Hid _:=HA.out _ hB0;have k1:=HC.out _ hB0;have k3:=HM.out _ HB.out;have hrun1:=hrun w1 k3;have hrun2:=λq=>hrun (w1.drewN q) k3;clear hB0 hb1)
  |(go_at_call 39;refine By (HSeg.out _ (by first|exact HB.out|exact ((AT w.heap.size w).alloc (iR _) _).drew)) ?_;rintro e w2 ⟨rfl,q,rfl⟩))
 all_goals
  go_wp2;go_ret;exact⟨rfl,HF.out _ (by first|exact HB.out|exact⟨HB.out.os,HB.out.tape,HB.out.output,HB.out.size,HB.out.block⟩)⟩
theorem heap_set{fr:Nat×Nat}(h:w.heap[b]?=some (.cells M t fr)):(w.setCell ⟨b,o,none⟩ v).heap[b]?=some (.cells (M.setIfInBounds o v) t fr):=by
 simp[World.setCell,Array.getElem?_modify,h]
theorem dA{b' o':Nat}(h:b'≠b):(w.setCell ⟨b,o,none⟩ v).cell? ⟨b',o',none⟩=w.cell? ⟨b',o',none⟩:=World.cell?_of_block (Xg w ⟨b,o,none⟩ v b' h)
theorem RZ{fr:Nat×Nat}(h:w.heap[b]?=some (.cells M t fr)):(((w.setCell ⟨b,o,none⟩ x).setCell ⟨b,o+1,none⟩ y).setCell ⟨b,o+2,none⟩ z).heap[b]?=some (.cells (((M.setIfInBounds o x).setIfInBounds (o+1) y).setIfInBounds (o+2) z) t fr):=
 heap_set (heap_set (heap_set h))
theorem SJ{xs:List Value}(hs:k*3+2<M.size)(h:M.toList.take (k*3)=xs):(((M.setIfInBounds (k*3) x).setIfInBounds (k*3+1) y).setIfInBounds (k*3+2) z).toList.take ((k+1)*3)=xs++ [x,y,z]:=by
 subst h;apply List.ext_getElem?;intro t;have hl:(M.toList.take (k*3)).length=k*3:=by simp;omega
 by_cases h1:t<k*3
 ·rw[List.getElem?_take,AS (by omega),List.getElem?_append_left (by omega),List.getElem?_take,AS h1];simp only[Array.getElem?_toList,Array.getElem?_setIfInBounds];rw[AI (by omega),AI (by omega),AI (by omega)]
 ·rw[List.getElem?_append_right (by omega),hl];by_cases h2:t<(k+1)*3
  ·rw[List.getElem?_take,AS h2];simp only[Array.getElem?_toList,Array.getElem?_setIfInBounds,XB];have h3:t=k*3\/t=k*3+1\/t=k*3+2:=by omega
   rcases h3 with rfl|rfl|rfl
   ·rw[AI (by omega),AI (by omega),AS rfl,AS (by omega)];simp
   ·rw[AI (by omega),AS rfl,AS (by omega)];simp
   ·rw[AS rfl,AS (by omega)];simp
  ·rw[List.getElem?_take,AI h2,List.getElem?_eq_none (by simp;omega)]
theorem aa.Qc:(aa.prog.info? 71).map (λi=>(i.zero,i.size,i.bytes))=some (some (.agg #[.int .i64 0,.int .i64 0,.string ⟨#[]⟩]),3,32):=by kernel_rfl
theorem Lv(l:List aj)(k:Nat)(h:k<l.length):aX (l.take (k+1))=aX (l.take k)++ [.int .i64 l[k].rep,.int .i64 l[k].n,.string l[k].val]:=by
 rw[Xq h,rL];simp[aX,dG]
theorem Pq{wr:World}{bo:Nat}{X:Obj}(hb1:Below ((wr.alloc X).drew).heap.size ((wr.alloc X).drew) w1)(hh:wr.heap[bo]?=some (.cells M t))(hs:k*3+2<M.size):
  w1.heap[bo]?=some (.cells M t)/\(∃x,w1.cell? ⟨bo,k*3,none⟩=some x)/\(∃x,w1.cell? ⟨bo,k*3+1,none⟩=some x)/\(∃x,w1.cell? ⟨bo,k*3+2,none⟩=some x)/\(∀o,w1.frozen? ⟨bo,o,none⟩=false)/\Below wr.heap.size wr w1:=by
 have hlt:=(Array.getElem?_eq_some_iff.1 hh).1;have hB:Below wr.heap.size wr w1:=(((AT _ _).alloc (iR _) _).drew).trans (hb1.mono (by simp[World.drew]));have e:w1.heap[bo]?=some (.cells M t):=aQ hh hB;refine⟨e,⟨M[k*3],?_⟩,⟨M[k*3+1],?_⟩,⟨M[k*3+2],?_⟩,λo=>by simp[World.frozen?,e],hB⟩
 ·simp only[World.cell?,e];simp
 ·simp only[World.cell?,e];simp
 ·simp only[World.cell?,e];simp
def Rs(w:World)(l:List aj)(k:Nat)(wr:World):Prop:=
 ∃M:Array Value,wr.heap[w.heap.size]?=some (.cells M 71)/\M.size=l.length*3/\M.toList.take (k*3)=aX (l.take k)/\Below w.heap.size w wr
theorem VU(sv:Value)(l:List aj)(w:World)(h:aC w sv l)(hlen:l.length<=100000)(dD:∀v∈l,v.val.size<=281474976710656):
  Calls aa.prog 43 #[sv] w λe w'=>∃v',e=.returned v'/\w'.ownsRow w.heap.size 71 3 v' l.length (aX l)/\Below w.heap.size w w':=by
 obtain⟨ad,cap,rfl,hcap⟩:=h.len;obtain⟨i0,hi0,hz0,hz1,hz2⟩:=Xm aa.Qc;have hmk:=run_make (P:=aa.prog) w 67 71 i0 _ aa.underlying67 hi0 hz0 .i64 .i64 l.length l.length (by omega) (by omega) (by rw[hz2];omega) (by omega);rw[hz1]at hmk;simp only[Int.toNat_natCast]at hmk;have hM:=size_madeCells (Value.agg #[.int .i64 0,.int .i64 0,.string ⟨#[]⟩]).cells (l.length*3);generalize madeCells (Value.agg #[.int .i64 0,.int .i64 0,.string ⟨#[]⟩]).cells (l.length*3)=M at hmk hM;have H:Hid _:=h;have HV:Hid _:=dD;have HM:Hid _:=hM;clear h dD hM hi0 hz0 hz1 hz2;go_enter aa.func43,aa.ntmps43;go_wp2;go_loopw [11] (λi wr=>∃k:Nat,k<=l.length/\i=.int .i64 k/\Rs w l k wr) (λi _=>l.length-(intOf i).toNat)
 case atStart=>exact⟨0,by omega,rfl,M,BY w _,HM.out,by simp[aX],(AT _ _).alloc (iR _) _⟩
 case round=>
  obtain⟨k,hk,rfl,hrel⟩:=hrel;by_cases hlt:k<l.length
  ·obtain⟨g,cap',hsv',hg,_,_,c0,c1,c2⟩:=aC.cells H.out hlt;cases hsv';have hvk:Hid (l[k].val.size<=281474976710656):=HV.out _ (Xe hlt);have hsn:Hid _:=Lv l k hlt;generalize l[k].rep=r at*;generalize l[k].n=n at*;generalize l[k].val=s at*;have hs:=hvk.out;obtain⟨M',hh,hms,htk,hb⟩:=hrel;have hbo:=(Array.getElem?_eq_some_iff.1 hh).1;have d0:wr.cell? ⟨g,k*3,none⟩=some (.int .i64 r):=(hb.cell (p:=⟨g,k*3,none⟩) hg).trans c0;have d1:wr.cell? ⟨g,k*3+1,none⟩=some (.int .i64 n):=(hb.cell (p:=⟨g,k*3+1,none⟩) hg).trans c1;have d2:wr.cell? ⟨g,k*3+2,none⟩=some (.string s):=(hb.cell (p:=⟨g,k*3+2,none⟩) hg).trans c2;have g63:(k:Int)<(l.length:Int):=by omega
   have k0:(0:Int)<=(k:Int):=by omega
   have Hc:Hid _:=And.intro c0 (And.intro c1 c2);have HH:Hid _:=And.intro hh (And.intro hms (And.intro htk hb));clear c0 c1 c2 hh hms htk hb;have hm3:k*3+2<M'.size:=by rw[HH.out.2.1];omega
   have hH:=HH.out.1;have hbn:wr.heap.size≠w.heap.size:=by omega
   go_wp2_with fail;go_region_held3 (λw'=>w'.cell? ⟨wr.heap.size,0,none⟩=some (.int .i64 r)/\w'.cell? ⟨wr.heap.size,1,none⟩=some (.int .i64 n)/\w'.cell? ⟨wr.heap.size,2,none⟩=some (.string s))
    (first|go_keep|(go_split_ands;exact⟨aU (by assumption) hb1,aU (by assumption) hb1,aU (by assumption) hb1⟩)|(go_split_ands;exact⟨by rw[dA hbn,dA hbn,dA hbn];assumption,by rw[dA hbn,dA hbn,dA hbn];assumption,by rw[dA hbn,dA hbn,dA hbn];assumption⟩))
    (first|(go_at_call 41;refine (sr s _ hs).mono ?_;rintro e w1 ⟨rfl,hb1⟩;obtain⟨m0,⟨x0,m1⟩,⟨x1,m2⟩,⟨x2,m3⟩,m4,m5⟩:=Pq hb1 hH hm3))
   go_wp2;refine⟨⟨k+1,by omega,by go_num,_,RZ m0,by simp only[XB];exact HH.out.2.1,?_,?_⟩,by simp[intOf];omega⟩
   ·rw[hsn.out];exact SJ hm3 HH.out.2.2.1
   ·exact (((HH.out.2.2.2.trans (m5.mono HH.out.2.2.2.size)).setCell (iR _) _).setCell (iR _) _).setCell (iR _) _
  ·have hkl:k=l.length:=by omega
   have HK:Hid (List.take k l=l):=YA (by omega);have HRel:Hid _:=hrel;clear hrel;go_wp2;go_ret;obtain⟨M',hh,hms,htk,hb⟩:=HRel.out;refine⟨_,rfl,⟨by rw[ym],Or.inr ⟨w.heap.size,l.length,M',rfl,iR _,hh,iR _,by unfold maxLen;omega,hms,?_⟩⟩,hb⟩;rw[HK.out,hkl]at htk;exact htk
end Go.Proofs.YtldmcdeibiclkaaGreatDoorQ
