/-
  Toward summed_holds: DERIVED: THE SHELF's CONTRACTS AT THIS DUMP, IN PLAIN WORDS (tools/lay-plain.mjs out of 'Y
-/
import Derived.Shelf.SlGeneric
import Derived.Shelf.SlIter.Nil
import Derived.Shelf.SortM.Plain
import Derived.Shelf.SortM.SortNone
import Derived.Ground.GgzProg
import Derived.Ground.SlgmProg
import Derived.Test.YtldmcdeibiclkaaGreatC15
import Derived.Calls
import Derived.WalkKit
import Derived.WalkSpells
import Derived.WalkLawsBesides
import Derived.Deep.QuietTactic
import Derived.BigQuiet
import Derived.Deep.RegionHeld3
import Derived.Sort.Grow
import Derived.Shelf.Strconv.Clone
import Derived.Shelf.SlSortCmp.WholeK
import Derived.Ground.NamesProg
import Derived.Ground.SlsfProg
import Derived.Deep.AppendLies
import Derived.WalkSmall
import Derived.Below
import Derived.ChangeArms
import Derived.Conc.Beside
import Derived.Laws.AppendOwn
import Derived.Laws.Entries
import Derived.Laws.Rows
import Derived.Laws.Runes
import Derived.Laws.Sem
import Derived.Laws.World
import Derived.OwnWalk
import Derived.RunT
import Derived.Tactics
import GoSem.Core.Machine
import GoSem.Machine.Report
set_option linter.unusedVariables false
set_option linter.unusedSimpArgs false
set_option maxRecDepth 100000
set_option maxHeartbeats 20000000
namespace Go.Proofs
abbrev AT:=@Go.RowKit.Below.refl
abbrev BY:=@Go.Calls.mono
abbrev IS:=@Go.heap_alloc_new
abbrev Qx:=@Go.RowKit.Below.heap_alloc
abbrev Qy:=@Go.RowKit.Below.drew
abbrev Qz:=@Go.RowKit.Below.alloc
abbrev QE:=@Go.RowKit.Below.setCell
abbrev QG:=@Go.GStep.go.injEq
abbrev QI:=@Go.wrap_small
abbrev QJ:=@Go.World.news_of_block
abbrev QN:=@Go.info_parts
abbrev QP:=@Go.Conc.mem_ofEvents
abbrev QT:=@Go.World.ownsRow_nil
abbrev QW:=@Go.World.ownsRow.alloc
abbrev QZ:=@Go.wpList_append_lies
abbrev Q1:=@Go.bodyPost_ret
abbrev Q3:=@Go.RowKit.ownsRow_setCell_below
abbrev Q6:=@Go.Sem.run_bind
abbrev Re:=@Go.RowKit.Below.heap_setCell
abbrev Rf:=@Go.below_drewN
abbrev Rk:=@Go.run_underlying
abbrev Rv:=@Go.Result.andThen_ok
abbrev RE:=@Go.DataW.trod_int
abbrev RH:=@Go.Goroutine.mk.injEq
abbrev RL:=@Go.World.size_drew
abbrev RN:=@Go.Sem.runT.eq_5
end Go.Proofs
namespace Go.Proofs
section
open Go.Shelf
def aa.Ao:Go.Shelf.Ren:=⟨fun|7=>94|10=>126|n=>n,fun|23=>63|26=>9|3=>74|28=>156|0=>0|27=>155|33=>71|4=>4|n=>n,fun|n=>n⟩
theorem aa.vM:Go.Proofs.SlLaysZ.n7 aa.prog aa.Ao:={
 mixed:=by kernel_rfl
 f7:=⟨aa.f94.name,by decide,aa.func94.trans (congrArg some (by kernel_rfl))⟩
 f10:=⟨aa.f126.name,by decide,aa.func126.trans (congrArg some (by kernel_rfl))⟩
 t0:=aa.underlying0
 a0:=aa.isAgg0
 z0:=aa.sizeOf0
 v0:=aa.zeroValue0
 t4:=aa.underlying4
 a4:=aa.isAgg4
 z4:=aa.sizeOf4
 v4:=aa.zeroValue4
 t23:=aa.underlying63
 a23:=aa.isAgg63
 z23:=aa.sizeOf63
 v23:=aa.zeroValue63
 t26:=aa.underlying9
 a26:=aa.isAgg9
 z26:=aa.sizeOf9
 v26:=aa.zeroValue9
 t27:=aa.underlying155
 a27:=aa.isAgg155
 z27:=aa.sizeOf155
 v27:=aa.zeroValue155
 t28:=aa.underlying156
 a28:=aa.isAgg156
 z28:=aa.sizeOf156
 v28:=aa.zeroValue156
 t33:=aa.underlying71
 a33:=aa.isAgg71
 z33:=aa.sizeOf71
 v33:=aa.zeroValue71}
def aa.BF:Go.Shelf.Ren:=⟨fun|6=>93|8=>125|9=>91|11=>155|13=>87|12=>122|23=>119|24=>120|14=>146|15=>147|16=>148|17=>149|18=>150|19=>151|20=>152|21=>153|22=>154|25=>184|26=>142|27=>143|28=>185|29=>186|30=>187|31=>197|n=>n,fun|26=>9|28=>156|24=>27|0=>0|3=>3|37=>147|48=>192|50=>55|4=>4|40=>185|39=>184|45=>189|5=>5|9=>9|51=>225|55=>228|57=>254|58=>255|33=>71|n=>n,fun|n=>n⟩
theorem aa.Qk:Go.Proofs.SlLaysZ.n6 aa.prog aa.BF:={
 mixed:=by kernel_rfl
 f6:=⟨aa.f93.name,by decide,aa.func93.trans (congrArg some (by kernel_rfl))⟩
 f8:=⟨aa.f125.name,by decide,aa.func125.trans (congrArg some (by kernel_rfl))⟩
 f11:=⟨aa.f155.name,by decide,aa.func155.trans (congrArg some (by kernel_rfl))⟩
 t0:=aa.underlying0
 a0:=aa.isAgg0
 z0:=aa.sizeOf0
 v0:=aa.zeroValue0
 t24:=aa.underlying27
 a24:=aa.isAgg27
 z24:=aa.sizeOf27
 v24:=aa.zeroValue27
 t26:=aa.underlying9
 a26:=aa.isAgg9
 z26:=aa.sizeOf9
 v26:=aa.zeroValue9
 t28:=aa.underlying156
 a28:=aa.isAgg156
 z28:=aa.sizeOf156
 v28:=aa.zeroValue156
 i26:=by kernel_rfl}
def aa.Ht:Go.Shelf.Ren:=⟨fun|6=>91|8=>87|9=>122|19=>119|20=>120|21=>146|22=>147|23=>148|24=>149|25=>150|26=>151|27=>152|28=>153|29=>154|36=>184|31=>142|32=>143|37=>185|38=>186|39=>187|41=>197|n=>n,fun|27=>27|29=>9|3=>3|32=>147|26=>27|0=>0|44=>192|46=>55|4=>4|36=>185|35=>184|41=>189|5=>5|9=>9|53=>225|57=>228|63=>254|64=>255|n=>n,fun|n=>n⟩
theorem aa.pC:Go.Proofs.SlLaysM.n6 aa.prog aa.Ht:={
 mixed:=by kernel_rfl
 f6:=⟨aa.f91.name,by decide,aa.func91.trans (congrArg some (by kernel_rfl))⟩
 f8:=aa.func87.trans (congrArg some (by kernel_rfl))
 f9:=⟨aa.f122.name,by decide,aa.func122.trans (congrArg some (by kernel_rfl))⟩
 f19:=aa.func119.trans (congrArg some (by kernel_rfl))
 f20:=aa.func120.trans (congrArg some (by kernel_rfl))
 f21:=⟨aa.f146.name,by decide,aa.func146.trans (congrArg some (by kernel_rfl))⟩
 f22:=⟨aa.f147.name,by decide,aa.func147.trans (congrArg some (by kernel_rfl))⟩
 f23:=⟨aa.f148.name,by decide,aa.func148.trans (congrArg some (by kernel_rfl))⟩
 f24:=⟨aa.f149.name,by decide,aa.func149.trans (congrArg some (by kernel_rfl))⟩
 f25:=⟨aa.f150.name,by decide,aa.func150.trans (congrArg some (by kernel_rfl))⟩
 f26:=⟨aa.f151.name,by decide,aa.func151.trans (congrArg some (by kernel_rfl))⟩
 f27:=⟨aa.f152.name,by decide,aa.func152.trans (congrArg some (by kernel_rfl))⟩
 f28:=⟨aa.f153.name,by decide,aa.func153.trans (congrArg some (by kernel_rfl))⟩
 f29:=⟨aa.f154.name,by decide,aa.func154.trans (congrArg some (by kernel_rfl))⟩
 f31:=aa.func142.trans (congrArg some (by kernel_rfl))
 f32:=aa.func143.trans (congrArg some (by kernel_rfl))
 f36:=⟨aa.f184.name,by decide,aa.func184.trans (congrArg some (by kernel_rfl))⟩
 f37:=⟨aa.f185.name,by decide,aa.func185.trans (congrArg some (by kernel_rfl))⟩
 f38:=⟨aa.f186.name,by decide,aa.func186.trans (congrArg some (by kernel_rfl))⟩
 f39:=⟨aa.f187.name,by decide,aa.func187.trans (congrArg some (by kernel_rfl))⟩
 f41:=⟨aa.f197.name,by decide,aa.func197.trans (congrArg some (by kernel_rfl))⟩
 t0:=aa.underlying0
 a0:=aa.isAgg0
 z0:=aa.sizeOf0
 v0:=aa.zeroValue0
 t3:=aa.underlying3
 a3:=aa.isAgg3
 z3:=aa.sizeOf3
 v3:=aa.zeroValue3
 t4:=aa.underlying4
 a4:=aa.isAgg4
 z4:=aa.sizeOf4
 v4:=aa.zeroValue4
 t5:=aa.underlying5
 a5:=aa.isAgg5
 z5:=aa.sizeOf5
 v5:=aa.zeroValue5
 t9:=aa.underlying9
 a9:=aa.isAgg9
 z9:=aa.sizeOf9
 v9:=aa.zeroValue9
 t26:=aa.underlying27
 a26:=aa.isAgg27
 z26:=aa.sizeOf27
 v26:=aa.zeroValue27
 t27:=aa.underlying27
 a27:=aa.isAgg27
 z27:=aa.sizeOf27
 v27:=aa.zeroValue27
 t29:=aa.underlying9
 a29:=aa.isAgg9
 z29:=aa.sizeOf9
 v29:=aa.zeroValue9
 t32:=aa.underlying147
 a32:=aa.isAgg147
 z32:=aa.sizeOf147
 v32:=aa.zeroValue147
 t35:=aa.underlying184
 a35:=aa.isAgg184
 z35:=aa.sizeOf184
 v35:=aa.zeroValue184
 t36:=aa.underlying185
 a36:=aa.isAgg185
 z36:=aa.sizeOf185
 v36:=aa.zeroValue185
 t41:=aa.underlying189
 a41:=aa.isAgg189
 z41:=aa.sizeOf189
 v41:=aa.zeroValue189
 t44:=aa.underlying192
 a44:=aa.isAgg192
 z44:=aa.sizeOf192
 v44:=aa.zeroValue192
 t46:=aa.underlying55
 a46:=aa.isAgg55
 z46:=aa.sizeOf55
 v46:=aa.zeroValue55
 t53:=aa.underlying225
 a53:=aa.isAgg225
 z53:=aa.sizeOf225
 v53:=aa.zeroValue225
 t57:=aa.underlying228
 a57:=aa.isAgg228
 z57:=aa.sizeOf228
 v57:=aa.zeroValue228
 t63:=aa.underlying254
 a63:=aa.isAgg254
 z63:=aa.sizeOf254
 v63:=aa.zeroValue254
 t64:=aa.underlying255
 a64:=aa.isAgg255
 z64:=aa.sizeOf255
 v64:=aa.zeroValue255}
end
end Go.Proofs
namespace Go.Proofs.YtldmcdeibiclkaaGreatQ
abbrev Ctx:=Nat->Int
abbrev ax:=Nat×Int×ByteArray
abbrev ax.rep(v:ax):Nat:=v.1
abbrev ax.n(v:ax):Int:=v.2.1
abbrev ax.val(v:ax):ByteArray:=v.2.2
abbrev aG(c:Ctx):Value:=.agg #[.int .i64 (c 0),.int .i64 (c 1),.int .i64 (c 2),.int .i64 (c 3)]
def cg(v:ax):List Value:=[.int .i64 v.rep,.int .i64 v.n,.string v.val]
def om(c:Ctx)(v:ax):Bool:=decide (v.n<=c v.rep)
def al(a b:Ctx):Ctx:=λi=>max (a i) (b i)
def eC(n:Int):Bool:=decide (0<=n/\n<=1000000)
def bn(c:Ctx):Bool:=eC (c 0)&&(eC (c 1)&&(eC (c 2)&&eC (c 3)))
def lO(c n:Int):Int:=(if c<0 then -(c+1) else c)%n
theorem Du(c n:Int)(hn:1<=n):0<=lO c n/\lO c n<n:=
 ⟨RV _ (by omega),Int.emod_lt_of_pos _ (by omega)⟩
theorem cE{r:Nat}(h:r<4):r=0\/r=1\/r=2\/r=3:=by omega
theorem ml{k:IntKind}{a b:Int}(h:a=b):Ending.returned (.int k a)=.returned (.int k b):=by rw[h]
theorem eY{a b:Bool}(h:a=b):Ending.returned (.bool a)=.returned (.bool b):=by rw[h]
end Go.Proofs.YtldmcdeibiclkaaGreatQ
namespace Go.Proofs.YtldmcdeibiclkaaGreatQ
variable {s:ByteArray}
open Go.RowKit
def j6(b:UInt8):Bool:=decide (97<=b.toNat/\b.toNat<=122)
def aK(s:ByteArray):Bool:=decide (1<=s.size/\s.size<=8)&&s.data.toList.all j6
theorem qo(s:ByteArray)(w:World)(hs:s.size<=maxLen):
  Calls aa.prog 30 #[.string s] w λe w'=>e=.returned (.bool (decide (s.size<=12)))/\w'=w:=by
 unfold maxLen at hs;go_enter aa.func30,aa.ntmps30;go_wp2;go_ret;exact⟨eY (by simp;omega),rfl⟩
theorem zH(x y:Int)(w:World):
  Calls aa.prog 89 #[.int .i64 x,.int .i64 y] w λe w'=>e=.returned (.int .i64 (if x<y then -1 else if y<x then 1 else 0))/\w'=w:=by
 by_cases h1:x<y
 ·go_enter aa.func89,aa.ntmps89;go_wp2;go_ret;exact⟨rfl,rfl⟩
 ·by_cases h2:y<x
  ·go_enter aa.func89,aa.ntmps89;go_wp2;go_ret;exact⟨rfl,rfl⟩
  ·go_enter aa.func89,aa.ntmps89;go_wp2;go_ret;exact⟨rfl,rfl⟩
theorem BT(h1:1<=s.size)(h2:s.size<=8)(h:∀j (h:j<s.size),j6 s[j]=true):aK s=true:=by
 simp only[aK,No,QS,List.all_eq_true];refine⟨⟨h1,h2⟩,λx hx=>?_⟩;obtain⟨j,hj,rfl⟩:=List.mem_iff_getElem.1 hx;exact h j (by simpa using hj)
theorem BO{j:Nat}(hj:j<s.size)(h: ¬(97<=s[j].toNat/\s[j].toNat<=122)):aK s=false:=by
 simp only[aK,Bool.and_eq_false_iff];right;rw[List.all_eq_false];exact⟨s[j],by simp[ByteArray.getElem_eq_getElem_data],by simpa[j6] using h⟩
theorem BR(h: ¬(1<=s.size/\s.size<=8)):aK s=false:=by
 simp only[aK,Bool.and_eq_false_iff];exact Or.inl (Rs h)
theorem iz(s:ByteArray)(w:World)(hs:s.size<=maxLen):
  Calls aa.prog 29 #[.string s] w λe w'=>e=.returned (.bool (aK s))/\w'=w:=by
 unfold maxLen at hs;by_cases hl:1<=s.size/\s.size<=8
 ·obtain⟨hl1,hl2⟩:=hl;go_enter aa.func29,aa.ntmps29;go_wp2;go_loop [14] (λi=>∃k:Nat,k<=s.size/\i=.int .i64 k/\Hid (∀j (h:j<s.size),j<k->j6 s[j]=true)) (λi=>s.size-(intOf i).toNat)
  case atStart=>exact⟨0,by omega,rfl,λj hj=>by omega⟩
  case round=>
   obtain⟨k,hk,rfl,hall⟩:=hrel;by_cases hlt:k<s.size
   ·by_cases hb:97<=s[k].toNat/\s[k].toNat<=122
    ·obtain⟨hb1,hb2⟩:=hb;have hall':Hid (∀j (h:j<s.size),j<k+1->j6 s[j]=true):=λj h hj=>by
      by_cases e:j=k
      ·subst e;exact decide_eq_true ⟨hb1,hb2⟩
      ·exact hall.out j h (by omega)
     go_wp2;exact⟨⟨k+1,by omega,by go_num,hall'⟩,by simp[intOf];omega⟩
    ·have hs':Hid (aK s=false):=BO hlt hb;have hb':s[k].toNat<97\/122<s[k].toNat:=by omega
     clear hb hall;rcases hb' with hb'|hb'
     ·go_wp2;go_ret;exact⟨eY hs'.out.symm,rfl⟩
     ·go_wp2;go_ret;exact⟨eY hs'.out.symm,rfl⟩
   ·have hs':Hid (aK s=true):=BT hl1 hl2 λj h=>hall.out j h (by omega);clear hall;go_wp2;go_ret;exact⟨eY hs'.out.symm,rfl⟩
 ·have hs':Hid (aK s=false):=BR hl;have hl':s.size<1\/8<s.size:=by omega
  clear hl;rcases hl' with hl'|hl'
  ·go_enter aa.func29,aa.ntmps29;go_wp2;go_ret;exact⟨eY hs'.out.symm,rfl⟩
  ·go_enter aa.func29,aa.ntmps29;go_wp2;go_ret;exact⟨eY hs'.out.symm,rfl⟩
def lF(x y:Int):Int:=if x=0 then y else x
theorem LS(b off cap:Nat)(x y:Int)(w:World)(h0:w.cell? ⟨b,off,none⟩=some (.int .i64 x))(h1:w.cell? ⟨b,off+1,none⟩=some (.int .i64 y)):
  Calls aa.prog 88 #[.slice (some ⟨b,off,none⟩) 2 cap] w λe w'=>e=.returned (.int .i64 (lF x y))/\w'=w:=by
 go_enter aa.func88,aa.ntmps88;go_wp2;go_loop [8] (λi=>∃k:Nat,k<=2/\i=.int .i64 k/\Hid ((0<k->x=0)/\(1<k->y=0))) (λi=>2-(intOf i).toNat)
 case atStart=>exact⟨0,by omega,rfl,λh=>by omega,λh=>by omega⟩
 case round=>
  obtain⟨k,hk,rfl,hall⟩:=hrel;by_cases hlt:k<2
  ·have hk':k=0\/k=1:=by omega
   rcases hk' with rfl|rfl
   ·by_cases hx:x=0
    ·subst hx;go_wp2;exact⟨⟨1,by omega,rfl,λ_=>by trivial,λh=>by omega⟩,by simp[intOf]⟩
    ·have hx':(x==0)=false:=by simp[hx]
     have hx2:(x !=0)=true:=by simp[hx]
     go_wp2;go_ret;exact⟨ml (by simp[lF,hx]),rfl⟩
   ·have hx:=hall.out.1 (by omega);subst hx;by_cases hy:y=0
    ·subst hy;go_wp2;exact⟨⟨2,by omega,rfl,λ_=>by trivial,λ_=>by trivial⟩,by simp[intOf]⟩
    ·have hy':(y==0)=false:=by simp[hy]
     have hy2:(y !=0)=true:=by simp[hy]
     go_wp2;go_ret;exact⟨ml (by simp[lF]),rfl⟩
  ·obtain rfl:k=2:=by omega
   have hx:=hall.out.1 (by omega);have hy:=hall.out.2 (by omega);subst hx hy;go_wp2;go_ret;exact⟨ml (by simp[lF]),rfl⟩
def gF(x y:Int):Int:=if x<y then -1 else if y<x then 1 else 0
def oi(a b:ax):Int:=lF (gF a.rep b.rep) (gF a.n b.n)
theorem Jx(ra na rb nb:Int)(va vb:ByteArray)(w:World):
  Calls aa.prog 62 #[.agg #[.int .i64 ra,.int .i64 na,.string va],.agg #[.int .i64 rb,.int .i64 nb,.string vb]] w λe w'=>e=.returned (.int .i64 (lF (gF ra rb) (gF na nb)))/\∃q os',w'=Go.Sort.grow (w.drewN q) os':=by
 have hc1:∀W,Calls aa.prog 89 #[.int .i64 ra,.int .i64 rb] W λe w'=>e=.returned (.int .i64 (gF ra rb))/\w'=W:=λW=>zH ra rb W;have hc2:∀W,Calls aa.prog 89 #[.int .i64 na,.int .i64 nb] W λe w'=>e=.returned (.int .i64 (gF na nb))/\w'=W:=λW=>zH na nb W;have H1:Hid _:=hc1;have H2:Hid _:=hc2;clear hc1 hc2;generalize gF ra rb=r1 at*;generalize gF na nb=r2 at*;go_enter aa.func62,aa.ntmps62;go_wp2;go_region_held3 (λw'=>w'.cell? ⟨w.heap.size,0,none⟩=some (.int .i64 ra)/\w'.cell? ⟨w.heap.size,1,none⟩=some (.int .i64 na)/\w'.cell? ⟨w.heap.size+1,0,none⟩=some (.int .i64 rb)/\w'.cell? ⟨w.heap.size+1,1,none⟩=some (.int .i64 nb)) (go_keep) (first
  |(go_at_call_of 89 (Value.int .i64 ra);refine (H1.out _).mono ?_;rintro e w' ⟨rfl,rfl⟩)
  |(go_at_call_of 89 (Value.int .i64 na);refine (H2.out _).mono ?_;rintro e w' ⟨rfl,rfl⟩)
  |(go_at_call 88;refine (LS _ _ _ r1 r2 _ (by go_simp) (by go_simp)).mono ?_;rintro e w' ⟨rfl,rfl⟩))
 go_wp2;go_ret;exact⟨rfl,1,_,by rw[Go.Sort.alloc_eq_grow,Go.Sort.alloc_eq_grow,Go.Sort.alloc_eq_grow,Go.Sort.grow_grow,Go.Sort.grow_grow];rfl⟩
end Go.Proofs.YtldmcdeibiclkaaGreatQ
namespace Go.Proofs
section
open Go.Shelf
def aa.Qc:Go.Shelf.Ren:=⟨fun|316=>63|n=>n,fun|9=>9|3=>3|4=>4|37=>124|0=>0|127=>149|5=>5|n=>n,fun|n=>n⟩
theorem aa.FW:Go.Proofs.LaysM.n316 aa.prog aa.Qc:={
 mixed:=by kernel_rfl
 f316:=aa.func63.trans (congrArg some (by kernel_rfl))
 t0:=aa.underlying0
 a0:=aa.isAgg0
 z0:=aa.sizeOf0
 v0:=aa.zeroValue0
 t3:=aa.underlying3
 a3:=aa.isAgg3
 z3:=aa.sizeOf3
 v3:=aa.zeroValue3
 t4:=aa.underlying4
 a4:=aa.isAgg4
 z4:=aa.sizeOf4
 v4:=aa.zeroValue4
 t9:=aa.underlying9
 a9:=aa.isAgg9
 z9:=aa.sizeOf9
 v9:=aa.zeroValue9
 t37:=aa.underlying124
 a37:=aa.isAgg124
 z37:=aa.sizeOf124
 v37:=aa.zeroValue124
 t127:=aa.underlying149
 a127:=aa.isAgg149
 z127:=aa.sizeOf149
 v127:=aa.zeroValue149
 t5:=aa.underlying5
 a5:=aa.isAgg5
 z5:=aa.sizeOf5
 v5:=aa.zeroValue5
 i0:=by kernel_rfl
 i3:=by kernel_rfl
 i4:=by kernel_rfl
 i5:=by kernel_rfl
 i9:=by kernel_rfl
 i37:=by kernel_rfl
 i127:=by kernel_rfl}
def aa.Qa:Go.Shelf.Ren:=⟨fun|6=>61|15=>87|14=>86|28=>119|29=>120|20=>111|21=>112|22=>113|23=>114|24=>115|25=>116|26=>117|27=>118|46=>141|47=>142|48=>143|49=>144|50=>145|57=>183|n=>n,fun|22=>72|24=>117|25=>119|3=>3|39=>147|0=>0|53=>192|55=>55|4=>4|46=>185|45=>184|50=>189|5=>5|9=>9|66=>225|70=>228|76=>254|77=>255|n=>n,fun|n=>n⟩
theorem aa.Cu:Go.Proofs.SlLaysF0.n6 aa.prog aa.Qa:={
 mixed:=by kernel_rfl
 f6:=⟨aa.f61.name,by decide,aa.func61.trans (congrArg some (by kernel_rfl))⟩
 f14:=⟨aa.f86.name,by decide,aa.func86.trans (congrArg some (by kernel_rfl))⟩
 f15:=aa.func87.trans (congrArg some (by kernel_rfl))
 f20:=⟨aa.f111.name,by decide,aa.func111.trans (congrArg some (by kernel_rfl))⟩
 f21:=⟨aa.f112.name,by decide,aa.func112.trans (congrArg some (by kernel_rfl))⟩
 f22:=⟨aa.f113.name,by decide,aa.func113.trans (congrArg some (by kernel_rfl))⟩
 f23:=⟨aa.f114.name,by decide,aa.func114.trans (congrArg some (by kernel_rfl))⟩
 f24:=⟨aa.f115.name,by decide,aa.func115.trans (congrArg some (by kernel_rfl))⟩
 f25:=⟨aa.f116.name,by decide,aa.func116.trans (congrArg some (by kernel_rfl))⟩
 f26:=⟨aa.f117.name,by decide,aa.func117.trans (congrArg some (by kernel_rfl))⟩
 f27:=⟨aa.f118.name,by decide,aa.func118.trans (congrArg some (by kernel_rfl))⟩
 f28:=aa.func119.trans (congrArg some (by kernel_rfl))
 f29:=aa.func120.trans (congrArg some (by kernel_rfl))
 f46:=⟨aa.f141.name,by decide,aa.func141.trans (congrArg some (by kernel_rfl))⟩
 f47:=aa.func142.trans (congrArg some (by kernel_rfl))
 f48:=aa.func143.trans (congrArg some (by kernel_rfl))
 f49:=⟨aa.f144.name,by decide,aa.func144.trans (congrArg some (by kernel_rfl))⟩
 f50:=⟨aa.f145.name,by decide,aa.func145.trans (congrArg some (by kernel_rfl))⟩
 f57:=⟨aa.f183.name,by decide,aa.func183.trans (congrArg some (by kernel_rfl))⟩
 t0:=aa.underlying0
 a0:=aa.isAgg0
 z0:=aa.sizeOf0
 v0:=aa.zeroValue0
 t3:=aa.underlying3
 a3:=aa.isAgg3
 z3:=aa.sizeOf3
 v3:=aa.zeroValue3
 t4:=aa.underlying4
 a4:=aa.isAgg4
 z4:=aa.sizeOf4
 v4:=aa.zeroValue4
 t5:=aa.underlying5
 a5:=aa.isAgg5
 z5:=aa.sizeOf5
 v5:=aa.zeroValue5
 t9:=aa.underlying9
 a9:=aa.isAgg9
 z9:=aa.sizeOf9
 v9:=aa.zeroValue9
 t22:=aa.underlying72
 a22:=aa.isAgg72
 z22:=aa.sizeOf72
 v22:=aa.zeroValue72
 t25:=aa.underlying119
 a25:=aa.isAgg119
 z25:=aa.sizeOf119
 v25:=aa.zeroValue119
 t39:=aa.underlying147
 a39:=aa.isAgg147
 z39:=aa.sizeOf147
 v39:=aa.zeroValue147
 t45:=aa.underlying184
 a45:=aa.isAgg184
 z45:=aa.sizeOf184
 v45:=aa.zeroValue184
 t46:=aa.underlying185
 a46:=aa.isAgg185
 z46:=aa.sizeOf185
 v46:=aa.zeroValue185
 t50:=aa.underlying189
 a50:=aa.isAgg189
 z50:=aa.sizeOf189
 v50:=aa.zeroValue189
 t53:=aa.underlying192
 a53:=aa.isAgg192
 z53:=aa.sizeOf192
 v53:=aa.zeroValue192
 t55:=aa.underlying55
 a55:=aa.isAgg55
 z55:=aa.sizeOf55
 v55:=aa.zeroValue55
 t66:=aa.underlying225
 a66:=aa.isAgg225
 z66:=aa.sizeOf225
 v66:=aa.zeroValue225
 t70:=aa.underlying228
 a70:=aa.isAgg228
 z70:=aa.sizeOf228
 v70:=aa.zeroValue228
 t76:=aa.underlying254
 a76:=aa.isAgg254
 z76:=aa.sizeOf254
 v76:=aa.zeroValue254
 t77:=aa.underlying255
 a77:=aa.isAgg255
 z77:=aa.sizeOf255
 v77:=aa.zeroValue255}
end
end Go.Proofs
section
namespace Go.Proofs
open Go.Shelf Go.RowKit Go.Lib Go.Sort
namespace YtldmcdeibiclkaaGreatQ
theorem xr(x y:Int):gF x y<0↔x<y:=by
 unfold gF;split<;>(try split)<;>omega
theorem AY(x y:Int):gF x y=0↔x=y:=by
 unfold gF;split<;>(try split)<;>omega
def cd(a b:ax):Bool:=decide (a.rep<b.rep\/a.rep=b.rep/\a.n<b.n)
theorem Af:ltOf oi=cd:=by
 funext a b;unfold ltOf oi cd lF;rw[decide_eq_decide];by_cases h:gF a.rep b.rep=0
 ·rw[IN h,xr];have:=(AY _ _).1 h;omega
 ·rw[By h,xr];have: ¬(a.rep:Int)=b.rep:=λe=>h ((AY _ _).2 e);omega
theorem Jt:SWO (ltOf oi):=by
 rw[Af];exact {irrefl:=λx=>by simp[cd],trans:=λx y z h1 h2=>by simp[cd] at*;omega,ntrans:=λx y z h1 h2=>by simp[cd] at*;omega}
theorem Li(blk off size:Nat)(w:World):CmpLays aa.prog 62 #[] cg 3 oi blk off size w:=
 λ_ _ _ _ (x y:ax)=>Jx x.rep x.n y.rep y.n x.val y.val _
theorem K1(blk off cap:Nat)(d:Array ax)(w:World)(hH:HoldsK cg 3 w blk off d)(hblk:blk<w.heap.size)(hsz:d.size<4611686018427387904):
  Calls aa.prog 61 #[.slice (some ⟨blk,off,none⟩) d.size cap,.func (.func 62) #[] #[]] w λe w'=>e=.returned (.tuple #[])/\∃d' n os,PermIn 0 d.size d d'/\SortedIn cd 0 d.size d'/\w'=sortWorldK cg 3 w blk off n d' os:=by
 have eg:∀args w,(callFunc 62 args).run aa.prog w=.ok (.enter 62 args) w:=enters_of aa.func62 (by kernel_rfl) rfl;have hcon:=AnyQ.slices_SortFunc aa.Cu 3 aa.isAgg117 aa.sizeOf117 cg (λ_=>rfl) (λx v hv=>by simp[cg]at hv;rcases hv with rfl|rfl|rfl<;>rfl) oi Jt 62 #[] blk off cap d w eg (Li blk off d.size w) hH hblk hsz;rw[Af]at hcon;exact hcon
end YtldmcdeibiclkaaGreatQ
end Go.Proofs
end
namespace Go.Proofs.YtldmcdeibiclkaaGreatQ
variable {w w':World}{B base k:Nat}{sv v:Value}{e:TypeId}{xs:List Value}
open Go.RowKit
theorem qe(W:World)(a b c d:Value):
  (Instr.index 70 (.agg #[a,b,c,d]) (.int .i64 0)).run aa.prog W=.ok a W/\
  (Instr.index 70 (.agg #[a,b,c,d]) (.int .i64 1)).run aa.prog W=.ok b W/\
  (Instr.index 70 (.agg #[a,b,c,d]) (.int .i64 2)).run aa.prog W=.ok c W/\
  (Instr.index 70 (.agg #[a,b,c,d]) (.int .i64 3)).run aa.prog W=.ok d W:=
 ⟨by kernel_rfl,by kernel_rfl,by kernel_rfl,by kernel_rfl⟩
theorem vB{c:Ctx}(h:∀j,j<4->0<=c j/\c j<=1000000):bn c=true:=by
 simp only[bn,eC,No,QS];exact⟨h 0 (by omega),h 1 (by omega),h 2 (by omega),h 3 (by omega)⟩
theorem vN{c:Ctx}(hk:k<4)(h: ¬(0<=c k/\c k<=1000000)):bn c=false:=by
 cases hs:bn c with
 |false=>rfl
 |true=>
  simp only[bn,eC,No,QS]at hs;rcases cE hk with rfl|rfl|rfl|rfl
  ·exact absurd hs.1 h
  ·exact absurd hs.2.1 h
  ·exact absurd hs.2.2.1 h
  ·exact absurd hs.2.2.2 h
theorem mH(c:Ctx)(w:World):
  Calls aa.prog 31 #[aG c] w λe w'=>e=.returned (.bool (bn c))/\Below w.heap.size w w':=by
 go_enter aa.func31,aa.ntmps31;go_wp2;go_loop [6] (λi=>∃k:Nat,k<=4/\i=.int .i64 k/\∀j,j<k->0<=c j/\c j<=1000000) (λi=>4-(intOf i).toNat)
 case atStart=>exact⟨0,by omega,rfl,λj hj=>by omega⟩
 case round=>
  obtain⟨k,hk,rfl,hall⟩:=hrel;have Hall:=(show Hid _ from hall)
  clear hall;by_cases hlt:k<4
  ·by_cases hb:0<=c k/\c k<=1000000
   ·obtain⟨hb1,hb2⟩:=hb;have hall':Hid (∀j,j<k+1->0<=c j/\c j<=1000000):=λj hj=>by
     by_cases e:j=k
     ·subst e;exact⟨hb1,hb2⟩
     ·exact Hall.out j (by omega)
    clear Hall;rcases cE hlt with rfl|rfl|rfl|rfl
    all_goals
     have hix:=qe;go_wp2;exact⟨⟨_,by omega,by go_num,hall'.out⟩,by simp[intOf]⟩
   ·have hs:Hid (bn c=false):=vN hlt hb;clear Hall;have hb':c k<0\/1000000<c k:=by omega
    clear hb;rcases hb' with hb'|hb'
    all_goals
     try (have hb0:0<=c k:=by omega)
     rcases cE hlt with rfl|rfl|rfl|rfl
     all_goals
      have hix:=qe;go_wp2;go_ret;exact⟨eY hs.out.symm,(AT _ _).alloc (AI _) _⟩
  ·obtain rfl:k=4:=by omega
   have hs:Hid (bn c=true):=vB Hall.out;clear Hall;go_wp2;go_ret;exact⟨eY hs.out.symm,(AT _ _).alloc (AI _) _⟩
theorem Rf{a:World}(h:Below B a w)(n:Nat):Below B a (w.drewN n):=⟨h.os,h.tape,h.output,h.size,h.block⟩
theorem xk(c:Ctx)(r:Nat)(n:Int)(w:World)(hr:r<4):
  Calls aa.prog 85 #[aG c,.agg #[.int .i64 r,.int .i64 n]] w λe w'=>e=.returned (.bool (decide (n<=c r)))/\Below w.heap.size w w':=by
 rcases cE hr with rfl|rfl|rfl|rfl
 all_goals
  go_enter aa.func85,aa.ntmps85;go_wp2;go_quiet (fail);go_wp2;go_ret;exact⟨rfl,Rf (((AT _ _).alloc (AI _) _).alloc (by simp) _) _⟩
theorem qV{d x y:Int}(h:d=x):(if d<y then y else d)=max x y:=by
 subst h;rw[Ro];split<;>split<;>omega
theorem qH(a b:Ctx)(w:World):
  Calls aa.prog 60 #[aG a,aG b] w λe w'=>e=.returned (aG (al a b))/\Below w.heap.size w w':=by
 go_enter aa.func60,aa.ntmps60;go_wp2;go_loopw [8] (λi w'=>∃k:Nat,k<=4/\i=.int .i64 k/\∃d0 d1 d2 d3:Int,w'=((w.alloc (.cells #[.int .i64 d0,.int .i64 d1,.int .i64 d2,.int .i64 d3] 70)).alloc (.cells #[.int .i64 (b 0),.int .i64 (b 1),.int .i64 (b 2),.int .i64 (b 3)] 70)).alloc (.cells #[.int .i64 0,.int .i64 0,.int .i64 0,.int .i64 0] 70)/\Hid (d0=if 0<k then al a b 0 else a 0)/\Hid (d1=if 1<k then al a b 1 else a 1)/\Hid (d2=if 2<k then al a b 2 else a 2)/\Hid (d3=if 3<k then al a b 3 else a 3)) (λi _=>4-(intOf i).toNat)
 case atStart=>exact⟨0,by omega,rfl,_,_,_,_,rfl,rfl,rfl,rfl,rfl⟩
 case round=>
  obtain⟨k,hk,rfl,d0,d1,d2,d3,rfl,h0,h1,h2,h3⟩:=hrel;by_cases hlt:k<4
  ·have hix:=qe;rcases cE hlt with rfl|rfl|rfl|rfl
   ·go_wp2;exact⟨⟨1,by omega,rfl,_,_,_,_,rfl,(by first|exact qV h0.out|exact congrArg (max · _) h0.out),h1,h2,h3⟩,by simp[intOf]⟩
   ·go_wp2;exact⟨⟨2,by omega,rfl,_,_,_,_,rfl,h0,(by first|exact qV h1.out|exact congrArg (max · _) h1.out),h2,h3⟩,by simp[intOf]⟩
   ·go_wp2;exact⟨⟨3,by omega,rfl,_,_,_,_,rfl,h0,h1,(by first|exact qV h2.out|exact congrArg (max · _) h2.out),h3⟩,by simp[intOf]⟩
   ·go_wp2;exact⟨⟨4,by omega,rfl,_,_,_,_,rfl,h0,h1,h2,(by first|exact qV h3.out|exact congrArg (max · _) h3.out)⟩,by simp[intOf]⟩
  ·obtain rfl:k=4:=by omega
   go_wp2;refine Q1 (v:=aG (al a b)) ?_ rfl ⟨rfl,?_⟩
   ·simp[results,aa.results60,go_sem];exact⟨h0.out,h1.out,h2.out,h3.out⟩
   ·exact (((AT _ _).alloc (AI _) _).alloc (by simp) _).alloc (by simp;omega) _
def aw(l:List ax):List Value:=l.flatMap cg
theorem mS(l:List ax):(aw l).length=l.length*3:=by
 induction l with
 |nil=>rfl
 |cons v l ih=>simp only[aw,List.flatMap_cons,Q2,QH] at*;rw[ih];simp[cg];omega
theorem oV(a b:List ax):aw (a++b)=aw a++aw b:=by simp[aw]
def ak(l:List ax)(c:Ctx):List ax:=l.filter λv=>!om c v
def aM(w:World)(sv:Value)(l:List ax):Prop:=w.ownsRow 0 117 3 sv l.length (aw l)
theorem mn(l:List ax)(k:Nat)(h:k<l.length):
  (aw l)[k*3]?=some (.int .i64 l[k].rep)/\(aw l)[k*3+1]?=some (.int .i64 l[k].n)/\(aw l)[k*3+2]?=some (.string l[k].val):=by
 induction l generalizing k with
 |nil=>simp at h
 |cons v l ih=>
  have e:aw (v::l)=cg v++aw l:=by simp[aw]
  cases k with
  |zero=>simp[e,cg]
  |succ k=>
   have h':k<l.length:=by simpa using h
   have:=ih k h';rw[e];simp only[List.getElem_cons_succ];have e0:(k+1)*3=k*3+3:=by omega
   rw[e0];refine⟨?_,?_,?_⟩
   ·rw[List.getElem?_append_right (by simp[cg])];simpa[cg] using this.1
   ·rw[List.getElem?_append_right (by simp[cg])];simp only[cg,QH,QY];rw[show k*3+3+1-(0+1+1+1)=k*3+1 from by omega];exact this.2.1
   ·rw[List.getElem?_append_right (by simp[cg])];simp only[cg,QH,QY];rw[show k*3+3+2-(0+1+1+1)=k*3+2 from by omega];exact this.2.2
theorem aM.cells{l:List ax}(h:aM w sv l)(hk:k<l.length):
  ∃g cap,sv=.slice (some ⟨g,0,none⟩) l.length cap/\g<w.heap.size/\l.length<=cap/\cap<=maxLen/\
   w.cell? ⟨g,k*3,none⟩=some (.int .i64 l[k].rep)/\w.cell? ⟨g,k*3+1,none⟩=some (.int .i64 l[k].n)/\w.cell? ⟨g,k*3+2,none⟩=some (.string l[k].val):=by
 obtain⟨h1,h2⟩:=h;rcases h2 with⟨_,h2⟩|⟨g,cap,cur,hv,_,hh,hn,hc,hs,ht⟩
 ·omega
 ·refine⟨g,cap,hv,(Array.getElem?_eq_some_iff.1 hh).1,hn,hc,?_⟩;have hf:=mn l k hk;have key:∀j v,j<l.length*3->(aw l)[j]?=some v->w.cell? ⟨g,j,none⟩=some v:=by
   intro j v hj hv;simp only[World.cell?,hh];rw[<-ht,List.getElem?_take,IN hj]at hv;simpa using hv
  exact⟨key _ _ (by omega) hf.1,key _ _ (by omega) hf.2.1,key _ _ (by omega) hf.2.2⟩
theorem tU(w:World)(cs:Array Value)(t:TypeId)(o:Nat):(w.alloc (.cells cs t)).cell? ⟨w.heap.size,o,none⟩=cs[o]? :=by
 simp only[World.cell?,IS];rfl
theorem CH{size:Nat}{n:Nat}(h:w.ownsRow base e size v n xs)(hk:∀g,g<w.heap.size->v.ownBlock=some g->w'.heap[g]?=w.heap[g]?):w'.ownsRow base e size v n xs:=by
 refine⟨h.1,?_⟩;rcases h.2 with h2|⟨g,cap,cur,hv,hg,hh,r⟩
 ·exact Or.inl h2
 ·exact Or.inr ⟨g,cap,cur,hv,hg,by rw[hk g (Array.getElem?_eq_some_iff.1 hh).1 (by rw[hv];rfl)];exact hh,r⟩
theorem cy{size:Nat}{n:Nat}(h:w.ownsRow base e size v n xs)(hb:Below B w w')(hB:w.heap.size<=B):w'.ownsRow base e size v n xs:=
 CH h λg hg _=>hb.block g (by omega)
theorem bM{base':Nat}{size:Nat}{n:Nat}(h:w.ownsRow base e size v n xs)(hb:base'<=base):w.ownsRow base' e size v n xs:=by
 refine⟨h.1,?_⟩;rcases h.2 with h2|⟨g,cap,cur,hv,hg,r⟩
 ·exact Or.inl h2
 ·exact Or.inr ⟨g,cap,cur,hv,by omega,r⟩
theorem aa.xD:(aa.prog.info? 117).map (λi=>(i.zero,i.size,i.bytes))=some (some (.agg #[.int .i64 0,.int .i64 0,.string ⟨#[]⟩]),3,32):=by kernel_rfl
theorem wM(l:List ax)(c:Ctx)(k:Nat)(h:k<l.length):ak (l.take (k+1)) c=ak (l.take k) c++(if om c l[k]=true then [] else [l[k]]):=by
 rw[RO h];simp only[ak,List.filter_append];congr 1;cases hs:om c l[k]<;>simp[hs]
theorem oB(c:Ctx)(sv:Value)(l:List ax)(seen:Ctx)(w:World)(h:aM w sv l)(hr:∀v∈l,v.rep<4)(hlen:l.length<=100000):
  Calls aa.prog 59 #[.agg #[.int .i64 (c 0),.int .i64 (c 1),.int .i64 (c 2),.int .i64 (c 3),sv],aG seen] w λe w'=>∃v',e=.returned v'/\w'.ownsRow w.heap.size 117 3 v' (ak l seen).length (aw (ak l seen))/\Below w.heap.size w w':=by
 obtain⟨ad,cap,hsv,hcap⟩: ∃ad cap,sv=.slice ad l.length cap/\(cap:Int)<=9223372036854775807:=by
  rcases h.2 with⟨h1,h2⟩|⟨g,cap,cur,hv,_,_,_,h3,_⟩
  ·exact⟨_,_,by rw[h1,h2],by simp⟩
  ·exact⟨_,_,hv,by unfold maxLen at h3;omega⟩
 subst hsv;have H:Hid _:=h;have HR:Hid _:=hr;clear h hr;go_enter aa.func59,aa.ntmps59;go_wp2;go_loopw [5,11] (λlf i wr=>∃k:Nat,k<=l.length/\i=.int .i64 k/\Hid (wr.ownsRow (w.heap.size+2) 117 3 lf (ak (l.take k) seen).length (aw (ak (l.take k) seen)))/\Hid (Below (w.heap.size+2) ((w.alloc (.cells #[.int .i64 (c 0),.int .i64 (c 1),.int .i64 (c 2),.int .i64 (c 3),.slice ad l.length cap] 74)).alloc (.cells #[.int .i64 (seen 0),.int .i64 (seen 1),.int .i64 (seen 2),.int .i64 (seen 3)] 70)) wr)) (λ_ i _=>l.length-(intOf i).toNat)
 case atStart=>exact⟨0,by omega,rfl,⟨by simp[aw,ak],Or.inl ⟨rfl,by simp[ak]⟩⟩,AT _ _⟩
 case round=>
  obtain⟨k,hk,rfl,hown,hbel⟩:=hrel;by_cases hlt:k<l.length
  ·obtain⟨g,cap',hsv',hg,_,_,c0,c1,c2⟩:=aM.cells H.out hlt;have hrk:Hid (l[k].rep<4):=HR.out _ (OF hlt);have hsn:=wM l seen k hlt;have HS:Hid _:=hsn;clear hsn;generalize hrr:l[k].rep=r at*;generalize hnn:l[k].n=n at*;generalize hvv:l[k].val=s at*;have Hvk:Hid (l[k]=(r,n,s)):=by rw[<-hrr,<-hnn,<-hvv];rfl
   clear hrr hnn hvv;cases hsv';have hb:=hbel.out;have hsz:w.heap.size+2<=wr.heap.size:=by have:=hb.size;simp at this;omega
   have old:∀o,wr.cell? ⟨g,o,none⟩=w.cell? ⟨g,o,none⟩:=λo=>by
    rw[hb.cell (p:=⟨g,o,none⟩) (by simp;omega),World.cell?_alloc_lt _ _ _ (by simp;omega),World.cell?_alloc_lt _ _ _ (by simp;omega)]
   have d0:wr.cell? ⟨g,k*3,none⟩=some (.int .i64 r):=(old _).trans c0;have d1:wr.cell? ⟨g,k*3+1,none⟩=some (.int .i64 n):=(old _).trans c1;have d2:wr.cell? ⟨g,k*3+2,none⟩=some (.string s):=(old _).trans c2;have sbox:∀o,wr.cell? ⟨w.heap.size+1,o,none⟩=#[Value.int .i64 (seen 0),.int .i64 (seen 1),.int .i64 (seen 2),.int .i64 (seen 3)][o]? :=λo=>by
    rw[hb.cell (p:=⟨w.heap.size+1,o,none⟩) (by simp)];exact World.cell?_alloc_at _ _ _ _ (by simp)
   have s0:=sbox 0;have s1:=sbox 1;have s2:=sbox 2;have s3:=sbox 3;simp at s0 s1 s2 s3;have g63:(k:Int)<(l.length:Int):=by omega
   have k0:(0:Int)<=(k:Int):=by omega
   have Hc:Hid _:=And.intro c0 (And.intro c1 c2);clear c0 c1 c2 old sbox hb;have a0:∀ob,(wr.alloc ob).cell? ⟨w.heap.size+1,0,none⟩=some (.int .i64 (seen 0)):=λob=>by rw[World.cell?_alloc_lt _ _ _ (by simp;omega)];exact s0
   have a1:∀ob,(wr.alloc ob).cell? ⟨w.heap.size+1,1,none⟩=some (.int .i64 (seen 1)):=λob=>by rw[World.cell?_alloc_lt _ _ _ (by simp;omega)];exact s1
   have a2:∀ob,(wr.alloc ob).cell? ⟨w.heap.size+1,2,none⟩=some (.int .i64 (seen 2)):=λob=>by rw[World.cell?_alloc_lt _ _ _ (by simp;omega)];exact s2
   have a3:∀ob,(wr.alloc ob).cell? ⟨w.heap.size+1,3,none⟩=some (.int .i64 (seen 3)):=λob=>by rw[World.cell?_alloc_lt _ _ _ (by simp;omega)];exact s3
   clear s0 s1 s2 s3;have hrk':=hrk.out;have e1:∀w1,Below (wr.heap.size+1) (wr.alloc (.cells #[.int .i64 r,.int .i64 n,.string s] 117)) w1->Below (w.heap.size+2) ((w.alloc (.cells #[.int .i64 (c 0),.int .i64 (c 1),.int .i64 (c 2),.int .i64 (c 3),.slice (some ⟨g,0,none⟩) l.length cap] 74)).alloc (.cells #[.int .i64 (seen 0),.int .i64 (seen 1),.int .i64 (seen 2),.int .i64 (seen 3)] 70)) w1:=λw1 hw=>(hbel.out.alloc (by omega) _).trans (hw.mono (by omega));have E1:Hid _:=e1;clear e1;have E2:Hid (∀w1,Below (wr.heap.size+1) (wr.alloc (.cells #[.int .i64 r,.int .i64 n,.string s] 117)) w1->w1.ownsRow (w.heap.size+2) 117 3 u5 (ak (List.take k l) seen).length (aw (ak (List.take k l) seen))):=λw1 hw=>cy (cy hown.out ((AT wr.heap.size wr).alloc (AI _) _) (AI _)) hw (by simp);have hseq:om seen l[k]=decide (n<=seen r):=by rw[Hvk.out];rfl
   have HQ:Hid _:=hseq;clear hseq;by_cases hseen:n<=seen r
   ·have HS':Hid (ak (List.take (k+1) l) seen=ak (List.take k l) seen):=by
     have:=HS.out;rw[HQ.out,IN (by simpa using hseen),RX]at this;exact this
    clear HS;have hd:decide (n<=seen r)=true:=by simpa using hseen
    clear hseen;go_wp2_with (go_at_call 85;refine (xk seen r n _ hrk').mono ?_;rintro e w1 ⟨rfl,hb1⟩;simp at hb1)
    exact⟨⟨k+1,by omega,by go_num,by rw[HS'.out];exact E2.out _ hb1,E1.out _ hb1⟩,by simp[intOf];omega⟩
   ·have HS':Hid (ak (List.take (k+1) l) seen=ak (List.take k l) seen++ [(r,n,s)]):=by
     have:=HS.out;rw[HQ.out,By (by simpa using hseen),Hvk.out]at this;exact this
    clear HS;obtain⟨i0,hi0,hz0,hz1,hz2⟩:=QN aa.xD;have hd:decide (n<=seen r)=false:=by simpa using hseen
    clear hseen;have hul:Hid ((ak (List.take k l) seen).length<=100000):=IT (Q4 _ _) (by simp;omega);go_wp2_with (first
     |(go_at_call 85;refine (xk seen r n _ hrk').mono ?_;rintro e w1 ⟨rfl,hb1⟩;simp at hb1;have v0:w1.cell? ⟨wr.heap.size,0,none⟩=some (.int .i64 r):=(hb1.cell (p:=⟨wr.heap.size,0,none⟩) (by simp)).trans (tU _ _ _ _);have v1:w1.cell? ⟨wr.heap.size,1,none⟩=some (.int .i64 n):=(hb1.cell (p:=⟨wr.heap.size,1,none⟩) (by simp)).trans (tU _ _ _ _);have v2:w1.cell? ⟨wr.heap.size,2,none⟩=some (.string s):=(hb1.cell (p:=⟨wr.heap.size,2,none⟩) (by simp)).trans (tU _ _ _ _);have z1:w.heap.size+2<=w1.heap.size:=by (have:=hb1.size;simp at this;omega))
     |(at_builtin;refine QZ _ rfl _ _ _ rfl (w.heap.size+2) 117 i0 _ 3 32 aa.underlying72 hi0 hz0 hz1 hz2 rfl (by omega) u5 _ _ rfl ((E2.out _ hb1).alloc _) ⟨w1.heap.size,0,none⟩ 1 1 [.int .i64 r,.int .i64 n,.string s] rfl rfl (QJ (cs:=#[.int .i64 r,.int .i64 n,.string s]) (t:=117) (fr:=(0,0)) (IS w1 _)) (by simp[Value.oneCell']) (by omega) (by have:=hul.out;unfold maxLen;omega) (by have:=hul.out;omega) (by simp;omega) (w1.heap.size+1) (by simp) ?_;intro gg capn w2 hown2 hgrow hat hlt2))
    refine⟨⟨k+1,by omega,by go_num,?_,?_⟩,by simp[intOf];omega⟩
    ·rw[HS'.out,oV,Q2];exact hown2
    ·have hB:=(E1.out _ hb1).alloc (by omega) (.cells #[.int .i64 r,.int .i64 n,.string s] 117);refine hB.grown hgrow (by simp;omega) λq hq=>?_;rcases hown.out.2 with⟨h1,_⟩|⟨g1,cap1,cur1,hv1,hg1,_⟩
     ·rw[h1]at hq;cases hq
     ·rw[hv1]at hq;simp[Value.ownBlock]at hq;omega
  ·have hkl:k=l.length:=by omega
   have HK:Hid (List.take k l=l):=RY (by omega);have HO:Hid _:=hown.out;clear hown;go_wp2;go_ret;refine⟨_,rfl,?_,?_⟩
   ·have:=HO.out;rw[HK.out]at this;exact bM this (by omega)
   ·exact ((((AT _ _).alloc (AI _) _).alloc (by simp) _).trans (hbel.out.mono (by omega)))
theorem jj{w1:World}{A B C:Array Value}{ta tb tc:TypeId}(hb:Below (w.heap.size+3) (((w.alloc (.cells A ta)).alloc (.cells B tb)).alloc (.cells C tc)) w1):
  (∀o,w1.cell? ⟨w.heap.size,o,none⟩=A[o]?)/\(∀o,w1.cell? ⟨w.heap.size+1,o,none⟩=B[o]?)/\(∀o,w1.cell? ⟨w.heap.size+1+1,o,none⟩=C[o]?)/\(∀o,w1.frozen? ⟨w.heap.size,o,none⟩=false)/\(∀o,w1.frozen? ⟨w.heap.size+1,o,none⟩=false)/\(∀o,w1.frozen? ⟨w.heap.size+1+1,o,none⟩=false):=by
 have e0:w1.heap[w.heap.size]?=some (.cells A ta):=by
  rw[hb.block _ (by omega),Qx _ _ _ (by simp;omega),Qx _ _ _ (by simp)];exact IS w _
 have e1:w1.heap[w.heap.size+1]?=some (.cells B tb):=by
  rw[hb.block _ (by omega),Qx _ _ _ (by simp)]
  have:=IS (w.alloc (.cells A ta)) (.cells B tb);simpa using this
 have e2:w1.heap[w.heap.size+1+1]?=some (.cells C tc):=by
  rw[hb.block _ (by omega)]
  have:=IS ((w.alloc (.cells A ta)).alloc (.cells B tb)) (.cells C tc);simpa using this
 refine⟨λo=>?_,λo=>?_,λo=>?_,λo=>?_,λo=>?_,λo=>?_⟩
 ·simp[World.cell?,e0]
 ·simp[World.cell?,e1]
 ·simp[World.cell?,e2]
 ·simp[World.frozen?,e0]
 ·simp[World.frozen?,e1]
 ·simp[World.frozen?,e2]
theorem aM.len{l:List ax}(h:aM w sv l): ∃ad cap,sv=.slice ad l.length cap/\(cap:Int)<=9223372036854775807:=by
 rcases h.2 with⟨h1,h2⟩|⟨g,cap,cur,hv,_,_,_,h3,_⟩
 ·exact⟨_,_,by rw[h1,h2],by simp⟩
 ·exact⟨_,_,hv,by unfold maxLen at h3;omega⟩
theorem lB{l:List ax}(h:w.ownsRow B 117 3 sv l.length (aw l)): ∃ad cap,sv=.slice ad l.length cap:=by
 rcases h.2 with⟨h1,h2⟩|⟨g,cap,cur,hv,_⟩
 ·exact⟨_,_,by rw[h1,h2]⟩
 ·exact⟨_,_,hv⟩
abbrev bw(c:Ctx)(sv:Value):Value:=.agg #[.int .i64 (c 0),.int .i64 (c 1),.int .i64 (c 2),.int .i64 (c 3),sv]
theorem Df(c:Ctx)(sv:Value)(l:List ax)(seen:Ctx)(w:World)(h:aM w sv l)(hr:∀v∈l,v.rep<4)(hlen:l.length<=100000)(hn:(ak l seen).length=l.length):
  Calls aa.prog 43 #[bw c sv,aG seen] w λe w'=>e=.returned (.tuple #[bw (λ_=>0) (.slice none 0 0),.int .i64 5])/\Below w.heap.size w w':=by
 obtain⟨ad,cap,rfl,hcap⟩:=h.len;have H3:Hid (∀a b d,aM (((w.alloc a).alloc b).alloc d) (.slice ad l.length cap) l):=λa b d=>((QW h a).alloc b).alloc d;have HN:Hid _:=hn;have HR:Hid _:=hr;clear h hr hn;go_enter aa.func43,aa.ntmps43;go_wp2_with (go_at_call 59;refine (oB c _ l seen _ (H3.out _ _ _) HR.out hlen).mono ?_;rintro e w1 ⟨v',rfl,hown,hb⟩;obtain⟨ad',cap',hv'⟩:=lB hown;rw[HN.out]at hv';subst hv';simp at hb;obtain⟨b0,b1,b2,f0,f1,f2⟩:=jj hb;have HO:Hid _:=hown;have HB:Hid _:=hb;clear hown hb)
 refine Q1 (v:=.tuple #[bw (λ_=>0) (.slice none 0 0),.int .i64 5]) ?_ rfl ⟨rfl,?_⟩
 ·simp[results,aa.results43,go_sem,b2]
 ·exact ((((((((AT _ _).alloc (AI _) _).alloc (by simp) _).alloc (by simp;omega) _).trans (HB.out.mono (by omega))).setCell (by simp;omega) _).setCell (by simp;omega) _).setCell (by simp;omega) _|>.setCell (by simp;omega) _).setCell (by simp;omega) _
theorem L9(c:Ctx)(sv:Value)(l:List ax)(seen:Ctx)(w:World)(h:aM w sv l)(hr:∀v∈l,v.rep<4)(hlen:l.length<=100000)(hn:(ak l seen).length<l.length):
  Calls aa.prog 43 #[bw c sv,aG seen] w λe w'=>∃v',e=.returned (.tuple #[bw (al c seen) v',.int .i64 0])/\w'.ownsRow w.heap.size 117 3 v' (ak l seen).length (aw (ak l seen))/\Below w.heap.size w w':=by
 obtain⟨ad,cap,rfl,hcap⟩:=h.len;have H3:Hid (∀a b d,aM (((w.alloc a).alloc b).alloc d) (.slice ad l.length cap) l):=λa b d=>((QW h a).alloc b).alloc d;have HR:Hid _:=hr;clear h hr;have hne:(((ak l seen).length:Int)==(l.length:Int))=false:=by simp;omega
 go_enter aa.func43,aa.ntmps43;go_wp2_with (first
  |(go_at_call 59;refine (oB c _ l seen _ (H3.out _ _ _) HR.out hlen).mono ?_;rintro e w1 ⟨v',rfl,hown,hb⟩;obtain⟨ad',cap',hv'⟩:=lB hown;subst hv';simp at hb;obtain⟨b0,b1,b2,f0,f1,f2⟩:=jj hb;have HO:Hid _:=hown;have HB:Hid _:=hb;clear hown hb)
  |(go_at_call 60;refine (qH c seen _).mono ?_;rintro e w2 ⟨rfl,hb2⟩;have hb3:=HB.out.trans (hb2.mono (by have:=HB.out.size;simp at this;omega));obtain⟨b0,b1,b2,f0,f1,f2⟩:=jj hb3;have HB3:Hid _:=hb3;have HB2:Hid _:=hb2;clear hb3 hb2))
 refine Q1 (v:=.tuple #[bw (al c seen) (.slice ad' (ak l seen).length cap'),.int .i64 0]) ?_ rfl ⟨_,rfl,?_,?_⟩
 ·simp[results,aa.results43,go_sem,b2]
 ·have h1:=bM HO.out (show w.heap.size+3<=_ by simp);have h2:=cy h1 HB2.out (AI _);exact bM (Q3 (Q3 (Q3 (Q3 (Q3 h2 (by simp) _) (by simp) _) (by simp) _) (by simp) _) (by simp) _) (by omega)
 ·exact ((((((((AT _ _).alloc (AI _) _).alloc (by simp) _).alloc (by simp;omega) _).trans (HB3.out.mono (by omega))).setCell (by simp;omega) _).setCell (by simp;omega) _).setCell (by simp;omega) _|>.setCell (by simp;omega) _).setCell (by simp;omega) _
end Go.Proofs.YtldmcdeibiclkaaGreatQ
namespace Go.Proofs.YtldmcdeibiclkaaGreatQ
section
open Go.Shelf Go.RowKit Go.Lib Go.Sort
theorem vU(l:List ax):(flatK cg 3 l.toArray).toList=aw l:=by
 apply List.ext_getElem?;intro t;by_cases ht:t<l.length*3
 ·have hk:t / 3<l.length:=by omega
  obtain⟨a,b,c⟩:=mn l (t / 3) hk;have e:(flatK cg 3 l.toArray).toList[t]?=some ((cg l[t / 3])[t%3]!):=by
   have h1:=get_flatK cg 3 l.toArray t (by simpa using ht);rw[getElem!_pos _ t (by simpa using ht)]at h1;rw[Array.getElem?_toList,Array.getElem?_eq_getElem (by simpa using ht),h1];congr 2;simp[hk]
  rw[e];have h3:t%3=0\/t%3=1\/t%3=2:=by omega
  rcases h3 with h3|h3|h3
  ·rw[h3];rw[show (aw l)[t]?=(aw l)[t / 3*3]? by congr 1;omega,a];rfl
  ·rw[h3];rw[show (aw l)[t]?=(aw l)[t / 3*3+1]? by congr 1;omega,b];rfl
  ·rw[h3];rw[show (aw l)[t]?=(aw l)[t / 3*3+2]? by congr 1;omega,c];rfl
 ·rw[List.getElem?_eq_none (by simp;omega),List.getElem?_eq_none (by rw[mS];omega)]
theorem JY{w:World}{g:Nat}{l:List ax}{cur:Array Value}(hh:w.heap[g]?=some (.cells cur 117 (0,0)))(ht:cur.toList.take (l.length*3)=aw l):HoldsK cg 3 w g 0 l.toArray:=by
 intro j hj;have hj':j<l.length*3:=by simpa using hj
 refine⟨?_,by simp[World.frozen?,hh]⟩;simp only[World.cell?,hh,Nat.zero_add,id];rw[getElem!_pos _ j hj];have e1:(flatK cg 3 l.toArray).toList[j]?=some (flatK cg 3 l.toArray)[j]:=by rw[Array.getElem?_toList,Array.getElem?_eq_getElem hj]
 rw[vU,<-ht,List.getElem?_take,IN hj']at e1;simpa using e1
theorem I1(B:Nat)(v:Value)(l:List ax)(w:World)(h:w.ownsRow B 117 3 v l.length (aw l))(hn:0<l.length)(hsz:l.length<1000000):
  Calls aa.prog 61 #[v,.func (.func 62) #[] #[]] w λe w'=>e=.returned (.tuple #[])/\∃l':List ax,l'.Perm l/\l'.Pairwise (λa b=>cd b a=false)/\w'.ownsRow B 117 3 v l'.length (aw l')/\w.grownBy w' v.ownBlock:=by
 obtain⟨h1,h2⟩:=h;rcases h2 with⟨_,h2⟩|⟨g,cap,cur,rfl,hg,hh,hnc,hc,hs,ht⟩
 ·omega
 have hglt:g<w.heap.size:=(Array.getElem?_eq_some_iff.1 hh).1;have hH:HoldsK cg 3 w g 0 l.toArray:=JY hh ht;refine (K1 g 0 cap l.toArray w hH hglt (by simp;omega)).mono ?_;rintro e w' ⟨rfl,d',n,os,hp,hso,rfl⟩;refine⟨rfl,d'.toList,?_,?_,?_,?_⟩
 ·have:=hp.2.2;have e:=hp.1;simp only[List.size_toArray]at e this;rw[Array.extract_eq_self_of_le (by omega),Array.extract_eq_self_of_le (by simp)]at this;simpa using this
 ·rw[List.pairwise_iff_getElem];intro i j hi hj hij
  have:=hso i j (by omega) hij (by have:=hp.1;simp at this hj ⊢;omega);rw[getElem!_pos d' j (by simpa using hj),getElem!_pos d' i (by simpa using hi)]at this;simpa using this
 ·have hsz':d'.size=l.length:=by simpa using hp.1
  have hb:(sortWorldK cg 3 w g 0 n d' os).heap[g]?=some (.cells (putCells id 0 (flatK cg 3 d') cur) 117 (0,0)):=by
   unfold sortWorldK;rw[heap_grow_old _ _ (by simpa[putRowK,putRow,mapBlock,Sort.ahead] using hglt)];simp[putRowK,putRow,mapBlock,Sort.ahead,Array.getElem?_modify,hh,onCells]
  refine⟨by rw[mS],Or.inr ⟨g,cap,_,by simp[hsz'],hg,hb,by simp[hsz'];exact hnc,hc,by simp[putCells,hs],?_⟩⟩;have hf:aw d'.toList=(flatK cg 3 d').toList:=by rw[<-vU]
  rw[hf];apply List.ext_getElem?;intro t;by_cases htl:t<l.length*3
  ·rw[List.getElem?_take,IN (by simp[hsz'];exact htl),Array.getElem?_toList,Array.getElem?_toList];have hF:t<(flatK cg 3 d').size:=by simp[hsz'];exact htl
   have hC:t<cur.size:=by rw[hs];have:=R0 3 hnc;omega
   simp only[putCells,Array.getElem?_mapIdx,Array.getElem?_eq_getElem hC,Q7,Array.getElem?_eq_getElem hF];rw[IN ⟨by omega,by omega⟩];simp only[id,Nat.sub_zero];rw[getElem!_pos _ t hF]
  ·rw[List.getElem?_eq_none (by simp[hsz'];omega),List.getElem?_eq_none (by simp[hsz'];omega)]
 ·refine⟨rfl,rfl,rfl,by simp[sortWorldK,putRowK,putRow,mapBlock,Sort.ahead],λk hk hne=>?_⟩;unfold sortWorldK;rw[heap_grow_old _ _ (by simp[putRowK,putRow,mapBlock,Sort.ahead];omega)];simp only[putRowK,putRow,mapBlock,Sort.ahead,Array.getElem?_modify];rw[By (λe=>hne (by subst e;rfl))]
end
end Go.Proofs.YtldmcdeibiclkaaGreatQ
namespace Go.Proofs.YtldmcdeibiclkaaGreatQ
open Go.RowKit
def bump(c:Ctx)(r:Nat):Ctx:=λi=>if i=r then c i+1 else c i
theorem CN(c:Ctx)(sv:Value)(l:List ax)(rep:Nat)(val:ByteArray)(seen:Ctx)(w:World)(h:aM w sv l)(hr:∀v∈l,v.rep<4)(hlen:l.length<=100000)(hrep:rep<4)(hn:20<=(ak l seen).length\/(ak l seen).length<20/\1000000<=al c seen rep):
  Calls aa.prog 33 #[bw c sv,.int .i64 rep,.string val,aG seen] w λe w'=>e=.returned (.tuple #[bw (λ_=>0) (.slice none 0 0),.int .i64 6])/\Below w.heap.size w w':=by
 obtain⟨ad,cap,rfl,hcap⟩:=h.len;have H3:Hid (∀a b d,aM (((w.alloc a).alloc b).alloc d) (.slice ad l.length cap) l):=λa b d=>((QW h a).alloc b).alloc d;have HR:Hid _:=hr;clear h hr;generalize hun:ak l seen=U at*;have HU:Hid _:=hun;clear hun;rcases hn with hn|⟨hn,hm⟩
 ·rcases cE hrep with rfl|rfl|rfl|rfl
  all_goals
   go_enter aa.func33,aa.ntmps33;go_wp2_with (first
    |(go_at_call 59;refine (oB c _ l seen _ (H3.out _ _ _) HR.out hlen).mono ?_;rintro e w1 ⟨v',rfl,hown,hb⟩;rw[HU.out]at hown;obtain⟨ad',cap',hv'⟩:=lB hown;subst hv';simp at hb;obtain⟨b0,b1,b2,f0,f1,f2⟩:=jj hb;have HO:Hid _:=hown;have HB:Hid _:=hb;clear hown hb)
    |(go_at_call 60;refine (qH c seen _).mono ?_;rintro e w2 ⟨rfl,hb2⟩;have hb3:=HB.out.trans (hb2.mono (by have:=HB.out.size;simp at this;omega));obtain⟨b0,b1,b2,f0,f1,f2⟩:=jj hb3;have HB3:Hid _:=hb3;have HB2:Hid _:=hb2;have z2:w.heap.size+1+1<w2.heap.size:=(by have:=hb3.size;simp at this;omega);clear hb3 hb2))
   refine Q1 (v:=.tuple #[bw (λ_=>0) (.slice none 0 0),.int .i64 6]) ?_ rfl ⟨rfl,?_⟩
   ·simp[results,aa.results33,go_sem,b2,z2]
   ·have base:Below w.heap.size w w2:=((((AT _ _).alloc (AI _) _).alloc (by simp) _).alloc (by simp;omega) _).trans (HB3.out.mono (by omega));repeat' (with_reducible (first|exact base|refine QE ?_ ?_ _|refine Qz ?_ ?_ _))
    all_goals (first|omega|(simp;omega))
 ·rcases cE hrep with rfl|rfl|rfl|rfl
  all_goals
   go_enter aa.func33,aa.ntmps33;go_wp2_with (first
    |(go_at_call 59;refine (oB c _ l seen _ (H3.out _ _ _) HR.out hlen).mono ?_;rintro e w1 ⟨v',rfl,hown,hb⟩;rw[HU.out]at hown;obtain⟨ad',cap',hv'⟩:=lB hown;subst hv';simp at hb;obtain⟨b0,b1,b2,f0,f1,f2⟩:=jj hb;have HO:Hid _:=hown;have HB:Hid _:=hb;clear hown hb)
    |(go_at_call 60;refine (qH c seen _).mono ?_;rintro e w2 ⟨rfl,hb2⟩;have hb3:=HB.out.trans (hb2.mono (by have:=HB.out.size;simp at this;omega));obtain⟨b0,b1,b2,f0,f1,f2⟩:=jj hb3;have HB3:Hid _:=hb3;have HB2:Hid _:=hb2;have z2:w.heap.size+1+1<w2.heap.size:=(by have:=hb3.size;simp at this;omega);clear hb3 hb2))
   refine Q1 (v:=.tuple #[bw (λ_=>0) (.slice none 0 0),.int .i64 6]) ?_ rfl ⟨rfl,?_⟩
   ·simp[results,aa.results33,go_sem,b2,z2]
   ·have base:Below w.heap.size w w2:=((((AT _ _).alloc (AI _) _).alloc (by simp) _).alloc (by simp;omega) _).trans (HB3.out.mono (by omega));repeat' (with_reducible (first|exact base|refine QE ?_ ?_ _|refine Qz ?_ ?_ _))
    all_goals (first|omega|(simp;omega))
end Go.Proofs.YtldmcdeibiclkaaGreatQ
