/-
  Toward converged_holds: The plain words of the proofs over package attunekeep: contexts, versions, what a context
-/
import Derived.Calls
import Derived.Test.YtldmcdeibiclkaaGreatDoorC15
import Derived.WalkKit
import Derived.WalkSpells
import Derived.WalkLawsBesides
import Derived.Deep.QuietTactic
import Derived.BigQuiet
import Derived.Deep.RegionHeld3
import Derived.Sort.Grow
import Derived.Deep.AppendLies
import Derived.WalkSmall
import Derived.Shelf.SlGeneric
import Derived.Shelf.Strconv.Clone
import Derived.Shelf.SlSortCmp.WholeK
import Derived.Ground.NamesProg
import Derived.Ground.SlsfProg
import Derived.Below
import Derived.Conc.Beside
import Derived.Deep.DrawnRows
import Derived.Deep.MidRow
import Derived.LaidByTextLater
import Derived.Laws.AppendOwn
import Derived.Laws.Entries
import Derived.Laws.Rows
import Derived.Laws.Sem
import Derived.Laws.World
import Derived.Lib.Strings
import Derived.OwnWalk
import Derived.RunT
import Derived.Tactics
import GoSem.Core.Machine
import GoSem.Machine.Report
set_option linter.unusedVariables false
set_option linter.unusedSimpArgs false
set_option maxRecDepth 100000
set_option maxHeartbeats 20000000
namespace Go.Proofs
abbrev AT:=@Go.RowKit.Below.refl
abbrev By:=@Go.Calls.mono
abbrev BY:=@Go.heap_alloc_new
abbrev No:=@Go.RowKit.Below.drew
abbrev Vw:=@Go.RowKit.Below.alloc
abbrev Vx:=@Go.RowKit.Below.heap_alloc
abbrev VC:=@Go.RowKit.Below.heap_setCell
abbrev VD:=@Go.World.ownsRow.alloc
abbrev VE:=@Go.GStep.go.injEq
abbrev VH:=@Go.info_parts
abbrev VI:=@Go.RowKit.Below.setCell
abbrev VM:=@Go.World.news_of_block
abbrev VP:=@Go.Conc.mem_ofEvents
abbrev VQ:=@Go.Sem.run_bind
abbrev V9:=@Go.bodyPost_ret
abbrev We:=@Go.Result.andThen_ok
abbrev Wh:=@Go.RowKit.ownsRow_setCell_below
abbrev Wq:=@Go.below_drewN
abbrev Ww:=@Go.World.ownsRow_nil
abbrev Wx:=@Go.run_underlying
abbrev WG:=@Go.Sem.run_pure
abbrev WK:=@Go.World.size_drew
abbrev WT:=@Go.Goroutine.mk.injEq
abbrev W8:=@Go.Lib.toList_data
abbrev W9:=@Go.OpenClaim.laidByTextAt_later
abbrev Xa:=@Go.wp_at_zero
abbrev Xb:=@Go.wp_at_succ
abbrev Xc:=@Go.run_loadVar_mid
abbrev Xg:=@Go.Sem.runT.eq_5
abbrev Xi:=@Go.wpList_append_lies
end Go.Proofs
namespace Go.Proofs.YtldmcdeibiclkaaGreatDoorQ
abbrev Ctx:=Nat->Int
abbrev aj:=Nat×Int×ByteArray
abbrev aj.rep(v:aj):Nat:=v.1
abbrev aj.n(v:aj):Int:=v.2.1
abbrev aj.val(v:aj):ByteArray:=v.2.2
abbrev cU(c:Ctx):Value:=.agg #[.int .i64 (c 0),.int .i64 (c 1),.int .i64 (c 2),.int .i64 (c 3)]
def dw(v:aj):List Value:=[.int .i64 v.rep,.int .i64 v.n,.string v.val]
def gE(c:Ctx)(v:aj):Bool:=decide (v.n<=c v.rep)
def aU(a b:Ctx):Ctx:=λi=>max (a i) (b i)
def ej(n:Int):Bool:=decide (0<=n/\n<=1000000)
def fZ(c:Ctx):Bool:=ej (c 0)&&(ej (c 1)&&(ej (c 2)&&ej (c 3)))
def mg(c n:Int):Int:=(if c<0 then -(c+1) else c)%n
theorem RN(c n:Int)(hn:1<=n):0<=mg c n/\mg c n<n:=
 ⟨Int.emod_nonneg _ (by omega),Int.emod_lt_of_pos _ (by omega)⟩
theorem fc{r:Nat}(h:r<4):r=0\/r=1\/r=2\/r=3:=by omega
theorem pT{k:IntKind}{a b:Int}(h:a=b):Ending.returned (.int k a)=.returned (.int k b):=by rw[h]
theorem mH{a b:Bool}(h:a=b):Ending.returned (.bool a)=.returned (.bool b):=by rw[h]
end Go.Proofs.YtldmcdeibiclkaaGreatDoorQ
namespace Go.Proofs.YtldmcdeibiclkaaGreatDoorQ
variable {w w':World}{s:ByteArray}{B k:Nat}{sv v:Value}{e:TypeId}{xs:List Value}
open Go.RowKit
def qe(b:UInt8):Bool:=decide (97<=b.toNat/\b.toNat<=122)
def cS(s:ByteArray):Bool:=decide (1<=s.size/\s.size<=8)&&s.data.toList.all qe
theorem wT(s:ByteArray)(w:World)(hs:s.size<=maxLen):
  Calls aa.prog 37 #[.string s] w λe w'=>e=.returned (.bool (decide (s.size<=12)))/\w'=w:=by
 unfold maxLen at hs;go_enter aa.func37,aa.ntmps37;go_wp2;go_ret;exact⟨mH (by simp;omega),rfl⟩
theorem DC(x y:Int)(w:World):
  Calls aa.prog 87 #[.int .i64 x,.int .i64 y] w λe w'=>e=.returned (.int .i64 (if x<y then -1 else if y<x then 1 else 0))/\w'=w:=by
 by_cases h1:x<y
 ·go_enter aa.func87,aa.ntmps87;go_wp2;go_ret;exact⟨rfl,rfl⟩
 ·by_cases h2:y<x
  ·go_enter aa.func87,aa.ntmps87;go_wp2;go_ret;exact⟨rfl,rfl⟩
  ·go_enter aa.func87,aa.ntmps87;go_wp2;go_ret;exact⟨rfl,rfl⟩
theorem Ra(h1:1<=s.size)(h2:s.size<=8)(h:∀j (h:j<s.size),qe s[j]=true):cS s=true:=by
 simp only[cS,IN,VN,List.all_eq_true];refine⟨⟨h1,h2⟩,λx hx=>?_⟩;obtain⟨j,hj,rfl⟩:=List.mem_iff_getElem.1 hx;exact h j (by simpa using hj)
theorem PV{j:Nat}(hj:j<s.size)(h: ¬(97<=s[j].toNat/\s[j].toNat<=122)):cS s=false:=by
 simp only[cS,Bool.and_eq_false_iff];right;rw[List.all_eq_false];exact⟨s[j],by simp[ByteArray.getElem_eq_getElem_data],by simpa[qe] using h⟩
theorem GZ(h: ¬(1<=s.size/\s.size<=8)):cS s=false:=by
 simp only[cS,Bool.and_eq_false_iff];exact Or.inl (decide_eq_false h)
theorem nR(s:ByteArray)(w:World)(hs:s.size<=maxLen):
  Calls aa.prog 36 #[.string s] w λe w'=>e=.returned (.bool (cS s))/\w'=w:=by
 unfold maxLen at hs;by_cases hl:1<=s.size/\s.size<=8
 ·obtain⟨hl1,hl2⟩:=hl;go_enter aa.func36,aa.ntmps36;go_wp2;go_loop [14] (λi=>∃k:Nat,k<=s.size/\i=.int .i64 k/\Hid (∀j (h:j<s.size),j<k->qe s[j]=true)) (λi=>s.size-(intOf i).toNat)
  case atStart=>exact⟨0,by omega,rfl,λj hj=>by omega⟩
  case round=>
   obtain⟨k,hk,rfl,hall⟩:=hrel;by_cases hlt:k<s.size
   ·by_cases hb:97<=s[k].toNat/\s[k].toNat<=122
    ·obtain⟨hb1,hb2⟩:=hb;have hall':Hid (∀j (h:j<s.size),j<k+1->qe s[j]=true):=λj h hj=>by
      by_cases e:j=k
      ·subst e;exact Xl ⟨hb1,hb2⟩
      ·exact hall.out j h (by omega)
     go_wp2;exact⟨⟨k+1,by omega,by go_num,hall'⟩,by simp[intOf];omega⟩
    ·have hs':Hid (cS s=false):=PV hlt hb;have hb':s[k].toNat<97\/122<s[k].toNat:=by omega
     clear hb hall;rcases hb' with hb'|hb'
     ·go_wp2;go_ret;exact⟨mH hs'.out.symm,rfl⟩
     ·go_wp2;go_ret;exact⟨mH hs'.out.symm,rfl⟩
   ·have hs':Hid (cS s=true):=Ra hl1 hl2 λj h=>hall.out j h (by omega);clear hall;go_wp2;go_ret;exact⟨mH hs'.out.symm,rfl⟩
 ·have hs':Hid (cS s=false):=GZ hl;have hl':s.size<1\/8<s.size:=by omega
  clear hl;rcases hl' with hl'|hl'
  ·go_enter aa.func36,aa.ntmps36;go_wp2;go_ret;exact⟨mH hs'.out.symm,rfl⟩
  ·go_enter aa.func36,aa.ntmps36;go_wp2;go_ret;exact⟨mH hs'.out.symm,rfl⟩
def jZ(x y:Int):Int:=if x=0 then y else x
theorem KX(b off cap:Nat)(x y:Int)(w:World)(h0:w.cell? ⟨b,off,none⟩=some (.int .i64 x))(h1:w.cell? ⟨b,off+1,none⟩=some (.int .i64 y)):
  Calls aa.prog 86 #[.slice (some ⟨b,off,none⟩) 2 cap] w λe w'=>e=.returned (.int .i64 (jZ x y))/\w'=w:=by
 go_enter aa.func86,aa.ntmps86;go_wp2;go_loop [8] (λi=>∃k:Nat,k<=2/\i=.int .i64 k/\Hid ((0<k->x=0)/\(1<k->y=0))) (λi=>2-(intOf i).toNat)
 case atStart=>exact⟨0,by omega,rfl,λh=>by omega,λh=>by omega⟩
 case round=>
  obtain⟨k,hk,rfl,hall⟩:=hrel;by_cases hlt:k<2
  ·have hk':k=0\/k=1:=by omega
   rcases hk' with rfl|rfl
   ·by_cases hx:x=0
    ·subst hx;go_wp2;exact⟨⟨1,by omega,rfl,λ_=>by trivial,λh=>by omega⟩,by simp[intOf]⟩
    ·have hx':(x==0)=false:=by simp[hx]
     have hx2:(x !=0)=true:=by simp[hx]
     go_wp2;go_ret;exact⟨pT (by simp[jZ,hx]),rfl⟩
   ·have hx:=hall.out.1 (by omega);subst hx;by_cases hy:y=0
    ·subst hy;go_wp2;exact⟨⟨2,by omega,rfl,λ_=>by trivial,λ_=>by trivial⟩,by simp[intOf]⟩
    ·have hy':(y==0)=false:=by simp[hy]
     have hy2:(y !=0)=true:=by simp[hy]
     go_wp2;go_ret;exact⟨pT (by simp[jZ]),rfl⟩
  ·obtain rfl:k=2:=by omega
   have hx:=hall.out.1 (by omega);have hy:=hall.out.2 (by omega);subst hx hy;go_wp2;go_ret;exact⟨pT (by simp[jZ]),rfl⟩
def gh(x y:Int):Int:=if x<y then -1 else if y<x then 1 else 0
def gy(a b:aj):Int:=jZ (gh a.rep b.rep) (gh a.n b.n)
theorem wR(ra na rb nb:Int)(va vb:ByteArray)(w:World):
  Calls aa.prog 66 #[.agg #[.int .i64 ra,.int .i64 na,.string va],.agg #[.int .i64 rb,.int .i64 nb,.string vb]] w λe w'=>e=.returned (.int .i64 (jZ (gh ra rb) (gh na nb)))/\∃q os',w'=Go.Sort.grow (w.drewN q) os':=by
 have hc1:∀W,Calls aa.prog 87 #[.int .i64 ra,.int .i64 rb] W λe w'=>e=.returned (.int .i64 (gh ra rb))/\w'=W:=λW=>DC ra rb W;have hc2:∀W,Calls aa.prog 87 #[.int .i64 na,.int .i64 nb] W λe w'=>e=.returned (.int .i64 (gh na nb))/\w'=W:=λW=>DC na nb W;have H1:Hid _:=hc1;have H2:Hid _:=hc2;clear hc1 hc2;generalize gh ra rb=r1 at*;generalize gh na nb=r2 at*;go_enter aa.func66,aa.ntmps66;go_wp2;go_region_held3 (λw'=>w'.cell? ⟨w.heap.size,0,none⟩=some (.int .i64 ra)/\w'.cell? ⟨w.heap.size,1,none⟩=some (.int .i64 na)/\w'.cell? ⟨w.heap.size+1,0,none⟩=some (.int .i64 rb)/\w'.cell? ⟨w.heap.size+1,1,none⟩=some (.int .i64 nb)) (go_keep) (first
  |(go_at_call_of 87 (Value.int .i64 ra);refine (H1.out _).mono ?_;rintro e w' ⟨rfl,rfl⟩)
  |(go_at_call_of 87 (Value.int .i64 na);refine (H2.out _).mono ?_;rintro e w' ⟨rfl,rfl⟩)
  |(go_at_call 86;refine (KX _ _ _ r1 r2 _ (by go_simp) (by go_simp)).mono ?_;rintro e w' ⟨rfl,rfl⟩))
 go_wp2;go_ret;exact⟨rfl,1,_,by rw[Go.Sort.alloc_eq_grow,Go.Sort.alloc_eq_grow,Go.Sort.alloc_eq_grow,Go.Sort.grow_grow,Go.Sort.grow_grow];rfl⟩
theorem sf(W:World)(a b c d:Value):
  (Instr.index 102 (.agg #[a,b,c,d]) (.int .i64 0)).run aa.prog W=.ok a W/\
  (Instr.index 102 (.agg #[a,b,c,d]) (.int .i64 1)).run aa.prog W=.ok b W/\
  (Instr.index 102 (.agg #[a,b,c,d]) (.int .i64 2)).run aa.prog W=.ok c W/\
  (Instr.index 102 (.agg #[a,b,c,d]) (.int .i64 3)).run aa.prog W=.ok d W:=
 ⟨by kernel_rfl,by kernel_rfl,by kernel_rfl,by kernel_rfl⟩
theorem NX{c:Ctx}(h:∀j,j<4->0<=c j/\c j<=1000000):fZ c=true:=by
 simp only[fZ,ej,IN,VN];exact⟨h 0 (by omega),h 1 (by omega),h 2 (by omega),h 3 (by omega)⟩
theorem OA{c:Ctx}(hk:k<4)(h: ¬(0<=c k/\c k<=1000000)):fZ c=false:=by
 cases hs:fZ c with
 |false=>rfl
 |true=>
  simp only[fZ,ej,IN,VN]at hs;rcases fc hk with rfl|rfl|rfl|rfl
  ·exact absurd hs.1 h
  ·exact absurd hs.2.1 h
  ·exact absurd hs.2.2.1 h
  ·exact absurd hs.2.2.2 h
theorem rA(c:Ctx)(w:World):
  Calls aa.prog 38 #[cU c] w λe w'=>e=.returned (.bool (fZ c))/\Below w.heap.size w w':=by
 go_enter aa.func38,aa.ntmps38;go_wp2;go_loop [6] (λi=>∃k:Nat,k<=4/\i=.int .i64 k/\∀j,j<k->0<=c j/\c j<=1000000) (λi=>4-(intOf i).toNat)
 case atStart=>exact⟨0,by omega,rfl,λj hj=>by omega⟩
 case round=>
  obtain⟨k,hk,rfl,hall⟩:=hrel;have Hall:=(show Hid _ from hall)
  clear hall;by_cases hlt:k<4
  ·by_cases hb:0<=c k/\c k<=1000000
   ·obtain⟨hb1,hb2⟩:=hb;have hall':Hid (∀j,j<k+1->0<=c j/\c j<=1000000):=λj hj=>by
     by_cases e:j=k
     ·subst e;exact⟨hb1,hb2⟩
     ·exact Hall.out j (by omega)
    clear Hall;rcases fc hlt with rfl|rfl|rfl|rfl
    all_goals
     have hix:=sf;go_wp2;exact⟨⟨_,by omega,by go_num,hall'.out⟩,by simp[intOf]⟩
   ·have hs:Hid (fZ c=false):=OA hlt hb;clear Hall;have hb':c k<0\/1000000<c k:=by omega
    clear hb;rcases hb' with hb'|hb'
    all_goals
     try (have hb0:0<=c k:=by omega)
     rcases fc hlt with rfl|rfl|rfl|rfl
     all_goals
      have hix:=sf;go_wp2;go_ret;exact⟨mH hs.out.symm,(AT _ _).alloc (eR _) _⟩
  ·obtain rfl:k=4:=by omega
   have hs:Hid (fZ c=true):=NX Hall.out;clear Hall;go_wp2;go_ret;exact⟨mH hs.out.symm,(AT _ _).alloc (eR _) _⟩
theorem Wq{a:World}(h:Below B a w)(n:Nat):Below B a (w.drewN n):=⟨h.os,h.tape,h.output,h.size,h.block⟩
theorem uU(c:Ctx)(r:Nat)(n:Int)(w:World)(hr:r<4):
  Calls aa.prog 83 #[cU c,.agg #[.int .i64 r,.int .i64 n]] w λe w'=>e=.returned (.bool (decide (n<=c r)))/\Below w.heap.size w w':=by
 rcases fc hr with rfl|rfl|rfl|rfl
 all_goals
  go_enter aa.func83,aa.ntmps83;go_wp2;go_quiet (fail);go_wp2;go_ret;exact⟨rfl,Wq (((AT _ _).alloc (eR _) _).alloc (by simp) _) _⟩
theorem uD{d x y:Int}(h:d=x):(if d<y then y else d)=max x y:=by
 subst h;rw[Int.max_def];split<;>split<;>omega
theorem rn(a b:Ctx)(w:World):
  Calls aa.prog 64 #[cU a,cU b] w λe w'=>e=.returned (cU (aU a b))/\Below w.heap.size w w':=by
 go_enter aa.func64,aa.ntmps64;go_wp2;go_loopw [8] (λi w'=>∃k:Nat,k<=4/\i=.int .i64 k/\∃d0 d1 d2 d3:Int,w'=((w.alloc (.cells #[.int .i64 d0,.int .i64 d1,.int .i64 d2,.int .i64 d3] 102)).alloc (.cells #[.int .i64 (b 0),.int .i64 (b 1),.int .i64 (b 2),.int .i64 (b 3)] 102)).alloc (.cells #[.int .i64 0,.int .i64 0,.int .i64 0,.int .i64 0] 102)/\Hid (d0=if 0<k then aU a b 0 else a 0)/\Hid (d1=if 1<k then aU a b 1 else a 1)/\Hid (d2=if 2<k then aU a b 2 else a 2)/\Hid (d3=if 3<k then aU a b 3 else a 3)) (λi _=>4-(intOf i).toNat)
 case atStart=>exact⟨0,by omega,rfl,_,_,_,_,rfl,rfl,rfl,rfl,rfl⟩
 case round=>
  obtain⟨k,hk,rfl,d0,d1,d2,d3,rfl,h0,h1,h2,h3⟩:=hrel;by_cases hlt:k<4
  ·have hix:=sf;rcases fc hlt with rfl|rfl|rfl|rfl
   ·go_wp2;exact⟨⟨1,by omega,rfl,_,_,_,_,rfl,(by first|exact uD h0.out|exact congrArg (max · _) h0.out),h1,h2,h3⟩,by simp[intOf]⟩
   ·go_wp2;exact⟨⟨2,by omega,rfl,_,_,_,_,rfl,h0,(by first|exact uD h1.out|exact congrArg (max · _) h1.out),h2,h3⟩,by simp[intOf]⟩
   ·go_wp2;exact⟨⟨3,by omega,rfl,_,_,_,_,rfl,h0,h1,(by first|exact uD h2.out|exact congrArg (max · _) h2.out),h3⟩,by simp[intOf]⟩
   ·go_wp2;exact⟨⟨4,by omega,rfl,_,_,_,_,rfl,h0,h1,h2,(by first|exact uD h3.out|exact congrArg (max · _) h3.out)⟩,by simp[intOf]⟩
  ·obtain rfl:k=4:=by omega
   go_wp2;refine V9 (v:=cU (aU a b)) ?_ rfl ⟨rfl,?_⟩
   ·simp[results,aa.results64,go_sem];exact⟨h0.out,h1.out,h2.out,h3.out⟩
   ·exact (((AT _ _).alloc (eR _) _).alloc (by simp) _).alloc (by simp;omega) _
def bd(l:List aj):List Value:=l.flatMap dw
theorem yw(l:List aj):(bd l).length=l.length*3:=by
 induction l with
 |nil=>rfl
 |cons v l ih=>simp only[bd,Wi,VF,VL] at*;rw[ih];simp[dw];omega
theorem qO(a b:List aj):bd (a++b)=bd a++bd b:=by simp[bd]
def aT(l:List aj)(c:Ctx):List aj:=l.filter λv=>!gE c v
def az(w:World)(sv:Value)(l:List aj):Prop:=w.ownsRow 0 144 3 sv l.length (bd l)
theorem C6(l:List aj)(k:Nat)(h:k<l.length):
  (bd l)[k*3]?=some (.int .i64 l[k].rep)/\(bd l)[k*3+1]?=some (.int .i64 l[k].n)/\(bd l)[k*3+2]?=some (.string l[k].val):=by
 induction l generalizing k with
 |nil=>simp at h
 |cons v l ih=>
  have e:bd (v::l)=dw v++bd l:=by simp[bd]
  cases k with
  |zero=>simp[e,dw]
  |succ k=>
   have h':k<l.length:=by simpa using h
   have:=ih k h';rw[e];simp only[List.getElem_cons_succ];have e0:(k+1)*3=k*3+3:=by omega
   rw[e0];refine⟨?_,?_,?_⟩
   ·rw[List.getElem?_append_right (by simp[dw])];simpa[dw] using this.1
   ·rw[List.getElem?_append_right (by simp[dw])];simp only[dw,VL,Wt];rw[show k*3+3+1-(0+1+1+1)=k*3+1 from by omega];exact this.2.1
   ·rw[List.getElem?_append_right (by simp[dw])];simp only[dw,VL,Wt];rw[show k*3+3+2-(0+1+1+1)=k*3+2 from by omega];exact this.2.2
theorem az.cells{l:List aj}(h:az w sv l)(hk:k<l.length):
  ∃g cap,sv=.slice (some ⟨g,0,none⟩) l.length cap/\g<w.heap.size/\l.length<=cap/\cap<=maxLen/\
   w.cell? ⟨g,k*3,none⟩=some (.int .i64 l[k].rep)/\w.cell? ⟨g,k*3+1,none⟩=some (.int .i64 l[k].n)/\w.cell? ⟨g,k*3+2,none⟩=some (.string l[k].val):=by
 obtain⟨h1,h2⟩:=h;rcases h2 with⟨_,h2⟩|⟨g,cap,cur,hv,_,hh,hn,hc,hs,ht⟩
 ·omega
 ·refine⟨g,cap,hv,(Array.getElem?_eq_some_iff.1 hh).1,hn,hc,?_⟩;have hf:=C6 l k hk;have key:∀j v,j<l.length*3->(bd l)[j]?=some v->w.cell? ⟨g,j,none⟩=some v:=by
   intro j v hj hv;simp only[World.cell?,hh];rw[<-ht,List.getElem?_take,AS hj]at hv;simpa using hv
  exact⟨key _ _ (by omega) hf.1,key _ _ (by omega) hf.2.1,key _ _ (by omega) hf.2.2⟩
theorem yj(w:World)(cs:Array Value)(t:TypeId)(o:Nat):(w.alloc (.cells cs t)).cell? ⟨w.heap.size,o,none⟩=cs[o]? :=by
 simp only[World.cell?,BY];rfl
theorem tf{base:Nat}{size:Nat}{n:Nat}(h:w.ownsRow base e size v n xs)(hk:∀g,g<w.heap.size->v.ownBlock=some g->w'.heap[g]?=w.heap[g]?):w'.ownsRow base e size v n xs:=by
 refine⟨h.1,?_⟩;rcases h.2 with h2|⟨g,cap,cur,hv,hg,hh,r⟩
 ·exact Or.inl h2
 ·exact Or.inr ⟨g,cap,cur,hv,hg,by rw[hk g (Array.getElem?_eq_some_iff.1 hh).1 (by rw[hv];rfl)];exact hh,r⟩
theorem dS{base:Nat}{size:Nat}{n:Nat}(h:w.ownsRow base e size v n xs)(hb:Below B w w')(hB:w.heap.size<=B):w'.ownsRow base e size v n xs:=
 tf h λg hg _=>hb.block g (by omega)
theorem eE{base base':Nat}{size:Nat}{n:Nat}(h:w.ownsRow base e size v n xs)(hb:base'<=base):w.ownsRow base' e size v n xs:=by
 refine⟨h.1,?_⟩;rcases h.2 with h2|⟨g,cap,cur,hv,hg,r⟩
 ·exact Or.inl h2
 ·exact Or.inr ⟨g,cap,cur,hv,by omega,r⟩
theorem aa.td:(aa.prog.info? 144).map (λi=>(i.zero,i.size,i.bytes))=some (some (.agg #[.int .i64 0,.int .i64 0,.string ⟨#[]⟩]),3,32):=by kernel_rfl
theorem PZ(l:List aj)(c:Ctx)(k:Nat)(h:k<l.length):aT (l.take (k+1)) c=aT (l.take k) c++(if gE c l[k]=true then [] else [l[k]]):=by
 rw[VO h];simp only[aT,List.filter_append];congr 1;cases hs:gE c l[k]<;>simp[hs]
theorem pD(c:Ctx)(sv:Value)(l:List aj)(seen:Ctx)(w:World)(h:az w sv l)(hr:∀v∈l,v.rep<4)(hlen:l.length<=100000):
  Calls aa.prog 63 #[.agg #[.int .i64 (c 0),.int .i64 (c 1),.int .i64 (c 2),.int .i64 (c 3),sv],cU seen] w λe w'=>∃v',e=.returned v'/\w'.ownsRow w.heap.size 144 3 v' (aT l seen).length (bd (aT l seen))/\Below w.heap.size w w':=by
 obtain⟨ad,cap,hsv,hcap⟩: ∃ad cap,sv=.slice ad l.length cap/\(cap:Int)<=9223372036854775807:=by
  rcases h.2 with⟨h1,h2⟩|⟨g,cap,cur,hv,_,_,_,h3,_⟩
  ·exact⟨_,_,by rw[h1,h2],by simp⟩
  ·exact⟨_,_,hv,by unfold maxLen at h3;omega⟩
 subst hsv;have H:Hid _:=h;have HR:Hid _:=hr;clear h hr;go_enter aa.func63,aa.ntmps63;go_wp2;go_loopw [5,11] (λlf i wr=>∃k:Nat,k<=l.length/\i=.int .i64 k/\Hid (wr.ownsRow (w.heap.size+2) 144 3 lf (aT (l.take k) seen).length (bd (aT (l.take k) seen)))/\Hid (Below (w.heap.size+2) ((w.alloc (.cells #[.int .i64 (c 0),.int .i64 (c 1),.int .i64 (c 2),.int .i64 (c 3),.slice ad l.length cap] 106)).alloc (.cells #[.int .i64 (seen 0),.int .i64 (seen 1),.int .i64 (seen 2),.int .i64 (seen 3)] 102)) wr)) (λ_ i _=>l.length-(intOf i).toNat)
 case atStart=>exact⟨0,by omega,rfl,⟨by simp[bd,aT],Or.inl ⟨rfl,by simp[aT]⟩⟩,AT _ _⟩
 case round=>
  obtain⟨k,hk,rfl,aD,hbel⟩:=hrel;by_cases hlt:k<l.length
  ·obtain⟨g,cap',hsv',hg,_,_,c0,c1,c2⟩:=az.cells H.out hlt;have hrk:Hid (l[k].rep<4):=HR.out _ (VB hlt);have hsn:=PZ l seen k hlt;have HS:Hid _:=hsn;clear hsn;generalize hrr:l[k].rep=r at*;generalize hnn:l[k].n=n at*;generalize hvv:l[k].val=s at*;have Hvk:Hid (l[k]=(r,n,s)):=by rw[<-hrr,<-hnn,<-hvv];rfl
   clear hrr hnn hvv;cases hsv';have hb:=hbel.out;have hsz:w.heap.size+2<=wr.heap.size:=by have:=hb.size;simp at this;omega
   have old:∀o,wr.cell? ⟨g,o,none⟩=w.cell? ⟨g,o,none⟩:=λo=>by
    rw[hb.cell (p:=⟨g,o,none⟩) (by simp;omega),World.cell?_alloc_lt _ _ _ (by simp;omega),World.cell?_alloc_lt _ _ _ (by simp;omega)]
   have d0:wr.cell? ⟨g,k*3,none⟩=some (.int .i64 r):=(old _).trans c0;have d1:wr.cell? ⟨g,k*3+1,none⟩=some (.int .i64 n):=(old _).trans c1;have d2:wr.cell? ⟨g,k*3+2,none⟩=some (.string s):=(old _).trans c2;have sbox:∀o,wr.cell? ⟨w.heap.size+1,o,none⟩=#[Value.int .i64 (seen 0),.int .i64 (seen 1),.int .i64 (seen 2),.int .i64 (seen 3)][o]? :=λo=>by
    rw[hb.cell (p:=⟨w.heap.size+1,o,none⟩) (by simp)];exact World.cell?_alloc_at _ _ _ _ (by simp)
   have s0:=sbox 0;have s1:=sbox 1;have s2:=sbox 2;have s3:=sbox 3;simp at s0 s1 s2 s3;have g63:(k:Int)<(l.length:Int):=by omega
   have k0:(0:Int)<=(k:Int):=by omega
   have Hc:Hid _:=And.intro c0 (And.intro c1 c2);clear c0 c1 c2 old sbox hb;have a0:∀ob,(wr.alloc ob).cell? ⟨w.heap.size+1,0,none⟩=some (.int .i64 (seen 0)):=λob=>by rw[World.cell?_alloc_lt _ _ _ (by simp;omega)];exact s0
   have a1:∀ob,(wr.alloc ob).cell? ⟨w.heap.size+1,1,none⟩=some (.int .i64 (seen 1)):=λob=>by rw[World.cell?_alloc_lt _ _ _ (by simp;omega)];exact s1
   have a2:∀ob,(wr.alloc ob).cell? ⟨w.heap.size+1,2,none⟩=some (.int .i64 (seen 2)):=λob=>by rw[World.cell?_alloc_lt _ _ _ (by simp;omega)];exact s2
   have a3:∀ob,(wr.alloc ob).cell? ⟨w.heap.size+1,3,none⟩=some (.int .i64 (seen 3)):=λob=>by rw[World.cell?_alloc_lt _ _ _ (by simp;omega)];exact s3
   clear s0 s1 s2 s3;have hrk':=hrk.out;have e1:∀w1,Below (wr.heap.size+1) (wr.alloc (.cells #[.int .i64 r,.int .i64 n,.string s] 144)) w1->Below (w.heap.size+2) ((w.alloc (.cells #[.int .i64 (c 0),.int .i64 (c 1),.int .i64 (c 2),.int .i64 (c 3),.slice (some ⟨g,0,none⟩) l.length cap] 106)).alloc (.cells #[.int .i64 (seen 0),.int .i64 (seen 1),.int .i64 (seen 2),.int .i64 (seen 3)] 102)) w1:=λw1 hw=>(hbel.out.alloc (by omega) _).trans (hw.mono (by omega));have E1:Hid _:=e1;clear e1;have E2:Hid (∀w1,Below (wr.heap.size+1) (wr.alloc (.cells #[.int .i64 r,.int .i64 n,.string s] 144)) w1->w1.ownsRow (w.heap.size+2) 144 3 u5 (aT (List.take k l) seen).length (bd (aT (List.take k l) seen))):=λw1 hw=>dS (dS aD.out ((AT wr.heap.size wr).alloc (eR _) _) (eR _)) hw (by simp);have eH:gE seen l[k]=decide (n<=seen r):=by rw[Hvk.out];rfl
   have HQ:Hid _:=eH;clear eH;by_cases hseen:n<=seen r
   ·have HS':Hid (aT (List.take (k+1) l) seen=aT (List.take k l) seen):=by
     have:=HS.out;rw[HQ.out,AS (by simpa using hseen),Wz]at this;exact this
    clear HS;have hd:decide (n<=seen r)=true:=by simpa using hseen
    clear hseen;go_wp2_with (go_at_call 83;refine (uU seen r n _ hrk').mono ?_;rintro e w1 ⟨rfl,hb1⟩;simp at hb1)
    exact⟨⟨k+1,by omega,by go_num,by rw[HS'.out];exact E2.out _ hb1,E1.out _ hb1⟩,by simp[intOf];omega⟩
   ·have HS':Hid (aT (List.take (k+1) l) seen=aT (List.take k l) seen++ [(r,n,s)]):=by
     have:=HS.out;rw[HQ.out,AI (by simpa using hseen),Hvk.out]at this;exact this
    clear HS;obtain⟨i0,hi0,hz0,hz1,hz2⟩:=VH aa.td;have hd:decide (n<=seen r)=false:=by simpa using hseen
    clear hseen;have hul:Hid ((aT (List.take k l) seen).length<=100000):=OF (List.length_filter_le _ _) (by simp;omega);go_wp2_with (first
     |(go_at_call 83;refine (uU seen r n _ hrk').mono ?_;rintro e w1 ⟨rfl,hb1⟩;simp at hb1;have v0:w1.cell? ⟨wr.heap.size,0,none⟩=some (.int .i64 r):=(hb1.cell (p:=⟨wr.heap.size,0,none⟩) (by simp)).trans (yj _ _ _ _);have v1:w1.cell? ⟨wr.heap.size,1,none⟩=some (.int .i64 n):=(hb1.cell (p:=⟨wr.heap.size,1,none⟩) (by simp)).trans (yj _ _ _ _);have v2:w1.cell? ⟨wr.heap.size,2,none⟩=some (.string s):=(hb1.cell (p:=⟨wr.heap.size,2,none⟩) (by simp)).trans (yj _ _ _ _);have z1:w.heap.size+2<=w1.heap.size:=by (have:=hb1.size;simp at this;omega))
     |(at_builtin;refine Xi _ rfl _ _ _ rfl (w.heap.size+2) 144 i0 _ 3 32 aa.underlying104 hi0 hz0 hz1 hz2 rfl (by omega) u5 _ _ rfl ((E2.out _ hb1).alloc _) ⟨w1.heap.size,0,none⟩ 1 1 [.int .i64 r,.int .i64 n,.string s] rfl rfl (VM (cs:=#[.int .i64 r,.int .i64 n,.string s]) (t:=144) (fr:=(0,0)) (BY w1 _)) (by simp[Value.oneCell']) (by omega) (by have:=hul.out;unfold maxLen;omega) (by have:=hul.out;omega) (by simp;omega) (w1.heap.size+1) (by simp) ?_;intro gg capn w2 hown2 hgrow hat hlt2))
    refine⟨⟨k+1,by omega,by go_num,?_,?_⟩,by simp[intOf];omega⟩
    ·rw[HS'.out,qO,VF];exact hown2
    ·have hB:=(E1.out _ hb1).alloc (by omega) (.cells #[.int .i64 r,.int .i64 n,.string s] 144);refine hB.grown hgrow (by simp;omega) λq hq=>?_;rcases aD.out.2 with⟨h1,_⟩|⟨g1,cap1,cur1,hv1,hg1,_⟩
     ·rw[h1]at hq;cases hq
     ·rw[hv1]at hq;simp[Value.ownBlock]at hq;omega
  ·have hkl:k=l.length:=by omega
   have HK:Hid (List.take k l=l):=Xh (by omega);have HO:Hid _:=aD.out;clear aD;go_wp2;go_ret;refine⟨_,rfl,?_,?_⟩
   ·have:=HO.out;rw[HK.out]at this;exact eE this (by omega)
   ·exact ((((AT _ _).alloc (eR _) _).alloc (by simp) _).trans (hbel.out.mono (by omega)))
theorem l8{w1:World}{A B C:Array Value}{ta tb tc:TypeId}(hb:Below (w.heap.size+3) (((w.alloc (.cells A ta)).alloc (.cells B tb)).alloc (.cells C tc)) w1):
  (∀o,w1.cell? ⟨w.heap.size,o,none⟩=A[o]?)/\(∀o,w1.cell? ⟨w.heap.size+1,o,none⟩=B[o]?)/\(∀o,w1.cell? ⟨w.heap.size+1+1,o,none⟩=C[o]?)/\(∀o,w1.frozen? ⟨w.heap.size,o,none⟩=false)/\(∀o,w1.frozen? ⟨w.heap.size+1,o,none⟩=false)/\(∀o,w1.frozen? ⟨w.heap.size+1+1,o,none⟩=false):=by
 have e0:w1.heap[w.heap.size]?=some (.cells A ta):=by
  rw[hb.block _ (by omega),Vx _ _ _ (by simp;omega),Vx _ _ _ (by simp)];exact BY w _
 have e1:w1.heap[w.heap.size+1]?=some (.cells B tb):=by
  rw[hb.block _ (by omega),Vx _ _ _ (by simp)]
  have:=BY (w.alloc (.cells A ta)) (.cells B tb);simpa using this
 have e2:w1.heap[w.heap.size+1+1]?=some (.cells C tc):=by
  rw[hb.block _ (by omega)]
  have:=BY ((w.alloc (.cells A ta)).alloc (.cells B tb)) (.cells C tc);simpa using this
 refine⟨λo=>?_,λo=>?_,λo=>?_,λo=>?_,λo=>?_,λo=>?_⟩
 ·simp[World.cell?,e0]
 ·simp[World.cell?,e1]
 ·simp[World.cell?,e2]
 ·simp[World.frozen?,e0]
 ·simp[World.frozen?,e1]
 ·simp[World.frozen?,e2]
theorem az.len{l:List aj}(h:az w sv l): ∃ad cap,sv=.slice ad l.length cap/\(cap:Int)<=9223372036854775807:=by
 rcases h.2 with⟨h1,h2⟩|⟨g,cap,cur,hv,_,_,_,h3,_⟩
 ·exact⟨_,_,by rw[h1,h2],by simp⟩
 ·exact⟨_,_,hv,by unfold maxLen at h3;omega⟩
theorem nS{l:List aj}(h:w.ownsRow B 144 3 sv l.length (bd l)): ∃ad cap,sv=.slice ad l.length cap:=by
 rcases h.2 with⟨h1,h2⟩|⟨g,cap,cur,hv,_⟩
 ·exact⟨_,_,by rw[h1,h2]⟩
 ·exact⟨_,_,hv⟩
abbrev bD(c:Ctx)(sv:Value):Value:=.agg #[.int .i64 (c 0),.int .i64 (c 1),.int .i64 (c 2),.int .i64 (c 3),sv]
theorem M4(c:Ctx)(sv:Value)(l:List aj)(seen:Ctx)(w:World)(h:az w sv l)(hr:∀v∈l,v.rep<4)(hlen:l.length<=100000)(hn:(aT l seen).length=l.length):
  Calls aa.prog 44 #[bD c sv,cU seen] w λe w'=>e=.returned (.tuple #[bD (λ_=>0) (.slice none 0 0),.int .i64 5])/\Below w.heap.size w w':=by
 obtain⟨ad,cap,rfl,hcap⟩:=h.len;have H3:Hid (∀a b d,az (((w.alloc a).alloc b).alloc d) (.slice ad l.length cap) l):=λa b d=>((VD h a).alloc b).alloc d;have HN:Hid _:=hn;have HR:Hid _:=hr;clear h hr hn;go_enter aa.func44,aa.ntmps44;go_wp2_with (go_at_call 63;refine (pD c _ l seen _ (H3.out _ _ _) HR.out hlen).mono ?_;rintro e w1 ⟨v',rfl,aD,hb⟩;obtain⟨ad',cap',hv'⟩:=nS aD;rw[HN.out]at hv';subst hv';simp at hb;obtain⟨b0,b1,b2,f0,f1,f2⟩:=l8 hb;have HO:Hid _:=aD;have HB:Hid _:=hb;clear aD hb)
 refine V9 (v:=.tuple #[bD (λ_=>0) (.slice none 0 0),.int .i64 5]) ?_ rfl ⟨rfl,?_⟩
 ·simp[results,aa.results44,go_sem,b2]
 ·exact ((((((((AT _ _).alloc (eR _) _).alloc (by simp) _).alloc (by simp;omega) _).trans (HB.out.mono (by omega))).setCell (by simp;omega) _).setCell (by simp;omega) _).setCell (by simp;omega) _|>.setCell (by simp;omega) _).setCell (by simp;omega) _
theorem Tj(c:Ctx)(sv:Value)(l:List aj)(seen:Ctx)(w:World)(h:az w sv l)(hr:∀v∈l,v.rep<4)(hlen:l.length<=100000)(hn:(aT l seen).length<l.length):
  Calls aa.prog 44 #[bD c sv,cU seen] w λe w'=>∃v',e=.returned (.tuple #[bD (aU c seen) v',.int .i64 0])/\w'.ownsRow w.heap.size 144 3 v' (aT l seen).length (bd (aT l seen))/\Below w.heap.size w w':=by
 obtain⟨ad,cap,rfl,hcap⟩:=h.len;have H3:Hid (∀a b d,az (((w.alloc a).alloc b).alloc d) (.slice ad l.length cap) l):=λa b d=>((VD h a).alloc b).alloc d;have HR:Hid _:=hr;clear h hr;have hne:(((aT l seen).length:Int)==(l.length:Int))=false:=by simp;omega
 go_enter aa.func44,aa.ntmps44;go_wp2_with (first
  |(go_at_call 63;refine (pD c _ l seen _ (H3.out _ _ _) HR.out hlen).mono ?_;rintro e w1 ⟨v',rfl,aD,hb⟩;obtain⟨ad',cap',hv'⟩:=nS aD;subst hv';simp at hb;obtain⟨b0,b1,b2,f0,f1,f2⟩:=l8 hb;have HO:Hid _:=aD;have HB:Hid _:=hb;clear aD hb)
  |(go_at_call 64;refine (rn c seen _).mono ?_;rintro e w2 ⟨rfl,hb2⟩;have hb3:=HB.out.trans (hb2.mono (by have:=HB.out.size;simp at this;omega));obtain⟨b0,b1,b2,f0,f1,f2⟩:=l8 hb3;have HB3:Hid _:=hb3;have HB2:Hid _:=hb2;clear hb3 hb2))
 refine V9 (v:=.tuple #[bD (aU c seen) (.slice ad' (aT l seen).length cap'),.int .i64 0]) ?_ rfl ⟨_,rfl,?_,?_⟩
 ·simp[results,aa.results44,go_sem,b2]
 ·have h1:=eE HO.out (show w.heap.size+3<=_ by simp);have h2:=dS h1 HB2.out (eR _);exact eE (Wh (Wh (Wh (Wh (Wh h2 (by simp) _) (by simp) _) (by simp) _) (by simp) _) (by simp) _) (by omega)
 ·exact ((((((((AT _ _).alloc (eR _) _).alloc (by simp) _).alloc (by simp;omega) _).trans (HB3.out.mono (by omega))).setCell (by simp;omega) _).setCell (by simp;omega) _).setCell (by simp;omega) _|>.setCell (by simp;omega) _).setCell (by simp;omega) _
end Go.Proofs.YtldmcdeibiclkaaGreatDoorQ
namespace Go.Proofs
section
open Go.Shelf
def aa.I9:Go.Shelf.Ren:=⟨fun|316=>67|n=>n,fun|9=>9|3=>3|4=>4|37=>48|0=>0|127=>177|5=>5|n=>n,fun|n=>n⟩
theorem aa.LF:Go.Proofs.LaysM.n316 aa.prog aa.I9:={
 mixed:=by kernel_rfl
 f316:=aa.func67.trans (congrArg some (by kernel_rfl))
 t0:=aa.underlying0
 a0:=aa.isAgg0
 z0:=aa.sizeOf0
 v0:=aa.zeroValue0
 t3:=aa.underlying3
 a3:=aa.isAgg3
 z3:=aa.sizeOf3
 v3:=aa.zeroValue3
 t4:=aa.underlying4
 a4:=aa.isAgg4
 z4:=aa.sizeOf4
 v4:=aa.zeroValue4
 t9:=aa.underlying9
 a9:=aa.isAgg9
 z9:=aa.sizeOf9
 v9:=aa.zeroValue9
 t37:=aa.underlying48
 a37:=aa.isAgg48
 z37:=aa.sizeOf48
 v37:=aa.zeroValue48
 t127:=aa.underlying177
 a127:=aa.isAgg177
 z127:=aa.sizeOf177
 v127:=aa.zeroValue177
 t5:=aa.underlying5
 a5:=aa.isAgg5
 z5:=aa.sizeOf5
 v5:=aa.zeroValue5
 i0:=by kernel_rfl
 i3:=by kernel_rfl
 i4:=by kernel_rfl
 i5:=by kernel_rfl
 i9:=by kernel_rfl
 i37:=by kernel_rfl
 i127:=by kernel_rfl}
def aa.Q7:Go.Shelf.Ren:=⟨fun|6=>65|15=>85|14=>84|28=>115|29=>116|20=>107|21=>108|22=>109|23=>110|24=>111|25=>112|26=>113|27=>114|46=>142|47=>143|48=>144|49=>145|50=>146|57=>162|n=>n,fun|22=>104|24=>144|25=>146|3=>3|39=>175|0=>0|53=>186|55=>44|4=>4|46=>200|45=>199|50=>55|5=>5|9=>9|66=>225|70=>228|76=>242|77=>243|n=>n,fun|n=>n⟩
theorem aa.Gz:Go.Proofs.SlLaysF0.n6 aa.prog aa.Q7:={
 mixed:=by kernel_rfl
 f6:=⟨aa.f65.name,by decide,aa.func65.trans (congrArg some (by kernel_rfl))⟩
 f14:=⟨aa.f84.name,by decide,aa.func84.trans (congrArg some (by kernel_rfl))⟩
 f15:=aa.func85.trans (congrArg some (by kernel_rfl))
 f20:=⟨aa.f107.name,by decide,aa.func107.trans (congrArg some (by kernel_rfl))⟩
 f21:=⟨aa.f108.name,by decide,aa.func108.trans (congrArg some (by kernel_rfl))⟩
 f22:=⟨aa.f109.name,by decide,aa.func109.trans (congrArg some (by kernel_rfl))⟩
 f23:=⟨aa.f110.name,by decide,aa.func110.trans (congrArg some (by kernel_rfl))⟩
 f24:=⟨aa.f111.name,by decide,aa.func111.trans (congrArg some (by kernel_rfl))⟩
 f25:=⟨aa.f112.name,by decide,aa.func112.trans (congrArg some (by kernel_rfl))⟩
 f26:=⟨aa.f113.name,by decide,aa.func113.trans (congrArg some (by kernel_rfl))⟩
 f27:=⟨aa.f114.name,by decide,aa.func114.trans (congrArg some (by kernel_rfl))⟩
 f28:=aa.func115.trans (congrArg some (by kernel_rfl))
 f29:=aa.func116.trans (congrArg some (by kernel_rfl))
 f46:=⟨aa.f142.name,by decide,aa.func142.trans (congrArg some (by kernel_rfl))⟩
 f47:=aa.func143.trans (congrArg some (by kernel_rfl))
 f48:=aa.func144.trans (congrArg some (by kernel_rfl))
 f49:=⟨aa.f145.name,by decide,aa.func145.trans (congrArg some (by kernel_rfl))⟩
 f50:=⟨aa.f146.name,by decide,aa.func146.trans (congrArg some (by kernel_rfl))⟩
 f57:=⟨aa.f162.name,by decide,aa.func162.trans (congrArg some (by kernel_rfl))⟩
 t0:=aa.underlying0
 a0:=aa.isAgg0
 z0:=aa.sizeOf0
 v0:=aa.zeroValue0
 t3:=aa.underlying3
 a3:=aa.isAgg3
 z3:=aa.sizeOf3
 v3:=aa.zeroValue3
 t4:=aa.underlying4
 a4:=aa.isAgg4
 z4:=aa.sizeOf4
 v4:=aa.zeroValue4
 t5:=aa.underlying5
 a5:=aa.isAgg5
 z5:=aa.sizeOf5
 v5:=aa.zeroValue5
 t9:=aa.underlying9
 a9:=aa.isAgg9
 z9:=aa.sizeOf9
 v9:=aa.zeroValue9
 t22:=aa.underlying104
 a22:=aa.isAgg104
 z22:=aa.sizeOf104
 v22:=aa.zeroValue104
 t25:=aa.underlying146
 a25:=aa.isAgg146
 z25:=aa.sizeOf146
 v25:=aa.zeroValue146
 t39:=aa.underlying175
 a39:=aa.isAgg175
 z39:=aa.sizeOf175
 v39:=aa.zeroValue175
 t45:=aa.underlying199
 a45:=aa.isAgg199
 z45:=aa.sizeOf199
 v45:=aa.zeroValue199
 t46:=aa.underlying200
 a46:=aa.isAgg200
 z46:=aa.sizeOf200
 v46:=aa.zeroValue200
 t50:=aa.underlying55
 a50:=aa.isAgg55
 z50:=aa.sizeOf55
 v50:=aa.zeroValue55
 t53:=aa.underlying186
 a53:=aa.isAgg186
 z53:=aa.sizeOf186
 v53:=aa.zeroValue186
 t55:=aa.underlying44
 a55:=aa.isAgg44
 z55:=aa.sizeOf44
 v55:=aa.zeroValue44
 t66:=aa.underlying225
 a66:=aa.isAgg225
 z66:=aa.sizeOf225
 v66:=aa.zeroValue225
 t70:=aa.underlying228
 a70:=aa.isAgg228
 z70:=aa.sizeOf228
 v70:=aa.zeroValue228
 t76:=aa.underlying242
 a76:=aa.isAgg242
 z76:=aa.sizeOf242
 v76:=aa.zeroValue242
 t77:=aa.underlying243
 a77:=aa.isAgg243
 z77:=aa.sizeOf243
 v77:=aa.zeroValue243}
end
end Go.Proofs
section
namespace Go.Proofs
open Go.Shelf Go.RowKit Go.Lib Go.Sort
namespace YtldmcdeibiclkaaGreatDoorQ
theorem Dl(x y:Int):gh x y<0↔x<y:=by
 unfold gh;split<;>(try split)<;>omega
theorem DG(x y:Int):gh x y=0↔x=y:=by
 unfold gh;split<;>(try split)<;>omega
def aP(a b:aj):Bool:=decide (a.rep<b.rep\/a.rep=b.rep/\a.n<b.n)
theorem FH:ltOf gy=aP:=by
 funext a b;unfold ltOf gy aP jZ;rw[decide_eq_decide];by_cases h:gh a.rep b.rep=0
 ·rw[AS h,Dl];have:=(DG _ _).1 h;omega
 ·rw[AI h,Dl];have: ¬(a.rep:Int)=b.rep:=λe=>h ((DG _ _).2 e);omega
theorem Lv:SWO (ltOf gy):=by
 rw[FH];exact {irrefl:=λx=>by simp[aP],trans:=λx y z h1 h2=>by simp[aP] at*;omega,ntrans:=λx y z h1 h2=>by simp[aP] at*;omega}
theorem KB(blk off size:Nat)(w:World):CmpLays aa.prog 66 #[] dw 3 gy blk off size w:=
 λ_ _ _ _ (x y:aj)=>wR x.rep x.n y.rep y.n x.val y.val _
theorem K5(blk off cap:Nat)(d:Array aj)(w:World)(hH:HoldsK dw 3 w blk off d)(hblk:blk<w.heap.size)(hsz:d.size<4611686018427387904):
  Calls aa.prog 65 #[.slice (some ⟨blk,off,none⟩) d.size cap,.func (.func 66) #[] #[]] w λe w'=>e=.returned (.tuple #[])/\∃d' n os,PermIn 0 d.size d d'/\SortedIn aP 0 d.size d'/\w'=sortWorldK dw 3 w blk off n d' os:=by
 have eg:∀args w,(callFunc 66 args).run aa.prog w=.ok (.enter 66 args) w:=enters_of aa.func66 (by kernel_rfl) rfl;have hcon:=AnyQ.slices_SortFunc aa.Gz 3 aa.isAgg144 aa.sizeOf144 dw (λ_=>rfl) (λx v hv=>by simp[dw]at hv;rcases hv with rfl|rfl|rfl<;>rfl) gy Lv 66 #[] blk off cap d w eg (KB blk off d.size w) hH hblk hsz;rw[FH]at hcon;exact hcon
end YtldmcdeibiclkaaGreatDoorQ
end Go.Proofs
end
namespace Go.Proofs.YtldmcdeibiclkaaGreatDoorQ
section
open Go.Shelf Go.RowKit Go.Lib Go.Sort
theorem Eu(l:List aj):(flatK dw 3 l.toArray).toList=bd l:=by
 apply List.ext_getElem?;intro t;by_cases ht:t<l.length*3
 ·have hk:t / 3<l.length:=by omega
  obtain⟨a,b,c⟩:=C6 l (t / 3) hk;have e:(flatK dw 3 l.toArray).toList[t]?=some ((dw l[t / 3])[t%3]!):=by
   have h1:=get_flatK dw 3 l.toArray t (by simpa using ht);rw[getElem!_pos _ t (by simpa using ht)]at h1;rw[Array.getElem?_toList,Array.getElem?_eq_getElem (by simpa using ht),h1];congr 2;simp[hk]
  rw[e];have h3:t%3=0\/t%3=1\/t%3=2:=by omega
  rcases h3 with h3|h3|h3
  ·rw[h3];rw[show (bd l)[t]?=(bd l)[t / 3*3]? by congr 1;omega,a];rfl
  ·rw[h3];rw[show (bd l)[t]?=(bd l)[t / 3*3+1]? by congr 1;omega,b];rfl
  ·rw[h3];rw[show (bd l)[t]?=(bd l)[t / 3*3+2]? by congr 1;omega,c];rfl
 ·rw[List.getElem?_eq_none (by simp;omega),List.getElem?_eq_none (by rw[yw];omega)]
theorem IP{w:World}{g:Nat}{l:List aj}{cur:Array Value}(hh:w.heap[g]?=some (.cells cur 144 (0,0)))(ht:cur.toList.take (l.length*3)=bd l):HoldsK dw 3 w g 0 l.toArray:=by
 intro j hj;have hj':j<l.length*3:=by simpa using hj
 refine⟨?_,by simp[World.frozen?,hh]⟩;simp only[World.cell?,hh,Nat.zero_add,id];rw[getElem!_pos _ j hj];have e1:(flatK dw 3 l.toArray).toList[j]?=some (flatK dw 3 l.toArray)[j]:=by rw[Array.getElem?_toList,Array.getElem?_eq_getElem hj]
 rw[Eu,<-ht,List.getElem?_take,AS hj']at e1;simpa using e1
theorem Af(B:Nat)(v:Value)(l:List aj)(w:World)(h:w.ownsRow B 144 3 v l.length (bd l))(hn:0<l.length)(hsz:l.length<1000000):
  Calls aa.prog 65 #[v,.func (.func 66) #[] #[]] w λe w'=>e=.returned (.tuple #[])/\∃l':List aj,l'.Perm l/\l'.Pairwise (λa b=>aP b a=false)/\w'.ownsRow B 144 3 v l'.length (bd l')/\w.grownBy w' v.ownBlock:=by
 obtain⟨h1,h2⟩:=h;rcases h2 with⟨_,h2⟩|⟨g,cap,cur,rfl,hg,hh,hnc,hc,hs,ht⟩
 ·omega
 have hglt:g<w.heap.size:=(Array.getElem?_eq_some_iff.1 hh).1;have hH:HoldsK dw 3 w g 0 l.toArray:=IP hh ht;refine (K5 g 0 cap l.toArray w hH hglt (by simp;omega)).mono ?_;rintro e w' ⟨rfl,d',n,os,hp,hso,rfl⟩;refine⟨rfl,d'.toList,?_,?_,?_,?_⟩
 ·have:=hp.2.2;have e:=hp.1;simp only[List.size_toArray]at e this;rw[Array.extract_eq_self_of_le (by omega),Array.extract_eq_self_of_le (by simp)]at this;simpa using this
 ·rw[List.pairwise_iff_getElem];intro i j hi hj hij
  have:=hso i j (by omega) hij (by have:=hp.1;simp at this hj ⊢;omega);rw[getElem!_pos d' j (by simpa using hj),getElem!_pos d' i (by simpa using hi)]at this;simpa using this
 ·have hsz':d'.size=l.length:=by simpa using hp.1
  have hb:(sortWorldK dw 3 w g 0 n d' os).heap[g]?=some (.cells (putCells id 0 (flatK dw 3 d') cur) 144 (0,0)):=by
   unfold sortWorldK;rw[heap_grow_old _ _ (by simpa[putRowK,putRow,mapBlock,Sort.ahead] using hglt)];simp[putRowK,putRow,mapBlock,Sort.ahead,Array.getElem?_modify,hh,onCells]
  refine⟨by rw[yw],Or.inr ⟨g,cap,_,by simp[hsz'],hg,hb,by simp[hsz'];exact hnc,hc,by simp[putCells,hs],?_⟩⟩;have hf:bd d'.toList=(flatK dw 3 d').toList:=by rw[<-Eu]
  rw[hf];apply List.ext_getElem?;intro t;by_cases htl:t<l.length*3
  ·rw[List.getElem?_take,AS (by simp[hsz'];exact htl),Array.getElem?_toList,Array.getElem?_toList];have hF:t<(flatK dw 3 d').size:=by simp[hsz'];exact htl
   have hC:t<cur.size:=by rw[hs];have:=Nat.mul_le_mul_right 3 hnc;omega
   simp only[putCells,Array.getElem?_mapIdx,Array.getElem?_eq_getElem hC,Wa,Array.getElem?_eq_getElem hF];rw[AS ⟨by omega,by omega⟩];simp only[id,Nat.sub_zero];rw[getElem!_pos _ t hF]
  ·rw[List.getElem?_eq_none (by simp[hsz'];omega),List.getElem?_eq_none (by simp[hsz'];omega)]
 ·refine⟨rfl,rfl,rfl,by simp[sortWorldK,putRowK,putRow,mapBlock,Sort.ahead],λk hk hne=>?_⟩;unfold sortWorldK;rw[heap_grow_old _ _ (by simp[putRowK,putRow,mapBlock,Sort.ahead];omega)];simp only[putRowK,putRow,mapBlock,Sort.ahead,Array.getElem?_modify];rw[AI (λe=>hne (by subst e;rfl))]
end
end Go.Proofs.YtldmcdeibiclkaaGreatDoorQ
namespace Go.Proofs.YtldmcdeibiclkaaGreatDoorQ
open Go.RowKit
def bump(c:Ctx)(r:Nat):Ctx:=λi=>if i=r then c i+1 else c i
theorem To(c:Ctx)(sv:Value)(l:List aj)(rep:Nat)(val:ByteArray)(seen:Ctx)(w:World)(h:az w sv l)(hr:∀v∈l,v.rep<4)(hlen:l.length<=100000)(ct:rep<4)(hn:20<=(aT l seen).length\/(aT l seen).length<20/\1000000<=aU c seen rep):
  Calls aa.prog 40 #[bD c sv,.int .i64 rep,.string val,cU seen] w λe w'=>e=.returned (.tuple #[bD (λ_=>0) (.slice none 0 0),.int .i64 6])/\Below w.heap.size w w':=by
 obtain⟨ad,cap,rfl,hcap⟩:=h.len;have H3:Hid (∀a b d,az (((w.alloc a).alloc b).alloc d) (.slice ad l.length cap) l):=λa b d=>((VD h a).alloc b).alloc d;have HR:Hid _:=hr;clear h hr;generalize hun:aT l seen=U at*;have HU:Hid _:=hun;clear hun;rcases hn with hn|⟨hn,hm⟩
 ·rcases fc ct with rfl|rfl|rfl|rfl
  all_goals
   go_enter aa.func40,aa.ntmps40;go_wp2_with (first
    |(go_at_call 63;refine (pD c _ l seen _ (H3.out _ _ _) HR.out hlen).mono ?_;rintro e w1 ⟨v',rfl,aD,hb⟩;rw[HU.out]at aD;obtain⟨ad',cap',hv'⟩:=nS aD;subst hv';simp at hb;obtain⟨b0,b1,b2,f0,f1,f2⟩:=l8 hb;have HO:Hid _:=aD;have HB:Hid _:=hb;clear aD hb)
    |(go_at_call 64;refine (rn c seen _).mono ?_;rintro e w2 ⟨rfl,hb2⟩;have hb3:=HB.out.trans (hb2.mono (by have:=HB.out.size;simp at this;omega));obtain⟨b0,b1,b2,f0,f1,f2⟩:=l8 hb3;have HB3:Hid _:=hb3;have HB2:Hid _:=hb2;have z2:w.heap.size+1+1<w2.heap.size:=(by have:=hb3.size;simp at this;omega);clear hb3 hb2))
   refine V9 (v:=.tuple #[bD (λ_=>0) (.slice none 0 0),.int .i64 6]) ?_ rfl ⟨rfl,?_⟩
   ·simp[results,aa.results40,go_sem,b2,z2]
   ·have base:Below w.heap.size w w2:=((((AT _ _).alloc (eR _) _).alloc (by simp) _).alloc (by simp;omega) _).trans (HB3.out.mono (by omega));repeat' (with_reducible (first|exact base|refine VI ?_ ?_ _|refine Vw ?_ ?_ _))
    all_goals (first|omega|(simp;omega))
 ·rcases fc ct with rfl|rfl|rfl|rfl
  all_goals
   go_enter aa.func40,aa.ntmps40;go_wp2_with (first
    |(go_at_call 63;refine (pD c _ l seen _ (H3.out _ _ _) HR.out hlen).mono ?_;rintro e w1 ⟨v',rfl,aD,hb⟩;rw[HU.out]at aD;obtain⟨ad',cap',hv'⟩:=nS aD;subst hv';simp at hb;obtain⟨b0,b1,b2,f0,f1,f2⟩:=l8 hb;have HO:Hid _:=aD;have HB:Hid _:=hb;clear aD hb)
    |(go_at_call 64;refine (rn c seen _).mono ?_;rintro e w2 ⟨rfl,hb2⟩;have hb3:=HB.out.trans (hb2.mono (by have:=HB.out.size;simp at this;omega));obtain⟨b0,b1,b2,f0,f1,f2⟩:=l8 hb3;have HB3:Hid _:=hb3;have HB2:Hid _:=hb2;have z2:w.heap.size+1+1<w2.heap.size:=(by have:=hb3.size;simp at this;omega);clear hb3 hb2))
   refine V9 (v:=.tuple #[bD (λ_=>0) (.slice none 0 0),.int .i64 6]) ?_ rfl ⟨rfl,?_⟩
   ·simp[results,aa.results40,go_sem,b2,z2]
   ·have base:Below w.heap.size w w2:=((((AT _ _).alloc (eR _) _).alloc (by simp) _).alloc (by simp;omega) _).trans (HB3.out.mono (by omega));repeat' (with_reducible (first|exact base|refine VI ?_ ?_ _|refine Vw ?_ ?_ _))
    all_goals (first|omega|(simp;omega))
end Go.Proofs.YtldmcdeibiclkaaGreatDoorQ
section
namespace Go.Proofs
open Go.Shelf Go.RowKit
namespace YtldmcdeibiclkaaGreatDoorQ
theorem G8(s:ByteArray)(w:World)(hs:s.size<=281474976710656):
  Calls aa.prog 67 #[.string s] w λe w'=>e=.returned (.string s)/\Below w.heap.size w w':=
 Any.stringslite_Clone aa.LF s w hs
theorem rq(s:ByteArray)(w:World)(hs:s.size<=281474976710656):
  Calls aa.prog 41 #[.string s] w λe w'=>e=.returned (.string s)/\Below w.heap.size w w':=by
 go_enter aa.func41,aa.ntmps41;go_wp2_with (go_at_call 67;refine (G8 s _ hs).mono ?_;rintro e w' ⟨rfl,hb⟩)
 go_ret;exact⟨rfl,hb⟩
end YtldmcdeibiclkaaGreatDoorQ
end Go.Proofs
end
