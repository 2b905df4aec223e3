/-
  Toward converged_holds: Contract: slices.BinarySearchFunc over versions that stand by rising dots.
-/
import Derived.Test.YtldmcdeibiclkaaGreatDoorC22
import Derived.Lib.MinMaxS
import Derived.Test.YtldmcdeibiclkaaGreatDoorC16
set_option linter.unusedVariables false
set_option linter.unusedSimpArgs false
set_option maxRecDepth 100000
set_option maxHeartbeats 20000000
namespace Go.Proofs.YtldmcdeibiclkaaGreatDoorQ
variable {w W:World}{c1 c2:Ctx}{sv1 sv2 v:Value}{L l:List aj}
open Go.RowKit
theorem Qz(a b:aj):gy a b<0↔aP a b=true:=by
 simp only[gy,jZ,gh,aP,VN];split<;>split<;>(try split)<;>omega
theorem AM(a b:aj):gy a b=0↔a.rep=b.rep/\a.n=b.n:=by
 simp only[gy,jZ,gh];split<;>split<;>(try split)<;>omega
theorem nF(a b:aj):aP a b=true↔a.1<b.1\/a.1=b.1/\a.2.1<b.2.1:=by simp[aP]
def yn(l:List aj)(v:aj)(w:World)(e:Ending)(w':World):Prop:=∃(i:Nat) (found:Bool),e=.returned (.tuple #[.int .i64 i,.bool found])/\(found=true->∃h:i<l.length,l[i].rep=v.rep/\l[i].n=v.n)/\(found=false->∀u∈l,¬(u.rep=v.rep/\u.n=v.n))/\Below w.heap.size w w'
theorem Ps(sv:Value)(l:List aj)(v:aj)(w:World)(h:az w sv l)(hs:l.Pairwise λa b=>aP a b=true)(hl:l.length<=100000):
  Calls aa.prog 141 #[sv,.agg #[.int .i64 v.rep,.int .i64 v.n,.string v.val],.func (.func 66) #[] #[]] w λe w'=>yn l v w e w':=by
 obtain⟨ad,cap,rfl,hcap⟩:=h.len;have HB1:Hid (Below w.heap.size w (w.alloc (.cells #[.int .i64 v.rep,.int .i64 v.n,.string v.val] 144))):=(AT _ _).alloc (eR _) _;have HC1:Hid ((w.alloc (.cells #[.int .i64 v.rep,.int .i64 v.n,.string v.val] 144)).heap[w.heap.size]?=some (.cells #[.int .i64 v.rep,.int .i64 v.n,.string v.val] 144)):=BY w _;have HV:Hid (az w (.slice ad l.length cap) l):=h;have HS:Hid (l.Pairwise λa b=>aP a b=true):=hs;have HBy:Hid (∀(u:aj) W,Calls aa.prog 66 #[.agg #[.int .i64 u.rep,.int .i64 u.n,.string u.val],.agg #[.int .i64 v.rep,.int .i64 v.n,.string v.val]] W λe w'=>e=.returned (.int .i64 (gy u v))/\Below W.heap.size W w'):=λu W=>by
  refine (wR u.rep u.n v.rep v.n u.val v.val W).mono ?_;rintro e w' ⟨rfl,q,os',rfl⟩;exact⟨rfl,Ag W q os'⟩
 have HI0:Hid (∀(j:Nat) (h:j<l.length),j<0->aP l[j] v=true):=(show ∀(j:Nat) (h:j<l.length),j<0->aP l[j] v=true from λj h h0=>by omega)
 clear h hs;go_enter aa.func141,aa.ntmps141;go_wp2;go_loopw [9,10] (λiv jv wr=>∃(i j:Nat),i<=j/\j<=l.length/\iv=.int .i64 i/\jv=.int .i64 j/\Hid (∀(q:Nat) (h:q<l.length),q<i->aP l[q] v=true)/\Hid (∀(q:Nat) (h:q<l.length),j<=q->aP l[q] v=false)/\Hid (wr.heap[w.heap.size]?=some (.cells #[.int .i64 v.rep,.int .i64 v.n,.string v.val] 144))/\Hid (Below w.heap.size w wr)) (λiv jv _=>((intOf jv).toNat-(intOf iv).toNat))
 case atStart=>exact⟨0,l.length,by omega,by omega,rfl,rfl,HI0.out,(show ∀(q:Nat) (h:q<l.length),l.length<=q->aP l[q] v=false from λq h h'=>by omega),HC1.out,HB1.out⟩
 case round=>
  obtain⟨i,j,hij,hjl,rfl,rfl,HLo,HHi,HC,HB⟩:=hrel;clear HC1 HB1 HI0;by_cases hlt:i<j
  ·have a1:(i:Int)<(j:Int):=by omega
   obtain⟨m,hm⟩: ∃m:Nat,m=(i+j) / 2:=⟨_,rfl⟩
   have hmi:i<=m/\m<j:=by omega
   have s1:(i:Int)+(j:Int)<=9223372036854775807:=by omega
   have s0:(0:Int)<=(i:Int)+(j:Int):=by omega
   go_upto_region 5 with fail;have hmI:((i:Int)+(j:Int)) / 2=(m:Int):=by omega
   have hml:m<l.length:=by omega
   obtain⟨g,cap',hsv',hg,_,_,d0,d1,d2⟩:=az.cells (az.below HV.out HB.out) hml;cases hsv';obtain⟨q,_⟩:=au HC.out;have q0:=q 0;have q1:=q 1;have q2:=q 2;simp at q0 q1 q2;have HByk:Hid (Calls aa.prog 66 #[.agg #[.int .i64 l[m].rep,.int .i64 l[m].n,.string l[m].val],.agg #[.int .i64 v.rep,.int .i64 v.n,.string v.val]] wr.drew λe w'=>e=.returned (.int .i64 (gy l[m] v))/\Below wr.heap.size wr w'):=(HBy.out l[m] wr.drew).mono λe w' ⟨he,hb⟩=>⟨he,bf (AT _ _).drew hb⟩
   have hneg:=Qz l[m] v;have HLm:Hid (aP l[m] v=true->∀(q:Nat) (h:q<l.length),q<m+1->aP l[q] v=true):=(show aP l[m] v=true->∀(q:Nat) (h:q<l.length),q<m+1->aP l[q] v=true from λhm q hq hq1=>by
    by_cases e:q=m
    ·subst e;exact hm
    ·have h1:=List.pairwise_iff_getElem.1 HS.out q m hq hml (by omega);rw[nF] at*;omega)
   have HHm:Hid (aP l[m] v=false->∀(q:Nat) (h:q<l.length),m<=q->aP l[q] v=false):=(show aP l[m] v=false->∀(q:Nat) (h:q<l.length),m<=q->aP l[q] v=false from λhm q hq hq1=>by
    by_cases e:q=m
    ·subst e;exact hm
    ·have h1:=List.pairwise_iff_getElem.1 HS.out m q hml hq (by omega);have h2: ¬aP l[m] v=true:=by rw[hm];decide
     cases hx:aP l[q] v with
     |false=>rfl
     |true=>
      exfalso;apply h2;rw[nF] at*;omega)
   generalize gy l[m] v=z at*;generalize l[m].rep=rm at*;generalize l[m].n=nm at*;generalize l[m].val=tm at*;generalize aP l[m] v=bm at*;clear q;have m0:(0:Int)<=(m:Int):=by omega
   have m1:(m:Int)<(l.length:Int):=by omega
   have hmk:Hid (∀w',Below wr.heap.size wr w'->w'.cell? ⟨g,m*3,none⟩=some (.int .i64 rm)/\w'.cell? ⟨g,m*3+1,none⟩=some (.int .i64 nm)/\w'.cell? ⟨g,m*3+2,none⟩=some (.string tm)/\w'.cell? ⟨w.heap.size,0,none⟩=some (.int .i64 v.rep)/\w'.cell? ⟨w.heap.size,1,none⟩=some (.int .i64 v.n)/\w'.cell? ⟨w.heap.size,2,none⟩=some (.string v.val)):=λw' hw=>⟨bp d0 hw,bp d1 hw,bp d2 hw,bp q0 hw,bp q1 hw,bp q2 hw⟩
   have hszw:=HB.out.size;rw[hmI];have Hneg:Hid (z<0↔bm=true):=hneg;have Hmi:Hid (i<=m/\m<j):=hmi;have Hil:Hid (i<j):=hlt;clear d0 d1 d2 q0 q1 q2 hm hmI hneg hmi s1 s0;go_region_held3 (λw'=>w'.cell? ⟨g,m*3,none⟩=some (.int .i64 rm)/\w'.cell? ⟨g,m*3+1,none⟩=some (.int .i64 nm)/\w'.cell? ⟨g,m*3+2,none⟩=some (.string tm)/\w'.cell? ⟨w.heap.size,0,none⟩=some (.int .i64 v.rep)/\w'.cell? ⟨w.heap.size,1,none⟩=some (.int .i64 v.n)/\w'.cell? ⟨w.heap.size,2,none⟩=some (.string v.val))
    ((refine hmk.out _ ?_;first|exact hb2|(simp (maxDischargeDepth:=12) [AT,No];done)))
    (first|(go_at_call 66;refine By HByk.out ?_;rintro e w2 ⟨rfl,hb2⟩))
   all_goals
    have hmi':=Hmi.out;by_cases hz:z<0
    ·have hbm:=Hneg.out.1 hz;have HLm':Hid (∀(q:Nat) (h:q<l.length),q<m+1->aP l[q] v=true):=HLm.out hbm;go_wp2;exact⟨⟨m+1,j,by omega,by omega,by go_num,rfl,HLm'.out,HHi.out,aS HC.out hb2,bf HB.out hb2⟩,by simp[intOf];omega⟩
    ·have hbm:bm=false:=by
      cases hx:bm with
      |false=>rfl
      |true=>exact absurd (Hneg.out.2 hx) hz
     have HHm':Hid (∀(q:Nat) (h:q<l.length),m<=q->aP l[q] v=false):=HHm.out hbm;go_wp2;exact⟨⟨i,m,by omega,by omega,rfl,rfl,HLo.out,HHm'.out,aS HC.out hb2,bf HB.out hb2⟩,by simp[intOf];omega⟩
  ·obtain rfl:i=j:=by omega
   have a1: ¬(i:Int)<(i:Int):=by omega
   by_cases hil:i<l.length
   ·obtain⟨g,cap',hsv',hg,_,_,d0,d1,d2⟩:=az.cells (az.below HV.out HB.out) hil;cases hsv';obtain⟨q,_⟩:=au HC.out;have q0:=q 0;have q1:=q 1;have q2:=q 2;simp at q0 q1 q2;have HByk:Hid (Calls aa.prog 66 #[.agg #[.int .i64 l[i].rep,.int .i64 l[i].n,.string l[i].val],.agg #[.int .i64 v.rep,.int .i64 v.n,.string v.val]] wr.drew λe w'=>e=.returned (.int .i64 (gy l[i] v))/\Below wr.heap.size wr w'):=(HBy.out l[i] wr.drew).mono λe w' ⟨he,hb⟩=>⟨he,bf (AT _ _).drew hb⟩
    have Hz:Hid ((gy l[i] v=0->∃h:i<l.length,l[i].rep=v.rep/\l[i].n=v.n)/\(¬gy l[i] v=0->∀u∈l,¬(u.rep=v.rep/\u.n=v.n))):=(show (gy l[i] v=0->∃h:i<l.length,l[i].rep=v.rep/\l[i].n=v.n)/\(¬gy l[i] v=0->∀u∈l,¬(u.rep=v.rep/\u.n=v.n)) from⟨λh=>⟨hil,(AM _ _).1 h⟩,λh u hu hd=>by
     obtain⟨q,hq,rfl⟩:=Xo hu;rcases Nat.lt_trichotomy q i with hqi|rfl|hqi
     ·have:=HLo.out q hq hqi;rw[nF]at this;simp only[aj.rep,aj.n]at hd;omega
     ·exact h ((AM _ _).2 hd)
     ·have h1:=List.pairwise_iff_getElem.1 HS.out i q hil hq hqi;have h2: ¬aP l[i] v=true:=by rw[HHi.out i hil (eR _)];decide
      apply h2;rw[nF] at*;simp only[aj.rep,aj.n]at hd;omega⟩)
    have i0:(0:Int)<=(i:Int):=by omega
    have i1:(i:Int)<(l.length:Int):=by omega
    generalize gy l[i] v=z at*;generalize l[i].rep=rm at HByk d0;generalize l[i].n=nm at HByk d1;generalize l[i].val=tm at HByk d2;clear q;have hmk:Hid (∀w',Below wr.heap.size wr w'->w'.cell? ⟨g,i*3,none⟩=some (.int .i64 rm)/\w'.cell? ⟨g,i*3+1,none⟩=some (.int .i64 nm)/\w'.cell? ⟨g,i*3+2,none⟩=some (.string tm)/\w'.cell? ⟨w.heap.size,0,none⟩=some (.int .i64 v.rep)/\w'.cell? ⟨w.heap.size,1,none⟩=some (.int .i64 v.n)/\w'.cell? ⟨w.heap.size,2,none⟩=some (.string v.val)):=λw' hw=>⟨bp d0 hw,bp d1 hw,bp d2 hw,bp q0 hw,bp q1 hw,bp q2 hw⟩
    have hszw:=HB.out.size;go_upto_region 8 with fail;clear d0 d1 d2 q0 q1 q2;go_region_held3 (λw'=>w'.cell? ⟨g,i*3,none⟩=some (.int .i64 rm)/\w'.cell? ⟨g,i*3+1,none⟩=some (.int .i64 nm)/\w'.cell? ⟨g,i*3+2,none⟩=some (.string tm)/\w'.cell? ⟨w.heap.size,0,none⟩=some (.int .i64 v.rep)/\w'.cell? ⟨w.heap.size,1,none⟩=some (.int .i64 v.n)/\w'.cell? ⟨w.heap.size,2,none⟩=some (.string v.val))
     ((refine hmk.out _ ?_;first|exact hb2|(simp (maxDischargeDepth:=12) [AT,No];done)))
     (first|(go_at_call 66;refine By HByk.out ?_;rintro e w2 ⟨rfl,hb2⟩))
    all_goals
     go_wp2;go_ret2;exact⟨i,z==0,rfl,λh=>Hz.out.1 (by simpa using h),λh=>Hz.out.2 (by simpa using h),bf HB.out hb2⟩
   ·have i1: ¬(i:Int)<(l.length:Int):=by omega
    have HNf:Hid (∀u∈l,¬(u.rep=v.rep/\u.n=v.n)):=(show ∀u∈l,¬(u.rep=v.rep/\u.n=v.n) from λu hu hd=>by
     obtain⟨q,hq,rfl⟩:=Xo hu
     have:=HLo.out q hq (by omega);rw[nF]at this;simp only[aj.rep,aj.n]at hd;omega)
    go_upto_region 8 with fail;go_quiet (fail);go_wp2;go_ret2;exact⟨i,false,rfl,(λh=>by cases h),λ_=>HNf.out,Wq HB.out _⟩
def mo(l:List aj)(v:aj):Option aj:=l.find? λu=>decide (u.rep=v.rep/\u.n=v.n)
def df(c:Ctx)(l:List aj)(v:aj):Option aj:=match mo l v with
 |some u=>some (v.rep,v.n,Go.Lib.minS v.val u.val)
 |none=>if gE c v then none else some v
def jy(c1:Ctx)(l1:List aj)(c2:Ctx)(l2:List aj):List aj:=aT l2 c1++l1.filterMap (df c2 l2)
theorem FZ(hs:l.Pairwise λa b=>aP a b=true){v:aj}{i:Nat}(hi:i<l.length)(h:l[i].rep=v.rep/\l[i].n=v.n):mo l v=some l[i]:=by
 cases hf:mo l v with
 |none=>
  have:=List.find?_eq_none.1 hf l[i] (VB hi);simp[h]at this
 |some u=>
  have hu:=List.find?_some hf;have hm:=List.mem_of_find?_eq_some hf;simp only[VN]at hu;obtain⟨j,hj,rfl⟩:=Xo hm;congr 1;rcases Nat.lt_trichotomy j i with hji|rfl|hji
  ·have:=List.pairwise_iff_getElem.1 hs j i hj hi hji;rw[nF]at this;simp only[aj.rep,aj.n] at*;omega
  ·rfl
  ·have:=List.pairwise_iff_getElem.1 hs i j hi hj hji;rw[nF]at this;simp only[aj.rep,aj.n] at*;omega
theorem Bl{v:aj}(h:∀u∈l,¬(u.rep=v.rep/\u.n=v.n)):mo l v=none:=by
 rw[mo,List.find?_eq_none];intro u hu;simpa using h u hu
structure dV(w:World)(c1:Ctx)(sv1:Value)(c2:Ctx)(sv2:Value)(W:World)(v:Value)(L:List aj):Prop where
 b1:W.heap[w.heap.size]?=some (.cells #[.int .i64 (c1 0),.int .i64 (c1 1),.int .i64 (c1 2),.int .i64 (c1 3),sv1] 106)
 b2:W.heap[w.heap.size+1]?=some (.cells #[.int .i64 (c2 0),.int .i64 (c2 1),.int .i64 (c2 2),.int .i64 (c2 3),sv2] 106)
 b3:W.heap[w.heap.size+2]?=some (.cells #[.int .i64 0,.int .i64 0,.int .i64 0,.int .i64 0,.slice none 0 0] 106)
 row:W.ownsRow w.heap.size 144 3 v L.length (bd L)
 bj:Below w.heap.size w W
theorem dV.below{W':World}(h:dV w c1 sv1 c2 sv2 W v L)(hb:Below W.heap.size W W'):dV w c1 sv1 c2 sv2 W' v L:=
 ⟨aS h.b1 hb,aS h.b2 hb,aS h.b3 hb,dS h.row hb (eR _),bf h.bj hb⟩
theorem dV.set(h:dV w c1 sv1 c2 sv2 W v L){bv:Nat}(hb:w.heap.size+2<bv)(hv:∀q,v.ownBlock=some q->q<bv)(o:Nat)(x:Value):dV w c1 sv1 c2 sv2 (W.setCell ⟨bv,o,none⟩ x) v L:=by
 refine⟨?_,?_,?_,tf h.row λq _ hq=>VC _ _ _ _ (λe=>by have:=hv q hq;simp only at e;omega),h.bj.setCell (show w.heap.size<=bv by omega) _⟩
 ·rw[VC _ _ _ _ (by show _≠bv;omega)];exact h.b1
 ·rw[VC _ _ _ _ (by show _≠bv;omega)];exact h.b2
 ·rw[VC _ _ _ _ (by show _≠bv;omega)];exact h.b3
theorem dV.app{X:World}{v':Value}{x:aj}{o:Obj}(h:dV w c1 sv1 c2 sv2 X v L)(hg:bq (X.alloc o) W v v')(hr:W.ownsRow w.heap.size 144 3 v' (L.length+1) (bd L++dw x)):dV w c1 sv1 c2 sv2 W v' (L++ [x]):=by
 have ha:=h.below ((AT _ _).alloc (eR _) o);refine⟨hg.other ha.row ha.b1 (by decide),hg.other ha.row ha.b2 (by decide),hg.other ha.row ha.b3 (by decide),?_,hg.toBelow ha.bj ha.bj.size ha.row⟩;rw[VF,qO];simpa[bd] using hr
theorem Lh(ad:Option Addr)(cap:Nat)(w:World):
  Calls aa.prog 107 #[.slice ad 0 cap,.int .i64 0,.int .i64 0,.func (.func 66) #[] #[]] w λe w'=>e=.returned (.tuple #[])/\w'=w:=by
 go_enter aa.func107,aa.ntmps107;go_wp2;go_loopw [8] (λi wr=>i=.int .i64 1/\wr=w) (λ_ _=>1)
 case atStart=>exact⟨rfl,rfl⟩
 case round=>
  obtain⟨rfl,hw⟩:=hrel;subst hw;go_wp2;go_end0;exact⟨rfl,rfl⟩
theorem Mg(ad:Option Addr)(cap:Nat)(w:World)(hc:(cap:Int)<=9223372036854775807):
  Calls aa.prog 65 #[.slice ad 0 cap,.func (.func 66) #[] #[]] w λe w'=>e=.returned (.tuple #[])/\Below w.heap.size w w':=by
 go_enter aa.func65,aa.ntmps65;go_wp2;go_loopw [1,2] (λa b wr=>a=.int .i64 0/\b=.int .i64 0/\wr=w) (λ_ _ _=>1)
 case atStart=>exact⟨rfl,rfl,rfl⟩
 case round=>
  obtain⟨rfl,rfl,hw⟩:=hrel;subst hw;have HI:Hid _:=Lh ad cap wr;go_wp2_with (go_at_call 107;refine By HI.out ?_;rintro e w' ⟨rfl,hw'⟩;subst w')
  first|go_end0|refine V9 (results_none rfl _ _ _) rfl ?_
  go_wp2;first|go_end0|refine V9 (results_none rfl _ _ _) rfl ?_
  exact⟨rfl,AT _ _⟩
theorem dV.sort(h:dV w c1 sv1 c2 sv2 W v L)(hL:L.length<=20000):
  Calls aa.prog 65 #[v,.func (.func 66) #[] #[]] W λe w'=>e=.returned (.tuple #[])/\∃l':List aj,l'.Perm L/\l'.Pairwise (λa b=>aP b a=false)/\dV w c1 sv1 c2 sv2 w' v l':=by
 by_cases h0:L= []
 ·subst h0;obtain⟨ad,cap,rfl,hc,_⟩:=jE h.row;exact (Mg ad cap W hc).mono λe w' ⟨he,hb⟩=>⟨he,[],List.Perm.refl _,List.Pairwise.nil,h.below hb⟩
 ·refine (Af w.heap.size v L W h.row (List.length_pos_iff.2 h0) (by omega)).mono ?_;rintro e w' ⟨rfl,l',hp,hs,aD,hgr⟩;exact⟨rfl,l',hp,hs,lx hgr h.row h.b1 (by decide),lx hgr h.row h.b2 (by decide),lx hgr h.row h.b3 (by decide),aD,h.bj.grown hgr h.bj.size λq hq=>oZ h.row hq⟩
theorem Qt(c1:Ctx)(sv1:Value)(l1:List aj)(c2:Ctx)(sv2:Value)(l2:List aj)(w:World)(h1:az w sv1 l1)(h2:az w sv2 l2)(hr1:∀v∈l1,v.rep<4)(hr2:∀v∈l2,v.rep<4)(hs2:l2.Pairwise λa b=>aP a b=true)(hl1:l1.length<=10000)(hl2:l2.length<=10000):
  Calls aa.prog 106 #[bD c1 sv1,bD c2 sv2] w λe w'=>∃v' l',e=.returned (bD (aU c1 c2) v')/\l'.Perm (jy c1 l1 c2 l2)/\l'.Pairwise (λa b=>aP b a=false)/\w'.ownsRow w.heap.size 144 3 v' l'.length (bd l')/\Below w.heap.size w w':=by
 obtain⟨i0,hi0,hz0,hz1,hz2⟩:=VH aa.td;obtain⟨ad1,cap1,rfl,hcap1⟩:=h1.len;obtain⟨ad2,cap2,rfl,hcap2⟩:=h2.len;obtain⟨W0,hW0⟩: ∃W,W=((w.alloc (.cells #[.int .i64 (c1 0),.int .i64 (c1 1),.int .i64 (c1 2),.int .i64 (c1 3),.slice ad1 l1.length cap1] 106)).alloc (.cells #[.int .i64 (c2 0),.int .i64 (c2 1),.int .i64 (c2 2),.int .i64 (c2 3),.slice ad2 l2.length cap2] 106)).alloc (.cells #[.int .i64 0,.int .i64 0,.int .i64 0,.int .i64 0,.slice none 0 0] 106):=⟨_,rfl⟩
 have hb0:Below w.heap.size w W0:=by rw[hW0];exact (((AT _ _).alloc (eR _) _).alloc (by simp) _).alloc (by simp;omega) _
 have hJ0:dV w c1 (.slice ad1 l1.length cap1) c2 (.slice ad2 l2.length cap2) W0 (.slice none 0 0) []:=by
  refine⟨?_,?_,?_,Ww _ _ _ _,hb0⟩
  ·rw[hW0,Vx _ _ _ (by simp;omega),Vx _ _ _ (by simp)];exact BY w _
  ·rw[hW0,Vx _ _ _ (by simp)];exact kP w _ _
  ·rw[hW0];exact re w _ _ _
 have HU:Hid (Calls aa.prog 63 #[bD c2 (.slice ad2 l2.length cap2),cU c1] W0 λe w'=>∃v',e=.returned v'/\dV w c1 (.slice ad1 l1.length cap1) c2 (.slice ad2 l2.length cap2) w' v' (aT l2 c1)):=by
  refine (pD c2 _ l2 c1 W0 (az.below h2 hb0) hr2 (by omega)).mono ?_;rintro e w' ⟨v',rfl,aD,hb⟩;have hj:=hJ0.below hb;exact⟨v',rfl,hj.b1,hj.b2,hj.b3,eE aD hb0.size,hj.bj⟩
 have HV1:Hid (az w (.slice ad1 l1.length cap1) l1):=h1;have HV2:Hid (az w (.slice ad2 l2.length cap2) l2):=h2;have HR1:Hid (∀v∈l1,v.rep<4):=hr1;have HS2:Hid (l2.Pairwise λa b=>aP a b=true):=hs2;clear h1 h2 hr1 hr2 hs2 hJ0 hb0;go_enter aa.func106,aa.ntmps106;go_wp2_with (go_at_call 63;rw[<-hW0];refine By HU.out ?_;rintro e w1 ⟨v1,rfl,hj1⟩;have HJ1:Hid (dV w c1 (.slice ad1 l1.length cap1) c2 (.slice ad2 l2.length cap2) w1 v1 (aT l2 c1)):=hj1;obtain⟨x1,_⟩:=au hj1.b1;have y4:=x1 4;clear hj1 x1)
 clear HU hW0;go_loopw [5,17] (λo iv wr=>∃k:Nat,k<=l1.length/\iv=.int .i64 k/\Hid (dV w c1 (.slice ad1 l1.length cap1) c2 (.slice ad2 l2.length cap2) wr o (aT l2 c1++(l1.take k).filterMap (df c2 l2)))) (λ_ iv _=>l1.length-(intOf iv).toNat)
 case atStart=>exact⟨0,by omega,rfl,by rw[List.take_zero,List.filterMap_nil,Wz];exact HJ1.out⟩
 case round=>
  obtain⟨k,hk,rfl,HJ⟩:=hrel;clear HJ1;have hsw:=HJ.out.bj.size;by_cases hlt:k<l1.length
  ·obtain⟨g,cap',hsv',hg,_,_,d0,d1,d2⟩:=az.cells (az.below HV1.out HJ.out.bj) hlt;cases hsv';have k1:(k:Int)<(l1.length:Int):=by omega
   have k0:(0:Int)<=(k:Int):=by omega
   have hr4:=HR1.out _ (VB hlt);have HTk:Hid (aT l2 c1++(l1.take (k+1)).filterMap (df c2 l2)=(aT l2 c1++(l1.take k).filterMap (df c2 l2))++(df c2 l2 l1[k]).toList):=(show _=_ by
    rw[VO hlt,List.filterMap_append,WQ];rw[List.filterMap_cons,List.filterMap_nil];cases df c2 l2 l1[k]<;>rfl)
   have hLl:(aT l2 c1++(l1.take k).filterMap (df c2 l2)).length<=20000:=by
    have e1:(aT l2 c1).length<=l2.length:=List.length_filter_le _ _;have e2:=List.length_filterMap_le (df c2 l2) (l1.take k);have e3:=List.length_take_le k l1;rw[VF];omega
   have HBs:Hid (∀W,Below w.heap.size w W->Calls aa.prog 141 #[.slice ad2 l2.length cap2,.agg #[.int .i64 l1[k].rep,.int .i64 l1[k].n,.string l1[k].val],.func (.func 66) #[] #[]] W λe w'=>yn l2 l1[k] W e w'):=λW hW=>Ps _ l2 l1[k] W (az.below HV2.out hW) HS2.out (by omega);have HSn:Hid (∀W,Calls aa.prog 83 #[cU c2,.agg #[.int .i64 l1[k].rep,.int .i64 l1[k].n]] W λe w'=>e=.returned (.bool (gE c2 l1[k]))/\Below W.heap.size W w'):=λW=>uU c2 l1[k].rep l1[k].n W hr4;have HJo:Hid (∀v,v=l1[k]->df c2 l2 v=df c2 l2 l1[k]):=(show ∀v,v=l1[k]->df c2 l2 v=df c2 l2 l1[k] from λv hv=>by rw[hv])
   generalize aT l2 c1++(l1.take k).filterMap (df c2 l2)=L at*;generalize hvk:l1[k]=v at*;obtain⟨r,n,t⟩:=v;simp only[aj.rep,aj.n,aj.val] at*;obtain⟨W5,hW5⟩: ∃W,W=wr.alloc (.cells #[.int .i64 r,.int .i64 n,.string t] 144):=⟨_,rfl⟩
   have hB5:Below wr.heap.size wr W5:=by rw[hW5];exact (AT _ _).alloc (eR _) _
   have HJ5:Hid (dV w c1 (.slice (some ⟨g,0,none⟩) l1.length cap1) c2 (.slice ad2 l2.length cap2) W5 u5 L):=HJ.out.below hB5;have HV5:Hid (W5.heap[wr.heap.size]?=some (.cells #[.int .i64 r,.int .i64 n,.string t] 144)):=(by rw[hW5];exact BY wr _)
   have hu5:∀q,u5.ownBlock=some q->q<wr.heap.size:=λq hq=>uJ HJ.out.row hq;have x24:=(au (aS HJ.out.b2 ((AT wr.heap.size wr).alloc (eR _) (.cells #[.int .i64 r,.int .i64 n,.string t] 144)))).1 4;have HBs':Hid (Calls aa.prog 141 #[.slice ad2 l2.length cap2,.agg #[.int .i64 r,.int .i64 n,.string t],.func (.func 66) #[] #[]] W5 λe w'=>yn l2 (r,n,t) W5 e w'):=HBs.out W5 (bf HJ.out.bj hB5);clear HBs hB5;go_upto_region 6 with (go_at_call 141;rw[<-hW5];refine By HBs'.out ?_;rintro e w2 ⟨i,found,rfl,hf1,hf0,hb2⟩;have HF1:Hid (found=true->∃h:i<l2.length,l2[i].rep=r/\l2[i].n=n):=hf1;have HF0:Hid (found=false->∀u∈l2,¬(u.rep=r/\u.n=n)):=hf0;have HB2:Hid (Below W5.heap.size W5 w2):=hb2;clear hf1 hf0 hb2)
   have HJ2:Hid (dV w c1 (.slice (some ⟨g,0,none⟩) l1.length cap1) c2 (.slice ad2 l2.length cap2) w2 u5 L):=HJ5.out.below HB2.out;have HVv:Hid (w2.heap[wr.heap.size]?=some (.cells #[.int .i64 r,.int .i64 n,.string t] 144)):=aS HV5.out HB2.out;clear HJ5 HV5 HB2 hW5 HBs' x24 d0 d1 d2;obtain⟨z2,_⟩:=au HJ2.out.b2;obtain⟨vv,fv⟩:=au HVv.out;have z20:=z2 0;have z21:=z2 1;have z22:=z2 2;have z23:=z2 3;have z24:=z2 4;have hne1:w.heap.size+1<wr.heap.size:=(Array.getElem?_eq_some_iff.1 HJ.out.b2).1;have hne2: ¬w.heap.size+1=wr.heap.size:=by omega
   clear z2;cases found with
   |true=>
    obtain⟨hi,hd1,hd2⟩:=HF1.out rfl;have hJ1:df c2 l2 (r,n,t)=some (r,n,Go.Lib.minS t l2[i].val):=by
     rw[df,FZ HS2.out hi ⟨hd1,hd2⟩]
    obtain⟨g2,cap2',hsv2,hg2,_,_,_,_,d22w⟩:=az.cells HV2.out hi;cases hsv2;have d22:=(HJ2.out.bj.cell (p:=⟨g2,i*3+2,none⟩) hg2).trans d22w;have hmin:∀W,(Builtin.min_ #[9,9] 9 #[.string t,.string l2[i].val]).run aa.prog W=.ok (.string (Go.Lib.minS t l2[i].val)) W:=λW=>Go.Lib.run_min_strs W _ _ _ _;clear d22w;have i1:(i:Int)<(l2.length:Int):=by omega
    have i00:(0:Int)<=(i:Int):=by omega
    rw[HJo.out _ rfl]at HTk;clear HJo;generalize l2[i].val=tu at*;have hng2: ¬g2=wr.heap.size:=by omega
    generalize Go.Lib.minS t tu=tm at*;go_upto_region 7 with fail;go_region_law (fail)
    all_goals
     obtain⟨W3,hW3⟩: ∃W,W=(w2.setCell ⟨wr.heap.size,2,none⟩ (.string tm)).drew:=⟨_,rfl⟩
     rw[<-hW3];have hw3:w.heap.size+2<wr.heap.size:=(Array.getElem?_eq_some_iff.1 HJ.out.b3).1;have HJ3:Hid (dV w c1 (.slice (some ⟨g,0,none⟩) l1.length cap1) c2 (.slice (some ⟨g2,0,none⟩) l2.length cap2) W3 u5 L):=(by rw[hW3];exact (HJ2.out.set hw3 hu5 _ _).below (AT _ _).drew)
     have hV3:W3.heap[wr.heap.size]?=some (.cells #[.int .i64 r,.int .i64 n,.string tm] 144):=by
      rw[hW3];exact heap_set (w:=w2) (o:=2) (v:=.string tm) HVv.out
     obtain⟨v3,f3⟩:=au hV3;clear hW3 vv fv hV3 hmin d22;have HRa:Hid ((W3.alloc (.cells #[.int .i64 r,.int .i64 n,.string tm] 144)).ownsRow w.heap.size 144 3 u5 L.length (bd L)):=VD HJ3.out.row _;have hsz3:=HJ3.out.bj.size;go_wp2_with (at_builtin;refine jw _ rfl _ _ _ rfl w.heap.size 144 i0 _ 3 32 aa.underlying104 hi0 hz0 hz1 hz2 rfl (by omega) u5 _ _ rfl HRa.out ⟨W3.heap.size,0,none⟩ 1 1 _ rfl (by rfl) (VM (BY W3 _)) (by simp[Value.oneCell']) (by omega) (by unfold maxLen;omega) (by omega) (by simp;omega) ?_;intro g7 cap7 w7 hown7 hgr7;have HJ7:Hid (dV w c1 (.slice (some ⟨g,0,none⟩) l1.length cap1) c2 (.slice (some ⟨g2,0,none⟩) l2.length cap2) w7 (.slice (some ⟨g7,0,none⟩) (L.length+1) cap7) (L++ [(r,n,tm)])):=HJ3.out.app hgr7 hown7;clear hown7 hgr7)
     refine⟨⟨k+1,by omega,by go_num,?_⟩,by simp[intOf];omega⟩;rw[HTk.out,hJ1];exact HJ7.out
   |false=>
    have hno:=Bl (v:=(r,n,t)) (HF0.out rfl);have hJ1:df c2 l2 (r,n,t)=if gE c2 (r,n,t) then none else some (r,n,t):=by
     rw[df,hno]
    rw[HJo.out _ rfl]at HTk;clear HJo hno;generalize hsb:gE c2 (r,n,t)=sb at*;cases sb with
    |true=>
     go_wp2_with (go_at_call 83;refine (HSn.out _).mono ?_;rintro e w3 ⟨rfl,hb3⟩;have HB3:Hid (Below w2.heap.size w2 w3):=hb3;clear hb3)
     refine⟨⟨k+1,by omega,by go_num,?_⟩,by simp[intOf];omega⟩;rw[HTk.out,hJ1];simp only[IS,Option.toList_none,Wz];exact HJ2.out.below HB3.out
    |false=>
     go_wp2_with (first
      |(go_at_call 83;refine (HSn.out _).mono ?_;rintro e w3 ⟨rfl,hb3⟩;obtain⟨v3,f3⟩:=au (aS HVv.out hb3);have HJ3:Hid (dV w c1 (.slice (some ⟨g,0,none⟩) l1.length cap1) c2 (.slice ad2 l2.length cap2) w3 u5 L):=HJ2.out.below hb3;have HRa:Hid ((w3.alloc (.cells #[.int .i64 r,.int .i64 n,.string t] 144)).ownsRow w.heap.size 144 3 u5 L.length (bd L)):=VD (dS HJ2.out.row hb3 (eR _)) _;have hsz3:=(HJ2.out.below hb3).bj.size;clear hb3)
      |(at_builtin;refine jw _ rfl _ _ _ rfl w.heap.size 144 i0 _ 3 32 aa.underlying104 hi0 hz0 hz1 hz2 rfl (by omega) u5 _ _ rfl HRa.out ⟨w3.heap.size,0,none⟩ 1 1 _ rfl (by rfl) (VM (BY w3 _)) (by simp[Value.oneCell']) (by omega) (by unfold maxLen;omega) (by omega) (by simp;omega) ?_;intro g7 cap7 w7 hown7 hgr7;have HJ7:Hid (dV w c1 (.slice (some ⟨g,0,none⟩) l1.length cap1) c2 (.slice ad2 l2.length cap2) w7 (.slice (some ⟨g7,0,none⟩) (L.length+1) cap7) (L++ [(r,n,t)])):=HJ3.out.app hgr7 hown7;clear hown7 hgr7))
     refine⟨⟨k+1,by omega,by go_num,?_⟩,by simp[intOf];omega⟩;rw[HTk.out,hJ1];exact HJ7.out
  ·obtain rfl:k=l1.length:=by omega
   have hJ:=HJ.out;rw[VW]at hJ;obtain⟨adu,capu,rfl⟩:=gD hJ.row;have hLl:(aT l2 c1++l1.filterMap (df c2 l2)).length<=20000:=by
    have e1:(aT l2 c1).length<=l2.length:=List.length_filter_le _ _;have e2:=List.length_filterMap_le (df c2 l2) l1;rw[VF];omega
   have HSt:Hid (Calls aa.prog 65 #[.slice adu (aT l2 c1++l1.filterMap (df c2 l2)).length capu,.func (.func 66) #[] #[]] wr λe w'=>e=.returned (.tuple #[])/\∃l':List aj,l'.Perm (jy c1 l1 c2 l2)/\l'.Pairwise (λa b=>aP b a=false)/\dV w c1 (.slice ad1 l1.length cap1) c2 (.slice ad2 l2.length cap2) w' (.slice adu (aT l2 c1++l1.filterMap (df c2 l2)).length capu) l'):=hJ.sort hLl;have HGr:Hid (∀W,Calls aa.prog 64 #[cU c1,cU c2] W λe w'=>e=.returned (cU (aU c1 c2))/\Below W.heap.size W w'):=λW=>rn c1 c2 W;generalize (aT l2 c1++l1.filterMap (df c2 l2)).length=LN at*;clear hJ HJ HV1 HV2;go_wp2_with (first
    |(go_at_call 65;refine By HSt.out ?_;rintro e w4 ⟨rfl,l',hp,hs,hj4⟩;obtain⟨s1,_⟩:=au hj4.b1;obtain⟨s2,_⟩:=au hj4.b2;have HP:Hid (l'.Perm (jy c1 l1 c2 l2)):=hp;have HSo:Hid (l'.Pairwise λa b=>aP b a=false):=hs;have HJ4:Hid (dV w c1 (.slice ad1 l1.length cap1) c2 (.slice ad2 l2.length cap2) w4 (.slice adu LN capu) l'):=hj4;clear hp hs hj4)
    |(go_at_call 64;refine (HGr.out _).mono ?_;rintro e w6 ⟨rfl,hb6⟩;have HJ6:Hid (dV w c1 (.slice ad1 l1.length cap1) c2 (.slice ad2 l2.length cap2) w6 (.slice adu LN capu) l'):=HJ4.out.below hb6;obtain⟨r6,f6⟩:=au (show w6.heap[w.heap.size+1+1]?=some (.cells #[.int .i64 0,.int .i64 0,.int .i64 0,.int .i64 0,.slice none 0 0] 106) from (HJ4.out.below hb6).b3);clear hb6))
   have hb3:w6.heap[w.heap.size+1+1]?=some (.cells #[.int .i64 0,.int .i64 0,.int .i64 0,.int .i64 0,.slice none 0 0] 106):=HJ6.out.b3;refine V9 (v:=bD (aU c1 c2) (.slice adu LN capu)) ?_ rfl ⟨_,l',rfl,HP.out,HSo.out,?_,?_⟩
   ·simp[results,aa.results106,go_sem,r6]
   ·exact fX (fX (fX (fX (fX HJ6.out.row hb3 (by decide) _ _) (heap_set hb3) (by decide) _ _) (heap_set (heap_set hb3)) (by decide) _ _) (heap_set (heap_set (heap_set hb3))) (by decide) _ _) (heap_set (heap_set (heap_set (heap_set hb3)))) (by decide) _ _
   ·have hle:w.heap.size<=w.heap.size+1+1:=by omega
    exact ((((HJ6.out.bj.setCell hle _).setCell hle _).setCell hle _).setCell hle _).setCell hle _
end Go.Proofs.YtldmcdeibiclkaaGreatDoorQ
namespace Go.Proofs.YtldmcdeibiclkaaGreatDoorQ
variable {ws:List Wr}{k i j b:Nat}{kn kn' go' m:Nat->Bool}{c1 c2:Ctx}{l1 l2 l l':List aj}{v u:aj}{x:Wr}
def pw(ws:List Wr):Prop:=∀(i j:Nat) (x y:Wr),i<j->ws[i]?=some x->ws[j]?=some y->x.1=y.1->x.2.1=y.2.1->x.2.2.1<y.2.2.1
theorem yS{α:Type}{R S:α->α->Prop}(h:∀a b,R a b->S a b):∀{l:List α},l.Pairwise R->l.Pairwise S
 |[],_=>List.Pairwise.nil
 |_::_,hl=>List.pairwise_cons.2 ⟨λb hb=>h _ _ ((List.pairwise_cons.1 hl).1 b hb),yS h (List.pairwise_cons.1 hl).2⟩
theorem qi{go:Nat->Bool}{m:Nat}(h:v∈cJ ws kn go k b m): ∃j x,j<m/\ws[j]?=some x/\x.2.1=k/\x.1=b/\kn j=true/\go j=false/\v=(b,x.2.2.1,x.2.2.2):=by
 simp only[cJ,List.mem_flatMap,List.mem_range]at h;obtain⟨j,hj,hv⟩:=h;cases hx:ws[j]? with
 |none=>simp[hx]at hv
 |some x=>
  simp only[hx]at hv;by_cases hc:x.2.1=k/\x.1=b/\kn j=true/\go j=false
  ·rw[AS hc]at hv;exact⟨j,x,hj,hx,hc.1,hc.2.1,hc.2.2.1,hc.2.2.2,by simpa using hv⟩
  ·rw[AI hc]at hv;cases hv
theorem Bz(hN:pw ws)(kn go:Nat->Bool)(k b:Nat):∀m,(cJ ws kn go k b m).Pairwise λu v=>u.1=v.1/\u.2.1<v.2.1
 |0=>by simp[cJ]
 |m+1=>by
  have ih:=Bz hN kn go k b m;cases hx:ws[m]? with
  |none=>
   have:cJ ws kn go k b (m+1)=cJ ws kn go k b m:=by simp[cJ,Wn,WI,hx]
   rw[this];exact ih
  |some x=>
   by_cases h:x.2.1=k/\x.1=b/\kn m=true/\go m=false
   ·rw[yd hx h.1 h.2.1 h.2.2.1 h.2.2.2,List.pairwise_append];refine⟨ih,List.pairwise_singleton _ _,λu hu v hv=>?_⟩;obtain⟨j,y,hj,hy,y1,y2,_,_,rfl⟩:=qi hu;obtain rfl:v=(b,x.2.2.1,x.2.2.2):=by simpa using hv
    exact⟨rfl,hN j m y x hj hy hx (by rw[y2,h.2.1]) (by rw[y1,h.1])⟩
   ·rw[rW hx h];exact ih
theorem Cj(a b:aj):aP a b=true↔a.1<b.1\/a.1=b.1/\a.2.1<b.2.1:=by simp[aP]
theorem xL(hN:pw ws)(kn go:Nat->Bool)(k:Nat):(expected ws kn go k).Pairwise λu v=>aP u v=true:=by
 unfold expected;rw[List.pairwise_flatMap];refine⟨λb _=>yS (λ_ _ h=>(Cj _ _).2 (Or.inr h)) (Bz hN kn go k b ws.length),?_⟩;have hr:(List.range 4).Pairwise (· < ·):=List.pairwise_lt_range;refine yS (λb c hbc u hu v hv=>?_) hr;obtain⟨_,_,_,_,_,_,_,_,rfl⟩:=qi hu;obtain⟨_,_,_,_,_,_,_,_,rfl⟩:=qi hv;exact (Cj _ _).2 (Or.inl hbc)
theorem DR:∀(a b:List aj),a.Perm b->a.Pairwise (λu v=>aP v u=false)->b.Pairwise (λu v=>aP u v=true)->a=b
 |[],b,hp,_,_=>by rw[List.nil_perm.1 hp]
 |u::a,[],hp,_,_=>by simpa using hp.length_eq
 |u::a,v::b,hp,ha,hb=>by
  have hu:u∈v::b:=hp.subset (by simp);have hv:v∈u::a:=hp.symm.subset (by simp);have huv:u=v:=by
   rcases Xm.1 hu with h|h
   ·exact h
   ·rcases Xm.1 hv with h'|h'
    ·exact h'.symm
    ·have h1:=(List.pairwise_cons.1 hb).1 u h;have h2:=(List.pairwise_cons.1 ha).1 v h';rw[h1]at h2;cases h2
  subst huv;rw[DR a b (List.Perm.cons_inv hp) (List.pairwise_cons.1 ha).2 (List.pairwise_cons.1 hb).2]
theorem tJ{ws':List Wr}{go:Nat->Bool}{m:Nat}(hw:∀j,j<m->ws'[j]?=ws[j]?)(hk:∀j,j<m->((kn' j=true/\go' j=false)↔(kn j=true/\go j=false))):cJ ws' kn' go' k b m=cJ ws kn go k b m:=by
 unfold cJ;refine kA _ λj hj=>?_;have hj':=List.mem_range.1 hj;rw[hw j hj'];cases ws[j]? with
 |none=>rfl
 |some x=>
  simp only;have h:=hk j hj';by_cases h1:x.2.1=k/\x.1=b
  ·by_cases h2:kn j=true/\go j=false
   ·rw[AS ⟨h1.1,h1.2,(h.2 h2).1,(h.2 h2).2⟩,AS ⟨h1.1,h1.2,h2.1,h2.2⟩]
   ·rw[AI (λe=>h2 (h.1 ⟨e.2.2.1,e.2.2.2⟩)),AI (λe=>h2 ⟨e.2.2.1,e.2.2.2⟩)]
  ·rw[AI (λe=>h1 ⟨e.1,e.2.1⟩),AI (λe=>h1 ⟨e.1,e.2.1⟩)]
theorem four(f:Nat->List aj):(List.range 4).flatMap f=f 0++(f 1++(f 2++f 3)):=by
 simp[Wn]
theorem xM(a r:List aj)(x:aj):((a++ [x])++r).Perm ((a++r)++ [x]):=by
 rw[WQ,WQ];exact List.perm_append_comm.append_left _
theorem Qn{go:Nat->Bool}{n:Int}{val:ByteArray}(hi:i<4)(hk:∀j,j<ws.length->((kn' j=true/\go' j=false)↔(kn j=true/\go j=false)))(hk1:kn' ws.length=true)(hg1:go' ws.length=false):
  (expected (ws++ [(i,k,n,val)]) kn' go' k).Perm (expected ws kn go k++ [(i,n,val)]):=by
 have hw:∀j,j<ws.length->(ws++ [(i,k,n,val)])[j]?=ws[j]? :=λj hj=>List.getElem?_append_left hj;have hl:(ws++ [(i,k,n,val)])[ws.length]?=some (i,k,n,val):=by simp
 have hof:∀b,cJ (ws++ [(i,k,n,val)]) kn' go' k b (ws++ [(i,k,n,val)]).length=cJ ws kn go k b ws.length++(if i=b then [(b,n,val)] else []):=by
  intro b;rw[VF,WA];by_cases e:i=b
  ·rw[yd hl rfl e hk1 hg1,tJ hw hk,AS e]
  ·rw[rW hl (λh=>e h.2.1),tJ hw hk,AI e,Wz]
 unfold expected;rw[four,four,hof,hof,hof,hof];generalize cJ ws kn go k 0 ws.length=f0;generalize cJ ws kn go k 1 ws.length=f1;generalize cJ ws kn go k 2 ws.length=f2;generalize cJ ws kn go k 3 ws.length=f3;rcases fc hi with rfl|rfl|rfl|rfl
 ·rw[AS rfl,AI (by omega),AI (by omega),AI (by omega)];simp only[Wz];exact xM _ _ _
 ·rw[AI (by omega),AS rfl,AI (by omega),AI (by omega)];simp only[Wz];rw[WQ f0];exact (xM _ _ _).append_left _
 ·rw[AI (by omega),AI (by omega),AS rfl,AI (by omega)];simp only[Wz];rw[WQ f0,WQ f1];exact ((xM _ _ _).append_left _).append_left _
 ·rw[AI (by omega),AI (by omega),AI (by omega),AS rfl];simp only[Wz,WQ];exact List.Perm.refl _
theorem SR{go:Nat->Bool}{n:Int}{val:ByteArray}{c:Ctx}(hi:i<4)(hl:l=expected ws kn go k)(hm:∀(j:Nat) (x:Wr),ws[j]?=some x->x.2.1=k->(m j=true↔x.2.2.1<=c x.1))(hp:l'.Perm (aT l c++ [(i,n,val)]))(hs:l'.Pairwise λa b=>aP b a=false)(hN:pw (ws++ [(i,k,n,val)]))(bz:∀j,j<ws.length->kn' j=(kn j||m j))(hgo:∀j,j<ws.length->go' j=(go j||m j))(hk1:kn' ws.length=true)(hg1:go' ws.length=false):
  l'=expected (ws++ [(i,k,n,val)]) kn' go' k:=by
 rw[hl,vI hm]at hp;refine DR _ _ (hp.trans (Qn (kn:=kn) (go:=λj=>go j||m j) hi (λj hj=>?_) hk1 hg1).symm) hs (xL hN _ _ _);rw[bz j hj,hgo j hj];cases kn j<;>cases go j<;>cases m j<;>simp
theorem L8{go:Nat->Bool}{c:Ctx}(hm:∀(j:Nat) (x:Wr),ws[j]?=some x->x.2.1=k->(m j=true↔x.2.2.1<=c x.1))(bz:∀j,j<ws.length->kn' j=(kn j||m j))(hgo:∀j,j<ws.length->go' j=(go j||m j)):
  aT (expected ws kn go k) c=expected ws kn' go' k:=by
 rw[vI hm];unfold expected;refine kA _ λb _=>(tJ (λ_ _=>rfl) λj hj=>?_).symm;rw[bz j hj,hgo j hj];cases kn j<;>cases go j<;>cases m j<;>simp
def bu:List Wr->Nat->Nat->Int
 |[],_,_=>0
 |x::ws,b,k=>(if x.1=b/\x.2.1=k then 1 else 0)+bu ws b k
theorem oo(a c:List Wr)(b k:Nat):bu (a++c) b k=bu a b k+bu c b k:=by
 induction a with
 |nil=>simp[bu]
 |cons x a ih=>simp only[Ws,bu,ih];omega
theorem qD(a:List Wr)(b k:Nat):0<=bu a b k:=by
 induction a with
 |nil=>simp[bu]
 |cons x a ih=>simp only[bu];split<;>omega
theorem tG(a:List Wr)(b k:Nat):bu a b k<=a.length:=by
 induction a with
 |nil=>simp[bu]
 |cons x a ih=>simp only[bu,VL];split<;>omega
def jg(ws:List Wr):Prop:=∀(j:Nat) (x:Wr),ws[j]?=some x->x.2.2.1=bu (ws.take j) x.1 x.2.1+1
theorem zH(ws:List Wr)(b k:Nat)(h:i<=j):bu (ws.take i) b k<=bu (ws.take j) b k:=by
 obtain⟨d,rfl⟩:=Nat.exists_eq_add_of_le h;rw[List.take_add,oo]
 have:=qD ((ws.drop i).take d) b k;omega
theorem jg.num(h:jg ws):pw ws:=by
 intro i j x y hij hx hy h1 h2;have e1:=h i x hx;have e2:=h j y hy;have hi:i<ws.length:=(List.getElem?_eq_some_iff.1 hx).1;have hxi:ws[i]=x:=(List.getElem?_eq_some_iff.1 hx).2;have e3:bu (ws.take (i+1)) x.1 x.2.1=bu (ws.take i) x.1 x.2.1+1:=by
  rw[VO hi,oo,hxi];simp[bu]
 have e4:=zH ws x.1 x.2.1 (show i+1<=j from hij);rw[<-h1,<-h2]at e2;omega
theorem jg.snoc(h:jg ws)(i k:Nat)(val:ByteArray):jg (ws++ [(i,k,bu ws i k+1,val)]):=by
 intro j x hx;by_cases hj:j<ws.length
 ·rw[List.getElem?_append_left hj]at hx;rw[List.take_append_of_le_length (by omega)];exact h j x hx
 ·have hl:j=ws.length:=by
   have:=(List.getElem?_eq_some_iff.1 hx).1;simp at this;omega
  subst hl;obtain rfl:(i,k,bu ws i k+1,val)=x:=by simpa using hx
  simp
theorem jg.le(h:jg ws)(hx:ws[j]?=some x):1<=x.2.2.1/\x.2.2.1<=bu ws x.1 x.2.1:=by
 have e:=h j x hx;have hj:j<ws.length:=(List.getElem?_eq_some_iff.1 hx).1;have hxj:ws[j]=x:=(List.getElem?_eq_some_iff.1 hx).2;have e3:bu (ws.take (j+1)) x.1 x.2.1=bu (ws.take j) x.1 x.2.1+1:=by
  rw[VO hj,oo,hxj];simp[bu]
 have e4:=zH ws x.1 x.2.1 (show j+1<=ws.length from hj);rw[VW]at e4
 have:=qD (ws.take j) x.1 x.2.1;omega
def Good(ws:List Wr)(k:Nat)(c:Ctx)(kn:Nat->Bool):Prop:=
 (∀(j:Nat) (x:Wr),ws[j]?=some x->(kn j=true↔x.2.1=k/\x.2.2.1<=c x.1))/\(∀j,ws.length<=j->kn j=false)/\∀b,0<=c b/\c b<=bu ws b k
theorem Good.join{c d:Ctx}(h:Good ws k c kn)(h':Good ws k d m):Good ws k (aU c d) (λj=>kn j||m j):=by
 refine⟨λj x hx=>?_,λj hj=>?_,λb=>?_⟩
 ·have e1:=h.1 j x hx;have e2:=h'.1 j x hx;simp only[VU,aU];rw[e1,e2];constructor
  ·rintro (⟨a,b⟩|⟨a,b⟩)
   ·exact⟨a,by omega⟩
   ·exact⟨a,by omega⟩
  ·rintro⟨a,b⟩;by_cases q:x.2.2.1<=c x.1
   ·exact Or.inl ⟨a,q⟩
   ·exact Or.inr ⟨a,by omega⟩
 ·simp[h.2.1 j hj,h'.2.1 j hj]
 ·have e1:=h.2.2 b;have e2:=h'.2.2 b;simp only[aU];omega
theorem Good.other{c:Ctx}(h:Good ws k c kn)(i k':Nat)(val:ByteArray):Good (ws++ [(i,k',bu ws i k'+1,val)]) k c kn:=by
 refine⟨λj x hx=>?_,λj hj=>h.2.1 j (by simp at hj;omega),λb=>?_⟩
 ·by_cases hj:j<ws.length
  ·rw[List.getElem?_append_left hj]at hx;exact h.1 j x hx
  ·have hl:j=ws.length:=by
    have:=(List.getElem?_eq_some_iff.1 hx).1;simp at this;omega
   subst hl;obtain rfl:(i,k',bu ws i k'+1,val)=x:=by simpa using hx
   rw[h.2.1 _ (eR _)];simp only[Vz,false_iff,not_and];intro e;subst e
   have:=(h.2.2 i).2;omega
 ·have:=h.2.2 b;have e:=qD [(i,k',bu ws i k'+1,val)] b k;rw[oo];omega
theorem Good.put{c:Ctx}{val:ByteArray}(hS:jg ws)(h:Good ws k c kn)(hi:c i=bu ws i k)(h1:∀j,j<ws.length->kn' j=kn j)(h2:kn' ws.length=true)(h3:∀j,ws.length<j->kn' j=false):Good (ws++ [(i,k,bu ws i k+1,val)]) k (bump c i) kn':=by
 refine⟨λj x hx=>?_,λj hj=>h3 j (by simp at hj;omega),λb=>?_⟩
 ·by_cases hj:j<ws.length
  ·rw[List.getElem?_append_left hj]at hx;rw[h1 j hj,h.1 j x hx];refine and_congr_right λe=>?_;unfold bump;by_cases q:x.1=i
   ·rw[AS q,q,hi];have hle:=(hS.le hx).2;rw[q,e]at hle;constructor<;>intro<;>omega
   ·rw[AI q]
  ·have hl:j=ws.length:=by
    have:=(List.getElem?_eq_some_iff.1 hx).1;simp at this;omega
   subst hl;obtain rfl:(i,k,bu ws i k+1,val)=x:=by simpa using hx
   rw[h2];simp[bump,hi]
 ·have:=h.2.2 b;rw[oo];unfold bump;by_cases q:b=i
  ·subst q;rw[AS rfl];simp[bu];omega
  ·rw[AI q];have e:=qD [(i,k,bu ws i k+1,val)] b k;omega
structure fR(c:Ctx)(l:List aj):Prop where
 ctx:∀i,i<4->0<=c i/\c i<=1000000
 iS:∀v∈l,v.rep<4/\1<=v.n/\v.val.size<=12/\v.n<=c v.rep
 sorted:l.Pairwise λa b=>aP a b=true
theorem ku(a b:aj):aP a b=true↔a.1<b.1\/a.1=b.1/\a.2.1<b.2.1:=by simp[aP]
theorem vl:∀{a b:List aj},a.Pairwise (λu v=>aP u v=true)->b.Pairwise (λu v=>aP u v=true)->(∀v,v∈a↔v∈b)->a=b
 |[],[],_,_,_=>rfl
 |[],y::b,_,_,h=>by have:=(h y).2 (by simp);cases this
 |x::a,[],_,_,h=>by have:=(h x).1 (by simp);cases this
 |x::a,y::b,ha,hb,h=>by
  have ha':=List.pairwise_cons.1 ha;have hb':=List.pairwise_cons.1 hb;have e:x=y:=by
   rcases Xm.1 ((h x).1 (by simp)) with e|hx
   ·exact e
   ·rcases Xm.1 ((h y).2 (by simp)) with e|hy
    ·exact e.symm
    ·have h1:=(ku _ _).1 (ha'.1 y hy);have h2:=(ku _ _).1 (hb'.1 x hx);omega
  subst e;congr 1;refine vl ha'.2 hb'.2 λv=>⟨λhv=>?_,λhv=>?_⟩
  ·rcases Xm.1 ((h v).1 (by simp[hv])) with e|h'
   ·subst e
    have:=(ku _ _).1 (ha'.1 v hv);omega
   ·exact h'
  ·rcases Xm.1 ((h v).2 (by simp[hv])) with e|h'
   ·subst e
    have:=(ku _ _).1 (hb'.1 v hv);omega
   ·exact h'
def ly(c1:Ctx)(l1:List aj)(c2:Ctx)(l2:List aj):List aj:=(jy c1 l1 c2 l2).mergeSort λa b=>!aP b a
theorem zX(c1:Ctx)(l1:List aj)(c2:Ctx)(l2:List aj):(ly c1 l1 c2 l2).Perm (jy c1 l1 c2 l2):=List.mergeSort_perm _ _
theorem F5(v:aj):v∈ly c1 l1 c2 l2↔v∈jy c1 l1 c2 l2:=(zX _ _ _ _).mem_iff
theorem JA(v:aj):v∈jy c1 l1 c2 l2↔(v∈l2/\gE c1 v=false)\/∃u∈l1,df c2 l2 u=some v:=by
 simp[jy,aT]
theorem yW{c:Ctx}(h:df c l u=some v):v.1=u.1/\v.2.1=u.2.1:=by
 unfold df at h;split at h
 ·cases h;exact⟨rfl,rfl⟩
 ·split at h
  ·cases h
  ·cases h;exact⟨rfl,rfl⟩
def jB(a b:aj):Prop:=a.1≠b.1\/a.2.1≠b.2.1
theorem jB.of_lt{a b:aj}(h:aP a b=true):jB a b:=by
 have:=(ku _ _).1 h;unfold jB;omega
theorem BG{c:Ctx}{l:List aj}:∀{m:List aj},m.Pairwise (λu v=>aP u v=true)->(m.filterMap (df c l)).Pairwise λu v=>aP u v=true
 |[],_=>List.Pairwise.nil
 |x::m,h=>by
  have h':=List.pairwise_cons.1 h;have ih:=BG (c:=c) (l:=l) h'.2;rw[List.filterMap_cons];cases hx:df c l x with
  |none=>exact ih
  |some y=>
   refine List.pairwise_cons.2 ⟨λz hz=>?_,ih⟩;obtain⟨u,hu,e⟩:=List.mem_filterMap.1 hz;have h1:=yW hx;have h2:=yW e;have h3:=(ku _ _).1 (h'.1 u hu);rw[ku,h1.1,h1.2,h2.1,h2.2];exact h3
theorem C2(h1:fR c1 l1)(h2:fR c2 l2):(jy c1 l1 c2 l2).Pairwise jB:=by
 unfold jy;rw[List.pairwise_append];refine⟨List.Pairwise.imp jB.of_lt (List.Pairwise.filter _ h2.sorted),List.Pairwise.imp jB.of_lt (BG h1.sorted),λa ha b hb=>?_⟩;obtain⟨_,hs⟩:=List.mem_filter.1 ha;obtain⟨u,hu,e⟩:=List.mem_filterMap.1 hb;have hd:=yW e;have hv:=(h1.iS u hu).2.2.2;simp only[gE,Bool.not_eq_true',WY]at hs;unfold jB;by_cases q:a.1=b.1
 ·right;intro q';apply hs;rw[show a.n=u.n from q'.trans hd.2,show a.rep=u.rep from q.trans hd.1];exact hv
 ·exact .inl q
theorem vn:∀{l:List aj},l.Pairwise (λa b=>aP b a=false)->l.Pairwise jB->l.Pairwise λa b=>aP a b=true
 |[],_,_=>List.Pairwise.nil
 |x::l,h,ho=>by
  have h':=List.pairwise_cons.1 h;have ho':=List.pairwise_cons.1 ho;refine List.pairwise_cons.2 ⟨λy hy=>?_,vn h'.2 ho'.2⟩;have h1: ¬(aP y x=true):=by rw[h'.1 y hy];simp
  have h2:=ho'.1 y hy;rw[ku]at h1 ⊢;unfold jB at h2;omega
theorem EJ{a b:List aj}(h:a.Perm b)(hb:b.Pairwise jB):a.Pairwise jB:=
 (h.pairwise_iff (λ{x y} h=>by unfold jB at*;omega)).2 hb
theorem GB(c1:Ctx)(l1:List aj)(c2:Ctx)(l2:List aj):(ly c1 l1 c2 l2).Pairwise λa b=>aP b a=false:=by
 have:=List.pairwise_mergeSort (le:=λa b:aj=>!aP b a) (λa b c h1 h2=>by
  simp only[Bool.not_eq_true'] at*;have h1: ¬(aP b a=true):=by rw[h1];simp
  have h2: ¬(aP c b=true):=by rw[h2];simp
  have: ¬(aP c a=true):=by
   rw[ku] at*;omega
  simpa using this) (λa b=>by
  by_cases h:aP b a=true
  ·have: ¬(aP a b=true):=by
    rw[ku] at*;omega
   simp[this]
  ·simp[h]) (jy c1 l1 c2 l2)
 exact List.Pairwise.imp (λh=>by simpa using h) this
theorem Cy(h1:fR c1 l1)(h2:fR c2 l2):(ly c1 l1 c2 l2).Pairwise λa b=>aP a b=true:=
 vn (GB _ _ _ _) (EJ (zX _ _ _ _) (C2 h1 h2))
theorem RO(h1:fR c1 l1)(h2:fR c2 l2)(hp:l'.Perm (jy c1 l1 c2 l2))(hs:l'.Pairwise λa b=>aP b a=false):l'=ly c1 l1 c2 l2:=
 vl (vn hs (EJ hp (C2 h1 h2))) (Cy h1 h2) λv=>by rw[hp.mem_iff,F5]
theorem FO(a:ByteArray):Go.Lib.minS a a=a:=by simp[Go.Lib.minS]
theorem Lz(h:mo l v=some u):u∈l/\u.1=v.1/\u.2.1=v.2.1:=by
 refine⟨List.mem_of_find?_eq_some h,?_⟩;simpa using List.find?_some h
def kJ(a b:Ctx×List aj):Ctx×List aj:=(aU a.1 b.1,ly a.1 a.2 b.1 b.2)
def eF(K:al)(rs:List ai):al:=rs.foldl (λK r=>bl K r.1 (kJ (K r.1) r.2)) K
theorem qR{s:ByteArray}:∀{rs:List ai} {K:al},(∀r∈rs,r.1≠s)->eF K rs s=K s
 |[],_,_=>rfl
 |r::rs,K,h=>by
  have:=qR (rs:=rs) (K:=bl K r.1 (kJ (K r.1) r.2)) λx hx=>h x (by simp[hx]);rw[show eF K (r::rs)=eF (bl K r.1 (kJ (K r.1) r.2)) rs from rfl,this,bl,AI λe=>h r (by simp) e.symm]
theorem CS{r:ai}:∀{rs:List ai} {K:al},(rs.map (·.1)).Pairwise (·≠·)->r∈rs->eF K rs r.1=kJ (K r.1) r.2
 |[],_,_,h=>by cases h
 |x::rs,K,hp,h=>by
  have hp':=List.pairwise_cons.1 hp;rw[show eF K (x::rs)=eF (bl K x.1 (kJ (K x.1) x.2)) rs from rfl];rcases Xm.1 h with rfl|h
  ·rw[qR λy hy e=>hp'.1 y.1 (W7 hy) e.symm,bl,AS rfl]
  ·rw[CS hp'.2 h,bl,AI λe=>hp'.1 r.1 (W7 h) e.symm]
theorem Dz(K:al)(a b:List ai):eF K (a++b)=eF (eF K a) b:=by
 simp[eF,List.foldl_append]
theorem jx{go:Nat->Bool}:v∈expected ws kn go k↔∃j x,ws[j]?=some x/\x.2.1=k/\x.1<4/\kn j=true/\go j=false/\v=(x.1,x.2.2.1,x.2.2.2):=by
 simp only[expected,List.mem_flatMap,List.mem_range];constructor
 ·rintro⟨b,hb,hv⟩;obtain⟨j,x,_,hx,h1,h2,h3,h4,h5⟩:=qi hv;exact⟨j,x,hx,h1,by omega,h3,h4,by rw[h5,h2]⟩
 ·rintro⟨j,x,hx,h1,h2,h3,h4,h5⟩;refine⟨x.1,h2,?_⟩;simp only[cJ,List.mem_flatMap,List.mem_range];refine⟨j,(List.getElem?_eq_some_iff.1 hx).1,?_⟩;simp only[hx,h1,h3,h4,and_self,IS,h5,List.mem_singleton]
theorem CQ(hN:pw ws){y:Wr}(hx:ws[i]?=some x)(hy:ws[j]?=some y)(h1:x.1=y.1)(h2:x.2.1=y.2.1)(h3:x.2.2.1=y.2.2.1):i=j:=by
 rcases Nat.lt_trichotomy i j with h|h|h
 ·have:=hN i j x y h hx hy h1 h2;omega
 ·exact h
 ·have:=hN j i y x h hy hx h1.symm h2.symm;omega
theorem Rv(hN:pw ws){k1 g1 k2 g2:Nat->Bool}(h1:Good ws k c1 k1)(h2:Good ws k c2 k2)(s1:∀j,g1 j=true->k1 j=true)(s2:∀j,g2 j=true->k2 j=true)(o1:fR c1 (expected ws k1 g1 k))(o2:fR c2 (expected ws k2 g2 k)):
  ly c1 (expected ws k1 g1 k) c2 (expected ws k2 g2 k)=expected ws (λj=>k1 j||k2 j) (λj=>g1 j||g2 j) k:=by
 have hdot:∀{a b:Nat->Bool} {c:Ctx} {v:aj},fR c (expected ws a b k)->v∈expected ws a b k->mo (expected ws a b k) v=some v:=λ{a b c v} o hv=>by
  obtain⟨i,hi,rfl⟩:=Xo hv;exact FZ o.sorted hi ⟨rfl,rfl⟩
 have sub:∀{k1 g1:Nat->Bool},(∀j,g1 j=true->k1 j=true)->∀{j},k1 j=false->g1 j=false:=λ{k1 g1} s {j} h=>by
  cases hg:g1 j with
  |false=>rfl
  |true=>rw[s j hg]at h;cases h
 refine vl (Cy o1 o2) (xL hN _ _ _) λv=>?_;rw[F5,JA];constructor
 ·rintro (⟨hv,hs⟩|⟨u,hu,e⟩)
  ·obtain⟨j,x,hx,e1,e2,e3,e4,rfl⟩:=jx.1 hv;have hk:k1 j=false:=by
    cases hk:k1 j with
    |false=>rfl
    |true=>
     have:=((h1.1 j x hx).1 hk).2;simp only[gE,WY]at hs;exact absurd this hs
   exact jx.2 ⟨j,x,hx,e1,e2,by simp[e3],by simp[e4,sub s1 hk],rfl⟩
  ·obtain⟨j,x,hx,e1,e2,e3,e4,rfl⟩:=jx.1 hu;unfold df at e;split at e
   ·rename_i y hy;obtain⟨hm,d1,d2⟩:=Lz hy;obtain⟨j',x',hx',f1,f2,f3,f4,rfl⟩:=jx.1 hm;obtain rfl:=CQ hN hx' hx d1 (f1.trans e1.symm) d2;obtain rfl:=VV (hx.symm.trans hx');cases e;exact jx.2 ⟨j',x,hx,e1,e2,by simp[e3],by simp[e4,f4],by simp[FO]⟩
   ·split at e
    ·cases e
    ·rename_i hn hs;cases e;have hk:k2 j=false:=by
      cases hk:k2 j with
      |false=>rfl
      |true=>
       have:=((h2.1 j x hx).1 hk).2;exact absurd (by simpa[gE] using this) hs
     exact jx.2 ⟨j,x,hx,e1,e2,by simp[e3],by simp[e4,sub s2 hk],rfl⟩
 ·intro hv;obtain⟨j,x,hx,e1,e2,e3,e4,rfl⟩:=jx.1 hv;simp only[Bool.or_eq_false_iff]at e4;cases hk1:k1 j with
  |true=>
   right;have hu:(x.1,x.2.2.1,x.2.2.2)∈expected ws k1 g1 k:=jx.2 ⟨j,x,hx,e1,e2,hk1,e4.1,rfl⟩;refine⟨_,hu,?_⟩;cases hk2:k2 j with
   |true=>
    have hu2:(x.1,x.2.2.1,x.2.2.2)∈expected ws k2 g2 k:=jx.2 ⟨j,x,hx,e1,e2,hk2,e4.2,rfl⟩;unfold df;rw[hdot o2 hu2];simp[FO]
   |false=>
    have hn:mo (expected ws k2 g2 k) (x.1,x.2.2.1,x.2.2.2)=none:=Bl λu hu hd=>by
     obtain⟨j',x',hx',f1,f2,f3,f4,rfl⟩:=jx.1 hu;obtain rfl:=CQ hN hx' hx hd.1 (f1.trans e1.symm) hd.2;rw[hk2]at f3;cases f3
    have hs:gE c2 (x.1,x.2.2.1,x.2.2.2)=false:=by
     simp only[gE,WY];intro hle
     have:=(h2.1 j x hx).2 ⟨e1,hle⟩;rw[hk2]at this;cases this
    unfold df;rw[hn,hs];simp
  |false=>
   left;have hk2:k2 j=true:=by simpa[hk1] using e3
   refine⟨jx.2 ⟨j,x,hx,e1,e2,hk2,e4.2,rfl⟩,?_⟩;simp only[gE,WY];intro hle
   have:=(h1.1 j x hx).2 ⟨e1,hle⟩;rw[hk1]at this;cases this
theorem Be(hS:jg ws)(hl:ws.length<=80)(dq:∀x∈ws,x.2.2.2.size<=12){c:Ctx}{go:Nat->Bool}(h:Good ws k c kn):fR c (expected ws kn go k) where
 ctx:=λi _=>by have h1:=h.2.2 i;have h2:=tG ws i k;omega
 iS:=λv hv=>by
  obtain⟨j,x,hx,e1,e2,e3,e4,rfl⟩:=jx.1 hv;exact⟨e2,(hS.le hx).1,dq x (List.mem_of_getElem? hx),((h.1 j x hx).1 e3).2⟩
 sorted:=xL hS.num _ _ _
end Go.Proofs.YtldmcdeibiclkaaGreatDoorQ
