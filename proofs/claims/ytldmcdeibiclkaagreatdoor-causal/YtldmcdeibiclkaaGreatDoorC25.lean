/-
  Toward causal_holds: Contract: slices.BinarySearchFunc over versions that stand by rising dots.
-/
import Derived.Test.YtldmcdeibiclkaaGreatDoorC24
import Derived.Test.YtldmcdeibiclkaaGreatDoorC23
import Derived.Lib.MinMaxS
import Derived.Test.YtldmcdeibiclkaaGreatDoorC17
set_option linter.unusedVariables false
set_option linter.unusedSimpArgs false
set_option maxRecDepth 100000
set_option maxHeartbeats 20000000
namespace Go.Proofs.YtldmcdeibiclkaaGreatDoorQ
open Go.RowKit
theorem Qs(a b:aj):fV a b< 0↔aR a b=true:=by
 simp only[fV,ky,gC,aR,Yt]
 split<;>split<;>(try split)<;>omega
theorem zA(a b:aj):fV a b=0↔a.rep=b.rep/\a.n=b.n:=by
 simp only[fV,ky,gC]
 split<;>split<;>(try split)<;>omega
theorem oQ(a b:aj):aR a b=true↔a.1< b.1\/a.1=b.1/\a.2.1< b.2.1:=by simp[aR]
def xZ(l:List aj)(v:aj)(w:World)(e:Ending)(w':World):Prop:=∃(i:Nat) (found:Bool),e= .returned (.tuple #[.int .i64 i,.bool found])/\(found=true->∃h:i< l.length,l[i].rep=v.rep/\l[i].n=v.n)/\(found=false->∀u∈l,¬ (u.rep=v.rep/\u.n=v.n))/\Below w.heap.size w w'
theorem V0(sv:Value)(l:List aj)(v:aj)(w:World)(h:aC w sv l)(hs:l.Pairwise λa b=>aR a b=true)(hl:l.length<=100000):
  Calls aa.prog 141 #[sv,.agg #[.int .i64 v.rep,.int .i64 v.n,.string v.val],.func (.func 66) #[] #[]] w λe w'=>xZ l v w e w':=by
 obtain⟨ad,cap,rfl,hcap⟩:=h.len
 have HB1:Hid (Below w.heap.size w (w.alloc (.cells #[.int .i64 v.rep,.int .i64 v.n,.string v.val] 144))):=(By _ _).alloc (AI _) _
 have HC1:Hid ((w.alloc (.cells #[.int .i64 v.rep,.int .i64 v.n,.string v.val] 144)).heap[w.heap.size]? =some (.cells #[.int .i64 v.rep,.int .i64 v.n,.string v.val] 144)):=IS w _
 have HV:Hid (aC w (.slice ad l.length cap) l):=h
 have HS:Hid (l.Pairwise λa b=>aR a b=true):=hs
 have HBy:Hid (∀(u:aj) W,Calls aa.prog 66 #[.agg #[.int .i64 u.rep,.int .i64 u.n,.string u.val],.agg #[.int .i64 v.rep,.int .i64 v.n,.string v.val]] W λe w'=>e= .returned (.int .i64 (fV u v))/\Below W.heap.size W w'):=λu W=>by
  refine (xQ u.rep u.n v.rep v.n u.val v.val W).mono ?_
  rintro e w' ⟨rfl,q,os',rfl⟩
  exact⟨rfl,zC W q os'⟩
 have HI0:Hid (∀(j:Nat) (h:j< l.length),j< 0->aR l[j] v=true):=(show ∀(j:Nat) (h:j< l.length),j< 0->aR l[j] v=true from λj h h0=>by omega)
 clear h hs
 go_enter aa.func141,aa.ntmps141
 go_wp2
 go_loopw [9,10] (λiv jv wr=>∃(i j:Nat),i<=j/\j<=l.length/\iv= .int .i64 i/\jv= .int .i64 j/\Hid (∀(q:Nat) (h:q< l.length),q< i->aR l[q] v=true)/\Hid (∀(q:Nat) (h:q< l.length),j<=q->aR l[q] v=false)/\Hid (wr.heap[w.heap.size]? =some (.cells #[.int .i64 v.rep,.int .i64 v.n,.string v.val] 144))/\Hid (Below w.heap.size w wr)) (λiv jv _=>((intOf jv).toNat - (intOf iv).toNat))
 case atStart=>exact⟨0,l.length,by omega,by omega,rfl,rfl,HI0.out,(show ∀(q:Nat) (h:q< l.length),l.length<=q->aR l[q] v=false from λq h h'=>by omega),HC1.out,HB1.out⟩
 case round=>
  obtain⟨i,j,hij,hjl,rfl,rfl,HLo,HHi,HC,HB⟩:=hrel
  clear HC1 HB1 HI0
  by_cases hlt:i< j
  ·have a1:(i:Int)< (j:Int):=by omega
   obtain⟨m,hm⟩: ∃m:Nat,m=(i+j) / 2:=⟨_,rfl⟩
   have hmi:i<=m/\m< j:=by omega
   have s1:(i:Int)+(j:Int)<=9223372036854775807:=by omega
   have s0:(0:Int)<=(i:Int)+(j:Int):=by omega
   go_upto_region 5 with fail
   have hmI:((i:Int)+(j:Int)) / 2=(m:Int):=by omega
   have hml:m< l.length:=by omega
   obtain⟨g,cap',hsv',hg,_,_,d0,d1,d2⟩:=aC.cells (aC.below HV.out HB.out) hml
   cases hsv'
   obtain⟨q,_⟩:=au HC.out
   have q0:=q 0
   have q1:=q 1
   have q2:=q 2
   simp at q0 q1 q2
   have HByk:Hid (Calls aa.prog 66 #[.agg #[.int .i64 l[m].rep,.int .i64 l[m].n,.string l[m].val],.agg #[.int .i64 v.rep,.int .i64 v.n,.string v.val]] wr.drew λe w'=>e= .returned (.int .i64 (fV l[m] v))/\Below wr.heap.size wr w'):=(HBy.out l[m] wr.drew).mono λe w' ⟨he,hb⟩=>⟨he,bG (By _ _).drew hb⟩
   have hneg:=Qs l[m] v
   have HLm:Hid (aR l[m] v=true->∀(q:Nat) (h:q< l.length),q< m+1->aR l[q] v=true):=(show aR l[m] v=true->∀(q:Nat) (h:q< l.length),q< m+1->aR l[q] v=true from λhm q hq hq1=>by
    by_cases e:q=m
    ·subst e;exact hm
    ·have h1:=Y3.1 HS.out q m hq hml (by omega)
     rw[oQ] at*
     omega)
   have HHm:Hid (aR l[m] v=false->∀(q:Nat) (h:q< l.length),m<=q->aR l[q] v=false):=(show aR l[m] v=false->∀(q:Nat) (h:q< l.length),m<=q->aR l[q] v=false from λhm q hq hq1=>by
    by_cases e:q=m
    ·subst e;exact hm
    ·have h1:=Y3.1 HS.out m q hml hq (by omega)
     have h2: ¬ aR l[m] v=true:=by rw[hm];decide
     cases hx:aR l[q] v with
     |false=>rfl
     |true=>
      exfalso
      apply h2
      rw[oQ] at*
      omega)
   generalize fV l[m] v=z at*
   generalize l[m].rep=rm at*
   generalize l[m].n=nm at*
   generalize l[m].val=tm at*
   generalize aR l[m] v=bm at*
   clear q
   have m0:(0:Int)<=(m:Int):=by omega
   have m1:(m:Int)< (l.length:Int):=by omega
   have hmk:Hid (∀w',Below wr.heap.size wr w'->w'.cell? ⟨g,m*3,none⟩=some (.int .i64 rm)/\w'.cell? ⟨g,m*3+1,none⟩=some (.int .i64 nm)/\w'.cell? ⟨g,m*3+2,none⟩=some (.string tm)/\w'.cell? ⟨w.heap.size,0,none⟩=some (.int .i64 v.rep)/\w'.cell? ⟨w.heap.size,1,none⟩=some (.int .i64 v.n)/\w'.cell? ⟨w.heap.size,2,none⟩=some (.string v.val)):=λw' hw=>⟨aX d0 hw,aX d1 hw,aX d2 hw,aX q0 hw,aX q1 hw,aX q2 hw⟩
   have hszw:=HB.out.size
   rw[hmI]
   have Hneg:Hid (z< 0↔bm=true):=hneg
   have Hmi:Hid (i<=m/\m< j):=hmi
   have Hil:Hid (i< j):=hlt
   clear d0 d1 d2 q0 q1 q2 hm hmI hneg hmi s1 s0
   go_region_held3 (λw'=>w'.cell? ⟨g,m*3,none⟩=some (.int .i64 rm)/\w'.cell? ⟨g,m*3+1,none⟩=some (.int .i64 nm)/\w'.cell? ⟨g,m*3+2,none⟩=some (.string tm)/\w'.cell? ⟨w.heap.size,0,none⟩=some (.int .i64 v.rep)/\w'.cell? ⟨w.heap.size,1,none⟩=some (.int .i64 v.n)/\w'.cell? ⟨w.heap.size,2,none⟩=some (.string v.val))
    ((refine hmk.out _ ?_;first|exact hb2|(simp (maxDischargeDepth:=12) [By,XX];done)))
    (first|(go_at_call 66;refine BY HByk.out ?_;rintro e w2 ⟨rfl,hb2⟩))
   all_goals
    have hmi':=Hmi.out
    by_cases hz:z< 0
    ·have hbm:=Hneg.out.1 hz
     have HLm':Hid (∀(q:Nat) (h:q< l.length),q< m+1->aR l[q] v=true):=HLm.out hbm
     go_wp2
     exact⟨⟨m+1,j,by omega,by omega,by go_num,rfl,HLm'.out,HHi.out,aY HC.out hb2,bG HB.out hb2⟩,by simp[intOf];omega⟩
    ·have hbm:bm=false:=by
      cases hx:bm with
      |false=>rfl
      |true=>exact absurd (Hneg.out.2 hx) hz
     have HHm':Hid (∀(q:Nat) (h:q< l.length),m<=q->aR l[q] v=false):=HHm.out hbm
     go_wp2
     exact⟨⟨i,m,by omega,by omega,rfl,rfl,HLo.out,HHm'.out,aY HC.out hb2,bG HB.out hb2⟩,by simp[intOf];omega⟩
  ·obtain rfl:i=j:=by omega
   have a1: ¬ (i:Int)< (i:Int):=by omega
   by_cases hil:i< l.length
   ·obtain⟨g,cap',hsv',hg,_,_,d0,d1,d2⟩:=aC.cells (aC.below HV.out HB.out) hil
    cases hsv'
    obtain⟨q,_⟩:=au HC.out
    have q0:=q 0
    have q1:=q 1
    have q2:=q 2
    simp at q0 q1 q2
    have HByk:Hid (Calls aa.prog 66 #[.agg #[.int .i64 l[i].rep,.int .i64 l[i].n,.string l[i].val],.agg #[.int .i64 v.rep,.int .i64 v.n,.string v.val]] wr.drew λe w'=>e= .returned (.int .i64 (fV l[i] v))/\Below wr.heap.size wr w'):=(HBy.out l[i] wr.drew).mono λe w' ⟨he,hb⟩=>⟨he,bG (By _ _).drew hb⟩
    have Hz:Hid ((fV l[i] v=0->∃h:i< l.length,l[i].rep=v.rep/\l[i].n=v.n)/\(¬ fV l[i] v=0->∀u∈l,¬ (u.rep=v.rep/\u.n=v.n))):=(show (fV l[i] v=0->∃h:i< l.length,l[i].rep=v.rep/\l[i].n=v.n)/\(¬ fV l[i] v=0->∀u∈l,¬ (u.rep=v.rep/\u.n=v.n)) from⟨λh=>⟨hil,(zA _ _).1 h⟩,λh u hu hd=>by
     obtain⟨q,hq,rfl⟩:=ZW hu
     rcases Nat.lt_trichotomy q i with hqi|rfl|hqi
     ·have:=HLo.out q hq hqi
      rw[oQ] at this
      simp only[aj.rep,aj.n] at hd
      omega
     ·exact h ((zA _ _).2 hd)
     ·have h1:=Y3.1 HS.out i q hil hq hqi
      have h2: ¬ aR l[i] v=true:=by rw[HHi.out i hil (AI _)];decide
      apply h2
      rw[oQ] at*
      simp only[aj.rep,aj.n] at hd
      omega⟩)
    have i0:(0:Int)<=(i:Int):=by omega
    have i1:(i:Int)< (l.length:Int):=by omega
    generalize fV l[i] v=z at*
    generalize l[i].rep=rm at HByk d0
    generalize l[i].n=nm at HByk d1
    generalize l[i].val=tm at HByk d2
    clear q
    have hmk:Hid (∀w',Below wr.heap.size wr w'->w'.cell? ⟨g,i*3,none⟩=some (.int .i64 rm)/\w'.cell? ⟨g,i*3+1,none⟩=some (.int .i64 nm)/\w'.cell? ⟨g,i*3+2,none⟩=some (.string tm)/\w'.cell? ⟨w.heap.size,0,none⟩=some (.int .i64 v.rep)/\w'.cell? ⟨w.heap.size,1,none⟩=some (.int .i64 v.n)/\w'.cell? ⟨w.heap.size,2,none⟩=some (.string v.val)):=λw' hw=>⟨aX d0 hw,aX d1 hw,aX d2 hw,aX q0 hw,aX q1 hw,aX q2 hw⟩
    have hszw:=HB.out.size
    go_upto_region 8 with fail
    clear d0 d1 d2 q0 q1 q2
    go_region_held3 (λw'=>w'.cell? ⟨g,i*3,none⟩=some (.int .i64 rm)/\w'.cell? ⟨g,i*3+1,none⟩=some (.int .i64 nm)/\w'.cell? ⟨g,i*3+2,none⟩=some (.string tm)/\w'.cell? ⟨w.heap.size,0,none⟩=some (.int .i64 v.rep)/\w'.cell? ⟨w.heap.size,1,none⟩=some (.int .i64 v.n)/\w'.cell? ⟨w.heap.size,2,none⟩=some (.string v.val))
     ((refine hmk.out _ ?_;first|exact hb2|(simp (maxDischargeDepth:=12) [By,XX];done)))
     (first|(go_at_call 66;refine BY HByk.out ?_;rintro e w2 ⟨rfl,hb2⟩))
    all_goals
     go_wp2
     go_ret2
     exact⟨i,z==0,rfl,λh=>Hz.out.1 (by simpa using h),λh=>Hz.out.2 (by simpa using h),bG HB.out hb2⟩
   ·have i1: ¬ (i:Int)< (l.length:Int):=by omega
    have HNf:Hid (∀u∈l,¬ (u.rep=v.rep/\u.n=v.n)):=(show ∀u∈l,¬ (u.rep=v.rep/\u.n=v.n) from λu hu hd=>by
     obtain⟨q,hq,rfl⟩:=ZW hu
     have:=HLo.out q hq (by omega)
     rw[oQ] at this
     simp only[aj.rep,aj.n] at hd
     omega)
    go_upto_region 8 with fail
    go_quiet (fail)
    go_wp2
    go_ret2
    exact⟨i,false,rfl,(λh=>by cases h),λ_=>HNf.out,Zr HB.out _⟩
def mX(l:List aj)(v:aj):Option aj:=l.find? λu=>decide (u.rep=v.rep/\u.n=v.n)
def df(c:Ctx)(l:List aj)(v:aj):Option aj:=match mX l v with
 |some u=>some (v.rep,v.n,Go.Lib.minS v.val u.val)
 |none=>if gO c v then none else some v
def km(c1:Ctx)(l1:List aj)(c2:Ctx)(l2:List aj):List aj:=aQ l2 c1++l1.filterMap (df c2 l2)
theorem Cs{l:List aj}(hs:l.Pairwise λa b=>aR a b=true){v:aj}{i:Nat}(hi:i< l.length)(h:l[i].rep=v.rep/\l[i].n=v.n):mX l v=some l[i]:=by
 cases hf:mX l v with
 |none=>
  have:=List.find?_eq_none.1 hf l[i] (X9 hi)
  simp[h] at this
 |some u=>
  have hu:=List.find?_some hf
  have hm:=List.mem_of_find?_eq_some hf
  simp only[Yt] at hu
  obtain⟨j,hj,rfl⟩:=ZW hm
  congr 1
  rcases Nat.lt_trichotomy j i with hji|rfl|hji
  ·have:=Y3.1 hs j i hj hi hji
   rw[oQ] at this
   simp only[aj.rep,aj.n] at*
   omega
  ·rfl
  ·have:=Y3.1 hs i j hi hj hji
   rw[oQ] at this
   simp only[aj.rep,aj.n] at*
   omega
theorem zd{l:List aj}{v:aj}(h:∀u∈l,¬ (u.rep=v.rep/\u.n=v.n)):mX l v=none:=by
 rw[mX,List.find?_eq_none]
 intro u hu
 simpa using h u hu
structure dY(w:World)(c1:Ctx)(sv1:Value)(c2:Ctx)(sv2:Value)(W:World)(v:Value)(L:List aj):Prop where
 b1:W.heap[w.heap.size]? =some (.cells #[.int .i64 (c1 0),.int .i64 (c1 1),.int .i64 (c1 2),.int .i64 (c1 3),sv1] 106)
 b2:W.heap[w.heap.size+1]? =some (.cells #[.int .i64 (c2 0),.int .i64 (c2 1),.int .i64 (c2 2),.int .i64 (c2 3),sv2] 106)
 b3:W.heap[w.heap.size+2]? =some (.cells #[.int .i64 0,.int .i64 0,.int .i64 0,.int .i64 0,.slice none 0 0] 106)
 row:W.ownsRow w.heap.size 144 3 v L.length (aU L)
 bP:Below w.heap.size w W
theorem dY.below{w W W':World}{c1 c2:Ctx}{sv1 sv2 v:Value}{L:List aj}(h:dY w c1 sv1 c2 sv2 W v L)(hb:Below W.heap.size W W'):dY w c1 sv1 c2 sv2 W' v L:=
 ⟨aY h.b1 hb,aY h.b2 hb,aY h.b3 hb,dp h.row hb (AI _),bG h.bP hb⟩
theorem dY.set{w W:World}{c1 c2:Ctx}{sv1 sv2 v:Value}{L:List aj}(h:dY w c1 sv1 c2 sv2 W v L){bv:Nat}(hb:w.heap.size+2< bv)(hv:∀q,v.ownBlock=some q->q< bv)(o:Nat)(x:Value):dY w c1 sv1 c2 sv2 (W.setCell ⟨bv,o,none⟩ x) v L:=by
 refine⟨?_,?_,?_,sN h.row λq _ hq=>Yj _ _ _ _ (λe=>by have:=hv q hq;simp only at e;omega),h.bP.setCell (show w.heap.size<=bv by omega) _⟩
 ·rw[Yj _ _ _ _ (by show _≠bv;omega)];exact h.b1
 ·rw[Yj _ _ _ _ (by show _≠bv;omega)];exact h.b2
 ·rw[Yj _ _ _ _ (by show _≠bv;omega)];exact h.b3
theorem dY.app{w X W:World}{c1 c2:Ctx}{sv1 sv2 v v':Value}{L:List aj}{x:aj}{o:Obj}(h:dY w c1 sv1 c2 sv2 X v L)(hg:bw (X.alloc o) W v v')(hr:W.ownsRow w.heap.size 144 3 v' (L.length+1) (aU L++dw x)):dY w c1 sv1 c2 sv2 W v' (L++ [x]):=by
 have ha:=h.below ((By _ _).alloc (AI _) o)
 refine⟨hg.other ha.row ha.b1 (by decide),hg.other ha.row ha.b2 (by decide),hg.other ha.row ha.b3 (by decide),?_,hg.toBelow ha.bP ha.bP.size ha.row⟩
 rw[Yh,mE]
 simpa[aU] using hr
theorem KQ(ad:Option Addr)(cap:Nat)(w:World):
  Calls aa.prog 107 #[.slice ad 0 cap,.int .i64 0,.int .i64 0,.func (.func 66) #[] #[]] w λe w'=>e= .returned (.tuple #[])/\w'=w:=by
 go_enter aa.func107,aa.ntmps107
 go_wp2
 go_loopw [8] (λi wr=>i= .int .i64 1/\wr=w) (λ_ _=>1)
 case atStart=>exact⟨rfl,rfl⟩
 case round=>
  obtain⟨rfl,hw⟩:=hrel
  subst hw
  go_wp2
  go_end0
  exact⟨rfl,rfl⟩
theorem Gh(ad:Option Addr)(cap:Nat)(w:World)(hc:(cap:Int)<=9223372036854775807):
  Calls aa.prog 65 #[.slice ad 0 cap,.func (.func 66) #[] #[]] w λe w'=>e= .returned (.tuple #[])/\Below w.heap.size w w':=by
 go_enter aa.func65,aa.ntmps65
 go_wp2
 go_loopw [1,2] (λa b wr=>a= .int .i64 0/\b= .int .i64 0/\wr=w) (λ_ _ _=>1)
 case atStart=>exact⟨rfl,rfl,rfl⟩
 case round=>
  obtain⟨rfl,rfl,hw⟩:=hrel
  subst hw
  have HI:Hid _:=KQ ad cap wr
  go_wp2_with (go_at_call 107;refine BY HI.out ?_;rintro e w' ⟨rfl,hw'⟩;subst w')
  first|go_end0|refine YB (results_none rfl _ _ _) rfl ?_
  go_wp2
  first|go_end0|refine YB (results_none rfl _ _ _) rfl ?_
  exact⟨rfl,By _ _⟩
theorem dY.sort{w W:World}{c1 c2:Ctx}{sv1 sv2 v:Value}{L:List aj}(h:dY w c1 sv1 c2 sv2 W v L)(hL:L.length<=20000):
  Calls aa.prog 65 #[v,.func (.func 66) #[] #[]] W λe w'=>e= .returned (.tuple #[])/\∃l':List aj,l'.Perm L/\l'.Pairwise (λa b=>aR b a=false)/\dY w c1 sv1 c2 sv2 w' v l':=by
 by_cases h0:L= []
 ·subst h0
  obtain⟨ad,cap,rfl,hc,_⟩:=jJ h.row
  exact (Gh ad cap W hc).mono λe w' ⟨he,hb⟩=>⟨he,[],List.Perm.refl _,List.Pairwise.nil,h.below hb⟩
 ·refine (ry w.heap.size v L W h.row (List.length_pos_iff.2 h0) (by omega)).mono ?_
  rintro e w' ⟨rfl,l',hp,hs,aA,hgr⟩
  exact⟨rfl,l',hp,hs,lW hgr h.row h.b1 (by decide),lW hgr h.row h.b2 (by decide),lW hgr h.row h.b3 (by decide),aA,h.bP.grown hgr h.bP.size λq hq=>pI h.row hq⟩
theorem Gp(c1:Ctx)(sv1:Value)(l1:List aj)(c2:Ctx)(sv2:Value)(l2:List aj)(w:World)(h1:aC w sv1 l1)(h2:aC w sv2 l2)(hr1:∀v∈l1,v.rep< 4)(hr2:∀v∈l2,v.rep< 4)(hs2:l2.Pairwise λa b=>aR a b=true)(hl1:l1.length<=10000)(hl2:l2.length<=10000):
  Calls aa.prog 106 #[bh c1 sv1,bh c2 sv2] w λe w'=>∃v' l',e= .returned (bh (aL c1 c2) v')/\l'.Perm (km c1 l1 c2 l2)/\l'.Pairwise (λa b=>aR b a=false)/\w'.ownsRow w.heap.size 144 3 v' l'.length (aU l')/\Below w.heap.size w w':=by
 obtain⟨i0,hi0,hz0,hz1,hz2⟩:=Yk aa.oa
 obtain⟨ad1,cap1,rfl,hcap1⟩:=h1.len
 obtain⟨ad2,cap2,rfl,hcap2⟩:=h2.len
 obtain⟨W0,hW0⟩: ∃W,W=((w.alloc (.cells #[.int .i64 (c1 0),.int .i64 (c1 1),.int .i64 (c1 2),.int .i64 (c1 3),.slice ad1 l1.length cap1] 106)).alloc (.cells #[.int .i64 (c2 0),.int .i64 (c2 1),.int .i64 (c2 2),.int .i64 (c2 3),.slice ad2 l2.length cap2] 106)).alloc (.cells #[.int .i64 0,.int .i64 0,.int .i64 0,.int .i64 0,.slice none 0 0] 106):=⟨_,rfl⟩
 have hb0:Below w.heap.size w W0:=by rw[hW0];exact (((By _ _).alloc (AI _) _).alloc (by simp) _).alloc (by simp;omega) _
 have hJ0:dY w c1 (.slice ad1 l1.length cap1) c2 (.slice ad2 l2.length cap2) W0 (.slice none 0 0) []:=by
  refine⟨?_,?_,?_,Y6 _ _ _ _,hb0⟩
  ·rw[hW0,OF _ _ _ (by simp;omega),OF _ _ _ (by simp)];exact IS w _
  ·rw[hW0,OF _ _ _ (by simp)];exact kF w _ _
  ·rw[hW0];exact nj w _ _ _
 have HU:Hid (Calls aa.prog 63 #[bh c2 (.slice ad2 l2.length cap2),cA c1] W0 λe w'=>∃v',e= .returned v'/\dY w c1 (.slice ad1 l1.length cap1) c2 (.slice ad2 l2.length cap2) w' v' (aQ l2 c1)):=by
  refine (mg c2 _ l2 c1 W0 (aC.below h2 hb0) hr2 (by omega)).mono ?_
  rintro e w' ⟨v',rfl,aA,hb⟩
  have hj:=hJ0.below hb
  exact⟨v',rfl,hj.b1,hj.b2,hj.b3,cY aA hb0.size,hj.bP⟩
 have HV1:Hid (aC w (.slice ad1 l1.length cap1) l1):=h1
 have HV2:Hid (aC w (.slice ad2 l2.length cap2) l2):=h2
 have HR1:Hid (∀v∈l1,v.rep< 4):=hr1
 have HS2:Hid (l2.Pairwise λa b=>aR a b=true):=hs2
 clear h1 h2 hr1 hr2 hs2 hJ0 hb0
 go_enter aa.func106,aa.ntmps106
 go_wp2_with (go_at_call 63;rw[←hW0];refine BY HU.out ?_;rintro e w1 ⟨v1,rfl,hj1⟩;have HJ1:Hid (dY w c1 (.slice ad1 l1.length cap1) c2 (.slice ad2 l2.length cap2) w1 v1 (aQ l2 c1)):=hj1;obtain⟨x1,_⟩:=au hj1.b1;have y4:=x1 4;clear hj1 x1)
 clear HU hW0
 go_loopw [5,17] (λo iv wr=>∃k:Nat,k<=l1.length/\iv= .int .i64 k/\Hid (dY w c1 (.slice ad1 l1.length cap1) c2 (.slice ad2 l2.length cap2) wr o (aQ l2 c1++(l1.take k).filterMap (df c2 l2)))) (λ_ iv _=>l1.length - (intOf iv).toNat)
 case atStart=>exact⟨0,by omega,rfl,by rw[List.take_zero,List.filterMap_nil,Zf];exact HJ1.out⟩
 case round=>
  obtain⟨k,hk,rfl,HJ⟩:=hrel
  clear HJ1
  have hsw:=HJ.out.bP.size
  by_cases hlt:k< l1.length
  ·obtain⟨g,cap',hsv',hg,_,_,d0,d1,d2⟩:=aC.cells (aC.below HV1.out HJ.out.bP) hlt
   cases hsv'
   have k1:(k:Int)< (l1.length:Int):=by omega
   have k0:(0:Int)<=(k:Int):=by omega
   have hr4:=HR1.out _ (X9 hlt)
   have HTk:Hid (aQ l2 c1++(l1.take (k+1)).filterMap (df c2 l2)=(aQ l2 c1++(l1.take k).filterMap (df c2 l2))++(df c2 l2 l1[k]).toList):=(show _=_ by
    rw[Yu hlt,List.filterMap_append,Zg]
    rw[List.filterMap_cons,List.filterMap_nil]
    cases df c2 l2 l1[k]<;>rfl)
   have hLl:(aQ l2 c1++(l1.take k).filterMap (df c2 l2)).length<=20000:=by
    have e1:(aQ l2 c1).length<=l2.length:=aaa _ _
    have e2:=List.length_filterMap_le (df c2 l2) (l1.take k)
    have e3:=List.length_take_le k l1
    rw[Yh]
    omega
   have HBs:Hid (∀W,Below w.heap.size w W->Calls aa.prog 141 #[.slice ad2 l2.length cap2,.agg #[.int .i64 l1[k].rep,.int .i64 l1[k].n,.string l1[k].val],.func (.func 66) #[] #[]] W λe w'=>xZ l2 l1[k] W e w'):=λW hW=>V0 _ l2 l1[k] W (aC.below HV2.out hW) HS2.out (by omega)
   have HSn:Hid (∀W,Calls aa.prog 83 #[cA c2,.agg #[.int .i64 l1[k].rep,.int .i64 l1[k].n]] W λe w'=>e= .returned (.bool (gO c2 l1[k]))/\Below W.heap.size W w'):=λW=>sf c2 l1[k].rep l1[k].n W hr4
   have HJo:Hid (∀v,v=l1[k]->df c2 l2 v=df c2 l2 l1[k]):=(show ∀v,v=l1[k]->df c2 l2 v=df c2 l2 l1[k] from λv hv=>by rw[hv])
   generalize aQ l2 c1++(l1.take k).filterMap (df c2 l2)=L at*
   generalize hvk:l1[k]=v at*
   obtain⟨r,n,t⟩:=v
   simp only[aj.rep,aj.n,aj.val] at*
   obtain⟨W5,hW5⟩: ∃W,W=wr.alloc (.cells #[.int .i64 r,.int .i64 n,.string t] 144):=⟨_,rfl⟩
   have hB5:Below wr.heap.size wr W5:=by rw[hW5];exact (By _ _).alloc (AI _) _
   have HJ5:Hid (dY w c1 (.slice (some ⟨g,0,none⟩) l1.length cap1) c2 (.slice ad2 l2.length cap2) W5 u5 L):=HJ.out.below hB5
   have HV5:Hid (W5.heap[wr.heap.size]? =some (.cells #[.int .i64 r,.int .i64 n,.string t] 144)):=(by rw[hW5];exact IS wr _)
   have hu5:∀q,u5.ownBlock=some q->q< wr.heap.size:=λq hq=>tI HJ.out.row hq
   have x24:=(au (aY HJ.out.b2 ((By wr.heap.size wr).alloc (AI _) (.cells #[.int .i64 r,.int .i64 n,.string t] 144)))).1 4
   have HBs':Hid (Calls aa.prog 141 #[.slice ad2 l2.length cap2,.agg #[.int .i64 r,.int .i64 n,.string t],.func (.func 66) #[] #[]] W5 λe w'=>xZ l2 (r,n,t) W5 e w'):=HBs.out W5 (bG HJ.out.bP hB5)
   clear HBs hB5
   go_upto_region 6 with (go_at_call 141;rw[←hW5];refine BY HBs'.out ?_;rintro e w2 ⟨i,found,rfl,hf1,hf0,hb2⟩;have HF1:Hid (found=true->∃h:i< l2.length,l2[i].rep=r/\l2[i].n=n):=hf1;have HF0:Hid (found=false->∀u∈l2,¬ (u.rep=r/\u.n=n)):=hf0;have HB2:Hid (Below W5.heap.size W5 w2):=hb2;clear hf1 hf0 hb2)
   have HJ2:Hid (dY w c1 (.slice (some ⟨g,0,none⟩) l1.length cap1) c2 (.slice ad2 l2.length cap2) w2 u5 L):=HJ5.out.below HB2.out
   have HVv:Hid (w2.heap[wr.heap.size]? =some (.cells #[.int .i64 r,.int .i64 n,.string t] 144)):=aY HV5.out HB2.out
   clear HJ5 HV5 HB2 hW5 HBs' x24 d0 d1 d2
   obtain⟨z2,_⟩:=au HJ2.out.b2
   obtain⟨vv,fv⟩:=au HVv.out
   have z20:=z2 0
   have z21:=z2 1
   have z22:=z2 2
   have z23:=z2 3
   have z24:=z2 4
   have hne1:w.heap.size+1< wr.heap.size:=(IN.1 HJ.out.b2).1
   have hne2: ¬ w.heap.size+1=wr.heap.size:=by omega
   clear z2
   cases found with
   |true=>
    obtain⟨hi,hd1,hd2⟩:=HF1.out rfl
    have hJ1:df c2 l2 (r,n,t)=some (r,n,Go.Lib.minS t l2[i].val):=by
     rw[df,Cs HS2.out hi ⟨hd1,hd2⟩]
    obtain⟨g2,cap2',hsv2,hg2,_,_,_,_,d22w⟩:=aC.cells HV2.out hi
    cases hsv2
    have d22:=(HJ2.out.bP.cell (p:=⟨g2,i*3+2,none⟩) hg2).trans d22w
    have hmin:∀W,(Builtin.min_ #[9,9] 9 #[.string t,.string l2[i].val]).run aa.prog W= .ok (.string (Go.Lib.minS t l2[i].val)) W:=λW=>Go.Lib.run_min_strs W _ _ _ _
    clear d22w
    have i1:(i:Int)< (l2.length:Int):=by omega
    have i00:(0:Int)<=(i:Int):=by omega
    rw[HJo.out _ rfl] at HTk
    clear HJo
    generalize l2[i].val=tu at*
    have hng2: ¬ g2=wr.heap.size:=by omega
    generalize Go.Lib.minS t tu=tm at*
    go_upto_region 7 with fail
    go_region_law (fail)
    all_goals
     obtain⟨W3,hW3⟩: ∃W,W=(w2.setCell ⟨wr.heap.size,2,none⟩ (.string tm)).drew:=⟨_,rfl⟩
     rw[←hW3]
     have hw3:w.heap.size+2< wr.heap.size:=(IN.1 HJ.out.b3).1
     have HJ3:Hid (dY w c1 (.slice (some ⟨g,0,none⟩) l1.length cap1) c2 (.slice (some ⟨g2,0,none⟩) l2.length cap2) W3 u5 L):=(by rw[hW3];exact (HJ2.out.set hw3 hu5 _ _).below (By _ _).drew)
     have hV3:W3.heap[wr.heap.size]? =some (.cells #[.int .i64 r,.int .i64 n,.string tm] 144):=by
      rw[hW3]
      exact heap_set (w:=w2) (o:=2) (v:= .string tm) HVv.out
     obtain⟨v3,f3⟩:=au hV3
     clear hW3 vv fv hV3 hmin d22
     have HRa:Hid ((W3.alloc (.cells #[.int .i64 r,.int .i64 n,.string tm] 144)).ownsRow w.heap.size 144 3 u5 L.length (aU L)):=Yc HJ3.out.row _
     have hsz3:=HJ3.out.bP.size
     go_wp2_with (at_builtin;refine j6 _ rfl _ _ _ rfl w.heap.size 144 i0 _ 3 32 aa.underlying104 hi0 hz0 hz1 hz2 rfl (by omega) u5 _ _ rfl HRa.out ⟨W3.heap.size,0,none⟩ 1 1 _ rfl (by rfl) (Yo (IS W3 _)) (by simp[Value.oneCell']) (by omega) (by unfold maxLen;omega) (by omega) (by simp;omega) ?_;intro g7 cap7 w7 hown7 hgr7;have HJ7:Hid (dY w c1 (.slice (some ⟨g,0,none⟩) l1.length cap1) c2 (.slice (some ⟨g2,0,none⟩) l2.length cap2) w7 (.slice (some ⟨g7,0,none⟩) (L.length+1) cap7) (L++ [(r,n,tm)])):=HJ3.out.app hgr7 hown7;clear hown7 hgr7)
     refine⟨⟨k+1,by omega,by go_num,?_⟩,by simp[intOf];omega⟩
     rw[HTk.out,hJ1]
     exact HJ7.out
   |false=>
    have hno:=zd (v:=(r,n,t)) (HF0.out rfl)
    have hJ1:df c2 l2 (r,n,t)=if gO c2 (r,n,t) then none else some (r,n,t):=by
     rw[df,hno]
    rw[HJo.out _ rfl] at HTk
    clear HJo hno
    generalize hsb:gO c2 (r,n,t)=sb at*
    cases sb with
    |true=>
     go_wp2_with (go_at_call 83;refine (HSn.out _).mono ?_;rintro e w3 ⟨rfl,hb3⟩;have HB3:Hid (Below w2.heap.size w2 w3):=hb3;clear hb3)
     refine⟨⟨k+1,by omega,by go_num,?_⟩,by simp[intOf];omega⟩
     rw[HTk.out,hJ1]
     simp only[XZ,Option.toList_none,Zf]
     exact HJ2.out.below HB3.out
    |false=>
     go_wp2_with (first
      |(go_at_call 83;refine (HSn.out _).mono ?_;rintro e w3 ⟨rfl,hb3⟩;obtain⟨v3,f3⟩:=au (aY HVv.out hb3);have HJ3:Hid (dY w c1 (.slice (some ⟨g,0,none⟩) l1.length cap1) c2 (.slice ad2 l2.length cap2) w3 u5 L):=HJ2.out.below hb3;have HRa:Hid ((w3.alloc (.cells #[.int .i64 r,.int .i64 n,.string t] 144)).ownsRow w.heap.size 144 3 u5 L.length (aU L)):=Yc (dp HJ2.out.row hb3 (AI _)) _;have hsz3:=(HJ2.out.below hb3).bP.size;clear hb3)
      |(at_builtin;refine j6 _ rfl _ _ _ rfl w.heap.size 144 i0 _ 3 32 aa.underlying104 hi0 hz0 hz1 hz2 rfl (by omega) u5 _ _ rfl HRa.out ⟨w3.heap.size,0,none⟩ 1 1 _ rfl (by rfl) (Yo (IS w3 _)) (by simp[Value.oneCell']) (by omega) (by unfold maxLen;omega) (by omega) (by simp;omega) ?_;intro g7 cap7 w7 hown7 hgr7;have HJ7:Hid (dY w c1 (.slice (some ⟨g,0,none⟩) l1.length cap1) c2 (.slice ad2 l2.length cap2) w7 (.slice (some ⟨g7,0,none⟩) (L.length+1) cap7) (L++ [(r,n,t)])):=HJ3.out.app hgr7 hown7;clear hown7 hgr7))
     refine⟨⟨k+1,by omega,by go_num,?_⟩,by simp[intOf];omega⟩
     rw[HTk.out,hJ1]
     exact HJ7.out
  ·obtain rfl:k=l1.length:=by omega
   have hJ:=HJ.out
   rw[YD] at hJ
   obtain⟨adu,capu,rfl⟩:=gY hJ.row
   have hLl:(aQ l2 c1++l1.filterMap (df c2 l2)).length<=20000:=by
    have e1:(aQ l2 c1).length<=l2.length:=aaa _ _
    have e2:=List.length_filterMap_le (df c2 l2) l1
    rw[Yh]
    omega
   have HSt:Hid (Calls aa.prog 65 #[.slice adu (aQ l2 c1++l1.filterMap (df c2 l2)).length capu,.func (.func 66) #[] #[]] wr λe w'=>e= .returned (.tuple #[])/\∃l':List aj,l'.Perm (km c1 l1 c2 l2)/\l'.Pairwise (λa b=>aR b a=false)/\dY w c1 (.slice ad1 l1.length cap1) c2 (.slice ad2 l2.length cap2) w' (.slice adu (aQ l2 c1++l1.filterMap (df c2 l2)).length capu) l'):=hJ.sort hLl
   have HGr:Hid (∀W,Calls aa.prog 64 #[cA c1,cA c2] W λe w'=>e= .returned (cA (aL c1 c2))/\Below W.heap.size W w'):=λW=>nM c1 c2 W
   generalize (aQ l2 c1++l1.filterMap (df c2 l2)).length=LN at*
   clear hJ HJ HV1 HV2
   go_wp2_with (first
    |(go_at_call 65;refine BY HSt.out ?_;rintro e w4 ⟨rfl,l',hp,hs,hj4⟩;obtain⟨s1,_⟩:=au hj4.b1;obtain⟨s2,_⟩:=au hj4.b2;have HP:Hid (l'.Perm (km c1 l1 c2 l2)):=hp;have HSo:Hid (l'.Pairwise λa b=>aR b a=false):=hs;have HJ4:Hid (dY w c1 (.slice ad1 l1.length cap1) c2 (.slice ad2 l2.length cap2) w4 (.slice adu LN capu) l'):=hj4;clear hp hs hj4)
    |(go_at_call 64;refine (HGr.out _).mono ?_;rintro e w6 ⟨rfl,hb6⟩;have HJ6:Hid (dY w c1 (.slice ad1 l1.length cap1) c2 (.slice ad2 l2.length cap2) w6 (.slice adu LN capu) l'):=HJ4.out.below hb6;obtain⟨r6,f6⟩:=au (show w6.heap[w.heap.size+1+1]? =some (.cells #[.int .i64 0,.int .i64 0,.int .i64 0,.int .i64 0,.slice none 0 0] 106) from (HJ4.out.below hb6).b3);clear hb6))
   have hb3:w6.heap[w.heap.size+1+1]? =some (.cells #[.int .i64 0,.int .i64 0,.int .i64 0,.int .i64 0,.slice none 0 0] 106):=HJ6.out.b3
   refine YB (v:=bh (aL c1 c2) (.slice adu LN capu)) ?_ rfl ⟨_,l',rfl,HP.out,HSo.out,?_,?_⟩
   ·simp[results,aa.results106,go_sem,r6]
   ·exact fW (fW (fW (fW (fW HJ6.out.row hb3 (by decide) _ _) (heap_set hb3) (by decide) _ _) (heap_set (heap_set hb3)) (by decide) _ _) (heap_set (heap_set (heap_set hb3))) (by decide) _ _) (heap_set (heap_set (heap_set (heap_set hb3)))) (by decide) _ _
   ·have hle:w.heap.size<=w.heap.size+1+1:=by omega
    exact ((((HJ6.out.bP.setCell hle _).setCell hle _).setCell hle _).setCell hle _).setCell hle _
end Go.Proofs.YtldmcdeibiclkaaGreatDoorQ
namespace Go.Proofs.YtldmcdeibiclkaaGreatDoorQ
def qo(ws:List Wr):Prop:=∀(i j:Nat) (x y:Wr),i< j->ws[i]? =some x->ws[j]? =some y->x.1=y.1->x.2.1=y.2.1->x.2.2.1< y.2.2.1
theorem xh{α:Type}{R S:α->α->Prop}(h:∀a b,R a b->S a b):∀{l:List α},l.Pairwise R->l.Pairwise S
 |[],_=>List.Pairwise.nil
 |_::_,hl=>YE.2 ⟨λb hb=>h _ _ ((YE.1 hl).1 b hb),xh h (YE.1 hl).2⟩
theorem rp{ws:List Wr}{kn go:Nat->Bool}{k b m:Nat}{v:aj}(h:v∈bV ws kn go k b m): ∃j x,j< m/\ws[j]? =some x/\x.2.1=k/\x.1=b/\kn j=true/\go j=false/\v=(b,x.2.2.1,x.2.2.2):=by
 simp only[bV,Zk,YV] at h
 obtain⟨j,hj,hv⟩:=h
 cases hx:ws[j]? with
 |none=>simp[hx] at hv
 |some x=>
  simp only[hx] at hv
  by_cases hc:x.2.1=k/\x.1=b/\kn j=true/\go j=false
  ·rw[AT hc] at hv
   exact⟨j,x,hj,hx,hc.1,hc.2.1,hc.2.2.1,hc.2.2.2,by simpa using hv⟩
  ·rw[AS hc] at hv;cases hv
theorem zv{ws:List Wr}(hN:qo ws)(kn go:Nat->Bool)(k b:Nat):∀m,(bV ws kn go k b m).Pairwise λu v=>u.1=v.1/\u.2.1< v.2.1
 |0=>by simp[bV]
 |m+1=>by
  have ih:=zv hN kn go k b m
  cases hx:ws[m]? with
  |none=>
   have:bV ws kn go k b (m+1)=bV ws kn go k b m:=by simp[bV,Zj,Ze,hx]
   rw[this];exact ih
  |some x=>
   by_cases h:x.2.1=k/\x.1=b/\kn m=true/\go m=false
   ·rw[tM hx h.1 h.2.1 h.2.2.1 h.2.2.2,List.pairwise_append]
    refine⟨ih,List.pairwise_singleton _ _,λu hu v hv=>?_⟩
    obtain⟨j,y,hj,hy,y1,y2,_,_,rfl⟩:=rp hu
    obtain rfl:v=(b,x.2.2.1,x.2.2.2):=by simpa using hv
    exact⟨rfl,hN j m y x hj hy hx (by rw[y2,h.2.1]) (by rw[y1,h.1])⟩
   ·rw[pN hx h];exact ih
theorem FJ(a b:aj):aR a b=true↔a.1< b.1\/a.1=b.1/\a.2.1< b.2.1:=by simp[aR]
theorem yI{ws:List Wr}(hN:qo ws)(kn go:Nat->Bool)(k:Nat):(expected ws kn go k).Pairwise λu v=>aR u v=true:=by
 unfold expected
 rw[List.pairwise_flatMap]
 refine⟨λb _=>xh (λ_ _ h=>(FJ _ _).2 (Or.inr h)) (zv hN kn go k b ws.length),?_⟩
 have hr:(List.range 4).Pairwise (· < ·):=List.pairwise_lt_range
 refine xh (λb c hbc u hu v hv=>?_) hr
 obtain⟨_,_,_,_,_,_,_,_,rfl⟩:=rp hu
 obtain⟨_,_,_,_,_,_,_,_,rfl⟩:=rp hv
 exact (FJ _ _).2 (Or.inl hbc)
theorem EJ:∀(a b:List aj),a.Perm b->a.Pairwise (λu v=>aR v u=false)->b.Pairwise (λu v=>aR u v=true)->a=b
 |[],b,hp,_,_=>by rw[List.nil_perm.1 hp]
 |u::a,[],hp,_,_=>by simpa using hp.length_eq
 |u::a,v::b,hp,ha,hb=>by
  have hu:u∈v::b:=hp.subset (by simp)
  have hv:v∈u::a:=hp.symm.subset (by simp)
  have huv:u=v:=by
   rcases Yv.1 hu with h|h
   ·exact h
   ·rcases Yv.1 hv with h'|h'
    ·exact h'.symm
    ·have h1:=(YE.1 hb).1 u h
     have h2:=(YE.1 ha).1 v h'
     rw[h1] at h2;cases h2
  subst huv
  rw[EJ a b (List.Perm.cons_inv hp) (YE.1 ha).2 (YE.1 hb).2]
theorem uc{ws ws':List Wr}{kn go kn' go':Nat->Bool}{k b m:Nat}(hw:∀j,j< m->ws'[j]? =ws[j]?)(hk:∀j,j< m->((kn' j=true/\go' j=false)↔(kn j=true/\go j=false))):bV ws' kn' go' k b m=bV ws kn go k b m:=by
 unfold bV
 refine l9 _ λj hj=>?_
 have hj':=YV.1 hj
 rw[hw j hj']
 cases ws[j]? with
 |none=>rfl
 |some x=>
  simp only
  have h:=hk j hj'
  by_cases h1:x.2.1=k/\x.1=b
  ·by_cases h2:kn j=true/\go j=false
   ·rw[AT ⟨h1.1,h1.2,(h.2 h2).1,(h.2 h2).2⟩,AT ⟨h1.1,h1.2,h2.1,h2.2⟩]
   ·rw[AS (λe=>h2 (h.1 ⟨e.2.2.1,e.2.2.2⟩)),AS (λe=>h2 ⟨e.2.2.1,e.2.2.2⟩)]
  ·rw[AS (λe=>h1 ⟨e.1,e.2.1⟩),AS (λe=>h1 ⟨e.1,e.2.1⟩)]
theorem four(f:Nat->List aj):(List.range 4).flatMap f=f 0++(f 1++(f 2++f 3)):=by
 simp[Zj]
theorem wA(a r:List aj)(x:aj):((a++ [x])++r).Perm ((a++r)++ [x]):=by
 rw[Zg,Zg]
 exact List.perm_append_comm.append_left _
theorem Pp{ws:List Wr}{kn go kn' go':Nat->Bool}{k i:Nat}{n:Int}{val:ByteArray}(hi:i< 4)(hk:∀j,j< ws.length->((kn' j=true/\go' j=false)↔(kn j=true/\go j=false)))(hk1:kn' ws.length=true)(hg1:go' ws.length=false):
  (expected (ws++ [(i,k,n,val)]) kn' go' k).Perm (expected ws kn go k++ [(i,n,val)]):=by
 have hw:∀j,j< ws.length->(ws++ [(i,k,n,val)])[j]? =ws[j]? :=λj hj=>YW hj
 have hl:(ws++ [(i,k,n,val)])[ws.length]? =some (i,k,n,val):=by simp
 have hof:∀b,bV (ws++ [(i,k,n,val)]) kn' go' k b (ws++ [(i,k,n,val)]).length=bV ws kn go k b ws.length++(if i=b then [(b,n,val)] else []):=by
  intro b
  rw[Yh,Za]
  by_cases e:i=b
  ·rw[tM hl rfl e hk1 hg1,uc hw hk,AT e]
  ·rw[pN hl (λh=>e h.2.1),uc hw hk,AS e,Zf]
 unfold expected
 rw[four,four,hof,hof,hof,hof]
 generalize bV ws kn go k 0 ws.length=f0
 generalize bV ws kn go k 1 ws.length=f1
 generalize bV ws kn go k 2 ws.length=f2
 generalize bV ws kn go k 3 ws.length=f3
 rcases fg hi with rfl|rfl|rfl|rfl
 ·rw[AT rfl,AS (by omega),AS (by omega),AS (by omega)]
  simp only[Zf]
  exact wA _ _ _
 ·rw[AS (by omega),AT rfl,AS (by omega),AS (by omega)]
  simp only[Zf]
  rw[Zg f0]
  exact (wA _ _ _).append_left _
 ·rw[AS (by omega),AS (by omega),AT rfl,AS (by omega)]
  simp only[Zf]
  rw[Zg f0,Zg f1]
  exact ((wA _ _ _).append_left _).append_left _
 ·rw[AS (by omega),AS (by omega),AS (by omega),AT rfl]
  simp only[Zf,Zg]
  exact List.Perm.refl _
theorem R4{ws:List Wr}{kn go m kn' go':Nat->Bool}{k i:Nat}{n:Int}{val:ByteArray}{c:Ctx}{l l':List aj}(hi:i< 4)(hl:l=expected ws kn go k)(hm:∀(j:Nat) (x:Wr),ws[j]? =some x->x.2.1=k->(m j=true↔x.2.2.1<=c x.1))(hp:l'.Perm (aQ l c++ [(i,n,val)]))(hs:l'.Pairwise λa b=>aR b a=false)(hN:qo (ws++ [(i,k,n,val)]))(bd:∀j,j< ws.length->kn' j=(kn j||m j))(hgo:∀j,j< ws.length->go' j=(go j||m j))(hk1:kn' ws.length=true)(hg1:go' ws.length=false):
  l'=expected (ws++ [(i,k,n,val)]) kn' go' k:=by
 rw[hl,vz hm] at hp
 refine EJ _ _ (hp.trans (Pp (kn:=kn) (go:=λj=>go j||m j) hi (λj hj=>?_) hk1 hg1).symm) hs (yI hN _ _ _)
 rw[bd j hj,hgo j hj]
 cases kn j<;>cases go j<;>cases m j<;>simp
theorem T3{ws:List Wr}{kn go m kn' go':Nat->Bool}{k:Nat}{c:Ctx}(hm:∀(j:Nat) (x:Wr),ws[j]? =some x->x.2.1=k->(m j=true↔x.2.2.1<=c x.1))(bd:∀j,j< ws.length->kn' j=(kn j||m j))(hgo:∀j,j< ws.length->go' j=(go j||m j)):
  aQ (expected ws kn go k) c=expected ws kn' go' k:=by
 rw[vz hm]
 unfold expected
 refine l9 _ λb _=>(uc (λ_ _=>rfl) λj hj=>?_).symm
 rw[bd j hj,hgo j hj]
 cases kn j<;>cases go j<;>cases m j<;>simp
def bK:List Wr->Nat->Nat->Int
 |[],_,_=>0
 |x::ws,b,k=>(if x.1=b/\x.2.1=k then 1 else 0)+bK ws b k
theorem pB(a c:List Wr)(b k:Nat):bK (a++c) b k=bK a b k+bK c b k:=by
 induction a with
 |nil=>simp[bK]
 |cons x a ih=>simp only[YX,bK,ih];omega
theorem qz(a:List Wr)(b k:Nat):0<=bK a b k:=by
 induction a with
 |nil=>simp[bK]
 |cons x a ih=>simp only[bK];split<;>omega
theorem sW(a:List Wr)(b k:Nat):bK a b k<=a.length:=by
 induction a with
 |nil=>simp[bK]
 |cons x a ih=>simp only[bK,Ys];split<;>omega
def kB(ws:List Wr):Prop:=∀(j:Nat) (x:Wr),ws[j]? =some x->x.2.2.1=bK (ws.take j) x.1 x.2.1+1
theorem BZ(ws:List Wr)(b k:Nat){i j:Nat}(h:i<=j):bK (ws.take i) b k<=bK (ws.take j) b k:=by
 obtain⟨d,rfl⟩:=Nat.exists_eq_add_of_le h
 rw[List.take_add,pB]
 have:=qz ((ws.drop i).take d) b k
 omega
theorem kB.num{ws:List Wr}(h:kB ws):qo ws:=by
 intro i j x y hij hx hy h1 h2
 have e1:=h i x hx
 have e2:=h j y hy
 have hi:i< ws.length:=(YP.1 hx).1
 have hxi:ws[i]=x:=(YP.1 hx).2
 have e3:bK (ws.take (i+1)) x.1 x.2.1=bK (ws.take i) x.1 x.2.1+1:=by
  rw[Yu hi,pB,hxi];simp[bK]
 have e4:=BZ ws x.1 x.2.1 (show i+1<=j from hij)
 rw[←h1,←h2] at e2
 omega
theorem kB.snoc{ws:List Wr}(h:kB ws)(i k:Nat)(val:ByteArray):kB (ws++ [(i,k,bK ws i k+1,val)]):=by
 intro j x hx
 by_cases hj:j< ws.length
 ·rw[YW hj] at hx
  rw[List.take_append_of_le_length (by omega)]
  exact h j x hx
 ·have hl:j=ws.length:=by
   have:=(YP.1 hx).1
   simp at this;omega
  subst hl
  obtain rfl:(i,k,bK ws i k+1,val)=x:=by simpa using hx
  simp
theorem kB.le{ws:List Wr}(h:kB ws){j:Nat}{x:Wr}(hx:ws[j]? =some x):1<=x.2.2.1/\x.2.2.1<=bK ws x.1 x.2.1:=by
 have e:=h j x hx
 have hj:j< ws.length:=(YP.1 hx).1
 have hxj:ws[j]=x:=(YP.1 hx).2
 have e3:bK (ws.take (j+1)) x.1 x.2.1=bK (ws.take j) x.1 x.2.1+1:=by
  rw[Yu hj,pB,hxj];simp[bK]
 have e4:=BZ ws x.1 x.2.1 (show j+1<=ws.length from hj)
 rw[YD] at e4
 have:=qz (ws.take j) x.1 x.2.1
 omega
def Good(ws:List Wr)(k:Nat)(c:Ctx)(kn:Nat->Bool):Prop:=
 (∀(j:Nat) (x:Wr),ws[j]? =some x->(kn j=true↔x.2.1=k/\x.2.2.1<=c x.1))/\(∀j,ws.length<=j->kn j=false)/\∀b,0<=c b/\c b<=bK ws b k
theorem Good.join{ws:List Wr}{k:Nat}{c d:Ctx}{kn m:Nat->Bool}(h:Good ws k c kn)(h':Good ws k d m):Good ws k (aL c d) (λj=>kn j||m j):=by
 refine⟨λj x hx=>?_,λj hj=>?_,λb=>?_⟩
 ·have e1:=h.1 j x hx
  have e2:=h'.1 j x hx
  simp only[YF,aL]
  rw[e1,e2]
  constructor
  ·rintro (⟨a,b⟩|⟨a,b⟩)
   ·exact⟨a,by omega⟩
   ·exact⟨a,by omega⟩
  ·rintro⟨a,b⟩
   by_cases q:x.2.2.1<=c x.1
   ·exact Or.inl ⟨a,q⟩
   ·exact Or.inr ⟨a,by omega⟩
 ·simp[h.2.1 j hj,h'.2.1 j hj]
 ·have e1:=h.2.2 b
  have e2:=h'.2.2 b
  simp only[aL];omega
theorem Good.other{ws:List Wr}{k:Nat}{c:Ctx}{kn:Nat->Bool}(h:Good ws k c kn)(i k':Nat)(val:ByteArray):Good (ws++ [(i,k',bK ws i k'+1,val)]) k c kn:=by
 refine⟨λj x hx=>?_,λj hj=>h.2.1 j (by simp at hj;omega),λb=>?_⟩
 ·by_cases hj:j< ws.length
  ·rw[YW hj] at hx
   exact h.1 j x hx
  ·have hl:j=ws.length:=by
    have:=(YP.1 hx).1
    simp at this;omega
   subst hl
   obtain rfl:(i,k',bK ws i k'+1,val)=x:=by simpa using hx
   rw[h.2.1 _ (AI _)]
   simp only[Yd,false_iff,not_and]
   intro e
   subst e
   have:=(h.2.2 i).2
   omega
 ·have:=h.2.2 b
  have e:=qz [(i,k',bK ws i k'+1,val)] b k
  rw[pB];omega
theorem Good.put{ws:List Wr}{k i:Nat}{c:Ctx}{kn kn':Nat->Bool}{val:ByteArray}(hS:kB ws)(h:Good ws k c kn)(hi:c i=bK ws i k)(h1:∀j,j< ws.length->kn' j=kn j)(h2:kn' ws.length=true)(h3:∀j,ws.length< j->kn' j=false):Good (ws++ [(i,k,bK ws i k+1,val)]) k (bump c i) kn':=by
 refine⟨λj x hx=>?_,λj hj=>h3 j (by simp at hj;omega),λb=>?_⟩
 ·by_cases hj:j< ws.length
  ·rw[YW hj] at hx
   rw[h1 j hj,h.1 j x hx]
   refine and_congr_right λe=>?_
   unfold bump
   by_cases q:x.1=i
   ·rw[AT q,q,hi]
    have hle:=(hS.le hx).2
    rw[q,e] at hle
    constructor<;>intro<;>omega
   ·rw[AS q]
  ·have hl:j=ws.length:=by
    have:=(YP.1 hx).1
    simp at this;omega
   subst hl
   obtain rfl:(i,k,bK ws i k+1,val)=x:=by simpa using hx
   rw[h2]
   simp[bump,hi]
 ·have:=h.2.2 b
  rw[pB]
  unfold bump
  by_cases q:b=i
  ·subst q;rw[AT rfl];simp[bK];omega
  ·rw[AS q]
   have e:=qz [(i,k,bK ws i k+1,val)] b k
   omega
structure gE(c:Ctx)(l:List aj):Prop where
 ctx:∀i,i< 4->0<=c i/\c i<=1000000
 iX:∀v∈l,v.rep< 4/\1<=v.n/\v.val.size<=12/\v.n<=c v.rep
 sorted:l.Pairwise λa b=>aR a b=true
theorem ln(a b:aj):aR a b=true↔a.1< b.1\/a.1=b.1/\a.2.1< b.2.1:=by simp[aR]
theorem x7:∀{a b:List aj},a.Pairwise (λu v=>aR u v=true)->b.Pairwise (λu v=>aR u v=true)->(∀v,v∈a↔v∈b)->a=b
 |[],[],_,_,_=>rfl
 |[],y::b,_,_,h=>by have:=(h y).2 (by simp);cases this
 |x::a,[],_,_,h=>by have:=(h x).1 (by simp);cases this
 |x::a,y::b,ha,hb,h=>by
  have ha':=YE.1 ha
  have hb':=YE.1 hb
  have e:x=y:=by
   rcases Yv.1 ((h x).1 (by simp)) with e|hx
   ·exact e
   ·rcases Yv.1 ((h y).2 (by simp)) with e|hy
    ·exact e.symm
    ·have h1:=(ln _ _).1 (ha'.1 y hy)
     have h2:=(ln _ _).1 (hb'.1 x hx)
     omega
  subst e
  congr 1
  refine x7 ha'.2 hb'.2 λv=>⟨λhv=>?_,λhv=>?_⟩
  ·rcases Yv.1 ((h v).1 (by simp[hv])) with e|h'
   ·subst e
    have:=(ln _ _).1 (ha'.1 v hv)
    omega
   ·exact h'
  ·rcases Yv.1 ((h v).2 (by simp[hv])) with e|h'
   ·subst e
    have:=(ln _ _).1 (hb'.1 v hv)
    omega
   ·exact h'
def lG(c1:Ctx)(l1:List aj)(c2:Ctx)(l2:List aj):List aj:=(km c1 l1 c2 l2).mergeSort λa b=>!aR b a
theorem Bt(c1:Ctx)(l1:List aj)(c2:Ctx)(l2:List aj):(lG c1 l1 c2 l2).Perm (km c1 l1 c2 l2):=List.mergeSort_perm _ _
theorem CM{c1:Ctx}{l1:List aj}{c2:Ctx}{l2:List aj}(v:aj):v∈lG c1 l1 c2 l2↔v∈km c1 l1 c2 l2:=(Bt _ _ _ _).mem_iff
theorem Hs{c1:Ctx}{l1:List aj}{c2:Ctx}{l2:List aj}(v:aj):v∈km c1 l1 c2 l2↔(v∈l2/\gO c1 v=false)\/∃u∈l1,df c2 l2 u=some v:=by
 simp[km,aQ]
theorem yW{c:Ctx}{l:List aj}{u v:aj}(h:df c l u=some v):v.1=u.1/\v.2.1=u.2.1:=by
 unfold df at h
 split at h
 ·cases h;exact⟨rfl,rfl⟩
 ·split at h
  ·cases h
  ·cases h;exact⟨rfl,rfl⟩
def jI(a b:aj):Prop:=a.1≠b.1\/a.2.1≠b.2.1
theorem jI.of_lt{a b:aj}(h:aR a b=true):jI a b:=by
 have:=(ln _ _).1 h
 unfold jI;omega
theorem EZ{c:Ctx}{l:List aj}:∀{m:List aj},m.Pairwise (λu v=>aR u v=true)->(m.filterMap (df c l)).Pairwise λu v=>aR u v=true
 |[],_=>List.Pairwise.nil
 |x::m,h=>by
  have h':=YE.1 h
  have ih:=EZ (c:=c) (l:=l) h'.2
  rw[List.filterMap_cons]
  cases hx:df c l x with
  |none=>exact ih
  |some y=>
   refine YE.2 ⟨λz hz=>?_,ih⟩
   obtain⟨u,hu,e⟩:=List.mem_filterMap.1 hz
   have h1:=yW hx
   have h2:=yW e
   have h3:=(ln _ _).1 (h'.1 u hu)
   rw[ln,h1.1,h1.2,h2.1,h2.2]
   exact h3
theorem Ck{c1:Ctx}{l1:List aj}{c2:Ctx}{l2:List aj}(h1:gE c1 l1)(h2:gE c2 l2):(km c1 l1 c2 l2).Pairwise jI:=by
 unfold km
 rw[List.pairwise_append]
 refine⟨List.Pairwise.imp jI.of_lt (List.Pairwise.filter _ h2.sorted),List.Pairwise.imp jI.of_lt (EZ h1.sorted),λa ha b hb=>?_⟩
 obtain⟨_,hs⟩:=List.mem_filter.1 ha
 obtain⟨u,hu,e⟩:=List.mem_filterMap.1 hb
 have hd:=yW e
 have hv:=(h1.iX u hu).2.2.2
 simp only[gO,YZ,ZM] at hs
 unfold jI
 by_cases q:a.1=b.1
 ·right
  intro q'
  apply hs
  rw[show a.n=u.n from q'.trans hd.2,show a.rep=u.rep from q.trans hd.1]
  exact hv
 ·exact .inl q
theorem vR:∀{l:List aj},l.Pairwise (λa b=>aR b a=false)->l.Pairwise jI->l.Pairwise λa b=>aR a b=true
 |[],_,_=>List.Pairwise.nil
 |x::l,h,ho=>by
  have h':=YE.1 h
  have ho':=YE.1 ho
  refine YE.2 ⟨λy hy=>?_,vR h'.2 ho'.2⟩
  have h1: ¬ (aR y x=true):=by rw[h'.1 y hy];simp
  have h2:=ho'.1 y hy
  rw[ln] at h1 ⊢
  unfold jI at h2
  omega
theorem Cq{a b:List aj}(h:a.Perm b)(hb:b.Pairwise jI):a.Pairwise jI:=
 (h.pairwise_iff (λ{x y} h=>by unfold jI at*;omega)).2 hb
theorem Nc(c1:Ctx)(l1:List aj)(c2:Ctx)(l2:List aj):(lG c1 l1 c2 l2).Pairwise λa b=>aR b a=false:=by
 have:=List.pairwise_mergeSort (le:=λa b:aj=>!aR b a) (λa b c h1 h2=>by
  simp only[YZ] at*
  have h1: ¬ (aR b a=true):=by rw[h1];simp
  have h2: ¬ (aR c b=true):=by rw[h2];simp
  have: ¬ (aR c a=true):=by
   rw[ln] at*
   omega
  simpa using this) (λa b=>by
  by_cases h:aR b a=true
  ·have: ¬ (aR a b=true):=by
    rw[ln] at*
    omega
   simp[this]
  ·simp[h]) (km c1 l1 c2 l2)
 exact List.Pairwise.imp (λh=>by simpa using h) this
theorem Aa{c1:Ctx}{l1:List aj}{c2:Ctx}{l2:List aj}(h1:gE c1 l1)(h2:gE c2 l2):(lG c1 l1 c2 l2).Pairwise λa b=>aR a b=true:=
 vR (Nc _ _ _ _) (Cq (Bt _ _ _ _) (Ck h1 h2))
theorem SL{c1:Ctx}{l1:List aj}{c2:Ctx}{l2 l':List aj}(h1:gE c1 l1)(h2:gE c2 l2)(hp:l'.Perm (km c1 l1 c2 l2))(hs:l'.Pairwise λa b=>aR b a=false):l'=lG c1 l1 c2 l2:=
 x7 (vR hs (Cq hp (Ck h1 h2))) (Aa h1 h2) λv=>by rw[hp.mem_iff,CM]
theorem EU(a:ByteArray):Go.Lib.minS a a=a:=by simp[Go.Lib.minS]
theorem H6{l:List aj}{v u:aj}(h:mX l v=some u):u∈l/\u.1=v.1/\u.2.1=v.2.1:=by
 refine⟨List.mem_of_find?_eq_some h,?_⟩
 simpa using List.find?_some h
def kN(a b:Ctx×List aj):Ctx×List aj:=(aL a.1 b.1,lG a.1 a.2 b.1 b.2)
def eN(K:aF)(rs:List ai):aF:=rs.foldl (λK r=>bq K r.1 (kN (K r.1) r.2)) K
theorem q8{s:ByteArray}:∀{rs:List ai} {K:aF},(∀r∈rs,r.1≠s)->eN K rs s=K s
 |[],_,_=>rfl
 |r::rs,K,h=>by
  have:=q8 (rs:=rs) (K:=bq K r.1 (kN (K r.1) r.2)) λx hx=>h x (by simp[hx])
  rw[show eN K (r::rs)=eN (bq K r.1 (kN (K r.1) r.2)) rs from rfl,this,bq,AS λe=>h r (by simp) e.symm]
theorem Ek{r:ai}:∀{rs:List ai} {K:aF},(rs.map (·.1)).Pairwise (·≠·)->r∈rs->eN K rs r.1=kN (K r.1) r.2
 |[],_,_,h=>by cases h
 |x::rs,K,hp,h=>by
  have hp':=YE.1 hp
  rw[show eN K (x::rs)=eN (bq K x.1 (kN (K x.1) x.2)) rs from rfl]
  rcases Yv.1 h with rfl|h
  ·rw[q8 λy hy e=>hp'.1 y.1 (ZG hy) e.symm,bq,AT rfl]
  ·rw[Ek hp'.2 h,bq,AS λe=>hp'.1 r.1 (ZG h) e.symm]
theorem C5(K:aF)(a b:List ai):eN K (a++b)=eN (eN K a) b:=by
 simp[eN,aac]
theorem kj{ws:List Wr}{kn go:Nat->Bool}{k:Nat}{v:aj}:v∈expected ws kn go k↔∃j x,ws[j]? =some x/\x.2.1=k/\x.1< 4/\kn j=true/\go j=false/\v=(x.1,x.2.2.1,x.2.2.2):=by
 simp only[expected,Zk,YV]
 constructor
 ·rintro⟨b,hb,hv⟩
  obtain⟨j,x,_,hx,h1,h2,h3,h4,h5⟩:=rp hv
  exact⟨j,x,hx,h1,by omega,h3,h4,by rw[h5,h2]⟩
 ·rintro⟨j,x,hx,h1,h2,h3,h4,h5⟩
  refine⟨x.1,h2,?_⟩
  simp only[bV,Zk,YV]
  refine⟨j,(YP.1 hx).1,?_⟩
  simp only[hx,h1,h3,h4,and_self,XZ,h5,Y4]
theorem Bf{ws:List Wr}(hN:qo ws){i j:Nat}{x y:Wr}(hx:ws[i]? =some x)(hy:ws[j]? =some y)(h1:x.1=y.1)(h2:x.2.1=y.2.1)(h3:x.2.2.1=y.2.2.1):i=j:=by
 rcases Nat.lt_trichotomy i j with h|h|h
 ·have:=hN i j x y h hx hy h1 h2;omega
 ·exact h
 ·have:=hN j i y x h hy hx h1.symm h2.symm;omega
theorem Xe{ws:List Wr}(hN:qo ws){k:Nat}{c1 c2:Ctx}{k1 g1 k2 g2:Nat->Bool}(h1:Good ws k c1 k1)(h2:Good ws k c2 k2)(s1:∀j,g1 j=true->k1 j=true)(s2:∀j,g2 j=true->k2 j=true)(o1:gE c1 (expected ws k1 g1 k))(o2:gE c2 (expected ws k2 g2 k)):
  lG c1 (expected ws k1 g1 k) c2 (expected ws k2 g2 k)=expected ws (λj=>k1 j||k2 j) (λj=>g1 j||g2 j) k:=by
 have hdot:∀{a b:Nat->Bool} {c:Ctx} {v:aj},gE c (expected ws a b k)->v∈expected ws a b k->mX (expected ws a b k) v=some v:=λ{a b c v} o hv=>by
  obtain⟨i,hi,rfl⟩:=ZW hv
  exact Cs o.sorted hi ⟨rfl,rfl⟩
 have sub:∀{k1 g1:Nat->Bool},(∀j,g1 j=true->k1 j=true)->∀{j},k1 j=false->g1 j=false:=λ{k1 g1} s {j} h=>by
  cases hg:g1 j with
  |false=>rfl
  |true=>rw[s j hg] at h;cases h
 refine x7 (Aa o1 o2) (yI hN _ _ _) λv=>?_
 rw[CM,Hs]
 constructor
 ·rintro (⟨hv,hs⟩|⟨u,hu,e⟩)
  ·obtain⟨j,x,hx,e1,e2,e3,e4,rfl⟩:=kj.1 hv
   have hk:k1 j=false:=by
    cases hk:k1 j with
    |false=>rfl
    |true=>
     have:=((h1.1 j x hx).1 hk).2
     simp only[gO,ZM] at hs
     exact absurd this hs
   exact kj.2 ⟨j,x,hx,e1,e2,by simp[e3],by simp[e4,sub s1 hk],rfl⟩
  ·obtain⟨j,x,hx,e1,e2,e3,e4,rfl⟩:=kj.1 hu
   unfold df at e
   split at e
   ·rename_i y hy
    obtain⟨hm,d1,d2⟩:=H6 hy
    obtain⟨j',x',hx',f1,f2,f3,f4,rfl⟩:=kj.1 hm
    obtain rfl:=Bf hN hx' hx d1 (f1.trans e1.symm) d2
    obtain rfl:=YG (hx.symm.trans hx')
    cases e
    exact kj.2 ⟨j',x,hx,e1,e2,by simp[e3],by simp[e4,f4],by simp[EU]⟩
   ·split at e
    ·cases e
    ·rename_i hn hs
     cases e
     have hk:k2 j=false:=by
      cases hk:k2 j with
      |false=>rfl
      |true=>
       have:=((h2.1 j x hx).1 hk).2
       exact absurd (by simpa[gO] using this) hs
     exact kj.2 ⟨j,x,hx,e1,e2,by simp[e3],by simp[e4,sub s2 hk],rfl⟩
 ·intro hv
  obtain⟨j,x,hx,e1,e2,e3,e4,rfl⟩:=kj.1 hv
  simp only[Bool.or_eq_false_iff] at e4
  cases hk1:k1 j with
  |true=>
   right
   have hu:(x.1,x.2.2.1,x.2.2.2)∈expected ws k1 g1 k:=kj.2 ⟨j,x,hx,e1,e2,hk1,e4.1,rfl⟩
   refine⟨_,hu,?_⟩
   cases hk2:k2 j with
   |true=>
    have hu2:(x.1,x.2.2.1,x.2.2.2)∈expected ws k2 g2 k:=kj.2 ⟨j,x,hx,e1,e2,hk2,e4.2,rfl⟩
    unfold df
    rw[hdot o2 hu2]
    simp[EU]
   |false=>
    have hn:mX (expected ws k2 g2 k) (x.1,x.2.2.1,x.2.2.2)=none:=zd λu hu hd=>by
     obtain⟨j',x',hx',f1,f2,f3,f4,rfl⟩:=kj.1 hu
     obtain rfl:=Bf hN hx' hx hd.1 (f1.trans e1.symm) hd.2
     rw[hk2] at f3;cases f3
    have hs:gO c2 (x.1,x.2.2.1,x.2.2.2)=false:=by
     simp only[gO,ZM]
     intro hle
     have:=(h2.1 j x hx).2 ⟨e1,hle⟩
     rw[hk2] at this;cases this
    unfold df
    rw[hn,hs]
    simp
  |false=>
   left
   have hk2:k2 j=true:=by simpa[hk1] using e3
   refine⟨kj.2 ⟨j,x,hx,e1,e2,hk2,e4.2,rfl⟩,?_⟩
   simp only[gO,ZM]
   intro hle
   have:=(h1.1 j x hx).2 ⟨e1,hle⟩
   rw[hk1] at this;cases this
theorem yZ{ws:List Wr}(hS:kB ws)(hl:ws.length<=80)(dx:∀x∈ws,x.2.2.2.size<=12){k:Nat}{c:Ctx}{kn go:Nat->Bool}(h:Good ws k c kn):gE c (expected ws kn go k) where
 ctx:=λi _=>by have h1:=h.2.2 i;have h2:=sW ws i k;omega
 iX:=λv hv=>by
  obtain⟨j,x,hx,e1,e2,e3,e4,rfl⟩:=kj.1 hv
  exact⟨e2,(hS.le hx).1,dx x (aaj hx),((h.1 j x hx).1 e3).2⟩
 sorted:=yI hS.num _ _ _
end Go.Proofs.YtldmcdeibiclkaaGreatDoorQ
