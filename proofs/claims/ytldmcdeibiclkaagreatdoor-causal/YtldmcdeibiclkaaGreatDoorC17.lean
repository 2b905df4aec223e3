/-
  Toward causal_holds: Contracts: cmp.Or at two numbers, and the comparison of two versions by their dots.
-/
import Derived.Test.YtldmcdeibiclkaaGreatDoorC16
import Derived.Deep.RegionHeld3
import Derived.Sort.Grow
import Derived.WalkKit
import Derived.WalkSpells
import Derived.WalkLawsBesides
import Derived.Deep.QuietTactic
import Derived.BigQuiet
import Derived.Deep.AppendLies
import Derived.WalkSmall
import Derived.Shelf.SlGeneric
import Derived.Shelf.Strconv.Clone
import Derived.Shelf.SlSortCmp.WholeK
import Derived.Ground.NamesProg
import Derived.Ground.SlsfProg
import Derived.Laws.StructEq
set_option linter.unusedVariables false
set_option linter.unusedSimpArgs false
set_option maxRecDepth 100000
set_option maxHeartbeats 20000000
namespace Go.Proofs.YtldmcdeibiclkaaGreatDoorQ
open Go.RowKit
def ky(x y:Int):Int:=if x=0 then y else x
theorem Xz(b off cap:Nat)(x y:Int)(w:World)(h0:w.cell? ⟨b,off,none⟩=some (.int .i64 x))(h1:w.cell? ⟨b,off+1,none⟩=some (.int .i64 y)):
  Calls aa.prog 86 #[.slice (some ⟨b,off,none⟩) 2 cap] w λe w'=>e= .returned (.int .i64 (ky x y))/\w'=w:=by
 go_enter aa.func86,aa.ntmps86
 go_wp2
 go_loop [8] (λi=>∃k:Nat,k<=2/\i= .int .i64 k/\Hid ((0< k->x=0)/\(1< k->y=0))) (λi=>2 - (intOf i).toNat)
 case atStart=>exact⟨0,by omega,rfl,λh=>by omega,λh=>by omega⟩
 case round=>
  obtain⟨k,hk,rfl,hall⟩:=hrel
  by_cases hlt:k< 2
  ·have hk':k=0\/k=1:=by omega
   rcases hk' with rfl|rfl
   ·by_cases hx:x=0
    ·subst hx
     go_wp2
     exact⟨⟨1,by omega,rfl,λ_=>by trivial,λh=>by omega⟩,by simp[intOf]⟩
    ·have hx':(x==0)=false:=by simp[hx]
     have hx2:(x !=0)=true:=by simp[hx]
     go_wp2
     go_ret
     exact⟨pQ (by simp[ky,hx]),rfl⟩
   ·have hx:=hall.out.1 (by omega)
    subst hx
    by_cases hy:y=0
    ·subst hy
     go_wp2
     exact⟨⟨2,by omega,rfl,λ_=>by trivial,λ_=>by trivial⟩,by simp[intOf]⟩
    ·have hy':(y==0)=false:=by simp[hy]
     have hy2:(y !=0)=true:=by simp[hy]
     go_wp2
     go_ret
     exact⟨pQ (by simp[ky]),rfl⟩
  ·obtain rfl:k=2:=by omega
   have hx:=hall.out.1 (by omega)
   have hy:=hall.out.2 (by omega)
   subst hx hy
   go_wp2
   go_ret
   exact⟨pQ (by simp[ky]),rfl⟩
def gC(x y:Int):Int:=if x< y then -1 else if y< x then 1 else 0
def fV(a b:aj):Int:=ky (gC a.rep b.rep) (gC a.n b.n)
theorem xQ(ra na rb nb:Int)(va vb:ByteArray)(w:World):
  Calls aa.prog 66 #[.agg #[.int .i64 ra,.int .i64 na,.string va],.agg #[.int .i64 rb,.int .i64 nb,.string vb]] w λe w'=>e= .returned (.int .i64 (ky (gC ra rb) (gC na nb)))/\∃q os',w'=Go.Sort.grow (w.drewN q) os':=by
 have hc1:∀W,Calls aa.prog 87 #[.int .i64 ra,.int .i64 rb] W λe w'=>e= .returned (.int .i64 (gC ra rb))/\w'=W:=λW=>Cx ra rb W
 have hc2:∀W,Calls aa.prog 87 #[.int .i64 na,.int .i64 nb] W λe w'=>e= .returned (.int .i64 (gC na nb))/\w'=W:=λW=>Cx na nb W
 have H1:Hid _:=hc1
 have H2:Hid _:=hc2
 clear hc1 hc2
 generalize gC ra rb=r1 at*
 generalize gC na nb=r2 at*
 go_enter aa.func66,aa.ntmps66
 go_wp2
 go_region_held3 (λw'=>w'.cell? ⟨w.heap.size,0,none⟩=some (.int .i64 ra)/\w'.cell? ⟨w.heap.size,1,none⟩=some (.int .i64 na)/\w'.cell? ⟨w.heap.size+1,0,none⟩=some (.int .i64 rb)/\w'.cell? ⟨w.heap.size+1,1,none⟩=some (.int .i64 nb)) (go_keep) (first
  |(go_at_call_of 87 (Value.int .i64 ra);refine (H1.out _).mono ?_;rintro e w' ⟨rfl,rfl⟩)
  |(go_at_call_of 87 (Value.int .i64 na);refine (H2.out _).mono ?_;rintro e w' ⟨rfl,rfl⟩)
  |(go_at_call 86;refine (Xz _ _ _ r1 r2 _ (by go_simp) (by go_simp)).mono ?_;rintro e w' ⟨rfl,rfl⟩))
 go_wp2
 go_ret
 exact⟨rfl,1,_,by rw[Go.Sort.alloc_eq_grow,Go.Sort.alloc_eq_grow,Go.Sort.alloc_eq_grow,Go.Sort.grow_grow,Go.Sort.grow_grow];rfl⟩
theorem tP(W:World)(a b c d:Value):
  (Instr.index 102 (.agg #[a,b,c,d]) (.int .i64 0)).run aa.prog W= .ok a W/\
  (Instr.index 102 (.agg #[a,b,c,d]) (.int .i64 1)).run aa.prog W= .ok b W/\
  (Instr.index 102 (.agg #[a,b,c,d]) (.int .i64 2)).run aa.prog W= .ok c W/\
  (Instr.index 102 (.agg #[a,b,c,d]) (.int .i64 3)).run aa.prog W= .ok d W:=
 ⟨by kernel_rfl,by kernel_rfl,by kernel_rfl,by kernel_rfl⟩
theorem QQ{c:Ctx}(h:∀j,j< 4->0<=c j/\c j<=1000000):fX c=true:=by
 simp only[fX,ew,IT,Yt]
 exact⟨h 0 (by omega),h 1 (by omega),h 2 (by omega),h 3 (by omega)⟩
theorem SF{c:Ctx}{k:Nat}(hk:k< 4)(h: ¬ (0<=c k/\c k<=1000000)):fX c=false:=by
 cases hs:fX c with
 |false=>rfl
 |true=>
  simp only[fX,ew,IT,Yt] at hs
  rcases fg hk with rfl|rfl|rfl|rfl
  ·exact absurd hs.1 h
  ·exact absurd hs.2.1 h
  ·exact absurd hs.2.2.1 h
  ·exact absurd hs.2.2.2 h
theorem qO(c:Ctx)(w:World):
  Calls aa.prog 38 #[cA c] w λe w'=>e= .returned (.bool (fX c))/\Below w.heap.size w w':=by
 go_enter aa.func38,aa.ntmps38
 go_wp2
 go_loop [6] (λi=>∃k:Nat,k<=4/\i= .int .i64 k/\∀j,j< k->0<=c j/\c j<=1000000) (λi=>4 - (intOf i).toNat)
 case atStart=>exact⟨0,by omega,rfl,λj hj=>by omega⟩
 case round=>
  obtain⟨k,hk,rfl,hall⟩:=hrel
  have Hall:=(show Hid _ from hall)
  clear hall
  by_cases hlt:k< 4
  ·by_cases hb:0<=c k/\c k<=1000000
   ·obtain⟨hb1,hb2⟩:=hb
    have hall':Hid (∀j,j< k+1->0<=c j/\c j<=1000000):=λj hj=>by
     by_cases e:j=k
     ·subst e;exact⟨hb1,hb2⟩
     ·exact Hall.out j (by omega)
    clear Hall
    rcases fg hlt with rfl|rfl|rfl|rfl
    all_goals
     have hix:=tP
     go_wp2
     exact⟨⟨_,by omega,by go_num,hall'.out⟩,by simp[intOf]⟩
   ·have hs:Hid (fX c=false):=SF hlt hb
    clear Hall
    have hb':c k< 0\/1000000< c k:=by omega
    clear hb
    rcases hb' with hb'|hb'
    all_goals
     try (have hb0:0<=c k:=by omega)
     rcases fg hlt with rfl|rfl|rfl|rfl
     all_goals
      have hix:=tP
      go_wp2
      go_ret
      exact⟨mx hs.out.symm,(By _ _).alloc (AI _) _⟩
  ·obtain rfl:k=4:=by omega
   have hs:Hid (fX c=true):=QQ Hall.out
   clear Hall
   go_wp2
   go_ret
   exact⟨mx hs.out.symm,(By _ _).alloc (AI _) _⟩
theorem Zr{B:Nat}{a w:World}(h:Below B a w)(n:Nat):Below B a (w.drewN n):=⟨h.os,h.tape,h.output,h.size,h.block⟩
theorem sf(c:Ctx)(r:Nat)(n:Int)(w:World)(hr:r< 4):
  Calls aa.prog 83 #[cA c,.agg #[.int .i64 r,.int .i64 n]] w λe w'=>e= .returned (.bool (decide (n<=c r)))/\Below w.heap.size w w':=by
 rcases fg hr with rfl|rfl|rfl|rfl
 all_goals
  go_enter aa.func83,aa.ntmps83
  go_wp2
  go_quiet (fail)
  go_wp2
  go_ret
  exact⟨rfl,Zr (((By _ _).alloc (AI _) _).alloc (by simp) _) _⟩
theorem uG{d x y:Int}(h:d=x):(if d< y then y else d)=max x y:=by
 subst h;rw[Int.max_def];split<;>split<;>omega
theorem nM(a b:Ctx)(w:World):
  Calls aa.prog 64 #[cA a,cA b] w λe w'=>e= .returned (cA (aL a b))/\Below w.heap.size w w':=by
 go_enter aa.func64,aa.ntmps64
 go_wp2
 go_loopw [8] (λi w'=>∃k:Nat,k<=4/\i= .int .i64 k/\∃d0 d1 d2 d3:Int,w'=((w.alloc (.cells #[.int .i64 d0,.int .i64 d1,.int .i64 d2,.int .i64 d3] 102)).alloc (.cells #[.int .i64 (b 0),.int .i64 (b 1),.int .i64 (b 2),.int .i64 (b 3)] 102)).alloc (.cells #[.int .i64 0,.int .i64 0,.int .i64 0,.int .i64 0] 102)/\Hid (d0=if 0< k then aL a b 0 else a 0)/\Hid (d1=if 1< k then aL a b 1 else a 1)/\Hid (d2=if 2< k then aL a b 2 else a 2)/\Hid (d3=if 3< k then aL a b 3 else a 3)) (λi _=>4 - (intOf i).toNat)
 case atStart=>exact⟨0,by omega,rfl,_,_,_,_,rfl,rfl,rfl,rfl,rfl⟩
 case round=>
  obtain⟨k,hk,rfl,d0,d1,d2,d3,rfl,h0,h1,h2,h3⟩:=hrel
  by_cases hlt:k< 4
  ·have hix:=tP
   rcases fg hlt with rfl|rfl|rfl|rfl
   ·go_wp2
    exact⟨⟨1,by omega,rfl,_,_,_,_,rfl,(by first|exact uG h0.out|exact congrArg (max · _) h0.out),h1,h2,h3⟩,by simp[intOf]⟩
   ·go_wp2
    exact⟨⟨2,by omega,rfl,_,_,_,_,rfl,h0,(by first|exact uG h1.out|exact congrArg (max · _) h1.out),h2,h3⟩,by simp[intOf]⟩
   ·go_wp2
    exact⟨⟨3,by omega,rfl,_,_,_,_,rfl,h0,h1,(by first|exact uG h2.out|exact congrArg (max · _) h2.out),h3⟩,by simp[intOf]⟩
   ·go_wp2
    exact⟨⟨4,by omega,rfl,_,_,_,_,rfl,h0,h1,h2,(by first|exact uG h3.out|exact congrArg (max · _) h3.out)⟩,by simp[intOf]⟩
  ·obtain rfl:k=4:=by omega
   go_wp2
   refine YB (v:=cA (aL a b)) ?_ rfl ⟨rfl,?_⟩
   ·simp[results,aa.results64,go_sem]
    exact⟨h0.out,h1.out,h2.out,h3.out⟩
   ·exact (((By _ _).alloc (AI _) _).alloc (by simp) _).alloc (by simp;omega) _
def aU(l:List aj):List Value:=l.flatMap dw
theorem xo(l:List aj):(aU l).length=l.length*3:=by
 induction l with
 |nil=>rfl
 |cons v l ih=>simp only[aU,Zd,Yh,Ys] at*;rw[ih];simp[dw];omega
theorem mE(a b:List aj):aU (a++b)=aU a++aU b:=by simp[aU]
def aQ(l:List aj)(c:Ctx):List aj:=l.filter λv=>!gO c v
def aC(w:World)(sv:Value)(l:List aj):Prop:=w.ownsRow 0 144 3 sv l.length (aU l)
theorem we(l:List aj)(k:Nat)(h:k< l.length):
  (aU l)[k*3]? =some (.int .i64 l[k].rep)/\(aU l)[k*3+1]? =some (.int .i64 l[k].n)/\(aU l)[k*3+2]? =some (.string l[k].val):=by
 induction l generalizing k with
 |nil=>simp at h
 |cons v l ih=>
  have e:aU (v::l)=dw v++aU l:=by simp[aU]
  cases k with
  |zero=>simp[e,dw]
  |succ k=>
   have h':k< l.length:=by simpa using h
   have:=ih k h'
   rw[e]
   simp only[aab]
   have e0:(k+1)*3=k*3+3:=by omega
   rw[e0]
   refine⟨?_,?_,?_⟩
   ·rw[Yx (by simp[dw])];simpa[dw] using this.1
   ·rw[Yx (by simp[dw])];simp only[dw,Ys,Zc];rw[show k*3+3+1 - (0+1+1+1)=k*3+1 from by omega];exact this.2.1
   ·rw[Yx (by simp[dw])];simp only[dw,Ys,Zc];rw[show k*3+3+2 - (0+1+1+1)=k*3+2 from by omega];exact this.2.2
theorem aC.cells{w:World}{sv:Value}{l:List aj}(h:aC w sv l){k:Nat}(hk:k< l.length):
  ∃g cap,sv= .slice (some ⟨g,0,none⟩) l.length cap/\g< w.heap.size/\l.length<=cap/\cap<=maxLen/\
   w.cell? ⟨g,k*3,none⟩=some (.int .i64 l[k].rep)/\w.cell? ⟨g,k*3+1,none⟩=some (.int .i64 l[k].n)/\w.cell? ⟨g,k*3+2,none⟩=some (.string l[k].val):=by
 obtain⟨h1,h2⟩:=h
 rcases h2 with ⟨_,h2⟩|⟨g,cap,cur,hv,_,hh,hn,hc,hs,ht⟩
 ·omega
 ·refine⟨g,cap,hv,(IN.1 hh).1,hn,hc,?_⟩
  have hf:=we l k hk
  have key:∀j v,j< l.length*3->(aU l)[j]? =some v->w.cell? ⟨g,j,none⟩=some v:=by
   intro j v hj hv
   simp only[World.cell?,hh]
   rw[←ht,YJ,AT hj] at hv
   simpa using hv
  exact⟨key _ _ (by omega) hf.1,key _ _ (by omega) hf.2.1,key _ _ (by omega) hf.2.2⟩
theorem xz(w:World)(cs:Array Value)(t:TypeId)(o:Nat):(w.alloc (.cells cs t)).cell? ⟨w.heap.size,o,none⟩=cs[o]? :=by
 simp only[World.cell?,IS]
 rfl
theorem sN{w w':World}{base:Nat}{e:TypeId}{size:Nat}{v:Value}{n:Nat}{xs:List Value}(h:w.ownsRow base e size v n xs)(hk:∀g,g< w.heap.size->v.ownBlock=some g->w'.heap[g]? =w.heap[g]?):w'.ownsRow base e size v n xs:=by
 refine⟨h.1,?_⟩
 rcases h.2 with h2|⟨g,cap,cur,hv,hg,hh,r⟩
 ·exact Or.inl h2
 ·exact Or.inr ⟨g,cap,cur,hv,hg,by rw[hk g (IN.1 hh).1 (by rw[hv];rfl)];exact hh,r⟩
theorem dp{w w':World}{B base:Nat}{e:TypeId}{size:Nat}{v:Value}{n:Nat}{xs:List Value}(h:w.ownsRow base e size v n xs)(hb:Below B w w')(hB:w.heap.size<=B):w'.ownsRow base e size v n xs:=
 sN h λg hg _=>hb.block g (by omega)
theorem cY{w:World}{base base':Nat}{e:TypeId}{size:Nat}{v:Value}{n:Nat}{xs:List Value}(h:w.ownsRow base e size v n xs)(hb:base'<=base):w.ownsRow base' e size v n xs:=by
 refine⟨h.1,?_⟩
 rcases h.2 with h2|⟨g,cap,cur,hv,hg,r⟩
 ·exact Or.inl h2
 ·exact Or.inr ⟨g,cap,cur,hv,by omega,r⟩
theorem aa.oa:(aa.prog.info? 144).map (λi=>(i.zero,i.size,i.bytes))=some (some (.agg #[.int .i64 0,.int .i64 0,.string ⟨#[]⟩]),3,32):=by kernel_rfl
theorem N6(l:List aj)(c:Ctx)(k:Nat)(h:k< l.length):aQ (l.take (k+1)) c=aQ (l.take k) c++(if gO c l[k]=true then [] else [l[k]]):=by
 rw[Yu h]
 simp only[aQ,List.filter_append]
 congr 1
 cases hs:gO c l[k]<;>simp[hs]
theorem mg(c:Ctx)(sv:Value)(l:List aj)(seen:Ctx)(w:World)(h:aC w sv l)(hr:∀v∈l,v.rep< 4)(hlen:l.length<=100000):
  Calls aa.prog 63 #[.agg #[.int .i64 (c 0),.int .i64 (c 1),.int .i64 (c 2),.int .i64 (c 3),sv],cA seen] w λe w'=>∃v',e= .returned v'/\w'.ownsRow w.heap.size 144 3 v' (aQ l seen).length (aU (aQ l seen))/\Below w.heap.size w w':=by
 obtain⟨ad,cap,hsv,hcap⟩: ∃ad cap,sv= .slice ad l.length cap/\(cap:Int)<=9223372036854775807:=by
  rcases h.2 with ⟨h1,h2⟩|⟨g,cap,cur,hv,_,_,_,h3,_⟩
  ·exact⟨_,_,by rw[h1,h2],by simp⟩
  ·exact⟨_,_,hv,by unfold maxLen at h3;omega⟩
 subst hsv
 have H:Hid _:=h
 have HR:Hid _:=hr
 clear h hr
 go_enter aa.func63,aa.ntmps63
 go_wp2
 go_loopw [5,11] (λlf i wr=>∃k:Nat,k<=l.length/\i= .int .i64 k/\Hid (wr.ownsRow (w.heap.size+2) 144 3 lf (aQ (l.take k) seen).length (aU (aQ (l.take k) seen)))/\Hid (Below (w.heap.size+2) ((w.alloc (.cells #[.int .i64 (c 0),.int .i64 (c 1),.int .i64 (c 2),.int .i64 (c 3),.slice ad l.length cap] 106)).alloc (.cells #[.int .i64 (seen 0),.int .i64 (seen 1),.int .i64 (seen 2),.int .i64 (seen 3)] 102)) wr)) (λ_ i _=>l.length - (intOf i).toNat)
 case atStart=>exact⟨0,by omega,rfl,⟨by simp[aU,aQ],Or.inl ⟨rfl,by simp[aQ]⟩⟩,By _ _⟩
 case round=>
  obtain⟨k,hk,rfl,aA,hbel⟩:=hrel
  by_cases hlt:k< l.length
  ·obtain⟨g,cap',hsv',hg,_,_,c0,c1,c2⟩:=aC.cells H.out hlt
   have hrk:Hid (l[k].rep< 4):=HR.out _ (X9 hlt)
   have hsn:=N6 l seen k hlt
   have HS:Hid _:=hsn
   clear hsn
   generalize hrr:l[k].rep=r at*
   generalize hnn:l[k].n=n at*
   generalize hvv:l[k].val=s at*
   have Hvk:Hid (l[k]=(r,n,s)):=by rw[←hrr,←hnn,←hvv];rfl
   clear hrr hnn hvv
   cases hsv'
   have hb:=hbel.out
   have hsz:w.heap.size+2<=wr.heap.size:=by have:=hb.size;simp at this;omega
   have old:∀o,wr.cell? ⟨g,o,none⟩=w.cell? ⟨g,o,none⟩:=λo=>by
    rw[hb.cell (p:=⟨g,o,none⟩) (by simp;omega),ZN _ _ _ (by simp;omega),ZN _ _ _ (by simp;omega)]
   have d0:wr.cell? ⟨g,k*3,none⟩=some (.int .i64 r):=(old _).trans c0
   have d1:wr.cell? ⟨g,k*3+1,none⟩=some (.int .i64 n):=(old _).trans c1
   have d2:wr.cell? ⟨g,k*3+2,none⟩=some (.string s):=(old _).trans c2
   have sbox:∀o,wr.cell? ⟨w.heap.size+1,o,none⟩=#[Value.int .i64 (seen 0),.int .i64 (seen 1),.int .i64 (seen 2),.int .i64 (seen 3)][o]? :=λo=>by
    rw[hb.cell (p:=⟨w.heap.size+1,o,none⟩) (by simp)]
    exact World.cell?_alloc_at _ _ _ _ (by simp)
   have s0:=sbox 0
   have s1:=sbox 1
   have s2:=sbox 2
   have s3:=sbox 3
   simp at s0 s1 s2 s3
   have g63:(k:Int)< (l.length:Int):=by omega
   have k0:(0:Int)<=(k:Int):=by omega
   have Hc:Hid _:=And.intro c0 (And.intro c1 c2)
   clear c0 c1 c2 old sbox hb
   have a0:∀ob,(wr.alloc ob).cell? ⟨w.heap.size+1,0,none⟩=some (.int .i64 (seen 0)):=λob=>by rw[ZN _ _ _ (by simp;omega)];exact s0
   have a1:∀ob,(wr.alloc ob).cell? ⟨w.heap.size+1,1,none⟩=some (.int .i64 (seen 1)):=λob=>by rw[ZN _ _ _ (by simp;omega)];exact s1
   have a2:∀ob,(wr.alloc ob).cell? ⟨w.heap.size+1,2,none⟩=some (.int .i64 (seen 2)):=λob=>by rw[ZN _ _ _ (by simp;omega)];exact s2
   have a3:∀ob,(wr.alloc ob).cell? ⟨w.heap.size+1,3,none⟩=some (.int .i64 (seen 3)):=λob=>by rw[ZN _ _ _ (by simp;omega)];exact s3
   clear s0 s1 s2 s3
   have hrk':=hrk.out
   have e1:∀w1,Below (wr.heap.size+1) (wr.alloc (.cells #[.int .i64 r,.int .i64 n,.string s] 144)) w1->Below (w.heap.size+2) ((w.alloc (.cells #[.int .i64 (c 0),.int .i64 (c 1),.int .i64 (c 2),.int .i64 (c 3),.slice (some ⟨g,0,none⟩) l.length cap] 106)).alloc (.cells #[.int .i64 (seen 0),.int .i64 (seen 1),.int .i64 (seen 2),.int .i64 (seen 3)] 102)) w1:=λw1 hw=>(hbel.out.alloc (by omega) _).trans (hw.mono (by omega))
   have E1:Hid _:=e1
   clear e1
   have E2:Hid (∀w1,Below (wr.heap.size+1) (wr.alloc (.cells #[.int .i64 r,.int .i64 n,.string s] 144)) w1->w1.ownsRow (w.heap.size+2) 144 3 u5 (aQ (List.take k l) seen).length (aU (aQ (List.take k l) seen))):=λw1 hw=>dp (dp aA.out ((By wr.heap.size wr).alloc (AI _) _) (AI _)) hw (by simp)
   have eS:gO seen l[k]=decide (n<=seen r):=by rw[Hvk.out];rfl
   have HQ:Hid _:=eS
   clear eS
   by_cases hseen:n<=seen r
   ·have HS':Hid (aQ (List.take (k+1) l) seen=aQ (List.take k l) seen):=by
     have:=HS.out;rw[HQ.out,AT (by simpa using hseen),Zf] at this;exact this
    clear HS
    have hd:decide (n<=seen r)=true:=by simpa using hseen
    clear hseen
    go_wp2_with (go_at_call 83;refine (sf seen r n _ hrk').mono ?_;rintro e w1 ⟨rfl,hb1⟩;simp at hb1)
    exact⟨⟨k+1,by omega,by go_num,by rw[HS'.out];exact E2.out _ hb1,E1.out _ hb1⟩,by simp[intOf];omega⟩
   ·have HS':Hid (aQ (List.take (k+1) l) seen=aQ (List.take k l) seen++ [(r,n,s)]):=by
     have:=HS.out;rw[HQ.out,AS (by simpa using hseen),Hvk.out] at this;exact this
    clear HS
    obtain⟨i0,hi0,hz0,hz1,hz2⟩:=Yk aa.oa
    have hd:decide (n<=seen r)=false:=by simpa using hseen
    clear hseen
    have hul:Hid ((aQ (List.take k l) seen).length<=100000):=X0 (aaa _ _) (by simp;omega)
    go_wp2_with (first
     |(go_at_call 83;refine (sf seen r n _ hrk').mono ?_;rintro e w1 ⟨rfl,hb1⟩;simp at hb1;have v0:w1.cell? ⟨wr.heap.size,0,none⟩=some (.int .i64 r):=(hb1.cell (p:=⟨wr.heap.size,0,none⟩) (by simp)).trans (xz _ _ _ _);have v1:w1.cell? ⟨wr.heap.size,1,none⟩=some (.int .i64 n):=(hb1.cell (p:=⟨wr.heap.size,1,none⟩) (by simp)).trans (xz _ _ _ _);have v2:w1.cell? ⟨wr.heap.size,2,none⟩=some (.string s):=(hb1.cell (p:=⟨wr.heap.size,2,none⟩) (by simp)).trans (xz _ _ _ _);have z1:w.heap.size+2<=w1.heap.size:=by (have:=hb1.size;simp at this;omega))
     |(at_builtin;refine Zq _ rfl _ _ _ rfl (w.heap.size+2) 144 i0 _ 3 32 aa.underlying104 hi0 hz0 hz1 hz2 rfl (by omega) u5 _ _ rfl ((E2.out _ hb1).alloc _) ⟨w1.heap.size,0,none⟩ 1 1 [.int .i64 r,.int .i64 n,.string s] rfl rfl (Yo (cs:=#[.int .i64 r,.int .i64 n,.string s]) (t:=144) (fr:=(0,0)) (IS w1 _)) (by simp[Value.oneCell']) (by omega) (by have:=hul.out;unfold maxLen;omega) (by have:=hul.out;omega) (by simp;omega) (w1.heap.size+1) (by simp) ?_;intro gg capn w2 hown2 hgrow hat hlt2))
    refine⟨⟨k+1,by omega,by go_num,?_,?_⟩,by simp[intOf];omega⟩
    ·rw[HS'.out,mE,Yh];exact hown2
    ·have hB:=(E1.out _ hb1).alloc (by omega) (.cells #[.int .i64 r,.int .i64 n,.string s] 144)
     refine hB.grown hgrow (by simp;omega) λq hq=>?_
     rcases aA.out.2 with ⟨h1,_⟩|⟨g1,cap1,cur1,hv1,hg1,_⟩
     ·rw[h1] at hq;cases hq
     ·rw[hv1] at hq;simp[Value.ownBlock] at hq;omega
  ·have hkl:k=l.length:=by omega
   have HK:Hid (List.take k l=l):=ZP (by omega)
   have HO:Hid _:=aA.out
   clear aA
   go_wp2
   go_ret
   refine⟨_,rfl,?_,?_⟩
   ·have:=HO.out;rw[HK.out] at this;exact cY this (by omega)
   ·exact ((((By _ _).alloc (AI _) _).alloc (by simp) _).trans (hbel.out.mono (by omega)))
theorem iP{w w1:World}{A B C:Array Value}{ta tb tc:TypeId}(hb:Below (w.heap.size+3) (((w.alloc (.cells A ta)).alloc (.cells B tb)).alloc (.cells C tc)) w1):
  (∀o,w1.cell? ⟨w.heap.size,o,none⟩=A[o]?)/\(∀o,w1.cell? ⟨w.heap.size+1,o,none⟩=B[o]?)/\(∀o,w1.cell? ⟨w.heap.size+1+1,o,none⟩=C[o]?)/\(∀o,w1.frozen? ⟨w.heap.size,o,none⟩=false)/\(∀o,w1.frozen? ⟨w.heap.size+1,o,none⟩=false)/\(∀o,w1.frozen? ⟨w.heap.size+1+1,o,none⟩=false):=by
 have e0:w1.heap[w.heap.size]? =some (.cells A ta):=by
  rw[hb.block _ (by omega),OF _ _ _ (by simp;omega),OF _ _ _ (by simp)]
  exact IS w _
 have e1:w1.heap[w.heap.size+1]? =some (.cells B tb):=by
  rw[hb.block _ (by omega),OF _ _ _ (by simp)]
  have:=IS (w.alloc (.cells A ta)) (.cells B tb)
  simpa using this
 have e2:w1.heap[w.heap.size+1+1]? =some (.cells C tc):=by
  rw[hb.block _ (by omega)]
  have:=IS ((w.alloc (.cells A ta)).alloc (.cells B tb)) (.cells C tc)
  simpa using this
 refine⟨λo=>?_,λo=>?_,λo=>?_,λo=>?_,λo=>?_,λo=>?_⟩
 ·simp[World.cell?,e0]
 ·simp[World.cell?,e1]
 ·simp[World.cell?,e2]
 ·simp[World.frozen?,e0]
 ·simp[World.frozen?,e1]
 ·simp[World.frozen?,e2]
theorem aC.len{w:World}{sv:Value}{l:List aj}(h:aC w sv l): ∃ad cap,sv= .slice ad l.length cap/\(cap:Int)<=9223372036854775807:=by
 rcases h.2 with ⟨h1,h2⟩|⟨g,cap,cur,hv,_,_,_,h3,_⟩
 ·exact⟨_,_,by rw[h1,h2],by simp⟩
 ·exact⟨_,_,hv,by unfold maxLen at h3;omega⟩
theorem kM{w:World}{B:Nat}{sv:Value}{l:List aj}(h:w.ownsRow B 144 3 sv l.length (aU l)): ∃ad cap,sv= .slice ad l.length cap:=by
 rcases h.2 with ⟨h1,h2⟩|⟨g,cap,cur,hv,_⟩
 ·exact⟨_,_,by rw[h1,h2]⟩
 ·exact⟨_,_,hv⟩
abbrev bh(c:Ctx)(sv:Value):Value:= .agg #[.int .i64 (c 0),.int .i64 (c 1),.int .i64 (c 2),.int .i64 (c 3),sv]
theorem He(c:Ctx)(sv:Value)(l:List aj)(seen:Ctx)(w:World)(h:aC w sv l)(hr:∀v∈l,v.rep< 4)(hlen:l.length<=100000)(hn:(aQ l seen).length=l.length):
  Calls aa.prog 44 #[bh c sv,cA seen] w λe w'=>e= .returned (.tuple #[bh (λ_=>0) (.slice none 0 0),.int .i64 5])/\Below w.heap.size w w':=by
 obtain⟨ad,cap,rfl,hcap⟩:=h.len
 have H3:Hid (∀a b d,aC (((w.alloc a).alloc b).alloc d) (.slice ad l.length cap) l):=λa b d=>((Yc h a).alloc b).alloc d
 have HN:Hid _:=hn
 have HR:Hid _:=hr
 clear h hr hn
 go_enter aa.func44,aa.ntmps44
 go_wp2_with (go_at_call 63;refine (mg c _ l seen _ (H3.out _ _ _) HR.out hlen).mono ?_;rintro e w1 ⟨v',rfl,aA,hb⟩;obtain⟨ad',cap',hv'⟩:=kM aA;rw[HN.out] at hv';subst hv';simp at hb;obtain⟨b0,b1,b2,f0,f1,f2⟩:=iP hb;have HO:Hid _:=aA;have HB:Hid _:=hb;clear aA hb)
 refine YB (v:= .tuple #[bh (λ_=>0) (.slice none 0 0),.int .i64 5]) ?_ rfl ⟨rfl,?_⟩
 ·simp[results,aa.results44,go_sem,b2]
 ·exact ((((((((By _ _).alloc (AI _) _).alloc (by simp) _).alloc (by simp;omega) _).trans (HB.out.mono (by omega))).setCell (by simp;omega) _).setCell (by simp;omega) _).setCell (by simp;omega) _|>.setCell (by simp;omega) _).setCell (by simp;omega) _
theorem LU(c:Ctx)(sv:Value)(l:List aj)(seen:Ctx)(w:World)(h:aC w sv l)(hr:∀v∈l,v.rep< 4)(hlen:l.length<=100000)(hn:(aQ l seen).length< l.length):
  Calls aa.prog 44 #[bh c sv,cA seen] w λe w'=>∃v',e= .returned (.tuple #[bh (aL c seen) v',.int .i64 0])/\w'.ownsRow w.heap.size 144 3 v' (aQ l seen).length (aU (aQ l seen))/\Below w.heap.size w w':=by
 obtain⟨ad,cap,rfl,hcap⟩:=h.len
 have H3:Hid (∀a b d,aC (((w.alloc a).alloc b).alloc d) (.slice ad l.length cap) l):=λa b d=>((Yc h a).alloc b).alloc d
 have HR:Hid _:=hr
 clear h hr
 have hne:(((aQ l seen).length:Int)==(l.length:Int))=false:=by simp;omega
 go_enter aa.func44,aa.ntmps44
 go_wp2_with (first
  |(go_at_call 63;refine (mg c _ l seen _ (H3.out _ _ _) HR.out hlen).mono ?_;rintro e w1 ⟨v',rfl,aA,hb⟩;obtain⟨ad',cap',hv'⟩:=kM aA;subst hv';simp at hb;obtain⟨b0,b1,b2,f0,f1,f2⟩:=iP hb;have HO:Hid _:=aA;have HB:Hid _:=hb;clear aA hb)
  |(go_at_call 64;refine (nM c seen _).mono ?_;rintro e w2 ⟨rfl,hb2⟩;have hb3:=HB.out.trans (hb2.mono (by have:=HB.out.size;simp at this;omega));obtain⟨b0,b1,b2,f0,f1,f2⟩:=iP hb3;have HB3:Hid _:=hb3;have HB2:Hid _:=hb2;clear hb3 hb2))
 refine YB (v:= .tuple #[bh (aL c seen) (.slice ad' (aQ l seen).length cap'),.int .i64 0]) ?_ rfl ⟨_,rfl,?_,?_⟩
 ·simp[results,aa.results44,go_sem,b2]
 ·have h1:=cY HO.out (show w.heap.size+3<=_ by simp)
  have h2:=dp h1 HB2.out (AI _)
  exact cY (Yf (Yf (Yf (Yf (Yf h2 (by simp) _) (by simp) _) (by simp) _) (by simp) _) (by simp) _) (by omega)
 ·exact ((((((((By _ _).alloc (AI _) _).alloc (by simp) _).alloc (by simp;omega) _).trans (HB3.out.mono (by omega))).setCell (by simp;omega) _).setCell (by simp;omega) _).setCell (by simp;omega) _|>.setCell (by simp;omega) _).setCell (by simp;omega) _
end Go.Proofs.YtldmcdeibiclkaaGreatDoorQ
namespace Go.Proofs
section
open Go.Shelf
def aa.Gi:Go.Shelf.Ren:=⟨fun|316=>67|n=>n,fun|9=>9|3=>3|4=>4|37=>48|0=>0|127=>177|5=>5|n=>n,fun|n=>n⟩
theorem aa.FM:Go.Proofs.LaysM.n316 aa.prog aa.Gi:={
 mixed:=by kernel_rfl
 f316:=aa.func67.trans (congrArg some (by kernel_rfl))
 t0:=aa.underlying0
 a0:=aa.isAgg0
 z0:=aa.sizeOf0
 v0:=aa.zeroValue0
 t3:=aa.underlying3
 a3:=aa.isAgg3
 z3:=aa.sizeOf3
 v3:=aa.zeroValue3
 t4:=aa.underlying4
 a4:=aa.isAgg4
 z4:=aa.sizeOf4
 v4:=aa.zeroValue4
 t9:=aa.underlying9
 a9:=aa.isAgg9
 z9:=aa.sizeOf9
 v9:=aa.zeroValue9
 t37:=aa.underlying48
 a37:=aa.isAgg48
 z37:=aa.sizeOf48
 v37:=aa.zeroValue48
 t127:=aa.underlying177
 a127:=aa.isAgg177
 z127:=aa.sizeOf177
 v127:=aa.zeroValue177
 t5:=aa.underlying5
 a5:=aa.isAgg5
 z5:=aa.sizeOf5
 v5:=aa.zeroValue5
 i0:=by kernel_rfl
 i3:=by kernel_rfl
 i4:=by kernel_rfl
 i5:=by kernel_rfl
 i9:=by kernel_rfl
 i37:=by kernel_rfl
 i127:=by kernel_rfl}
def aa.KV:Go.Shelf.Ren:=⟨fun|6=>65|15=>85|14=>84|28=>115|29=>116|20=>107|21=>108|22=>109|23=>110|24=>111|25=>112|26=>113|27=>114|46=>142|47=>143|48=>144|49=>145|50=>146|57=>162|n=>n,fun|22=>104|24=>144|25=>146|3=>3|39=>175|0=>0|53=>186|55=>44|4=>4|46=>200|45=>199|50=>55|5=>5|9=>9|66=>225|70=>228|76=>242|77=>243|n=>n,fun|n=>n⟩
theorem aa.UG:Go.Proofs.SlLaysF0.n6 aa.prog aa.KV:={
 mixed:=by kernel_rfl
 f6:=⟨aa.f65.name,by decide,aa.func65.trans (congrArg some (by kernel_rfl))⟩
 f14:=⟨aa.f84.name,by decide,aa.func84.trans (congrArg some (by kernel_rfl))⟩
 f15:=aa.func85.trans (congrArg some (by kernel_rfl))
 f20:=⟨aa.f107.name,by decide,aa.func107.trans (congrArg some (by kernel_rfl))⟩
 f21:=⟨aa.f108.name,by decide,aa.func108.trans (congrArg some (by kernel_rfl))⟩
 f22:=⟨aa.f109.name,by decide,aa.func109.trans (congrArg some (by kernel_rfl))⟩
 f23:=⟨aa.f110.name,by decide,aa.func110.trans (congrArg some (by kernel_rfl))⟩
 f24:=⟨aa.f111.name,by decide,aa.func111.trans (congrArg some (by kernel_rfl))⟩
 f25:=⟨aa.f112.name,by decide,aa.func112.trans (congrArg some (by kernel_rfl))⟩
 f26:=⟨aa.f113.name,by decide,aa.func113.trans (congrArg some (by kernel_rfl))⟩
 f27:=⟨aa.f114.name,by decide,aa.func114.trans (congrArg some (by kernel_rfl))⟩
 f28:=aa.func115.trans (congrArg some (by kernel_rfl))
 f29:=aa.func116.trans (congrArg some (by kernel_rfl))
 f46:=⟨aa.f142.name,by decide,aa.func142.trans (congrArg some (by kernel_rfl))⟩
 f47:=aa.func143.trans (congrArg some (by kernel_rfl))
 f48:=aa.func144.trans (congrArg some (by kernel_rfl))
 f49:=⟨aa.f145.name,by decide,aa.func145.trans (congrArg some (by kernel_rfl))⟩
 f50:=⟨aa.f146.name,by decide,aa.func146.trans (congrArg some (by kernel_rfl))⟩
 f57:=⟨aa.f162.name,by decide,aa.func162.trans (congrArg some (by kernel_rfl))⟩
 t0:=aa.underlying0
 a0:=aa.isAgg0
 z0:=aa.sizeOf0
 v0:=aa.zeroValue0
 t3:=aa.underlying3
 a3:=aa.isAgg3
 z3:=aa.sizeOf3
 v3:=aa.zeroValue3
 t4:=aa.underlying4
 a4:=aa.isAgg4
 z4:=aa.sizeOf4
 v4:=aa.zeroValue4
 t5:=aa.underlying5
 a5:=aa.isAgg5
 z5:=aa.sizeOf5
 v5:=aa.zeroValue5
 t9:=aa.underlying9
 a9:=aa.isAgg9
 z9:=aa.sizeOf9
 v9:=aa.zeroValue9
 t22:=aa.underlying104
 a22:=aa.isAgg104
 z22:=aa.sizeOf104
 v22:=aa.zeroValue104
 t25:=aa.underlying146
 a25:=aa.isAgg146
 z25:=aa.sizeOf146
 v25:=aa.zeroValue146
 t39:=aa.underlying175
 a39:=aa.isAgg175
 z39:=aa.sizeOf175
 v39:=aa.zeroValue175
 t45:=aa.underlying199
 a45:=aa.isAgg199
 z45:=aa.sizeOf199
 v45:=aa.zeroValue199
 t46:=aa.underlying200
 a46:=aa.isAgg200
 z46:=aa.sizeOf200
 v46:=aa.zeroValue200
 t50:=aa.underlying55
 a50:=aa.isAgg55
 z50:=aa.sizeOf55
 v50:=aa.zeroValue55
 t53:=aa.underlying186
 a53:=aa.isAgg186
 z53:=aa.sizeOf186
 v53:=aa.zeroValue186
 t55:=aa.underlying44
 a55:=aa.isAgg44
 z55:=aa.sizeOf44
 v55:=aa.zeroValue44
 t66:=aa.underlying225
 a66:=aa.isAgg225
 z66:=aa.sizeOf225
 v66:=aa.zeroValue225
 t70:=aa.underlying228
 a70:=aa.isAgg228
 z70:=aa.sizeOf228
 v70:=aa.zeroValue228
 t76:=aa.underlying242
 a76:=aa.isAgg242
 z76:=aa.sizeOf242
 v76:=aa.zeroValue242
 t77:=aa.underlying243
 a77:=aa.isAgg243
 z77:=aa.sizeOf243
 v77:=aa.zeroValue243}
end
end Go.Proofs
section
namespace Go.Proofs
open Go.Shelf Go.RowKit Go.Lib Go.Sort
namespace YtldmcdeibiclkaaGreatDoorQ
theorem DS(x y:Int):gC x y< 0↔x< y:=by
 unfold gC;split<;>(try split)<;>omega
theorem Au(x y:Int):gC x y=0↔x=y:=by
 unfold gC;split<;>(try split)<;>omega
def aR(a b:aj):Bool:=decide (a.rep< b.rep\/a.rep=b.rep/\a.n< b.n)
theorem Fz:ltOf fV=aR:=by
 funext a b
 unfold ltOf fV aR ky
 rw[decide_eq_decide]
 by_cases h:gC a.rep b.rep=0
 ·rw[AT h,DS];have:=(Au _ _).1 h;omega
 ·rw[AS h,DS];have: ¬ (a.rep:Int)=b.rep:=λe=>h ((Au _ _).2 e);omega
theorem Ia:SWO (ltOf fV):=by
 rw[Fz]
 exact {irrefl:=λx=>by simp[aR],trans:=λx y z h1 h2=>by simp[aR] at*;omega,ntrans:=λx y z h1 h2=>by simp[aR] at*;omega}
theorem II(blk off size:Nat)(w:World):CmpLays aa.prog 66 #[] dw 3 fV blk off size w:=
 λ_ _ _ _ (x y:aj)=>xQ x.rep x.n y.rep y.n x.val y.val _
theorem Ii(blk off cap:Nat)(d:Array aj)(w:World)(hH:HoldsK dw 3 w blk off d)(hblk:blk< w.heap.size)(hsz:d.size< 4611686018427387904):
  Calls aa.prog 65 #[.slice (some ⟨blk,off,none⟩) d.size cap,.func (.func 66) #[] #[]] w λe w'=>e= .returned (.tuple #[])/\∃d' n os,PermIn 0 d.size d d'/\SortedIn aR 0 d.size d'/\w'=sortWorldK dw 3 w blk off n d' os:=by
 have eg:∀args w,(callFunc 66 args).run aa.prog w= .ok (.enter 66 args) w:=enters_of aa.func66 (by kernel_rfl) rfl
 have hcon:=AnyQ.slices_SortFunc aa.UG 3 aa.isAgg144 aa.sizeOf144 dw (λ_=>rfl) (λx v hv=>by simp[dw] at hv;rcases hv with rfl|rfl|rfl<;>rfl) fV Ia 66 #[] blk off cap d w eg (II blk off d.size w) hH hblk hsz
 rw[Fz] at hcon
 exact hcon
end YtldmcdeibiclkaaGreatDoorQ
end Go.Proofs
end
namespace Go.Proofs.YtldmcdeibiclkaaGreatDoorQ
section
open Go.Shelf Go.RowKit Go.Lib Go.Sort
theorem Et(l:List aj):(flatK dw 3 l.toArray).toList=aU l:=by
 apply ZY
 intro t
 by_cases ht:t< l.length*3
 ·have hk:t / 3< l.length:=by omega
  obtain⟨a,b,c⟩:=we l (t / 3) hk
  have e:(flatK dw 3 l.toArray).toList[t]? =some ((dw l[t / 3])[t % 3]!):=by
   have h1:=get_flatK dw 3 l.toArray t (by simpa using ht)
   rw[getElem!_pos _ t (by simpa using ht)] at h1
   rw[YS,Ym (by simpa using ht),h1]
   congr 2
   simp[hk]
  rw[e]
  have h3:t % 3=0\/t % 3=1\/t % 3=2:=by omega
  rcases h3 with h3|h3|h3
  ·rw[h3];rw[show (aU l)[t]? =(aU l)[t / 3*3]? by congr 1;omega,a];rfl
  ·rw[h3];rw[show (aU l)[t]? =(aU l)[t / 3*3+1]? by congr 1;omega,b];rfl
  ·rw[h3];rw[show (aU l)[t]? =(aU l)[t / 3*3+2]? by congr 1;omega,c];rfl
 ·rw[ZI (by simp;omega),ZI (by rw[xo];omega)]
theorem UB{w:World}{g:Nat}{l:List aj}{cur:Array Value}(hh:w.heap[g]? =some (.cells cur 144 (0,0)))(ht:cur.toList.take (l.length*3)=aU l):HoldsK dw 3 w g 0 l.toArray:=by
 intro j hj
 have hj':j< l.length*3:=by simpa using hj
 refine⟨?_,by simp[World.frozen?,hh]⟩
 simp only[World.cell?,hh,Nat.zero_add,id]
 rw[getElem!_pos _ j hj]
 have e1:(flatK dw 3 l.toArray).toList[j]? =some (flatK dw 3 l.toArray)[j]:=by rw[YS,Ym hj]
 rw[Et,←ht,YJ,AT hj'] at e1
 simpa using e1
theorem ry(B:Nat)(v:Value)(l:List aj)(w:World)(h:w.ownsRow B 144 3 v l.length (aU l))(hn:0< l.length)(hsz:l.length< 1000000):
  Calls aa.prog 65 #[v,.func (.func 66) #[] #[]] w λe w'=>e= .returned (.tuple #[])/\∃l':List aj,l'.Perm l/\l'.Pairwise (λa b=>aR b a=false)/\w'.ownsRow B 144 3 v l'.length (aU l')/\w.grownBy w' v.ownBlock:=by
 obtain⟨h1,h2⟩:=h
 rcases h2 with ⟨_,h2⟩|⟨g,cap,cur,rfl,hg,hh,hnc,hc,hs,ht⟩
 ·omega
 have hglt:g< w.heap.size:=(IN.1 hh).1
 have hH:HoldsK dw 3 w g 0 l.toArray:=UB hh ht
 refine (Ii g 0 cap l.toArray w hH hglt (by simp;omega)).mono ?_
 rintro e w' ⟨rfl,d',n,os,hp,hso,rfl⟩
 refine⟨rfl,d'.toList,?_,?_,?_,?_⟩
 ·have:=hp.2.2
  have e:=hp.1
  simp only[List.size_toArray] at e this
  rw[Array.extract_eq_self_of_le (by omega),Array.extract_eq_self_of_le (by simp)] at this
  simpa using this
 ·rw[Y3]
  intro i j hi hj hij
  have:=hso i j (by omega) hij (by have:=hp.1;simp at this hj ⊢;omega)
  rw[getElem!_pos d' j (by simpa using hj),getElem!_pos d' i (by simpa using hi)] at this
  simpa using this
 ·have hsz':d'.size=l.length:=by simpa using hp.1
  have hb:(sortWorldK dw 3 w g 0 n d' os).heap[g]? =some (.cells (putCells id 0 (flatK dw 3 d') cur) 144 (0,0)):=by
   unfold sortWorldK
   rw[heap_grow_old _ _ (by simpa[putRowK,putRow,mapBlock,Sort.ahead] using hglt)]
   simp[putRowK,putRow,mapBlock,Sort.ahead,Yz,hh,onCells]
  refine⟨by rw[xo],Or.inr ⟨g,cap,_,by simp[hsz'],hg,hb,by simp[hsz'];exact hnc,hc,by simp[putCells,hs],?_⟩⟩
  have hf:aU d'.toList=(flatK dw 3 d').toList:=by rw[←Et]
  rw[hf]
  apply ZY
  intro t
  by_cases htl:t< l.length*3
  ·rw[YJ,AT (by simp[hsz'];exact htl),YS,YS]
   have hF:t< (flatK dw 3 d').size:=by simp[hsz'];exact htl
   have hC:t< cur.size:=by rw[hs];have:=Nat.mul_le_mul_right 3 hnc;omega
   simp only[putCells,Array.getElem?_mapIdx,Ym hC,YO,Ym hF]
   rw[AT ⟨by omega,by omega⟩]
   simp only[id,Nat.sub_zero]
   rw[getElem!_pos _ t hF]
  ·rw[ZI (by simp[hsz'];omega),ZI (by simp[hsz'];omega)]
 ·refine⟨rfl,rfl,rfl,by simp[sortWorldK,putRowK,putRow,mapBlock,Sort.ahead],λk hk hne=>?_⟩
  unfold sortWorldK
  rw[heap_grow_old _ _ (by simp[putRowK,putRow,mapBlock,Sort.ahead];omega)]
  simp only[putRowK,putRow,mapBlock,Sort.ahead,Yz]
  rw[AS (λe=>hne (by subst e;rfl))]
end
end Go.Proofs.YtldmcdeibiclkaaGreatDoorQ
namespace Go.Proofs.YtldmcdeibiclkaaGreatDoorQ
open Go.RowKit
def bump(c:Ctx)(r:Nat):Ctx:=λi=>if i=r then c i+1 else c i
theorem XM(c:Ctx)(sv:Value)(l:List aj)(rep:Nat)(val:ByteArray)(seen:Ctx)(w:World)(h:aC w sv l)(hr:∀v∈l,v.rep< 4)(hlen:l.length<=100000)(bk:rep< 4)(hn:20<=(aQ l seen).length\/(aQ l seen).length< 20/\1000000<=aL c seen rep):
  Calls aa.prog 40 #[bh c sv,.int .i64 rep,.string val,cA seen] w λe w'=>e= .returned (.tuple #[bh (λ_=>0) (.slice none 0 0),.int .i64 6])/\Below w.heap.size w w':=by
 obtain⟨ad,cap,rfl,hcap⟩:=h.len
 have H3:Hid (∀a b d,aC (((w.alloc a).alloc b).alloc d) (.slice ad l.length cap) l):=λa b d=>((Yc h a).alloc b).alloc d
 have HR:Hid _:=hr
 clear h hr
 generalize hun:aQ l seen=U at*
 have HU:Hid _:=hun
 clear hun
 rcases hn with hn|⟨hn,hm⟩
 ·rcases fg bk with rfl|rfl|rfl|rfl
  all_goals
   go_enter aa.func40,aa.ntmps40
   go_wp2_with (first
    |(go_at_call 63;refine (mg c _ l seen _ (H3.out _ _ _) HR.out hlen).mono ?_;rintro e w1 ⟨v',rfl,aA,hb⟩;rw[HU.out] at aA;obtain⟨ad',cap',hv'⟩:=kM aA;subst hv';simp at hb;obtain⟨b0,b1,b2,f0,f1,f2⟩:=iP hb;have HO:Hid _:=aA;have HB:Hid _:=hb;clear aA hb)
    |(go_at_call 64;refine (nM c seen _).mono ?_;rintro e w2 ⟨rfl,hb2⟩;have hb3:=HB.out.trans (hb2.mono (by have:=HB.out.size;simp at this;omega));obtain⟨b0,b1,b2,f0,f1,f2⟩:=iP hb3;have HB3:Hid _:=hb3;have HB2:Hid _:=hb2;have z2:w.heap.size+1+1< w2.heap.size:=(by have:=hb3.size;simp at this;omega);clear hb3 hb2))
   refine YB (v:= .tuple #[bh (λ_=>0) (.slice none 0 0),.int .i64 6]) ?_ rfl ⟨rfl,?_⟩
   ·simp[results,aa.results40,go_sem,b2,z2]
   ·have base:Below w.heap.size w w2:=((((By _ _).alloc (AI _) _).alloc (by simp) _).alloc (by simp;omega) _).trans (HB3.out.mono (by omega))
    repeat' (with_reducible (first|exact base|refine Yg ?_ ?_ _|refine XY ?_ ?_ _))
    all_goals (first|omega|(simp;omega))
 ·rcases fg bk with rfl|rfl|rfl|rfl
  all_goals
   go_enter aa.func40,aa.ntmps40
   go_wp2_with (first
    |(go_at_call 63;refine (mg c _ l seen _ (H3.out _ _ _) HR.out hlen).mono ?_;rintro e w1 ⟨v',rfl,aA,hb⟩;rw[HU.out] at aA;obtain⟨ad',cap',hv'⟩:=kM aA;subst hv';simp at hb;obtain⟨b0,b1,b2,f0,f1,f2⟩:=iP hb;have HO:Hid _:=aA;have HB:Hid _:=hb;clear aA hb)
    |(go_at_call 64;refine (nM c seen _).mono ?_;rintro e w2 ⟨rfl,hb2⟩;have hb3:=HB.out.trans (hb2.mono (by have:=HB.out.size;simp at this;omega));obtain⟨b0,b1,b2,f0,f1,f2⟩:=iP hb3;have HB3:Hid _:=hb3;have HB2:Hid _:=hb2;have z2:w.heap.size+1+1< w2.heap.size:=(by have:=hb3.size;simp at this;omega);clear hb3 hb2))
   refine YB (v:= .tuple #[bh (λ_=>0) (.slice none 0 0),.int .i64 6]) ?_ rfl ⟨rfl,?_⟩
   ·simp[results,aa.results40,go_sem,b2,z2]
   ·have base:Below w.heap.size w w2:=((((By _ _).alloc (AI _) _).alloc (by simp) _).alloc (by simp;omega) _).trans (HB3.out.mono (by omega))
    repeat' (with_reducible (first|exact base|refine Yg ?_ ?_ _|refine XY ?_ ?_ _))
    all_goals (first|omega|(simp;omega))
end Go.Proofs.YtldmcdeibiclkaaGreatDoorQ
section
namespace Go.Proofs
open Go.Shelf Go.RowKit
namespace YtldmcdeibiclkaaGreatDoorQ
theorem Tw(s:ByteArray)(w:World)(hs:s.size<=281474976710656):
  Calls aa.prog 67 #[.string s] w λe w'=>e= .returned (.string s)/\Below w.heap.size w w':=
 Any.stringslite_Clone aa.FM s w hs
theorem qG(s:ByteArray)(w:World)(hs:s.size<=281474976710656):
  Calls aa.prog 41 #[.string s] w λe w'=>e= .returned (.string s)/\Below w.heap.size w w':=by
 go_enter aa.func41,aa.ntmps41
 go_wp2_with (go_at_call 67;refine (Tw s _ hs).mono ?_;rintro e w' ⟨rfl,hb⟩)
 go_ret
 exact⟨rfl,hb⟩
end YtldmcdeibiclkaaGreatDoorQ
end Go.Proofs
end
namespace Go.Proofs.YtldmcdeibiclkaaGreatDoorQ
open Go.RowKit
theorem bytes_beq(a b:ByteArray):(a==b)=decide (a=b):=by
 rw[beq_toListBytes,Bool.eq_iff_iff]
 simp only[ByteArray.toList_eq,ZC,Array.toList_inj,Yt]
 exact⟨λh=>by cases a;cases b;simp_all,λh=>by rw[h]⟩
def fP(es:List MapEntry):Prop:=∀e∈es,∃k,e.key= .string k
def cg:List MapEntry->ByteArray->Option Value
 |[],_=>none
 |e::es,s=>match e.key with
  | .string k=>if s=k then some e.val else cg es s
  |_=>cg es s
theorem vY(s:ByteArray):∀(es:List MapEntry) (i:Nat),fP es->cg es s=none->Instr.findNow .string (.string s) es i=some none
 |[],_,_,_=>rfl
 |e::es,i,hk,h=>by
  obtain⟨k,he⟩:=hk e (by simp)
  simp only[cg,he] at h
  by_cases hs:s=k
  ·rw[AT hs] at h;cases h
  ·rw[AS hs] at h
   have hsb:(s==k)=false:=by rw[bytes_beq];simpa using hs
   simp only[Instr.findNow,Instr.sameNow,he,hsb]
   exact vY s es (i+1) (λe' h'=>hk e' (by simp[h'])) h
theorem p9(s:ByteArray)(v:Value):∀(es:List MapEntry) (i:Nat),fP es->cg es s=some v->∃j,j< es.length/\Instr.findNow .string (.string s) es i=some (some (i+j,v))/\(es[j]?).map (·.key)=some (.string s)
 |[],_,_,h=>by cases h
 |e::es,i,hk,h=>by
  obtain⟨k,he⟩:=hk e (by simp)
  simp only[cg,he] at h
  by_cases hs:s=k
  ·rw[AT hs] at h
   cases h
   subst hs
   exact⟨0,by simp,by simp[Instr.findNow,Instr.sameNow,he,bytes_beq],by simp[he]⟩
  ·rw[AS hs] at h
   have hsb:(s==k)=false:=by rw[bytes_beq];simpa using hs
   obtain⟨j,hj,hf,hkey⟩:=p9 s v es (i+1) (λe' h'=>hk e' (by simp[h'])) h
   refine⟨j+1,by simpa using hj,?_,by simpa using hkey⟩
   simp only[Instr.findNow,Instr.sameNow,he,hsb]
   rw[hf]
   congr 3
   omega
theorem EC(w:World)(b:Bool)(n:Nat)(s:ByteArray):(Instr.checkKey b (n+1) 9 (.string s)).run aa.prog w= .ok () w:=by
 have hs:aa.prog.underlying 9=some .string:=aa.underlying9
 simp only[Instr.checkKey,YC,Y5 hs,YU]
 rfl
abbrev lC:Value:= .agg #[.int .i64 0,.int .i64 0,.int .i64 0,.int .i64 0,.slice none 0 0]
theorem oC(w:World)(bm:Nat)(es:Array MapEntry)(clock:Nat)(s:ByteArray)(hm:w.heap[bm]? =some (.map es clock))(hk:fP es.toList):
  (Instr.lookup 98 (.map (some bm)) (.string s) false).run aa.prog w= .ok ((cg es.toList s).getD lC) w:=by
 have hu:aa.prog.underlying 98=some (.map 9 106):=aa.underlying98
 have hs:aa.prog.underlying 9=some .string:=aa.underlying9
 have hck:∀b,(Instr.checkKey b 10000 9 (.string s)).run aa.prog w= .ok () w:=λb=>EC w b 9999 s
 cases he:cg es.toList s with
 |none=>
  have hf:=vY s es.toList 0 hk he
  simp[Instr.lookup,Y5 hu,Y5 hs,getObj,Sem.run,hm,hck,Instr.findKey,hf]
 |some v=>
  obtain⟨j,hj,hf,hkey⟩:=p9 s v es.toList 0 hk he
  simp[Instr.lookup,Y5 hu,Y5 hs,getObj,Sem.run,hm,hck,Instr.findKey,hf]
theorem FI(t:ByteArray)(e:MapEntry)(k:ByteArray)(he:e.key= .string k):∀es:List MapEntry,fP es->cg (es++ [e]) t=(cg es t).or (if t=k then some e.val else none)
 |[],_=>by simp[cg,he]
 |x::es,hk=>by
  obtain⟨q,hq⟩:=hk x (by simp)
  simp only[YX,cg,hq]
  by_cases h:t=q
  ·simp[h]
  ·rw[AS h,AS h]
   exact FI t e k he es (λe' h'=>hk e' (by simp[h']))
theorem zK(s:ByteArray):∀(es:List MapEntry) (i q:Nat) (v:Value),Instr.findNow .string (.string s) es i=some (some (q,v))->i<=q
 |[],i,q,v,h=>by simp[Instr.findNow] at h
 |e::es,i,q,v,h=>by
  simp only[Instr.findNow] at h
  split at h
  ·simp at h;omega
  ·have:=zK s es (i+1) q v h;omega
  ·cases h
theorem yn(s t:ByteArray)(v v':Value)(f:MapEntry->MapEntry)(hfk:∀e,(f e).key= .string s)(hfv:∀e,(f e).val=v'):∀(es:List MapEntry) (i j:Nat),fP es->Instr.findNow .string (.string s) es i=some (some (i+j,v))->cg (es.modify j f) t=(if t=s then some v' else cg es t)/\fP (es.modify j f)
 |[],i,j,_,h=>by simp[Instr.findNow] at h
 |e::es,i,j,hk,h=>by
  obtain⟨k,he⟩:=hk e (by simp)
  by_cases hs:s=k
  ·subst hs
   simp only[Instr.findNow,Instr.sameNow,he,bytes_beq,decide_true] at h
   have hj:j=0:=by simp at h;omega
   subst hj
   refine⟨?_,?_⟩
   ·simp only[List.modify_zero_cons,cg,hfk,hfv,he]
    by_cases h':t=s<;>simp[h']
   ·intro x hx
    simp only[List.modify_zero_cons,Yv] at hx
    rcases hx with rfl|hx
    ·exact⟨s,hfk e⟩
    ·exact hk x (by simp[hx])
  ·have hsb:(s==k)=false:=by rw[bytes_beq];simpa using hs
   simp only[Instr.findNow,Instr.sameNow,he,hsb] at h
   have hj:1<=j:=by
    rcases ZF j with h0|h0
    ·subst h0
     have:=zK s es (i+1) _ _ h
     omega
    ·exact h0
   obtain⟨j',rfl⟩: ∃j',j=j'+1:=⟨j - 1,by omega⟩
   rw[show i+(j'+1)=i+1+j' by omega] at h
   obtain⟨h1,h2⟩:=yn s t v v' f hfk hfv es (i+1) j' (λe' h'=>hk e' (by simp[h'])) h
   refine⟨?_,?_⟩
   ·simp only[List.modify_succ_cons,cg,he]
    rw[h1]
    by_cases h':t=k
    ·simp[h']
     intro q;exact absurd q (λq=>hs q.symm)
    ·simp[h']
   ·intro x hx
    simp only[List.modify_succ_cons,Yv] at hx
    rcases hx with rfl|hx
    ·exact⟨k,he⟩
    ·exact h2 x hx
def kx(Q:ByteArray->Prop)(es:List MapEntry)(clock:Nat):Prop:=
 (es.map (·.key)).Nodup/\(es.map (·.born)).Nodup/\(∀e∈es,e.born< clock)/\∀e∈es,∃k,e.key= .string k/\Q k
theorem xC{s:ByteArray}:∀{es:List MapEntry},fP es->cg es s=none->∀e∈es,e.key≠.string s
 |[],_,_,e,he=>by simp at he
 |x::es,hk,h,e,he=>by
  obtain⟨q,hq⟩:=hk x (by simp)
  simp only[cg,hq] at h
  by_cases hs:s=q
  ·rw[AT hs] at h;cases h
  ·rw[AS hs] at h
   simp only[Yv] at he
   rcases he with rfl|he
   ·rw[hq];intro e;injection e with e;exact hs e.symm
   ·exact xC (λe' h'=>hk e' (by simp[h'])) h e he
theorem zO{α β:Type}(g:α->β)(f:α->α)(l:List α)(j:Nat)(h:∀x,l[j]? =some x->g (f x)=g x):(l.modify j f).map g=l.map g:=by
 apply ZY
 intro i
 simp only[ZR,List.getElem?_modify]
 by_cases e:j=i
 ·subst e
  simp only[XZ]
  cases hx:l[j]? with
  |none=>rfl
  |some x=>simp[h x hx]
 ·simp[e]
def il(w:World)(bm:Nat)(es:Array MapEntry)(clock:Nat):World:={w with heap:=w.heap.setIfInBounds bm (.map es clock)}
theorem DT(bm:Nat)(es:Array MapEntry)(clock:Nat)(s:ByteArray)(v:Value)(hk:fP es.toList):
  ∃es' clock',(∀w:World,w.heap[bm]? =some (.map es clock)->(Instr.mapUpdate 98 (.map (some bm)) (.string s) v).run aa.prog w= .ok () (il w bm es' clock'))/\fP es'.toList/\(∀t,cg es'.toList t=if t=s then some v else cg es.toList t)/\∀Q,Q s->kx Q es.toList clock->kx Q es'.toList clock':=by
 have hu:aa.prog.underlying 98=some (.map 9 106):=aa.underlying98
 have hs:aa.prog.underlying 9=some .string:=aa.underlying9
 have hck:∀w b,(Instr.checkKey b 10000 9 (.string s)).run aa.prog w= .ok () w:=λw b=>EC w b 9999 s
 cases he:cg es.toList s with
 |none=>
  have hf:=vY s es.toList 0 hk he
  refine⟨es.push {key:= .string s,val:=v,born:=clock},clock+1,?_,?_,?_,?_⟩
  ·intro w hm
   simp[Instr.mapUpdate,Y5 hu,Y5 hs,getObj,setObj,Sem.run,hm,hck,Instr.findKey,hf,il]
  ·intro x hx
   simp at hx
   rcases hx with hx|rfl
   ·exact hk x (by simpa using hx)
   ·exact⟨s,rfl⟩
  ·intro t
   rw[Array.toList_push,FI t _ s rfl _ hk]
   by_cases h:t=s
   ·subst h;simp[he]
   ·simp[h]
  ·rintro Q hQ ⟨s1,s2,s3,s4⟩
   rw[Array.toList_push]
   refine⟨?_,?_,λe h=>?_,λe h=>?_⟩
   ·rw[Zx,List.nodup_append]
    refine⟨s1,by simp,λa ha b hb=>?_⟩
    simp at hb
    subst hb
    obtain⟨x,hx,rfl⟩:=Ya.1 ha
    exact xC hk he x hx
   ·rw[Zx,List.nodup_append]
    refine⟨s2,by simp,λa ha b hb=>?_⟩
    simp at hb
    subst hb
    obtain⟨x,hx,rfl⟩:=Ya.1 ha
    exact Nat.ne_of_lt (s3 x hx)
   ·simp only[Zl,Y4] at h
    rcases h with h|rfl
    ·have:=s3 e h;omega
    ·exact Nat.lt_succ_self _
   ·simp only[Zl,Y4] at h
    rcases h with h|rfl
    ·exact s4 e h
    ·exact⟨s,rfl,hQ⟩
 |some u=>
  obtain⟨j,hj,hf,hkey⟩:=p9 s u es.toList 0 hk he
  have hkj:(es[j]?).map (·.key)=some (.string s):=by simpa using hkey
  have hsb:Instr.sameBits 10000 (.string s) (.string s)=true:=by simp[Instr.sameBits,bytes_beq]
  refine⟨es.modify j λe=>{e with key:= .string s,val:=v},clock,?_,?_,?_,?_⟩
  ·intro w hm
   simp[Instr.mapUpdate,Y5 hu,Y5 hs,getObj,setObj,Sem.run,hm,hck,Instr.findKey,hf,hkj,Instr.keyThatStays,hsb,il]
  ·rw[Array.toList_modify]
   exact (yn s s u v _ (λ_=>rfl) (λ_=>rfl) es.toList 0 j hk hf).2
  ·intro t
   rw[Array.toList_modify]
   exact (yn s t u v _ (λ_=>rfl) (λ_=>rfl) es.toList 0 j hk hf).1
  ·rintro Q hQ ⟨s1,s2,s3,s4⟩
   rw[Array.toList_modify]
   have ek:(es.toList.modify j λe=>{e with key:= .string s,val:=v}).map (·.key)=es.toList.map (·.key):=zO _ _ _ _ λx hx=>by
    rw[hx] at hkey
    simp at hkey
    exact hkey.symm
   have eb:(es.toList.modify j λe=>{e with key:= .string s,val:=v}).map (·.born)=es.toList.map (·.born):=zO _ _ _ _ λx hx=>rfl
   refine⟨by rw[ek];exact s1,by rw[eb];exact s2,λe h=>?_,λe h=>?_⟩
   ·have:e.born∈(es.toList.modify j λe=>{e with key:= .string s,val:=v}).map (·.born):=Ya.2 ⟨e,h,rfl⟩
    rw[eb] at this
    obtain⟨x,hx,e1⟩:=Ya.1 this
    rw[←e1];exact s3 x hx
   ·have:e.key∈(es.toList.modify j λe=>{e with key:= .string s,val:=v}).map (·.key):=Ya.2 ⟨e,h,rfl⟩
    rw[ek] at this
    obtain⟨x,hx,e1⟩:=Ya.1 this
    obtain⟨k,hk1,hk2⟩:=s4 x hx
    exact⟨k,by rw[←e1];exact hk1,hk2⟩
end Go.Proofs.YtldmcdeibiclkaaGreatDoorQ
