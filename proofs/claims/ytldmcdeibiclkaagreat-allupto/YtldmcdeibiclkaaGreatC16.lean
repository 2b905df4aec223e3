/-
  Toward all_holds
-/
import Derived.Shelf.SlGeneric
import Derived.Shelf.Strconv.Clone
import Derived.Shelf.SlSortCmp.WholeK
import Derived.Ground.NamesProg
import Derived.Ground.SlsfProg
import Derived.Test.YtldmcdeibiclkaaGreatC15
import Derived.Test.YtldmcdeibiclkaaGreatC01
import Derived.WalkKit
import Derived.WalkSpells
import Derived.WalkLawsBesides
import Derived.Deep.QuietTactic
import Derived.BigQuiet
import Derived.Deep.AppendLies
import Derived.WalkSmall
import Derived.Laws.StructEq
import Derived.Laws.Bits64
import Derived.Deep.RegionHeld3
set_option linter.all false
noncomputable section
set_option maxRecDepth 100000
set_option maxHeartbeats 20000000
namespace Go.Proofs
section
open Go.Shelf
def aC.Xb:Go.Shelf.Ren:=⟨fun|316=>63|n=>n,fun|9=>9|3=>3|4=>4|37=>124|0=>0|127=>149|5=>5|n=>n,fun|n=>n⟩
theorem aC.Tk:Go.Proofs.LaysM.n316 aC.prog aC.Xb:={
 mixed:=by kernel_rfl
 f316:=aC.func63.trans (congrArg some (by kernel_rfl))
 t0:=aC.underlying0
 a0:=aC.isAgg0
 z0:=aC.sizeOf0
 v0:=aC.zeroValue0
 t3:=aC.underlying3
 a3:=aC.isAgg3
 z3:=aC.sizeOf3
 v3:=aC.zeroValue3
 t4:=aC.underlying4
 a4:=aC.isAgg4
 z4:=aC.sizeOf4
 v4:=aC.zeroValue4
 t9:=aC.underlying9
 a9:=aC.isAgg9
 z9:=aC.sizeOf9
 v9:=aC.zeroValue9
 t37:=aC.underlying124
 a37:=aC.isAgg124
 z37:=aC.sizeOf124
 v37:=aC.zeroValue124
 t127:=aC.underlying149
 a127:=aC.isAgg149
 z127:=aC.sizeOf149
 v127:=aC.zeroValue149
 t5:=aC.underlying5
 a5:=aC.isAgg5
 z5:=aC.sizeOf5
 v5:=aC.zeroValue5
 i0:=by kernel_rfl
 i3:=by kernel_rfl
 i4:=by kernel_rfl
 i5:=by kernel_rfl
 i9:=by kernel_rfl
 i37:=by kernel_rfl
 i127:=by kernel_rfl}
def aC.RQ:Go.Shelf.Ren:=⟨fun|6=>61|15=>87|14=>86|28=>119|29=>120|20=>111|21=>112|22=>113|23=>114|24=>115|25=>116|26=>117|27=>118|46=>141|47=>142|48=>143|49=>144|50=>145|57=>183|n=>n,fun|22=>72|24=>117|25=>119|3=>3|39=>147|0=>0|53=>192|55=>55|4=>4|46=>185|45=>184|50=>189|5=>5|9=>9|66=>225|70=>228|76=>254|77=>255|n=>n,fun|n=>n⟩
theorem aC.TF:Go.Proofs.SlLaysF0.n6 aC.prog aC.RQ:={
 mixed:=by kernel_rfl
 f6:=⟨aC.f61.name,by decide,aC.func61.trans (congrArg some (by kernel_rfl))⟩
 f14:=⟨aC.f86.name,by decide,aC.func86.trans (congrArg some (by kernel_rfl))⟩
 f15:=aC.func87.trans (congrArg some (by kernel_rfl))
 f20:=⟨aC.f111.name,by decide,aC.func111.trans (congrArg some (by kernel_rfl))⟩
 f21:=⟨aC.f112.name,by decide,aC.func112.trans (congrArg some (by kernel_rfl))⟩
 f22:=⟨aC.f113.name,by decide,aC.func113.trans (congrArg some (by kernel_rfl))⟩
 f23:=⟨aC.f114.name,by decide,aC.func114.trans (congrArg some (by kernel_rfl))⟩
 f24:=⟨aC.f115.name,by decide,aC.func115.trans (congrArg some (by kernel_rfl))⟩
 f25:=⟨aC.f116.name,by decide,aC.func116.trans (congrArg some (by kernel_rfl))⟩
 f26:=⟨aC.f117.name,by decide,aC.func117.trans (congrArg some (by kernel_rfl))⟩
 f27:=⟨aC.f118.name,by decide,aC.func118.trans (congrArg some (by kernel_rfl))⟩
 f28:=aC.func119.trans (congrArg some (by kernel_rfl))
 f29:=aC.func120.trans (congrArg some (by kernel_rfl))
 f46:=⟨aC.f141.name,by decide,aC.func141.trans (congrArg some (by kernel_rfl))⟩
 f47:=aC.func142.trans (congrArg some (by kernel_rfl))
 f48:=aC.func143.trans (congrArg some (by kernel_rfl))
 f49:=⟨aC.f144.name,by decide,aC.func144.trans (congrArg some (by kernel_rfl))⟩
 f50:=⟨aC.f145.name,by decide,aC.func145.trans (congrArg some (by kernel_rfl))⟩
 f57:=⟨aC.f183.name,by decide,aC.func183.trans (congrArg some (by kernel_rfl))⟩
 t0:=aC.underlying0
 a0:=aC.isAgg0
 z0:=aC.sizeOf0
 v0:=aC.zeroValue0
 t3:=aC.underlying3
 a3:=aC.isAgg3
 z3:=aC.sizeOf3
 v3:=aC.zeroValue3
 t4:=aC.underlying4
 a4:=aC.isAgg4
 z4:=aC.sizeOf4
 v4:=aC.zeroValue4
 t5:=aC.underlying5
 a5:=aC.isAgg5
 z5:=aC.sizeOf5
 v5:=aC.zeroValue5
 t9:=aC.underlying9
 a9:=aC.isAgg9
 z9:=aC.sizeOf9
 v9:=aC.zeroValue9
 t22:=aC.underlying72
 a22:=aC.isAgg72
 z22:=aC.sizeOf72
 v22:=aC.zeroValue72
 t25:=aC.underlying119
 a25:=aC.isAgg119
 z25:=aC.sizeOf119
 v25:=aC.zeroValue119
 t39:=aC.underlying147
 a39:=aC.isAgg147
 z39:=aC.sizeOf147
 v39:=aC.zeroValue147
 t45:=aC.underlying184
 a45:=aC.isAgg184
 z45:=aC.sizeOf184
 v45:=aC.zeroValue184
 t46:=aC.underlying185
 a46:=aC.isAgg185
 z46:=aC.sizeOf185
 v46:=aC.zeroValue185
 t50:=aC.underlying189
 a50:=aC.isAgg189
 z50:=aC.sizeOf189
 v50:=aC.zeroValue189
 t53:=aC.underlying192
 a53:=aC.isAgg192
 z53:=aC.sizeOf192
 v53:=aC.zeroValue192
 t55:=aC.underlying55
 a55:=aC.isAgg55
 z55:=aC.sizeOf55
 v55:=aC.zeroValue55
 t66:=aC.underlying225
 a66:=aC.isAgg225
 z66:=aC.sizeOf225
 v66:=aC.zeroValue225
 t70:=aC.underlying228
 a70:=aC.isAgg228
 z70:=aC.sizeOf228
 v70:=aC.zeroValue228
 t76:=aC.underlying254
 a76:=aC.isAgg254
 z76:=aC.sizeOf254
 v76:=aC.zeroValue254
 t77:=aC.underlying255
 a77:=aC.isAgg255
 z77:=aC.sizeOf255
 v77:=aC.zeroValue255}
end
end Go.Proofs
section
namespace Go.Proofs
open Go.Shelf Go.RowKit Go.Lib Go.Sort
namespace YtldmcdeibiclkaaGreatQ
theorem Da(x y:Int):ir x y<0↔x<y:=by
 unfold ir;omega
theorem Gf(x y:Int):ir x y=0↔x=y:=by
 unfold ir;omega
def bf(a b:aG):Bool:=decide (a.rep<b.rep\/a.rep=b.rep/\a.n<b.n)
theorem CB:ltOf je=bf:=by
 funext a b;unfold ltOf je bf lY;rw[decide_eq_decide];by_cases h:ir a.rep b.rep=0
 .rw[BY h,Da];have:=(Gf _ _).1 h;omega
 .rw[AT h,Da];have: ¬(a.rep:Int)=b.rep:=λe=>h ((Gf _ _).2 e);omega
theorem VE:SWO (ltOf je):=by
 rw[CB];exact {irrefl:=λx=>by simp[bf],trans:=λx y z a c=>by simp[bf] at*;omega,ntrans:=λx y z a c=>by simp[bf] at*;omega}
def L7(blk a size:Nat)(w:af):CmpLays aC.prog 62 #[] dT 3 je blk a size w:=
 λ_ _ _ _ (x y:aG)=>Af x.rep x.n y.rep y.n x.val y.val _
theorem YH(blk c cap:Nat)(d:Array aG)(w:af)(i:HoldsK dT 3 w blk c d)(hblk:blk<w)(g:d.size<4611686018427387904):
  Calls aC.prog 61 #[.slice (.a blk c) d.size cap,.func (.func 62) #[] #[]] w λe w'=>e=.r (.tuple #[])/\∃h n os,PermIn 0 d.size d h/\SortedIn bf 0 d.size h/\w'=sortWorldK dT 3 w blk c n h os:=by
 have j:=enters_of aC.func62 zk rfl;have f:=AnyQ.slices_SortFunc aC.TF 3 aC.isAgg117 aC.sizeOf117 dT (λ_=>rfl) (λx v hv=>by simp[dT]at hv;rcases hv with rfl|rfl|rfl<;>rfl) je VE 62 #[] blk c cap d w j (L7 blk c d.size w) i hblk g;rw[CB]at f;exact f
end YtldmcdeibiclkaaGreatQ
end Go.Proofs
end
namespace Go.Proofs.YtldmcdeibiclkaaGreatQ
variable {w w':af}{B:Nat}{sv v:ag}{e:ak}{xs:ae}
open Go.RowKit
theorem xA(W:af)(a b c d:ag):
  (Instr.index 70 (.agg #[a,b,c,d]) (.i 0)).run aC.prog W=.ok a W/\
  (Instr.index 70 (.agg #[a,b,c,d]) (.i 1)).run aC.prog W=.ok b W/\
  (Instr.index 70 (.agg #[a,b,c,d]) (.i 2)).run aC.prog W=.ok c W/\
  (Instr.index 70 (.agg #[a,b,c,d]) (.i 3)).run aC.prog W=.ok d W:=
 ⟨zk,zk,zk,zk⟩
theorem Dn{c:Ctx}(h:∀j,j<4->0<=c j/\c j<=1000000):cR c=true:=by
 simp only[cR,gC,No,abb];grind
theorem JP{c:Ctx}{k:Nat}(a:k<4)(h: ¬(0<=c k/\c k<=1000000)):cR c=false:=by
 cases hs:cR c with
 |false=>rfl
 |true=>
  simp only[cR,gC,No,abb]at hs;grind
theorem qK(c:Ctx)(w:af):
  Calls aC.prog 31 #[bz c] w λe w'=>e=.r (.bool (cR c))/\Below w w w':=by
 go_enter aC.func31,aC.ntmps31;go_wp2;go_loop [6] (λi=>∃k:Nat,k<=4/\i=.i k/\∀j,j<k->0<=c j/\c j<=1000000) (λi=>4-(intOf i).toNat)
 case atStart=>exact⟨0,zo,rfl,λj hj=>zo⟩
 case round=>
  obtain⟨k,p,rfl,d⟩:=hrel;have a:=(show Hid _ from d)
  clear d;by_cases f:k<4
  .by_cases hb:0<=c k/\c k<=1000000
   .obtain⟨l,m⟩:=hb;have g:Hid (∀j,j<k+1->0<=c j/\c j<=1000000):=λj hj=>by
     by_cases e:j=k
     .subst e;exact⟨l,m⟩
     .exact a.out j zo
    clear a;rcases dR f with rfl|rfl|rfl|rfl
    all_goals
     have n:=xA;go_wp2;exact⟨⟨_,zo,by go_num,g.out⟩,by simp[intOf]⟩
   .have hs:Hid _:=JP f hb;clear a;have h:c k<0\/1000000<c k:=zo;clear hb;rcases h with h|h
    all_goals
     try (have o:0<=c k:=zo)
     rcases dR f with rfl|rfl|rfl|rfl
     all_goals
      have n:=xA;go_wp2;go_ret;exact⟨im hs.out.symm,zj.alloc zf _⟩
  .obtain rfl:k=4:=zo;have hs:Hid _:=Dn a.out;clear a;go_wp2;go_ret;exact⟨im hs.out.symm,zj.alloc zf _⟩
def abg{a:af}(h:Below B a w)(n:Nat):Below B a (w.drewN n):=⟨h.os,h.tape,h.output,h.size,h.block⟩
theorem xO(c:Ctx)(r:Nat)(n:Int)(w:af)(a:r<4):
  Calls aC.prog 85 #[bz c,.agg #[.i r,.i n]] w λe w'=>e=.r (.bool (decide (n<=c r)))/\Below w w w':=by
 rcases dR a with rfl|rfl|rfl|rfl
 all_goals
  go_enter aC.func85,aC.ntmps85;go_wp2;go_quiet (fail);go_wp2;go_ret;exact⟨rfl,abg ((zj.alloc zf _).alloc zp _) _⟩
theorem xH{d x y:Int}(h:d=x):(if d<y then y else d)=max x y:=by
 omega
theorem tP(a b:Ctx)(w:af):
  Calls aC.prog 60 #[bz a,bz b] w λe w'=>e=.r (bz (aO a b))/\Below w w w':=by
 go_enter aC.func60,aC.ntmps60;go_wp2;go_loopw [8] (λi w'=>∃k:Nat,k<=4/\i=.i k/\∃d0 d1 d2 d3:Int,w'=((w.alloc (.cells #[.i d0,.i d1,.i d2,.i d3] 70)).alloc (.cells (.k b) 70)).alloc (.cells #[.i 0,.i 0,.i 0,.i 0] 70)/\Hid (d0=if 0<k then aO a b 0 else a 0)/\Hid (d1=if 1<k then aO a b 1 else a 1)/\Hid (d2=if 2<k then aO a b 2 else a 2)/\Hid (d3=if 3<k then aO a b 3 else a 3)) (λi _=>4-(intOf i).toNat)
 case atStart=>exact⟨0,zo,rfl,_,_,_,_,rfl,rfl,rfl,rfl,rfl⟩
 case round=>
  obtain⟨k,l,rfl,d0,d1,d2,d3,rfl,c,d,f,g⟩:=hrel;by_cases h:k<4
  .have j:=xA;rcases dR h with rfl|rfl|rfl|rfl
   .go_wp2;exact⟨⟨1,zo,rfl,_,_,_,_,rfl,(by first|exact xH c.out|exact congrArg (max · _) c.out),d,f,g⟩,by simp[intOf]⟩
   .go_wp2;exact⟨⟨2,zo,rfl,_,_,_,_,rfl,c,(by first|exact xH d.out|exact congrArg (max · _) d.out),f,g⟩,by simp[intOf]⟩
   .go_wp2;exact⟨⟨3,zo,rfl,_,_,_,_,rfl,c,d,(by first|exact xH f.out|exact congrArg (max · _) f.out),g⟩,by simp[intOf]⟩
   .go_wp2;exact⟨⟨4,zo,rfl,_,_,_,_,rfl,c,d,f,(by first|exact xH g.out|exact congrArg (max · _) g.out)⟩,by simp[intOf]⟩
  .obtain rfl:k=4:=zo;go_wp2;refine abn (v:=bz (aO a b)) ?_ rfl ⟨rfl,?_⟩
   .simp[results,aC.results60,go_sem];exact⟨c.out,d.out,f.out,g.out⟩
   .exact ((zj.alloc zf _).alloc zp _).alloc zt _
def aQ(l:List aG):List Value:=l.flatMap dT
theorem sX(l:List aG):(aQ l).length=l.length*3:=by
 induction l with
 |nil=>rfl
 |cons v l a=>simp only[aQ,acn,abo,abi] at*;rw[a];simp[dT];omega
theorem pc(a b:List aG):aQ (a++b)=aQ a++aQ b:=by simp[aQ]
def aS(l:List aG)(c:Ctx):List aG:=l.filter λv=>!gT c v
def aU(w:af)(sv:ag)(l:List aG):Prop:=w.ownsRow 0 117 3 sv l.length (aQ l)
theorem mU(l:List aG)(k:Nat)(h:k<l.length):
  (aQ l)[k*3]?=.i l[k].rep/\(aQ l)[k*3+1]?=.i l[k].n/\(aQ l)[k*3+2]?=.s l[k].val:=by
 induction l generalizing k with
 |nil=>simp at h
 |cons v l a=>
  have e:aQ (v::l)=dT v++aQ l:=by simp[aQ]
  cases k with
  |zero=>simp[e,dT]
  |succ k=>
   have c:k<l.length:=by simpa using h
   have:=a k c;rw[e];simp only[List.getElem_cons_succ];have d:(k+1)*3=k*3+3:=zo;rw[d];refine⟨?_,?_,?_⟩
   .rw[adg (by simp[dT])];simpa[dT] using this.1
   .rw[adg (by simp[dT])];simp only[dT,abi,abM];grind
   .rw[adg (by simp[dT])];simp only[dT,abi,abM];grind
theorem aU.cells{l:List aG}(h:aU w sv l){k:Nat}(f:k<l.length):
  ∃g cap,sv=.l g l.length cap/\g<w/\l.length<=cap/\cap<=maxLen/\
   w.cell? (.a g (k*3))=.i l[k].rep/\w.cell? (.a g (k*3+1))=.i l[k].n/\w.cell? (.a g (k*3+2))=.s l[k].val:=by
 obtain⟨q,c⟩:=h;rcases c with⟨_,c⟩|⟨g,cap,m,hv,_,d,o,p,hs,r⟩
 .omega
 .refine⟨g,cap,hv,(IN.1 d).1,o,p,?_⟩;have t:=mU l k f;have key:∀j v,j<l.length*3->(aQ l)[j]?=some v->w.cell? (.a g j)=some v:=by
   intro j v hj hv;simp only[World.cell?,d];grind
  grind
theorem AF(w:af)(cs:aa)(t:ak)(o:Nat):(w.alloc (.cells cs t)).cell? (.a w o)=cs[o]? :=by
 simp_all
theorem nh{base:Nat}{size:Nat}{n:Nat}(h:w.ownsRow base e size v n xs)(d:∀g,g<w.heap.size->v.ownBlock=some g->w'.heap[g]?=w.heap[g]?):w'.ownsRow base e size v n xs:=by
 refine⟨h.1,?_⟩;rcases h.2 with f|⟨g,cap,a,hv,i,c,r⟩
 .exact Or.inl f
 .exact Or.inr ⟨g,cap,a,hv,i,by rw[d g (IN.1 c).1 (by rw[hv];rfl)];exact c,r⟩
theorem bH{base:Nat}{size:Nat}{n:Nat}(h:w.ownsRow base e size v n xs)(hb:Below B w w')(a:w<=B):w'.ownsRow base e size v n xs:=
 nh h λg c _=>hb.block g (by omega)
theorem bU{base base':Nat}{size:Nat}{n:Nat}(h:w.ownsRow base e size v n xs)(hb:base'<=base):w.ownsRow base' e size v n xs:=by
 refine⟨h.1,?_⟩;rcases h.2 with c|⟨g,cap,a,hv,d,r⟩
 .exact Or.inl c
 .exact Or.inr ⟨g,cap,a,hv,zo,r⟩
theorem aC.wJ:(aC.prog.info? 117).map (λi=>(i.zero,i.size,i.bytes))=some (some (.agg #[.i 0,.i 0,.s ⟨#[]⟩]),3,32):=zk
theorem DY(l:List aG)(c:Ctx)(k:Nat)(h:k<l.length):aS (l.take (k+1)) c=aS (l.take k) c++(if gT c l[k]=true then [] else [l[k]]):=by
 rw[abE h];simp only[aS,List.filter_append];grind
theorem sN(c:Ctx)(sv:ag)(l:List aG)(seen:Ctx)(w:af)(h:aU w sv l)(hr:∀v∈l,v.rep<4)(hlen:l.length<=8000000):
  Calls aC.prog 59 #[.agg #[.i (c 0),.i (c 1),.i (c 2),.i (c 3),sv],bz seen] w λe w'=>∃v',e=.r v'/\w'.ownsRow w 117 3 v' (aS l seen).length (aQ (aS l seen))/\Below w w w':=by
 obtain⟨ad,cap,P,aq⟩: ∃ad cap,sv=.slice ad l.length cap/\(cap:Int)<=9223372036854775807:=by
  rcases h.2 with⟨Q,h2⟩|⟨g,cap,aB,hv,_,_,_,h3,_⟩
  .exact⟨_,_,by rw[Q,h2],zp⟩
  .exact⟨_,_,hv,by unfold maxLen at h3;omega⟩
 subst P;have H:Hid _:=h;have HR:Hid _:=hr;clear h hr;go_enter aC.func59,aC.ntmps59;go_wp2;go_loopw [5,11] (λlf i wr=>∃k:Nat,k<=l.length/\i=.i k/\Hid (wr.ownsRow (w.heap.size+2) 117 3 lf (aS (l.take k) seen).length (aQ (aS (l.take k) seen)))/\Hid (Below (w.heap.size+2) ((w.alloc (.cells #[.i (c 0),.i (c 1),.i (c 2),.i (c 3),.slice ad l.length cap] 74)).alloc (.cells (.k seen) 70)) wr)) (λ_ i _=>l.length-(intOf i).toNat)
 case atStart=>exact⟨0,zo,rfl,⟨by simp[aQ,aS],Or.inl ⟨rfl,by simp[aS]⟩⟩,zj⟩
 case round=>
  obtain⟨k,hk,rfl,m,u⟩:=hrel;by_cases A:k<l.length
  .obtain⟨g,ar,F,hg,_,_,c0,c1,c2⟩:=aU.cells H.out A;have R:Hid _:=HR.out _ (IS A);have G:=DY l seen k A;have N:Hid _:=G;clear G;generalize I:l[k].rep=r at*;generalize J:l[k].n=n at*;generalize K:l[k].val=s at*;have L:Hid (l[k]=(r,n,s)):=by rw[<-I,<-J,<-K];rfl
   clear I J K;cases F;have hb:=u.out;have aE:w.heap.size+2<=wr.heap.size:=by have:=hb.size;simp at this;omega
   have old:∀o,wr.cell? (.a g o)=w.cell? (.a g o):=λo=>by
    rw[hb.cell (p:=(.a g o)) zt,abp _ _ _ zt,abp _ _ _ zt]
   have d0:=(old _).trans c0;have d1:=(old _).trans c1;have d2:=(old _).trans c2;have j:∀o,wr.cell? (.a (w.heap.size+1) o)=#[Value.int .i64 (seen 0),.i (seen 1),.i (seen 2),.i (seen 3)][o]? :=λo=>by
    rw[hb.cell (p:=(.a (w.heap.size+1) o)) zp];exact World.cell?_alloc_at _ _ _ _ zp
   have S:=j 0;have T:=j 1;have U:=j 2;have V:=j 3;simp at S T U V;have aT:(k:Int)<(l.length:Int):=zo;have k0:(0:Int)<=(k:Int):=zo;have Hc:Hid _:=And.intro c0 (And.intro c1 c2);clear c0 c1 c2 old j hb;have a0:∀x,(wr.alloc x).cell? (.a (w.heap.size+1) 0)=.i (seen 0):=λx=>by rw[abp _ _ _ zt];exact S
   have a1:∀x,(wr.alloc x).cell? (.a (w.heap.size+1) 1)=.i (seen 1):=λx=>by rw[abp _ _ _ zt];exact T
   have a2:∀x,(wr.alloc x).cell? (.a (w.heap.size+1) 2)=.i (seen 2):=λx=>by rw[abp _ _ _ zt];exact U
   have a3:∀x,(wr.alloc x).cell? (.a (w.heap.size+1) 3)=.i (seen 3):=λx=>by rw[abp _ _ _ zt];exact V
   clear S T U V;have y:=R.out;have e1:∀w1,Below (wr.heap.size+1) (wr.alloc (.cells #[.i r,.i n,.s s] 117)) w1->Below (w.heap.size+2) ((w.alloc (.cells #[.i (c 0),.i (c 1),.i (c 2),.i (c 3),.l g l.length cap] 74)).alloc (.cells (.k seen) 70)) w1:=λw1 X=>(u.out.alloc zo _).trans (X.mono zo);have E1:Hid _:=e1;clear e1;have E2:Hid (∀w1,Below (wr.heap.size+1) (wr.alloc (.cells #[.i r,.i n,.s s] 117)) w1->w1.ownsRow (w.heap.size+2) 117 3 u5 (aS (List.take k l) seen).length (aQ (aS (List.take k l) seen))):=λw1 X=>bH (bH m.out ((aaP wr wr).alloc zf _) zf) X zp;have z:gT seen l[k]=decide (n<=seen r):=by rw[L.out];rfl
   have HQ:Hid _:=z;clear z;by_cases d:n<=seen r
   .have C:Hid (aS (List.take (k+1) l) seen=aS (List.take k l) seen):=by
     have:=N.out;rw[HQ.out,BY (by simpa using d),abU]at this;exact this
    clear N;have hd:decide (n<=seen r)=true:=by simpa using d
    clear d;go_wp2_with (go_at_call 85;refine(xO seen r n _ y).mono ?_;rintro e w1 ⟨rfl,f⟩;simp at f)
    exact⟨⟨k+1,zo,by go_num,by rw[C.out];exact E2.out _ f,E1.out _ f⟩,zi⟩
   .have C:Hid (aS (List.take (k+1) l) seen=aS (List.take k l) seen++ [(r,n,s)]):=by
     have:=N.out;rw[HQ.out,AT (by simpa using d),L.out]at this;exact this
    clear N;obtain⟨i0,Y,Z,ab,an⟩:=aaY aC.wJ;have hd:decide (n<=seen r)=false:=by simpa using d
    clear d;have M:Hid ((aS (List.take k l) seen).length<=8000000):=IT (abV _ _) zt;go_wp2_with (first
     |(go_at_call 85;refine(xO seen r n _ y).mono ?_;rintro e w1 ⟨rfl,f⟩;simp at f;have v0:w1.cell? (.a wr 0)=.i r:=(f.cell (p:=(.a wr 0)) zp).trans (AF _ _ _ _);have v1:w1.cell? (.a wr 1)=.i n:=(f.cell (p:=(.a wr 1)) zp).trans (AF _ _ _ _);have v2:w1.cell? (.a wr 2)=.s s:=(f.cell (p:=(.a wr 2)) zp).trans (AF _ _ _ _);have z1:w.heap.size+2<=w1.heap.size:=by (have:=f.size;simp at this;omega))
     |(at_builtin;refine abq _ rfl _ _ _ rfl (w.heap.size+2) 117 i0 _ 3 32 aC.underlying72 Y Z ab an rfl zo u5 _ _ rfl ((E2.out _ f).alloc _) (.a w1 0) 1 1 [.i r,.i n,.s s] rfl rfl (aaT (cs:=#[.i r,.i n,.s s]) (t:=117) (fr:=(0,0)) (By w1 _)) zv zo (by have:=M.out;unfold maxLen;omega) (by have:=M.out;omega) zt (w1.heap.size+1) zp ?_;intro gg av w2 D E a6 ay))
    refine⟨⟨k+1,zo,by go_num,?_,?_⟩,zi⟩
    .rw[C.out,pc,abo];exact D
    .have hB:=(E1.out _ f).alloc zo (.cells #[.i r,.i n,.s s] 117);refine hB.grown E zt λq O=>?_;rcases m.out.2 with⟨Q,_⟩|⟨g1,az,aA,ao,a7,_⟩
     .rw[Q]at O;cases O
     .rw[ao]at O;simp[Value.ownBlock]at O;omega
  .have a8:k=l.length:=zo;have HK:Hid (List.take k l=l):=acK zo;have HO:Hid _:=m.out;clear m;go_wp2;go_ret;refine⟨_,rfl,?_,?_⟩
   .have:=HO.out;rw[HK.out]at this;exact bU this zo
   .exact (((zj.alloc zf _).alloc zp _).trans (u.out.mono zo))
theorem nS{w1:af}{A B C:aa}{d f g:ak}(hb:Below (w.heap.size+3) (((w.alloc (.cells A d)).alloc (.cells B f)).alloc (.cells C g)) w1):
  (∀o,w1.cell? (.a w o)=A[o]?)/\(∀o,w1.cell? (.a (w.heap.size+1) o)=B[o]?)/\(∀o,w1.cell? (.a (w.heap.size+1+1) o)=C[o]?)/\(∀o,w1.frozen? (.a w o)=false)/\(∀o,w1.frozen? (.a (w.heap.size+1) o)=false)/\(∀o,w1.frozen? (.a (w.heap.size+1+1) o)=false):=by
 have h:w1.heap[w.heap.size]?=.c A d:=by
  rw[hb.block _ zo,aaO _ _ _ zt,aaO _ _ _ zp];exact By w _
 have i:w1.heap[w.heap.size+1]?=.c B f:=by
  rw[hb.block _ zo,aaO _ _ _ zp]
  have:=By (w.alloc (.cells A d)) (.cells B f);simpa using this
 have j:w1.heap[w.heap.size+1+1]?=.c C g:=by
  rw[hb.block _ zo]
  have:=By ((w.alloc (.cells A d)).alloc (.cells B f)) (.cells C g);simpa using this
 refine⟨λo=>?_,λo=>?_,λo=>?_,λo=>?_,λo=>?_,λo=>?_⟩
 .simp[World.cell?,h]
 .simp[World.cell?,i]
 .simp[World.cell?,j]
 .simp[World.frozen?,h]
 .simp[World.frozen?,i]
 .simp[World.frozen?,j]
theorem aU.len{l:List aG}(h:aU w sv l): ∃ad cap,sv=.slice ad l.length cap/\(cap:Int)<=9223372036854775807:=by
 rcases h.2 with⟨d,f⟩|⟨g,cap,a,hv,_,_,_,c,_⟩
 .grind
 .exact⟨_,_,hv,by unfold maxLen at c;omega⟩
theorem qX{l:List aG}(h:w.ownsRow B 117 3 sv l.length (aQ l)): ∃ad cap,sv=.slice ad l.length cap:=by
 rcases h.2 with⟨c,d⟩|⟨g,cap,a,hv,_⟩
 .grind
 .exact⟨_,_,hv⟩
abbrev bY(c:Ctx)(sv:ag):Value:=.agg #[.i (c 0),.i (c 1),.i (c 2),.i (c 3),sv]
theorem QT(c:Ctx)(sv:ag)(l:List aG)(seen:Ctx)(w:af)(h:aU w sv l)(j:∀v∈l,v.rep<4)(hlen:l.length<=8000000)(k:(aS l seen).length=l.length):
  Calls aC.prog 43 #[bY c sv,bz seen] w λe w'=>e=.r (.tuple #[bY (λ_=>0) (.slice none 0 0),.i 5])/\Below w w w':=by
 obtain⟨ad,cap,rfl,m⟩:=h.len;have o:Hid (∀a b d,aU (((w.alloc a).alloc b).alloc d) (.slice ad l.length cap) l):=λa b d=>((aaV h a).alloc b).alloc d;have p:Hid _:=k;have q:Hid _:=j;clear h j k;go_enter aC.func43,aC.ntmps43;go_wp2_with (go_at_call 59;refine(sN c _ l seen _ (o.out _ _ _) q.out hlen).mono ?_;rintro e w1 ⟨v',rfl,f,hb⟩;obtain⟨s,n,g⟩:=qX f;rw[p.out]at g;subst g;simp at hb;obtain⟨b0,b1,b2,u,x,y⟩:=nS hb;have z:Hid _:=f;have t:Hid _:=hb;clear f hb)
 refine abn (v:=.tuple #[bY (λ_=>0) (.slice none 0 0),.i 5]) ?_ rfl ⟨rfl,?_⟩
 .simp[results,aC.results43,go_sem,b2]
 .exact (((((((zj.alloc zf _).alloc zp _).alloc zt _).trans (t.out.mono zo)).setCell zt _).setCell zt _).setCell zt _|>.setCell zt _).setCell zt _
theorem VV(c:Ctx)(sv:ag)(l:List aG)(seen:Ctx)(w:af)(h:aU w sv l)(q:∀v∈l,v.rep<4)(hlen:l.length<=8000000)(G:(aS l seen).length<l.length):
  Calls aC.prog 43 #[bY c sv,bz seen] w λe w'=>∃v',e=.r (.tuple #[bY (aO c seen) v',.i 0])/\w'.ownsRow w 117 3 v' (aS l seen).length (aQ (aS l seen))/\Below w w w':=by
 obtain⟨ad,cap,rfl,s⟩:=h.len;have u:Hid (∀a b d,aU (((w.alloc a).alloc b).alloc d) (.slice ad l.length cap) l):=λa b d=>((aaV h a).alloc b).alloc d;have x:Hid _:=q;clear h q;have y:(((aS l seen).length:Int)==(l.length:Int))=false:=zt;go_enter aC.func43,aC.ntmps43;go_wp2_with (first
  |(go_at_call 59;refine(sN c _ l seen _ (u.out _ _ _) x.out hlen).mono ?_;rintro e w1 ⟨v',rfl,f,hb⟩;obtain⟨m,k,n⟩:=qX f;subst n;simp at hb;obtain⟨b0,b1,b2,z,A,C⟩:=nS hb;have D:Hid _:=f;have t:Hid _:=hb;clear f hb)
  |(go_at_call 60;refine(tP c seen _).mono ?_;rintro e w2 ⟨rfl,g⟩;have j:=t.out.trans (g.mono (by have:=t.out.size;simp at this;omega));obtain⟨b0,b1,b2,z,A,C⟩:=nS j;have o:Hid _:=j;have p:Hid _:=g;clear j g))
 refine abn (v:=.tuple #[bY (aO c seen) (.slice m (aS l seen).length k),.i 0]) ?_ rfl ⟨_,rfl,?_,?_⟩
 .simp[results,aC.results43,go_sem,b2]
 .have E:=bU D.out (show w.heap.size+3<=_ by simp);have F:=bH E p.out zf;exact bU (abP (abP (abP (abP (abP F zp _) zp _) zp _) zp _) zp _) zo
 .exact (((((((zj.alloc zf _).alloc zp _).alloc zt _).trans (o.out.mono zo)).setCell zt _).setCell zt _).setCell zt _|>.setCell zt _).setCell zt _
end Go.Proofs.YtldmcdeibiclkaaGreatQ
namespace Go.Proofs.YtldmcdeibiclkaaGreatQ
section
open Go.Shelf Go.RowKit Go.Lib Go.Sort
theorem Dr(l:List aG):(flatK dT 3 l.toArray).toList=aQ l:=by
 apply adh;intro t;by_cases f:t<l.length*3
 .have g:t / 3<l.length:=zo;obtain⟨a,b,c⟩:=mU l (t / 3) g;have e:(flatK dT 3 l.toArray).toList[t]?=some ((dT l[t / 3])[t%3]!):=by
   have h:=get_flatK dT 3 l.toArray t (by simpa using f);simp_all
  rw[e];have d:t%3=0\/t%3=1\/t%3=2:=zo;rcases d with d|d|d
  .rw[d];rw[show(aQ l)[t]?=(aQ l)[t / 3*3]? by congr 1;omega,a];rfl
  .rw[d];rw[show(aQ l)[t]?=(aQ l)[t / 3*3+1]? by congr 1;omega,b];rfl
  .rw[d];rw[show(aQ l)[t]?=(aQ l)[t / 3*3+2]? by congr 1;omega,c];rfl
 .rw[adi zt,adi (by rw[sX];omega)]
theorem KT{w:af}{g:Nat}{l:List aG}{a:aa}(d:w.heap[g]?=some (.cells a 117 (0,0)))(h:a.toList.take (l.length*3)=aQ l):HoldsK dT 3 w g 0 l.toArray:=by
 intro j hj;have c:j<l.length*3:=by simpa using hj
 refine⟨?_,by simp[World.frozen?,d]⟩;simp only[World.cell?,d,Nat.zero_add,id];rw[getElem!_pos _ j hj];have f:(flatK dT 3 l.toArray).toList[j]?=some (flatK dT 3 l.toArray)[j]:=zg;rw[Dr,<-h,abQ,BY c]at f;simpa using f
theorem G7(B:Nat)(v:ag)(l:List aG)(w:af)(h:w.ownsRow B 117 3 v l.length (aQ l))(K:0<l.length)(C:l.length<20000000):
  Calls aC.prog 61 #[v,.func (.func 62) #[] #[]] w λe w'=>e=.r (.tuple #[])/\∃p:List aG,p.Perm l/\p.Pairwise (λa b=>bf b a=false)/\w'.ownsRow B 117 3 v p.length (aQ p)/\w.grownBy w' v.ownBlock:=by
 obtain⟨L,A⟩:=h;rcases A with⟨_,A⟩|⟨g,cap,m,rfl,D,s,u,E,hs,F⟩
 .omega
 have d:=(IN.1 s).1;have G:=KT s F;refine(YH g 0 cap l.toArray w G d zt).mono ?_;rintro e w' ⟨rfl,f,n,os,q,x,rfl⟩;refine⟨rfl,f.toList,?_,?_,?_,?_⟩
 .have:=q.2.2;have e:=q.1;simp only[List.size_toArray]at e this;rw[Array.extract_eq_self_of_le zo,Array.extract_eq_self_of_le zp]at this;simpa using this
 .rw[acr];intro i j hi hj y
  have:=x i j zo y (by have:=q.1;grind);grind
 .have c:f.size=l.length:=by simpa using q.1
  have hb:(sortWorldK dT 3 w g 0 n f os).heap[g]?=some (.cells (putCells id 0 (flatK dT 3 f) m) 117 (0,0)):=by
   unfold sortWorldK;rw[heap_grow_old _ _ (by simpa[putRowK,putRow,mapBlock,Sort.ahead] using d)];simp[putRowK,putRow,mapBlock,Sort.ahead,abR,s,onCells]
  refine⟨by rw[sX],Or.inr ⟨g,cap,_,by simp[c],D,hb,by simp[c];exact u,E,by simp[putCells,hs],?_⟩⟩;have H:aQ f.toList=(flatK dT 3 f).toList:=by rw[<-Dr]
  rw[H];apply adh;intro t;by_cases o:t<l.length*3
  .rw[abQ,BY (by simp[c];exact o),Array.getElem?_toList,Array.getElem?_toList];have I:t<(flatK dT 3 f).size:=by simp[c];exact o
   have J:t<m.size:=zo;simp only[putCells,Array.getElem?_mapIdx,abI J,aca,abI I];grind
  .rw[adi (by simp[c];omega),adi (by simp[c];omega)]
 .refine⟨rfl,rfl,rfl,by simp[sortWorldK,putRowK,putRow,mapBlock,Sort.ahead],λk M z=>?_⟩;unfold sortWorldK;rw[heap_grow_old _ _ (by simp[putRowK,putRow,mapBlock,Sort.ahead];omega)];simp only[putRowK,putRow,mapBlock,Sort.ahead,abR];rw[AT (λe=>z (by subst e;rfl))]
end
end Go.Proofs.YtldmcdeibiclkaaGreatQ
namespace Go.Proofs.YtldmcdeibiclkaaGreatQ
open Go.RowKit
def bump(c:Ctx)(r:Nat):Ctx:=λi=>if i=r then c i+1 else c i
theorem Vx(c:Ctx)(sv:ag)(l:List aG)(rep:Nat)(val:ah)(seen:Ctx)(w:af)(h:aU w sv l)(D:∀v∈l,v.rep<4)(hlen:l.length<=8000000)(k:rep<4)(t:20<=(aS l seen).length\/(aS l seen).length<20/\1000000<=aO c seen rep):
  Calls aC.prog 33 #[bY c sv,.i rep,.s val,bz seen] w λe w'=>e=.r (.tuple #[bY (λ_=>0) (.slice none 0 0),.i 6])/\Below w w w':=by
 obtain⟨ad,cap,rfl,E⟩:=h.len;have F:Hid (∀a b d,aU (((w.alloc a).alloc b).alloc d) (.slice ad l.length cap) l):=λa b d=>((aaV h a).alloc b).alloc d;have G:Hid _:=D;clear h D;generalize o:aS l seen=U at*;have H:Hid _:=o;clear o;rcases t with t|⟨t,J⟩
 .rcases dR k with rfl|rfl|rfl|rfl
  all_goals
   go_enter aC.func33,aC.ntmps33;go_wp2_with (first
    |(go_at_call 59;refine(sN c _ l seen _ (F.out _ _ _) G.out hlen).mono ?_;rintro e w1 ⟨v',rfl,f,hb⟩;rw[H.out]at f;obtain⟨u,p,m⟩:=qX f;subst m;simp at hb;obtain⟨b0,b1,b2,x,y,z⟩:=nS hb;have I:Hid _:=f;have q:Hid _:=hb;clear f hb)
    |(go_at_call 60;refine(tP c seen _).mono ?_;rintro e w2 ⟨rfl,j⟩;have g:=q.out.trans (j.mono (by have:=q.out.size;simp at this;omega));obtain⟨b0,b1,b2,x,y,z⟩:=nS g;have n:Hid _:=g;have A:Hid _:=j;have C:w.heap.size+1+1<w2.heap.size:=(by have:=g.size;simp at this;omega);clear g j))
   refine abn (v:=.tuple #[bY (λ_=>0) (.slice none 0 0),.i 6]) ?_ rfl ⟨rfl,?_⟩
   .simp[results,aC.results33,go_sem,b2,C]
   .have base:=(((zj.alloc zf _).alloc zp _).alloc zt _).trans (n.out.mono zo);repeat' (with_reducible (first|exact base|refine abm ?_ ?_ _|refine aaU ?_ ?_ _))
    all_goals (first|omega|(simp;omega))
 .rcases dR k with rfl|rfl|rfl|rfl
  all_goals
   go_enter aC.func33,aC.ntmps33;go_wp2_with (first
    |(go_at_call 59;refine(sN c _ l seen _ (F.out _ _ _) G.out hlen).mono ?_;rintro e w1 ⟨v',rfl,f,hb⟩;rw[H.out]at f;obtain⟨u,p,m⟩:=qX f;subst m;simp at hb;obtain⟨b0,b1,b2,x,y,z⟩:=nS hb;have I:Hid _:=f;have q:Hid _:=hb;clear f hb)
    |(go_at_call 60;refine(tP c seen _).mono ?_;rintro e w2 ⟨rfl,j⟩;have g:=q.out.trans (j.mono (by have:=q.out.size;simp at this;omega));obtain⟨b0,b1,b2,x,y,z⟩:=nS g;have n:Hid _:=g;have A:Hid _:=j;have C:w.heap.size+1+1<w2.heap.size:=(by have:=g.size;simp at this;omega);clear g j))
   refine abn (v:=.tuple #[bY (λ_=>0) (.slice none 0 0),.i 6]) ?_ rfl ⟨rfl,?_⟩
   .simp[results,aC.results33,go_sem,b2,C]
   .have base:=(((zj.alloc zf _).alloc zp _).alloc zt _).trans (n.out.mono zo);repeat' (with_reducible (first|exact base|refine abm ?_ ?_ _|refine aaU ?_ ?_ _))
    all_goals (first|omega|(simp;omega))
end Go.Proofs.YtldmcdeibiclkaaGreatQ
section
namespace Go.Proofs
open Go.Shelf Go.RowKit
namespace YtldmcdeibiclkaaGreatQ
def UA(s:ah)(w:af)(hs:s.size<=281474976710656):
  Calls aC.prog 63 #[.s s] w λe w'=>e=.r (.s s)/\Below w w w':=
 Any.stringslite_Clone aC.Tk s w hs
theorem rH(s:ah)(w:af)(hs:s.size<=281474976710656):
  Calls aC.prog 34 #[.s s] w λe w'=>e=.r (.s s)/\Below w w w':=by
 go_enter aC.func34,aC.ntmps34;go_wp2_with (go_at_call 63;refine(UA s _ hs).mono ?_;rintro e w' ⟨rfl,hb⟩)
 go_ret;exact⟨rfl,hb⟩
end YtldmcdeibiclkaaGreatQ
end Go.Proofs
end
namespace Go.Proofs.YtldmcdeibiclkaaGreatQ
variable {w w1 W w':af}{b clock:Nat}{bm:Nat->Nat}{es:Array aw}{sv:ag}
open Go.RowKit
theorem bytes_beq(a b:ah):(a==b)=decide (a=b):=by
 rw[beq_toListBytes,acU];simp only[ByteArray.toList_eq,abt,Array.toList_inj,abb];exact⟨λh=>by cases a;cases b;simp_all,λh=>by rw[h]⟩
def gk(es:List aw):Prop:=∀e∈es,∃k,e.key=.s k
def cS:List aw->ah->Option ag
 |[],_=>none
 |e::es,s=>match e.key with
  |.s k=>if s=k then some e.val else cS es s
  |_=>cS es s
theorem zr(s:ah):∀(es:List aw) (i:Nat),gk es->cS es s=none->Instr.findNow .string (.string s) es i=some none
 |[],_,_,_=>rfl
 |e::es,i,c,h=>by
  obtain⟨k,d⟩:=c e zp;simp only[cS,d]at h;by_cases hs:s=k
  .grind
  .rw[AT hs]at h;have a:(s==k)=false:=by rw[bytes_beq];simpa using hs
   simp only[Instr.findNow,Instr.sameNow,d,a];exact zr s es (i+1) (λf g=>c f (by simp[g])) h
theorem sT(s:ah)(v:ag):∀(es:List aw) (i:Nat),gk es->cS es s=some v->∃j,j<es.length/\Instr.findNow .string (.string s) es i=some (some (i+j,v))/\(es[j]?).map (·.key)=some (.string s)
 |[],_,_,h=>by cases h
 |e::es,i,f,h=>by
  obtain⟨k,c⟩:=f e zp;simp only[cS,c]at h;by_cases hs:s=k
  .rw[BY hs]at h;cases h;subst hs;exact⟨0,by simp,by simp[Instr.findNow,Instr.sameNow,c,bytes_beq],by simp[c]⟩
  .rw[AT hs]at h;have d:(s==k)=false:=by rw[bytes_beq];simpa using hs
   obtain⟨j,hj,m,a⟩:=sT s v es (i+1) (λg l=>f g (by simp[l])) h;refine⟨j+1,by simpa using hj,?_,by simpa using a⟩;simp only[Instr.findNow,Instr.sameNow,c,d];grind
theorem EP(w:af)(b:Bool)(n:Nat)(s:ah):(Instr.checkKey b (n+1) 9 (.s s)).run aC.prog w=.ok () w:=by
 have hs:=aC.underlying9;simp only[Instr.checkKey,abH,abW hs,abY];rfl
abbrev pH:Value:=.agg #[.i 0,.i 0,.i 0,.i 0,.slice none 0 0]
theorem qx(w:af)(bm:Nat)(es:Array aw)(clock:Nat)(s:ah)(d:w.heap[bm]?=some (.map es clock))(f:gk es.toList):
  (Instr.lookup 63 (.map (some bm)) (.string s) false).run aC.prog w=.ok ((cS es.toList s).getD pH) w:=by
 have g:aC.prog.underlying 63=some (.map 9 74):=aC.underlying63;have hs:=aC.underlying9;have a:∀b,(Instr.checkKey b 10000 9 (.string s)).run aC.prog w=.ok () w:=λb=>EP w b 9999 s;cases h:cS es.toList s with
 |none=>
  have c:=zr s es.toList 0 f h;simp[Instr.lookup,abW g,abW hs,getObj,Sem.run,d,a,Instr.findKey,c]
 |some v=>
  obtain⟨j,hj,c,i⟩:=sT s v es.toList 0 f h;simp[Instr.lookup,abW g,abW hs,getObj,Sem.run,d,a,Instr.findKey,c]
theorem GV(t:ah)(e:aw)(k:ah)(a:e.key=.s k):∀es:List aw,gk es->cS (es++ [e]) t=(cS es t).or (if t=k then some e.val else none)
 |[],_=>by simp[cS,a]
 |x::es,c=>by
  obtain⟨q,d⟩:=c x zp;simp only[abT,cS,d];by_cases h:t=q
  .simp[h]
  .rw[AT h,AT h];exact GV t e k a es (λf g=>c f (by simp[g]))
theorem G8(s:ah):∀(es:List aw) (i q:Nat) (v:ag),Instr.findNow .string (.string s) es i=some (some (q,v))->i<=q
 |[],i,q,v,h=>by simp[Instr.findNow]at h
 |e::es,i,q,v,h=>by
  simp only[Instr.findNow]at h;split at h
  .simp at h;omega
  .have:=G8 s es (i+1) q v h;omega
  .cases h
theorem zC(s t:ah)(v v':ag)(f:aw->aw)(c:∀e,(f e).key=.string s)(d:∀e,(f e).val=v'):∀(es:List aw) (i j:Nat),gk es->Instr.findNow .string (.string s) es i=some (some (i+j,v))->cS (es.modify j f) t=(if t=s then some v' else cS es t)/\gk (es.modify j f)
 |[],i,j,_,h=>by simp[Instr.findNow]at h
 |e::es,i,j,m,h=>by
  obtain⟨k,g⟩:=m e zp;by_cases hs:s=k
  .subst hs;simp only[Instr.findNow,Instr.sameNow,g,bytes_beq,decide_true]at h;have hj:j=0:=by simp at h;omega
   subst hj;refine⟨?_,?_⟩
   .simp only[List.modify_zero_cons,cS,c,d,g];grind
   .intro x a;simp only[List.modify_zero_cons,abk]at a;rcases a with rfl|a
    .exact⟨s,c e⟩
    .exact m x (by simp[a])
  .have n:(s==k)=false:=by rw[bytes_beq];simpa using hs
   simp only[Instr.findNow,Instr.sameNow,g,n]at h;have hj:1<=j:=by
    rcases acL j with o|o
    .subst o
     have:=G8 s es (i+1) _ _ h;omega
    .exact o
   obtain⟨l,rfl⟩: ∃l,j=l+1:=⟨j-1,zo⟩
   rw[show i+(l+1)=i+1+l by omega]at h;obtain⟨u,p⟩:=zC s t v v' f c d es (i+1) l (λq r=>m q (by simp[r])) h;refine⟨?_,?_⟩
   .simp only[List.modify_succ_cons,cS,g];grind
   .intro x a;simp only[List.modify_succ_cons,abk]at a;rcases a with rfl|a
    .exact⟨k,g⟩
    .exact p x a
def lU(Q:ah->Prop)(es:List aw)(clock:Nat):Prop:=
 (es.map (·.key)).Nodup/\(es.map (·.born)).Nodup/\(∀e∈es,e.born<clock)/\∀e∈es,∃k,e.key=.s k/\Q k
theorem yT{s:ah}:∀{es:List aw},gk es->cS es s=none->∀e∈es,e.key≠.s s
 |[],_,_,e,a=>by simp at a
 |x::es,c,h,e,a=>by
  obtain⟨q,d⟩:=c x zp;simp only[cS,d]at h;by_cases hs:s=q
  .grind
  .rw[AT hs]at h;simp only[abk]at a;rcases a with rfl|a
   .grind
   .exact yT (λf g=>c f (by simp[g])) h e a
theorem Gc{α β:Type}(g:α->β)(f:α->α)(l:List α)(j:Nat)(h:∀x,l[j]?=some x->g (f x)=g x):(l.modify j f).map g=l.map g:=by
 apply adh;grind
def jA(w:af)(bm:Nat)(es:Array aw)(clock:Nat):World:={w with heap:=w.heap.setIfInBounds bm (.map es clock)}
theorem D8(bm:Nat)(es:Array aw)(clock:Nat)(s:ah)(v:ag)(f:gk es.toList):
  ∃es' c,(∀w:af,w.heap[bm]?=some (.map es clock)->(Instr.mapUpdate 63 (.map (some bm)) (.s s) v).run aC.prog w=.ok () (jA w bm es' c))/\gk es'.toList/\(∀t,cS es'.toList t=if t=s then some v else cS es.toList t)/\∀Q,Q s->lU Q es.toList clock->lU Q es'.toList c:=by
 have q:aC.prog.underlying 63=some (.map 9 74):=aC.underlying63;have hs:=aC.underlying9;have g:∀w b,(Instr.checkKey b 10000 9 (.s s)).run aC.prog w=.ok () w:=λw b=>EP w b 9999 s;cases l:cS es.toList s with
 |none=>
  have i:=zr s es.toList 0 f l;refine⟨es.push {key:=.s s,val:=v,born:=clock},clock+1,?_,?_,?_,?_⟩
  .intro w m;simp[Instr.mapUpdate,abW q,abW hs,getObj,setObj,Sem.run,m,g,Instr.findKey,i,jA]
  .intro x d;simp at d;rcases d with d|rfl
   .exact f x (by simpa using d)
   .exact⟨s,rfl⟩
  .intro t;rw[Array.toList_push,GV t _ s rfl _ f];grind
  .rintro Q y ⟨n,r,z,A⟩;rw[Array.toList_push];refine⟨?_,?_,λe h=>?_,λe h=>?_⟩
   .rw[abZ,List.nodup_append];refine⟨n,zp,λa C b hb=>?_⟩;simp at hb;subst hb;obtain⟨x,d,rfl⟩:=aaW.1 C;exact yT f l x d
   .grind
   .grind
   grind
 |some u=>
  obtain⟨j,hj,i,k⟩:=sT s u es.toList 0 f l;have o:(es[j]?).map (·.key)=.s s:=by simpa using k
  have p:Instr.sameBits 10000 (.s s) (.s s)=true:=by simp[Instr.sameBits,bytes_beq]
  refine⟨es.modify j λe=>{e with key:=.s s,val:=v},clock,?_,?_,?_,?_⟩
  .intro w m;simp[Instr.mapUpdate,abW q,abW hs,getObj,setObj,Sem.run,m,g,Instr.findKey,i,o,Instr.keyThatStays,p,jA]
  .rw[Array.toList_modify];exact(zC s s u v _ (λ_=>rfl) (λ_=>rfl) es.toList 0 j f i).2
  .intro t;rw[Array.toList_modify];exact(zC s t u v _ (λ_=>rfl) (λ_=>rfl) es.toList 0 j f i).1
  .rintro Q y ⟨n,r,z,A⟩;rw[Array.toList_modify];have D:(es.toList.modify j λe=>{e with key:=.s s,val:=v}).map (·.key)=es.toList.map (·.key):=Gc _ _ _ _ λx d=>by
    grind
   have E:(es.toList.modify j λe=>{e with key:=.s s,val:=v}).map (·.born)=es.toList.map (·.born):=Gc _ _ _ _ λx d=>rfl;refine⟨by rw[D];exact n,by rw[E];exact r,λe h=>?_,λe h=>?_⟩
   .have:e.born∈(es.toList.modify j λe=>{e with key:=.s s,val:=v}).map (·.born):=aaW.2 ⟨e,h,rfl⟩;grind
   .have:e.key∈(es.toList.modify j λe=>{e with key:=.s s,val:=v}).map (·.key):=aaW.2 ⟨e,h,rfl⟩;grind
def kB(s:ah)(k:Nat):Int:=if h:k<s.size then (s[k].toNat:Int) else 0
def iU(s:ah):Nat->Int
 |0=>14695981039346656037
 |k+1=>IntKind.u64.wrap (Go.bits .xor .u64 (iU s k) (kB s k)*1099511628211)
def ga(s:ah):Int:=iU s s.size
def aZ(s:ah):Nat:=(ga s%64).toNat
theorem pY(s:ah):∀k,0<=iU s k/\iU s k<18446744073709551616
 |0=>by simp[iU]
 |k+1=>by
  simp only[iU,IntKind.wrap_u64];omega
theorem kP(s:ah):aZ s<64:=by
 unfold aZ;omega
theorem Fe(s:ah):((aZ s:Nat):Int)=ga s%64:=by
 unfold aZ;omega
theorem Bu(b:UInt8):IntKind.u64.wrap (b.toNat:Int)=(b.toNat:Int):=by
 rw[IntKind.wrap_u64]
 have:=b.toNat_lt;omega
theorem sA(s:ah)(k:Nat)(h:k<s.size):kB s k=(s[k].toNat:Int):=by simp[kB,h]
theorem zH(s:ah)(w:af)(hs:s.size<=maxLen):
  Calls aC.prog 84 #[.s s] w λe w'=>e=.r (.int .u64 (ga s))/\w'=w:=by
 unfold maxLen at hs;go_enter aC.func84,aC.ntmps84;go_wp2;go_loop [3,7] (λd i=>∃k:Nat,k<=s.size/\i=.i k/\d=.int .u64 (iU s k)) (λ_ i=>s.size-(intOf i).toNat)
 case atStart=>exact⟨0,zo,rfl,rfl⟩
 case round=>
  obtain⟨k,g,rfl,rfl⟩:=hrel;by_cases a:k<s.size
  .have g1:(k:Int)<(s.size:Int):=zo;have g0:(0:Int)<=(k:Int):=zo;have c:Hid (iU s (k+1)=IntKind.u64.wrap (Go.bits .xor .u64 (iU s k) (s[k].toNat:Int)*1099511628211)):=by
    show iU s (k+1)=_;rw[iU,sA s k a]
   go_wp2;refine⟨⟨k+1,zo,by go_num,?_⟩,zi⟩;rw[c.out,Bu]
  .have f:k=s.size:=zo;go_wp2;go_ret;exact⟨rfl,rfl⟩
theorem OK(w:af):Calls aC.prog 70 #[.i 3] w λe w'=>e=.r (.i 64)/\w'=w:=by
 go_enter aC.func70,aC.ntmps70;go_wp2;go_loop [3,5] (λc i=>(i=.i 0/\c=.i 1)\/(i=.i 1/\c=.i 4)\/(i=.i 2/\c=.i 16)\/(i=.i 3/\c=.i 64)) (λ_ i=>3-(intOf i).toNat)
 case atStart=>exact Or.inl ⟨rfl,rfl⟩
 case round=>
  rcases hrel with⟨rfl,rfl⟩|⟨rfl,rfl⟩|⟨rfl,rfl⟩|⟨rfl,rfl⟩
  .go_wp2;exact⟨Or.inr (Or.inl ⟨rfl,rfl⟩),zd⟩
  .go_wp2;exact⟨Or.inr (Or.inr (Or.inl ⟨rfl,rfl⟩)),zd⟩
  .go_wp2;exact⟨Or.inr (Or.inr (Or.inr ⟨rfl,rfl⟩)),zd⟩
  .go_wp2;go_ret;exact⟨rfl,rfl⟩
theorem E7(s:ah)(w:af)(hs:s.size<=maxLen):
  Calls aC.prog 58 #[.s s] w λe w'=>e=.r (.i (aZ s))/\w'=w:=by
 have a:Hid _:=λW=>zH s W hs;have c:=(pY s s.size).1;have d:=(pY s s.size).2;have f:=zu ((Fe s).symm);have hl:=kP s;change 0<=ga s at c;change ga s<_ at d;generalize ga s=F at*;go_enter aC.func58,aC.ntmps58;go_wp2_with (first
  |(go_at_call 84;refine AI (a.out _) ?_;rintro e w1 ⟨rfl,rfl⟩)
  |(go_at_call 70;refine(OK _).mono ?_;rintro e w1 ⟨rfl,rfl⟩))
 go_ret;refine⟨sO ?_,rfl⟩;exact f.out
abbrev aL:=ah->Ctx×List aG
def gz(w:af)(b:Nat)(bm:Nat->Nat)(num:Nat):Prop:=
 ∃A:aa,w.heap[b]?=.c A 66/\A[0]?=.i num/\∀n,n<64->A[n+1]?=some (.map (some (bm n)))
def fj(c:Ctx):Prop:=∃i,i<4/\c i≠0
def ru(w:af)(m n:Nat)(K:aL):Prop:=
 ∃es clock,w.heap[m]?=some (.map es clock)/\gk es.toList/\(∀s,aZ s=n->∃sv,(cS es.toList s).getD pH=bY (K s).1 sv/\aU w sv (K s).2)/\lU (λk=>aZ k=n/\k.size<=281474976710656/\bq k=true) es.toList clock/\∀s,cS es.toList s≠none->fj (K s).1
def aV(w:af)(b:Nat)(bm:Nat->Nat)(num:Nat)(K:aL):Prop:=
 gz w b bm num/\(∀n,n<64->ru w (bm n) n K)/\∀n m,n<64->m<64->bm n=bm m->n=m
theorem xn{Q:ah->Prop}:∀{es:List aw} {s:ah},cS es s≠none->(∀e∈es,∃k,e.key=.s k/\Q k)->Q s
 |[],_,h,_=>absurd rfl h
 |e::es,s,h,c=>by
  obtain⟨k,d,f⟩:=c e List.mem_cons_self;by_cases a:s=k
  .rw[a];exact f
  .refine xn (es:=es) (λg=>h ?_) λe i=>c e (List.mem_cons_of_mem _ i);simp[cS,d,a,g]
def dV(K:aL)(s:ah)(x:Ctx×List aG):aL:=λt=>if t=s then x else K t
theorem aU.de{l:List aG}(h:aU w sv l)(d:∀g,g<w.heap.size->(∃a,w.heap[g]?=some (.cells a 117 (0,0)))->w'.heap[g]?=w.heap[g]?):aU w' sv l:=by
 obtain⟨c,f⟩:=h;refine⟨c,?_⟩;grind
theorem gz.lt{num:Nat}(h:gz w b bm num):b<w:=by
 obtain⟨A,a,_⟩:=h;grind
theorem ru.lt{m n:Nat}{K:aL}(h:ru w m n K):m<w:=by
 obtain⟨es,clock,a,_⟩:=h;grind
theorem gz.num{num:Nat}(h:gz w b bm num):w.cell? (.a b 0)=.i num:=by
 obtain⟨A,c,d,_⟩:=h;simp[World.cell?,c,d]
theorem gz.bC{num:Nat}(h:gz w b bm num){n:Nat}(c:n<64):w.cell? (.a b (n+1))=some (.map (some (bm n))):=by
 obtain⟨A,d,_,f⟩:=h;simp[World.cell?,d,f n c]
theorem aV.de{num:Nat}{K:aL}(h:aV w b bm num K)(hb:w'.heap[b]?=w.heap[b]?)(d:∀n,n<64->w'.heap[bm n]?=w.heap[bm n]?)(f:∀g,g<w.heap.size->(∃a,w.heap[g]?=some (.cells a 117 (0,0)))->w'.heap[g]?=w.heap[g]?):aV w' b bm num K:=by
 obtain⟨⟨A,i,j⟩,k,l⟩:=h;refine⟨⟨A,by rw[hb];exact i,j⟩,λn c=>?_,l⟩;obtain⟨es,clock,m,o,p,q⟩:=k n c;refine⟨es,clock,by rw[d n c];exact m,o,λs hs=>?_,q⟩;obtain⟨sv,r,t⟩:=p s hs;exact⟨sv,r,t.de f⟩
def aV.below{num:Nat}{K:aL}(h:aV w b bm num K)(hb:Below w w w'):aV w' b bm num K:=
 h.de (hb.block _ h.1.lt) (λn a=>hb.block _ (h.2.1 n a).lt) λg c _=>hb.block g c
theorem Gz(b:Nat)(key:ah)(c:Ctx)(sv:ag)(e:Int)(w:af)(a:(e==0)=false):
  Calls aC.prog 35 #[.p b,.s key,bY c sv,.i e] w λr w'=>r=.r (.i e)/\Below w w w':=by
 go_enter aC.func35,aC.ntmps35;go_wp2;go_ret;exact⟨rfl,zj.alloc zf _⟩
theorem aX{p:Addr}{v:ag}(h:W.cell? p=some v)(hb:Below W W w1):w1.cell? p=some v:=by
 rw[hb.cell (World.block_lt_of_cell? W p h)];exact h
theorem bj{k:Nat}{o:Obj}(h:W.heap[k]?=some o)(hb:Below W W w1):w1.heap[k]?=some o:=by
 rw[hb.block k (IN.1 h).1];exact h
def bk(h:Below w w W)(hb:Below W W w1):Below w w w1:=h.trans (hb.mono h.size)
theorem LB{bm:Nat}(h:bm<w):(jA w bm es clock).heap[bm]?=some (.map es clock):=by
 simp[jA,h]
theorem vN{bm k:Nat}(h:k≠bm):(jA w bm es clock).heap[k]?=w.heap[k]? :=by
 simp only[jA,acz];rw[AT (Ne.symm h)]
theorem D4{num:Nat}{K:aL}{key:ah}{c:Ctx}{l:List aG}{es':Array aw}{a:Nat}(f:Below w.heap.size w w1)(h:aV w b bm num K)(O:w.heap[bm (aZ key)]?=some (.map es clock))(D:gk es'.toList)(P:∀t,cS es'.toList t=if t=key then some (bY c sv) else cS es.toList t)(E:∀Q,Q key->lU Q es.toList clock->lU Q es'.toList a)(F:key.size<=281474976710656/\bq key=true)(G:fj c)(hv:aU w sv l):
  aV (jA w1 (bm (aZ key)) es' a) b bm num (dV K key (c,l))/\w.grownBy (jA w1 (bm (aZ key)) es' a) (some (bm (aZ key))):=by
 have u:=h.1.lt;have x:=(IN.1 O).1;have m:=kP key;obtain⟨⟨A,S,H⟩,I,o⟩:=h;have J:b≠bm (aZ key):=λe=>zg;have p:∀sv l,aU w sv l->aU (jA w1 (bm (aZ key)) es' a) sv l:=λsv l h=>h.de λg T ⟨U,X⟩=>by
  rw[vN (λe=>zg),f.block g T]
 refine⟨⟨⟨A,?_,H⟩,λn y=>?_,o⟩,?_⟩
 .rw[vN J,f.block b u];exact S
 .by_cases i:n=aZ key
  .subst i;obtain⟨z,d,C,R,L,r⟩:=I _ m;rw[O]at C;cases C;refine⟨es',a,LB (abc x f.size),D,λs hs=>?_,E _ ⟨rfl,F⟩ r.1,λs hs=>?_⟩;rotate_left
   .by_cases h:s=key
    .simpa[dV,h] using G
    .rw[P,AT h]at hs;simpa[dV,h] using r.2 s hs
   rw[P];by_cases h:s=key
   .rw[BY h];exact⟨sv,by simp[dV,h],by simpa[dV,h] using p _ _ hv⟩
   .rw[AT h];obtain⟨q,M,N⟩:=L s hs;exact⟨q,by simpa[dV,h] using M,by simpa[dV,h] using p _ _ N⟩
  .have hl:=(I n y).lt;obtain⟨z,d,C,R,L,r⟩:=I n y;refine⟨z,d,?_,R,λs hs=>?_,r.1,λs hs=>?_⟩;rotate_left
   rotate_left
   .have j:s≠key:=λe=>by
     subst e;exact i (xn hs r.1.2.2.2|>.1.symm)
    simpa[dV,j] using r.2 s hs
   .rw[vN (λe=>i (o _ _ y m e)),f.block _ hl];exact C
   .have j:s≠key:=λe=>i (by rw[<-hs,e]);obtain⟨q,M,N⟩:=L s hs;exact⟨q,by simpa[dV,j] using M,by simpa[dV,j] using p _ _ N⟩
 .refine⟨f.os,f.tape,f.output,by simpa[jA] using f.size,λk V y=>?_⟩;rw[vN (λe=>y (by rw[e])),f.block k V]
theorem Kz{w0:af}(hb:Below W W w1)(a:W.heap=w0.heap)(c:W.os=w0.os)(d:W.tape=w0.tape)(f:W.output=w0.output):Below w0 w0 w1:=
 ⟨hb.os.trans c,hb.tape.trans d,hb.output.trans f,by rw[<-a];exact hb.size,λk g=>by rw[<-a];exact hb.block k (by rw[a];exact g)⟩
theorem B2(b num:Nat)(bm:Nat->Nat)(key:ah)(w:af)(hs:key.size<=maxLen)(h:gz w b bm num):
  Calls aC.prog 32 #[.p b,.s key] w λe w'=>e=.r (.map (some (bm (aZ key))))/\∃q,w'=w.drewN q:=by
 have c:Hid _:=λW=>E7 key W hs;have hl:=kP key;have d:=h.bC hl;generalize aZ key=n at*;have f:(n:Int)<64:=zo;have g:(0:Int)<=(n:Int):=zo;have i:w.cell? (.a b (1+n))=some (.map (some (bm n))):=by rw[acV];exact d
 clear h;go_enter aC.func32,aC.ntmps32;go_wp2;go_quiet ((go_at_call 58;refine AI (c.out _) ?_;rintro e w' ⟨rfl,rfl⟩;exact⟨rfl,_,rfl⟩));go_wp2;go_ret;exact⟨rfl,_,rfl⟩
theorem Hu(b num:Nat)(bm:Nat->Nat)(K:aL)(key:ah)(c:Ctx)(sv:ag)(l:List aG)(w:af)(hs:key.size<=281474976710656/\bq key=true)(x:fj c)(h:aV w b bm num K)(hv:aU w sv l):
  Calls aC.prog 35 #[.pointer (some ⟨b,0,none⟩),.string key,bY c sv,.int .i64 0] w λr w'=>r=.returned (.int .i64 0)/\aV w' b bm num (dV K key (c,l))/\w.grownBy w' (some (bm (aZ key))):=by
 have y:=hs.1;obtain⟨es,clock,z,D,_⟩:=h.2.1 _ (kP key);obtain⟨p,d,g,s,j,k⟩:=D8 (bm (aZ key)) es clock key (bY c sv) D;have F:Hid (∀w1,Below w w w1->aV (jA w1 (bm (aZ key)) p d) b bm num (dV K key (c,l))/\w.grownBy (jA w1 (bm (aZ key)) p d) (some (bm (aZ key)))):=λw1 f=>D4 f h z s j k hs x hv;have t:=zu (λw1 f=>B2 b num bm key w1 ze (h.below f).1);have G:Hid (∀w1,Below w.heap.size w w1->w1.heap[bm (aZ key)]?=some (.map es clock)):=λw1 f=>bj z f;have H:Hid (∀w1,Below (w.alloc (.cells #[.i (c 0),.i (c 1),.i (c 2),.i (c 3),sv] 74)).heap.size (w.alloc (.cells #[.i (c 0),.i (c 1),.i (c 2),.i (c 3),sv] 74)) w1->∀o,w1.cell? (.a w o)=#[Value.int .i64 (c 0),.i (c 1),.i (c 2),.i (c 3),sv][o]?):=λw1 f o=>by
  have:=bj (By w _) f;simp[World.cell?,this]
 have I:Hid (∀w1,Below (w.alloc (.cells #[.i (c 0),.i (c 1),.i (c 2),.i (c 3),sv] 74)).heap.size (w.alloc (.cells #[.i (c 0),.i (c 1),.i (c 2),.i (c 3),sv] 74)) w1->Below w w w1):=λw1 f=>bk (zj.alloc zf _) f;clear j hv D s h z k;generalize bm (aZ key)=bms at*;go_enter aC.func35,aC.ntmps35;go_wp2;go_region_with (first
  |(go_at_call 34;refine(rH key _ y).mono ?_;rintro e w1 ⟨rfl,u⟩;have n:=Kz (w0:=w.alloc (.cells #[.i (c 0),.i (c 1),.i (c 2),.i (c 3),sv] 74)) u rfl rfl rfl rfl;have m:Hid _:=I.out _ n;have k1:=H.out _ n;have E:=G.out _ m.out;have A:=g w1 E;have C:=λq=>g (w1.drewN q) E;clear n u)
  |(go_at_call 32;refine AI (t.out _ (by first|exact m.out|exact((aaP w w).alloc zf _).drew)) ?_;rintro e w2 ⟨rfl,q,rfl⟩))
 all_goals
  go_wp2;go_ret;exact⟨rfl,F.out _ (by first|exact m.out|exact⟨m.out.os,m.out.tape,m.out.output,m.out.size,m.out.block⟩)⟩
end Go.Proofs.YtldmcdeibiclkaaGreatQ
