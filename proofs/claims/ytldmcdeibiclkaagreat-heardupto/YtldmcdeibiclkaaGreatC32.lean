/-
  Toward all_holds
-/
import Derived.Test.YtldmcdeibiclkaaGreatC31
import Derived.Test.YtldmcdeibiclkaaGreatC26
import Derived.Test.YtldmcdeibiclkaaGreatC01
import Derived.Deep.CutRange
import Derived.Test.YtldmcdeibiclkaaGreatC25
import Derived.Test.YtldmcdeibiclkaaGreatC20
set_option linter.all false
noncomputable section
set_option maxRecDepth 100000
set_option maxHeartbeats 20000000
namespace Go.Proofs.YtldmcdeibiclkaaGreatQ
variable {ad:Option Addr}{cap z:Nat}{v sv v':ag}{w':af}{U:List ah}
open Go.RowKit
section
abbrev pw:Array Value:=#[.s ⟨#[]⟩,.i 0,.i 0,.i 0,.i 0,.slice none 0 0]
section
variable (ev:ax->ag) (d:Option Tmp) (x y:ax) (ty:ak) (pos:String) (aft:Array Edge) (w:af) (b:Nat)
theorem FX(h:ev x=.p b):(execOp ev {dst:=d,op:=.fieldAddr 82 x 0,type:=ty,pos:=pos,after:=aft,guard:=none}).run aC.prog w=.ok (.value (.p b)) w:=by
 simp[execOp,h,go_sem]
theorem Gr(h:ev x=.p b):(execOp ev {dst:=d,op:=.fieldAddr 82 x 1,type:=ty,pos:=pos,after:=aft,guard:=none}).run aC.prog w=.ok (.value (.pointer (.a b 1))) w:=by
 simp[execOp,h,go_sem]
theorem Iz{nm:ah}{c:Ctx}(h:ev x=.pointer (.a b 1))(hb:w.heap[b]?=.c (cP nm c sv) 82):(execOp ev {dst:=d,op:=.load 34 x,type:=ty,pos:=pos,after:=aft,guard:=none}).run aC.prog w=.ok (.value (bz c)) w:=by
 obtain⟨e,_⟩:=aH hb;have c1:=e 1;have c2:=e 2;have c3:=e 3;have c4:=e 4;simp[execOp,h,c1,c2,c3,c4,bz,go_sem]
theorem Mc{nm:ah}{c:Ctx}(h:ev x=.s nm)(a:ev y=bz c):(execOp ev {dst:=d,op:=.build 82 #[(0,x),(1,y)],type:=ty,pos:=pos,after:=aft,guard:=none}).run aC.prog w=.ok (.value (.agg (cP nm c (.slice none 0 0)))) w:=by
 simp[execOp,h,a,bz,cP,go_sem]
theorem Hp:(execOp ev {dst:=d,op:=.alloc 82,type:=ty,pos:=pos,after:=aft,guard:=none}).run aC.prog w=.ok (.value (.p w)) (w.alloc (.cells pw 82)):=by
 simp[execOp,pw,go_sem]
theorem I6{nm:ah}{c:Ctx}{n:Nat}(h:ev x=.p b)(j:ev y=.agg (cP nm c (.slice ad n cap)))(hb:w.heap[b]?=.c pw 82): ∃w',(execOp ev {dst:=d,op:=.store 82 x y,type:=ty,pos:=pos,after:=aft,guard:=none}).run aC.prog w=.ok .skip w'/\w'.heap[b]?=.c (cP nm c (.slice ad n cap)) 82/\(∀B W,B<=b->Below B W w->Below B W w')/\∀B size n t v xs,w.ownsRow B t size v n xs->t≠82->w'.ownsRow B t size v n xs:=by
 obtain⟨a,e⟩:=aH hb;have c0:=a 0;have c1:=a 1;have c2:=a 2;have c3:=a 3;have c4:=a 4;have l:=a 5;have m:=e 0;have r:=e 1;have u:=e 2;have A:=e 3;have C:=e 4;have D:=e 5;refine⟨_,by simp[execOp,h,j,c0,c1,c2,c3,c4,l,m,r,u,A,C,D,cP,go_sem];rfl,?_,?_,?_⟩
 .simpa[cP,pw] using heap_set (o:=5) (v:=.slice ad n cap) (heap_set (o:=4) (v:=.i (c 3)) (heap_set (o:=3) (v:=.i (c 2)) (heap_set (o:=2) (v:=.i (c 1)) (heap_set (o:=1) (v:=.i (c 0)) (heap_set (o:=0) (v:=.s nm) hb)))))
 .intro B W f E;exact(((((E.setCell f _).setCell f _).setCell f _).setCell f _).setCell f _).setCell f _
 .intro B size n t v xs F g;exact dy (dy (dy (dy (dy (dy F hb g _ _) (heap_set hb) g _ _) (heap_set (heap_set hb)) g _ _) (heap_set (heap_set (heap_set hb))) g _ _) (heap_set (heap_set (heap_set (heap_set hb)))) g _ _) (heap_set (heap_set (heap_set (heap_set (heap_set hb))))) g _ _
theorem Vp{c a:Ctx}(h:ev x=bz c)(e:ev y=bz a)(f:ev (.func 40)=.func (.func 40) #[] #[]):(execOp ev {dst:=d,op:=.call {callee:=.value (.func 40),args:=#[x,y],argTypes:=#[34,34]},type:=ty,pos:=pos,after:=aft,guard:=none}).run aC.prog w=.ok (.enter 40 #[bz c,bz a]) w:=by
 simp[execOp,h,e,f,go_sem]
end
def mL(j:Nat):Nat:=if j=8 then 5 else 12+j
def oO(S:Nat)(an:ah)(ac bc:Ctx)(z:Nat)(j:Nat)(x:ag)(w:af):Prop:=match j with
 |0=>x=.p S
 |1=>x=.s an
 |2=>x=.pointer (.a S 1)
 |3=>x=bz ac
 |4=>x=.pointer (.a (S+1) 1)
 |5=>x=bz bc
 |6=>x=bz (aO ac bc)
 |7=>x=.agg (cP an (aO ac bc) (.slice none 0 0))
 |_=>∃b,x=.p b/\z<=b/\w.heap[b]?=.c pw 82
theorem Xo{S:Nat}{an:ah}{ac bc:Ctx}{w:af}(hb:Below w w w'):∀j x,oO S an ac bc z j x w->oO S an ac bc z j x w':=λj x h=>by
 unfold oO at*;split at h
 all_goals first|exact h|(obtain⟨b,e,a,c⟩:=h;exact⟨b,e,a,bj c hb⟩)
theorem Yq{i:Nat}(hi:i<9):∀j,j<9->mL j=mL i->j=i:=λj hj e=>by
 unfold mL at e;grind
end
theorem LF(an bn:ah)(ac bc:Ctx)(asv bsv:ag)(g l2:List aG)(w:af)(h1:fT w asv g)(h2:fT w bsv l2)(b7:∀v∈g,v.rep<4)(cY:∀v∈l2,v.rep<4)(du:g.length<=5000000)(c0:l2.length<=5000000):
  Calls aC.prog 110 #[.agg (cP an ac asv),.agg (cP bn bc bsv)] w λe w'=>∃sv,e=.r (.agg (cP an (aO ac bc) sv))/\w'.ownsRow w 88 3 sv (sJ ac g bc l2).length (aQ (sJ ac g bc l2))/\Below w w w':=by
 obtain⟨ao,C,rfl⟩:=dS h1;obtain⟨bad,m,rfl⟩:=dS h2;have b8:Hid _:=h1;have a8:=zu h2;have HA:=zu b7;have b9:=zu (λW=>Ag ac bc W);clear h1 h2 b7;go_enter aC.func110,aC.ntmps110;go_upto_region 1 with fail;obtain⟨S,V⟩: ∃W,W=((w.alloc (.cells (cP an ac (.slice ao g.length C)) 82)).alloc (.cells (cP bn bc (.slice bad l2.length m)) 82)).alloc (.cells pw 82):=⟨_,rfl⟩
 rw[<-V];have c1:S=w.heap.size+3:=by rw[V];simp
 have cc:Hid (Below w w S):=(by rw[V];exact(((zj.alloc zf _).alloc zp _).alloc zt _))
 have bb:Hid (∀W,Below S S W->W.heap[w.heap.size]?=.c (cP an ac (.slice ao g.length C)) 82/\W.heap[w.heap.size+1]?=.c (cP bn bc (.slice bad l2.length m)) 82/\W.heap[w.heap.size+2]?=.c pw 82):=λW hW=>by
  refine⟨bj ?_ hW,bj ?_ hW,bj ?_ hW⟩
  .rw[V,aaO _ _ _ zt,aaO _ _ _ zp];exact By w _
  .rw[V,aaO _ _ _ zp];simpa using By (w.alloc _) _
  .rw[V];simpa using By ((w.alloc _).alloc _) _
 clear V;go_cut [5] from 12 to 19 (λv wx=>∃bo,v=.p bo/\Hid (jn w wx bo an ac (.slice ao g.length C) bn bc (.slice bad l2.length m) (.slice none 0 0) []))
 case first=>
  rename_i J K' hJ hK;refine wp_region_any zk ?_;generalize aq:(⟨_,_⟩:Act)=a0;refine Hh (n:=9) (I:=λlisted a w'=>gA mL (oO w an ac bc S) S a0 9 listed a w') (F:=λa w'=>∃listed w1 b,gA mL (oO w an ac bc S) S a0 9 listed a w1/\a.tmps.getD 5 undef=.p b/\S<=b/\w'.heap[b]?=.c (cP an (aO ac bc) (.slice none 0 0)) 82/\Below S S w') rfl zk zk ?_ ?_ ?_ _ _ _ _ rfl zd (gA.begin (zj.drew) _ 9)
  .intro listed a wx i hi O hr;obtain⟨-,-,N⟩:=qM hr;obtain⟨y0,y1,-⟩:=bb.out wx O.bR;have v2:a.tmps.getD 2 undef=.p w.heap.size:=(O.old 2 λj hj _ e=>by unfold mL at e;split at e<;>omega).trans (by rw[<-aq];rfl);have v3:a.tmps.getD 3 undef=.p (w.heap.size+1):=(O.old 3 λj hj _ e=>by unfold mL at e;split at e<;>omega).trans (by rw[<-aq];rfl);have fin:∀{v w'},Below wx wx w'->oO w an ac bc S i v w'->gA mL (oO w an ac bc S) S a0 9 (listed.setIfInBounds i true) (a.put (some (mL i)) v) w':=λhb hv=>O.step hi (by rw[<-aq];unfold mL;split<;>(show _<106;omega)) (Yq hi) hb (Xo hb) hv;rcases (show i=0\/i=1\/i=2\/i=3\/i=4\/i=5\/i=6\/i=7\/i=8 by omega) with rfl|rfl|rfl|rfl|rfl|rfl|rfl|rfl|rfl
   .exact dH rfl rfl (FX _ _ _ _ _ _ _ _ v2) (fin zj rfl)
   .exact dH rfl rfl (xE _ _ _ _ _ _ _ w 0 _ (O.new 0 zo (N _ rfl ⟨0,.data⟩ zp rfl)) ((aH y0).1 0)) (fin zj rfl)
   .exact dH rfl rfl (Gr _ _ _ _ _ _ _ _ v2) (fin zj rfl)
   .exact dH rfl rfl (Iz _ _ _ _ _ _ _ w (O.new 2 zo (N _ rfl ⟨2,.data⟩ zp rfl)) y0) (fin zj rfl)
   .exact dH rfl rfl (Gr _ _ _ _ _ _ _ _ v3) (fin zj rfl)
   .exact dH rfl rfl (Iz _ _ _ _ _ _ _ (w.heap.size+1) (O.new 4 zo (N _ rfl ⟨4,.data⟩ zp rfl)) y1) (fin zj rfl)
   .refine wF rfl rfl (Vp _ _ _ _ _ _ _ _ (O.new 3 zo (N _ rfl ⟨3,.data⟩ zp rfl)) (O.new 5 zo (N _ rfl ⟨5,.data⟩ zp rfl)) rfl) ((b9.out wx).mono ?_);rintro e w' ⟨rfl,hb⟩;exact⟨_,rfl,fin hb rfl⟩
   .exact dH rfl rfl (Mc _ _ _ _ _ _ _ _ (O.new 1 zo (N _ rfl ⟨1,.data⟩ zp rfl)) (O.new 6 zo (N _ rfl ⟨6,.data⟩ zp rfl))) (fin zj rfl)
   .exact dH rfl rfl (Hp _ _ _ _ _ _) (fin (zj.alloc zf _) ⟨_,rfl,O.bR.size,By wx _⟩)
  .intro listed a wx hl O;obtain⟨b,e,bd,R⟩:oO w an ac bc S 8 (a.tmps.getD 5 undef) wx:=O.new 8 zo (hl 8 zo);have v7:a.tmps.getD 19 undef=.agg (cP an (aO ac bc) (.slice none 0 0)):=O.new 7 zo (hl 7 zo);obtain⟨w',h1,h2,h3,-⟩:=I6 a.eval none (.tmp 5) (.tmp 19) 0 "ref.go:176" _ wx b e v7 R;exact C7 rfl rfl h1 ⟨listed,wx,b,O,e,bd,h2,h3 _ _ bd O.bR⟩
  .rintro a w' ⟨listed,w1,b,O,e,bd,h2,h3⟩;refine hK _ _ (Met.intro (hJ _ _ ⟨a.tmps.getD 5 undef,a.tmps.getD 12 undef,a.tmps.getD 13 undef,a.tmps.getD 14 undef,a.tmps.getD 15 undef,a.tmps.getD 16 undef,a.tmps.getD 17 undef,a.tmps.getD 18 undef,a.tmps.getD 19 undef,⟨b,e,?_⟩,?_⟩))
   .obtain⟨y0,y1,y2⟩:=bb.out w' h3;exact⟨y0,y1,y2,h2,abh _ _ _ _,bk cc.out h3,zo⟩
   .obtain⟨T,D⟩:=a;have hs:T=_:=O.Kc;have hd:D= []:=O.defs.trans (by rw[<-aq]);rw[<-aq]at hs;clear O aq e;subst hd;exact congrArg (λt=>(⟨t,[]⟩:Act)) (hs.trans (by
     simp only;generalize (λi=>T.getD i undef)=f;kernel_rfl))
 case rest=>
  obtain⟨bo,rfl,bm⟩:=hcut;clear bb cc c1 b9;have dv:=bm.out.hi;go_wp2_with fail;go_loopw [6] (λiv wr=>∃(k:Nat) (ad:Option Addr) (n cap:Nat),k<=g.length/\iv=.i k/\Hid (jn w wr bo an ac (.slice ao g.length C) bn bc (.slice bad l2.length m) (.slice ad n cap) (((g.take k).filterMap (ie bc l2)).foldl dc []))) (λiv _=>g.length-(intOf iv).toNat)
  case atStart=>exact⟨0,none,0,0,zo,rfl,bm⟩
  case round=>
   obtain⟨k,ad,n,cap,hk,rfl,E⟩:=hrel;clear bm;obtain⟨ca,fa⟩:=aH E.out.b0;have a5:wr.cell? (.a w 5)=some (.slice ao g.length C):=ca 5;have k0:(0:Int)<=(k:Int):=zo;by_cases Y:k<g.length
   .have k1:(k:Int)<(g.length:Int):=zo;obtain⟨g1,cd,e,_,_,c5,Q⟩:=dU b8.out zo;cases e;obtain⟨d0,d1,d2⟩:=mU g k Y;have p0:=aX (Q (k*3) _ zo d0) E.out.bR;have p1:=aX (Q (k*3+1) _ zo d1) E.out.bR;have p2:=aX (Q (k*3+2) _ zo d2) E.out.bR;have c6:=HA.out _ (IS Y);have HT:Hid (((g.take (k+1)).filterMap (ie bc l2)).foldl dc []=((ie bc l2 g[k]).toList).foldl dc (((g.take k).filterMap (ie bc l2)).foldl dc [])):=(show _=_ by
     have e: [g[k]].filterMap (ie bc l2)=(ie bc l2 g[k]).toList:=by cases h:ie bc l2 g[k]<;>simp[h]
     rw[rS Y,List.filterMap_append,acv,e])
    have c7:(((g.take k).filterMap (ie bc l2)).foldl dc []).length<=5000000:=by
     rw[wj];have h1:=List.length_filterMap_le (ie bc l2) (g.take k);have h2:=ade k g;simp only[abM];omega
    clear Q d0 d1 d2;generalize g[k]=v at*;generalize ((g.take k).filterMap (ie bc l2)).foldl dc []=L at*;obtain⟨vr,A,G⟩:=v;simp only[aG.rep,aG.n,aG.val] at*;have cj:=zu (λW=>Cg bc vr A G W c6);have dx:=E.out.bR.size;have c8:=(IN.1 E.out.b3).1;have aT:=λq (e:(Value.slice ad n cap).ownBlock=some q)=>pO E.out.row e;go_upto_region 6 with fail;obtain⟨W1,aB⟩: ∃W,W=wr.alloc (.cells #[.i vr,.i A,.s G] 88):=⟨_,rfl⟩
    rw[<-aB];have bp:Hid (jn w W1 bo an ac (.l g1 g.length C) bn bc (.slice bad l2.length m) (.slice ad n cap) L):=(by rw[aB];exact E.out.below (zj.alloc zf _))
    have br:Hid (W1.heap[wr.heap.size]?=.c #[.i vr,.i A,.s G] 88):=(by rw[aB];exact By wr _)
    clear aB E ca fa a5 p0 p1 p2;generalize wr.heap.size=bv at*;obtain⟨cb,fb⟩:=aH bp.out.b1;have b1:=cb 1;have b2:=cb 2;have b3:=cb 3;have b4:=cb 4;obtain⟨cv,fv⟩:=aH br.out;have v0:=cv 0;have v1:=cv 1;have v2:=cv 2;clear cb fb cv fv;go_upto_region 7 with (go_at_call 64;refine(cj.out _).mono ?_;rintro e w2 ⟨rfl,R⟩;have av:=hid (bp.out.below R);have ck:=hid (bj br.out R);clear R)
    clear b1 b2 b3 b4 v0 v1 v2 bp br cj;go_wp2_with fail;go_loopw [8,9] (λst jv wq=>∃j:Nat,j<=l2.length/\jv=.i j/\st=.bool ((l2.take j).foldl (jV (vr,A,G)) (!decide (A<=bc vr),G)).1/\Hid (jn w wq bo an ac (.l g1 g.length C) bn bc (.slice bad l2.length m) (.slice ad n cap) L)/\Hid (wq.heap[bv]?=.c #[.i vr,.i A,.s ((l2.take j).foldl (jV (vr,A,G)) (!decide (A<=bc vr),G)).2] 88)) (λ_ jv _=>l2.length-(intOf jv).toNat)
    case atStart=>exact⟨0,zo,rfl,rfl,av,ck⟩
    case round=>
     obtain⟨j,hj,rfl,rfl,B,Z⟩:=hrel;clear av ck;by_cases cl:j<l2.length
     .have j1:(j:Int)<(l2.length:Int):=zo;have j0:(0:Int)<=(j:Int):=zo;obtain⟨g2,dt,e,_,_,dC,aE⟩:=dU a8.out zo;cases e;obtain⟨d0,d1,d2⟩:=mU l2 j cl;have q0:=aX (aE (j*3) _ zo d0) B.out.bR;have q1:=aX (aE (j*3+1) _ zo d1) B.out.bR;have q2:=aX (aE (j*3+2) _ zo d2) B.out.bR;have H:Hid ((l2.take (j+1)).foldl (jV (vr,A,G)) (!decide (A<=bc vr),G)=jV (vr,A,G) ((l2.take j).foldl (jV (vr,A,G)) (!decide (A<=bc vr),G)) l2[j]):=(show _=_ by rw[rS cl,acv];rfl)
      clear aE d0 d1 d2;generalize (l2.take j).foldl (jV (vr,A,G)) (!decide (A<=bc vr),G)=P at*;obtain⟨pb,pv⟩:=P;generalize l2[j]=u at*;obtain⟨ur,un,uv⟩:=u;simp only at*;have b5:wr.cell? (.a (w.heap.size+1) 5)=.l g2 l2.length m:=(aH B.out.b1).1 5;obtain⟨cv,fv⟩:=aH Z.out;have v0:=cv 0;have v1:=cv 1;have v2:=cv 2;have f2:=fv 2;clear cv fv;by_cases hs:ur=vr/\un=A
      .obtain⟨rfl,rfl⟩:=hs;have e1:((ur:Int)==(ur:Int))=true:=zp;have e2:(un==un)=true:=zp;have bs:Hid (jV (ur,un,G) (pb,pv) (ur,un,uv)=(true,if Op.bytesLess uv.toList pv.toList=true then uv else pv)):=(show _=_ from BY ⟨rfl,rfl⟩)
       rw[bs.out]at H;go_upto_region 10 with fail;go_quiet (fail);go_upto_region 12 with fail;obtain⟨Wq,bx⟩: ∃W,W=wr.drewN nq:=⟨_,rfl⟩
       rw[<-bx];have ab:Below wr wr Wq:=by rw[bx];exact abg zj _
       have bB:=hid (B.out.below ab);have a6:=hid (bj Z.out ab);have c9:=aX q0 ab;have cm:=aX q2 ab;have cn:=aX b5 ab;have cp:=aX v2 ab;have db:=(aH a6.out).2 2;clear bx ab q0 q1 q2 b5 v0 v1 v2 f2 B Z;cases cq:Op.bytesLess uv.toList pv.toList
       .rw[cq,AT zd]at H;go_quiet (fail);go_wp2;exact⟨⟨j+1,zo,by go_num,by rw[H.out],bB.out.below (abg zj _),by rw[H.out];exact bj a6.out (abg zj _)⟩,zi⟩
       .rw[cq,BY rfl]at H;go_quiet (fail);obtain⟨Wr,bL⟩: ∃W,W=Wq.drewN nq:=⟨_,rfl⟩
        rw[<-bL];have ar:Below Wq Wq Wr:=by rw[bL];exact abg zj _
        have dd:=hid (bB.out.below ar);have cr:=hid (bj a6.out ar);have q2:=aX cm ar;have b5:=aX cn ar;have v2:=aX cp ar;have f2:=(aH cr.out).2 2;clear bL ar c9 cm cn cp db bB a6;go_wp2;exact⟨⟨j+1,zo,by go_num,by rw[H.out],dd.out.other c8 aT 2 _,by rw[H.out];exact hid (by simpa using heap_set (o:=2) (v:=.s uv) cr.out)⟩,zi⟩
      .have bs:Hid (jV (vr,A,G) (pb,pv) (ur,un,uv)=(pb,pv)):=(show _=_ from AT hs)
       rw[bs.out]at H;by_cases hr:ur=vr
       .have e1:((ur:Int)==(vr:Int))=true:=abt.2 zo;have e2:(un==A)=false:=by simpa using λe=>hs ⟨hr,e⟩
        go_upto_region 10 with fail;go_quiet (fail);go_wp2;exact⟨⟨j+1,zo,by go_num,by rw[H.out],B.out.below (abg zj _),by rw[H.out];exact bj Z.out (abg zj _)⟩,zi⟩
       .have e1:((ur:Int)==(vr:Int))=false:=aaQ.2 zo;go_upto_region 10 with fail;go_quiet (fail);go_wp2;exact⟨⟨j+1,zo,by go_num,by rw[H.out],B.out.below (abg zj _),by rw[H.out];exact bj Z.out (abg zj _)⟩,zi⟩
     .obtain rfl:j=l2.length:=zo;rw[abF]at Z ⊢;have HX:Hid (ie bc l2 (vr,A,G)=if (l2.foldl (jV (vr,A,G)) (!decide (A<=bc vr),G)).1=true then some (vr,A,(l2.foldl (jV (vr,A,G)) (!decide (A<=bc vr),G)).2) else none):=hid rfl;generalize l2.foldl (jV (vr,A,G)) (!decide (A<=bc vr),G)=X at*;obtain⟨xb,xv⟩:=X;simp only at*;have b5:wr.cell? (.a (w.heap.size+1) 5)=some (.slice bad l2.length m):=(aH B.out.b1).1 5;cases xb
      .rw[AT zd]at HX;go_wp2;exact⟨⟨k+1,ad,n,cap,zo,by go_num,by rw[HT.out,HX.out];exact B⟩,zi⟩
      .rw[BY rfl]at HX;have o5:wr.cell? (.a bo 5)=some (.slice ad n cap):=(aH B.out.b3).1 5;obtain⟨cv,fv⟩:=aH Z.out;have v0:=cv 0;have v1:=cv 1;have v2:=cv 2;have ay:=zu (Ah _ L vr A xv wr (bU B.out.row (aaZ _)) zo);have bN:=B.out.bR.size;clear cv fv;go_wp2_with (go_at_call 41;refine ay.out.mono ?_;rintro e w3 ⟨v',rfl,bT,cx⟩;obtain⟨df,cA,rfl⟩:=dS bT;have bZ:=hid (B.out.below cx);have di:=hid bT;have o3:w3.cell? (.a bo 5)=some (.slice ad n cap):=(aH bZ.out.b3).1 5;have g3:=(aH bZ.out.b3).2 5;clear bT cx)
       refine⟨⟨k+1,df,L.length+1,cA,zo,by go_num,?_⟩,zi⟩;rw[HT.out,HX.out];exact hid (bZ.out.set (by rw[show((some (vr,A,xv)).toList).foldl dc L=dc L (vr,A,xv) from rfl,wy];exact bU di.out bN))
   .obtain rfl:k=g.length:=zo;rw[abF]at E;have dj:Hid (sJ ac g bc l2=(aS l2 ac).foldl dc ((g.filterMap (ie bc l2)).foldl dc [])):=hid rfl;have c7:((g.filterMap (ie bc l2)).foldl dc []).length<=5000000:=by
     rw[wj];have h1:=List.length_filterMap_le (ie bc l2) g;simp only[abM];omega
    have dW:(aS l2 ac).length<=5000000:=IT (abV _ _) c0;generalize (g.filterMap (ie bc l2)).foldl dc []=L at*;have cB:=zu (p5 _ l2 ac wr (bH a8.out E.out.bR zf) cY zo);have b5:wr.cell? (.a (w.heap.size+1) 5)=some (.slice bad l2.length m):=(aH E.out.b1).1 5;have a1:=ca 1;have a2:=ca 2;have a3:=ca 3;have a4:=ca 4;generalize aS l2 ac=M at*;clear ca fa HA Y b8 a8;go_upto_region 17 with (go_at_call 39;refine cB.out.mono ?_;rintro e w2 ⟨v',rfl,az,R⟩;obtain⟨dk,cI,rfl⟩:=dS az;have av:=hid (E.out.below R);have cK:=hid (bU az (aaZ _));clear az R)
    clear cB b5 a1 a2 a3 a4 a5 E;go_wp2_with fail;go_loopw [11] (λiv wq=>∃(k:Nat) (ad:Option Addr) (n cap:Nat),k<=M.length/\iv=.i k/\Hid (jn w wq bo an ac (.slice ao g.length C) bn bc (.slice bad l2.length m) (.slice ad n cap) ((M.take k).foldl dc L))/\Hid (wq.ownsRow 0 88 3 (.slice dk M.length cI) M.length (aQ M))) (λiv _=>M.length-(intOf iv).toNat)
    case atStart=>exact⟨0,ad,n,cap,zo,rfl,av,cK⟩
    case round=>
     obtain⟨k,ad,n,cap,hk,rfl,E,HM⟩:=hrel;clear av cK;have k0:(0:Int)<=(k:Int):=zo;by_cases Y:k<M.length
     .have k1:(k:Int)<(M.length:Int):=zo;obtain⟨g1,cd,e,_,_,c5,Q⟩:=dU HM.out zo;cases e;obtain⟨d0,d1,d2⟩:=mU M k Y;have p0:=Q (k*3) _ zo d0;have p1:=Q (k*3+1) _ zo d1;have p2:=Q (k*3+2) _ zo d2;have HT:Hid ((M.take (k+1)).foldl dc L=dc ((M.take k).foldl dc L) M[k]):=(show _=_ by rw[rS Y,acv];rfl)
      have ea:((M.take k).foldl dc L).length<=10000000:=by
       rw[wj];have h2:=ade k M;omega
      clear Q d0 d1 d2;generalize M[k]=v at*;generalize (M.take k).foldl dc L=Lk at*;obtain⟨vr,A,G⟩:=v;simp only[aG.rep,aG.n,aG.val] at*;have o5:wr.cell? (.a bo 5)=some (.slice ad n cap):=(aH E.out.b3).1 5;have ay:Hid _:=λW hW=>Ah _ Lk vr A G W (bH (bU E.out.row (aaZ _)) hW zf) zo;have bN:=E.out.bR.size;go_upto_region 20 with fail;go_region_with (first|(go_at_call 41;refine(ay.out _ zj.drew).mono ?_;rintro e w6 ⟨v',rfl,b6,a7⟩;obtain⟨dm,cN,rfl⟩:=dS b6;have aA:=bk zj.drew a7;have dq:=hid b6;have o6:=aX o5 aA;have g6:=(aH (bj E.out.b3 aA)).2 5;clear a7 b6))
      all_goals
       go_wp2_with fail;refine⟨⟨k+1,dm,Lk.length+1,cN,zo,by go_num,?_,?_⟩,zi⟩
       .rw[HT.out];exact hid ((E.out.below aA).set (by rw[wy];exact bU dq.out (by simpa using bN)))
       .exact hid (dy (bH HM.out aA zf) (bj E.out.b3 aA) zd _ _)
     .obtain rfl:k=M.length:=zo;rw[abF,<-dj.out]at E;obtain⟨co,fo⟩:=aH E.out.b3;obtain⟨cw,fw⟩:=aH E.out.b2;have cW:=hid E.out.fin;go_wp2;refine abn (v:=.agg (cP an (aO ac bc) (.slice ad n cap))) ?_ rfl ⟨_,rfl,cW.out _ rfl⟩;simp[results,go_sem,cw]
section
def fK(w W:af)(rb num:Nat)(K:aL):Prop:=(∃sv l,cG W rb num sv l K)/\Fr (λk=>k=rb) w W
section
variable {w W W':af}{rb num:Nat}{K:aL}
theorem fK.below(h:fK w W rb num K)(hb:Below W W W'):fK w W' rb num K:=by
 obtain⟨⟨sv,l,a⟩,c⟩:=h;exact⟨⟨sv,l,a.below hb⟩,c.below hb⟩
theorem fK.blk(h:fK w W rb num K): ∃A,W.heap[rb]?=.c A 45:=by
 obtain⟨⟨sv,l,a⟩,e⟩:=h;exact⟨_,a.ref.1⟩
theorem fK.de(h:fK w W rb num K){A:aa}(a:w.heap[rb]?=.c A 45):bA (λt=>t≠45) w W:=λk cs t fr hk f=>h.2.heap hk λe=>by
 grind
theorem fK.grown(h:fK w W rb num K){n:Nat}{xs:ae}(j:W.ownsRow w 3 1 v n xs){o:Obj}(p:(W.alloc o).grownBy W' v.ownBlock):fK w W' rb num K:=by
 obtain⟨⟨sv,l,f⟩,u⟩:=h;have r:∀k t a,W.heap[k]?=.c a t->t≠3->¬v.ownBlock=some k:=λk t a hk A e=>by
  obtain⟨c,C⟩:=fe j e;grind
 refine⟨⟨sv,l,f.frame (X:=λk=>v.ownBlock=some k) (((Fr.refl _ W).alloc _).grown p λk e _=>e) (r _ _ _ f.ref.1 zd) (λg a i=>r _ _ _ i zd) λs g o m c e=>?_⟩,(u.alloc o).grown p λk e B=>?_⟩
 .obtain⟨a,D⟩:=p7 (f.at_ s).2 g o m c e;grind
 .have:=mF j e;omega
end
section
variable (ev:ax->ag) (d:Option Tmp) (x y:ax) (ty:ak) (pos:String) (aft:Array Edge) (w:af) (b:Nat)
theorem Q5{nm:ah}{c:Ctx}{n:Nat}(h:ev x=.p b)(hb:w.heap[b]?=.c (cP nm c (.slice ad n cap)) 82):(execOp ev {dst:=d,op:=.load 82 x,type:=ty,pos:=pos,after:=aft,guard:=none}).run aC.prog w=.ok (.value (.agg (cP nm c (.slice ad n cap)))) w:=by
 obtain⟨a,_⟩:=aH hb;have c0:=a 0;have c1:=a 1;have c2:=a 2;have c3:=a 3;have c4:=a 4;have e:=a 5;simp[execOp,h,c0,c1,c2,c3,c4,e,cP,go_sem]
theorem VW(h:ev x=v)(a:ev y=v')(c:ev (.func 38)=.func (.func 38) #[] #[]):(execOp ev {dst:=d,op:=.call {callee:=.value (.func 38),args:=#[x,y],argTypes:=#[42,9]},type:=ty,pos:=pos,after:=aft,guard:=none}).run aC.prog w=.ok (.enter 38 #[v,v']) w:=by
 simp[execOp,h,a,c,go_sem]
theorem Po(h:ev x=v)(a:ev y=v')(c:ev (.func 110)=.func (.func 110) #[] #[]):(execOp ev {dst:=d,op:=.call {callee:=.value (.func 110),args:=#[x,y],argTypes:=#[82,82]},type:=ty,pos:=pos,after:=aft,guard:=none}).run aC.prog w=.ok (.enter 110 #[v,v']) w:=by
 simp[execOp,h,a,c,go_sem]
end
def nt(j:Nat):Nat:=if j=6 then 11 else 44+j
def nE(rb bx:Nat)(nm:ah)(v1 v2:ag)(cj:Ctx)(J:List aG)(z:Nat)(j:Nat)(x:ag)(w:af):Prop:=match j with
 |0=>x=.p rb
 |1=>x=.p bx
 |2=>x=.s nm
 |3=>x=v1
 |4=>x=v2
 |5=>∃ad n cap,x=.agg (cP nm cj (.slice ad n cap))/\w.ownsRow z 88 3 (.slice ad n cap) J.length (aQ J)
 |_=>∃b,x=.p b/\z<=b/\w.heap[b]?=.c pw 82
theorem Z0{rb c:Nat}{nm:ah}{v1 v2:ag}{f:Ctx}{J:List aG}{w:af}(hb:Below w w w'):∀j x,nE rb c nm v1 v2 f J z j x w->nE rb c nm v1 v2 f J z j x w':=λj x h=>by
 unfold nE at*;split at h
 all_goals first|exact h|(obtain⟨ad,n,cap,e,a⟩:=h;exact⟨ad,n,cap,e,bH a hb zf⟩)|(obtain⟨b,e,a,g⟩:=h;exact⟨b,e,a,bj g hb⟩)
theorem Of{i:Nat}(hi:i<7):∀j,j<7->nt j=nt i->j=i:=λj hj e=>by
 unfold nt at e;grind
theorem MM(K:aL){rs:List aJ}{j:Nat}(h:j<rs.length):cX K (rs.take (j+1))=dV (cX K (rs.take j)) rs[j].1 (jg (cX K (rs.take j) rs[j].1) rs[j].2):=by
 rw[rS h,uw];rfl
end
theorem aC.Q3:(aC.prog.info? 3).map (λi=>(i.zero,i.size,i.bytes))=some (.i 0,1,8):=zk
theorem MZ{w W:af}{rb num:Nat}{K:aL}(h:fK w W rb num K)(L:cF K)(I:bQ U K){nm:ah}{c:Ctx}{l2:List aG}(hs:il c l2){n:Nat}(M:fT W (.slice ad n cap) l2):
  ∃t J f,(∀W',Below W W W'->Calls aC.prog 38 #[.p rb,.s nm] W' λe w'=>e=.r (.agg (cP nm (K nm).1 (.slice t J f)))/\Below W' W' w')/\
  (∀W',Below W W W'->Calls aC.prog 110 #[.agg (cP nm (K nm).1 (.slice t J f)),.agg (cP nm c (.slice ad n cap))] W' λe w'=>∃sv,e=.r (.agg (cP nm (jg (K nm) (c,l2)).1 sv))/\w'.ownsRow W' 88 3 sv (jg (K nm) (c,l2)).2.length (aQ (jg (K nm) (c,l2)).2)/\Below W' W' w')/\
  ∀W' u n' j,Below W W W'->W'.ownsRow W 88 3 (.slice u n' j) (jg (K nm) (c,l2)).2.length (aQ (jg (K nm) (c,l2)).2)->Calls aC.prog 42 #[.p rb,.agg (cP nm (jg (K nm) (c,l2)).1 (.slice u n' j))] W' λe w'=>e=.r (.tuple #[])/\fK w w' rb num (dV K nm (jg (K nm) (c,l2)))/\Fr (λk=>k=rb) W w':=by
 obtain⟨⟨sv,l,A⟩,N⟩:=h;have hl:l.length<=1300000:=by
  have E:=vm (l:=l.map (·.1)) (U:=U) (acs.2 (A.sorted.imp λ{a b} F e=>?_)) λs hs=>?_
  .rw[abe]at E;exact IT E I.1
  .have:=nu.1 F;grind
  .obtain⟨q,O,rfl⟩:=aaW.1 hs;exact I.2 _ ((A.mem_iff q.1).1 ⟨q,O,rfl⟩)
 obtain⟨t,f,Y,hv⟩:=A.of nm;have B:=(L nm).oj;have m:=hs.oj;have P:=Za B m;refine⟨t,(K nm).2.length,f,λW' o=>?_,λW' o=>?_,λW' u n' j o G=>?_⟩
 .have:=pI rb num sv l nm W' (A.below o).ref (A.below o).sl zo;simp_all
 .have:=LF nm nm (K nm).1 c _ _ (K nm).2 l2 W' (bH hv o zf) (bH M o zf) (λv hv=>(B.fX v hv).1) (λv hv=>(m.fX v hv).1) B.len m.len;rw[P]at this;exact this
 .refine (yD rb num sv l nm (jg (K nm) (c,l2)).1 u n' j W' (A.below o).ref (A.below o).sl zo).mono ?_;rintro e w' ⟨Q,H,hb,hk,D⟩;have C:=(Fr.cQ o).trans D;refine⟨Q,⟨⟨H,_,AB A hb (bU hk o.size) ?_ C ?_⟩,N.trans C⟩,C⟩
  .refine D.fh G λg R S e=>?_;have V:=e;rw[V,(A.below o).ref.1]at S;grind
  .obtain⟨i,hi,X⟩:=hs.some;refine⟨i,hi,?_⟩;have E:=B.ctx i hi;have Z:=m.ctx i hi;show max ((K nm).1 i) (c i)≠0;omega
theorem Zu{w:af}{rb num kind base:Nat}{l:List aY}{K:aL}(h:cG w rb num sv l K)(B:cF K)(hU:bQ U K)(v:ag)(ps:List Pt)(sg:List (Nat×List aJ))(hP:kJ w base v ps)(he:ps.map (λp=>(p.1,p.2.2.2.map Rk.bP))=sg)(Y:qh sg)(a7:∀g∈sg,∀r∈g.2,r.1∈U)(a8:kind=83\/kind=84)(R:ah)(bb:∀W nv,fK w W rb num (da K sg)->fi W w nv (sg.map (·.1))->Calls aC.prog 109 #[.p rb,.s ⟨#[84]⟩,nv] W λe w'=>e=.r (.s R)/\Below W W w'):
  Calls aC.prog 83 #[.p rb,.s (aK kind),v] w λe w'=>e=.r (.s (if kind=84 then ⟨#[]⟩ else R))/\fK w w' rb num (da K sg):=by
 obtain⟨i0,cp,cq,cr,cv⟩:=aaY aC.Q3;obtain⟨ad,cap,rfl,dx,dW⟩:=cz hP.1;have HP:=zu hP;have bc:Hid (w.heap[rb]?=.c #[.i num,sv] 45):=h.ref.1;have cw:=hid bb;have ea:sg.length=ps.length:=by rw[<-he,abe]
 have Z:Hid (∀i (hi:i<ps.length),sg[i]'zo=(ps[i].1,ps[i].2.2.2.map Rk.bP)):=λi hi=>by
  simp only[<-he,List.getElem_map]
 have HG:Hid (∀i (hi:i<ps.length) j (hj:j<ps[i].2.2.2.length),ps[i].1<64/\il ps[i].2.2.2[j].2.1 ps[i].2.2.2[j].2.2.2):=λi hi j hj=>by
  have L:=Y.num (sg[i]'zo) (IS _);rw[Z.out i hi]at L;exact⟨L.1,(L.2.snd _ (aaW.2 ⟨_,IS hj,rfl⟩)).1⟩
 have bd:∀i (hi:i<ps.length),ps[i].1<64:=λi hi=>by
  have L:=Y.num (sg[i]'zo) (IS _);rw[Z.out i hi]at L;exact L.1
 have cx:=hid bd;have HK:Hid (∀rs:List aJ,(∀r∈rs,r∈sg.flatMap (·.2))->cF (cX K rs)/\bQ U (cX K rs)):=λrs cA=>by
  have L:∀r∈rs,il r.2.1 r.2.2/\r.1∈U:=λr P=>by
   obtain⟨g,hg,bm⟩:=abO.1 (cA r P);exact⟨((Y.num g hg).2.snd r bm).1,a7 g hg r bm⟩
  have h2:=hU.join (sg:=[(0,rs)]) (λg hg r P=>by
   rw[abu]at hg;subst hg;exact(L r P).2)
  rw[da,acn,List.flatMap_nil,abU]at h2;exact⟨B.cX λr P=>(L r P).1,h2⟩
 have ab:=zu ((show fK w w rb num K from⟨⟨sv,l,h⟩,Fr.refl _ _⟩));have bn:Hid (da K sg=cX K (sg.flatMap (·.2))):=hid rfl;have eb:=Y.len.2;have bo:Hid (((aK kind).toList== [84])=decide (kind=84)):=(show _=_ by
  rw[show([84]:List UInt8)=(⟨#[84]⟩:ah).toList by rw[acC]];rcases a8 with rfl|rfl
  .rw[rM λe=>by have:=congrArg (λb:ah=>b.data[0]?) e;simp[aK,byteOf]at this];rfl
  .exact tN rfl)
 generalize aK kind=kb at*;clear h hP bb Y a7 B hU he bd a8;go_enter aC.func83,aC.ntmps83;go_wp2_with fail;go_loopw [7,8] (λov iv wr=>∃i:Nat,i<=ps.length/\iv=.i i/\Hid (fi wr w ov ((sg.take i).map (·.1)))/\Hid (fK w wr rb num (cX K ((sg.take i).flatMap (·.2))))) (λ_ iv _=>ps.length-(intOf iv).toNat)
 case atStart=>exact⟨0,zo,rfl,abh _ _ _ _,ab⟩
 case round=>
  obtain⟨i,hi,rfl,HR,HJ⟩:=hrel;clear ab;have k0:(0:Int)<=(i:Int):=zo;by_cases M:i<ps.length
  .have k1:(i:Int)<(ps.length:Int):=zo;obtain⟨g,o,e,_,_,hg,_⟩:=dU HP.out.1 zo;cases e;have aE:Hid (∀W,bA (λt=>t≠45) w W->W.cell? (.a g (i*3))=.i ps[i].1/\W.cell? (.a g (i*3+2))=some ps[i].2.2.1/\qR W base ps[i].2.2.1 ps[i].2.2.2):=λW hK=>by
    have bp:=HP.out.de hK zd zd zd;obtain⟨g',o,e,_,_,hg,cc⟩:=dU bp.1 zo;cases e;obtain⟨f0,f1,f2⟩:=yP ps i M;exact⟨cc (i*3) _ zo f0,cc (i*3+2) _ zo f2,bp.2 _ (IS M)⟩
   have ee:=cx.out i M;have br:i<sg.length:=zo;have HM:Hid ((sg.take (i+1)).map (·.1)=(sg.take i).map (·.1)++ [ps[i].1]):=(show _=_ by rw[rS br,abZ,Z.out i M];rfl)
   have cB:Hid (cX K ((sg.take (i+1)).flatMap (·.2))=cX (cX K ((sg.take i).flatMap (·.2))) (ps[i].2.2.2.map Rk.bP)):=(show _=_ by
    rw[rS br,acu,acn,List.flatMap_nil,abU,Z.out i M,uw])
   have cI:Hid (∀j,cF (cX (cX K ((sg.take i).flatMap (·.2))) ((ps[i].2.2.2.map Rk.bP).take j))/\bQ U (cX (cX K ((sg.take i).flatMap (·.2))) ((ps[i].2.2.2.map Rk.bP).take j))):=λj=>by
    rw[<-uw];refine HK.out _ λr P=>?_;rcases abr.1 P with P|P
    .obtain⟨q,hq,cK⟩:=abO.1 P;exact abO.2 ⟨q,List.mem_of_mem_take hq,cK⟩
    .refine abO.2 ⟨sg[i],IS _,?_⟩;rw[Z.out i M];exact List.mem_of_mem_take P
   have cN:=hid (HG.out i M);obtain⟨p0,p2,Q⟩:=aE.out wr (HJ.out.de bc.out);obtain⟨eg,dC,bs,eh,ei⟩:=cz Q.1;have ej:((sg.take i).map (·.1)).length<=64:=by
    rw[abe]
    have:=List.length_take_le' i sg;omega
   rw[bs]at aE p2;clear Q bs;generalize ps[i]=pt at*;obtain⟨pn,pD,kv,ks⟩:=pt;simp only at*;generalize (sg.take i).map (·.1)=ns at*;generalize cX K ((sg.take i).flatMap (·.2))=Ki at*;have cW:=HJ.out.2.size;go_upto_region 6 with (at_builtin;refine abq _ rfl _ _ _ rfl w 3 i0 _ 1 8 aC.underlying180 cp cq cr cv rfl zo u7 _ _ rfl (aaV HR.out _) (.a wr 0) 1 1 [.i pn] rfl rfl (aaT (cs:=#[.i pn]) (t:=3) (fr:=(0,0)) (By wr _)) zv zo ze zo zt _ rfl ?_;intro g7 bB w7 an N bL bN;have bT:=hid (fi.snoc an);have bZ:=hid (HJ.out.grown HR.out N);clear an N bL bN)
   clear HR HJ p0 p2;go_wp2_with fail;go_loopw [9] (λjv wq=>∃j:Nat,j<=ks.length/\jv=.i j/\Hid (fi wq w (.l g7 (ns.length+1) bB) (ns++ [pn]))/\Hid (fK w wq rb num (cX Ki ((ks.map Rk.bP).take j)))) (λjv _=>ks.length-(intOf jv).toNat)
   case atStart=>exact⟨0,zo,rfl,bT,bZ⟩
   case round=>
    obtain⟨j,hj,rfl,a1,ao⟩:=hrel;clear bT bZ;obtain⟨-,p2,Q⟩:=aE.out wr (ao.out.de bc.out);have j0:(0:Int)<=(j:Int):=zo;by_cases aq:j<ks.length
    .have j1:(j:Int)<(ks.length:Int):=zo;obtain⟨g2,ek,e,_,_,en,b6⟩:=dU Q.1 zo;cases e;have hq:∀m,m<6->wr.cell? (.a g2 (j*6+m))=(fU ks[j].key)[m]? :=λm hm=>by
      have L:=q6 (ks.map Rk.key) j (by simpa using aq) m hm;rw[List.getElem_map]at L;have h2:m<(fU ks[j].key).length:=by simpa[fU] using hm
      rw[abG h2]at L ⊢;exact b6 (j*6+m) _ zo L
     have c0:wr.cell? (.a g2 (j*6))=.s ks[j].1:=hq 0 zo;have c1:wr.cell? (.a g2 (j*6+1))=.i (ks[j].2.1 0):=hq 1 zo;have c2:wr.cell? (.a g2 (j*6+2))=.i (ks[j].2.1 1):=hq 2 zo;have c3:wr.cell? (.a g2 (j*6+3))=.i (ks[j].2.1 2):=hq 3 zo;have c4:wr.cell? (.a g2 (j*6+4))=.i (ks[j].2.1 3):=hq 4 zo;have c5:wr.cell? (.a g2 (j*6+5))=some ks[j].2.2.1:=hq 5 zo;have aT:=Q.2 _ (IS aq);obtain⟨E,u,hx⟩:=dS aT;have b7:=(cN.out j aq).2;have cY:Hid (cX Ki ((ks.map Rk.bP).take (j+1))=dV (cX Ki ((ks.map Rk.bP).take j)) ks[j].1 (jg (cX Ki ((ks.map Rk.bP).take j) ks[j].1) (ks[j].2.1,ks[j].2.2.2))):=(show _=_ by
      have:=MM Ki (rs:=ks.map Rk.bP) (j:=j) (by simpa using aq);rw[List.getElem_map]at this;exact this)
     have a6:=cI.out j;clear hq b6 Q;generalize ks[j]=x at*;obtain⟨nm,c,xv,xl⟩:=x;simp only at*;subst hx;generalize cX Ki ((ks.map Rk.bP).take j)=Kj at*;have cW:=ao.out.2.size;go_upto_region 10 with fail;obtain⟨G,ar⟩: ∃W,W=wr.alloc (.cells (cP nm c (.slice E xl.length u)) 82):=⟨_,rfl⟩
     rw[<-ar];have av:Below wr wr G:=by rw[ar];exact zj.alloc zf _
     have c6:Hid (G.heap[wr.heap.size]?=.c (cP nm c (.slice E xl.length u)) 82):=(by rw[ar];exact By wr _)
     have ab:=hid (ao.out.below av);have c7:Hid _:=bH a1.out av zf;obtain⟨S,n1,C,aA,b8,aB⟩:=MZ ab.out a6.1 a6.2 (nm:=nm) b7 (bU (bH aT av zf) (aaZ _));have b9:=hid aA;have c8:=hid b8;have ca:=hid aB;clear aA b8 aB av ar c0 c1 c2 c3 c4 c5 aT b7 a6 p2 a1 ao;generalize wr.heap.size=bx at*;generalize jg (Kj nm) (c,xl)=js at*;obtain⟨cj,J⟩:=js;simp only at*;go_cut [11] from 44 to 49 (λv O=>∃b ad n cap,v=.p b/\Hid (O.heap[b]?=.c (cP nm cj (.slice ad n cap)) 82)/\Hid (O.ownsRow G 88 3 (.slice ad n cap) J.length (aQ J))/\Hid (Below G G O))
     case first=>
      rename_i Jx K' c9 db;refine wp_region_any zk ?_;generalize V:(⟨_,_⟩:Act)=a0;refine Hh (n:=7) (I:=λlisted a w'=>gA nt (nE rb bx nm (.agg (cP nm (Kj nm).1 (.slice S n1 C))) (.agg (cP nm c (.slice E xl.length u))) cj J G) G a0 7 listed a w') (F:=λa w'=>∃listed w1 b ad n cap,gA nt (nE rb bx nm (.agg (cP nm (Kj nm).1 (.slice S n1 C))) (.agg (cP nm c (.slice E xl.length u))) cj J G) G a0 7 listed a w1/\a.tmps.getD 11 undef=.p b/\w'.heap[b]?=.c (cP nm cj (.slice ad n cap)) 82/\w'.ownsRow G 88 3 (.slice ad n cap) J.length (aQ J)/\Below G G w') rfl zk zk ?_ ?_ ?_ _ _ _ _ rfl zd (gA.begin (zj.drew) _ 7)
      .intro listed a O i hi B P;obtain⟨-,-,H⟩:=qM P;have y0:=bj c6.out B.bR;have v0:a.tmps.getD 0 undef=.p rb:=(B.old 0 λj hj _ e=>by unfold nt at e;split at e<;>omega).trans (by rw[<-V];rfl);have cd:a.tmps.getD 10 undef=.p bx:=(B.old 10 λj hj _ e=>by unfold nt at e;split at e<;>omega).trans (by rw[<-V];rfl);have fin:∀{v w'},Below O O w'->nE rb bx nm (.agg (cP nm (Kj nm).1 (.slice S n1 C))) (.agg (cP nm c (.slice E xl.length u))) cj J G i v w'->gA nt (nE rb bx nm (.agg (cP nm (Kj nm).1 (.slice S n1 C))) (.agg (cP nm c (.slice E xl.length u))) cj J G) G a0 7 (listed.setIfInBounds i true) (a.put (some (nt i)) v) w':=λhb hv=>B.step hi (by rw[<-V];unfold nt;split<;>(show _<58;omega)) (Of hi) hb (Z0 hb) hv;rcases (show i=0\/i=1\/i=2\/i=3\/i=4\/i=5\/i=6 by omega) with rfl|rfl|rfl|rfl|rfl|rfl|rfl
       .exact dH rfl rfl (KC _ _ _ _ _ _ _) (fin zj v0)
       .exact dH rfl rfl (FX _ _ _ _ _ _ _ _ cd) (fin zj rfl)
       .exact dH rfl rfl (xE _ _ _ _ _ _ _ bx 0 _ (B.new 1 zo (H _ rfl ⟨1,.data⟩ zp rfl)) ((aH y0).1 0)) (fin zj rfl)
       .refine wF rfl rfl (VW _ _ _ _ _ _ _ _ (B.new 0 zo (H _ rfl ⟨0,.data⟩ zp rfl)) (B.new 2 zo (H _ rfl ⟨2,.data⟩ zp rfl)) rfl) ((b9.out O B.bR).mono ?_);rintro e w' ⟨rfl,hb⟩;exact⟨_,rfl,fin hb rfl⟩
       .exact dH rfl rfl (Q5 _ _ _ _ _ _ _ bx cd y0) (fin zj rfl)
       .refine wF rfl rfl (Po _ _ _ _ _ _ _ _ (B.new 3 zo (H _ rfl ⟨3,.data⟩ zp rfl)) (B.new 4 zo (H _ rfl ⟨4,.data⟩ zp rfl)) rfl) ((c8.out O B.bR).mono ?_);rintro e w' ⟨sv,rfl,ck,hb⟩;obtain⟨X,o,rfl⟩:=dS ck;exact⟨_,rfl,fin hb ⟨_,_,_,rfl,bU ck B.bR.size⟩⟩
       .exact dH rfl rfl (Hp _ _ _ _ _ _) (fin (zj.alloc zf _) ⟨_,rfl,B.bR.size,By O _⟩)
      .intro listed a O hl B;obtain⟨b,e,dd,ay⟩:nE rb bx nm (.agg (cP nm (Kj nm).1 (.slice S n1 C))) (.agg (cP nm c (.slice E xl.length u))) cj J G 6 (a.tmps.getD 11 undef) O:=B.new 6 zo (hl 6 zo);obtain⟨X,n',o,e5,df⟩:nE rb bx nm (.agg (cP nm (Kj nm).1 (.slice S n1 C))) (.agg (cP nm c (.slice E xl.length u))) cj J G 5 (a.tmps.getD 49 undef) O:=B.new 5 zo (hl 5 zo);obtain⟨w',L,h2,h3,h4⟩:=I6 a.eval none (.tmp 11) (.tmp 49) 0 "letters.go:156" _ O b e e5 ay;exact C7 rfl rfl L ⟨listed,O,b,X,n',o,B,e,h2,h4 _ _ _ _ _ _ df zd,h3 _ _ dd B.bR⟩
      .rintro a w' ⟨listed,w1,b,X,n',o,B,e,h2,h3,h4⟩;refine db _ _ (Met.intro (c9 _ _ ⟨a.tmps.getD 11 undef,a.tmps.getD 44 undef,a.tmps.getD 45 undef,a.tmps.getD 46 undef,a.tmps.getD 47 undef,a.tmps.getD 48 undef,a.tmps.getD 49 undef,⟨b,X,n',o,e,h2,h3,h4⟩,?_⟩));obtain⟨T,D⟩:=a;have hs:=B.Kc;have hd:=B.defs.trans (by rw[<-V]);rw[<-V]at hs;clear B V e;subst hd;exact congrArg (λt=>(⟨t,[]⟩:Act)) (hs.trans (by
        simp only;generalize (λi=>T.getD i undef)=f;kernel_rfl))
     case rest=>
      obtain⟨b,X,n',o,rfl,di,dj,dk⟩:=hcut;have dm:=hid (ca.out wc X n' o dk.out dj.out);obtain⟨cb,_⟩:=aH di.out;have b0:=cb 0;have b1:=cb 1;have b2:=cb 2;have b3:=cb 3;have b4:=cb 4;have b5:=cb 5;go_wp2_with (go_at_call 42;refine dm.out.mono ?_;rintro e w9 ⟨rfl,cl,cm⟩;have dq:=hid cl;have dt:=hid cm;clear cl cm)
      refine⟨⟨j+1,zo,by go_num,?_,by rw[cY.out];exact dq⟩,zi⟩;refine hid (dt.out.fh c7.out λg eo hg e=>?_);obtain⟨A,hA⟩:=ab.out.blk;have e':=e;rw[e',hA]at hg;exact absurd hg zp
    .obtain rfl:j=ks.length:=zo;have cn:=ao.out;rw[acK zp,<-cB.out]at cn;have du:=hid cn;go_wp2;exact⟨⟨i+1,zo,by go_num,by rw[HM.out];exact a1,du⟩,zi⟩
  .obtain rfl:i=ps.length:=zo;rw[acK zo]at HR HJ;rw[<-bn.out]at HJ;by_cases az:kind=84
   .have hb:(kb.toList== [84])=true:=by rw[bo.out];simpa using az
    go_wp2;go_ret;exact⟨by simp[az],HJ.out⟩
   .have hb:(kb.toList== [84])=false:=by rw[bo.out];simpa using az
    have HT:=hid (cw.out wr u7 HJ.out HR.out);go_wp2_with (go_at_call 109;refine HT.out.mono ?_;rintro e w2 ⟨rfl,ay⟩;have dv:=hid (HJ.out.below ay);clear ay)
    go_ret;exact⟨by simp[az],dv.out⟩
end Go.Proofs.YtldmcdeibiclkaaGreatQ
namespace Go.Proofs.YtldmcdeibiclkaaGreatQ
variable {T:ah}{K:aL}
section
def fu(K:aL)(T:ah):ah×Int×aL:=match dZ T with
 |none=>(⟨#[]⟩,8,K)
 |some L=>(iE (j5 K L),0,vA K L)
theorem nG(h:dZ T=none):fu K T=(⟨#[]⟩,8,K):=by unfold fu;rw[h]
theorem o8{L:Let}(h:dZ T=some L):fu K T=(iE (j5 K L),0,vA K L):=by unfold fu;rw[h]
theorem Ct(K:aL)(lev:Nat):∀ns:List Nat,fR (j6 K lev ns)=gu (ed K (lev+1)) ns
 |[]=>rfl
 |n::ns=>by
  have h:cu (λi=>if i<4 then ed K (lev+1) (n*4+i) else 0) 4=cu (λj=>ed K (lev+1) (n*4+j)) 4:=yV 4 λi hi=>BY hi;rw[show j6 K lev (n::ns)=(n,λi=>if i<4 then ed K (lev+1) (n*4+i) else 0)::j6 K lev ns from rfl,fR,gu,Ct K lev ns,cE,h]
theorem Pz(K:aL)(lev:Nat)(sg:List Nd):sC (iY K) (λn=>(fq K n).length) lev (bV (dg (iY K) (3-(lev+1))) sg)=iE (j5 K (.nodes lev sg)):=by
 show sC _ _ lev (bV (ed K (lev+1)) sg)=_;simp only[j5];generalize bV (ed K (lev+1)) sg=ns;unfold sC;by_cases h:ns= []
 .rw[BY h,BY h];rfl
 .rw[AT h,AT h];by_cases a:lev=2
  .rw[BY a,BY a,uc];simp only[iE,Let.bytes,gK,abe,cE];rfl
  .rw[AT a,AT a];show _=aK 78++(aK (lev+1:Nat)++(aK (j6 K (lev+1) ns).length++fR (j6 K (lev+1) ns)))
   rw[Ct,j6,abe,cE,cE];rfl
theorem Ou(K:aL)(ns:List Nat):aK (84:Nat)++aK ns.length++eP (iY K) (λn=>(fq K n).length) ns=(Let.bS 84 (gK K ns)).bytes:=by
 rw[uc,cE];simp only[Let.bytes,gK,abe]
theorem Z4(K:aL):(⟨#[78,0,1,0]⟩:ah)++cu (λj=>dg (iY K) (3-(0+1)) (0*4+j)) 4=(Let.nodes 0 (j6 K 0 [0])).bytes:=by
 have e:(⟨#[78,0,1,0]⟩:ah)=aK 78++(aK (0:Nat)++(aK (1:Nat)++aK (0:Nat))):=rfl;rw[Let.bytes,Ct,e,gu,gu,cE,cE,cE,cE,iT];rfl
theorem WJ(h:0<T.size): ∃(k:Nat) (q:ah),k<256/\T=aK k++q:=by
 refine⟨T[0].toNat,T.extract 1 T.size,T[0].toNat_lt,?_⟩;have e:aK (T[0].toNat:Nat)=T.extract 0 1:=by
  apply acj;apply acm
  .simp only[ByteArray.data_extract,Array.size_extract,aK,List.size_toArray,acQ];have:T.data.size=T.size:=rfl;omega
  .intro i a c;have hi:i=0:=by simp[aK]at a;omega
   subst hi;simp only[aK,byteOf,ByteArray.data_extract,ByteArray.getElem_eq_getElem_data];apply UInt8.toNat_inj.1
   have:=(T.data[0]'h).toNat_lt;simp;omega
 simp_all
theorem Fw:dZ ⟨#[]⟩=none:=by
 have e:(aF 1 ((⟨#[]⟩:ah),false)).1=0:=by
  unfold aF;rw[mg (.inr zd)];rfl
 unfold dZ;rw[e];rfl
section
variable {k:Nat} (hk:k<256) (q:ah)
include hk
theorem wT:aF 1 (aK k++q,false)=(k,(q,false)):=by
 rw[rq,show((k:Int)%256).toNat=k by omega]
theorem Ys(h1:k≠82)(a:k≠78)(c:k≠83)(e:k≠84):dZ (aK k++q)=none:=by
 unfold dZ;rw[wT hk];grind
end
theorem NZ(q:ah):dZ (aK (82:Nat)++q)=if q.size=8 then some (.root (be q)) else none:=by
 unfold dZ;rw[wT zd];simp only[abj];by_cases h:8<=q.size
 .have e:aF 8 (q,false)=((be (q.extract 0 8)).toNat,(q.extract 8 q.size,false)):=by unfold aF;rw[mA h]
  rw[e];by_cases a:q.size=8
  .have c:q.extract 0 8=q:=by rw[<-a];simp
   rw[BY a,BY (by simp[dJ,acO,a]),c,Int.toNat_of_nonneg (show 0<=be q from(sF _ _).1)]
  .rw[AT a,AT (by simp[dJ,acO];omega)]
 .have e:dJ (aF 8 (q,false)).2=false:=by
   unfold aF;rw[mg (.inr (by simp only;omega))];simp[dJ]
  grind
theorem ZS{q:ah}(h:q.size=8){d:Int}(a:0<=d)(h1:d<18446744073709551616):kK d=aK (82:Nat)++q↔be q=d:=by
 constructor
 .intro e;have c:eA d=q:=by
   have h1:=oN (n:=1) (p:=aK 82) (eA d) rfl;have f:=oN (n:=1) (p:=aK (82:Nat)) q rfl;rw[kK]at e;grind
  rw[<-c,vU d a h1]
 .intro e;rw[kK];congr 1;exact DG (by rw[Ap,h]) (by rw[vU d a h1,e])
theorem QK(q:ah):dZ (aK (78:Nat)++q)=if dJ (fL (q,false)).2=true then some (.nodes (aF 1 (q,false)).1 (fL (q,false)).1) else none:=by
 unfold dZ;rw[wT zd];grind
theorem P2{k:Nat}(hk:k=83\/k=84)(q:ah):dZ (aK k++q)=if dJ (cf bW 3 (q,false)).2=true then some (.bS k (cf bW 3 (q,false)).1) else none:=by
 unfold dZ;rw[wT zo];grind
theorem Ns{α:Type}{f:Nat->RS->α×RS}{lev:Nat}{r:RS}(h:r.2=true):dJ (cf f lev r).2=false:=by
 have e:(ba (decide (1<=(aF 1 r).1/\(aF 1 r).1<=64)) (aF 1 r).2).2=true:=by
  simp[ba,aF,mg (.inl h)]
 unfold cf;rw[mJ _ _ _ (by exact e),dJ,e];rfl
end
end Go.Proofs.YtldmcdeibiclkaaGreatQ
namespace Go.Proofs.YtldmcdeibiclkaaGreatQ
open Go.RowKit
theorem lA{k:Nat}(c:UInt8)(hk:k<256):((aK k).toList== [c])=decide (k=c.toNat):=by
 rw[acC,acU,abt,abb];show [byteOf k]= [c]↔_;rw[ack];have h:=tW (k:Int);constructor
 .grind
 .intro e;refine⟨UInt8.toNat_inj.1 ?_,rfl⟩;omega
theorem wv{k:Nat}(q:ah):(aK k++q).extract 0 1=aK k:=by
 have:=oN (n:=1) q (dE k);rw[mA (by rw[OF,dE];omega)]at this;grind
theorem LW{k:Nat}(q:ah):(aK k++q).extract 1 (aK k++q).size=q:=by
 have:=oN (n:=1) q (dE k);rw[mA (by rw[OF,dE];omega)]at this;grind
theorem wO{k:Nat}(q:ah):((aK k++q).toList== [])=false:=by
 rw[acC];cases a:(aK k++q).data.toList with
 |nil=>
  have h:(aK k++q).data.toList.length=0:=by rw[a];rfl
  have e:(aK k++q).data.toList.length=(aK k++q).size:=rfl;rw[e,OF,dE]at h;omega
 |cons x xs=>rfl
theorem QH(rb k:Nat)(q:ah)(w:af)(hk:k<256)(hs:(aK k++q).size<=140737488355328)(h1:k≠82)(a:k≠78)(c:k≠83)(f:k≠84):
  Calls aC.prog 57 #[.p rb,.s (aK k++q)] w λe w'=>e=.r (.tuple #[.s ⟨#[]⟩,.i 8])/\Below w w w':=by
 have h:=wv (k:=k) q;have j:=(lA 82 hk).trans (abC h1);have l:=(lA 78 hk).trans (abC a);have m:=(lA 83 hk).trans (abC c);have n:=(lA 84 hk).trans (abC f);have o:1<=(aK k++q).size:=by rw[OF,dE];omega
 have t:=wO (k:=k) q;generalize aK k++q=T at*;generalize aK k=t1 at*;have g:(1:Int)<=(T.size:Int):=zo;go_enter aC.func57,aC.ntmps57;go_wp2;go_ret2;exact⟨rfl,zj.alloc zf _⟩
theorem RB(rb:Nat)(w:af):Calls aC.prog 57 #[.p rb,.s ⟨#[]⟩] w λe w'=>e=.r (.tuple #[.s ⟨#[]⟩,.i 8])/\Below w w w':=by
 go_enter aC.func57,aC.ntmps57;go_wp2;go_ret2;exact⟨rfl,zj⟩
theorem Tj(rb:Nat)(q H D:ah)(w:af)(hs:(aK (82:Nat)++q).size<=140737488355328)(A:D.size=32)(h:∀W,Below w w W->Calls aC.prog 24 #[.p rb] W λe w'=>e=.r (.s H)/\Below w w w')(j:∀W,Below w w W->Calls aC.prog 76 #[.p rb,.i 0,.i 0] W λe w'=>e=.r (.s D)/\Below w w w'):
  Calls aC.prog 57 #[.p rb,.s (aK (82:Nat)++q)] w λe w'=>e=.r (if q.size=8 then .tuple #[.s (if H=aK (82:Nat)++q then ⟨#[]⟩ else ⟨#[78,0,1,0]⟩++D),.i 0] else .tuple #[.s ⟨#[]⟩,.i 8])/\Below w w w':=by
 have B:=wv (k:=82) q;have C:((aK (82:Nat)).toList== [82])=true:=(lA 82 zd).trans rfl;have E:(aK (82:Nat)++q).size=1+q.size:=by rw[OF,dE]
 have F:=wO (k:=82) q;have l:=hid h;have n:=hid j;have a:Hid (Below w w (w.alloc (.cells #[.s (aK (82:Nat)++q),.i 1,.bool false] 139))):=zj.alloc zf _;clear h j;generalize aK (82:Nat)++q=T at*;generalize aK (82:Nat)=t1 at*;have o:(1:Int)<=(T.size:Int):=zo;by_cases m:q.size=8
 .rw[BY m];have t:=abt.2 zo;by_cases f:H=T
  .rw[BY f];have u:=tN f;go_enter aC.func57,aC.ntmps57;go_wp2_with (go_at_call 24;refine(l.out _ a.out).mono ?_;rintro e w2 ⟨rfl,c⟩)
   go_ret2;exact⟨rfl,c⟩
  .rw[AT f];have u:=rM f;go_enter aC.func57,aC.ntmps57;go_wp2_with (first
    |(go_at_call 24;refine(l.out _ a.out).mono ?_;rintro e w2 ⟨rfl,c⟩)
    |(go_at_call 76;refine(n.out _ c).mono ?_;rintro e w3 ⟨rfl,g⟩))
   go_ret2;exact⟨rfl,g⟩
 .rw[AT m];have t:=aaQ.2 zo;go_enter aC.func57,aC.ntmps57;go_wp2;go_ret2;exact⟨rfl,a.out⟩
end Go.Proofs.YtldmcdeibiclkaaGreatQ
