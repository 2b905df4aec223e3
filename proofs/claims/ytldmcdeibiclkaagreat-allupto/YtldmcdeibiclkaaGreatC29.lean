/-
  Toward all_holds
-/
import Derived.Test.YtldmcdeibiclkaaGreatC28
import Derived.Test.YtldmcdeibiclkaaGreatC01
import Derived.Test.YtldmcdeibiclkaaGreatC25
import Derived.Test.YtldmcdeibiclkaaGreatC21
import Derived.Test.YtldmcdeibiclkaaGreatC22
import Derived.Test.YtldmcdeibiclkaaGreatC23
import Derived.Test.YtldmcdeibiclkaaGreatC26
import Derived.Test.YtldmcdeibiclkaaGreatC18
import Derived.Deep.CutRange
set_option linter.all false
noncomputable section
set_option maxRecDepth 100000
set_option maxHeartbeats 20000000
namespace Go.Proofs.YtldmcdeibiclkaaGreatQ
variable {α:Type}{lev:Nat}{K:aL}
theorem K7{a b:ah}(h:(Op.bytesLess a.toList b.toList||a.toList==b.toList)=false):b.data.toList<a.data.toList:=by
 simp only[Proofs.bytesLess_eq,acC,acD,acA,aaQ]at h;grind
structure nP(n:Nat)(rs:List aJ):Prop where
 snd:∀r∈rs,il r.2.1 r.2.2/\bq r.1=true/\aZ r.1=n
 l8:rs.Pairwise λa b=>a.1.data.toList<b.1.data.toList
structure qh(sg:List (Nat×List aJ)):Prop where
 len:1<=sg.length/\sg.length<=64
 num:∀g∈sg,g.1<64/\nP g.1 g.2
 l8:(sg.map (·.1)).Pairwise (· < ·)
structure JH(lev:Nat)(sg:List Nd):Prop where
 low:lev<3
 len:1<=sg.length/\sg.length<=64
 num:∀g∈sg,g.1<4 ^ lev
 l8:(sg.map (·.1)).Pairwise (· < ·)
def Let.Ok:Let->Prop
 |.root _=>True
 |.nodes lev sg=>JH lev sg
 |.bS kind sg=>(kind=83\/kind=84)/\qh sg
theorem nP.apart{n:Nat}{rs:List aJ}(h:nP n rs):(rs.map (·.1)).Pairwise (·≠·):=
 acs.2 (h.l8.imp λ{a b} c e=>zg)
theorem gN.len{c:Ctx}{l:List aG}(h:gN c l):l.length<=5000000:=by
 have d:(l.map λv=>v.1*1000001+v.2.1.toNat).Pairwise (· < ·):=acs.2 (List.Pairwise.imp_of_mem (λ{a b} f hb e=>by
  have d:=h.fX a f;have g:=h.fX b hb;have i:=h.ctx _ d.1;have k:=h.ctx _ g.1;have n:=(jR a b).1 e;grind) h.sorted)
 have:=rj (a:=0) (m:=4000004) d λx j=>by
  obtain⟨v,hv,rfl⟩:=aaW.1 j;have d:=h.fX v hv;have i:=h.ctx _ d.1;grind
 grind
def nP.join{n:Nat}{rs:List aJ}(h:nP n rs):Jd n rs:=
 ⟨λr a=>⟨(h.snd r a).2.2,(h.snd r a).2.1,(h.snd r a).1,(h.snd r a).1.oj.len⟩,h.apart⟩
theorem Hk{n:Nat}:∀(k:Nat) (x:ah×List aJ×RS),(x.2.2.2=false->nP n x.2.1/\∀t∈x.2.1,t.1.data.toList<=x.1.data.toList)->(eZ n k x).2.2.2=false->nP n (eZ n k x).2.1
 |0,x,h,c=>(h c).1
 |k+1,x,h,c=>by
  cases e:x.2.2.2 with
  |true=>rw[qL _ _ e]at c ⊢;exact(h c).1
  |false=>
   rw[uJ e]at c ⊢;refine Hk k _ (λg=>?_) c;obtain⟨h1,j⟩:=h e;simp only[ba,acD,Bool.not_eq_false',kN,No,abb,mf,Bool.not_eq_true']at g;obtain⟨_,m,f⟩:=g;have o:=K7 (acD.2 m);have p:=λt i=>List.lt_of_le_of_lt (j t i) o;refine⟨⟨λr d=>?_,ach.2 ⟨h1.l8,List.pairwise_singleton _ _,λa q b hb=>zg⟩⟩,λt i=>?_⟩
   .rcases abr.1 d with d|d
    .exact h1.snd r d
    .obtain rfl:=abu.1 d;exact⟨f.2.2,f.1,f.2.1⟩
   grind
theorem ZM{n:Nat}{r:RS}(h:(bW n r).2.2=false):nP n (bW n r).1:=
 Hk _ _ (λ_=>⟨⟨λr a=>by simp at a,List.Pairwise.nil⟩,λt c=>by simp at c⟩) h
theorem FZ{f:Nat->RS->α×RS}{Q:Nat->α->Prop}(d:∀n r,(f n r).2.2=false->r.2=false/\Q n (f n r).1):∀(k:Nat) (x:Int×List (Nat×α)×RS),(x.2.2.2=false->(x.2.1.map (·.1)).Pairwise (· < ·)/\∀g∈x.2.1,g.1<4 ^ lev/\Q g.1 g.2/\(g.1:Int)<=x.1)->(eY f lev k x).2.2.2=false->((eY f lev k x).2.1.map (·.1)).Pairwise (· < ·)/\(∀g∈(eY f lev k x).2.1,g.1<4 ^ lev/\Q g.1 g.2)/\x.2.2.2=false/\(eY f lev k x).2.1.length=x.2.1.length+k
 |0,x,h,a=>⟨(h a).1,λg e=>⟨((h a).2 g e).1,((h a).2 g e).2.1⟩,a,rfl⟩
 |k+1,x,h,a=>by
  cases c:x.2.2.2 with
  |true=>rw[mJ _ _ _ c,c]at a;cases a
  |false=>
   rw[uD c]at a ⊢
   have:=FZ d k _ (λi=>?_) a
   .grind
   .obtain⟨m,o⟩:=h c;obtain⟨j,p⟩:=d _ _ i;simp only[rA,ba,acD,Bool.not_eq_false',No,abb]at j;grind
theorem IU{f:Nat->RS->α×RS}{Q:Nat->α->Prop}(c:∀n r,(f n r).2.2=false->r.2=false/\Q n (f n r).1){r:RS}(h:(cf f lev r).2.2=false):((cf f lev r).1.map (·.1)).Pairwise (· < ·)/\(∀g∈(cf f lev r).1,g.1<4 ^ lev/\Q g.1 g.2)/\r.2=false/\1<=(cf f lev r).1.length/\(cf f lev r).1.length<=64:=by
 obtain⟨d,e,a,j⟩:=FZ c _ _ (λ_=>⟨List.Pairwise.nil,λg i=>by simp at i⟩) h;simp only[ba,acD,Bool.not_eq_false',abb]at a;refine⟨d,e,mh a.1,?_⟩;show 1<=(eY f lev _ _).2.1.length/\_;have:(cf f lev r).1.length=(eY f lev (aF 1 r).1 (-1,[],ba (decide (1<=(aF 1 r).1/\(aF 1 r).1<=64)) (aF 1 r).2)).2.1.length:=rfl;grind
theorem xY{n:Nat}:∀(k:Nat) (x:ah×List aJ×RS),(eZ n k x).2.2.2=false->x.2.2.2=false
 |0,x,a=>a
 |k+1,x,a=>by
  cases c:x.2.2.2 with
  |true=>rw[qL _ _ c,c]at a;cases a
  |false=>rfl
def EI{r:RS}:∀{i:Nat},(jD i r).2=false->r.2=false
 |0,h=>h
 |i+1,h=>EI (i:=i) (mh h)
theorem ug{T:ah}{L:Let}(h:dZ T=some L):L.Ok:=by
 unfold dZ at h;split at h
 .split at h
  .cases h;trivial
  .cases h
 .split at h
  .split at h
   .rename_i a;cases h;simp only[dJ,No,Bool.not_eq_true']at a;obtain⟨d,e,i,j⟩:=IU (f:=iA) (Q:=λ_ _=>True) (λn r c=>⟨EI c,trivial⟩) a.1;simp only[qQ,ba,acD,Bool.not_eq_false',abb]at i;exact⟨i.2,j,λg k=>(e g k).1,d⟩
   .cases h
  .split at h
   .rename_i m;split at h
    .rename_i a;cases h;simp only[dJ,No,Bool.not_eq_true']at a;obtain⟨d,e,i,j⟩:=IU (f:=bW) (Q:=nP) (λn r c=>⟨mh (xY _ _ c),ZM c⟩) a.1;exact⟨m,j,e,d⟩
    .cases h
   .cases h
def da(K:aL)(sg:List (Nat×List aJ)):aL:=cX K (sg.flatMap (·.2))
theorem Qh{sg:List (Nat×List aJ)}{k:Nat}(h:k<sg.length):da K (sg.take (k+1))=cX (da K (sg.take k)) sg[k].2:=by
 rw[da,abE h,acu,uw];simp[da]
theorem S7{sg:List (Nat×List aJ)}(a:qh sg){k:Nat}(h:k<sg.length):∀r∈sg[k].2,da K (sg.take k) r.1=K r.1:=λr d=>by
 refine xG λx f e=>?_;obtain⟨g,i,c⟩:=abO.1 f;obtain⟨j,hj,rfl⟩:=acZ i;rw[acN]at hj;rw[List.getElem_take]at c;have m:=((a.num _ (IS (show j<sg.length by omega))).2.snd x c).2.2;have n:=((a.num _ (IS h)).2.snd r d).2.2;have o:=acr.1 a.l8 j k zt (by simpa using h) zo;grind
end Go.Proofs.YtldmcdeibiclkaaGreatQ
namespace Go.Proofs.YtldmcdeibiclkaaGreatQ
variable {w W W':af}{b kind lev:Nat}{bm:Nat->Nat}{K:aL}{lv nv:ag}{ns:List Nat}{sg:List Nd}
open Go.RowKit
abbrev pN(bm:Nat->Nat)(q:Nat):Prop:=∃n,n<64/\q=bm n
structure lP(w:af)(b num kind:Nat)(bm:Nat->Nat)(lv:ag)(K:aL)(ns:List Nat)(nv:ag)(W:af):Prop where
 box:W.heap[w.heap.size]?=.c #[.int .u8 kind,lv] 171
 rep:aV W b bm num K
 fr:Fr (pN bm) w W
 row:fi W w nv ns
theorem lP.below{num:Nat}(h:lP w b num kind bm lv K ns nv W)(hb:Below W W W'):lP w b num kind bm lv K ns nv W':=
 ⟨bj h.box hb,h.rep.below hb,h.fr.below hb,bH h.row hb zf⟩
theorem lP.join{num n:Nat}{f:aL}(h:lP w b num kind bm lv K ns nv W)(i:n<64)(k:aV W' b bm num f)(a:Fr (λq=>q=bm n) W W'):lP w b num kind bm lv f ns nv W':=by
 obtain⟨es,clock,p,_⟩:=h.rep.2.1 n i;refine⟨a.heap h.box (λe=>?_),k,h.fr.trans (a.weaken λq e=>⟨n,i,e⟩),a.row h.row λg o l c hv e=>?_⟩
 .have:=h.box;grind
 .have aT:=h.row;rcases aT.2 with⟨d,_⟩|⟨r,j,m,d,_,u,_⟩
  .rw[hv]at d;cases d
  grind
theorem lP.tell{num:Nat}{sg:List (Nat×List aJ)}(h:lP w b num kind bm lv K (sg.map (·.1)) nv W)(a:qh sg)(i:gi W bm K/\(Let.bS 84 (dO W bm K (sg.map (·.1)))).bytes.size<=140737488355328):
  Calls aC.prog 139 #[.p b,.int .u8 84,nv] W λe w'=>e=.r (.s (Let.bS 84 (dO w' bm K (sg.map (·.1)))).bytes)/\aV w' b bm num K/\Fr (pN bm) w w':=by
 have c:∀n∈sg.map (·.1),n<64:=λn d=>by
  obtain⟨g,j,rfl⟩:=aaW.1 d;exact(a.num g j).1
 have hlen:(sg.map (·.1)).length<=64:=by rw[abe];exact a.len.2
 generalize sg.map (·.1)=ns at*;have f:=hlen;have k:=GM b num 84 w bm K nv ns W h.rep i.1 h.row (by decide) f c i.2;refine k.mono λe w' m=>?_;obtain⟨o,hb⟩:=m;refine⟨?_,h.rep.below hb,h.fr.below hb⟩;have hs:dO w' bm K ns=dO W bm K ns:=aci λn d=>by
  rw[yY (hb.block _ (h.rep.2.1 _ (c n d)).lt)]
 rw[hs];exact o
theorem R7(b num kind:Nat)(bm:Nat->Nat)(K:aL)(lv:ag)(gs:List Gm)(sg:List (Nat×List aJ))(w0 w:af)(h:aV w b bm num K)(hS:kV w0 w lv gs sg)(X:qh sg)(hK:Fit K)(a8:kind=83\/kind=84)(ar:∀W,aV W b bm num (da K sg)->gi W bm (da K sg)/\(Let.bS 84 (dO W bm (da K sg) (sg.map (·.1)))).bytes.size<=140737488355328):
  Calls aC.prog 106 #[.p b,.agg #[.int .u8 kind,lv]] w λe w'=>e=.r (.s (if kind=84 then ⟨#[]⟩ else (Let.bS 84 (dO w' bm (da K sg) (sg.map (·.1)))).bytes))/\aV w' b bm num (da K sg)/\Fr (pN bm) w w':=by
 obtain⟨i0,bb,bc,bd,bn⟩:=aaY aC.yF;have y:gs.length=sg.length:=by rw[<-hS.is,abe]
 have av:Hid _:=y;clear y;obtain⟨ad,cap,rfl,b1,b4⟩:=lh hS.row;have bp:=h.1.lt;have b5:=X.len;have Y:Hid (∀{q:Nat} {C:aa} {t:ak} {fr:Nat×Nat},w.heap[q]?=some (.cells C t fr)->¬pN bm q):=λ{q C t fr} L ⟨n,hn,e⟩=>by
  obtain⟨es,clock,he,_⟩:=h.2.1 n hn;rw[e,he]at L;cases L
 have HS:Hid _:=hS;have o:=zu X;have HK:=zu hK;have Z:=zu ar;have ay:Hid (lP w b num kind bm (.slice ad gs.length cap) (da K (sg.take 0)) ((sg.map (·.1)).take 0) (.slice none 0 0) (w.alloc (.cells #[.int .u8 kind,.slice ad gs.length cap] 171))):=
  ⟨By w _,h.below (zj.alloc zf _),(Fr.refl _ _).alloc _,abh _ _ _ _⟩
 clear h hS X hK ar;go_enter aC.func106,aC.ntmps106;go_wp2;go_loopw [5,11] (λnv iv wr=>∃k:Nat,k<=gs.length/\iv=.i k/\Hid (lP w b num kind bm (.slice ad gs.length cap) (da K (sg.take k)) ((sg.map (·.1)).take k) nv wr)) (λ_ iv _=>gs.length-(intOf iv).toNat)
 case atStart=>exact⟨0,zo,rfl,ay.out⟩
 case round=>
  obtain⟨k,hk,rfl,u⟩:=hrel;clear ay;have b6:=(IN.1 u.out.box).1;by_cases ab:k<gs.length
  .have d:k<sg.length:=by have:=av.out;omega
   obtain⟨g,az,br,Q,_,_,cc⟩:=sG HS.out.row (show 0<gs.length by omega);cases br;obtain⟨z,R⟩: ∃z,w.heap[g]?=some (.cells z 220 (0,0)):=by
    rcases HS.out.row.2 with⟨e,_⟩|⟨g',az,z,e,_,hh,_⟩
    .cases e
    .cases e;exact⟨z,hh⟩
   have v:sg[k]=(gs[k].1,gs[k].2.2.map Rc.bP):=by
    have:=HS.out.is;subst this;simp
   have c0:wr.cell? (.a g (k*2))=.i gs[k].1:=by
    rw[World.cell?_of_block (u.out.fr.block g Q (Y.out R))];exact cc (k*2) _ zo (uQ gs k ab).1
   have c1:wr.cell? (.a g (k*2+1))=some gs[k].2.1:=by
    rw[World.cell?_of_block (u.out.fr.block g Q (Y.out R))];exact cc (k*2+1) _ zo (uQ gs k ab).2
   have D:=o.out.num sg[k] (IS d);have f:gs[k].1<64:=by have:=D.1;rw[v]at this;exact this
   have M:=HS.out.jO gs[k] (IS ab);have an:Hid (∀W,Below wr wr W->Calls aC.prog 140 #[.map (some (bm gs[k].1)),gs[k].2.1] W λe w'=>e=.r (.tuple #[])/\aV w' b bm num (da K (sg.take (k+1)))/\Fr (λq=>q=bm gs[k].1) W w'):=λW hW=>by
    have ao:∀{q:Nat} {C:aa} {t:ak} {fr:Nat×Nat},w.heap[q]?=some (.cells C t fr)->W.heap[q]?=some (.cells C t fr):=λ{q:Nat} {C:aa} {t:ak} {fr:Nat×Nat} L=>by
     rw[hW.block q (abc (IN.1 L).1 u.out.fr.size)];exact u.out.fr.heap L (Y.out L)
    have aA:bA (λ_=>True) w W:=λq cs t fr L _=>ao L;have hj:=Yx b num gs[k].1 w0 bm (da K (sg.take k)) gs[k].2.1 gs[k].2.2 W (u.out.rep.below hW) f (aA.row M.row trivial) (λr hr=>aU.uU (B:=w0.heap.size) (aA.row (M.vt r hr) trivial))
     (by have:=D.2.join;rw[v]at this;exact this)
     (λr hr=>by
      rw[S7 o.out d r (by rw[v];exact hr)];exact HK.out r.1)
    rw[Qh d,v];exact hj
   have bs:Hid ((sg.map (·.1)).take (k+1)=(sg.map (·.1)).take k++ [gs[k].1]):=(show _=_ by
    rw[abE (by simpa using d)];simp[v])
   have bx:((sg.map (·.1)).take k).length=k:=zt;obtain⟨N,j,bB⟩:=dS M.row;rw[bB]at c1 an;have T:=u.out.rep.1.bC f;clear cc M v o HK D;generalize gs[k].1=n at*;generalize gs[k].2.2.length=rl at*;generalize da K (sg.take k)=Kk at*;generalize aB:da K (sg.take (k+1))=Kn at*;have bL:Hid _:=aB;clear aB;generalize (sg.map (·.1)).take k=nk at*;have a1:(k:Int)<(gs.length:Int):=zo;have a0:(0:Int)<=(k:Int):=zo;have m0:(0:Int)<=(n:Int):=zo;have m1:(n:Int)<64:=zo;have E:wr.cell? (.a b (1+n))=some (.map (some (bm n))):=by rw[acV];exact T
   clear T;obtain⟨W1,O⟩: ∃W,W=wr.alloc (.cells #[.i n,.slice N rl j] 220):=⟨_,rfl⟩
   have P:Below wr wr W1:=by rw[O];exact zj.alloc zf _
   have aq:W1.heap[wr.heap.size]?=.c #[.i n,.slice N rl j] 220:=by rw[O];exact By wr _
   have cs1:=aX E P;have b7:=abc bp u.out.fr.size;have bN:Hid (Calls aC.prog 140 #[.map (some (bm n)),.slice N rl j] W1.drew λe w2=>e=.r (.tuple #[])/\lP w b num kind bm (.l g gs.length cap) Kn nk u5 w2/\w2.heap[wr.heap.size]?=.c #[.i n,.slice N rl j] 220):=by
    refine(an.out W1.drew P.drew).mono ?_;rintro e w2 ⟨he,bR,aE⟩;refine⟨he,(u.out.below P.drew).join f bR aE,aE.heap (w:=W1.drew) aq λe=>?_⟩;obtain⟨es,clock,hm,_⟩:=u.out.rep.2.1 n f
    have:=(IN.1 hm).1;omega
   have cW:=(aH aq).1;have b8:=cW 0;have b9:=cW 1;clear aq cW an u P E;go_upto_region 5 with fail;rw[<-O];clear O;go_region_with (first|(go_at_call 140;refine AI bN.out ?_;rintro e w2 ⟨rfl,aT,a6⟩;have F:Hid _:=aT;have ca:=(aH a6).1 0;clear aT a6))
   all_goals
    obtain⟨a7,U,rfl⟩:=dS F.out.row;have cb:=F.out.fr.size;have b2:=(IN.1 F.out.box).1;have x:Hid ((w2.alloc (.cells #[.i n] 3)).ownsRow w 3 1 (.slice a7 nk.length U) nk.length (nk.map λ(n:Nat)=>Value.int .i64 (n:Int))):=aaV F.out.row _;go_wp2_with (at_builtin;refine kj _ rfl _ _ _ rfl w 3 i0 _ 1 8 aC.underlying180 bb bc bd bn rfl zo (.slice a7 nk.length U) _ _ rfl x.out (.a w2 0) 1 1 _ rfl (by rfl) (aaT (By w2 _)) zv zo ze zo zt ?_;intro g7 b3 w7 G V;have bT:Hid _:=G;have H:Hid _:=V;clear G V)
    refine⟨⟨k+1,zo,by go_num,?_⟩,zi⟩;have I:=F.out.below (zj.alloc zf (.cells #[.i n] 3));rw[bL.out,bs.out];show lP _ _ _ _ _ _ _ _ _ _;refine⟨H.out.other x.out I.box zd,I.rep.de ?_ ?_ ?_,?_,(by have:=fi.snoc bT.out;rw[bx]at this;exact this)⟩
    .obtain⟨⟨A,hA,_⟩,_⟩:=I.rep;rw[hA];exact H.out.other x.out hA zd
    .intro m hm;obtain⟨es,clock,he,_⟩:=I.rep.2.1 m hm;rw[he];exact H.out.map x.out he
    .intro q _ ⟨z,hc⟩;rw[hc];exact H.out.other x.out hc zd
    .exact I.fr.grown H.out.1 λq e L=>by have:=mF x.out e;omega
  .obtain rfl:k=gs.length:=zo;have J:Hid _:=(by
    have:=u.out;have y:=av.out;rw[y,abF,show(sg.map (·.1)).take sg.length=sg.map (·.1) from acK zp]at this;rw[<-y]at this;exact this)
   clear u;have c0:=(aH J.out.box).1 0;rcases a8 with rfl|rfl
   .have HT:Hid _:=J.out.tell o.out (Z.out wr J.out.rep);clear Z HK o HS;go_wp2_with (go_at_call 139;refine AI HT.out ?_;rintro e w9 ⟨rfl,bZ,b0⟩)
    go_ret;exact⟨zp,bZ,b0⟩
   .clear Z HK o HS;go_wp2;go_ret;exact⟨zp,J.out.rep,J.out.fr⟩
def vA(K:aL):Let->aL
 |.bS _ sg=>da K sg
 |_=>K
def y8(w w':af)(bm:Nat->Nat)(K:aL):Let->Option Let
 |.root d=>nX w bm K d
 |.nodes lev sg=>oB w bm K lev sg
 |.bS kind sg=>if kind=84 then none else some (.bS 84 (dO w' bm (da K sg) (sg.map (·.1))))
structure yg(b num:Nat)(bm:Nat->Nat)(K:aL)(w:af)(L:Let):Prop where
 rep:aV w b bm num K
 qj:gi w bm K
 fit:Fit K
 ok:L.Ok
 out:∀W,aV W b bm num K->∀ns:List Nat,ns.Pairwise (· < ·)->(∀n∈ns,n<64)->(Let.bS 83 (dO W bm K ns)).bytes.size<=140737488355328
 bS:∀kind sg,L=.bS kind sg->∀W,aV W b bm num (da K sg)->gi W bm (da K sg)/\(Let.bS 84 (dO W bm (da K sg) (sg.map (·.1)))).bytes.size<=140737488355328
theorem Y8{num:Nat}(h:aV w b bm num K)(hb:Below w w W)(d:Int):nX W bm K d=nX w bm K d:=by
 unfold nX;rw[uF h hb zo zd,vM h hb zo zp]
theorem Si{num:Nat}(h:aV w b bm num K)(hb:Below w w W)(hl:lev<3)(a:∀g∈sg,g.1<4 ^ lev):bV (cC W bm K (lev+1)) sg=bV (cC w bm K (lev+1)) sg:=by
 have c:∀g∈sg,dI (cC W bm K (lev+1)) g 4=dI (cC w bm K (lev+1)) g 4:=λg c=>by
  unfold dI;congr 1;refine List.filter_congr λj hj=>?_
  have:=a g c;have d:=ace.1 hj;rw[uF h hb zo zo]
 exact xW sg c
theorem WQ{num:Nat}(h:aV w b bm num K)(hb:Below w w W)(a:∀n∈ns,n<64):dO W bm K ns=dO w bm K ns:=
 aci λn c=>by rw[yY (hb.block _ (h.2.1 n (a n c)).lt)]
theorem O1{num:Nat}(h:aV w b bm num K)(hb:Below w w W)(hl:lev<3)(a:∀g∈sg,g.1<4 ^ lev):oB W bm K lev sg=oB w bm K lev sg:=by
 have d:=vq (D:=cC w bm K (lev+1)) a;unfold oB;rw[Si h hb hl a];by_cases e:bV (cC w bm K (lev+1)) sg= []
 .grind
 .rw[AT e,AT e];by_cases c:lev=2
  .subst c;rw[BY rfl,BY rfl,WQ h hb λn f=>d n f]
  .rw[AT c,AT c,vM h hb zo d]
theorem Th(W:af)(v:ag):(Instr.typeAssert (.iface 104 v) 133 104 true).run aC.prog W=.ok (.tuple #[v,.bool true]) W:=zk
theorem Wl(W:af)(v:ag):(Instr.typeAssert (.iface 167 v) 133 104 true).run aC.prog W=.ok (.tuple #[.agg #[.int .u64 0],.bool false]) W:=zk
theorem aaf(W:af)(v:ag):(Instr.typeAssert (.iface 167 v) 133 167 true).run aC.prog W=.ok (.tuple #[v,.bool true]) W:=zk
theorem YE(W:af)(v:ag):(Instr.typeAssert (.iface 171 v) 133 104 true).run aC.prog W=.ok (.tuple #[.agg #[.int .u64 0],.bool false]) W:=zk
theorem Ob(W:af)(v:ag):(Instr.typeAssert (.iface 171 v) 133 167 true).run aC.prog W=.ok (.tuple #[.agg #[.i 0,.slice none 0 0],.bool false]) W:=zk
theorem WR(W:af)(v:ag):(Instr.typeAssert (.iface 171 v) 133 171 true).run aC.prog W=.ok (.tuple #[v,.bool true]) W:=zk
theorem Vn(b:Nat)(d:Int)(R:ah)(w:af)(P:af->Prop)(c:∀W,Below w w W->Calls aC.prog 104 #[.p b,.agg #[.int .u64 d]] W λe w'=>e=.r (.s R)/\P w'):
  Calls aC.prog 79 #[.p b,.iface 104 (.agg #[.int .u64 d])] w λe w'=>e=.r (.s R)/\P w':=by
 have f:Hid _:=c;clear c;have a:=Th;go_enter aC.func79,aC.ntmps79;go_wp2_with (go_at_call 104;refine AI (f.out _ (zj.alloc zf _)) ?_;rintro e w2 ⟨rfl,g⟩)
 go_ret;exact⟨rfl,g⟩
theorem TB(b lev len cap:Nat)(ad:Option Addr)(R:ah)(w:af)(P:af->Prop)(d:∀W,Below w w W->Calls aC.prog 105 #[.p b,.agg #[.i lev,.slice ad len cap]] W λe w'=>e=.r (.s R)/\P w'):
  Calls aC.prog 79 #[.p b,.iface 167 (.agg #[.i lev,.slice ad len cap])] w λe w'=>e=.r (.s R)/\P w':=by
 have f:Hid _:=d;clear d;have a:=Wl;have c:=aaf;go_enter aC.func79,aC.ntmps79;go_wp2_with (go_at_call 105;refine AI (f.out _ (zj.alloc zf _)) ?_;rintro e w2 ⟨rfl,g⟩)
 go_ret;exact⟨rfl,g⟩
theorem R5(b kind len cap:Nat)(ad:Option Addr)(P:Ending->af->Prop)(w:af)(f:∀W,Below w w W->Calls aC.prog 106 #[.p b,.agg #[.int .u8 kind,.slice ad len cap]] W λe w'=>∃R,e=.r (.s R)/\P e w'):
  Calls aC.prog 79 #[.p b,.iface 171 (.agg #[.int .u8 kind,.slice ad len cap])] w λe w'=>∃R,e=.r (.s R)/\P e w':=by
 have g:Hid _:=f;clear f;have a:=YE;have c:=Ob;have d:=WR;go_enter aC.func79,aC.ntmps79;go_wp2_with (go_at_call 106;refine AI (g.out _ (zj.alloc zf _)) ?_;rintro e w2 ⟨R,rfl,h⟩)
 go_ret;exact⟨R,rfl,h⟩
def Iw(b num:Nat)(bm:Nat->Nat)(K:aL)(w:af)(L:Let)(R:ah)(w':af):Prop:=
 R=iE (y8 w w' bm K L)/\aV w' b bm num (vA K L)/\Fr (λq=>pN bm q/\∃k sg,L=.bS k sg) w w'
theorem Ta(b num:Nat)(bm:Nat->Nat)(K:aL)(L:Let)(v:ag)(w0 w:af)(h:yg b num bm K w0 L)(hv:Av w0 w v L)(hb:Below w0 w0 w):
  Calls aC.prog 79 #[.p b,v] w λe w'=>∃R,e=.r (.s R)/\Iw b num bm K w0 L R w':=by
 cases L with
 |root d=>
  obtain rfl:=hv;refine(Vn b d (iE (nX w0 bm K d)) w (λw'=>Below w0 w0 w') λW f=>?_).mono ?_
  .have a:=bk hb f
   have:=Qs b num bm K d W (h.rep.below a) (h.qj.below h.rep a);rw[Y8 h.rep a]at this;exact this.mono λe w' ⟨c,g⟩=>⟨c,bk a g⟩
  .rintro e w' ⟨rfl,a⟩;exact⟨_,rfl,rfl,h.rep.below a,Fr.cQ a⟩
 |nodes lev sg=>
  obtain⟨lv,rfl,aT⟩:=hv;obtain⟨ad,cap,rfl⟩:=dS aT;have i:=h.ok;refine(TB b lev _ cap ad (iE (oB w0 bm K lev sg)) w (λw'=>Below w0 w0 w') λW f=>?_).mono ?_
  .have a:=bk hb f
   have:=NQ b num lev w0 bm K _ sg W (h.rep.below a) (h.qj.below h.rep a) (bH aT f zf) i.low i.len.2 i.num i.l8 (h.out W (h.rep.below a));rw[O1 h.rep a i.low i.num]at this;exact this.mono λe w' ⟨c,g⟩=>⟨c,bk a g⟩
  .rintro e w' ⟨rfl,a⟩;exact⟨_,rfl,rfl,h.rep.below a,Fr.cQ a⟩
 |bS kind sg=>
  obtain⟨lv,gs,rfl,u⟩:=hv;obtain⟨ad,cap,rfl⟩:=dS u.row;obtain⟨k,m⟩:=h.ok;have x:=h.bS kind sg rfl;refine(R5 b kind _ cap ad (λe w'=>e=.r (.s (if kind=84 then ⟨#[]⟩ else (Let.bS 84 (dO w' bm (da K sg) (sg.map (·.1)))).bytes))/\aV w' b bm num (da K sg)/\Fr (pN bm) w0 w') w λW f=>?_).mono ?_
  .have a:=bk hb f;refine(R7 b num kind bm K _ gs sg w0 W (h.rep.below a) (u.de (T:=λ_=>True) (bA.below f) trivial trivial trivial) m h.fit k x).mono ?_;rintro e w' ⟨rfl,n,o⟩;exact⟨_,rfl,rfl,n,(Fr.cQ a).trans o⟩
  .rintro e w' ⟨R,rfl,c,n,o⟩;refine⟨_,rfl,?_,n,o.weaken λq y=>⟨y,kind,sg,rfl⟩⟩;injection c with c;injection c with c;rw[c,y8];by_cases j:kind=84
   .rw[BY j,BY j];rfl
   .rw[AT j,AT j];rfl
theorem N7(b:Nat)(T:ah)(w:af)(c:T.size<=140737488355328)(h:dZ T=none):
  Calls aC.prog 56 #[.p b,.s T] w λe w'=>e=.r (.tuple #[.s ⟨#[]⟩,.i 8])/\Below w w w':=by
 have a:Hid (Calls aC.prog 78 #[.s T] w λe w'=>e=.r (.tuple #[.nilIface,.i 8])/\Below w w w'):=(by have:=Kf T w c;rw[h]at this;exact this)
 clear h;go_enter aC.func56,aC.ntmps56;go_wp2_with (go_at_call 78;refine AI a.out ?_;rintro e w1 ⟨rfl,hb⟩)
 go_ret2;exact⟨rfl,hb⟩
theorem PX(b num:Nat)(bm:Nat->Nat)(K:aL)(T:ah)(L:Let)(w:af)(d:T.size<=140737488355328)(c:dZ T=some L)(h:yg b num bm K w L):
  Calls aC.prog 56 #[.p b,.s T] w λe w'=>∃R,e=.r (.tuple #[.s R,.i 0])/\Iw b num bm K w L R w':=by
 have a:Hid (Calls aC.prog 78 #[.s T] w λe w'=>(∃v,e=.r (.tuple #[v,.i 0])/\Av w w' v L)/\Below w w w'):=(by have:=Kf T w d;rw[c]at this;exact this)
 have f:Hid _:=λW v hv hb=>Ta b num bm K L v w W h hv hb;clear h c;go_enter aC.func56,aC.ntmps56;go_wp2_with (first
  |(go_at_call 78;refine AI a.out ?_;rintro e w1 ⟨⟨v,rfl,hl⟩,hb⟩)
  |(go_at_call 79;refine AI (f.out _ _ hl hb) ?_;rintro e w2 ⟨R,rfl,g⟩))
 go_ret2;exact⟨R,rfl,g⟩
end Go.Proofs.YtldmcdeibiclkaaGreatQ
namespace Go.Proofs.YtldmcdeibiclkaaGreatQ
variable {ns:List Nat}{lev:Nat}
section
def gK(K:aL)(ns:List Nat):List (Nat×List aJ):=ns.map λn=>(n,fq K n)
def j6(K:aL)(lev:Nat)(ns:List Nat):List Nd:=ns.map λn=>(n,λi=>if i<4 then ed K (lev+1) (n*4+i) else 0)
section
variable {w:af}{b num:Nat}{bm:Nat->Nat}{K:aL}
theorem aV.bS(h:aV w b bm num K)(a:∀n∈ns,n<64):dO w bm K ns=gK K ns:=
 aci λn c=>by rw[zD (h.2.1 n (a n c))]
theorem aV.nodes(h:aV w b bm num K)(hl:lev<3)(a:∀n∈ns,n<4 ^ lev):iC w bm K lev ns=j6 K lev ns:=by
 refine aci λn c=>?_;congr 1;funext i;unfold kids
 have:=a n c;split
 .exact h.uT zo zo
 .rfl
theorem aV.bV(h:aV w b bm num K)(hl:lev<3){sg:List Nd}(a:∀g∈sg,g.1<4 ^ lev):bV (cC w bm K (lev+1)) sg=bV (ed K (lev+1)) sg:=by
 have c:∀g∈sg,dI (cC w bm K (lev+1)) g 4=dI (ed K (lev+1)) g 4:=λg c=>by
  unfold dI;congr 1;refine List.filter_congr λj hj=>?_
  have:=a g c;have d:=ace.1 hj;rw[h.uT zo zo]
 exact xW sg c
end
def j5(K:aL):Let->Option Let
 |.root d=>if d=ed K 0 0 then none else some (.nodes 0 (j6 K 0 [0]))
 |.nodes lev sg=>if bV (ed K (lev+1)) sg= [] then none else if lev=2 then some (.bS 83 (gK K (bV (ed K (lev+1)) sg))) else some (.nodes (lev+1) (j6 K (lev+1) (bV (ed K (lev+1)) sg)))
 |.bS kind sg=>if kind=84 then none else some (.bS 84 (gK (da K sg) (sg.map (·.1))))
theorem Y3{w w':af}{b num:Nat}{bm:Nat->Nat}{K:aL}{L:Let}(h:aV w b bm num K)(k:aV w' b bm num (vA K L))(c:L.Ok):y8 w w' bm K L=j5 K L:=by
 cases L with
 |root d=>
  show nX w bm K d=_;simp only[nX,j5];rw[h.uT zo zd,h.nodes zo zp]
 |nodes lev sg=>
  have f:=c;have a:=f.num;have hl:=f.low;have i:=vq (D:=ed K (lev+1)) a;show oB w bm K lev sg=_;simp only[oB,j5];rw[h.bV hl a];by_cases j:bV (ed K (lev+1)) sg= []
  .grind
  .rw[AT j,AT j];by_cases e:lev=2
   .subst e;rw[BY rfl,BY rfl,h.bS λn a=>i n a]
   .rw[AT e,AT e,h.nodes zo i]
 |bS kind sg=>
  show(if kind=84 then none else some (Let.bS 84 (dO w' bm (da K sg) (sg.map (·.1)))))=_;simp only[j5];rw[aV.bS (K:=da K sg) k λn a=>?_];obtain⟨g,m,rfl⟩:=aaW.1 a;exact(c.2.num g m).1
theorem OL(b num:Nat)(bm:Nat->Nat)(K:aL)(T:ah)(L:Let)(w:af)(c:T.size<=140737488355328)(d:dZ T=some L)(h:yg b num bm K w L):
  Calls aC.prog 56 #[.p b,.s T] w λe w'=>e=.r (.tuple #[.s (iE (j5 K L)),.i 0])/\aV w' b bm num (vA K L)/\Fr (λq=>pN bm q/\∃k sg,L=.bS k sg) w w':=by
 refine(PX b num bm K T L w c d h).mono ?_;rintro e w' ⟨R,rfl,rfl,a,f⟩;exact⟨by rw[Y3 h.rep a h.ok],a,f⟩
end
end Go.Proofs.YtldmcdeibiclkaaGreatQ
namespace Go.Proofs.YtldmcdeibiclkaaGreatQ
variable {w1 w2:af}{xs:ae}
open Go.RowKit
section
open Go.Lib (strCells)
def jz(w:af)(b:Nat)(S:ah)(r:RS):Prop:=∃i:Nat,w.heap[b]?=.c #[.s S,.i i,.bool r.2] 139/\i<=S.size/\r.1=S.extract i S.size/\S.size<=140737488355328
def Lk(w w':af)(b:Nat)(S:ah)(r:RS):Prop:=jz w' b S r/\Fr (λk=>k=b) w w'
def Lk.trans{w:af}{b:Nat}{S:ah}{s t:RS}(h:Lk w w1 b S s)(a:Lk w1 w2 b S t):Lk w w2 b S t:=⟨a.1,h.2.trans a.2⟩
theorem jz.lt{w:af}{b:Nat}{S:ah}{s:RS}(h:jz w b S s):b<w:=by obtain⟨i,h,_⟩:=h;grind
theorem jz.below{w:af}{b:Nat}{S:ah}{s:RS}(h:jz w b S s)(hb:Below w w w1):jz w1 b S s:=by obtain⟨i,h,a⟩:=h;exact⟨i,bj h hb,a⟩
def Lk.below{w:af}{b:Nat}{S:ah}{s:RS}(h:Lk w w1 b S s)(hb:Below w1 w1 w2):Lk w w2 b S s:=⟨h.1.below hb,h.2.below hb⟩
def Lk.refl{w:af}{b:Nat}{S:ah}{s:RS}(h:jz w b S s):Lk w w b S s:=⟨h,Fr.refl _ w⟩
def Lk.other{w:af}{b k:Nat}{S:ah}{s:RS}{o:Obj}(h:Lk w w1 b S s)(a:w.heap[k]?=some o)(c:k≠b):w1.heap[k]?=some o:=h.2.heap a c
theorem Lk.setCell{w:af}{b k o:Nat}{S:ah}{s:RS}(h:Lk w w1 b S s)(c:w<=k/\k≠b)(v:ag):Lk w (w1.setCell (.a k o) v) b S s:=by
 obtain⟨⟨i,d,e⟩,f⟩:=h;exact⟨⟨i,by rw[aaS _ _ _ _ (Ne.symm c.2)];exact d,e⟩,f.setCell (.inl c.1) v⟩
theorem Lk.bad{w:af}{b:Nat}{S:ah}{r:RS}(h:jz w b S r):Lk w (w.setCell (.a b 2) (.bool true)) b S (r.1,true):=by
 obtain⟨i,c,d⟩:=h;refine⟨⟨i,?_,d⟩,(Fr.refl (λk=>k=b) w).setCell (.inr rfl) _⟩
 have:=heap_set (w:=w) (o:=2) (v:=.bool true) c;simpa using this
def nH(n:Nat):ByteArray:=⟨Array.replicate n 0⟩
theorem Du(n:Nat):(nH n).size=n:=by simp[nH,ByteArray.size]
theorem He(n:Nat):∀k,dL (nH n) k=0
 |0=>rfl
 |k+1=>by
  rw[dL,He n k];unfold kB;split
  .simp[nH,ByteArray.getElem_eq_getElem_data]
  .rfl
def fZ(n:Nat)(r:RS):ByteArray:=if r.2=true\/r.1.size<n then nH n else r.1.extract 0 n
theorem wY(n:Nat)(r:RS):(fZ n r).size=n:=by
 unfold fZ;split
 .exact Du n
 simp_all
theorem vj{n:Nat}{r:RS}(h:(cT n r).2.2=false):fZ n r=(cT n r).1:=by
 unfold cT at*;unfold fZ;grind
theorem Sr(n:Nat)(r:RS):dL (fZ n r) n=((aF n r).1:Int):=by
 have a:dL (fZ n r) n=be (cT n r).1:=by
  unfold fZ cT;split
  .rw[He];rfl
  .rw[be,acO];congr 1;omega
 rw[a];exact(Int.toNat_of_nonneg (sF _ _).1).symm
theorem Z3(n:Nat):(madeCells (Value.int .u8 0).cells (n*1)).toList=strCells (nH n):=by
 simp[madeCells,strCells,nH,Value.cells,Nat.mod_one];exact List.eq_replicate_iff.2 ⟨zp,λb hb=>zg⟩
theorem JR(n:Nat)(j:n<=256)(W:af):(Instr.makeSlice 124 (.i n) (.i n)).run aC.prog W=.ok (.l W n n) (W.alloc (.cells (madeCells (Value.int .u8 0).cells (n*1)) 5))/\(convert 124 9 (.l W n n)).run aC.prog (W.alloc (.cells (madeCells (Value.int .u8 0).cells (n*1)) 5))=.ok (.s (nH n)) (W.alloc (.cells (madeCells (Value.int .u8 0).cells (n*1)) 5)):=by
 obtain⟨h,c,d,f,g⟩:=aaY aC.ri;have a:=run_make (P:=aC.prog) W 124 5 h _ aC.underlying124 c d .i64 .i64 n n zo zo (by rw[g];omega) zo;rw[f]at a;simp only[Int.toNat_natCast]at a;refine⟨a,sx (B:=0) ?_⟩
 have:=World.ownsRow_lit (base:=0) (size:=1) (e:=5) W _ n (aaZ _) ze (size_madeCells (Value.int .u8 0).cells (n*1));rw[Z3]at this;unfold bF;rw[Du];exact this
theorem Cl(b n:Nat)(S:ah)(r:RS)(w:af)(h:jz w b S r)(m:n<=256):
  Calls aC.prog 107 #[.pointer (some ⟨b,0,none⟩),.int .i64 n] w λe w'=>e=.returned (.string (fZ n r))/\Lk w w' b S (cT n r).2:=by
 have g:Hid (∀q o,Lk w (((w.drewN q).setCell ⟨b,2,none⟩ (.bool true)).alloc o) b S (r.1,true)):=λq o=>(((Lk.refl h).below (abg zj q)).trans (Lk.bad (h.below (abg zj q)))).below (zj.alloc zf _);obtain⟨i,d,G,p,x⟩:=h;obtain⟨s,q⟩:=r;simp only at d p g;subst p;obtain⟨c,f⟩:=aH d;have c0:=c 0;have c1:=c 1;have c2:=c 2;have hs:(S.extract i S.size).size=S.size-i:=by rw[acO];omega
 have a1:(i:Int)<=(S.size:Int):=zo;have a2:(S.size:Int)<=140737488355328:=zo;have a0:(0:Int)<=(i:Int):=zo;have n0:(0:Int)<=(n:Int):=zo;have H:(n:Int)<=256:=zo;have y:Hid _:=d;have z:=λW=>(JR n m W).1;have hcv:∀(W:af) B,W.heap.size=B->(convert 124 9 (.slice (some ⟨B,0,none⟩) n n)).run aC.prog (W.alloc (.cells (madeCells #[.int .u8 0] n) 5))=.ok (.string (nH n)) (W.alloc (.cells (madeCells #[.int .u8 0] n) 5)):=λW B C=>by
  subst C
  have:=(JR n m W).2;rwa [Nat.mul_one]at this
 go_enter aC.func107,aC.ntmps107;cases q
 .by_cases D:(S.size:Int)-(i:Int)<(n:Int)
  .have a:(S.extract i S.size,false).2=true\/(S.extract i S.size,false).1.size<n:=.inr (by simp only[hs];omega);rw[mg a,fZ,BY a];clear a d;go_upto_region 1 with fail;go_quiet (fail);go_wp2;go_ret;exact⟨rfl,g.out _ _⟩
  .have a: ¬((S.extract i S.size,false).2=true\/(S.extract i S.size,false).1.size<n):=by simp only[hs];simp;omega
   rw[fZ,AT a,mA zo];have u:Hid ((S.extract i S.size).extract 0 n=S.extract i (i+n)/\(S.extract i S.size).extract n (S.extract i S.size).size=S.extract (i+n) S.size):=⟨by rw[ByteArray.extract_extract];congr 1;omega,by rw[hs,ByteArray.extract_extract];congr 1;omega⟩
   have E:Hid (∀q j,Lk w (((w.drewN q).setCell ⟨b,1,none⟩ (.int .i64 ((i:Int)+(n:Int)))).drewN j) b S (S.extract (i+n) S.size,false)):=λq j=>by
    have hb:=abg (aaP w.heap.size w) q;have F:=heap_set (w:=w.drewN q) (o:=1) (v:=.int .i64 ((i:Int)+(n:Int))) (bj y.out hb);refine Lk.below ⟨⟨i+n,by simpa using F,zo,rfl,x⟩,((Fr.refl (λk=>k=b) w).below hb).setCell (.inr rfl) _⟩ (abg zj j)
   simp only;rw[u.out.1,u.out.2];have I:(0:Int)<=(i:Int)+(n:Int):=zo;have J:(i:Int)+(n:Int)<=(S.size:Int):=zo;have L:((i:Int)+(n:Int))-(n:Int)=(i:Int):=zo;clear a d;go_upto_region 1 with fail;go_quiet (fail);go_upto_region 5 with fail;go_quiet (fail);go_wp2;go_ret;exact⟨rfl,E.out _ _⟩
 .have a:(S.extract i S.size,true).2=true\/(S.extract i S.size,true).1.size<n:=.inl rfl;rw[mg a,fZ,BY a];clear a d;go_upto_region 1 with fail;go_quiet (fail);go_wp2;go_ret;exact⟨rfl,g.out _ _⟩
theorem B7(b n:Nat)(S:ah)(r:RS)(w:af)(h:jz w b S r)(u:n<=4):
  Calls aC.prog 80 #[.p b,.i n] w λe w'=>e=.r (.i (aF n r).1)/\Lk w w' b S (aF n r).2:=by
 have g:Hid (Calls aC.prog 107 #[.p b,.i n] w λe w'=>e=.r (.s (fZ n r))/\Lk w w' b S (aF n r).2):=Cl b n S r w h zo;have x:=wY n r;have k:=zu (Sr n r);generalize fZ n r=p at*;generalize (aF n r).1=v at*;generalize (aF n r).2=r' at*;clear h;go_enter aC.func80,aC.ntmps80;go_wp2_with (go_at_call 107;refine g.out.mono ?_;rintro e w' ⟨rfl,f⟩;have m:=zu f;clear f)
 go_loop [6,7] (λd i=>∃j:Nat,j<=n/\i=.i j/\d=.i (dL p j)) (λ_ i=>n-(intOf i).toNat)
 case atStart=>exact⟨0,zo,rfl,rfl⟩
 case round=>
  obtain⟨j,hj,rfl,rfl⟩:=hrel;by_cases o:j<n
  .have g1:(j:Int)<(n:Int):=zo;have a:j<p.size:=zo;have c:Hid (dL p (j+1)=dL p j*256+(p[j].toNat:Int)):=by
    show dL p (j+1)=_;rw[dL,sA p j a]
   have g0:(0:Int)<=(j:Int):=zo;have hb:=zW p (show j<=3 by omega);have y:=p[j].toNat_lt;go_wp2;refine⟨⟨j+1,zo,by go_num,?_⟩,zi⟩;rw[c.out];congr 1;go_num
  .obtain rfl:j=n:=zo;have q:=k.out;go_wp2;go_ret;exact⟨rfl,m.out⟩
end
section
def mP(r:RS):ByteArray:=fZ (aF 1 r).1 (aF 1 r).2
def kU(bC:Nat)(r:RS):RS:=ba (bq (mP r)&&decide (aZ (mP r)=bC)) (bX r).2
def lu(c:Ctx):Bool:=decide (c 0=0/\c 1=0/\c 2=0/\c 3=0)
def rp(r:RS):RS:=ba (cR (rC r)&&!(decide ((aF 4 (cH 4 r)).1=0)&&lu (rC r))) (aF 4 (cH 4 r)).2
def CE(r:RS):Nat:=(aF 1 (aF 4 (aF 1 r).2).2).1
def oP(r:RS):Bool:=decide (3<(bE r).1.rep\/(bE r).1.n<1\/12<CE r\/(bE r).2.2=true)
def jI(l:List aG)(v:aG):Bool:=match l.getLast? with
 |none=>true
 |some u=>bf u v
def ia(c:Ctx):Nat->List aG×RS->List aG×RS
 |0,x=>x
 |n+1,x=>if x.2.2=true then x else if oP x.2=true then (x.1,((bE x.2).2.1,true)) else ia c n (x.1++ [(bE x.2).1],ba (gT c (bE x.2).1&&jI x.1 (bE x.2).1) (bE x.2).2)
theorem xh(c:Ctx)(n:Nat){x:List aG×RS}(h:x.2.2=true):ia c n x=x:=by
 cases n with
 |zero=>rfl
 |succ n=>rw[ia,BY h]
def dK(bC:Nat)(r:RS):(ah×Ctx×List aG)×RS:=((mP r,rC (kU bC r),(ia (rC (kU bC r)) (aF 4 (cH 4 (kU bC r))).1 ([],rp (kU bC r))).1),(ia (rC (kU bC r)) (aF 4 (cH 4 (kU bC r))).1 ([],rp (kU bC r))).2)
def dF(w wr:af)(b bo:Nat)(A:aa)(S:ah)(s:RS):Prop:=
 wr.heap[bo]?=.c A 82/\wr.heap[w.heap.size]?=.c #[.s ⟨#[]⟩,.i 0,.i 0,.i 0,.i 0,.slice none 0 0] 82/\Lk w wr b S s
section
variable {w wr w':af}{b bo:Nat}{A:aa}{S:ah}{s t:RS}
theorem dF.lk(h:dF w wr b bo A S s)(a:Lk wr w' b S t)(hb:b<w/\w<bo):dF w w' b bo A S t:=
 ⟨a.other h.1 zo,a.other h.2.1 zo,h.2.2.trans a⟩
def dF.below(h:dF w wr b bo A S s)(hb:Below wr wr w'):dF w w' b bo A S s:=⟨bj h.1 hb,bj h.2.1 hb,h.2.2.below hb⟩
def dF.bad(h:dF w wr b bo A S s)(hb:b<w/\w<bo):dF w (wr.setCell (.a b 2) (.bool true)) b bo A S (s.1,true):=h.lk (Lk.bad h.2.2.1) hb
theorem dF.set(h:dF w wr b bo A S s)(hb:b<w/\w<bo)(o:Nat)(v:ag):dF w (wr.setCell (.a bo o) v) b bo (A.setIfInBounds o v) S s:=
 ⟨heap_set h.1,by rw[aaS _ _ _ _ (by show _≠bo;omega)];exact h.2.1,h.2.2.setCell ⟨zo,zo⟩ v⟩
theorem dF.look(h:dF w wr b bo A S s): ∃i:Nat,wr.cell? (.a b 2)=some (.bool s.2)/\wr.frozen? (.a b 2)=false/\i=i:=by
 obtain⟨i,c,_⟩:=h.2.2.1;exact⟨i,(aH c).1 2,(aH c).2 2,rfl⟩
end
theorem dF.fin{w W:af}{b bo n:Nat}{S nm:ah}{c:Ctx}{sv:ag}{s:RS}(h:dF w W b bo (.q nm c sv) S s)(f:W.ownsRow w 88 3 sv n xs)(hb:b<w):∀w',w'=((((((W.setCell (.a w 0) (.s nm)).setCell (.a w 1) (.i (c 0))).setCell (.a w 2) (.i (c 1))).setCell (.a w 3) (.i (c 2))).setCell (.a w 4) (.i (c 3))).setCell (.a w 5) sv)->w'.ownsRow w 88 3 sv n xs/\Lk w w' b S s:=λw' e=>by
 subst e;have d:w<=w.heap.size/\w≠b:=⟨aba _,zo⟩
 exact⟨dy (dy (dy (dy (dy (dy f h.2.1 zd _ _) (heap_set h.2.1) zd _ _) (heap_set (heap_set h.2.1)) zd _ _) (heap_set (heap_set (heap_set h.2.1))) zd _ _) (heap_set (heap_set (heap_set (heap_set h.2.1)))) zd _ _) (heap_set (heap_set (heap_set (heap_set (heap_set h.2.1))))) zd _ _,(((((h.2.2.setCell d _).setCell d _).setCell d _).setCell d _).setCell d _).setCell d _⟩
theorem dF.grownBy{w wr:af}{b bo size n:Nat}{A:aa}{S:ah}{s:RS}{e:ak}{v:ag}(h:dF w wr b bo A S s)(a:wr.ownsRow w e size v n xs)(c:wr.grownBy w1 v.ownBlock)(h1:82≠e)(d:139≠e):dF w w1 b bo A S s:=by
 obtain⟨i,hi,f⟩:=h.2.2.1;exact⟨jQ c a h.1 h1,jQ c a h.2.1 h1,⟨i,jQ c a hi d,f⟩,h.2.2.2.grown c λk g j=>by
  have:=mF a g;omega⟩
structure gb(w W:af)(b bo bv:Nat)(A B:aa)(S:ah)(sv:ag)(l:List aG)(s:RS):Prop where
 ky:dF w W b bo A S s
 vb:W.heap[bv]?=.c B 88
 row:W.ownsRow w 88 3 sv l.length (aQ l)
 iR:∀q,sv.ownBlock=some q->q<bv
 ne:b<w/\w<bo/\bo<bv
section
variable {w W W':af}{b bo bv:Nat}{A B:aa}{S:ah}{sv:ag}{l:List aG}{s t:RS}
theorem gb.lk(h:gb w W b bo bv A B S sv l s)(a:Lk W W' b S t):gb w W' b bo bv A B S sv l t:=
 have:=h.ne
 ⟨h.ky.lk a ⟨this.1,this.2.1⟩,a.other h.vb zo,nh h.row λq c hv=>a.2.block q c (by have:=mF h.row hv;omega),h.iR,h.ne⟩
theorem gb.below(h:gb w W b bo bv A B S sv l s)(hb:Below W W W'):gb w W' b bo bv A B S sv l s:=
 ⟨h.ky.below hb,bj h.vb hb,bH h.row hb zf,h.iR,h.ne⟩
theorem gb.set(h:gb w W b bo bv A B S sv l s)(o:Nat)(v:ag):gb w (W.setCell (.a bv o) v) b bo bv A (B.setIfInBounds o v) S sv l s:=
 have:=h.ne
 ⟨⟨by rw[aaS _ _ _ _ (by show bo≠bv;omega)];exact h.ky.1,by rw[aaS _ _ _ _ (by show _≠bv;omega)];exact h.ky.2.1,h.ky.2.2.setCell zo v⟩,heap_set h.vb,nh h.row λq c hv=>aaS _ _ _ _ (by have:=h.iR q hv;show q≠bv;omega),h.iR,h.ne⟩
def gb.bad(h:gb w W b bo bv A B S sv l s):gb w (W.setCell (.a b 2) (.bool true)) b bo bv A B S sv l (s.1,true):=h.lk (Lk.bad h.ky.2.2.1)
end
theorem aas(d:Nat)(W:af)(a b c e:Int):(Op.equalIn (d+2) 34 (.agg #[.i a,.i b,.i c,.i e]) (.agg #[.i 0,.i 0,.i 0,.i 0])).run aC.prog W=.ok (decide (a=0/\b=0/\c=0/\e=0)) W:=by
 have h:=aC.underlying3;have f:=aC.underlying34;have g:=aC.isAgg3;have j:=aC.sizeOf3;rw[Op.equalIn];simp only[abH,abW f,abY];go_simp;rw[show List.range' 0 4= [0,1,2,3] from rfl];simp only[List.forIn_cons,List.forIn_nil,abH,g,abY,abf,abd];by_cases k:a=0
 .by_cases hb:b=0
  .by_cases m:c=0
   .by_cases n:e=0
    .go_simp
    .go_simp
   .go_simp
  .go_simp
 .go_simp
theorem Rt(W:af)(c:Ctx):(binOp .eql 34 (.agg (.k c)) (.agg #[.i 0,.i 0,.i 0,.i 0])).run aC.prog W=.ok (.bool (lu c)) W:=by
 rw[run_eql_struct,show(10000:Nat)=9998+2 from rfl,aas];rfl
theorem TQ(b bC:Nat)(S:ah)(r0:RS)(w:af)(h:jz w b S r0)(et:bC<64):
  Calls aC.prog 108 #[.p b,.i bC] w λe w'=>∃sv,e=.r (.agg #[.s (dK bC r0).1.1,.i ((dK bC r0).1.2.1 0),.i ((dK bC r0).1.2.1 1),.i ((dK bC r0).1.2.1 2),.i ((dK bC r0).1.2.1 3),sv])/\w'.ownsRow w 88 3 sv (dK bC r0).1.2.2.length (aQ (dK bC r0).1.2.2)/\Lk w w' b S (dK bC r0).2:=by
 have bT:=h.lt;obtain⟨i0,di,dj,dk,dm⟩:=aaY aC.rJ;have y:=zu (λn W r hn m=>B7 b n S r W m hn);have bZ:=zu (λn W r hn m=>Cl b n S r W m hn);obtain⟨bo,b0⟩: ∃bo,w.heap.size+1=bo:=⟨_,rfl⟩
 have o:Hid (b<w/\w<bo):=(show _/\_ by omega)
 obtain⟨W0,T⟩: ∃W,W=((w.alloc (.cells #[.s ⟨#[]⟩,.i 0,.i 0,.i 0,.i 0,.slice none 0 0] 82)).alloc (.cells #[.s ⟨#[]⟩,.i 0,.i 0,.i 0,.i 0,.slice none 0 0] 82)):=⟨_,rfl⟩
 have aT:Hid (dF w W0 b bo #[.s ⟨#[]⟩,.i 0,.i 0,.i 0,.i 0,.slice none 0 0] S r0):=
  ⟨by rw[<-b0,T];exact mH w _ _,by rw[T,aaO _ _ _ zp];exact By w _,by rw[T];exact(Lk.refl h).below ((zj.alloc zf _).alloc zp _)⟩
 have eD:=iM 1 r0 zf;have dq:=wY (aF 1 r0).1 (aF 1 r0).2;have HA:Hid (Calls aC.prog 80 #[.p b,.i 1] W0 λe w'=>e=.r (.i (aF 1 r0).1)/\dF w w' b bo #[.s ⟨#[]⟩,.i 0,.i 0,.i 0,.i 0,.slice none 0 0] S (aF 1 r0).2):=(y.out 1 W0 r0 zo aT.out.2.2.1).mono λe w' ⟨E,G⟩=>⟨E,aT.out.lk G o.out⟩
 have HB:Hid (∀W,dF w W b bo #[.s ⟨#[]⟩,.i 0,.i 0,.i 0,.i 0,.slice none 0 0] S (aF 1 r0).2->Calls aC.prog 107 #[.p b,.i (aF 1 r0).1] W λe w'=>e=.r (.s (mP r0))/\dF w w' b bo #[.s ⟨#[]⟩,.i 0,.i 0,.i 0,.i 0,.slice none 0 0] S (bX r0).2):=λW m=>(bZ.out _ W _ zo m.2.2.1).mono λe w' ⟨E,G⟩=>⟨E,m.lk G o.out⟩
 rw[show fZ (aF 1 r0).1 (aF 1 r0).2=mP r0 from rfl]at dq;clear h aT;unfold dK;have ab:Hid (kU bC r0=ba (bq (mP r0)&&decide (aZ (mP r0)=bC)) (bX r0).2):=rfl;simp only;generalize kU bC r0=r1 at*;generalize mP r0=nm at*;generalize (bX r0).2=rb at*;have b4:nm.size<=maxLen:=ze;generalize (aF 1 r0).1=ln at*;generalize (aF 1 r0).2=ra at*;have HC:Hid (∀i W,dF w W b bo (recC nm (rC r1) i (.slice none 0 0)) S (cH i r1)->Calls aC.prog 80 #[.p b,.i 4] W λe w'=>e=.r (.i (rC r1 i))/\dF w w' b bo (recC nm (rC r1) i (.slice none 0 0)) S (cH (i+1) r1)):=λi W m=>(y.out 4 W _ zo m.2.2.1).mono λe w' ⟨E,G⟩=>⟨E,m.lk G o.out⟩
 have eR:=iM 4 (cH 4 r1) zf;have b5:Hid (∀W,dF w W b bo (recC nm (rC r1) 4 (.slice none 0 0)) S (cH 4 r1)->Calls aC.prog 80 #[.p b,.i 4] W λe w'=>e=.r (.i (aF 4 (cH 4 r1)).1)/\dF w w' b bo (recC nm (rC r1) 4 (.slice none 0 0)) S (aF 4 (cH 4 r1)).2):=λW m=>(y.out 4 W _ zo m.2.2.1).mono λe w' ⟨E,G⟩=>⟨E,m.lk G o.out⟩
 have a6:Hid (rp r1=ba (cR (rC r1)&&!(decide ((aF 4 (cH 4 r1)).1=0)&&lu (rC r1))) (aF 4 (cH 4 r1)).2):=rfl;generalize rp r1=r2 at*;generalize rC r1=c at*;generalize (aF 4 (cH 4 r1)).1=x at*;generalize (aF 4 (cH 4 r1)).2=rc at*;have HF:Hid (ia c x ([],r2)=ia c x ([],r2)):=rfl;generalize hF:ia c x ([],r2)=F at*;have b6:=zu hF;clear hF HF;have b7:=zu (λW=>xS nm W b4);have a7:=pY nm nm.size;have M:Hid (aZ nm=(ga nm%64).toNat/\ga nm=iU nm nm.size):=⟨rfl,rfl⟩
 go_enter aC.func108,aC.ntmps108;go_upto_region 4 with (first
  |(go_at_call 80;rw[<-T];refine HA.out.mono ?_;rintro e w1 ⟨rfl,dt⟩)
  |(go_at_call 107;refine(HB.out _ dt).mono ?_;rintro e w2 ⟨rfl,H⟩;obtain⟨cb,fb⟩:=aH H.1;have an:=hid H;clear H))
 have N:Hid (dF w (w2.setCell (.a bo 0) (.s nm)) b bo (recC nm c 0 (.slice none 0 0)) S rb):=(by have:=an.out.set o.out 0 (.s nm);exact hid (by simpa[recC,gx] using this))
 obtain⟨W3,b8⟩: ∃W,W=w2.setCell (.a bo 0) (.s nm):=⟨_,rfl⟩
 rw[<-b8]at N ⊢;clear b8 an cb fb HA HB T b0;obtain⟨c3,f3⟩:=aH N.out.1;have du:=c3 0;go_upto_region 5 with (go_at_call 36;refine(jW nm _ b4).mono ?_;rintro e w' ⟨rfl,dv⟩;subst w')
 obtain⟨kb,dx⟩: ∃kb,bq nm=kb:=⟨_,rfl⟩
 rw[dx]at ab ⊢;go_cut [35] from 25 to 35 (λz I=>z=.bool (!(kb&&decide (aZ nm=bC)))/\I=W3)
 case first=>
  cases kb
  .go_wp2;go_meet;exact⟨zp,rfl⟩
  .go_wp2_with (go_at_call 73;refine(b7.out _).mono ?_;rintro e w' ⟨rfl,dv⟩;subst w')
   go_meet;have hf:=M.out.2;rw[<-hf]at a7;refine⟨congrArg Value.bool ?_,rfl⟩;rw[Int.tmod_eq_emod_of_nonneg a7.1,acU];simp[M.out.1];omega
 case rest=>
  obtain⟨rfl,O⟩:=hcut;subst O;generalize (kb&&decide (aZ nm=bC))=gd at*;go_upto_if 35 with fail;go_cut [] from 36 to 38 (λI=>Hid (dF w I b bo (recC nm c 0 (.slice none 0 0)) S r1))
  case first=>
   obtain⟨_,x1,x2,_⟩:=N.out.look;cases gd
   .go_wp2;go_meet;rw[ab.out];exact hid (by simpa[ba] using N.out.bad o.out)
   .go_wp2;go_meet;rw[ab.out];exact hid (by simpa[ba] using N.out)
  case rest=>
   have b9:=hcut;clear hcut N c3 f3 du ab b7 M a7;go_upto_region 7 with fail;go_wp2;go_loopw [8] (λiv wr=>∃i:Nat,i<=4/\iv=.i i/\Hid (dF w wr b bo (recC nm c i (.slice none 0 0)) S (cH i r1))) (λiv _=>4-(intOf iv).toNat)
   case atStart=>exact⟨0,zo,rfl,b9.out⟩
   case round=>
    obtain⟨i,hi,rfl,J⟩:=hrel;clear b9;by_cases ca:i<4
    .have i1:(i:Int)<4:=zo;have eT:(0:Int)<=(i:Int):=zo;have HN:=zu (HC.out i wr J.out);clear J;go_wp2_with (go_at_call 80;refine HN.out.mono ?_;rintro e w2 ⟨rfl,H⟩;obtain⟨c2,f2⟩:=aH H.1;have cI:=(c2 (1+i)).trans (CF nm c (.slice none 0 0) ca);have fI:=f2 (1+i);clear c2 f2;have an:=hid H;clear H)
     refine⟨⟨i+1,zo,by go_num,?_⟩,zi⟩
     have:=an.out.set o.out (1+i) (.i (c i));rw[FB nm c _ ca]at this;exact this
    .obtain rfl:i=4:=zo;have hp:∀j,j<4->gx c 4 j=c j:=λj hj=>by simp[gx,hj]
     simp only[recC,hp 0 zo,hp 1 zo,hp 2 zo,hp 3 zo]at J;obtain⟨c5,f5⟩:=aH J.out.1;have cd:=zu ((by have:=b5.out;simp only[recC,hp 0 zo,hp 1 zo,hp 2 zo,hp 3 zo]at this;exact this));go_upto_region 13 with (first
      |(go_at_call 37;refine(lx c _).mono ?_;rintro e w6 ⟨rfl,U⟩;have cj:=hid (J.out.below U);clear U)
      |(go_at_call 80;refine(cd.out _ cj.out).mono ?_;rintro e w7 ⟨rfl,a8⟩;obtain⟨c7,f7⟩:=aH a8.1;have ao:=hid a8;clear a8))
     clear HC b5 cd J cj c5 f5 hp;have dC:=λW=>Rt W c;go_cut [64] from 53 to 64 (λz I=>z=.bool (!(cR c&&!(decide (x=0)&&lu c)))/\I=w7)
     case first=>
      generalize cR c=sb at*;generalize lu c=zc at*;cases sb
      .go_wp2;go_meet;exact⟨rfl,rfl⟩
      .by_cases h0:(x:Int)=0
       .have bb:x=0:=zo;go_wp2;go_meet;exact⟨by simp[bb],rfl⟩
       .have bb: ¬x=0:=zo;go_wp2;go_meet;exact⟨by simp[bb],rfl⟩
     case rest=>
      obtain⟨rfl,O⟩:=hcut;subst O;generalize (cR c&&!(decide (x=0)&&lu c))=gd2 at*;go_upto_if 64 with fail;go_cut [] from 65 to 67 (λI=>Hid (dF w I b bo (.q nm c (.slice none 0 0)) S r2))
      case first=>
       obtain⟨_,x1,x2,_⟩:=ao.out.look;cases gd2
       .go_wp2;go_meet;rw[a6.out];exact hid (by simpa[ba] using ao.out.bad o.out)
       .go_wp2;go_meet;rw[a6.out];exact hid (by simpa[ba] using ao.out)
      case rest=>
       have cl:=hcut;clear hcut ao c7 f7 a6 dC;go_wp2;go_loopw [11] (λiv wr=>∃(k:Nat) (sv:ag) (l:List aG) (r:RS),k<=x/\l.length=k/\iv=.i k/\Hid (dF w wr b bo (.q nm c sv) S r)/\Hid (wr.ownsRow w 88 3 sv l.length (aQ l))/\Hid (ia c (x-k) (l,r)=F)) (λiv _=>x-(intOf iv).toNat)
       case atStart=>exact⟨0,.slice none 0 0,[],r2,zo,rfl,rfl,cl.out,abh _ _ _ _,b6.out⟩
       case round=>
        obtain⟨k,sv,l,⟨s,q⟩,hk,dW,rfl,J,HO,aq⟩:=hrel;clear cl b6;subst dW;obtain⟨ad,cap,rfl⟩:=dS HO.out;obtain⟨_,x1,x2,_⟩:=J.out.look;simp only at x1;by_cases V:l.length<x/\q=false
        .obtain⟨V,rfl⟩:=V;have k1:(l.length:Int)<(x:Int):=zo;have eX:decide ((l.length:Int)<(x:Int))=true:=by simpa using V
         have bc:Hid (oP (s,false)=true->(l,((bE (s,false)).2.1,true))=F):=λhb=>by
          have:=aq.out;rwa [show x-l.length=(x-(l.length+1))+1 by omega,ia,AT zp,BY hb]at this
         have bn:Hid (oP (s,false)=false->ia c (x-(l.length+1)) (l++ [(bE (s,false)).1],ba (gT c (bE (s,false)).1&&jI l (bE (s,false)).1) (bE (s,false)).2)=F):=λhb=>by
          have:=aq.out;rwa [show x-l.length=(x-(l.length+1))+1 by omega,ia,AT zp,AT (by simp[hb])]at this
         obtain⟨a1,ar⟩: ∃a,aF 1 (s,false)=a:=⟨_,rfl⟩
         obtain⟨a2,bp⟩: ∃a,aF 4 a1.2=a:=⟨_,rfl⟩
         obtain⟨f,av⟩: ∃a,aF 1 a2.2=a:=⟨_,rfl⟩
         have P:Hid (bE (s,false)=((a1.1,(a2.1:Int),(cT f.1 f.2).1),(cT f.1 f.2).2)/\oP (s,false)=decide (3<a1.1\/(a2.1:Int)<1\/12<f.1\/(cT f.1 f.2).2.2=true)):=by subst av bp ar;exact⟨rfl,rfl⟩
         have q1:a1.1<256:=by rw[<-ar];exact iM 1 _ zf
         have q3:f.1<256:=by rw[<-av];exact iM 1 _ zf
         have X:Hid ((cT f.1 f.2).2.2=false->fZ f.1 f.2=(cT f.1 f.2).1):=vj;have ea:=(IN.1 J.out.1).1;have cm:Hid (gb w (wr.alloc (.cells #[.i 0,.i 0,.s ⟨#[]⟩] 88)) b bo wr (.q nm c (.slice ad l.length cap)) #[.i 0,.i 0,.s ⟨#[]⟩] S (.slice ad l.length cap) l (s,false)):=
          have hb:Below wr wr (wr.alloc (.cells #[.i 0,.i 0,.s ⟨#[]⟩] 88)):=zj.alloc zf _
          ⟨J.out.below hb,By wr _,bH HO.out hb zf,λq hq=>pO HO.out hq,⟨o.out.1,o.out.2,ea⟩⟩
         have cp:Hid (∀W A B sv l,gb w W b bo wr A B S sv l (s,false)->Calls aC.prog 80 #[.p b,.i 1] W λe w'=>e=.r (.i a1.1)/\gb w w' b bo wr A B S sv l a1.2):=λW A B sv l m=>by
          rw[<-ar];exact(y.out 1 W _ zo m.ky.2.2.1).mono λe w' ⟨E,G⟩=>⟨E,m.lk G⟩
         have cq:Hid (∀W A B sv l,gb w W b bo wr A B S sv l a1.2->Calls aC.prog 80 #[.p b,.i 4] W λe w'=>e=.r (.i a2.1)/\gb w w' b bo wr A B S sv l a2.2):=λW A B sv l m=>by
          rw[<-bp];exact(y.out 4 W _ zo m.ky.2.2.1).mono λe w' ⟨E,G⟩=>⟨E,m.lk G⟩
         have cr:Hid (∀W A B sv l,gb w W b bo wr A B S sv l a2.2->Calls aC.prog 80 #[.p b,.i 1] W λe w'=>e=.r (.i f.1)/\gb w w' b bo wr A B S sv l f.2):=λW A B sv l m=>by
          rw[<-av];exact(y.out 1 W _ zo m.ky.2.2.1).mono λe w' ⟨E,G⟩=>⟨E,m.lk G⟩
         have cx:Hid (∀W A B sv l,gb w W b bo wr A B S sv l f.2->Calls aC.prog 107 #[.p b,.i f.1] W λe w'=>e=.r (.s (fZ f.1 f.2))/\gb w w' b bo wr A B S sv l (cT f.1 f.2).2):=λW A B sv l m=>(bZ.out _ W _ zo m.ky.2.2.1).mono λe w' ⟨E,G⟩=>⟨E,m.lk G⟩
         clear ar bp av aq J HO;generalize bE (s,false)=vr at*;generalize oP (s,false)=bd at*;generalize fZ f.1 f.2=vl at*;generalize (cT f.1 f.2).1=vl0 at*;generalize (cT f.1 f.2).2=st at*;generalize f.1=sz at*;generalize f.2=r3 at*;generalize a2.1=C at*;generalize a2.2=r2' at*;generalize a1.1=d at*;generalize a1.2=r1' at*;go_upto_region 23 with (first
          |(go_at_call 80;refine(cr.out _ _ _ _ _ cA.out).mono ?_;rintro e w3 ⟨rfl,cB⟩;have cK:=hid cB;clear cB)
          |(go_at_call 80;refine(cq.out _ _ _ _ _ cN.out).mono ?_;rintro e w2 ⟨rfl,br⟩;obtain⟨eb,ee⟩:=aH br.vb;have cA:=hid (by simpa using br.set 1 (.i C));clear br)
          |(go_at_call 80;refine(cp.out _ _ _ _ _ cm.out).mono ?_;rintro e w1 ⟨rfl,bs⟩;obtain⟨eg,eh⟩:=aH bs.vb;have cN:=hid (by simpa using bs.set 0 (.i d));clear bs)
          |(go_at_call 107;refine(cx.out _ _ _ _ _ cK.out).mono ?_;rintro e w4 ⟨rfl,bx⟩;obtain⟨ei,ej⟩:=aH bx.vb;have D:=hid (by simpa using bx.set 2 (.s vl));clear bx))
         obtain⟨Wv,cW⟩: ∃W,W=w4.setCell (.a wr 2) (.s vl):=⟨_,rfl⟩
         rw[<-cW]at D ⊢;clear cW cm cN cA cK cp cq cr cx eg eh eb ee ei ej x1 x2;generalize wr.heap.size=bv at*;obtain⟨cv,fv⟩:=aH D.out.vb;obtain⟨_,x1,x2,_⟩:=D.out.ky.look;obtain⟨ck,fk⟩:=aH D.out.ky.1;go_cut [109] from 92 to 109 (λz I=>z=.bool bd/\I=Wv)
         case first=>
          by_cases b1:(3:Int)<(d:Int)
          .go_wp2;go_meet;exact⟨by rw[P.out.2,abJ (.inl zo)],rfl⟩
          .by_cases b2:(C:Int)<1
           .go_wp2;go_meet;exact⟨by rw[P.out.2,abJ (.inr (.inl b2))],rfl⟩
           .by_cases b3:(12:Int)<(sz:Int)
            .go_wp2;go_meet;exact⟨by rw[P.out.2,abJ (.inr (.inr (.inl zo)))],rfl⟩
            .go_wp2;go_meet;refine⟨congrArg Value.bool ?_,rfl⟩;rw[P.out.2,acU,abb];exact⟨λh=>.inr (.inr (.inr h)),λh=>by rcases h with h|h|h|h<;>first|omega|exact h⟩
         case rest=>
          obtain⟨rfl,O⟩:=hcut;subst wc;obtain⟨ek,bB⟩:=P.out;subst ek;clear P;cases bd
          .have cY:=of_decide_eq_false bB.symm;obtain⟨g1,g2,g3,g4⟩:d<4/\1<=(C:Int)/\sz<=12/\st.2=false:=⟨zo,zo,zo,by simpa using λh=>cY (.inr (.inr (.inr h)))⟩
           have en:=X.out g4;subst en;have az:=hid (bn.out rfl);have c0:=zu (λW=>Cg c d C vl W g1);clear bB cY bn bc X g4;go_upto_region 27 with (go_at_call 64;refine(c0.out _).mono ?_;rintro e w5 ⟨rfl,c1⟩;have Q:=hid (D.out.below c1);clear c1)
           clear D cv fv x1 x2 ck fk c0;obtain⟨cv,fv⟩:=aH Q.out.vb;obtain⟨ck,fk⟩:=aH Q.out.ky.1;go_upto_if 121 with fail;obtain⟨zb,bL⟩: ∃zb,((l.length:Int)==0)=zb:=⟨_,rfl⟩
           rw[bL];have bN:Hid (zb=true↔l.length=0):=(show _↔_ by rw[<-bL];simp)
           clear bL;go_cut [15] from 122 to 129 (λz I=>z=.bool (jI l (d,(C:Int),vl))/\Hid (gb w I b bo bv (.q nm c (.slice ad l.length cap)) #[.i d,.i C,.s vl] S (.slice ad l.length cap) l st))
           case first=>
            cases zb;rotate_left
            .have HOr:Hid (jI l (d,(C:Int),vl)=true):=(by have eo:=acP (bN.out.1 rfl);rw[eo];exact hid rfl)
             go_wp2_with fail;go_meet;exact⟨by rw[HOr.out],Q.out⟩
            .have h0:l.length≠0:=λh=>by have:=bN.out.2 h;cases this
             obtain⟨j,hj⟩: ∃j,l.length=j+1:=⟨l.length-1,zo⟩
             have c6:j<l.length:=zo;have HOr:Hid (jI l (d,(C:Int),vl)=bf l[j] (d,(C:Int),vl)):=(by
              show jI _ _=_;unfold jI;rw[List.getLast?_eq_getElem?,show l.length-1=j by omega,abG c6])
             obtain⟨g,eu,e,_,_,_,cc⟩:=dU Q.out.row zo;cases e;obtain⟨d0,d1,d2⟩:=mU l j c6;have p0:=cc (j*3) _ zo d0;have p1:=cc (j*3+1) _ zo d1;have p2:=cc (j*3+2) _ zo d2;clear cc d0 d1 d2;generalize l[j]=u at*;obtain⟨r',n',t'⟩:=u;simp only[aG.rep,aG.n,aG.val] at*;have HD:=zu (λW=>ES r' d n' C t' vl W);have m1:IntKind.i64.wrap ((l.length:Int)-1)=(j:Int):=by rw[IntKind.wrap_i64];omega
             have j2:(0:Int)<=(j:Int):=zo;have j3:(j:Int)<(l.length:Int):=zo;have ep:Hid (∀w',Below w5 w5 w'->w'.cell? (.a bo 5)=.l g l.length cap/\w'.cell? (.a g (j*3))=.i r'/\w'.cell? (.a g (j*3+1))=.i n'/\w'.cell? (.a g (j*3+2))=.s t'/\w'.cell? (.a bv 0)=.i d/\w'.cell? (.a bv 1)=.i C/\w'.cell? (.a bv 2)=.s vl):=λw' hw=>⟨aX (by simpa using ck 5) hw,aX p0 hw,aX p1 hw,aX p2 hw,aX (by simpa using cv 0) hw,aX (by simpa using cv 1) hw,aX (by simpa using cv 2) hw⟩
             clear p0 p1 p2 cv fv ck fk hj;go_wp2_with fail;go_region_held3 (λw'=>w'.cell? (.a bo 5)=.l g l.length cap/\w'.cell? (.a g (j*3))=.i r'/\w'.cell? (.a g (j*3+1))=.i n'/\w'.cell? (.a g (j*3+2))=.s t'/\w'.cell? (.a bv 0)=.i d/\w'.cell? (.a bv 1)=.i C/\w'.cell? (.a bv 2)=.s vl)
              ((refine ep.out _ ?_;first|exact U|(simp (maxDischargeDepth:=12) [aaP,aaR];done)))
              (first|(go_at_call 65;refine AI (HD.out _) ?_;rintro e w6 ⟨rfl,aA⟩;have U:=bk zj.drew aA;clear aA))
             all_goals
              go_wp2_with fail;go_meet;exact⟨by rw[HOr.out],Q.out.below U⟩
           case rest=>
            obtain⟨rfl,ay⟩:=hcut;have M:Hid (gT c (d,(C:Int),vl)=decide ((C:Int)<=c d)):=hid rfl;generalize jI l (d,(C:Int),vl)=od at*;rw[M.out]at az;clear M Q cv fv ck fk bN;generalize decide ((C:Int)<=c d)=sn at*;go_upto_region 30 with fail;go_cut [135] from 130 to 135 (λz I=>z=.bool (!(sn&&od))/\I=wc)
            case first=>
             cases sn
             .go_wp2_with fail;go_meet;exact⟨rfl,rfl⟩
             .cases od
              .go_wp2_with fail;go_meet;exact⟨rfl,rfl⟩
              .go_wp2_with fail;go_meet;exact⟨rfl,rfl⟩
            case rest=>
             obtain⟨rfl,O⟩:=hcut;rename_i wd;subst O;generalize (sn&&od)=gd3 at*;go_upto_if 135 with fail;go_cut [] from 136 to 138 (λI=>Hid (gb w I b bo bv (.q nm c (.slice ad l.length cap)) #[.i d,.i C,.s vl] S (.slice ad l.length cap) l (ba gd3 st)))
             case first=>
              obtain⟨_,x1,x2,_⟩:=ay.out.ky.look;cases gd3
              .go_wp2_with fail;go_meet;exact hid (by simpa[ba] using ay.out.bad)
              .go_wp2_with fail;go_meet;exact hid (by simpa[ba] using ay.out)
             case rest=>
              have R:=hcut;clear hcut ay;generalize ba gd3 st=st2 at*;obtain⟨cv,fv⟩:=aH R.out.vb;obtain⟨ck,fk⟩:=aH R.out.ky.1;have fa:=R.out.ky.2.2.2.size;go_wp2_with (at_builtin;refine abq _ rfl _ _ _ rfl w 88 i0 _ 3 32 aC.underlying67 di dj dk dm rfl zo (.slice ad l.length cap) _ _ rfl (aaV R.out.row _) (.a wc 0) 1 1 [.i d,.i C,.s vl] rfl rfl (aaT (cs:=#[.i d,.i C,.s vl]) (t:=88) (fr:=(0,0)) (By wc _)) zv zo ze zo zt (wc.heap.size+1) zp ?_;intro g2 aB w8 Y aE ey eB;have bR:=(R.out.ky.below (zj.alloc zf _)).grownBy (aaV R.out.row _) aE zd zd;obtain⟨c8,f8⟩:=aH bR.1;have c9:=hid bR;have er:=hid Y;clear bR Y aE)
              refine⟨⟨l.length+1,.l g2 (l.length+1) aB,l++ [(d,(C:Int),vl)],st2,zo,zp,by go_num,?_,?_,az.out⟩,zi⟩
              .exact hid (by simpa using c9.out.set o.out 5 (.l g2 (l.length+1) aB))
              .rw[abo,pc];exact dy er.out c9.out.1 zd _ _
          .obtain rfl:=bc.out rfl;clear X bn bc bB;go_upto_region 25 with fail;have Z:=hid D.out.bad;obtain⟨Wb,db⟩: ∃W,W=Wv.setCell (.a b 2) (.bool true):=⟨_,rfl⟩
           rw[<-db]at Z ⊢;clear db D cv fv ck fk x1 x2;obtain⟨cb,fb⟩:=aH Z.out.ky.1;obtain⟨cw,fw⟩:=aH Z.out.ky.2.1;have L:=hid (dF.fin Z.out.ky Z.out.row bT);go_wp2;refine abn (v:=.agg (.q nm c (.slice ad l.length cap))) ?_ rfl ⟨_,rfl,L.out _ rfl⟩;simp[results,aC.results108,go_sem,cw]
        .have dd:(l,(s,q))=F:=by
          have:=aq.out;by_cases hq:q=true
          .rwa [xh _ _ (by exact hq)]at this
          .have hn: ¬l.length<x:=λh=>V ⟨h,by simpa using hq⟩;rwa [show x-l.length=0 by omega,ia]at this
         subst dd;have df:=zu V;obtain⟨cb,fb⟩:=aH J.out.1;obtain⟨cw,fw⟩:=aH J.out.2.1;have L:=hid (dF.fin J.out HO.out bT);by_cases ff:(l.length:Int)<(x:Int)
         .obtain rfl:q=true:=by
           have:=df.out;simp only[not_and,acg]at this;exact this zo
          go_wp2;refine abn (v:=.agg (.q nm c (.slice ad l.length cap))) ?_ rfl ⟨_,rfl,L.out _ rfl⟩;simp[results,aC.results108,go_sem,cw]
         .go_wp2;refine abn (v:=.agg (.q nm c (.slice ad l.length cap))) ?_ rfl ⟨_,rfl,L.out _ rfl⟩;simp[results,aC.results108,go_sem,cw]
end
end Go.Proofs.YtldmcdeibiclkaaGreatQ
