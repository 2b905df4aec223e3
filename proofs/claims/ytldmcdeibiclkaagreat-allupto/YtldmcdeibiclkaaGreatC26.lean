/-
  Toward all_holds
-/
import Derived.Test.YtldmcdeibiclkaaGreatC24
import Derived.Test.YtldmcdeibiclkaaGreatC01
import Derived.Test.YtldmcdeibiclkaaGreatC25
import Derived.Test.YtldmcdeibiclkaaGreatC22
import Derived.Test.YtldmcdeibiclkaaGreatC18
import Derived.WalkKit
import Derived.RegionTactic
import Derived.Test.YtldmcdeibiclkaaGreatC21
import Derived.Deep.RegionHeld3
import Derived.Test.YtldmcdeibiclkaaGreatC20
set_option linter.all false
noncomputable section
set_option maxRecDepth 100000
set_option maxHeartbeats 20000000
namespace Go.Proofs.YtldmcdeibiclkaaGreatQ
variable {listed:Array Bool}{W w1 w' W':af}{wb ob pb rb B N:Nat}{pv le hv:ag}{gs:List PG}{hs:List Nat}{K:aL}{o:ef}{g:PG}
open Go.RowKit
section
variable {U:List ah}
theorem aC.Xt:(aC.prog.info? 47).map (λi=>(i.zero,i.size,i.bytes))=some (some (.agg #[.pointer none,.pointer none]),2,16):=zk
theorem CV(wb:Nat)(n:Int)(w:af)(a:n<0\/3<n):
  Calls aC.prog 8 #[.p wb,.i n] w λe w'=>e=.r (.bool true)/\w'=w:=by
 have c:Hid _:=Vl n w a;rcases a with a|a
 .go_enter aC.func8,aC.ntmps8;go_wp2_with (go_at_call 11;refine AI c.out ?_;rintro e w1 ⟨rfl,rfl⟩)
  go_ret;exact⟨rfl,rfl⟩
 .have f: ¬n<0:=zo;go_enter aC.func8,aC.ntmps8;go_wp2_with (go_at_call 11;refine AI c.out ?_;rintro e w1 ⟨rfl,rfl⟩)
  go_ret;exact⟨rfl,rfl⟩
theorem SK(wb:Nat)(pv lv hv:ag)(n k:Nat)(xs:ae)(w:af)(hblk:w.heap[wb]?=.c #[pv,lv,hv] 30)(aT:w.ownsRow 0 47 2 pv k xs)(hk:k<=4000000000000)(hn:n<4):
  Calls aC.prog 8 #[.p wb,.i n] w λe w'=>e=.r (.bool true)/\∃(b:Nat) (bm:Nat->Nat) (rb:Nat) (F:ag),w<=b/\(∀m,m<64->w.heap.size<=bm m)/\w<=rb/\aV w' b bm n nB/\w'.heap[rb]?=.c #[.i n,.slice none 0 0] 45/\
   w'.heap[wb]?=.c #[F,lv,hv] 30/\w'.ownsRow 0 47 2 F (k+1) (xs++ [.p b,.p rb])/\Fr (λk=>k=wb\/pv.ownBlock=some k) w w'/\∀k,F.ownBlock=some k->pv.ownBlock=some k\/w<=k:=by
 obtain⟨ad,cap,rfl,ay,az⟩:=cz aT;obtain⟨i0,V,Y,Z,ab⟩:=aaY aC.Xt;have aA:=(IN.1 hblk).1;have HN:Hid _:=XX n w hn;have HB:=zu hblk;have HR:=zu aT;have an:=zu (oA aT hblk zd);have v:Hid (∀j,w.heap.size<=j->some j≠(Value.slice ad k cap).ownBlock):=λj hj e=>by
  have:=(aT.lt j e.symm).2;omega
 have n0: ¬(n:Int)<0:=zo;have n3: ¬(3:Int)<(n:Int):=zo;clear hblk aT;go_enter aC.func8,aC.ntmps8;go_upto_region 6 with (first|(go_at_call 11;refine AI HN.out ?_;rintro e w1 ⟨b,bm,rfl,hb,J,z,h⟩))
 have C:Hid _:=z;have ao:Hid _:=h;have G:=zu J;have z1:=h.size;have H:=zu (bj HB.out h);have L:=zu (bH HR.out h zf);have c1:w1.cell? (.a wb 0)=some (.slice ad k cap):=(aH H.out).1 0;have HT:Hid (∀A B,((w1.alloc A).alloc B).heap[w1.heap.size+1]?=some B):=λA B=>by
  have:=By (w1.alloc A) B;simpa using this
 have aq:Hid (∀A B,((w1.alloc A).alloc B).heap[wb]?=.c #[.slice ad k cap,lv,hv] 30):=λA B=>by
  rw[aaO _ _ _ zt,aaO _ _ _ zo];exact H.out
 clear z h J;go_wp2_with (first
  |(at_builtin;refine abq _ rfl _ _ _ rfl 0 47 i0 _ 2 16 aC.underlying26 V Y Z ab rfl zo (.slice ad k cap) _ _ rfl ((L.out.alloc _).alloc _) (.a (w1.heap.size+1) 0) 1 1 [.p b,.p w1.heap.size] rfl rfl (aaT (cs:=#[.p b,.p w1.heap.size]) (t:=47) (fr:=(0,0)) (HT.out _ _)) zv zo ze zo (aaZ _) _ rfl ?_;intro M D w4 q f E O;have ar:=zu q;have u:Hid (World.grownBy ((w1.alloc (.cells #[.i n,.slice none 0 0] 45)).alloc (.cells #[.p b,.p w1.heap.size] 47)) w4 (Value.slice ad k cap).ownBlock):=f;have I:=(u.out.block wb zt an.out).trans (aq.out _ _);obtain⟨c4,f4⟩:=aH I;have aB:=c4 0;have aE:=f4 0;have R:=zu I;have av:Hid ((Value.slice ad k cap).ownBlock=some M\/M=((w1.alloc (.cells #[.i n,.slice none 0 0] 45)).alloc (.cells #[.p b,.p w1.heap.size] 47)).heap.size):=E;clear q f E O I c4 f4))
 go_ret;have hz:=u.out.size;simp only[eK]at hz;have S:Fr (λj=>j=wb\/(Value.slice ad k cap).ownBlock=some j) w1 (w4.setCell (.a wb 0) (.l M (k+1) D)):=
  Fr.setCell (X:=λj=>j=wb\/(Value.slice ad k cap).ownBlock=some j) ((((Fr.refl _ w1).alloc _).alloc _).grown u.out λj e _=>Or.inr e) (Or.inr (Or.inl rfl)) _
 have hX:∀j t s,w1.heap[j]?=.c s t->t≠30->t≠47->¬(j=wb\/(Value.slice ad k cap).ownBlock=some j):=by
  rintro j t s hj t1 t2 (e|e)
  .rw[e,H.out]at hj;injection hj with hj;injection hj with _ hj;exact t1 hj.symm
  .exact oA L.out hj (Ne.symm t2) e.symm
 refine⟨rfl,b,bm,w1,.l M (k+1) D,hb,G.out,z1,?_,?_,?_,?_,?_,?_⟩
 .obtain⟨A,h1,_⟩:=C.out.1;refine S.rep C.out (hX _ _ _ h1 zd zd) (λm hm=>?_) (λg s T=>hX g _ s T zd zd);rintro (e|e)
  .have:=G.out m hm;omega
  .exact v.out _ (G.out m hm) e.symm
 .rw[aaS _ _ _ _ (show w1≠wb by omega),u.out.block w1 (by simp only[eK];omega) (v.out _ z1),aaO _ _ _ zp];exact By w1 _
 .rw[heap_set R.out];rfl
 .refine (Fr.setCell (X:=λk=>k=wb) (Fr.refl _ _) (Or.inr rfl) _).fh ar.out λg s T e=>?_;have e':=e;rw[e',R.out]at T;exact absurd T zp
 .exact (Fr.cQ ao.out).trans S
 .intro j e;have e':M=j:=by simpa[Value.ownBlock] using e
  subst e';rcases av.out with h4|h4
  .exact Or.inl h4
  .right;rw[h4];simp;omega
theorem KM(wb:Nat)(pv le hv:ag)(gs:List PG)(hs:List Nat)(n:Nat)(w:af)(h:dQ U w wb pv le hv gs hs)(u:gs.length<=4000000000000)(R:n<4):
  Calls aC.prog 8 #[.p wb,.i n] w λe w'=>e=.r (.bool true)/\∃(g:PG) (v:ag),dQ U w' wb v le hv (gs++ [g]) hs/\g.K=nB/\(∀m,m<64->w.heap.size<=g.bm m)/\w<=g.rb/\Fr (λk=>k=wb\/pv.ownBlock=some k) w w'/\∀k,v.ownBlock=some k->pv.ownBlock=some k\/w<=k:=by
 refine(SK wb pv le hv n gs.length (gs.flatMap iz) w h.blk h.og u R).mono ?_;rintro e w' ⟨rfl,b,bm,rb,v,hb,H,I,D,E,hblk,aT,z,V⟩;have l:∀j t a,w.heap[j]?=.c a t->t≠30->t≠47->¬(j=wb\/pv.ownBlock=some j):=by
  rintro j t a hj t1 X (e|e)
  .rw[e,h.blk]at hj;grind
  .exact oA h.og hj (Ne.symm X) e.symm
 have hM:∀j es c,w.heap[j]?=some (.map es c)->¬(j=wb\/pv.ownBlock=some j):=by
  rintro j es c hj (e|e)
  .rw[e,h.blk]at hj;cases hj
  .obtain⟨a,Y⟩: ∃a,w.heap[j]?=.c a 47:=by
    rcases h.og.2 with⟨Z,_⟩|⟨g,cap,c,hv,_,J,_⟩
    .rw[Z]at e;cases e
    .rw[hv]at e;simp[Value.ownBlock]at e;grind
   rw[Y]at hj;cases hj
 refine⟨rfl,⟨b,bm,n,nB,rb,.slice none 0 0,[]⟩,v,⟨hblk,?_,?_,?_,?_,?_,h.oi.imp λls hl=>⟨z.fh hl.1 λg a f=>l g _ a f zd zd,hl.2⟩,λk e S J=>by
  obtain⟨a,L⟩:=(h.holds S J).typed;exact(h.free k e S J).frame z (l _ _ _ L zd zd) (λg a f=>l g _ a f zd zd) (λg a f=>l g _ a f zd zd) (λg a _ f=>l g _ a f zd zd) (λg a _ f=>l g _ a f zd zd)⟩,rfl,H,I,z,V⟩
 .rw[abo,acQ,acu];simpa[iz,gv] using aT
 .exact z.fh h.aT λg a f=>l g _ a f zd zd
 .intro g f;rcases abr.1 f with f|f
  .obtain⟨⟨A,kb⟩,km,⟨C,kr⟩⟩:=(h.dx g f).kinds;refine(h.dx g f).frame z (l _ _ _ kb zd zd) (λm T=>?_) (l _ _ _ kr zd zd) (λk a u=>l k _ a u zd zd) (λk a u=>l k _ a u zd zd) (λk a u=>l k _ a u zd zd);grind
  .rw[abu]at f;subst f;refine⟨D,⟨⟨E,abh _ _ _ _⟩,List.Pairwise.nil,λs=>⟨rfl,abh _ _ _ _⟩,λq hq=>by cases hq⟩,cF.none,R⟩
 .have old:∀i (hi:i<gs.length),(∀m,m<64->gs[i].bm m<w.heap.size)/\gs[i].rb<w.heap.size:=λi hi=>by
   obtain⟨_,km,⟨C,kr⟩⟩:=(h.dx gs[i] (IS hi)).kinds;grind
  intro i j hi hj M;rw[abo,acQ]at hi hj;by_cases G:i<gs.length
  .by_cases F:j<gs.length
   .rw[List.getElem_append_left G,List.getElem_append_left F];exact h.apart i j G F M
   .have:j=gs.length:=zo;subst this;rw[List.getElem_append_left G,List.getElem_append_right zo];obtain⟨o1,o2⟩:=old i G;simp only[Nat.sub_self,List.getElem_cons_zero];refine⟨λm m' T O e=>?_,λe=>?_⟩
    .grind
    grind
  .have:i=gs.length:=zo;subst this;have F:j<gs.length:=zo;rw[List.getElem_append_left F,List.getElem_append_right zo];obtain⟨o1,o2⟩:=old j F;simp only[Nat.sub_self,List.getElem_cons_zero];refine⟨λm m' T O e=>?_,λe=>?_⟩
   .grind
   grind
 .intro k u;obtain⟨a,L⟩:=(h.holds k u).typed;exact(h.holds k u).frame z (l _ _ _ L zd zd) (λg a f=>l g _ a f zd zd) (λg a f=>l g _ a f zd zd) (λg a _ f=>l g _ a f zd zd) (λg a _ f=>l g _ a f zd zd)
end
section
variable {U:List ah}
structure gY(U:List ah)(B N:Nat)(w:af)(wb:Nat)(pv le hv:ag)(gs:List PG)(hs:List Nat):Prop where
 law:dQ U w wb pv le hv gs hs
 nZ:B<=wb
 pa:∀k,pv.ownBlock=some k->B<=k
 qJ:∀k,hv.ownBlock=some k->B<=k
 cU:∀g∈gs,(∀n,n<64->B<=g.bm n)/\B<=g.rb
 len:∀g∈gs,bQ U g.K
 gl:gs.length<=N+2
 hl:hs.length<=3*N
 base:B<=w
 leB:∀k,le.ownBlock=some k->B<=k
 ll:∀ad n cap,le=.slice ad n cap->n<=N
def gY.below{w:af}(h:gY U B N w wb pv le hv gs hs)(hb:Below w w w1):gY U B N w1 wb pv le hv gs hs:=
 ⟨h.law.below hb,h.nZ,h.pa,h.qJ,h.cU,h.len,h.gl,h.hl,IT h.base hb.size,h.leB,h.ll⟩
theorem gY.more{a:Nat}{w:af}(h:gY U B N w wb pv le hv gs hs)(c:N<=a):gY U B a w wb pv le hv gs hs:=
 ⟨h.law,h.nZ,h.pa,h.qJ,h.cU,h.len,by have:=h.gl;omega,by have:=h.hl;omega,h.base,h.leB,λad n cap e=>IT (h.ll ad n cap e) c⟩
theorem wrap_small{x:Int}(h1: -9223372036854775808<=x)(a:x<=9223372036854775807):IntKind.i64.wrap x=x:=by
 simp[IntKind.wrap,IntKind.bits,IntKind.signed];omega
theorem PW(m n:Int)(h:0<n): -n<m.tmod n:=by
 rcases Int.le_total 0 m with a|a
 .have:=Int.tmod_nonneg n a;omega
 .have c:m.tmod n= -((-m).tmod n):=by rw[Int.neg_tmod,Int.neg_neg]
  have e:=Int.tmod_lt_of_pos (-m) h;omega
theorem VC(m:Int)(n:Nat)(f:0<n): ∃(q:Int) (p:Nat),m.tmod n=q/\-(n:Int)<q/\q<n/\(q+n).tmod n=p/\(q+n)%(n:Int)=p/\p<n:=by
 have a:(0:Int)<n:=zo;have c:=Int.tmod_lt_of_pos m a;have e:=PW m n a;have h:(m.tmod n+n).tmod n<n:=Int.tmod_lt_of_pos _ a;have i:(m.tmod n+n).tmod n=(m.tmod n+n)%(n:Int):=Int.tmod_eq_emod_of_nonneg zo;have j:0<=(m.tmod n+n)%(n:Int):=Int.emod_nonneg _ zo;exact⟨m.tmod n,((m.tmod n+n).tmod n).toNat,rfl,e,c,zo,zo,zo⟩
def kp(W:af)(ob pb:Nat)(o:ef)(b rb:Nat):Prop:=
 W.heap[ob]?=.c (eV o) 36/\W.heap[pb]?=.c #[.p b,.p rb] 47
def kp.below{b:Nat}(h:kp W ob pb o b rb)(hb:Below W W W'):kp W' ob pb o b rb:=⟨bj h.1 hb,bj h.2 hb⟩
def kp.fr{X:Nat->Prop}{b:Nat}(h:kp W ob pb o b rb)(a:Fr X W W')(h1: ¬X ob)(c: ¬X pb):kp W' ob pb o b rb:=⟨a.heap h.1 h1,a.heap h.2 c⟩
theorem kp.cells{b:Nat}{kind m a f:Int}{s t:ah}{c:Ctx}(h:kp W ob pb ⟨kind,m,a,f,s,t,c⟩ b rb):
  W.cell? (.a ob 0)=.i kind/\W.cell? (.a ob 1)=.i m/\W.cell? (.a ob 2)=.i a/\W.cell? (.a ob 3)=.i f/\W.cell? (.a ob 4)=.s s/\W.cell? (.a ob 5)=.s t/\
  W.cell? (.a ob 6)=.i (c 0)/\W.cell? (.a ob 7)=.i (c 1)/\W.cell? (.a ob 8)=.i (c 2)/\W.cell? (.a ob 9)=.i (c 3)/\
  W.cell? (.a pb 0)=.p b/\W.cell? (.a pb 1)=.p rb:=by
 have e:=(aH h.1).1;have j:=(aH h.2).1;exact⟨e 0,e 1,e 2,e 3,e 4,e 5,e 6,e 7,e 8,e 9,j 0,j 1⟩
def gD(bm:Nat->Nat)(k:Nat):Prop:=∃n,n<64/\k=bm n
theorem dw.zN{w:af}(h:dw w g){k:Nat}{t:ak}{a:aa}(f:w.heap[k]?=.c a t): ¬gD g.bm k:=by
 rintro⟨n,i,e⟩;obtain⟨es,c,j⟩:=h.kinds.2.1 n i;rw[e,j]at f;cases f
theorem dw.wu{w:af}(h:dw w g)(f:Fr (gD g.bm) w w1):cG w1 g.rb g.num g.sv g.l g.K:=
 h.gI.frame f (h.zN h.gI.ref.1) (λk a i=>h.zN i) λs k o m c e=>by
  obtain⟨a,j⟩:=p7 (h.gI.at_ s).2 k o m c e;exact h.zN j
theorem dQ.BL{w V C t:af}(h:dQ U w wb pv le hv gs hs)(p:Nat)(l:p<gs.length)(u:aL)(M:bQ U gs[p].K->bQ U u)(O:cF u)(R:Below w w V){v:ag}{F:List aY}(a:aV C gs[p].b gs[p].bm gs[p].num u)(D:Fr (gD gs[p].bm) V C)(q:cG t gs[p].rb gs[p].num v F u)(z:Fr (λk=>k=gs[p].rb) C t):
  ∃r,dQ U t wb pv le hv r hs/\r.length=gs.length/\(∀g'∈r,∃g∈gs,g'.bm=g.bm/\g'.rb=g.rb/\(bQ U g.K->bQ U g'.K))/\Fr (λk=>∃g∈gs,gD g.bm k\/k=g.rb) w t:=by
 have G:=h.dx gs[p] (IS l);have m:=(Fr.cQ R).trans D;have H:Fr (λk=>(∃n,n<64/\k=gs[p].bm n)\/k=gs[p].rb) w t:=(m.weaken λk e=>Or.inl e).trans (z.weaken λk e=>Or.inr e);have f:C.heap[gs[p].rb]?=.c #[.i gs[p].num,gs[p].sv] 45:=(G.wu m).ref.1;have s:aV t gs[p].b gs[p].bm gs[p].num u:=by
  obtain⟨A,I,_⟩:=a.1;refine z.rep a (λe=>?_) (λn S e=>?_) (λg T J e=>?_)
  .rw[e,f]at I;exact absurd I zp
  .obtain⟨es,c,L,_⟩:=a.2.1 n S;rw[e,f]at L;cases L
  .have X:=e;rw[X,f]at J;exact absurd J zp
 refine⟨gs.set p ⟨gs[p].b,gs[p].bm,gs[p].num,u,gs[p].rb,v,F⟩,h.upd p l _ rfl rfl rfl ⟨s,q,O,G.num⟩ H,zp,λg' E=>?_,H.weaken λk e=>⟨gs[p],IS l,e⟩⟩;rcases EB E with rfl|⟨j,hj,_,rfl⟩
 .exact⟨gs[p],IS l,rfl,rfl,M⟩
 .exact⟨gs[j],IS hj,rfl,rfl,id⟩
end
theorem xS(s:ah)(w:af)(hs:s.size<=maxLen):
  Calls aC.prog 73 #[.s s] w λe w'=>e=.r (.int .u64 (ga s))/\w'=w:=by
 unfold maxLen at hs;go_enter aC.func73,aC.ntmps73;go_wp2;go_loop [3,4] (λd i=>∃k:Nat,k<=s.size/\i=.i k/\d=.int .u64 (iU s k)) (λ_ i=>s.size-(intOf i).toNat)
 case atStart=>exact⟨0,zo,rfl,rfl⟩
 case round=>
  obtain⟨k,h,rfl,rfl⟩:=hrel;by_cases a:k<s.size
  .have g1:(k:Int)<(s.size:Int):=zo;have g0:(0:Int)<=(k:Int):=zo;have c:Hid (iU s (k+1)=IntKind.u64.wrap (Go.bits .xor .u64 (iU s k) (s[k].toNat:Int)*1099511628211)):=by
    show iU s (k+1)=_;rw[iU,sA s k a]
   go_wp2;refine⟨⟨k+1,zo,by go_num,?_⟩,zi⟩;rw[c.out,Bu]
  .have f:k=s.size:=zo;go_wp2;go_ret;exact⟨rfl,rfl⟩
theorem Ar(lv:Nat)(w:af)(h:lv<=3):Calls aC.prog 52 #[.i lv] w λe w'=>e=.r (.i (4 ^ lv:Nat))/\w'=w:=by
 go_enter aC.func52,aC.ntmps52;go_wp2;go_loop [3,4] (λc i=>∃k:Nat,k<=lv/\i=.i k/\c=.i (4 ^ k:Nat)) (λ_ i=>lv-(intOf i).toNat)
 case atStart=>exact⟨0,zo,rfl,rfl⟩
 case round=>
  obtain⟨k,j,rfl,rfl⟩:=hrel;by_cases a:k<lv
  .have g1:(k:Int)<(lv:Int):=zo;have f:=(mz (show k+1<=3 by omega)).1;have hs:=zu ((show 4 ^ (k+1)=4 ^ k*4 from acR ..));rw[hs.out]at f;generalize 4 ^ k=q at*;have l:(q:Int)<=16:=zo;go_wp2;refine⟨⟨k+1,zo,by go_num,?_⟩,zi⟩;rw[hs.out];congr 1;omega
  .obtain rfl:k=lv:=zo;go_wp2;go_ret;exact⟨rfl,rfl⟩
def kW(n:Int):Nat->ah
 |0=>ByteArray.empty
 |k+1=>aK (n / 2 ^ (8*k))++kW n k
theorem Ky(n:Int):∀k,(kW n k).size=k
 |0=>rfl
 |k+1=>by rw[kW,OF,dE,Ky n k];omega
theorem Er(n:Int):kW n 4=dp n:=by
 apply acj;simp[kW,aK,dp,ByteArray.data_append]
theorem Gl(d:Int):kW d 8=eA d:=by
 apply acj;simp[kW,aK,eA,kT,ByteArray.data_append]
theorem ZI(W:af)(a:Int):(convert 124 9 (.l W 1 1)).run aC.prog (W.alloc (.cells #[.int .u8 (a%256)] 5))=.ok (.s (aK a)) (W.alloc (.cells #[.int .u8 (a%256)] 5)):=
 run_convert_bytes_arg (P:=aC.prog) _ 124 5 aC.underlying124 aC.underlying5 W 0 1 1 [a%256] rfl (λj hj=>by
  simp_all) 9 aC.underlying9
theorem xV(n:Int)(m:Nat)(w:af)(q:m<=8):
  Calls aC.prog 55 #[.int .u64 n,.i m] w λe w'=>e=.r (.s (kW n m))/\Below w w w':=by
 go_enter aC.func55,aC.ntmps55;go_wp2;go_loopw [5,6] (λs i wr=>∃k:Nat,k<=m/\i=.i k/\s=.s (kW n k)/\Hid (Below w w wr)) (λ_ i _=>m-(intOf i).toNat)
 case atStart=>exact⟨0,zo,rfl,rfl,zj⟩
 case round=>
  obtain⟨k,t,rfl,rfl,c⟩:=hrel;by_cases h:k<m
  .have g1:(k:Int)<(m:Int):=zo;have u:(k:Int)<=8:=zo;have j:=Ky n k;have l:Hid (kW n (k+1)=aK (n / 2 ^ (8*k))++kW n k):=rfl;have hcv:=ZI wr (n / 2 ^ (8*k));have f:=c.out.size;generalize kW n k=st at*;generalize a:aK (n / 2 ^ (8*k))=ob at*;have p:ob.size=1:=by rw[<-a];rfl
   clear a;go_wp2;refine⟨⟨k+1,zo,by go_num,by rw[l.out],c.out.alloc f _⟩,zi⟩
  .obtain rfl:k=m:=zo;go_wp2;go_ret;exact⟨rfl,c.out⟩
section
section
variable {P:aj}{ops:Array Oper}{Q:Exit->Act->af->Prop}
theorem qM{i:Nat}(h:i∈Region.ready .any ops listed):i<ops.size/\listed.getD i true=false/\∀o,ops[i]?=some o->∀e∈o.after,Region.binds .any e=true->listed.getD e.on false=true:=by
 obtain⟨f,a⟩:=acw.1 h;simp only[No,Bool.not_eq_true']at a;refine⟨ace.1 f,a.1,λo j e k hb=>?_⟩;have c:=a.2;rw[j]at c;simp only[aca,Option.getD_some,Array.all_eq_true_iff_forall_mem]at c;grind
theorem zR{i:Nat}(h:listed.getD i true=false):(listed.setIfInBounds i true).toList.count false+1=listed.toList.count false:=by
 have hi:i<listed.size:=by
  grind
 have hv:listed.toList[i]'(by simpa using hi)=false:=by
  simp_all
 grind
theorem zB(h:listed.toList.count false=0):Region.ready .any ops listed= []:=by
 refine List.eq_nil_iff_forall_not_mem.2 λi hi=>?_;obtain⟨_,a,_⟩:=qM hi
 have:=zR a;omega
def Ee(ops:Array Oper):Bool:=(List.range ops.size).all λi=>((ops[i]?).map λo=>o.after.all λe=>decide (e.on<i)).getD true
theorem Ic(hb:Ee ops=true)(c:Region.ready .any ops listed= [])(hs:listed.size=ops.size):listed.toList.count false=0:=by
 have key:∀i,i<listed.size->listed.getD i true=true:=λi=>by
  induction i using Nat.strongRecOn with
  |ind i j=>
   intro hi;refine aco λk=>?_;have a:i∈Region.ready .any ops listed:=by
    refine acw.2 ⟨ace.2 zo,?_⟩;have f:=abK.1 hb i (ace.2 zo);grind
   rw[c]at a;cases a
 refine List.count_eq_zero.2 λa=>?_;obtain⟨i,hi,e⟩:=List.mem_iff_getElem.1 a;have h:i<listed.size:=by simpa using hi
 simp_all
theorem A7{I:Array Bool->Act->af->Prop}(step:∀listed a w i,I listed a w->i∈Region.ready .any ops listed->wpOp P ops Q i (I (listed.setIfInBounds i true)) a w)(done:∀listed a w,I listed a w->listed.toList.count false=0->Q .normal a w)(all:∀listed,Region.ready .any ops listed= []->listed.size=ops.size->listed.toList.count false=0):
  ∀fuel listed a w,listed.size=ops.size->listed.toList.count false<=fuel->I listed a w->wpAny P .any ops Q fuel listed a w
 |0,listed,a,w,hs,c,h=>⟨zB zo,done listed a w h zo⟩
 |fuel+1,listed,a,w,hs,c,h=>⟨λe=>done listed a w h (all listed e hs),λi hi=>wpOp_mono (λf w' j=>A7 step done all fuel _ f w' (by simpa using hs) (by have:=zR (qM hi).2.1;omega) j) (step listed a w i h hi)⟩
theorem dH{K:Act->af->Prop}{i:Nat}{o:Oper}{v:ag}{a:Act}{w:af}(c:ops[i]?=some o)(e:o.guard=none)(f:(execOp a.eval o).run P w=.ok (.value v) w')(h:K (a.put o.dst v) w'):wpOp P ops Q i K a w:=
 wpOp_step c λk j=>by
  rw[BY (by simp[Region.wanted,e])];unfold Oper.wp;rw[f,Oper.upon_value];exact j _ _ h
theorem wF{K:Act->af->Prop}{i f:Nat}{o:Oper}{args:aa}{a:Act}{w:af}(c:ops[i]?=some o)(j:o.guard=none)(k:(execOp a.eval o).run P w=.ok (.enter f args) w1)(h:Calls P f args w1 λe w'=>∃v,e=.r v/\K (a.put o.dst v) w'):wpOp P ops Q i K a w:=
 wpOp_step c λl m=>by
  rw[BY (by simp[Region.wanted,j])];unfold Oper.wp;rw[k,Oper.upon_enter];refine h.mono ?_;grind
end
theorem vL{i j:Nat}(hi:i<listed.size):(listed.setIfInBounds i true).getD j false=true↔j=i\/listed.getD j false=true:=by
 rw[acd,acd,acz];grind
theorem Jm{i:Nat}(h:listed.getD i true=false): ¬listed.getD i false=true:=by
 grind
structure gA(dst:Nat->Nat)(val:Nat->ag->af->Prop)(W:af)(a0:Act)(n:Nat)(listed:Array Bool)(a:Act)(w:af):Prop where
 bR:Below W W w
 size:a.tmps.size=a0.tmps.size
 defs:a.defers=a0.defers
 old:∀s,(∀j,j<n->listed.getD j false=true->s≠dst j)->a.tmps.getD s undef=a0.tmps.getD s undef
 new:∀j,j<n->listed.getD j false=true->val j (a.tmps.getD (dst j) undef) w
 len:n<=listed.size
theorem gA.start{dst:Nat->Nat}{val:Nat->ag->af->Prop}{w:af}(hb:Below W W w)(a:Act)(n:Nat):gA dst val W a n (Array.replicate n false) a w:=by
 have c:∀j,¬(Array.replicate n false).getD j false=true:=λj=>by
  rw[acd,Array.getElem?_replicate];split<;>simp
 exact⟨hb,rfl,rfl,λs _=>rfl,λj _ h=>absurd h (c j),zp⟩
theorem gA.step{dst:Nat->Nat}{val:Nat->ag->af->Prop}{W:af}{a0:Act}{n:Nat}{listed:Array Bool}{a:Act}{w w':af}{i:Nat}{v:ag}(h:gA dst val W a0 n listed a w)(hi:i<n)(l:dst i<a0.tmps.size)(inj:∀j,j<n->dst j=dst i->j=i)(hb:Below w w w')(mono:∀j x,val j x w->val j x w')(hv:val i v w'):
  gA dst val W a0 n (listed.setIfInBounds i true) (a.put (some (dst i)) v) w':=by
 have c:=λj=>vL (listed:=listed) (i:=i) (j:=j) (by have:=h.len;omega);have f:∀s,(a.put (some (dst i)) v).tmps.getD s undef=if s=dst i then v else a.tmps.getD s undef:=λs=>by
  show(a.tmps.setIfInBounds (dst i) v).getD s undef=_;rw[acd,acz];by_cases e:dst i=s
  .subst e;rw[BY rfl,BY (by rw[h.size];exact l),BY rfl];rfl
  .rw[AT e,AT λk=>e k.symm,acd]
 refine⟨bk h.bR hb,by show(a.tmps.setIfInBounds _ _).size=_;rw[acW];exact h.size,h.defs,λs hs=>?_,λj hj hl=>?_,by simpa using h.len⟩
 .rw[f,AT λe=>hs i hi ((c i).2 (.inl rfl)) e];exact h.old s λj hj hl=>hs j hj ((c j).2 (.inr hl))
 .rw[f];by_cases e:dst j=dst i
  .grind
  .rw[AT e];rcases (c j).1 hl with k|hl
   .grind
   .exact mono j _ (h.new j hj hl)
end
section
def BZ:Option ag->Prop
 |some (.int .u8 _)=>True
 |_=>False
def J3:Option ag->ah
 |some (.int .u8 x)=>strOfNums [x]
 |_=>ByteArray.empty
def S1(x:Int):BZ (some (.int .u8 x))=True:=rfl
def TC(x:Int):J3 (some (.int .u8 x))=strOfNums [x]:=rfl
def QZ(x:Int):(strOfNums [x]).size=1:=rfl
theorem Aj{x:Int}(a:0<=x)(h1:x<256):strOfNums [x]=aK x:=by
 have e:x%256=x:=zo;simp[strOfNums,aK,byteOf,e]
theorem MG(W:af)(b:Nat)(h:BZ (W.cell? (.a b 0))):(convert 124 9 (.l b 1 1)).run aC.prog W=.ok (.s (J3 (W.cell? (.a b 0)))) W:=by
 generalize e:W.cell? (.a b 0)=c at*;unfold BZ at h;split at h
 .rename_i x
  have:=run_convert_bytes_arg (P:=aC.prog) W 124 5 aC.underlying124 aC.underlying5 b 0 1 1 [x] rfl (λj hj=>by
   grind) 9 aC.underlying9
  rw[this];rfl
 .exact h.elim
attribute [local go_sem] S1 TC MG QZ
section
variable (ev:ax->ag) (d:Option Tmp) (x y:ax) (ty:ak) (pos:String) (aft:Array Edge) (w:af) (b:Nat)
def KC:(execOp ev {dst:=d,op:=.move x,type:=ty,pos:=pos,after:=aft,guard:=none}).run aC.prog w=.ok (.value (ev x)) w:=rfl
def O0:(execOp ev {dst:=d,op:=.assign x,type:=ty,pos:=pos,after:=aft,guard:=none}).run aC.prog w=.ok (.value (ev x)) w:=rfl
theorem Pm(h:ev x=.p b):(execOp ev {dst:=d,op:=.fieldAddr 88 x 0,type:=ty,pos:=pos,after:=aft,guard:=none}).run aC.prog w=.ok (.value (.p b)) w:=by
 simp[execOp,h,go_sem]
theorem GZ(h:ev x=.p b):(execOp ev {dst:=d,op:=.fieldAddr 88 x 2,type:=ty,pos:=pos,after:=aft,guard:=none}).run aC.prog w=.ok (.value (.pointer (.a b 2))) w:=by
 simp[execOp,h,go_sem]
theorem U7(h:ev x=.p b):(execOp ev {dst:=d,op:=.fieldAddr 88 x 1,type:=ty,pos:=pos,after:=aft,guard:=none}).run aC.prog w=.ok (.value (.pointer (.a b 1))) w:=by
 simp[execOp,h,go_sem]
theorem Jz(o:Nat)(n:Int)(h:ev x=.pointer (.a b o))(c:w.cell? (.a b o)=.i n):(execOp ev {dst:=d,op:=.load 3 x,type:=ty,pos:=pos,after:=aft,guard:=none}).run aC.prog w=.ok (.value (.i n)) w:=by
 simp[execOp,h,c,go_sem]
theorem xE(o:Nat)(s:ah)(h:ev x=.pointer (.a b o))(c:w.cell? (.a b o)=.s s):(execOp ev {dst:=d,op:=.load 9 x,type:=ty,pos:=pos,after:=aft,guard:=none}).run aC.prog w=.ok (.value (.s s)) w:=by
 simp[execOp,h,c,go_sem]
theorem Kh(n:Int)(h:ev x=.i n)(a:0<=n)(h1:n<256):(execOp ev {dst:=d,op:=.convert 3 5 x,type:=ty,pos:=pos,after:=aft,guard:=none}).run aC.prog w=.ok (.value (.int .u8 n)) w:=by
 simp[execOp,h,go_sem];simp[IntKind.wrap,IntKind.bits,IntKind.signed];omega
theorem ZW(n:Int)(h:ev x=.i n)(a:0<=n)(h1:n<=1000000):(execOp ev {dst:=d,op:=.convert 3 55 x,type:=ty,pos:=pos,after:=aft,guard:=none}).run aC.prog w=.ok (.value (.int .u64 n)) w:=by
 simp[execOp,h,go_sem];simp[IntKind.wrap,IntKind.bits,IntKind.signed];omega
theorem DS(n:Int)(h:ev x=.int .u8 n):(execOp ev {dst:=d,op:=.buildSlice 124 1 #[(0,x)],type:=ty,pos:=pos,after:=aft,guard:=none}).run aC.prog w=.ok (.value (.l w 1 1)) (w.alloc (.cells #[.int .u8 n] 5)):=by
 simp[execOp,h,go_sem]
theorem I8(n:Int)(b:Nat)(h:ev x=.l b 1 1)(f:w.heap[b]?=.c #[.int .u8 n] 5):(execOp ev {dst:=d,op:=.convert 124 9 x,type:=ty,pos:=pos,after:=aft,guard:=none}).run aC.prog w=.ok (.value (.s (strOfNums [n]))) w:=by
 have e:w.cell? (.a b 0)=some (.int .u8 n):=(aH f).1 0;simp[execOp,h,e,go_sem]
theorem xy(s t:ah)(h:ev x=.s s)(a:ev y=.s t)(c:s.size+t.size<=90001000):(execOp ev {dst:=d,op:=.binOp .add 9 x y 9,type:=ty,pos:=pos,after:=aft,guard:=none}).run aC.prog w=.ok (.value (.s (s++t))) w:=by
 simp[execOp,h,a,go_sem];omega
theorem NL(s:ah)(h:ev x=.s s):(execOp ev {dst:=d,op:=.call {callee:=.builtin .len,args:=#[x],argTypes:=#[9]},type:=ty,pos:=pos,after:=aft,guard:=none}).run aC.prog w=.ok (.value (.i s.size)) w:=by
 simp[execOp,h,go_sem]
theorem Zg(a:Act)(t:Nat)(n:Int)(h:a.tmps.getD t undef=.int .u64 n):(execOp a.eval {dst:=d,op:=.call {callee:=.value (.func 55),args:=#[.tmp t,.const (.i 4)],argTypes:=#[55,3]},type:=ty,pos:=pos,after:=aft,guard:=none}).run aC.prog w=.ok (.enter 55 #[.int .u64 n,.i 4]) w:=by
 have c:a.tmps[t]?.getD undef=.int .u64 n:=by simp_all
 simp[execOp,Act.eval,c,go_sem]
end
def qf(w:af)(x:ag)(n:Int):Prop:=∃b,x=.l b 1 1/\w.heap[b]?=.c #[.int .u8 n] 5
theorem qf.below{w:af}{x:ag}{n:Int}(h:qf w x n)(hb:Below w w w'):qf w' x n:=by
 obtain⟨b,e,a⟩:=h;exact⟨b,e,bj a hb⟩
def pB(st s1 nb s2 vv:ah)(bx vr:Nat)(vn:Int)(j:Nat)(x:ag)(w:af):Prop:=match j with
 |0=>x=.s st
 |1=>x=.p bx
 |2=>x=.i vr
 |3=>x=.int .u8 vr
 |4=>qf w x vr
 |5=>x=.s s1
 |6=>x=.s (st++s1)
 |7=>x=.pointer (.a bx 1)
 |8=>x=.i vn
 |9=>x=.int .u64 vn
 |10=>x=.s nb
 |11=>x=.s (st++s1++nb)
 |12=>x=.pointer (.a bx 2)
 |13=>x=.s vv
 |14=>x=.i vv.size
 |15=>x=.int .u8 vv.size
 |16=>qf w x vv.size
 |17=>x=.s s2
 |18=>x=.s (st++s1++nb++s2)
 |19=>x=.pointer (.a bx 2)
 |20=>x=.s vv
 |_=>x=.s (st++s1++nb++s2++vv)
theorem PL{st a c e f:ah}{i vr:Nat}{k:Int}{w:af}(hb:Below w w w'):∀j x,pB st a c e f i vr k j x w->pB st a c e f i vr k j x w':=λj x h=>by
 unfold pB at*;split at h
 all_goals first|exact h|exact h.below hb
def lM(j:Nat):Nat:=if j=22 then 3 else 47+j
theorem Xv{i:Nat}(hi:i<23):∀j,j<23->lM j=lM i->j=i:=λj hj e=>by
 unfold lM at e;grind
theorem aaI(T:aa)(h:T.size=70):T=#[T.getD 0 undef,T.getD 1 undef,T.getD 2 undef,T.getD 3 undef,T.getD 4 undef,T.getD 5 undef,T.getD 6 undef,T.getD 7 undef,T.getD 8 undef,T.getD 9 undef,T.getD 10 undef,T.getD 11 undef,T.getD 12 undef,T.getD 13 undef,T.getD 14 undef,T.getD 15 undef,T.getD 16 undef,T.getD 17 undef,T.getD 18 undef,T.getD 19 undef,T.getD 20 undef,T.getD 21 undef,T.getD 22 undef,T.getD 23 undef,T.getD 24 undef,T.getD 25 undef,T.getD 26 undef,T.getD 27 undef,T.getD 28 undef,T.getD 29 undef,T.getD 30 undef,T.getD 31 undef,T.getD 32 undef,T.getD 33 undef,T.getD 34 undef,T.getD 35 undef,T.getD 36 undef,T.getD 37 undef,T.getD 38 undef,T.getD 39 undef,T.getD 40 undef,T.getD 41 undef,T.getD 42 undef,T.getD 43 undef,T.getD 44 undef,T.getD 45 undef,T.getD 46 undef,T.getD 47 undef,T.getD 48 undef,T.getD 49 undef,T.getD 50 undef,T.getD 51 undef,T.getD 52 undef,T.getD 53 undef,T.getD 54 undef,T.getD 55 undef,T.getD 56 undef,T.getD 57 undef,T.getD 58 undef,T.getD 59 undef,T.getD 60 undef,T.getD 61 undef,T.getD 62 undef,T.getD 63 undef,T.getD 64 undef,T.getD 65 undef,T.getD 66 undef,T.getD 67 undef,T.getD 68 undef,T.getD 69 undef]:=by
 have e:T=Array.ofFn (n:=70) λi=>T.getD i undef:=by
  apply acm
  .simp[h]
  simp_all
 exact e.trans (by generalize (λi=>T.getD i undef)=f;kernel_rfl)
theorem QM(T A:aa)(h:T.size=70)(old:∀s,s≠3->¬(47<=s/\s<69)->T.getD s undef=A.getD s undef):T=#[A.getD 0 undef,A.getD 1 undef,A.getD 2 undef,T.getD 3 undef,A.getD 4 undef,A.getD 5 undef,A.getD 6 undef,A.getD 7 undef,A.getD 8 undef,A.getD 9 undef,A.getD 10 undef,A.getD 11 undef,A.getD 12 undef,A.getD 13 undef,A.getD 14 undef,A.getD 15 undef,A.getD 16 undef,A.getD 17 undef,A.getD 18 undef,A.getD 19 undef,A.getD 20 undef,A.getD 21 undef,A.getD 22 undef,A.getD 23 undef,A.getD 24 undef,A.getD 25 undef,A.getD 26 undef,A.getD 27 undef,A.getD 28 undef,A.getD 29 undef,A.getD 30 undef,A.getD 31 undef,A.getD 32 undef,A.getD 33 undef,A.getD 34 undef,A.getD 35 undef,A.getD 36 undef,A.getD 37 undef,A.getD 38 undef,A.getD 39 undef,A.getD 40 undef,A.getD 41 undef,A.getD 42 undef,A.getD 43 undef,A.getD 44 undef,A.getD 45 undef,A.getD 46 undef,T.getD 47 undef,T.getD 48 undef,T.getD 49 undef,T.getD 50 undef,T.getD 51 undef,T.getD 52 undef,T.getD 53 undef,T.getD 54 undef,T.getD 55 undef,T.getD 56 undef,T.getD 57 undef,T.getD 58 undef,T.getD 59 undef,T.getD 60 undef,T.getD 61 undef,T.getD 62 undef,T.getD 63 undef,T.getD 64 undef,T.getD 65 undef,T.getD 66 undef,T.getD 67 undef,T.getD 68 undef,A.getD 69 undef]:=
 (aaI T h).trans zg
structure UD(nm:ah)(c:Ctx)(l:List aG):Prop where
 nm:nm.size<=8
 ctx:∀i,i<4->0<=c i/\c i<=1000000
 len:l.length<=5000000
 fX:∀v∈l,v.rep<4/\0<=v.n/\v.n<=1000000/\v.val.size<=12
theorem PM(nm:ah)(c:Ctx)(sv:ag)(l:List aG)(w:af)(h:fT w sv l)(hk:UD nm c l):
  Calls aC.prog 74 #[p8 (nm,c,sv)] w λe w'=>e=.r (.s (dY nm c l))/\Below w w w':=by
 obtain⟨ad,cap,rfl,b2,b7⟩:=cz h;have b8:=hk.nm;have HB:Hid (∀(x:Int) W,Calls aC.prog 55 #[.int .u64 x,.i 4] W λe w'=>e=.r (.s (dp x))/\Below W W w'):=λx W=>by
  have:=xV x 4 W zo;rw[Er]at this;exact this
 have HK:Hid _:=hk;have HA:=zu h;clear h hk;go_enter aC.func74,aC.ntmps74;go_wp2;have ao:=zu ((show strOfNums [(nm.size:Int)]++nm=eU nm++gf c 0 by rw[gf,iT,Aj zo zo];rfl));obtain⟨J,F⟩: ∃W,W=(w.alloc (.cells (.q nm c (.slice ad l.length cap)) 82)).alloc (.cells #[.int .u8 nm.size] 5):=⟨_,rfl⟩
 rw[<-F];have aT:Hid (Below w w J):=(by rw[F];exact((zj.alloc zf _).alloc zp _))
 have aq:Hid (J.heap[w.heap.size]?=.c (.q nm c (.slice ad l.length cap)) 82):=(by rw[F,aaO _ _ _ zp];exact By w _)
 have a1:Hid (fT J (.slice ad l.length cap) l):=(by rw[F];exact(aaV HA.out _).alloc _)
 clear F HA;rw[ao.out];clear ao;go_loopw [3,4] (λs i wr=>∃k:Nat,k<=4/\i=.i k/\s=.s (eU nm++gf c k)/\Hid (Below J J wr)) (λ_ i _=>4-(intOf i).toNat)
 case atStart=>exact⟨0,zo,rfl,rfl,zj⟩
 case round=>
  obtain⟨k,b9,rfl,rfl,S⟩:=hrel;have HC:=(aH (bj aq.out S.out)).1;by_cases E:k<4
  .have k1:(k:Int)<4:=zo;have k0:(0:Int)<=(k:Int):=zo;have hc:wr.cell? (.a w (1+k))=.i (c k):=by
    rw[HC];rcases dR E with rfl|rfl|rfl|rfl<;>rfl
   obtain⟨ca,cb⟩:=HK.out.ctx k E;have a6:(eU nm++gf c k).size=1+nm.size+4*k:=by rw[OF,te,ti]
   have HE:=zu ((show eU nm++gf c (k+1)=eU nm++gf c k++dp (c k) by rw[gf,cE]));have V:Hid _:=HB.out (c k);have ar:(dp (c k)).size=4:=rfl;generalize dp (c k)=nb at*;generalize eU nm++gf c k=st at*;generalize c k=ck at*;clear HC HB;go_wp2_with (go_at_call 55;refine AI (V.out _) ?_;rintro e w1 ⟨rfl,G⟩;have X:Hid _:=bk S.out G;clear G)
   exact⟨⟨k+1,zo,by go_num,by rw[HE.out],X.out⟩,zi⟩
  .obtain rfl:k=4:=zo;have c5:wr.cell? (.a w 5)=some (.slice ad l.length cap):=by rw[HC];rfl
   have b3:=HK.out.len;have a7:(l.length:Int)<=5000000:=zo;have V:Hid _:=HB.out (l.length:Int);have a6:(eU nm++gf c 4).size=1+nm.size+16:=by rw[OF,te,ti]
   have ar:(dp (l.length:Int)).size=4:=rfl;have HE:=zu ((show dY nm c l=eU nm++gf c 4++dp (l.length:Int)++dz l by rw[dY,l9,cE,cE]));generalize dp (l.length:Int)=nb at*;generalize a8:eU nm++gf c 4=st at*;clear a8 HC;go_upto_region 7 with (go_at_call 55;refine AI (V.out _) ?_;rintro e w1 ⟨rfl,G⟩;have X:=zu (bk S.out G);clear G)
   have cc:(st++nb).size<=100:=by rw[OF];omega
   generalize b4:st++nb=st2 at*;go_wp2;go_loopw [3,5] (λs i wr=>∃k:Nat,k<=l.length/\i=.i k/\s=.s (st2++dz (l.take k))/\Hid (Below J J wr)) (λ_ i _=>l.length-(intOf i).toNat)
   case atStart=>exact⟨0,zo,rfl,by rw[ado];show _=Value.string (st2++ByteArray.empty);rw[iT],X.out⟩
   case round=>
    obtain⟨k,cd,rfl,rfl,u⟩:=hrel;have c5:wr.cell? (.a w 5)=some (.slice ad l.length cap):=by rw[(aH (bj aq.out u.out)).1];rfl
    by_cases E:k<l.length
    .have hv:=HK.out.fX l[k] (IS E);obtain⟨g,b5,e,_,_,_,z⟩:=dU (bH a1.out u.out zf) zo;cases e;obtain⟨f0,f1,f2⟩:=mU l k E;have d0:=z (k*3) _ zo f0;have d1:=z (k*3+1) _ zo f1;have d2:=z (k*3+2) _ zo f2;have cj:=Dj λv hv=>(HK.out.fX v hv).2.2.2;have cl:=JX l k;have cm:(st2++dz (l.take k)).size<=90000200:=by rw[OF];omega
     have bb:=zu ((show st2++dz (l.take (k+1))=st2++dz (l.take k)++gq l[k] by rw[yp E,cE]));have bc:Hid _:=HB.out l[k].n;have ar:(dp l[k].n).size=4:=rfl;have bd:Hid (gq l[k]=aK l[k].rep++(dp l[k].n++(aK l[k].val.size++l[k].val))):=rfl;generalize av:st2++dz (l.take k)=ft at*;clear av;obtain⟨q1,q2,q3,q4⟩:=hv;generalize l[k]=v at*;obtain⟨vr,L,A⟩:=v;simp only[aG.rep,aG.n,aG.val] at*;generalize dp L=nb2 at*;have k1:(k:Int)<(l.length:Int):=zo;have k0:(0:Int)<=(k:Int):=zo;have cn:(vr:Int)<4:=zo;have cp:(A.size:Int)<=12:=zo;go_upto_region 11 with fail;obtain⟨O,M⟩: ∃W,W=wr.alloc (.cells #[.i vr,.i L,.s A] 88):=⟨_,rfl⟩
     rw[<-M];have Y:O.heap[wr.heap.size]?=.c #[.i vr,.i L,.s A] 88:=by rw[M];exact By wr _
     have bm:Hid (Below J J O):=(by rw[M];exact u.out.alloc u.out.size _)
     have cq:=zu ((show wr<O.heap.size from(IN.1 Y).1));clear M;have bn:Hid (∀W,Below O O W->W.cell? (.a wr 0)=.i vr/\W.cell? (.a wr 1)=.i L/\W.cell? (.a wr 2)=.s A):=λW hW=>by
      have hc:=(aH (bj Y hW)).1;exact⟨hc 0,hc 1,hc 2⟩
     have b6:(0:Int)<=(vr:Int):=zo;clear d0 d1 d2 c5 Y;have HF:Hid (ft++strOfNums [(vr:Int)]++nb2++strOfNums [(A.size:Int)]++A=st2++dz (l.take (k+1))):=(show _=_ by rw[bb.out,bd.out,Aj zo zo,Aj zo zo,cE,cE,cE])
     obtain⟨Z,ab⟩: ∃s,strOfNums [(vr:Int)]=s:=⟨_,rfl⟩
     obtain⟨s2,H⟩: ∃s,strOfNums [(A.size:Int)]=s:=⟨_,rfl⟩
     have cr:Z.size=1:=by rw[<-ab];rfl
     have cv:s2.size=1:=by rw[<-H];rfl
     rw[ab,H]at HF;refine wp_region_any zk ?_;refine A7 (I:=λlisted a w=>gA lM (pB ft Z nb2 s2 A wr vr L) O _ 23 listed a w/\(listed.getD 22 false=true->∀j,j<22->listed.getD j false=true)) ?_ ?_ (λlisted h0 hs=>Ic zk h0 hs) _ _ _ _ rfl zd ⟨gA.start (zj.drew) _ 23,λe=>absurd e zd⟩
     .rintro listed a w i ⟨m,ho⟩ hi;obtain⟨an,ay,f⟩:=qM hi;obtain⟨y0,y1,y2⟩:=bn.out w m.bR;have C:i<23:=an;have v6:a.tmps.getD 6 undef=.p wr.heap.size:=m.old 6 λj hj _ e=>by unfold lM at e;split at e<;>omega
      have az:i<22->¬listed.getD 22 false=true:=λh e=>Jm ay (ho e i h);have R:∀{v w'},Below w w w'->pB ft Z nb2 s2 A wr vr L i v w'->gA lM (pB ft Z nb2 s2 A wr vr L) O _ 23 (listed.setIfInBounds i true) (a.put (some (lM i)) v) w':=λhb hv=>m.step C (by unfold lM;split<;>(show _<70;omega)) (Xv C) hb (PL hb) hv;have fin:∀{v w'},i<22->Below w w w'->pB ft Z nb2 s2 A wr vr L i v w'->gA lM (pB ft Z nb2 s2 A wr vr L) O _ 23 (listed.setIfInBounds i true) (a.put (some (lM i)) v) w'/\((listed.setIfInBounds i true).getD 22 false=true->∀j,j<22->(listed.setIfInBounds i true).getD j false=true):=λh hb hv=>⟨R hb hv,λe=>(((vL (by have:=m.len;omega)).1 e).elim (λe'=>absurd e' zo) λe'=>absurd e' (az h))⟩
      clear ay hi;rcases (show i=0\/i=1\/i=2\/i=3\/i=4\/i=5\/i=6\/i=7\/i=8\/i=9\/i=10\/i=11\/i=12\/i=13\/i=14\/i=15\/i=16\/i=17\/i=18\/i=19\/i=20\/i=21\/i=22 by omega) with rfl|rfl|rfl|rfl|rfl|rfl|rfl|rfl|rfl|rfl|rfl|rfl|rfl|rfl|rfl|rfl|rfl|rfl|rfl|rfl|rfl|rfl|rfl
      .have v3:=m.old 3 λj hj hl e=>(az zo) (by have:j=22:=(by unfold lM at e;split at e<;>omega);rw[<-this];exact hl)
       exact dH rfl rfl (KC _ _ _ _ _ _ _) (fin zo zj v3)
      .exact dH rfl rfl (Pm _ _ _ _ _ _ _ wr v6) (fin zo zj rfl)
      .have v1:=m.new 1 zo (f _ rfl ⟨1,.data⟩ zp rfl);exact dH rfl rfl (Jz _ _ _ _ _ _ _ wr 0 _ v1 y0) (fin zo zj rfl)
      .have v2:=m.new 2 zo (f _ rfl ⟨2,.data⟩ zp rfl);exact dH rfl rfl (Kh _ _ _ _ _ _ _ _ v2 zo zo) (fin zo zj rfl)
      .have v3:=m.new 3 zo (f _ rfl ⟨3,.data⟩ zp rfl);exact dH rfl rfl (DS _ _ _ _ _ _ _ _ v3) (fin zo (zj.alloc zf _) ⟨_,rfl,By w _⟩)
      .obtain⟨b,e1,e2⟩:qf w (a.tmps.getD 51 undef) vr:=m.new 4 zo (f _ rfl ⟨4,.data⟩ zp rfl);exact dH rfl rfl (I8 _ _ _ _ _ _ _ _ b e1 e2) (fin zo zj (by rw[ab];rfl))
      .have v0:=m.new 0 zo (f _ rfl ⟨0,.data⟩ zp rfl);have v5:=m.new 5 zo (f _ rfl ⟨5,.data⟩ zp rfl);exact dH rfl rfl (xy _ _ _ _ _ _ _ _ _ _ v0 v5 zo) (fin zo zj rfl)
      .exact dH rfl rfl (U7 _ _ _ _ _ _ _ wr v6) (fin zo zj rfl)
      .have v7:=m.new 7 zo (f _ rfl ⟨7,.data⟩ zp rfl);exact dH rfl rfl (Jz _ _ _ _ _ _ _ wr 1 _ v7 y1) (fin zo zj rfl)
      .have v8:=m.new 8 zo (f _ rfl ⟨8,.data⟩ zp rfl);exact dH rfl rfl (ZW _ _ _ _ _ _ _ _ v8 zo zo) (fin zo zj rfl)
      .have v9:=m.new 9 zo (f _ rfl ⟨9,.data⟩ zp rfl);refine wF rfl rfl (Zg _ _ _ _ _ _ _ _ v9) ((bc.out w).mono ?_);rintro e w' ⟨rfl,hb⟩;exact⟨_,rfl,fin zo hb rfl⟩
      .have v6:=m.new 6 zo (f _ rfl ⟨6,.data⟩ zp rfl);have bo:=m.new 10 zo (f _ rfl ⟨10,.data⟩ zp rfl);exact dH rfl rfl (xy _ _ _ _ _ _ _ _ _ _ v6 bo (by rw[OF];omega)) (fin zo zj rfl)
      .exact dH rfl rfl (GZ _ _ _ _ _ _ _ wr v6) (fin zo zj rfl)
      .have bp:=m.new 12 zo (f _ rfl ⟨12,.data⟩ zp rfl);exact dH rfl rfl (xE _ _ _ _ _ _ _ wr 2 _ bp y2) (fin zo zj rfl)
      .have br:=m.new 13 zo (f _ rfl ⟨13,.data⟩ zp rfl);exact dH rfl rfl (NL _ _ _ _ _ _ _ _ br) (fin zo zj rfl)
      .have bs:=m.new 14 zo (f _ rfl ⟨14,.data⟩ zp rfl);exact dH rfl rfl (Kh _ _ _ _ _ _ _ _ bs zo zo) (fin zo zj rfl)
      .have bx:=m.new 15 zo (f _ rfl ⟨15,.data⟩ zp rfl);exact dH rfl rfl (DS _ _ _ _ _ _ _ _ bx) (fin zo (zj.alloc zf _) ⟨_,rfl,By w _⟩)
      .obtain⟨b,e1,e2⟩:qf w (a.tmps.getD 63 undef) A.size:=m.new 16 zo (f _ rfl ⟨16,.data⟩ zp rfl);exact dH rfl rfl (I8 _ _ _ _ _ _ _ _ b e1 e2) (fin zo zj (by rw[H];rfl))
      .have bB:=m.new 11 zo (f _ rfl ⟨11,.data⟩ zp rfl);have bL:=m.new 17 zo (f _ rfl ⟨17,.data⟩ zp rfl);exact dH rfl rfl (xy _ _ _ _ _ _ _ _ _ _ bB bL (by rw[OF,OF];omega)) (fin zo zj rfl)
      .exact dH rfl rfl (GZ _ _ _ _ _ _ _ wr v6) (fin zo zj rfl)
      .have bN:=m.new 19 zo (f _ rfl ⟨19,.data⟩ zp rfl);exact dH rfl rfl (xE _ _ _ _ _ _ _ wr 2 _ bN y2) (fin zo zj rfl)
      .have bT:=m.new 18 zo (f _ rfl ⟨18,.data⟩ zp rfl);have bZ:=m.new 20 zo (f _ rfl ⟨20,.data⟩ zp rfl);exact dH rfl rfl (xy _ _ _ _ _ _ _ _ _ _ bT bZ (by rw[OF,OF,OF];omega)) (fin zo zj rfl)
      .have aA:∀j,j<22->listed.getD j false=true:=λj hj=>by
        rcases (show j=0\/j=1\/j=2\/j=3\/j=4\/j=5\/j=6\/j=7\/j=8\/j=9\/j=10\/j=11\/j=12\/j=13\/j=14\/j=15\/j=16\/j=17\/j=18\/j=19\/j=20\/j=21 by omega) with rfl|rfl|rfl|rfl|rfl|rfl|rfl|rfl|rfl|rfl|rfl|rfl|rfl|rfl|rfl|rfl|rfl|rfl|rfl|rfl|rfl|rfl<;>exact f _ rfl ⟨_,.phase⟩ zp rfl
       have b0:=m.new 21 zo (f _ rfl ⟨21,.data⟩ zp rfl);exact dH rfl rfl (O0 _ _ _ _ _ _ _) ⟨R zj b0,λ_ j hj=>(vL (by have:=m.len;omega)).2 (.inr (aA j hj))⟩
     .rintro listed a w ⟨m,_⟩ hz;have hl:∀j,j<23->listed.getD j false=true:=λj hj=>by
       have aB:j<listed.toList.length:=by have:=m.len;simp;omega
       have:=List.count_eq_zero.1 hz;rw[acd,abI (by simpa using aB)];refine aco λhn=>this ?_;have e:listed[j]'(by simpa using aB)=false:=by simpa using hn
       rw[<-e,<-Array.getElem_toList];exact IS _
      have e3:a.tmps.getD 3 undef=.s (ft++Z++nb2++s2++A):=m.new 22 zo (hl 22 zo);have t:=QM a.tmps _ m.size λs h3 cw=>m.old s λj hj _ e=>by unfold lM at e;split at e<;>omega
      have aE:=m.defs;have b1:Hid _:=bk bm.out m.bR;clear m hl hz;obtain⟨T,D⟩:=a;simp only at t aE e3;rw[e3,HF.out]at t;generalize T.getD 47 undef=z47 at t;generalize T.getD 48 undef=z48 at t;generalize T.getD 49 undef=z49 at t;generalize T.getD 50 undef=z50 at t;generalize T.getD 51 undef=z51 at t;generalize T.getD 52 undef=z52 at t;generalize T.getD 53 undef=z53 at t;generalize T.getD 54 undef=z54 at t;generalize T.getD 55 undef=z55 at t;generalize T.getD 56 undef=z56 at t;generalize T.getD 57 undef=z57 at t;generalize T.getD 58 undef=z58 at t;generalize T.getD 59 undef=z59 at t;generalize T.getD 60 undef=z60 at t;generalize T.getD 61 undef=z61 at t;generalize T.getD 62 undef=z62 at t;generalize T.getD 63 undef=z63 at t;generalize T.getD 64 undef=z64 at t;generalize T.getD 65 undef=z65 at t;generalize T.getD 66 undef=z66 at t;generalize T.getD 67 undef=z67 at t;generalize T.getD 68 undef=z68 at t;clear e3;simp only[acd,List.getElem?_toArray,List.getElem?_cons_succ,List.getElem?_cons_zero,Option.getD_some]at t;subst t aE;go_wp2;exact⟨⟨k+1,zo,by go_num,rfl,b1.out⟩,zi⟩
    .obtain rfl:k=l.length:=zo;go_wp2;go_ret;refine⟨?_,bk aT.out u.out⟩;rw[HE.out,abF];rfl
end
def eS(K:aL)(n:Nat)(l:List aY):List (ah×Ctx×List aG):=(l.filter λq=>decide (aZ q.1=n)).map λq=>(q.1,(K q.1).1,(K q.1).2)
theorem YA{n k:Nat}{l:List aY}(h:k<l.length)(hs:aZ l[k].1=n):eS K n (l.take (k+1))=eS K n (l.take k)++ [(l[k].1,(K l[k].1).1,(K l[k].1).2)]:=by
 rw[eS,eS,abE h,List.filter_append,abZ];simp[hs]
theorem Lc{n k:Nat}{l:List aY}(h:k<l.length)(hs: ¬aZ l[k].1=n):eS K n (l.take (k+1))=eS K n (l.take k):=by
 rw[eS,eS,abE h,List.filter_append,abZ];simp[hs]
theorem Ga(rs:List (ah×Ctx×List aG))(r:ah×Ctx×List aG):fW (rs++ [r])=fW rs++dY r.1 r.2.1 r.2.2:=by simp[fW,acv]
theorem Dm(K:aL)(n:Nat)(l:List aY):(eS K n l).length<=l.length:=by
 rw[eS,abe];grind
def ye(l:List aY):Prop:=∀q∈l,q.1.size<=8
theorem Ek(a:cF K){l:List aY}(c:ye l)(n:Nat):(fW (eS K n l)).size<=90000029*l.length:=by
 have h:=AA (l:=eS K n l) λr e=>by
  obtain⟨q,f,rfl⟩:=aaW.1 e;exact⟨c q (acw.1 f).1,IT (a q.1).len zd,λv hv=>((a q.1).each v hv).2.2⟩
 have i:=Dm K n l;omega
theorem TL(rb num n:Nat)(sv:ag)(l:List aY)(K:aL)(w:af)(h:cG w rb num sv l K)(hK:cF K)(I:∀s,∀v∈(K s).2,0<=v.n)(z:ye l)(hlen:l.length<=1300000)(hn:n<64):
  Calls aC.prog 50 #[.pointer (some ⟨rb,0,none⟩),.int .i64 n] w λe w'=>e=.returned (.tuple #[.string (fW (eS K n l)),.int .i64 (eS K n l).length])/\Below w.heap.size w w':=by
 obtain⟨ad,cap,rfl,av,aA⟩:=cz h.ref.2;have HT:Hid (∀W,Below w w W->cG W rb num (.slice ad l.length cap) l K):=λW Z=>h.below Z;have J:Hid (∀k,(fW (eS K n (l.take k))).size<=117100000000000/\(eS K n (l.take k)).length<=1300000):=λk=>by
  have h1:=Ek hK (l:=l.take k) (λq f=>z q (List.mem_of_mem_take f)) n;have h2:=Dm K n (l.take k);have h3:(l.take k).length<=l.length:=by rw[acN];omega
  exact⟨zo,zo⟩
 have C:Hid (∀(k:Nat) (E:k<l.length) W,Below w w W->Calls aC.prog 74 #[p8 l[k]] W λe w'=>e=.r (.s (dY l[k].1 (K l[k].1).1 (K l[k].1).2))/\Below w w w'):=λk E W Z=>by
  have f:=vH h.sorted (IS E);have ht:=(h.below Z).at_ l[k].1;rw[f]at ht;have hS:=hK l[k].1
  have:=PM l[k].1 (K l[k].1).1 l[k].2.2 (K l[k].1).2 W ht.2 ⟨z _ (IS E),hS.ctx,hS.len,λv hv=>by
   obtain⟨a1,a2,a3⟩:=hS.each v hv
   have:=hS.ctx v.rep a1;exact⟨a1,I _ v hv,zo,a3⟩⟩
  rw[show((l[k].1,(K l[k].1).1,l[k].2.2):aY)=l[k] from by rw[<-ht.1]]at this;exact this.mono λe w' ⟨he,hb⟩=>⟨he,bk Z hb⟩
 have L:Hid (∀(k:Nat) (E:k<l.length) W,Calls aC.prog 73 #[.string l[k].1] W λe w'=>e=.returned (.int .u64 (ga l[k].1))/\w'=W):=λk E W=>xS _ W (by have:=z _ (IS E);unfold maxLen;omega);have ay:(n:Int)<64:=zo;clear h hK I z;go_enter aC.func50,aC.ntmps50;go_wp2;go_loopw [6,7,8] (λs c i wr=>∃k:Nat,k<=l.length/\i=.i k/\s=.s (fW (eS K n (l.take k)))/\c=.i (eS K n (l.take k)).length/\Hid (Below w w wr)) (λ_ _ i _=>l.length-(intOf i).toNat)
 case atStart=>exact⟨0,zo,rfl,rfl,rfl,zj⟩
 case round=>
  obtain⟨k,E,rfl,rfl,rfl,HB⟩:=hrel;have hT:=HT.out wr HB.out;have c1:wr.cell? (.a rb 1)=some (.slice ad l.length cap):=by rw[(aH hT.ref.1).1];rfl
  by_cases m:k<l.length
  .obtain⟨g,az,e,_,_,_,p⟩:=dU hT.ref.2 zo;cases e;have f:∀j,j<6->wr.cell? (.a g (k*6+j))=(fU l[k])[j]? :=λj hj=>by
    have:=q6 l k m j hj;rw[<-this];have M:k*6+j<(flatK l).length:=by rw[xq];omega
    rw[abG M];exact p _ _ zo (abG M)
   have HR:Hid _:=C.out k m;have HS:Hid _:=L.out k m;obtain⟨ab,aB⟩:=J.out k;have t:Hid (aZ l[k].1=n->eS K n (l.take (k+1))=eS K n (l.take k)++ [(l[k].1,(K l[k].1).1,(K l[k].1).2)]):=YA m;have u:Hid (¬aZ l[k].1=n->eS K n (l.take (k+1))=eS K n (l.take k)):=Lc m;have A:=J.out (k+1);have D:=Fe l[k].1;have O:=(pY l[k].1 l[k].1.size).1;have S:=(pY l[k].1 l[k].1.size).2;have d0:wr.cell? (.a g (k*6))=.s l[k].1:=f 0 zo;have d1:wr.cell? (.a g (k*6+1))=.i (l[k].2.1 0):=f 1 zo;have d2:wr.cell? (.a g (k*6+2))=.i (l[k].2.1 1):=f 2 zo;have d3:wr.cell? (.a g (k*6+3))=.i (l[k].2.1 2):=f 3 zo;have d4:wr.cell? (.a g (k*6+4))=.i (l[k].2.1 3):=f 4 zo;have d5:wr.cell? (.a g (k*6+5))=some l[k].2.2:=f 5 zo;have k1:(k:Int)<(l.length:Int):=zo;have k0:(0:Int)<=(k:Int):=zo;clear f p hT C L;generalize an:eS K n (l.take k)=R at*;clear an;generalize l[k]=q at*;obtain⟨nm,c,v⟩:=q;simp only at*;generalize G:ga nm=F at*;have aE:0<=F:=by rw[<-G];exact O
   have aT:F<18446744073709551616:=by rw[<-G];exact S
   clear O S G;have n0:(0:Int)<=(n:Int):=zo;by_cases hs:aZ nm=n
   .have ao:F%64=(n:Int):=zo;have aq:=A.1;have hR:=t.out hs;rw[hR,Ga,OF]at aq;have T:=A.2;rw[hR,abo]at T;simp only[acQ]at T;have V:Hid (fW (eS K n (l.take (k+1)))=fW R++dY nm (K nm).1 (K nm).2/\(eS K n (l.take (k+1))).length=R.length+1):=(show _/\_ by rw[hR,Ga,abo];exact⟨rfl,rfl⟩)
    generalize dY nm (K nm).1 (K nm).2=rc at*;generalize fW R=sb at*;clear t u A D;go_wp2_with (first
     |(go_at_call 73;refine AI (HS.out _) ?_;rintro e w1 ⟨rfl,H⟩;obtain rfl:=H.symm)
     |(go_at_call 74;refine AI (HR.out _ HB.out) ?_;rintro e w2 ⟨rfl,X⟩;have ar:=zu X;clear X))
    exact⟨⟨k+1,zo,by go_num,by rw[V.out.1],by rw[V.out.2];go_num,ar.out⟩,zi⟩
   .have ao: ¬F%64=(n:Int):=zo;have V:=zu (u.out hs);obtain⟨sb,Y⟩: ∃sb,fW R=sb:=⟨_,rfl⟩
    rw[Y]at ab ⊢;clear t u A D HR;go_wp2_with (go_at_call 73;refine AI (HS.out _) ?_;rintro e w1 ⟨rfl,H⟩;obtain rfl:=H.symm)
    exact⟨⟨k+1,zo,by go_num,by rw[V.out,Y],by rw[V.out],HB.out⟩,zi⟩
  .obtain rfl:k=l.length:=zo;rw[abF];go_wp2;go_ret2;exact⟨rfl,HB.out⟩
end Go.Proofs.YtldmcdeibiclkaaGreatQ
