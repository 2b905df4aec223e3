/-
  Toward all_holds
-/
import Derived.Test.YtldmcdeibiclkaaGreatC22
import Derived.Test.YtldmcdeibiclkaaGreatC01
set_option linter.all false
noncomputable section
set_option maxRecDepth 100000
set_option maxHeartbeats 20000000
namespace Go.Proofs.YtldmcdeibiclkaaGreatQ
variable {w W w1 W':af}{b B lev bb bs br:Nat}{v:ag}{T:ak->Prop}{es:List aw}{xs:ae}{α:Type}{bm:Nat->Nat}{K:aL}{e t:ak}{s0 r':RS}{rc:List Rc}
open Go.RowKit
section
open Go.Lib (strCells strCells_length strCells_oneCell)
def dg(T:Nat->ah):Nat->Nat->Int
 |0,n=>ga (T n)
 |h+1,n=>jy λj=>dg T h (n*4+j)
@[simp]theorem aC.call95(args:aa)(w:af):Sem.run aC.prog (callFunc 95 args) w=.ok (.enter 95 args) w:=aC.aP aC.func95 zk rfl args w
def IB:ag->Nat
 |.slice _ n _=>n
 |_=>0
theorem T6(T:Nat->ah)(k n m:Nat):((List.range m).map λi=>jy λj=>(λi=>dg T k (n*(m*4)+i)) (i*4+j))=(List.range m).map λi=>dg T (k+1) (n*m+i):=by
 apply aci;intro i _;rw[dg];grind
theorem ON(b lv n:Nat)(T:Nat->ah)(w:af)(R:∀k:Nat,k<64->∀W,Below w w W->Calls aC.prog 49 #[.p b,.i k] W λe w'=>e=.r (.s (T k))/\Below W W w')(u:∀k,k<64->(T k).size<=maxLen)(hl:lv<=3)(S:n<4 ^ lv):
  Calls aC.prog 75 #[.i lv,.i n,.func (.func 49) #[.p b] #[]] w λe w'=>e=.r (.int .u64 (dg T (3-lv) n))/\Below w w w':=by
 obtain⟨h,U⟩: ∃h,h=3-lv:=⟨_,rfl⟩
 have x:h<=3:=zo;have e1:(3:Int)-(lv:Int)=(h:Int):=zo;have y:4 ^ lv*4 ^ h=64:=by
  rw[<-Nat.pow_add,show lv+h=3 by omega]
 obtain⟨c,a⟩: ∃c,c=4 ^ h:=⟨_,rfl⟩
 have z:c=1\/c=4\/c=16\/c=64:=by
  rw[a];rcases Jc x with rfl|rfl|rfl|rfl<;>decide
 have V:n*c+c<=64:=by
  rw[<-y,<-a,<-Nat.succ_mul];exact Nat.mul_le_mul_right c S
 have X:Hid (∀W,Calls aC.prog 70 #[.i (h:Int)] W λe w'=>e=.r (.i (c:Int))/\w'=W):=λW=>by rw[a];exact DV h x W
 have Y:=OI b (n*c) c T w R u z V;have d:Hid (Calls aC.prog 95 #[.i ((n:Int)*(c:Int)),.i c,.func (.func 49) #[.p b] #[]] w λe w'=>∃v,e=.r v/\jh w' w v ((List.range c).map λi=>ga (T (n*c+i)))/\Below w w w'):=(by rw[<-Int.natCast_mul];exact Y)
 have L:(n:Int)*(c:Int)<=64:=by rw[<-Int.natCast_mul];omega
 have A:(0:Int)<=(n:Int)*(c:Int):=by rw[<-Int.natCast_mul];omega
 have aq:c<=64:=zo;have C:Hid (((List.range c).map λi=>ga (T (n*c+i)))=(List.range (4 ^ (h-0))).map λi=>dg T 0 (n*4 ^ (h-0)+i)):=(show _=_ by rw[Nat.sub_zero,<-a];rfl)
 rw[<-U];clear Y R u y V z a U S;go_enter aC.func75,aC.ntmps75;go_wp2_with (first
  |(go_at_call 70;refine AI (X.out _) ?_;rintro e w0 ⟨rfl,M⟩;obtain rfl:=M.symm)
  |(go_at_call 95;go_loud (refine AI d.out ?_;rintro e w1 ⟨v1,rfl,f,D⟩;rw[C.out]at f;have N:Hid _:=f;have O:Hid _:=D;clear f D)))
 clear X d C L A e1;go_loopw [8] (λo wr=>∃k:Nat,k<=h/\Hid (jh wr w o ((List.range (4 ^ (h-k))).map λi=>dg T k (n*4 ^ (h-k)+i)))/\Hid (Below w w wr)) (λo _=>IB o)
 case atStart=>exact⟨0,zo,N.out,O.out⟩
 case round=>
  obtain⟨k,hk,Z,hb⟩:=hrel;have I:=zu Z.out;have HB:=zu hb.out;have E:=hb.out.size;clear Z hb;by_cases ar:k<h
  .obtain⟨m,J⟩: ∃m,m=4 ^ (h-(k+1)):=⟨_,rfl⟩
   have hL:4 ^ (h-k)=m*4:=by rw[J,<-acR];congr 1;omega
   have F:1<=m/\m<=16:=by
    have:h-(k+1)=0\/h-(k+1)=1\/h-(k+1)=2:=zo;rw[J];rcases this with e|e|e<;>rw[e]<;>decide
   have j:jh wr w u8 ((List.range (m*4)).map λi=>dg T k (n*(m*4)+i)):=by have:=I.out;rw[hL]at this;exact this
   obtain⟨ad,cap,rfl,ab,_⟩:=j.len;have HP:Hid _:=Qq w m _ (λi=>dg T k (n*(m*4)+i)) wr F j;have HU:Hid _:=T6 T k n m;have P:=zu J;simp only[abe,List.length_range] at*;have av:(1:Int)<(m:Int)*4:=zo;clear I j hL J;go_wp2_with (go_at_call 96;refine AI HP.out ?_;rintro e w2 ⟨v2,rfl,l,G⟩;rw[HU.out]at l;have H:Hid (jh w2 w v2 ((List.range m).map λi=>dg T (k+1) (n*m+i))):=bU l E;have Q:=zu (HB.out.trans (G.mono E));clear l G)
   refine⟨⟨k+1,zo,?_,Q.out⟩,?_⟩
   .show jh _ _ _ _;rw[<-P.out];exact H.out
   .obtain⟨ay,an,e2,_⟩:=H.out.len;rw[e2];simp[IB];omega
  .obtain rfl:k=h:=zo;have q:jh wr w u8 [dg T k n]:=by
    have:=I.out;rw[Nat.sub_self]at this;simpa using this
   obtain⟨g,cap,rfl,az,aA⟩:=xx q (k:=0) rfl;have aB:(cap:Int)<=9223372036854775807:=by
    obtain⟨ad,ao,e,hc,_⟩:=q.len;cases e;exact hc
   simp only[acQ] at*;clear I q;go_wp2;go_ret;exact⟨rfl,HB.out⟩
end
section
open Go.Lib (strCells strCells_length strCells_oneCell)
def cC(w:af)(bm:Nat->Nat)(K:aL)(lv n:Nat):Int:=dg (gG w bm K) (3-lv) n
theorem Vm{num:Nat}(h:aV w b bm num K)(d:gi w bm K):∀k:Nat,k<64->∀W,Below w.heap.size w W->Calls aC.prog 49 #[.pointer (some ⟨b,0,none⟩),.int .i64 k] W λe w'=>e=.returned (.string (gG w bm K k))/\Below W.heap.size W w':=λk c W a=>by
 have e:gG W bm K k=gG w bm K k:=Fi (a.block _ (h.2.1 k c).lt);rw[<-e];exact EJ b num k bm K W (h.below a) (d.below h a) c
theorem Uw{num:Nat}(h:aV w b bm num K)(a:gi w bm K):∀k,k<64->(gG w bm K k).size<=maxLen:=λk c=>by
 have:=CQ h a c;unfold maxLen;omega
theorem yE(b num lv n:Nat)(bm:Nat->Nat)(K:aL)(w:af)(h:aV w b bm num K)(c:gi w bm K)(hl:lv<=3)(d:n<4 ^ lv):
  Calls aC.prog 51 #[.p b,.i lv,.i n] w λe w'=>e=.r (.int .u64 (cC w bm K lv n))/\Below w w w':=by
 have f:Hid _:=ON b lv n (gG w bm K) w (Vm h c) (Uw h c) hl d;have g:Hid (dg (gG w bm K) (3-lv) n=cC w bm K lv n):=rfl;generalize cC w bm K lv n=D at*;clear h c;go_enter aC.func51,aC.ntmps51;go_wp2_with (go_at_call 75;refine AI f.out ?_;rintro e w1 ⟨rfl,a⟩;rw[g.out];have j:Hid _:=a;clear a)
 go_ret;exact⟨rfl,j.out⟩
theorem Tm(b num lv n:Nat)(bm:Nat->Nat)(K:aL)(w:af)(h:aV w b bm num K)(f:gi w bm K)(hl:lv<=3)(c:n<4 ^ lv):
  Calls aC.prog 21 #[.p b,.i lv,.i n] w λe w'=>e=.r (.tuple #[.int .u64 (cC w bm K lv n),.i 0])/\Below w w w':=by
 have g:Hid _:=yE b num lv n bm K w h f hl c;have j:Hid _:=λW=>by
  have:=xB lv n zo W;rwa [show decide (lv<=3/\n<4 ^ lv)=true by simp[hl,c]]at this
 generalize cC w bm K lv n=D at*;clear h f c;go_enter aC.func21,aC.ntmps21;go_wp2_with (first
  |(go_at_call 48;refine AI (j.out _) ?_;rintro e w0 ⟨rfl,d⟩;obtain rfl:=d.symm)
  |(go_at_call 51;refine AI g.out ?_;rintro e w1 ⟨rfl,a⟩;have k:Hid _:=a;clear a))
 go_ret2;exact⟨rfl,k.out⟩
theorem ZF(b num n:Nat)(bm:Nat->Nat)(K:aL)(w:af)(h:aV w b bm num K)(d:gi w bm K)(f:n<64):
  Calls aC.prog 19 #[.p b,.i n] w λe w'=>e=.r (.tuple #[.s (gG w bm K n),.i 0])/\Below w w w':=by
 have g:Hid _:=EJ b num n bm K w h d f;have j:Hid (∀W,Calls aC.prog 48 #[.i 3,.i n] W λe w'=>e=.r (.bool true)/\w'=W):=λW=>by
  have:=xB 3 n zo W;rwa [show decide (3<=3/\n<4 ^ 3)=true by simp;omega]at this
 generalize gG w bm K n=D at*;clear h d f;go_enter aC.func19,aC.ntmps19;go_wp2_with (first
  |(go_at_call 48;refine AI (j.out _) ?_;rintro e w0 ⟨rfl,c⟩;obtain rfl:=c.symm)
  |(go_at_call 49;refine AI g.out ?_;rintro e w1 ⟨rfl,a⟩;have k:Hid _:=a;clear a))
 go_ret2;exact⟨rfl,k.out⟩
def kK(d:Int):ByteArray:=aK 82++eA d
theorem ZL(d:Int)(w:af):
  Calls aC.prog 54 #[.agg #[.int .u64 d]] w λe w'=>e=.r (.s (kK d))/\Below w w w':=by
 have aT:bF ((w.alloc (.cells #[.int .u64 d] 104)).alloc (.cells #[.int .u8 82] 5)) (w.heap.size+1) (.l (w.heap.size+1) 1 1) (aK 82):=
  ⟨rfl,Or.inr ⟨w.heap.size+1,1,#[.int .u8 82],rfl,zf,mH w _ _,zf,zd,rfl,rfl⟩⟩
 have g:Hid _:=Ca (w.heap.size+1) _ _ d _ aT zp zd;have a:Hid _:=aT;clear aT;go_enter aC.func54,aC.ntmps54;go_wp2_with (go_at_call 77;refine AI g.out ?_;rintro e w1 ⟨v1,rfl,c,f⟩;have hcv:=sx c;have h:=zu ((f.toBelow (((aaP (w.heap.size) w).alloc zf _).alloc zp _) zt (bU a.out zo)));clear c f)
 go_ret;exact⟨rfl,h.out⟩
theorem Td(b num:Nat)(bm:Nat->Nat)(K:aL)(w:af)(h:aV w b bm num K)(g:gi w bm K):
  Calls aC.prog 23 #[.p b] w λe w'=>e=.r (.s (kK (cC w bm K 0 0)))/\Below w w w':=by
 have i:Hid _:=yE b num 0 0 bm K w h g zd zd;generalize cC w bm K 0 0=D at*;clear h g;go_enter aC.func23,aC.ntmps23;go_wp2_with (first
  |(go_at_call 51;refine AI i.out ?_;rintro e w1 ⟨rfl,a⟩;have c:Hid _:=a;clear a)
  |(go_at_call 54;refine(ZL D _).mono ?_;rintro e w2 ⟨rfl,d⟩;have f:Hid _:=c.out.trans (d.mono c.out.size);clear d))
 go_ret;exact⟨rfl,f.out⟩
end
abbrev aJ:=ah×Ctx×List aG
theorem yV{d a:Nat->Int}:∀k,(∀i,i<k->d i=a i)->cu d k=cu a k
 |0,_=>rfl
 |k+1,h=>by rw[cu,cu,yV k λi hi=>h i zo,h k zo]
theorem Cr{T a:Nat->ah}(h:∀k,k<64->T k=a k):∀j,j<=3->∀n,n<4 ^ (3-j)->dg T j n=dg a j n
 |0,_,n,c=>by rw[dg,dg,h n (by simpa using c)]
 |j+1,hj,n,c=>by
  have d:4 ^ (3-j)=4 ^ (3-(j+1))*4:=by rw[<-acR];congr 1;omega
  rw[dg,dg,jy,jy,yV 4 λi hi=>Cr h j zo _ zo]
def Jt(T:Nat->ah):∀j n,0<=dg T j n/\dg T j n<18446744073709551616
 |0,_=>pY _ _
 |_+1,_=>pY _ _
theorem uF{num:Nat}(h:aV w b bm num K)(hb:Below w w W){lv n:Nat}(hl:lv<=3)(c:n<4 ^ lv):cC W bm K lv n=cC w bm K lv n:=
 Cr (λk a=>Fi (hb.block _ (h.2.1 k a).lt)) _ zo _ zg
def VK{s:ah}(a:gk es){e:aw}(c:e∈es)(hs:e.key=.s s):cS es s≠none:=λh=>yT a h e c hs
theorem Sy(c:gk es){x:List UInt8}(d:x∈jT (fE es)):cS es (eG x)≠none:=by
 rw[(pq _).mem_iff,fE,aaW]at d;obtain⟨e,f,rfl⟩:=d;obtain⟨k,a⟩:=c e f;refine VK c f ?_;simp[rW,a,xQ]
theorem T5{s:ah}(h:cS es s≠none)(d:gk es):s.data.toList∈jT (fE es):=by
 rw[(pq _).mem_iff,fE,aaW];have: ∃e∈es,e.key=.s s:=by
  refine aco λf=>h ?_;have key:∀l:List aw,(∀e∈l,e∈es)->cS l s=none:=λl=>by
   induction l with
   |nil=>intro _;rfl
   |cons e l i=>
    intro hl;obtain⟨k,a⟩:=d e (hl e zp);have c: ¬s=k:=λq=>f ⟨e,hl e zp,by rw[a,q]⟩;simp only[cS,a,AT c];grind
  grind
 obtain⟨e,g,hs⟩:=this;exact⟨e,g,by simp[rW,hs]⟩
theorem LA(f:List (List UInt8)):(jT f).Pairwise λa b=>a<=b:=by
 have:=List.pairwise_mergeSort (le:=λ(x y:List UInt8)=>decide (x<=y)) (λa b c g h=>zg) (λa b=>zg) f;exact this.imp λ{a b} d=>by simpa using d
theorem YW(d:gk es)(h:(es.map (·.key)).Nodup):(fE es).Nodup:=by
 unfold fE;unfold List.Nodup at*;rw[acs] at*;refine List.Pairwise.imp_of_mem (λ{a b} i hb c e=>c ?_) h;obtain⟨x,f⟩:=d a i;obtain⟨y,g⟩:=d b hb;simp only[rW,f,g]at e;rw[f,g];congr 1;exact acj (Array.ext' e)
theorem QU(f:gk es)(h:(es.map (·.key)).Nodup):(jT (fE es)).Pairwise λa b=>a<b:=by
 have c:=LA (fE es);have d:=(pq _).nodup_iff.2 (YW f h);refine List.Pairwise.imp (λ{a b} ⟨c,d⟩=>?_) (List.Pairwise.and c d);grind
def mf(key last:ah):Bool:=!(Op.bytesLess key.toList last.toList||key.toList==last.toList)
def kN(n:Nat)(last:ah)(t:aJ):Bool:=mf t.1 last&&@decide (kL t n) (Classical.propDecidable _)
def eZ(n:Nat):Nat->ah×List aJ×RS->ah×List aJ×RS
 |0,x=>x
 |k+1,x=>if x.2.2.2=true then x else eZ n k ((cg x.2.2).1.1,x.2.1++ [(cg x.2.2).1],ba (kN n x.1 (cg x.2.2).1) (cg x.2.2).2)
def bW(n:Nat)(r:RS):List aJ×RS:=(eZ n (aF 4 r).1 (⟨#[]⟩,[],(aF 4 r).2)).2
theorem qL(n k:Nat){x:ah×List aJ×RS}(h:x.2.2.2=true):eZ n k x=x:=by
 cases k with
 |zero=>rfl
 |succ k=>rw[eZ,BY h]
theorem uJ{n k:Nat}{x:ah×List aJ×RS}(h:x.2.2.2=false):eZ n (k+1) x=eZ n k ((cg x.2.2).1.1,x.2.1++ [(cg x.2.2).1],ba (kN n x.1 (cg x.2.2).1) (cg x.2.2).2):=by rw[eZ,AT (by simp[h])]
theorem Fg:∀(n:Nat) (x:List aG×RS),(∀v∈x.1,v.val.size<256)->(∀v∈(eF n x).1,v.val.size<256)/\(eF n x).1.length<=x.1.length+n
 |0,x,h=>⟨h,by simp[eF]⟩
 |n+1,x,h=>by
  rw[eF];split
  .exact⟨h,zo⟩
  .have:=Fg n (x.1++ [(bE x.2).1],(bE x.2).2) (λv hv=>by
    rcases abr.1 hv with hv|hv
    .exact h v hv
    .obtain rfl:=abu.1 hv;exact BP _)
   grind
theorem LG(r:RS):(cg r).1.1.size<256/\(∀v∈(cg r).1.2.2,v.val.size<256)/\(cg r).1.2.2.length<4294967296:=by
 have h:=Fg (aF 4 (cH 4 (bX r).2)).1 ([],(aF 4 (cH 4 (bX r).2)).2) zc;have c:=iM 4 (cH 4 (bX r).2) zf;have a:=h.2;simp only[abM,Nat.zero_add]at a;exact⟨BP r,h.1,Nat.lt_of_le_of_lt a c⟩
theorem Rd.mw{wr:af}{size n:Nat}{s:RS}(h:Rd w wr b s)(a:wr.ownsRow w e size v n xs)(c:wr.grownBy w1 v.ownBlock)(d:212≠e):Rd w w1 b s:=
 ⟨⟨jQ c a h.1.1 d,h.1.2⟩,h.2.grown c λk f g=>by
  have:=mF a f;omega⟩
theorem pO{size n k:Nat}(h:w.ownsRow B t size v n xs)(a:v.ownBlock=some k):k<w:=by
 rcases h.2 with⟨h,_⟩|⟨g,cap,c,rfl,_,d,_⟩
 .rw[h]at a;cases a
 .cases a;grind
theorem Ao(h:w.grownBy w1 v.ownBlock){size n:Nat}(l:w.ownsRow B e size v n xs){B' a n':Nat}{d:ak}{v':ag}{c:ae}(f:w.ownsRow B' d a v' n' c)(i:d≠e):w1.ownsRow B' d a v' n' c:=by
 obtain⟨m,j⟩:=f;refine⟨m,?_⟩;rcases j with j|⟨g,cap,k,hv,o,p,r⟩
 .exact Or.inl j
 .exact Or.inr ⟨g,cap,k,hv,o,jQ h l p i,r⟩
structure jZ(w wr:af)(v:ag)(rc:List Rc)(rs:List aJ):Prop where
 row:fD wr w v rc
 bP:rc.map Rc.bP=rs
 vt:∀r∈rc,wr.ownsRow w 117 3 r.sv r.l.length (aQ r.l)
def bA(T:ak->Prop)(w w':af):Prop:=∀(k:Nat) (cs:aa) (t:ak) (fr:Nat×Nat),w.heap[k]?=some (.cells cs t fr)->T t->w'.heap[k]?=some (.cells cs t fr)
theorem bA.row{w':af}(h:bA T w w'){size n:Nat}(d:w.ownsRow B t size v n xs)(f:T t):w'.ownsRow B t size v n xs:=by
 obtain⟨i,a⟩:=d;refine⟨i,?_⟩;rcases a with a|⟨g,cap,c,hv,j,k,r⟩
 .exact Or.inl a
 .exact Or.inr ⟨g,cap,c,hv,j,h _ _ _ _ k f,r⟩
def bA.trans{w2:af}(h:bA T w w1)(c:bA T w1 w2):bA T w w2:=λk cs t fr d a=>c _ _ _ _ (h _ _ _ _ d a) a
def bA.below(h:Below w w w1):bA T w w1:=λ_ _ _ _ a _=>bj a h
theorem bA.rd{s:RS}(h:Rd w w1 b s)(c:cM w b s0)(d: ¬T 212):bA T w w1:=λk cs t fr a f=>h.other a λe=>by
 subst e;rw[c.1]at a;cases a;exact d f
def bA.grown(h:w.grownBy w1 v.ownBlock){size n:Nat}(a:w.ownsRow B e size v n xs)(c: ¬T e):bA T w w1:=λk cs t fr d f=>jQ h a d λg=>c (g ▸ f)
theorem bA.set{A:aa}{fr:Nat×Nat}(hb:w.heap[b]?=some (.cells A t fr))(f: ¬T t)(o:Nat)(v:ag):bA T w (w.setCell (.a b o) v):=λk cs g c d h=>by
 rw[aaS _ _ _ _ (λe=>zg)];exact d
def jZ.de{rs:List aJ}(h:jZ w W v rc rs)(a:bA T W W')(h1:T 152)(c:T 117):jZ w W' v rc rs:=
 ⟨a.row h.row h1,h.bP,λr d=>a.row (h.vt r d) c⟩
def jZ.base{w0:af}{rs:List aJ}(h:jZ w W v rc rs)(hb:w0<=w.heap.size):jZ w0 W v rc rs:=
 ⟨bU h.row hb,h.bP,λr a=>bU (h.vt r a) hb⟩
theorem Oy(b n:Nat)(r0:RS)(w:af)(h:cM w b r0):
  Calls aC.prog 136 #[.p b,.i n] w λe w'=>∃v rc,e=.r v/\jZ w w' v rc (bW n r0).1/\Rd w w' b (bW n r0).2:=by
 obtain⟨i0,bc,bd,bn,bo⟩:=aaY aC.JB;have HN:=zu (xI b r0 w h);have b0:=iM 4 r0 zf;have b1:=h.lt;unfold bW;generalize (aF 4 r0).1=m at*;generalize (aF 4 r0).2=r1 at*;generalize hF:eZ n m (⟨#[]⟩,[],r1)=F at*;have HF:=zu hF;clear h hF;go_enter aC.func136,aC.ntmps136;go_wp2_with (go_at_call 176;refine HN.out.mono ?_;rintro e w1 ⟨rfl,aq⟩;have ar:=zu aq;clear aq)
 clear HN;go_loopw [5,7,8] (λrv lv iv wr=>∃(k:Nat) (rc:List Rc) (last:ah) (l:List aJ) (r:RS),k<=m/\l.length=k/\iv=.int .i64 k/\lv=.string last/\Hid (jZ w wr rv rc l)/\Hid (Rd w wr b r)/\Hid (eZ n (m-k) (last,l,r)=F)) (λ_ _ iv _=>m-(intOf iv).toNat)
 case atStart=>exact⟨0,[],⟨#[]⟩,[],r1,zo,rfl,rfl,rfl,⟨abh _ _ _ _,rfl,λr H=>by cases H⟩,ar.out,HF.out⟩
 case round=>
  obtain⟨k,rc,last,rl,⟨s,q⟩,hk,av,rfl,rfl,HA,f,S⟩:=hrel;clear HF ar;obtain⟨cr,fr⟩:=aH f.out.1.1;have ay:Hid (Calls aC.prog 175 #[.p b] wr λe w'=>e=.r (.bool q)/\w'=wr):=D7 b _ wr f.out.1;by_cases x:k<m/\q=false
  .obtain⟨x,rfl⟩:=x;have k1:(k:Int)<(m:Int):=zo;have b2:decide ((k:Int)<(m:Int))=true:=by simpa using x
   obtain⟨b3,az,b4⟩:=LG (s,false);have L:Hid (eZ n (m-(k+1)) ((cg (s,false)).1.1,rl++ [(cg (s,false)).1],ba (kN n last (cg (s,false)).1) (cg (s,false)).2)=F):=(by have:=S.out;rw[show m-k=(m-(k+1))+1 by omega,uJ rfl]at this;exact this)
   have M:=hid (XS b (s,false) wr f.out.1);generalize (cg (s,false)).1=t at*;generalize (cg (s,false)).2=r' at*;obtain⟨key,c,l⟩:=t;simp only at*;have aA:Hid (Calls aC.prog 177 #[.p b] wr λe w'=>∃ad cap,e=.r (.agg (.q key c (.slice ad l.length cap)))/\w'.ownsRow w 117 3 (.slice ad l.length cap) l.length (aQ l)/\jZ w w' u5 rc rl/\Rd w w' b r'/\w<=w'.heap.size):=by
    refine M.out.mono ?_;rintro e w' ⟨sv,rfl,N,o⟩;obtain⟨ad,cap,rfl⟩:=dS N;have hA:=HA.out;exact⟨ad,cap,rfl,bU N f.out.2.size,⟨o.row f.out.1 hA.row zd,hA.bP,λr H=>o.row f.out.1 (hA.vt r H) zd⟩,f.out.trans o,(f.out.trans o).2.size⟩
   have bp:Hid (∀ad cap W,aU W (.slice ad l.length cap) l->Calls aC.prog 178 #[.agg (.q key c (.slice ad l.length cap)),.i n] W λe w'=>∃z:Bool,e=.r (.bool z)/\(z=true↔kL (key,c,l) n)/\Below W W w'):=λad cap W hW=>XN key c _ l n W hW zo (λv hv=>by have:=az v hv;unfold maxLen;omega) ze;have HM:=zu (λc W r hW=>uZ b c r W hW);have O:rc.length=k:=by have:=congrArg List.length HA.out.bP;rw[abe,av]at this;exact this
   clear M S az;have aB:Hid (∀z:Bool,(z=true↔mf key last=true/\kL (key,c,l) n)->kN n last (key,c,l)=z):=λz hz=>by
    rw[acU,hz];simp[kN]
   have P:Hid (∀(ad:Option Addr) (cap I d:Nat) (z:Bool) (w2 w3 w4:af),(z=true↔mf key last=true/\kL (key,c,l) n)->w2.ownsRow w 117 3 (.slice ad l.length cap) l.length (aQ l)->jZ w w2 u5 rc rl->bA (λt=>t≠212) w2 w3->Rd w w3 b (ba z r')->w4.ownsRow w 152 6 (.l I (k+1) d) (k+1) (lD rc++ [.s key,.i (c 0),.i (c 1),.i (c 2),.i (c 3),.slice ad l.length cap])->cV (w3.alloc (.cells (.q key c (.slice ad l.length cap)) 152)) w4 u5 (.l I (k+1) d)->
     ∃(k':Nat) (bx:List Rc) (y:ah) (l':List aJ) (r:RS),k'<=m/\l'.length=k'/\Value.int .i64 (k+1:Nat)=.i k'/\Value.string key=.s y/\Hid (jZ w w4 (.l I (k+1) d) bx l')/\Hid (Rd w w4 b r)/\Hid (eZ n (m-k') (y,l',r)=F)):=by
    intro ad cap I d z w2 w3 w4 hz bB A hK o bL U;have aE:=A.de hK zd zd;have hb:Below w3 w3 (w3.alloc (.cells (.q key c (.slice ad l.length cap)) 152)):=zj.alloc zf _;have aT:=bH aE.row hb zf;have hF:=L.out;rw[aB.out z hz]at hF;refine⟨k+1,rc++ [⟨key,c,.slice ad l.length cap,l⟩],key,rl++ [(key,c,l)],_,zo,by simp[av],rfl,rfl,⟨?_,?_,?_⟩,(o.below hb).mw aT U.grown zd,hF⟩
    .unfold fD;rw[abo,O,CG];exact bL
    .rw[abZ,A.bP];rfl
    .intro r H;rcases abr.1 H with H|H
     .exact Ao U.grown aT (bH (aE.vt r H) hb zf) zd
     .obtain rfl:=abu.1 H;exact Ao U.grown aT (bH (hK.row bB zd) hb zf) zd
   cases bN:(Op.bytesLess key.toList last.toList||key.toList==last.toList)
   all_goals
    have V:mf key last=!(Op.bytesLess key.toList last.toList||key.toList==last.toList):=rfl;rw[bN]at V;clear L aB;go_wp2_with (first
     |(go_at_call 177;refine aA.out.mono ?_;rintro e w2 ⟨ad,cap,rfl,C,A,Q,bZ⟩;have X:=zu C;have J:=zu A;have g:=zu Q;have j:Hid ((w2.alloc (.cells (.q key c (.slice ad l.length cap)) 152)).heap[w2.heap.size]?=.c (.q key c (.slice ad l.length cap)) 152/\Below w2 w2 (w2.alloc (.cells (.q key c (.slice ad l.length cap)) 152))):=⟨By w2 _,zj.alloc zf _⟩;have HZ:Hid (∀z:Bool,¬mf key last=true->z=false->(z=true↔mf key last=true/\kL (key,c,l) n)):=(λz h1 h2=>by simp[h1,h2]);clear C A Q)
     |(go_at_call 175;refine ay.out.mono ?_;rintro e w' ⟨rfl,bR⟩;subst w')
     |(go_at_call 178;refine(bp.out ad cap _ (bU (bH X.out j.out.2 zf) (aaZ _))).mono ?_;rintro e w3 ⟨z,rfl,hz,Y⟩;have D:Hid (w3.heap[w2.heap.size]?=.c (.q key c (.slice ad l.length cap)) 152/\Below w2 w2 w3):=⟨bj j.out.1 Y,bk j.out.2 Y⟩;have HZ:Hid (z=true↔mf key last=true/\kL (key,c,l) n):=(by show _↔_;rw[hz,V];simp);clear Y hz)
     |(go_at_call 102;refine(HM.out _ _ r' (g.out.1.below (by first|exact D.out.2|exact j.out.2))).mono ?_;rintro e w4 ⟨rfl,u⟩;have Z:=u.other (by first|exact D.out.1|exact j.out.1) (by have:=g.out.1.lt;omega);obtain⟨c4,f4⟩:=aH Z;have ab:Hid _:=Z;have an:Hid (bA (λt=>t≠212) w2 w4):=(by first|exact(bA.below D.out.2).trans (bA.rd u (g.out.1.below D.out.2) (λh=>h rfl))|exact(bA.below j.out.2).trans (bA.rd u (g.out.1.below j.out.2) (λh=>h rfl)));have ao:Hid (Rd w w4 b _):=(by first|exact(g.out.below D.out.2).trans u|exact(g.out.below j.out.2).trans u);have bT:=zu ((by have:=(J.out.de an.out zd zd).row;unfold fD at this;rw[O]at this;exact this));clear u Z)
     |(at_builtin;refine kj _ rfl _ _ _ rfl w 152 i0 _ 6 72 aC.underlying126 bc bd bn bo rfl zo u5 _ _ rfl (aaV bT.out _) (.a w4 0) 1 1 _ rfl (by rfl) (aaT (By w4 _)) zv zo ze zo (by have:=ao.out.2.size;simp;omega) ?_;intro I d w5 E G;have R:some w2.heap.size≠u5.ownBlock:=λe=>by {have h1:=J.out.row;exact Nat.lt_irrefl _ (pO h1 e.symm)};obtain⟨c5,f5⟩:=aH ((G.grown.block w2 (by have:=(IN.1 ab.out).1;simp;omega) R).trans ((aaO w4 _ _ (IN.1 ab.out).1).trans ab.out));have a1:Hid (w5.ownsRow w 152 6 (.l I (k+1) d) (k+1) (lD rc++ [.s key,.i (c 0),.i (c 1),.i (c 2),.i (c 3),.slice ad l.length cap])):=E;have a6:Hid (cV (w4.alloc (.cells (.q key c (.slice ad l.length cap)) 152)) w5 u5 (.l I (k+1) d)):=G;clear E G R))
    refine⟨?_,zi⟩;rw[show Value.int .i64 _=Value.int .i64 ((k+1:Nat):Int) by go_num];first
     |exact P.out ad cap I d z w2 w4 w5 HZ.out X.out J.out an.out ao.out a1.out a6.out
     |exact P.out ad cap I d false w2 w4 w5 (HZ.out _ (by simp[V]) rfl) X.out J.out an.out ao.out a1.out a6.out
  .have a7:(last,rl,(s,q))=F:=by
    have:=S.out;by_cases hq:q=true
    .rwa [qL _ _ (by exact hq)]at this
    .rwa [show m-k=0 by have: ¬k<m:=λh=>x ⟨h,by simpa using hq⟩;omega,eZ]at this
   subst a7;have a8:=zu x;by_cases b5:(k:Int)<(m:Int)
   .obtain rfl:q=true:=by
     have:=a8.out;simp only[not_and,acg]at this;exact this zo
    go_wp2_with (go_at_call 175;refine ay.out.mono ?_;rintro e w' ⟨rfl,bR⟩;subst w')
    go_ret;exact⟨_,rfl,⟨rc,HA.out⟩,f.out⟩
   .go_wp2;go_ret;exact⟨_,rfl,⟨rc,HA.out⟩,f.out⟩
def rA(lev:Nat)(last:Int)(r:RS):RS:=ba (decide (last<((aF 1 r).1:Int))&&decide (lev<=3/\(aF 1 r).1<4 ^ lev)) (aF 1 r).2
def eY(f:Nat->RS->α×RS)(lev:Nat):Nat->Int×List (Nat×α)×RS->Int×List (Nat×α)×RS
 |0,x=>x
 |k+1,x=>if x.2.2.2=true then x else eY f lev k ((aF 1 x.2.2).1,x.2.1++ [((aF 1 x.2.2).1,(f (aF 1 x.2.2).1 (rA lev x.1 x.2.2)).1)],(f (aF 1 x.2.2).1 (rA lev x.1 x.2.2)).2)
def cf(f:Nat->RS->α×RS)(lev:Nat)(r:RS):List (Nat×α)×RS:=(eY f lev (aF 1 r).1 (-1,[],ba (decide (1<=(aF 1 r).1/\(aF 1 r).1<=64)) (aF 1 r).2)).2
theorem mJ(f:Nat->RS->α×RS)(lev k:Nat){x:Int×List (Nat×α)×RS}(h:x.2.2.2=true):eY f lev k x=x:=by
 cases k with
 |zero=>rfl
 |succ k=>rw[eY,BY h]
theorem uD{f:Nat->RS->α×RS}{k:Nat}{x:Int×List (Nat×α)×RS}(h:x.2.2.2=false):eY f lev (k+1) x=eY f lev k ((aF 1 x.2.2).1,x.2.1++ [((aF 1 x.2.2).1,(f (aF 1 x.2.2).1 (rA lev x.1 x.2.2)).1)],(f (aF 1 x.2.2).1 (rA lev x.1 x.2.2)).2):=by rw[eY,AT (by simp[h])]
theorem mh{n:Nat}{r:RS}(h:(cT n r).2.2=false):r.2=false:=by
 unfold cT at h;grind
theorem Kl(cl:au)(ab:cl=134\/cl=135)(b lv:Nat)(c1 c2:ag)(f:Nat->RS->α×RS)(J:List (Nat×α)->RS->af->Prop)(r0:RS)(w:af)(h:cM w b r0)(A:r0.2=false->lv<=3)(C:∀w' r,Rd w w' b r->J [] r w')(j:∀l r W,J l r W->cM W b r)(u:∀l r r' W W',J l r W->Rd W W' b r'->J l r' W')(m:∀l r (n:Nat) W,J l r W->l.length<64->n<256->Calls aC.prog cl #[.i n,c1,c2] W λe w'=>e=.r (.tuple #[])/\J (l++ [(n,(f n r).1)]) (f n r).2 w'):
  Calls aC.prog 133 #[.pointer (some ⟨b,0,none⟩),.int .i64 lv,.func (.func cl) #[] #[c1,c2]] w λe w'=>e=.returned (.tuple #[])/\J (cf f lv r0).1 (cf f lv r0).2 w':=by
 have HB:Hid (Calls aC.prog 98 #[.p b] w λe w'=>e=.r (.i (aF 1 r0).1)/\J [] (aF 1 r0).2 w'):=(rF b r0 w h).mono λe w' ⟨D,E⟩=>⟨D,C w' _ E⟩
 have HM:Hid (∀c l r W,J l r W->Calls aC.prog 102 #[.p b,.bool c] W λe w'=>e=.r (.tuple #[])/\J l (ba c r) w'):=λc l r W x=>(uZ b c r W (j l r W x)).mono λe w' ⟨D,E⟩=>⟨D,u _ _ _ _ _ x E⟩
 have HF:=zu (λl r W x=>D7 b _ W (j l r W x));have G:Hid (∀l r W,J l r W->Calls aC.prog 98 #[.p b] W λe w'=>e=.r (.i (aF 1 r).1)/\J l (aF 1 r).2 w'):=λl r W x=>(rF b r W (j l r W x)).mono λe w' ⟨D,E⟩=>⟨D,u _ _ _ _ _ x E⟩
 have HH:Hid (∀n W,lv<=3->Calls aC.prog 48 #[.i lv,.i (n:Nat)] W λe w'=>e=.r (.bool (decide (lv<=3/\n<4 ^ lv)))/\w'=W):=λn W hl=>xB lv n zo W;have HC:=zu m;have H:Hid ((aF 1 r0).2.2=false->lv<=3):=λh=>A (mh h);have bd:=iM 1 r0 zf;unfold cf;generalize (aF 1 r0).1=a at*;generalize (aF 1 r0).2=r1 at*;have n0:(0:Int)<=(a:Int):=zo;clear h C j u m A;have HE:Hid (a<=64\/(ba (decide (1<=a/\a<=64)) r1).2=true):=(show _\/_ by by_cases h:a<=64<;>simp[ba,h])
 have ad:Hid ((ba (decide (1<=a/\a<=64)) r1).2=false->lv<=3):=λh=>H.out (by simp[ba]at h;exact h.1);have I:Hid (∀z:Bool,z=decide (1<=a/\a<=64)->∀W,J [] r1 W->Calls aC.prog 102 #[.p b,.bool z] W λe w'=>e=.r (.tuple #[])/\J [] (ba (decide (1<=a/\a<=64)) r1) w'):=λz hz W hW=>by
  rw[hz];exact HM.out _ _ _ W hW
 have L:Hid (1<=(a:Int)->decide ((a:Int)<=64)=decide (1<=a/\a<=64)):=λh=>by rw[decide_eq_decide];omega
 have M:Hid (1<=(a:Int)->decide (a<=64)=decide (1<=a/\a<=64)):=λh=>by rw[decide_eq_decide];omega
 have N:Hid (¬1<=(a:Int)->false=decide (1<=a/\a<=64)):=λh=>by symm;rw[acA];omega
 generalize ba (decide (1<=a/\a<=64)) r1=r2 at*;generalize O:eY f lv a (-1,[],r2)=F at*;have an:=zu O;clear O H;rcases ab with rfl|rfl
 all_goals
  go_enter aC.func133,aC.ntmps133;have bn: ∃z:Bool,z=decide (1<=a/\a<=64):=⟨_,rfl⟩
  by_cases n1:1<=(a:Int)
  all_goals
   go_wp2_with (first
    |(go_at_call 98;refine HB.out.mono ?_;rintro e w1 ⟨rfl,P⟩;have ao:=zu P;clear P)
    |(go_at_call 102;refine(I.out _ (by first|exact L.out zo|exact M.out zo|exact N.out zo) _ ao.out).mono ?_;rintro e w2 ⟨rfl,Q⟩;have aq:=zu Q;clear Q))
   go_loopw [7,8] (λla iv wr=>∃(k:Nat) (ls:Int) (l:List (Nat×α)) (r:RS),k<=a/\l.length=k/\la=.i ls/\iv=.i k/\Hid (J l r wr)/\Hid (r.2=false->lv<=3)/\Hid (a<=64\/r.2=true)/\Hid (eY f lv (a-k) (ls,l,r)=F)) (λ_ iv _=>a-(intOf iv).toNat)
   case atStart=>exact⟨0,-1,[],r2,zo,rfl,rfl,rfl,aq.out,ad.out,HE.out,an.out⟩
   case round=>
    obtain⟨k,ls,l,r,hk,ar,rfl,rfl,HJ,HL,av,y⟩:=hrel;have R:=zu (HF.out l r wr HJ.out);obtain⟨s,q⟩:=r;simp only at*;by_cases g:k<a/\q=false
    .obtain⟨g,rfl⟩:=g;have k1:(k:Int)<(a:Int):=zo;have bo:decide ((k:Int)<(a:Int))=true:=by simpa using g
     have h3:=HL.out rfl;have ay:=av.out.resolve_right zp;have o:Hid _:=(by have:=y.out;rw[show a-k=(a-(k+1))+1 by omega,uD rfl]at this;exact this)
     have az:=zu (G.out l _ wr HJ.out);have aA:=iM 1 (s,false) zf;simp only[rA]at o;generalize (aF 1 (s,false)).1=d at*;generalize (aF 1 (s,false)).2=r3 at*;have aB:=zu (λW=>HH.out d W h3);have aE:Hid (∀z:Bool,z=(decide (ls<(d:Int))&&decide (lv<=3/\d<4 ^ lv))->∀W,J l r3 W->Calls aC.prog 102 #[.p b,.bool z] W λe w'=>e=.r (.tuple #[])/\J l (ba (decide (ls<(d:Int))&&decide (lv<=3/\d<4 ^ lv)) r3) w'):=λz hz W hW=>by rw[hz];exact HM.out _ _ _ W hW
     have aT:Hid (∀r W',J l r W'->Calls aC.prog _ #[.i d,c1,c2] W' λe w'=>e=.r (.tuple #[])/\J (l++ [(d,(f d r).1)]) (f d r).2 w'):=λr W' h=>HC.out l r d W' h zo aA;have a1:Hid (ls<(d:Int)->decide (lv<=3/\d<4 ^ lv)=(decide (ls<(d:Int))&&decide (lv<=3/\d<4 ^ lv))):=λh=>by simp[h]
     have a6:Hid (¬ls<(d:Int)->false=(decide (ls<(d:Int))&&decide (lv<=3/\d<4 ^ lv))):=λh=>by simp[h]
     generalize ba (decide (ls<(d:Int))&&decide (lv<=3/\d<4 ^ lv)) r3=r4 at*;clear HH;generalize decide (lv<=3/\d<4 ^ lv)=zb at*;clear HF G HC HB y HM I L M N;by_cases bp:ls<(d:Int)
     all_goals
      go_wp2_with (first
       |(go_at_call 175;refine R.out.mono ?_;rintro e w' ⟨rfl,S⟩;subst w')
       |(go_at_call 98;refine az.out.mono ?_;rintro e w3 ⟨rfl,U⟩;have a7:Hid (J l r3 w3):=U;clear U)
       |(go_at_call 48;refine(aB.out _).mono ?_;rintro e w' ⟨rfl,S⟩;subst w')
       |(go_at_call 102;refine(aE.out _ (by first|exact a1.out zo|exact a6.out zo) _ a7.out).mono ?_;rintro e w4 ⟨rfl,V⟩;have a8:=zu V;clear V)
       |((first|go_at_call 134|go_at_call 135);refine(aT.out _ _ a8.out).mono ?_;rintro e w5 ⟨rfl,X⟩;have bc:=zu X;clear X))
      all_goals exact⟨⟨k+1,d,_,_,zo,by simp[ar],rfl,by go_num,bc.out,λ_=>h3,.inl ay,o.out⟩,zi⟩
    .have Y:(ls,l,(s,q))=F:=by
      have:=y.out;by_cases hq:q=true
      .rwa [mJ _ _ _ (by exact hq)]at this
      .rwa [show a-k=0 by have: ¬k<a:=λh=>g ⟨h,by simpa using hq⟩;omega,eY]at this
     subst Y;have Z:=zu g;by_cases bx:(k:Int)<(a:Int)
     .obtain rfl:q=true:=by
       have:=Z.out;simp only[not_and,acg]at this;exact this zo
      go_wp2_with (go_at_call 175;refine R.out.mono ?_;rintro e w' ⟨rfl,S⟩;subst w')
      go_end0;exact⟨rfl,HJ.out⟩
     .go_wp2;go_end0;exact⟨rfl,HJ.out⟩
theorem aC.Ev:(aC.prog.info? 220).map (λi=>(i.zero,i.size,i.bytes))=some (some (.agg #[.i 0,.slice none 0 0]),2,32):=zk
abbrev Gm:=Nat×ag×List Rc
def jN(gs:List Gm):List Value:=gs.flatMap λg=>[.i g.1,g.2.1]
structure kV(w W:af)(v:ag)(gs:List Gm)(sg:List (Nat×List aJ)):Prop where
 row:W.ownsRow w 220 2 v gs.length (jN gs)
 is:gs.map (λg=>(g.1,g.2.2.map Rc.bP))=sg
 jO:∀g∈gs,jZ w W g.2.1 g.2.2 (g.2.2.map Rc.bP)
def kV.de{gs:List Gm}{sg:List (Nat×List aJ)}(h:kV w W v gs sg)(a:bA T W W')(h1:T 152)(c:T 117)(d:T 220):kV w W' v gs sg:=
 ⟨a.row h.row d,h.is,λg f=>(h.jO g f).de a h1 c⟩
structure ot(w:af)(b bb bs br kind:Nat)(l:List (Nat×List aJ))(r:RS)(W:af):Prop where
 box:W.heap[bb]?=.c #[.p b] 161
 st: ∃lv gs,W.heap[bs]?=.c #[.int .u8 kind,lv] 171/\kV w W lv gs l
 res:W.heap[br]?=.c #[.int .u8 0,.slice none 0 0] 171
 rd:Rd w W b r
theorem ot.on{kind:Nat}{l:List (Nat×List aJ)}{r:RS}(h:ot w b bb bs br kind l r W)(c:Rd W W' b r'):ot w b bb bs br kind l r' W':=by
 have a:bA (λt=>t≠212) W W':=bA.rd c h.rd.1 (λh=>h rfl);obtain⟨lv,gs,d,f⟩:=h.st;exact⟨a _ _ _ _ h.box zd,⟨lv,gs,a _ _ _ _ d zd,f.de a zd zd zd⟩,a _ _ _ _ h.res zd,h.rd.trans c⟩
theorem ot.step{w w2 w4:af}{b bb bs br kind n k u d:Nat}{sg:List (Nat×List aJ)}{r:RS}{gs:List Gm}{lv v2:ag}{rc:List Rc}{rs:List aJ}(hb:w2.heap[bb]?=.c #[.p b] 161)(hs:w2.heap[bs]?=.c #[.int .u8 kind,lv] 171)(A:w2.heap[br]?=.c #[.int .u8 0,.slice none 0 0] 171)(z:kV w w2 lv gs sg)(f:jZ w w2 v2 rc rs)(s:bA (λt=>t≠220) w2 w4)(C:w4.ownsRow w 220 2 (.l u (k+1) d) (k+1) (jN gs++ [.i n,v2]))(x:Rd w w4 b r)(y:b<w.heap.size/\w.heap.size<=bs/\bb≠bs/\br≠bs)(hl:gs.length=k):ot w b bb bs br kind (sg++ [(n,rs)]) r (w4.setCell ⟨bs,1,none⟩ (.slice (some ⟨u,0,none⟩) (k+1) d)):=by
 obtain⟨H,D,E,F⟩:=y;have j:=s _ _ _ _ hs zd;have m:bA (λt=>t=152\/t=117) w2 (w4.setCell (.a bs 1) (.l u (k+1) d)):=λq cs t fr G h=>bA.set j (T:=λt=>t≠171) (λh=>h rfl) _ _ _ _ _ _ (s _ _ _ _ G zg) zg;refine⟨?_,⟨_,gs++ [(n,v2,rc)],heap_set j,?_,?_,λg o=>?_⟩,?_,x.setCell ⟨D,zo⟩ _⟩
 .rw[aaS _ _ _ _ E];exact s _ _ _ _ hb zd
 .rw[abo,hl,jN,acu];exact dy C j zd _ _
 .rw[abZ,z.is,List.map_singleton,f.bP]
 .rcases abr.1 o with o|o
  .exact (z.jO g o).de m (.inl rfl) (.inr rfl)
  .obtain rfl:=abu.1 o
   have:=f.de m (.inl rfl) (.inr rfl);rw[<-f.bP]at this;exact this
 .rw[aaS _ _ _ _ F];exact s _ _ _ _ A zd
theorem UQ(w:af)(b bb bs br kind:Nat)(Z:b<w/\w<=bb/\w<=bs/\w<=br/\bb≠bs/\br≠bs)(sg:List (Nat×List aJ))(hlen:sg.length<64)(n:Nat)(r:RS)(W':af)(h:ot w b bb bs br kind sg r W'):
  Calls aC.prog 135 #[.i n,.p bs,.p bb] W' λe w'=>e=.r (.tuple #[])/\ot w b bb bs br kind (sg++ [(n,(bW n r).1)]) (bW n r).2 w':=by
 obtain⟨i0,ab,an,ao,aq⟩:=aaY aC.Ev;obtain⟨n1,n2,n3,n4,n5,n6⟩:=Z;obtain⟨lv,gs,m,g⟩:=h.st;obtain⟨k,G⟩: ∃k,gs.length=k:=⟨_,rfl⟩
 have aB:k<64:=by have:=congrArg List.length g.is;rw[abe]at this;omega
 have D:=h.box;have H:=h.res;have o:=h.rd;have aT:W'.ownsRow w 220 2 lv k (jN gs):=by have:=g.row;rw[G]at this;exact this
 clear h;obtain⟨ad,cap,rfl⟩:=dS aT;obtain⟨cb,fb⟩:=aH D;obtain⟨cs,fs⟩:=aH m;have x0:=cb 0;have y1:=cs 1;have g1:=fs 1;clear cb fb cs fs;have I:=zu (λW hW=>Oy b n r W hW);generalize (bW n r).1=rs at*;generalize (bW n r).2=r2 at*;have ar:Hid (Calls aC.prog 136 #[.p b,.i n] W'.drew λe w2=>∃l j d rc,e=.r (.slice l j d)/\jZ w w2 (.slice l j d) rc rs/\Rd w w2 b r2/\w2.heap[bb]?=.c #[.p b] 161/\w2.heap[bs]?=.c #[.int .u8 kind,.slice ad k cap] 171/\w2.heap[br]?=.c #[.int .u8 0,.slice none 0 0] 171/\w2.ownsRow w 220 2 (.slice ad k cap) k (jN gs)/\kV w w2 (.slice ad k cap) gs sg):=by
  refine(I.out W'.drew (o.1.below zj.drew)).mono ?_;rintro e w2 ⟨v2,rc,rfl,J,L⟩;obtain⟨l,d,rfl⟩:=dS J.row;have f:Rd W' w2 b r2:=⟨L.1,(Fr.refl _ _).drew.trans L.2⟩
  have M:bA (λt=>t≠212) W' w2:=bA.rd f o.1 (λh=>h rfl);exact⟨l,_,d,rc,rfl,J.base o.2.size,o.trans f,f.other D zo,f.other m zo,f.other H zo,M.row aT zd,g.de M zd zd zd⟩
 clear D m H g o aT I;go_enter aC.func135,aC.ntmps135;go_region_law (first
  |(refine step_append_lies _ rfl _ _ _ rfl w 220 i0 _ 2 32 aC.underlying169 ab an ao aq rfl zo (.slice ad k cap) _ _ rfl (aaV E.out _) (.a w2 0) 1 1 [.i n,.slice l j d] rfl rfl (aaT (By w2 _)) zv zo ze zo (by have:=x.out.2.size;simp;omega) (w2.heap.size+1) zp ?_;intro g4 aE w4 q s a1 a6;have av:=zu q;have F:bA (λt=>t≠220) w2 w4:=(bA.below (zj.alloc zf _)).trans (bA.grown s (aaV E.out _) (λh=>h rfl));have ay:=zu F;have N:=F _ _ _ _ O.out zd;obtain⟨P,Q⟩:=aH N;have a8:=P 1;have bc:=Q 1;have R:=zu ((x.out.below (zj.alloc zf _)).mw (aaV E.out _) s zd);clear P Q N F q s)
  |(go_simp;go_at_call 136;refine AI ar.out ?_;rintro e w2 ⟨l,j,d,rc,rfl,y,z,S,u,A,U,C⟩;obtain⟨cs2,az⟩:=aH u;have y2:=cs2 1;have a7:=(IN.1 u).1;have V:=zu y;have x:=zu z;have aA:=zu S;have O:=zu u;have X:=zu A;have E:=zu U;have Y:=zu C;clear y z S u A U C cs2 az))
 all_goals
  go_wp2;go_end0;exact⟨rfl,ot.step aA.out O.out X.out Y.out V.out ay.out av.out R.out zo G⟩
theorem C3(b kind:Nat)(r:RS)(w:af)(h:cM w b r):
  Calls aC.prog 101 #[.p b,.int .u8 kind] w λe w'=>∃lv gs,e=.r (.agg #[.int .u8 kind,lv])/\kV w w' lv gs (cf bW 3 r).1/\Rd w w' b (cf bW 3 r).2:=by
 have J:=h.lt;have G:Hid (∀W,W.heap[w.heap.size]?=.c #[.p b] 161->W.heap[w.heap.size+1]?=.c #[.int .u8 0,.slice none 0 0] 171->W.heap[w.heap.size+2]?=.c #[.int .u8 kind,.slice none 0 0] 171->Rd w W b r->
   Calls aC.prog 133 #[.p b,.i 3,.func (.func 135) #[] #[.p (w.heap.size+2),.p w.heap.size]] W λe w'=>e=.r (.tuple #[])/\∃lv gs,w'.heap[w.heap.size+2]?=.c #[.int .u8 kind,lv] 171/\kV w w' lv gs (cf bW 3 r).1/\w'.heap[w.heap.size+1]?=.c #[.int .u8 0,.slice none 0 0] 171/\Rd w w' b (cf bW 3 r).2):=by
  intro W L M N H;refine(Kl _ (.inr rfl) b 3 (.p (w.heap.size+2)) (.p w) bW (ot w b w (w.heap.size+2) (w.heap.size+1) kind) r W H.1 (λ_=>aba _)
   (λw' r' x=>⟨x.other L zo,⟨_,[],x.other N zo,⟨abh _ _ _ _,rfl,λg O=>by cases O⟩⟩,x.other M zo,H.trans x⟩)
   (λl r W j=>j.rd.1) (λl r r' W W' j x=>j.on x)
   (λl r n W j hl _=>UQ w b w (w.heap.size+2) (w.heap.size+1) kind zo l hl n r W j)).mono ?_
  rintro e w' ⟨rfl,j⟩;obtain⟨lv,gs,P,x2⟩:=j.st;exact⟨rfl,lv,gs,P,x2,j.res,j.rd⟩
 generalize (cf bW 3 r).1=sg at*;generalize (cf bW 3 r).2=s at*;have Q:∀(fn:Fn) (first cap:aa) (w:af),(Instr.makeFunc fn first cap).run aC.prog w=.ok (.func fn first cap) w:=λ_ _ _ _=>rfl;obtain⟨I,a⟩: ∃W,W=(((w.alloc (.cells #[.p b] 161)).alloc (.cells #[.int .u8 0,.slice none 0 0] 171)).alloc (.cells #[.int .u8 kind,.slice none 0 0] 171)):=⟨_,rfl⟩
 have A:Below w w I:=by rw[a];exact((zj.alloc zf _).alloc zp _).alloc zt _
 have C:Hid _:=G.out I (by rw[a,aaO _ _ _ zt,aaO _ _ _ zp];exact By w _) (by rw[a,aaO _ _ _ zp];exact mH w _ _) (by rw[a];have:=By ((w.alloc (.cells #[.p b] 161)).alloc (.cells #[.int .u8 0,.slice none 0 0] 171)) (.cells #[.int .u8 kind,.slice none 0 0] 171);simpa using this) ((Rd.refl h).below A);clear h G;go_enter aC.func101,aC.ntmps101;go_wp2_with (go_at_call 133;rw[<-a];refine AI C.out ?_;rintro e w3 ⟨rfl,lv,gs,y,d,f,k⟩;obtain⟨ad,cap,rfl⟩:=dS d.row;obtain⟨m,D⟩:=aH y;obtain⟨q,u⟩:=aH f;have s0:=m 0;have U:=m 1;have r0:=q 0;have R:=q 1;have V:=u 0;have X:=u 1;clear m D q u;have E:=zu d;have z:=zu f;have F:=zu k;clear y d f k)
 refine abn (v:=.agg #[.int .u8 kind,.slice ad gs.length cap]) ?_ rfl ⟨_,gs,rfl,?_,?_⟩
 .simp[results,aC.results101,go_sem,r0,R]
 .have k1:=bA.set (T:=λt=>t≠171) z.out (λh=>h rfl) 0 (.int .u8 kind);have S:=bA.set (T:=λt=>t≠171) (heap_set (o:=0) (v:=.int .u8 kind) z.out) (λh=>h rfl) 1 (.slice ad gs.length cap);exact E.out.de (k1.trans S) zd zd zd
 .exact (F.out.setCell zo _).setCell zo _
theorem aC.JG:(aC.prog.info? 217).map (λi=>(i.zero,i.size,i.bytes))=some (some (.agg #[.i 0,.int .u64 0,.int .u64 0,.int .u64 0,.int .u64 0]),5,40):=zk
abbrev Nd:=Nat×(Nat->Int)
def jD:Nat->RS->RS
 |0,r=>r
 |i+1,r=>(aF 8 (jD i r)).2
def iA(_:Nat)(r:RS):(Nat->Int)×RS:=(λj=>((aF 8 (jD j r)).1:Int),jD 4 r)
def nQ(g:Nd):List Value:=[.i g.1,.int .u64 (g.2 0),.int .u64 (g.2 1),.int .u64 (g.2 2),.int .u64 (g.2 3)]
def gJ(l:List Nd):List Value:=l.flatMap nQ
abbrev jf(n:Nat)(d:Nat->Int)(i:Nat):Array Value:=#[.i n,.int .u64 (gx d i 0),.int .u64 (gx d i 1),.int .u64 (gx d i 2),.int .u64 (gx d i 3)]
theorem Ja(n:Nat)(d:Nat->Int){i:Nat}(h:i<4):(jf n d i).setIfInBounds (1+i) (.int .u64 (d i))=jf n d (i+1):=by
 rcases dR h with rfl|rfl|rfl|rfl<;>simp[jf,gx]
theorem CA(n:Nat)(d:Nat->Int){i:Nat}(h:i<4):(jf n d i)[1+i]?=some (.int .u64 0):=by
 rcases dR h with rfl|rfl|rfl|rfl<;>simp[jf,gx]
structure nK(w:af)(b bb bs br lev:Nat)(sg:List Nd)(r:RS)(W:af):Prop where
 box:W.heap[bb]?=.c #[.p b] 161
 st: ∃lv,W.heap[bs]?=.c #[.i lev,lv] 167/\W.ownsRow w 217 5 lv sg.length (gJ sg)
 res:W.heap[br]?=.c #[.i 0,.slice none 0 0] 167
 rd:Rd w W b r
theorem nK.CZ{k:Nat}{sg:List Nd}{s':RS}{lv:ag}(a:W.heap[bb]?=.c #[.p b] 161)(g:W.heap[bs]?=.c #[.i lev,lv] 167)(aT:W.ownsRow w 217 5 lv k (gJ sg))(d:W.heap[br]?=.c #[.i 0,.slice none 0 0] 167)(j:cM W b s0)(l:Rd W W' b s'):
  W'.heap[bb]?=some (.cells #[.pointer (some ⟨b,0,none⟩)] 161)/\W'.heap[bs]?=some (.cells #[.int .i64 lev,lv] 167)/\W'.ownsRow w.heap.size 217 5 lv k (gJ sg)/\W'.heap[br]?=some (.cells #[.int .i64 0,.slice none 0 0] 167):=by
 have f:bA (λt=>t≠212) W W':=bA.rd l j (λh=>h rfl);exact⟨f _ _ _ _ a zd,f _ _ _ _ g zd,f.row aT zd,f _ _ _ _ d zd⟩
theorem nK.on{l:List Nd}{r:RS}(h:nK w b bb bs br lev l r W)(a:Rd W W' b r'):nK w b bb bs br lev l r' W':=by
 obtain⟨lv,c,d⟩:=h.st;obtain⟨f,x2,g,x4⟩:=nK.CZ h.box c d h.res h.rd.1 a;exact⟨f,⟨lv,x2,g⟩,x4,h.rd.trans a⟩
structure vQ(w:af)(b bb bs br lev bn k i:Nat)(lv:ag)(n:Nat)(d:Nat->Int)(sg:List Nd)(r:RS)(W:af):Prop where
 box:W.heap[bb]?=.c #[.p b] 161
 st:W.heap[bs]?=.c #[.i lev,lv] 167
 row:W.ownsRow w 217 5 lv k (gJ sg)
 res:W.heap[br]?=.c #[.i 0,.slice none 0 0] 167
 nd:W.heap[bn]?=.c (jf n d i) 217
 iR:∀q,lv.ownBlock=some q->q<bn
 rd:Rd w W b (jD i r)
theorem KW(w:af)(b bb bs br lev:Nat)(V:b<w/\w<=bb/\w<=bs/\w<=br/\bb≠bs/\br≠bs)(sg:List Nd)(hlen:sg.length<64)(n:Nat)(r:RS)(W':af)(h:nK w b bb bs br lev sg r W'):
  Calls aC.prog 134 #[.int .i64 n,.pointer (some ⟨bb,0,none⟩),.pointer (some ⟨bs,0,none⟩)] W' λe w'=>e=.returned (.tuple #[])/\nK w b bb bs br lev (sg++ [(n,(iA n r).1)]) (iA n r).2 w':=by
 obtain⟨i0,X,Y,Z,ab⟩:=aaY aC.JG;obtain⟨n1,n2,n3,n4,n5,n6⟩:=V;obtain⟨lv,m2,C⟩:=h.st;have m1:=h.box;have m4:=h.res;have x:=h.rd;clear h;obtain⟨k,D⟩: ∃k,sg.length=k:=⟨_,rfl⟩
 rw[D]at C;obtain⟨ad,cap,rfl⟩:=dS C;have E:Hid (∀i W,cM W b (jD i r)->Calls aC.prog 99 #[.p b] W λe w'=>e=.r (.int .u64 ((iA n r).1 i))/\Rd W w' b (jD (i+1) r)):=λi W hW=>It b _ W hW;rw[show(iA n r).2=jD 4 r from rfl];generalize (iA n r).1=d at*;have F:∀q,Value.ownBlock (.slice ad k cap)=some q->q<W'.heap.size:=λq hq=>pO C hq;have G:Hid (vQ w b bb bs br lev W' k 0 (.slice ad k cap) n d sg r (W'.alloc (.cells (jf n d 0) 217))):=
  have hb:Below W' W' (W'.alloc (.cells (jf n d 0) 217)):=zj.alloc zf _
  ⟨bj m1 hb,bj m2 hb,bH C hb zf,bj m4 hb,By W' _,F,x.below hb⟩
 have an:=x.2.size;have ao:Hid (∀i,i<4->∀S,vQ w b bb bs br lev W' k i (.slice ad k cap) n d sg r S->Calls aC.prog 99 #[.p b] S λe w2=>e=.r (.int .u64 (d i))/\w2.heap[W'.heap.size]?=.c (jf n d i) 217/\vQ w b bb bs br lev W' k (i+1) (.slice ad k cap) n d sg r (w2.setCell (.a W' (1+i)) (.int .u64 (d i)))):=by
  intro i hi S s;have h3:=s.rd;refine(E.out i S h3.1).mono ?_;rintro e w2 ⟨rfl,y⟩;obtain⟨x1,x2,x3,x4⟩:=nK.CZ s.box s.st s.row s.res h3.1 y;have u:=y.other s.nd zo;have aq:W'≠bb:=λe=>by rw[e,x1]at u;cases u
  have ar:W'≠bs:=λe=>by rw[e,x2]at u;cases u
  have av:W'≠br:=λe=>by rw[e,x4]at u;cases u
  have x6:=heap_set (o:=1+i) (v:=.int .u64 (d i)) u;rw[Ja n d hi]at x6;refine⟨rfl,u,⟨?_,?_,?_,?_,x6,s.iR,(h3.trans y).setCell ⟨an,zo⟩ _⟩⟩
  .rw[aaS _ _ _ _ (Ne.symm aq)];exact x1
  .rw[aaS _ _ _ _ (Ne.symm ar)];exact x2
  .refine nh x3 λq hq hv=>aaS _ _ _ _ (λe=>?_)
   have:=s.iR q hv;simp only at e;omega
  .rw[aaS _ _ _ _ (Ne.symm av)];exact x4
 clear m1 m2 C m4 x F E;go_enter aC.func134,aC.ntmps134;go_wp2;generalize W'.heap.size=bn at*;go_loopw [8] (λiv wr=>∃i:Nat,i<=4/\iv=.i i/\Hid (vQ w b bb bs br lev bn k i (.slice ad k cap) n d sg r wr)) (λiv _=>4-(intOf iv).toNat)
 case atStart=>exact⟨0,zo,rfl,G.out⟩
 case round=>
  obtain⟨i,hi,rfl,f⟩:=hrel;clear G;by_cases H:i<4
  .have i1:(i:Int)<4:=zo;have aT:(0:Int)<=(i:Int):=zo;have bx:=(aH f.out.box).1 0;have ay:=zu (ao.out i H wr f.out);go_wp2_with (go_at_call 99;refine ay.out.mono ?_;rintro e w2 ⟨rfl,I,J⟩;obtain⟨c2,f2⟩:=aH I;have cI:=(c2 (1+i)).trans (CA n d H);have fI:=f2 (1+i);clear c2 f2 I;have az:Hid _:=J;clear J)
   exact⟨⟨i+1,zo,by go_num,az.out⟩,zi⟩
  .obtain rfl:i=4:=zo;obtain⟨cs,fs⟩:=aH f.out.st;obtain⟨cn,fn⟩:=aH f.out.nd;have y1:=cs 1;clear cs fs;go_wp2_with (at_builtin;refine abq _ rfl _ _ _ rfl w 217 i0 _ 5 40 aC.underlying165 X Y Z ab rfl zo (.slice ad k cap) _ _ rfl (aaV f.out.row _) (.a wr 0) 1 1 _ rfl (by rfl) (aaT (By wr _)) zv zo ze zo (by have:=f.out.rd.2.size;simp;omega) (wr.heap.size+1) zp ?_;intro g4 L w4 g m aB aE;have aA:Hid _:=g;have z:bA (λt=>t≠217) wr w4:=(bA.below (zj.alloc zf _)).trans (bA.grown m (aaV f.out.row _) (λh=>h rfl));have A:Hid _:=z;have M:=z _ _ _ _ f.out.st zd;obtain⟨N,O⟩:=aH M;have a1:=N 1;have a6:=O 1;have P:=zu ((f.out.rd.below (zj.alloc zf _)).mw (aaV f.out.row _) m zd);clear N O M z g m)
   go_end0;have Q:=A.out _ _ _ _ f.out.st zd;have R:=P.out;have U:∀j,j<4->gx d 4 j=d j:=λj hj=>by simp[gx,hj]
   refine⟨rfl,?_,⟨_,heap_set Q,?_⟩,?_,R.setCell ⟨n3,zo⟩ _⟩
   .rw[aaS _ _ _ _ n5];exact A.out _ _ _ _ f.out.box zd
   .rw[abo,D,gJ,acu]
    have:=dy aA.out Q zd 1 (.l g4 (k+1) L);simp only[jf,U 0 zo,U 1 zo,U 2 zo,U 3 zo]at this;exact this
   .rw[aaS _ _ _ _ n6];exact A.out _ _ _ _ f.out.res zd
def qQ(r:RS):RS:=ba (decide ((aF 1 r).1<3)) (aF 1 r).2
def fL(r:RS):List Nd×RS:=cf iA (aF 1 r).1 (qQ r)
theorem UO(b:Nat)(r:RS)(w:af)(h:cM w b r):
  Calls aC.prog 100 #[.p b] w λe w'=>∃lv,e=.r (.agg #[.i (aF 1 r).1,lv])/\w'.ownsRow w 217 5 lv (fL r).1.length (gJ (fL r).1)/\Rd w w' b (fL r).2:=by
 have av:=h.lt;have HE:Hid (∀W bs,w.heap.size+2<=bs->W.heap[w.heap.size]?=.c #[.p b] 161->W.heap[w.heap.size+1]?=.c #[.i 0,.slice none 0 0] 167->W.heap[bs]?=.c #[.i (aF 1 r).1,.slice none 0 0] 167->Rd w W b (qQ r)->
   Calls aC.prog 133 #[.p b,.i (aF 1 r).1,.func (.func 134) #[] #[.p w,.p bs]] W λe w'=>e=.r (.tuple #[])/\∃lv,w'.heap[bs]?=.c #[.i (aF 1 r).1,lv] 167/\w'.ownsRow w 217 5 lv (fL r).1.length (gJ (fL r).1)/\w'.heap[w.heap.size+1]?=.c #[.i 0,.slice none 0 0] 167/\Rd w w' b (fL r).2):=by
  intro W bs h0 h1 h2 h3 h4;refine(Kl _ (.inl rfl) b (aF 1 r).1 (.p w) (.p bs) iA (nK w b w bs (w.heap.size+1) (aF 1 r).1) (qQ r) W h4.1 (λh=>by simp[qQ,ba]at h;omega)
   (λw' r' a=>⟨a.other h1 zo,⟨_,a.other h3 zo,abh _ _ _ _⟩,a.other h2 zo,h4.trans a⟩)
   (λl r W k=>k.rd.1) (λl r r' W W' k a=>k.on a)
   (λl r n W k hl _=>KW w b w bs (w.heap.size+1) _ zo l hl n r W k)).mono ?_
  rintro e w' ⟨rfl,k⟩;obtain⟨lv,x1,x2⟩:=k.st;exact⟨rfl,lv,x1,x2,k.res,k.rd⟩
 have ay:∀(fn:Fn) (first cap:aa) (w:af),(Instr.makeFunc fn first cap).run aC.prog w=.ok (.func fn first cap) w:=λ_ _ _ _=>rfl;have m:=λW Q=>rF b r W (h.below Q);have R:=iM 1 r zf;have S:Hid (∀W,Rd w W b (aF 1 r).2->Calls aC.prog 102 #[.p b,.bool (decide (((aF 1 r).1:Int)<3))] W λe w'=>e=.r (.tuple #[])/\Rd W w' b (qQ r)):=λW Q=>by
  have:=uZ b (decide ((aF 1 r).1<3)) _ W Q.1;rw[show decide (((aF 1 r).1:Int)<3)=decide ((aF 1 r).1<3) by rw[decide_eq_decide];omega];exact this
 generalize (fL r).1=sg at*;generalize (fL r).2=s at*;generalize qQ r=r2 at*;generalize (aF 1 r).1=lev at*;generalize (aF 1 r).2=r1 at*;have F:=zu m;obtain⟨P,d⟩: ∃W,W=(w.alloc (.cells #[.p b] 161)).alloc (.cells #[.i 0,.slice none 0 0] 167):=⟨_,rfl⟩
 have u:Hid (Below w w P):=(by rw[d];exact(zj.alloc zf _).alloc zp _)
 have G:Hid (P.heap[w.heap.size]?=.c #[.p b] 161):=(by rw[d,aaO _ _ _ zp];exact By w _)
 have x:Hid (P.heap[w.heap.size+1]?=.c #[.i 0,.slice none 0 0] 167):=(by rw[d];exact mH w _ _)
 have H:Hid (Calls aC.prog 98 #[.p b] ((w.alloc (.cells #[.p b] 161)).alloc (.cells #[.i 0,.slice none 0 0] 167)) λe w'=>e=.r (.i lev)/\Rd w w' b r1/\w'.heap[w.heap.size]?=.c #[.p b] 161/\w'.heap[w.heap.size+1]?=.c #[.i 0,.slice none 0 0] 167/\w.heap.size+2<=w'.heap.size):=by
  rw[<-d];refine(F.out P u.out).mono ?_;rintro e w' ⟨rfl,a⟩;have U:=((Rd.refl h).below u.out).trans a;have hz:=(IN.1 (a.other x.out zo)).1;exact⟨rfl,U,a.other G.out zo,a.other x.out zo,zo⟩
 clear h F m d u G x;go_enter aC.func100,aC.ntmps100;go_wp2_with (first
  |(go_at_call 98;refine AI H.out ?_;rintro e w1 ⟨rfl,I,y,o,V⟩;have az:=(aH y).1 0;have J:=zu I;have X:=zu y;have L:=zu o;clear I y o;have aA:w<w1.heap.size:=zo)
  |(go_at_call 102;refine AI (S.out _ (J.out.below (zj.alloc zf _))) ?_;rintro e w2 ⟨rfl,f⟩;have z:=f.other (bj X.out (zj.alloc zf _)) zo;have M:=f.other (bj L.out (zj.alloc zf _)) zo;have A:=f.other (By w1 _) zo;have aB:=(aH z).1 0;obtain⟨aE,aT⟩:=aH A;have Y:Hid _:=z;have Z:Hid _:=M;have ab:Hid _:=A;have an:=zu ((J.out.below (zj.alloc zf _)).trans f);clear f z M A)
  |(go_at_call 133;refine AI (HE.out _ w1 V Y.out Z.out ab.out an.out) ?_;rintro e w3 ⟨rfl,lv,N,g,j,q⟩;obtain⟨ad,cap,rfl⟩:=dS g;obtain⟨C,ao⟩:=aH N;obtain⟨D,E⟩:=aH j;have s0:=C 0;have s1:=C 1;have y0:=D 0;have y1:=D 1;have t0:=E 0;have t1:=E 1;clear C ao D E;have aq:=zu g;have O:=zu j;have ar:=zu q;clear N g j q))
 refine abn (v:=.agg #[.int .i64 lev,.slice ad sg.length cap]) ?_ rfl ⟨_,rfl,?_,?_⟩
 .simp[results,aC.results100,go_sem,y0,y1]
 .exact dy (dy aq.out O.out zd 0 (.i lev)) (heap_set O.out) zd _ _
 .exact (ar.out.setCell zo _).setCell zo _
end Go.Proofs.YtldmcdeibiclkaaGreatQ
