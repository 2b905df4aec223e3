/-
  Toward all_holds
-/
import Derived.Test.YtldmcdeibiclkaaGreatC27
import Derived.Test.YtldmcdeibiclkaaGreatC01
import Derived.Test.YtldmcdeibiclkaaGreatC18
import Derived.Lib.MinMaxS
import Derived.Test.YtldmcdeibiclkaaGreatC20
set_option linter.all false
noncomputable section
set_option maxRecDepth 100000
set_option maxHeartbeats 20000000
namespace Go.Proofs.YtldmcdeibiclkaaGreatQ
variable {w W:af}{c1 c2:Ctx}{sv1 sv2 v:ag}{L:List aG}{D:Nat->Int}{sg:List Nd}
open Go.RowKit
theorem xW{α β:Type}{f g:α->List β}:∀l:List α,(∀a∈l,f a=g a)->l.flatMap f=l.flatMap g
 |[],_=>rfl
 |a::l,h=>by
  simp only[acn];rw[h a zp,xW l λb hb=>h b (by simp[hb])]
theorem aC.yF:(aC.prog.info? 3).map (λi=>(i.zero,i.size,i.bytes))=some (.i 0,1,8):=zk
def dI(D:Nat->Int)(g:Nd)(i:Nat):List Nat:=((List.range i).filter λj=>decide (D (g.1*4+j)≠g.2 j)).map λj=>g.1*4+j
def bV(D:Nat->Int)(sg:List Nd):List Nat:=sg.flatMap λg=>dI D g 4
theorem Dd(D:Nat->Int)(g:Nd)(i:Nat):dI D g (i+1)=dI D g i++(if D (g.1*4+i)≠g.2 i then [g.1*4+i] else []):=by
 unfold dI;rw[List.range_succ,List.filter_append,abZ];grind
theorem Dz(D:Nat->Int){k:Nat}(h:k<sg.length):bV D (sg.take (k+1))=bV D (sg.take k)++dI D sg[k] 4:=by
 rw[abE h,bV,bV,acu];simp
theorem Au(D:Nat->Int)(g:Nd)(i:Nat):(dI D g i).length<=i:=by
 unfold dI;grind
theorem Fa(D:Nat->Int)(sg:List Nd):(bV D sg).length<=4*sg.length:=by
 induction sg with
 |nil=>simp[bV]
 |cons g sg a=>
  have:=Au D g 4;simp only[bV,acn,abo,abi] at*;omega
theorem fi.snoc{B g cap n:Nat}{ns:List Nat}(h:w.ownsRow B 3 1 (.l g (ns.length+1) cap) (ns.length+1) ((ns.map λ(n:Nat)=>Value.int .i64 (n:Int))++ [.i n])):fi w B (.l g (ns.length+1) cap) (ns++ [n]):=by
 unfold fi;grind
theorem Pb(b num lev B1:Nat)(bm:Nat->Nat)(K:aL)(lv:ag)(sg:List Nd)(w:af)(h:aV w b bm num K)(hK:gi w bm K)(X:w.ownsRow B1 217 5 lv sg.length (gJ sg))(aT:lev<3)(hl:sg.length<=64)(B:∀g∈sg,g.1<4 ^ lev):
  Calls aC.prog 138 #[.p b,.agg #[.i lev,lv]] w λe w'=>∃v,e=.r v/\fi w' w v (bV (cC w bm K (lev+1)) sg)/\Below w w w':=by
 obtain⟨i0,Y,Z,ab,an⟩:=aaY aC.yF;obtain⟨ad,cap,rfl,a6,bb⟩:=lh X;have h4:=(mz (show lev<=3 by omega)).1;have HD:Hid (∀g∈sg,∀i:Nat,i<4->∀W,Below w w W->Calls aC.prog 51 #[.p b,.i ((lev:Int)+1),.i ((g.1*4+i:Nat):Int)] W λe w'=>e=.r (.int .u64 (cC w bm K (lev+1) (g.1*4+i)))/\Below W W w'):=λg hg i hi W hW=>by
  have h1:=B g hg
  have:=zI h hK (lev+1) (g.1*4+i) zo (by rw[acR];omega) W hW;rw[show((lev+1:Nat):Int)=(lev:Int)+1 by omega]at this;exact this
 have HC:Hid _:=λg hg i hi W=>by
  have h1:=B g hg;exact JE g.1 i W zo hi
 have HN:=zu X;have v1:(lev:Int)+1<=3:=zo;have M:Hid (Below w w (w.alloc (.cells #[.i lev,.slice ad sg.length cap] 167))):=zj.alloc zf _;have N:Hid ((w.alloc (.cells #[.i lev,.slice ad sg.length cap] 167)).heap[w.heap.size]?=.c #[.i lev,.slice ad sg.length cap] 167):=By w _;clear h X B hK;generalize cC w bm K (lev+1)=D at*;go_enter aC.func138,aC.ntmps138;go_wp2;go_loopw [5,14] (λo C wr=>∃k:Nat,k<=sg.length/\C=.i k/\Hid (fi wr w o (bV D (sg.take k)))/\Hid (wr.heap[w.heap.size]?=.c #[.i lev,.slice ad sg.length cap] 167)/\Hid (Below w w wr)) (λ_ C _=>sg.length-(intOf C).toNat)
 case atStart=>exact⟨0,zo,rfl,abh _ _ _ _,N.out,M.out⟩
 case round=>
  obtain⟨k,bc,rfl,HR,HS,U⟩:=hrel;clear N M;have ao:=U.out.size;by_cases s:k<sg.length
  .obtain⟨g,a7,aq,ar,_,_,cc⟩:=sG HN.out (show 0<sg.length by omega);cases aq;have J:∀j,j<5->wr.cell? (.a g (k*5+j))=(nQ sg[k])[j]? :=λj hj=>by
    have h1:=BC sg k s j hj;rw[U.out.cell (p:=(.a g (k*5+j))) ar,<-h1];rw[abG (by rw[CO];omega)];exact cc _ _ zo (abG _)
   have c0:wr.cell? (.a g (k*5))=.i sg[k].1:=J 0 zo;have c1:wr.cell? (.a g (k*5+1))=some (.int .u64 (sg[k].2 0)):=J 1 zo;have c2:wr.cell? (.a g (k*5+2))=some (.int .u64 (sg[k].2 1)):=J 2 zo;have c3:wr.cell? (.a g (k*5+3))=some (.int .u64 (sg[k].2 2)):=J 3 zo;have c4:wr.cell? (.a g (k*5+4))=some (.int .u64 (sg[k].2 3)):=J 4 zo;have av:=zu (HD.out sg[k] (IS s));have ay:=zu (HC.out sg[k] (IS s));have HT:=zu (Dz D s);have hL:(bV D (sg.take k)).length<=256:=IT (Fa D _) (by have:=ade k sg;omega);clear cc J HD HC;generalize bV D (sg.take k)=L at*;generalize sg[k]=nd at*;have a1:(k:Int)<(sg.length:Int):=zo;have a0:(0:Int)<=(k:Int):=zo;have O:Hid (fi (wr.alloc (.cells #[.i nd.1,.int .u64 (nd.2 0),.int .u64 (nd.2 1),.int .u64 (nd.2 2),.int .u64 (nd.2 3)] 217)) w u5 (L++dI D nd 0)):=(by rw[show dI D nd 0= [] from rfl,abU];exact aaV HR.out _)
   have P:Hid (Below w w (wr.alloc (.cells #[.i nd.1,.int .u64 (nd.2 0),.int .u64 (nd.2 1),.int .u64 (nd.2 2),.int .u64 (nd.2 3)] 217))):=U.out.alloc ao _;have Q:Hid ((wr.alloc (.cells #[.i nd.1,.int .u64 (nd.2 0),.int .u64 (nd.2 1),.int .u64 (nd.2 2),.int .u64 (nd.2 3)] 217)).heap[w.heap.size]?=.c #[.i lev,.l g sg.length cap] 167):=bj HS.out (zj.alloc zf _);have R:Hid ((wr.alloc (.cells #[.i nd.1,.int .u64 (nd.2 0),.int .u64 (nd.2 1),.int .u64 (nd.2 2),.int .u64 (nd.2 3)] 217)).heap[wr.heap.size]?=.c #[.i nd.1,.int .u64 (nd.2 0),.int .u64 (nd.2 1),.int .u64 (nd.2 2),.int .u64 (nd.2 3)] 217):=By wr _;go_wp2;generalize wr.heap.size=bn at*;go_loopw [5,20] (λo C V=>∃i:Nat,i<=4/\C=.i i/\Hid (fi V w o (L++dI D nd i))/\Hid (V.heap[w.heap.size]?=.c #[.i lev,.l g sg.length cap] 167)/\Hid (V.heap[bn]?=.c #[.i nd.1,.int .u64 (nd.2 0),.int .u64 (nd.2 1),.int .u64 (nd.2 2),.int .u64 (nd.2 3)] 217)/\Hid (Below w w V)) (λ_ C _=>4-(intOf C).toNat)
   case atStart=>exact⟨0,zo,rfl,O.out,Q.out,R.out,P.out⟩
   case round=>
    obtain⟨i,hi,rfl,t,x,E,f⟩:=hrel;clear O Q R P;by_cases F:i<4
    .have i1:(i:Int)<4:=zo;have bd:(0:Int)<=(i:Int):=zo;have bo:=indexAt nd.2 F;have G:=zu (av.out i F);have S:=zu (ay.out i F);have y:Hid (L++dI D nd (i+1)=(L++dI D nd i)++(if D (nd.1*4+i)≠nd.2 i then [nd.1*4+i] else [])):=(show _=_ by rw[Dd,List.append_assoc])
     have bp:(L++dI D nd i).length<=260:=by have:=Au D nd i;rw[abo];omega
     have br:=(aH E.out).1 0;have a8:=(aH x.out).1 0;generalize L++dI D nd i=Li at*;generalize nd.1*4+i=ch at*;by_cases hd:D ch=nd.2 i
     .rw[AT (by simpa using hd),abU]at y;rw[hd]at G;generalize nd.2 i=di at*;go_wp2_with (first
       |(go_at_call 179;refine(S.out _).mono ?_;rintro e w' ⟨rfl,az⟩;subst w')
       |(go_at_call 51;refine(G.out _ f.out).mono ?_;rintro e w2 ⟨rfl,d⟩;have m:=zu d;clear d))
      exact⟨⟨i+1,zo,by go_num,by rw[y.out];exact bH t.out m.out zf,bj x.out m.out,bj E.out m.out,bk f.out m.out⟩,zi⟩
     .rw[BY (by simpa using hd)]at y;generalize D ch=Dc at*;generalize nd.2 i=di at*;go_wp2_with (first
       |(go_at_call 179;refine(S.out _).mono ?_;rintro e w' ⟨rfl,az⟩;subst w')
       |(go_at_call 51;refine(G.out _ f.out).mono ?_;rintro e w2 ⟨rfl,d⟩;have m:=zu d;have z:Hid ((w2.alloc (.cells #[.i ch] 3)).ownsRow w 3 1 u5 Li.length (Li.map λ(n:Nat)=>Value.int .i64 (n:Int))):=aaV (bH t.out d zf) _;have H:Hid (Below w w (w2.alloc (.cells #[.i ch] 3))):=(bk f.out d).alloc (by have:=d.size;have:=f.out.size;omega) _;have aA:Hid ((w2.alloc (.cells #[.i ch] 3)).heap[w.heap.size]?=.c #[.i lev,.l g sg.length cap] 167):=bj (bj x.out d) (zj.alloc zf _);have aB:Hid ((w2.alloc (.cells #[.i ch] 3)).heap[bn]?=.c #[.i nd.1,.int .u64 (nd.2 0),.int .u64 (nd.2 1),.int .u64 (nd.2 2),.int .u64 (nd.2 3)] 217):=bj (bj E.out d) (zj.alloc zf _);clear d)
       |(at_builtin;refine kj _ rfl _ _ _ rfl w 3 i0 _ 1 8 aC.underlying180 Y Z ab an rfl zo u5 _ _ rfl z.out (.a w2 0) 1 1 _ rfl (by rfl) (aaT (By w2 _)) zv zo ze zo H.out.size ?_;intro g7 T w7 q A;have aE:=zu (fi.snoc q);have I:Hid (cV (w2.alloc (.cells #[.i ch] 3)) w7 u5 (.l g7 (Li.length+1) T)):=A;clear q A))
      exact⟨⟨i+1,zo,by go_num,by rw[y.out];exact aE.out,I.out.other z.out aA.out zd,I.out.other z.out aB.out zd,I.out.toBelow H.out H.out.size z.out⟩,zi⟩
    .obtain rfl:i=4:=zo;rw[<-HT.out]at t;go_wp2;exact⟨⟨k+1,zo,by go_num,t.out,x.out,f.out⟩,zi⟩
  .obtain rfl:k=sg.length:=zo;have hR:=HR.out;rw[abF]at hR;go_wp2;go_ret;exact⟨_,rfl,hR,U.out⟩
theorem zJ{g:Nd}{i c:Nat}(h:c∈dI D g i): ∃j,j<i/\c=g.1*4+j/\D c≠g.2 j:=by
 simp only[dI,aaW,acw,ace,abb]at h;grind
theorem vq{lev:Nat}(h:∀g∈sg,g.1<4 ^ lev):∀c∈bV D sg,c<4 ^ (lev+1):=λc a=>by
 obtain⟨g,b,a⟩:=abO.1 a;obtain⟨j,hj,rfl,_⟩:=zJ a;grind
theorem vR:∀{sg:List Nd},(sg.map (·.1)).Pairwise (· < ·)->(bV D sg).Pairwise (· < ·)
 |[],_=>List.Pairwise.nil
 |g::sg,h=>by
  rw[abv,abB]at h;show(dI D g 4++bV D sg).Pairwise _;rw[ach];refine⟨?_,vR h.2,λa e c b=>?_⟩
  .rw[dI,acs];exact((List.pairwise_lt_range (n:=4)).filter _).imp λ{a c} f=>zo
  .obtain⟨j,hj,rfl,_⟩:=zJ e;obtain⟨i,d,b⟩:=abO.1 b;obtain⟨l,k,rfl,_⟩:=zJ b
   have:=h.1 i.1 (adq d);omega
theorem rj:∀{l:List Nat} {a m:Nat},l.Pairwise (· < ·)->(∀x∈l,a<=x/\x<m)->l.length<=m-a
 |[],_,_,_,_=>aaZ _
 |x::l,a,m,h,hb=>by
  rw[abB]at h;have c:=hb x List.mem_cons_self
  have:=rj (a:=x+1) (m:=m) h.2 λy b=>⟨h.1 y b,(hb y (List.mem_cons_of_mem _ b)).2⟩
  grind
def nX(w:af)(bm:Nat->Nat)(K:aL)(d:Int):Option Let:=if d=cC w bm K 0 0 then none else some (.nodes 0 (iC w bm K 0 [0]))
def oB(w:af)(bm:Nat->Nat)(K:aL)(lev:Nat)(sg:List Nd):Option Let:=
 if bV (cC w bm K (lev+1)) sg= [] then none else if lev=2 then some (.bS 83 (dO w bm K (bV (cC w bm K (lev+1)) sg))) else some (.nodes (lev+1) (iC w bm K (lev+1) (bV (cC w bm K (lev+1)) sg)))
def iE:Option Let->ah
 |none=>⟨#[]⟩
 |some L=>L.bytes
theorem Qs(b num:Nat)(bm:Nat->Nat)(K:aL)(d:Int)(w:af)(h:aV w b bm num K)(k:gi w bm K):
  Calls aC.prog 104 #[.p b,.agg #[.int .u64 d]] w λe w'=>e=.r (.s (iE (nX w bm K d)))/\Below w w w':=by
 have f:Hid (Below w w (w.alloc (.cells #[.int .u64 d] 104))):=zj.alloc zf _;have x:Hid (∀W,Below w w W->Calls aC.prog 51 #[.p b,.i 0,.i 0] W λe w'=>e=.r (.int .u64 (cC w bm K 0 0))/\Below W W w'):=λW j=>zI h k 0 0 zo zd W j;have y:Hid (∀W,Below w w W->Calls aC.prog 137 #[.p b,.i 0,.l W 1 1] (W.alloc (.cells #[.i 0] 3)) λe w'=>e=.r (.s (Let.nodes 0 (iC w bm K 0 [0])).bytes)/\Below w w w'):=λW j=>by
  have hb:Below w w (W.alloc (.cells #[.i 0] 3)):=j.alloc j.size _;have aT:fi (W.alloc (.cells #[.i 0] 3)) W (.l W 1 1) [0]:=⟨rfl,Or.inr ⟨W,1,#[.i 0],rfl,zf,By W _,zf,zd,rfl,rfl⟩⟩
  have:=C4 b num 0 W bm K _ [0] _ (h.below hb) (k.below h hb) aT zo zd zp;rw[vM h hb zo zp]at this;exact this.mono λe w' ⟨m,n⟩=>⟨m,bk hb n⟩
 clear h k;unfold nX;generalize iC w bm K 0 [0]=no at*;generalize cC w bm K 0 0=D at*;have g:Hid (Calls aC.prog 51 #[.p b,.i 0,.i 0] (w.alloc (.cells #[.int .u64 d] 104)).drew λe w'=>e=.r (.int .u64 D)/\w'.cell? (.a w 0)=some (.int .u64 d)/\Below w w w'):=(x.out _ f.out.drew).mono λe w' ⟨m,hb⟩=>⟨m,by
  have:=(aH (bj (By w (.cells #[.int .u64 d] 104)) (bk zj.drew hb))).1 0;simpa using this,bk f.out.drew hb⟩
 have c0:(w.alloc (.cells #[.int .u64 d] 104)).cell? (.a w 0)=some (.int .u64 d):=by
  exact(aH (By w (.cells #[.int .u64 d] 104))).1 0
 by_cases o:d=D
 .subst o;rw[BY rfl];go_enter aC.func104,aC.ntmps104;go_upto_region 1 with fail;go_region_held3 (λw'=>w'.cell? (.a w 0)=some (.int .u64 d)) (go_keep)
   (first|(go_at_call 51;refine AI g.out ?_;rintro e w2 ⟨rfl,q,c⟩))
  all_goals
   go_wp2;go_ret;exact⟨rfl,c⟩
 .rw[AT o];have z:=o;go_enter aC.func104,aC.ntmps104;go_upto_region 1 with fail;go_region_held3 (λw'=>w'.cell? (.a w 0)=some (.int .u64 d)) (go_keep)
   (first|(go_at_call 51;refine AI g.out ?_;rintro e w2 ⟨rfl,q,c⟩))
  all_goals
   go_wp2_with (go_at_call 137;refine AI (y.out _ c) ?_;rintro e w3 ⟨rfl,t⟩)
   go_ret;exact⟨rfl,t⟩
theorem NQ(b num lev V:Nat)(bm:Nat->Nat)(K:aL)(lv:ag)(sg:List Nd)(w:af)(h:aV w b bm num K)(M:gi w bm K)(P:w.ownsRow V 217 5 lv sg.length (gJ sg))(G:lev<3)(hl:sg.length<=64)(q:∀g∈sg,g.1<4 ^ lev)(y:(sg.map (·.1)).Pairwise (· < ·))(H:∀ns:List Nat,ns.Pairwise (· < ·)->(∀n∈ns,n<64)->(Let.bS 83 (dO w bm K ns)).bytes.size<=140737488355328):
  Calls aC.prog 105 #[.p b,.agg #[.i lev,lv]] w λe w'=>e=.r (.s (iE (oB w bm K lev sg)))/\Below w w w':=by
 obtain⟨ad,cap,rfl⟩:=dS P;have N:=(mz (show lev+1<=3 by omega)).1;have f:=vq (D:=cC w bm K (lev+1)) q;have z:=vR (D:=cC w bm K (lev+1)) y;have ab:=rj (a:=0) (m:=64) z λx hx=>⟨aaZ _,abc (f x hx) N⟩
 obtain⟨O,A⟩: ∃W,W=w.alloc (.cells #[.i lev,.slice ad sg.length cap] 167):=⟨_,rfl⟩
 have k:Below w w O:=by rw[A];exact(aaP _ _).alloc (aba _) _
 have X:bV (cC O bm K (lev+1)) sg=bV (cC w bm K (lev+1)) sg:=by
  have Q:∀g∈sg,dI (cC O bm K (lev+1)) g 4=dI (cC w bm K (lev+1)) g 4:=λg Q=>by
   unfold dI;congr 1;refine List.filter_congr λj hj=>?_
   have:=q g Q;have an:=ace.1 hj;rw[uF h k (by omega) (by rw[acR];omega)]
  exact xW sg Q
 have B:Hid (Calls aC.prog 138 #[.p b,.agg #[.i lev,.slice ad sg.length cap]] (w.alloc (.cells #[.i lev,.slice ad sg.length cap] 167)) λe w'=>∃l c,e=.r (.slice l (bV (cC w bm K (lev+1)) sg).length c)/\fi w' w (.slice l (bV (cC w bm K (lev+1)) sg).length c) (bV (cC w bm K (lev+1)) sg)/\Below w w w'):=by
  rw[<-A]
  have:=Pb b num lev V bm K _ sg O (h.below k) (M.below h k) (bH P k (aba _)) G hl q;rw[X]at this;refine this.mono ?_;rintro e w' ⟨v,rfl,Y,F⟩;obtain⟨l,c,rfl⟩:=dS Y;exact⟨l,c,rfl,bU Y k.size,bk k F⟩
 have R:Hid (lev=2->∀W nv,Below w w W->fi W w nv (bV (cC w bm K (lev+1)) sg)->Calls aC.prog 139 #[.p b,.int .u8 83,nv] W λe w'=>e=.r (.s (Let.bS 83 (dO w bm K (bV (cC w bm K (lev+1)) sg))).bytes)/\Below w w w'):=λF W nv t aT=>by
  have es:∀n,n<64->dB W (bm n)=dB w (bm n):=λn C=>by unfold dB;rw[t.block _ (h.2.1 n C).lt]
  have Z:dO W bm K (bV (cC w bm K (lev+1)) sg)=dO w bm K (bV (cC w bm K (lev+1)) sg):=aci λn C=>by rw[es n (abc (f n C) N)]
  have:=GM b num 83 w bm K nv _ W (h.below t) (M.below h t) aT (by omega) (by omega) (λn C=>abc (f n C) N) (by rw[Z];exact H _ z (λn C=>abc (f n C) N));rw[Z]at this;exact this.mono λe w' ⟨S,hb⟩=>⟨S,bk t hb⟩
 have T:Hid (lev<2->∀W nv,Below w w W->fi W w nv (bV (cC w bm K (lev+1)) sg)->Calls aC.prog 137 #[.p b,.i ((lev:Int)+1),nv] W λe w'=>e=.r (.s (Let.nodes (lev+1) (iC w bm K (lev+1) (bV (cC w bm K (lev+1)) sg))).bytes)/\Below w w w'):=λF W nv t aT=>by
  have:=C4 b num (lev+1) w bm K nv _ W (h.below t) (M.below h t) aT (by omega) (by omega) f;rw[vM h t (by omega) f,show((lev+1:Nat):Int)=(lev:Int)+1 by omega]at this;exact this.mono λe w' ⟨S,hb⟩=>⟨S,bk t hb⟩
 have v1:(lev:Int)+1<=3:=by omega
 clear h M P f z A k X H q y;unfold oB;generalize dO w bm K (bV (cC w bm K (lev+1)) sg)=so at*;generalize iC w bm K (lev+1) (bV (cC w bm K (lev+1)) sg)=no at*;generalize bV (cC w bm K (lev+1)) sg=ds at*;by_cases U:ds= []
 .subst U;rw[BY rfl];go_enter aC.func105,aC.ntmps105;go_wp2_with (go_at_call 138;refine AI B.out ?_;rintro e w2 ⟨l,c,rfl,d,o⟩)
  go_ret;exact⟨rfl,o⟩
 .rw[AT U];have ao: ¬ds.length=0:=λh=>U (acP h);have aq: ¬(ds.length:Int)=0:=by omega
  by_cases F:lev=2
  .subst F;rw[BY rfl];have I:Hid _:=R.out rfl;go_enter aC.func105,aC.ntmps105;go_wp2_with (first
    |(go_at_call 138;refine AI B.out ?_;rintro e w2 ⟨l,c,rfl,d,o⟩)
    |(go_at_call 139;refine AI (I.out _ _ o d) ?_;rintro e w3 ⟨rfl,E⟩))
   go_ret;exact⟨rfl,E⟩
  .rw[AT F];have h3: ¬(lev:Int)+1=3:=by omega
   have J:Hid _:=T.out (by omega);go_enter aC.func105,aC.ntmps105;go_wp2_with (first
    |(go_at_call 138;refine AI B.out ?_;rintro e w2 ⟨l,c,rfl,d,o⟩)
    |(go_at_call 137;refine AI (J.out _ _ o d) ?_;rintro e w3 ⟨rfl,E⟩))
   go_ret;exact⟨rfl,E⟩
theorem aaD(a b:aG):je a b<0↔bf a b=true:=by
 simp only[je,lY,ir,bf,abb];omega
theorem FY(a b:aG):je a b=0↔a.rep=b.rep/\a.n=b.n:=by
 simp only[je,lY,ir];omega
theorem rf(a b:aG):bf a b=true↔a.1<b.1\/a.1=b.1/\a.2.1<b.2.1:=by simp[bf]
def XL(l:List aG)(v:aG)(w:af)(e:Ending)(w':af):Prop:=∃(i:Nat) (found:Bool),e=.r (.tuple #[.i i,.bool found])/\(found=true->∃h:i<l.length,l[i].rep=v.rep/\l[i].n=v.n)/\(found=false->∀u∈l,¬(u.rep=v.rep/\u.n=v.n))/\Below w w w'
theorem Qj(sv:ag)(l:List aG)(v:aG)(w:af)(h:aU w sv l)(hs:l.Pairwise λa b=>bf a b=true)(hl:l.length<=8000000):
  Calls aC.prog 196 #[sv,.agg #[.i v.rep,.i v.n,.s v.val],.func (.func 62) #[] #[]] w λe w'=>XL l v w e w':=by
 obtain⟨ad,cap,rfl,az⟩:=h.len;have M:Hid (Below w w (w.alloc (.cells #[.i v.rep,.i v.n,.s v.val] 117))):=zj.alloc zf _;have N:Hid ((w.alloc (.cells #[.i v.rep,.i v.n,.s v.val] 117)).heap[w.heap.size]?=.c #[.i v.rep,.i v.n,.s v.val] 117):=By w _;have HV:=zu h;have HS:=zu hs;have O:Hid (∀(u:aG) W,Calls aC.prog 62 #[.agg #[.i u.rep,.i u.n,.s u.val],.agg #[.i v.rep,.i v.n,.s v.val]] W λe w'=>e=.r (.i (je u v))/\Below W W w'):=λu W=>by
  refine(Af u.rep u.n v.rep v.n u.val v.val W).mono ?_;rintro e w' ⟨rfl,q,ab,rfl⟩;exact⟨rfl,Hb W q ab⟩
 have P:=zu ((show∀(j:Nat) (h:j<l.length),j<0->bf l[j] v=true fromλj h h0=>zo));clear h hs;go_enter aC.func196,aC.ntmps196;go_wp2;go_loopw [9,10] (λiv jv wr=>∃(i j:Nat),i<=j/\j<=l.length/\iv=.i i/\jv=.i j/\Hid (∀(q:Nat) (h:q<l.length),q<i->bf l[q] v=true)/\Hid (∀(q:Nat) (h:q<l.length),j<=q->bf l[q] v=false)/\Hid (wr.heap[w.heap.size]?=.c #[.i v.rep,.i v.n,.s v.val] 117)/\Hid (Below w w wr)) (λiv jv _=>((intOf jv).toNat-(intOf iv).toNat))
 case atStart=>exact⟨0,l.length,zo,zo,rfl,rfl,P.out,(show∀(q:Nat) (h:q<l.length),l.length<=q->bf l[q] v=false fromλq h h'=>zo),N.out,M.out⟩
 case round=>
  obtain⟨i,j,aB,aE,rfl,rfl,B,Q,Z,t⟩:=hrel;clear N M P;by_cases an:i<j
  .have a1:(i:Int)<(j:Int):=zo;obtain⟨m,K⟩: ∃m:Nat,m=(i+j) / 2:=⟨_,rfl⟩
   have R:i<=m/\m<j:=zo;have s1:(i:Int)+(j:Int)<=9223372036854775807:=zo;have s0:(0:Int)<=(i:Int)+(j:Int):=zo;go_upto_region 5 with fail;have S:((i:Int)+(j:Int)) / 2=(m:Int):=zo;have C:m<l.length:=zo;obtain⟨g,T,o,hg,_,_,d0,d1,d2⟩:=aU.cells (aU.below HV.out t.out) C;cases o;obtain⟨q,_⟩:=aH Z.out;have E:=q 0;have F:=q 1;have G:=q 2;simp at E F G;have d:Hid (Calls aC.prog 62 #[.agg #[.i l[m].rep,.i l[m].n,.s l[m].val],.agg #[.i v.rep,.i v.n,.s v.val]] wr.drew λe w'=>e=.r (.i (je l[m] v))/\Below wr wr w'):=(O.out l[m] wr.drew).mono λe w' ⟨he,hb⟩=>⟨he,bk zj.drew hb⟩
   have x:=aaD l[m] v;have ao:Hid _:=(show bf l[m] v=true->∀(q:Nat) (h:q<l.length),q<m+1->bf l[q] v=true fromλK q y aq=>by
    by_cases e:q=m
    .subst e;exact K
    .have h1:=acr.1 HS.out q m y C zo;rw[rf] at*;omega)
   have ar:Hid _:=(show bf l[m] v=false->∀(q:Nat) (h:q<l.length),m<=q->bf l[q] v=false fromλK q y aq=>by
    by_cases e:q=m
    .subst e;exact K
    .have h1:=acr.1 HS.out m q C y zo;have h2: ¬bf l[m] v=true:=by rw[K];decide
     cases hx:bf l[q] v with
     |false=>rfl
     |true=>
      exfalso;apply h2;rw[rf] at*;omega)
   generalize je l[m] v=z at*;generalize l[m].rep=rm at*;generalize l[m].n=nm at*;generalize l[m].val=tm at*;generalize bf l[m] v=bm at*;clear q;have m0:(0:Int)<=(m:Int):=zo;have m1:(m:Int)<(l.length:Int):=zo;have H:Hid (∀w',Below wr wr w'->w'.cell? (.a g (m*3))=.i rm/\w'.cell? (.a g (m*3+1))=.i nm/\w'.cell? (.a g (m*3+2))=.s tm/\w'.cell? (.a w 0)=.i v.rep/\w'.cell? (.a w 1)=.i v.n/\w'.cell? (.a w 2)=.s v.val):=λw' k=>⟨aX d0 k,aX d1 k,aX d2 k,aX E k,aX F k,aX G k⟩
   have U:=t.out.size;rw[S];have A:=zu x;have av:=zu R;have aT:=zu an;clear d0 d1 d2 E F G K S x R s1 s0;go_region_held3 (λw'=>w'.cell? (.a g (m*3))=.i rm/\w'.cell? (.a g (m*3+1))=.i nm/\w'.cell? (.a g (m*3+2))=.s tm/\w'.cell? (.a w 0)=.i v.rep/\w'.cell? (.a w 1)=.i v.n/\w'.cell? (.a w 2)=.s v.val)
    ((refine H.out _ ?_;first|exact f|(simp (maxDischargeDepth:=12) [aaP,aaR];done)))
    (first|(go_at_call 62;refine AI d.out ?_;rintro e w2 ⟨rfl,f⟩))
   all_goals
    have aA:=av.out;by_cases hz:z<0
    .have I:=A.out.1 hz;have V:Hid _:=ao.out I;go_wp2;exact⟨⟨m+1,j,zo,zo,by go_num,rfl,V.out,Q.out,bj Z.out f,bk t.out f⟩,zi⟩
    .have I:bm=false:=by
      cases hx:bm with
      |false=>rfl
      |true=>exact absurd (A.out.2 hx) hz
     have X:Hid _:=ar.out I;go_wp2;exact⟨⟨i,m,zo,zo,rfl,rfl,B.out,X.out,bj Z.out f,bk t.out f⟩,zi⟩
  .obtain rfl:i=j:=zo;have a1: ¬(i:Int)<(i:Int):=zo;by_cases p:i<l.length
   .obtain⟨g,T,o,hg,_,_,d0,d1,d2⟩:=aU.cells (aU.below HV.out t.out) p;cases o;obtain⟨q,_⟩:=aH Z.out;have E:=q 0;have F:=q 1;have G:=q 2;simp at E F G;have d:Hid (Calls aC.prog 62 #[.agg #[.i l[i].rep,.i l[i].n,.s l[i].val],.agg #[.i v.rep,.i v.n,.s v.val]] wr.drew λe w'=>e=.r (.i (je l[i] v))/\Below wr wr w'):=(O.out l[i] wr.drew).mono λe w' ⟨he,hb⟩=>⟨he,bk zj.drew hb⟩
    have Hz:Hid _:=(show(je l[i] v=0->∃h:i<l.length,l[i].rep=v.rep/\l[i].n=v.n)/\(¬je l[i] v=0->∀u∈l,¬(u.rep=v.rep/\u.n=v.n)) from⟨λh=>⟨p,(FY _ _).1 h⟩,λh u hu Y=>by
     obtain⟨q,y,rfl⟩:=acZ hu;rcases Nat.lt_trichotomy q i with J|rfl|J
     .have:=B.out q y J;rw[rf]at this;simp only[aG.rep,aG.n]at Y;omega
     .exact h ((FY _ _).2 Y)
     .have h1:=acr.1 HS.out i q p y J;have h2: ¬bf l[i] v=true:=by rw[Q.out i p zf];decide
      apply h2;rw[rf] at*;simp only[aG.rep,aG.n]at Y;omega⟩)
    have i0:(0:Int)<=(i:Int):=zo;have i1:(i:Int)<(l.length:Int):=zo;generalize je l[i] v=z at*;generalize l[i].rep=rm at d d0;generalize l[i].n=nm at d d1;generalize l[i].val=tm at d d2;clear q;have H:Hid (∀w',Below wr wr w'->w'.cell? (.a g (i*3))=.i rm/\w'.cell? (.a g (i*3+1))=.i nm/\w'.cell? (.a g (i*3+2))=.s tm/\w'.cell? (.a w 0)=.i v.rep/\w'.cell? (.a w 1)=.i v.n/\w'.cell? (.a w 2)=.s v.val):=λw' k=>⟨aX d0 k,aX d1 k,aX d2 k,aX E k,aX F k,aX G k⟩
    have U:=t.out.size;go_upto_region 8 with fail;clear d0 d1 d2 E F G;go_region_held3 (λw'=>w'.cell? (.a g (i*3))=.i rm/\w'.cell? (.a g (i*3+1))=.i nm/\w'.cell? (.a g (i*3+2))=.s tm/\w'.cell? (.a w 0)=.i v.rep/\w'.cell? (.a w 1)=.i v.n/\w'.cell? (.a w 2)=.s v.val)
     ((refine H.out _ ?_;first|exact f|(simp (maxDischargeDepth:=12) [aaP,aaR];done)))
     (first|(go_at_call 62;refine AI d.out ?_;rintro e w2 ⟨rfl,f⟩))
    all_goals
     go_wp2;go_ret2;exact⟨i,z==0,rfl,λh=>Hz.out.1 (by simpa using h),λh=>Hz.out.2 (by simpa using h),bk t.out f⟩
   .have i1: ¬(i:Int)<(l.length:Int):=zo;have ay:Hid _:=(show∀u∈l,¬(u.rep=v.rep/\u.n=v.n) fromλu hu Y=>by
     obtain⟨q,y,rfl⟩:=acZ hu
     have:=B.out q y zo;rw[rf]at this;simp only[aG.rep,aG.n]at Y;omega)
    go_upto_region 8 with fail;go_quiet (fail);go_wp2;go_ret2;exact⟨i,false,rfl,zc,λ_=>ay.out,abg t.out _⟩
def qi(l:List aG)(v:aG):Option aG:=l.find? λu=>decide (u.rep=v.rep/\u.n=v.n)
def eE(c:Ctx)(l:List aG)(v:aG):Option aG:=match qi l v with
 |some u=>some (v.rep,v.n,Go.Lib.minS v.val u.val)
 |none=>if gT c v then none else some v
def ml(c1:Ctx)(l1:List aG)(c2:Ctx)(l2:List aG):List aG:=aS l2 c1++l1.filterMap (eE c2 l2)
theorem Sv{l:List aG}(hs:l.Pairwise λa b=>bf a b=true){v:aG}{i:Nat}(hi:i<l.length)(h:l[i].rep=v.rep/\l[i].n=v.n):qi l v=some l[i]:=by
 cases d:qi l v with
 |none=>
  have:=List.find?_eq_none.1 d l[i] (IS hi);simp[h]at this
 |some u=>
  have e:=List.find?_some d;have f:=List.mem_of_find?_eq_some d;simp only[abb]at e;obtain⟨j,hj,rfl⟩:=acZ f;congr 1;rcases Nat.lt_trichotomy j i with c|rfl|c
  .have:=acr.1 hs j i hj hi c;rw[rf]at this;grind
  .rfl
  .have:=acr.1 hs i j hi hj c;rw[rf]at this;grind
theorem Ly{l:List aG}{v:aG}(h:∀u∈l,¬(u.rep=v.rep/\u.n=v.n)):qi l v=none:=by
 rw[qi,List.find?_eq_none];grind
structure iq(w:af)(c1:Ctx)(sv1:ag)(c2:Ctx)(sv2:ag)(W:af)(v:ag)(L:List aG):Prop where
 b1:W.heap[w.heap.size]?=.c #[.i (c1 0),.i (c1 1),.i (c1 2),.i (c1 3),sv1] 74
 b2:W.heap[w.heap.size+1]?=.c #[.i (c2 0),.i (c2 1),.i (c2 2),.i (c2 3),sv2] 74
 b3:W.heap[w.heap.size+2]?=.c #[.i 0,.i 0,.i 0,.i 0,.slice none 0 0] 74
 row:W.ownsRow w 117 3 v L.length (aQ L)
 bR:Below w w W
theorem iq.below{a:af}(h:iq w c1 sv1 c2 sv2 W v L)(hb:Below W W a):iq w c1 sv1 c2 sv2 a v L:=
 ⟨bj h.b1 hb,bj h.b2 hb,bj h.b3 hb,bH h.row hb zf,bk h.bR hb⟩
theorem iq.set(h:iq w c1 sv1 c2 sv2 W v L){bv:Nat}(hb:w.heap.size+2<bv)(hv:∀q,v.ownBlock=some q->q<bv)(o:Nat)(x:ag):iq w c1 sv1 c2 sv2 (W.setCell (.a bv o) x) v L:=by
 refine⟨?_,?_,?_,nh h.row λq _ b=>aaS _ _ _ _ (λe=>zg),h.bR.setCell (show w<=bv by omega) _⟩
 .rw[aaS _ _ _ _ (by show _≠bv;omega)];exact h.b1
 .rw[aaS _ _ _ _ (by show _≠bv;omega)];exact h.b2
 .rw[aaS _ _ _ _ (by show _≠bv;omega)];exact h.b3
theorem iq.app{X:af}{v':ag}{x:aG}{o:Obj}(h:iq w c1 sv1 c2 sv2 X v L)(b:cV (X.alloc o) W v v')(c:W.ownsRow w 117 3 v' (L.length+1) (aQ L++dT x)):iq w c1 sv1 c2 sv2 W v' (L++ [x]):=by
 have a:=h.below (zj.alloc zf o);refine⟨b.other a.row a.b1 zd,b.other a.row a.b2 zd,b.other a.row a.b3 zd,?_,b.toBelow a.bR a.bR.size a.row⟩;rw[abo,pc];simpa[aQ] using c
theorem Tg(ad:Option Addr)(cap:Nat)(w:af):
  Calls aC.prog 111 #[.slice ad 0 cap,.i 0,.i 0,.func (.func 62) #[] #[]] w λe w'=>e=.r (.tuple #[])/\w'=w:=by
 go_enter aC.func111,aC.ntmps111;go_wp2;go_loopw [8] (λi wr=>i=.i 1/\wr=w) (λ_ _=>1)
 case atStart=>exact⟨rfl,rfl⟩
 case round=>
  obtain⟨rfl,a⟩:=hrel;subst a;go_wp2;go_end0;exact⟨rfl,rfl⟩
theorem MX(ad:Option Addr)(cap:Nat)(w:af)(g:(cap:Int)<=9223372036854775807):
  Calls aC.prog 61 #[.slice ad 0 cap,.func (.func 62) #[] #[]] w λe w'=>e=.r (.tuple #[])/\Below w w w':=by
 go_enter aC.func61,aC.ntmps61;go_wp2;go_loopw [1,2] (λa b wr=>a=.i 0/\b=.i 0/\wr=w) (λ_ _ _=>1)
 case atStart=>exact⟨rfl,rfl,rfl⟩
 case round=>
  obtain⟨rfl,rfl,c⟩:=hrel;subst c;have d:Hid _:=Tg ad cap wr;go_wp2_with (go_at_call 111;refine AI d.out ?_;rintro e w' ⟨rfl,f⟩;subst w')
  first|go_end0|refine abn (results_none rfl _ _ _) rfl ?_
  go_wp2;first|go_end0|refine abn (results_none rfl _ _ _) rfl ?_
  exact⟨rfl,zj⟩
theorem iq.sort(h:iq w c1 sv1 c2 sv2 W v L)(m:L.length<=10000000):
  Calls aC.prog 61 #[v,.func (.func 62) #[] #[]] W λe w'=>e=.r (.tuple #[])/\∃d:List aG,d.Perm L/\d.Pairwise (λa b=>bf b a=false)/\iq w c1 sv1 c2 sv2 w' v d:=by
 by_cases g:L= []
 .subst g;obtain⟨ad,cap,rfl,i,_⟩:=lh h.row;exact(MX ad cap W i).mono λe w' ⟨j,hb⟩=>⟨j,[],List.Perm.refl _,List.Pairwise.nil,h.below hb⟩
 .refine (G7 w v L W h.row (List.length_pos_iff.2 g) zo).mono ?_;rintro e w' ⟨rfl,d,k,hs,f,c⟩;exact⟨rfl,d,k,hs,jQ c h.row h.b1 zd,jQ c h.row h.b2 zd,jQ c h.row h.b3 zd,f,h.bR.grown c h.bR.size λq l=>mF h.row l⟩
theorem MJ(c1:Ctx)(sv1:ag)(l1:List aG)(c2:Ctx)(sv2:ag)(l2:List aG)(w:af)(h1:aU w sv1 l1)(h2:aU w sv2 l2)(an:∀v∈l1,v.rep<4)(ao:∀v∈l2,v.rep<4)(aq:l2.Pairwise λa b=>bf a b=true)(cx:l1.length<=5000000)(cA:l2.length<=5000000):
  Calls aC.prog 182 #[bY c1 sv1,bY c2 sv2] w λe w'=>∃v' l',e=.r (bY (aO c1 c2) v')/\l'.Perm (ml c1 l1 c2 l2)/\l'.Pairwise (λa b=>bf b a=false)/\w'.ownsRow w 117 3 v' l'.length (aQ l')/\Below w w w':=by
 obtain⟨i0,ar,av,ay,az⟩:=aaY aC.wJ;obtain⟨H,j,rfl,bT⟩:=h1.len;obtain⟨z,f,rfl,bZ⟩:=h2.len;obtain⟨W0,A⟩: ∃W,W=((w.alloc (.cells #[.i (c1 0),.i (c1 1),.i (c1 2),.i (c1 3),.slice H l1.length j] 74)).alloc (.cells #[.i (c2 0),.i (c2 1),.i (c2 2),.i (c2 3),.slice z l2.length f] 74)).alloc (.cells #[.i 0,.i 0,.i 0,.i 0,.slice none 0 0] 74):=⟨_,rfl⟩
 have I:Below w w W0:=by rw[A];exact((zj.alloc zf _).alloc zp _).alloc zt _
 have aA:iq w c1 (.slice H l1.length j) c2 (.slice z l2.length f) W0 (.slice none 0 0) []:=by
  refine⟨?_,?_,?_,abh _ _ _ _,I⟩
  .rw[A,aaO _ _ _ zt,aaO _ _ _ zp];exact By w _
  .rw[A,aaO _ _ _ zp];exact mH w _ _
  .rw[A];exact y7 w _ _ _
 have HU:Hid (Calls aC.prog 59 #[bY c2 (.slice z l2.length f),bz c1] W0 λe w'=>∃v',e=.r v'/\iq w c1 (.slice H l1.length j) c2 (.slice z l2.length f) w' v' (aS l2 c1)):=by
  refine(sN c2 _ l2 c1 W0 (aU.below h2 I) ao zo).mono ?_;rintro e w' ⟨v',rfl,aB,hb⟩;have hj:=aA.below hb;exact⟨v',rfl,hj.b1,hj.b2,hj.b3,bU aB I.size,hj.bR⟩
 have aE:Hid _:=h1;have R:Hid _:=h2;have b0:Hid _:=an;have aT:Hid _:=aq;clear h1 h2 an ao aq aA I;go_enter aC.func182,aC.ntmps182;go_wp2_with (go_at_call 59;rw[<-A];refine AI HU.out ?_;rintro e w1 ⟨v1,rfl,S⟩;have a1:Hid _:=S;obtain⟨x1,_⟩:=aH S.b1;have y4:=x1 4;clear S x1)
 clear HU A;go_loopw [5,17] (λo iv wr=>∃k:Nat,k<=l1.length/\iv=.i k/\Hid (iq w c1 (.slice H l1.length j) c2 (.slice z l2.length f) wr o (aS l2 c1++(l1.take k).filterMap (eE c2 l2)))) (λ_ iv _=>l1.length-(intOf iv).toNat)
 case atStart=>exact⟨0,zo,rfl,by rw[ado,List.filterMap_nil,abU];exact a1.out⟩
 case round=>
  obtain⟨k,hk,rfl,G⟩:=hrel;clear a1;have cB:=G.out.bR.size;by_cases T:k<l1.length
  .obtain⟨g,cq,a6,hg,_,_,d0,d1,d2⟩:=aU.cells (aU.below aE.out G.out.bR) T;cases a6;have k1:(k:Int)<(l1.length:Int):=zo;have k0:(0:Int)<=(k:Int):=zo;have b4:=b0.out _ (IS T);have B:Hid (aS l2 c1++(l1.take (k+1)).filterMap (eE c2 l2)=(aS l2 c1++(l1.take k).filterMap (eE c2 l2))++(eE c2 l2 l1[k]).toList):=(show _=_ by
    rw[abE T,List.filterMap_append,List.append_assoc];rw[List.filterMap_cons,List.filterMap_nil];cases eE c2 l2 l1[k]<;>rfl)
   have a7:(aS l2 c1++(l1.take k).filterMap (eE c2 l2)).length<=10000000:=by
    have e1:(aS l2 c1).length<=l2.length:=abV _ _;have e2:=List.length_filterMap_le (eE c2 l2) (l1.take k);have e3:=ade k l1;rw[abo];omega
   have a8:=zu (λW hW=>Qj _ l2 l1[k] W (aU.below R.out hW) aT.out zo);have bb:Hid (∀W,Calls aC.prog 85 #[bz c2,.agg #[.i l1[k].rep,.i l1[k].n]] W λe w'=>e=.r (.bool (gT c2 l1[k]))/\Below W W w'):=λW=>xO c2 l1[k].rep l1[k].n W b4;have J:=zu ((show∀v,v=l1[k]->eE c2 l2 v=eE c2 l2 l1[k] fromλv hv=>by rw[hv]));generalize aS l2 c1++(l1.take k).filterMap (eE c2 l2)=L at*;generalize cI:l1[k]=v at*;obtain⟨r,n,t⟩:=v;simp only[aG.rep,aG.n,aG.val] at*;obtain⟨W5,K⟩: ∃W,W=wr.alloc (.cells #[.i r,.i n,.s t] 117):=⟨_,rfl⟩
   have U:Below wr wr W5:=by rw[K];exact zj.alloc zf _
   have bc:=zu (G.out.below U);have bd:Hid (W5.heap[wr.heap.size]?=.c #[.i r,.i n,.s t] 117):=(by rw[K];exact By wr _)
   have b5:∀q,u5.ownBlock=some q->q<wr:=λq hq=>pO G.out.row hq;have b6:=(aH (bj G.out.b2 ((aaP wr wr).alloc zf (.cells #[.i r,.i n,.s t] 117)))).1 4;have P:=zu (a8.out W5 (bk G.out.bR U));clear a8 U;go_upto_region 6 with (go_at_call 196;rw[<-K];refine AI P.out ?_;rintro e w2 ⟨i,found,rfl,bm,bn,bo⟩;have b7:Hid (found=true->∃h:i<l2.length,l2[i].rep=r/\l2[i].n=n):=bm;have b8:Hid (found=false->∀u∈l2,¬(u.rep=r/\u.n=n)):=bn;have V:=zu bo;clear bm bn bo)
   have y:=zu (bc.out.below V.out);have X:=zu (bj bd.out V.out);clear bc bd V K P b6 d0 d1 d2;obtain⟨z2,_⟩:=aH y.out.b2;obtain⟨vv,fv⟩:=aH X.out;have cK:=z2 0;have cN:=z2 1;have cW:=z2 2;have cY:=z2 3;have c0:=z2 4;have cr:=(IN.1 G.out.b2).1;have cv: ¬w.heap.size+1=wr.heap.size:=zo;clear z2;cases found with
   |true=>
    obtain⟨hi,b9,ca⟩:=b7.out rfl;have M:eE c2 l2 (r,n,t)=some (r,n,Go.Lib.minS t l2[i].val):=by
     rw[eE,Sv aT.out hi ⟨b9,ca⟩]
    obtain⟨g2,cb,bp,cc,_,_,_,_,Q⟩:=aU.cells R.out hi;cases bp;have cd:=(y.out.bR.cell (p:=(.a g2 (i*3+2))) cc).trans Q;have br:∀W,(Builtin.min_ #[9,9] 9 #[.s t,.s l2[i].val]).run aC.prog W=.ok (.s (Go.Lib.minS t l2[i].val)) W:=λW=>Go.Lib.run_min_strs W _ _ _ _;clear Q;have i1:(i:Int)<(l2.length:Int):=zo;have c5:(0:Int)<=(i:Int):=zo;rw[J.out _ rfl]at B;clear J;generalize l2[i].val=tu at*;have cw: ¬g2=wr.heap.size:=zo;generalize Go.Lib.minS t tu=tm at*;go_upto_region 7 with fail;go_region_law (fail)
    all_goals
     obtain⟨W3,N⟩: ∃W,W=(w2.setCell (.a wr 2) (.s tm)).drew:=⟨_,rfl⟩
     rw[<-N];have cj:=(IN.1 G.out.b3).1;have C:Hid (iq w c1 (.l g l1.length j) c2 (.l g2 l2.length f) W3 u5 L):=(by rw[N];exact(y.out.set cj b5 _ _).below zj.drew)
     have bs:W3.heap[wr.heap.size]?=.c #[.i r,.i n,.s tm] 117:=by
      rw[N];exact heap_set (w:=w2) (o:=2) (v:=.s tm) X.out
     obtain⟨v3,f3⟩:=aH bs;clear N vv fv bs br cd;have Y:Hid ((W3.alloc (.cells #[.i r,.i n,.s tm] 117)).ownsRow w 117 3 u5 L.length (aQ L)):=aaV C.out.row _;have bx:=C.out.bR.size;go_wp2_with (at_builtin;refine kj _ rfl _ _ _ rfl w 117 i0 _ 3 32 aC.underlying72 ar av ay az rfl zo u5 _ _ rfl Y.out (.a W3 0) 1 1 _ rfl (by rfl) (aaT (By W3 _)) zv zo ze zo zt ?_;intro g7 E w7 m x;have Z:Hid (iq w c1 (.l g l1.length j) c2 (.l g2 l2.length f) w7 (.l g7 (L.length+1) E) (L++ [(r,n,tm)])):=C.out.app x m;clear m x)
     refine⟨⟨k+1,zo,by go_num,?_⟩,zi⟩;rw[B.out,M];exact Z.out
   |false=>
    have bB:=Ly (v:=(r,n,t)) (b8.out rfl);have M:eE c2 l2 (r,n,t)=if gT c2 (r,n,t) then none else some (r,n,t):=by
     rw[eE,bB]
    rw[J.out _ rfl]at B;clear J bB;generalize c6:gT c2 (r,n,t)=sb at*;cases sb with
    |true=>
     go_wp2_with (go_at_call 85;refine(bb.out _).mono ?_;rintro e w3 ⟨rfl,d⟩;have ck:=zu d;clear d)
     refine⟨⟨k+1,zo,by go_num,?_⟩,zi⟩;rw[B.out,M];simp only[abj,Option.toList_none,abU];exact y.out.below ck.out
    |false=>
     go_wp2_with (first
      |(go_at_call 85;refine(bb.out _).mono ?_;rintro e w3 ⟨rfl,d⟩;obtain⟨v3,f3⟩:=aH (bj X.out d);have C:=zu (y.out.below d);have Y:Hid ((w3.alloc (.cells #[.i r,.i n,.s t] 117)).ownsRow w 117 3 u5 L.length (aQ L)):=aaV (bH y.out.row d zf) _;have bx:=(y.out.below d).bR.size;clear d)
      |(at_builtin;refine kj _ rfl _ _ _ rfl w 117 i0 _ 3 32 aC.underlying72 ar av ay az rfl zo u5 _ _ rfl Y.out (.a w3 0) 1 1 _ rfl (by rfl) (aaT (By w3 _)) zv zo ze zo zt ?_;intro g7 E w7 m x;have Z:Hid (iq w c1 (.l g l1.length j) c2 (.slice z l2.length f) w7 (.l g7 (L.length+1) E) (L++ [(r,n,t)])):=C.out.app x m;clear m x))
     refine⟨⟨k+1,zo,by go_num,?_⟩,zi⟩;rw[B.out,M];exact Z.out
  .obtain rfl:k=l1.length:=zo;have hJ:=G.out;rw[abF]at hJ;obtain⟨cl,bL,rfl⟩:=dS hJ.row;have a7:(aS l2 c1++l1.filterMap (eE c2 l2)).length<=10000000:=by
    have e1:(aS l2 c1).length<=l2.length:=abV _ _;have e2:=List.length_filterMap_le (eE c2 l2) l1;rw[abo];omega
   have cm:Hid _:=hJ.sort a7;have cn:Hid _:=λW=>tP c1 c2 W;generalize (aS l2 c1++l1.filterMap (eE c2 l2)).length=LN at*;clear hJ G aE R;go_wp2_with (first
    |(go_at_call 61;refine AI cm.out ?_;rintro e w4 ⟨rfl,l',hp,hs,O⟩;obtain⟨s1,_⟩:=aH O.b1;obtain⟨s2,_⟩:=aH O.b2;have HP:Hid _:=hp;have cp:Hid _:=hs;have bN:Hid _:=O;clear hp hs O)
    |(go_at_call 60;refine(cn.out _).mono ?_;rintro e w6 ⟨rfl,ab⟩;have ad:Hid _:=bN.out.below ab;obtain⟨r6,f6⟩:=aH (show w6.heap[w.heap.size+1+1]?=.c #[.i 0,.i 0,.i 0,.i 0,.slice none 0 0] 74 from(bN.out.below ab).b3);clear ab))
   have d:=ad.out.b3;refine abn (v:=bY (aO c1 c2) (.slice cl LN bL)) ?_ rfl ⟨_,l',rfl,HP.out,cp.out,?_,?_⟩
   .simp[results,aC.results182,go_sem,r6]
   .exact dy (dy (dy (dy (dy ad.out.row d zd _ _) (heap_set d) zd _ _) (heap_set (heap_set d)) zd _ _) (heap_set (heap_set (heap_set d))) zd _ _) (heap_set (heap_set (heap_set (heap_set d)))) zd _ _
   .have F:w<=w.heap.size+1+1:=zo;exact((((ad.out.bR.setCell F _).setCell F _).setCell F _).setCell F _).setCell F _
end Go.Proofs.YtldmcdeibiclkaaGreatQ
namespace Go.Proofs.YtldmcdeibiclkaaGreatQ
variable {c1 c2:Ctx}{l1 l2:List aG}{u v:aG}
structure gN(c:Ctx)(l:List aG):Prop where
 ctx:∀i,i<4->0<=c i/\c i<=1000000
 fX:∀v∈l,v.rep<4/\1<=v.n/\v.val.size<=12/\v.n<=c v.rep
 sorted:l.Pairwise λa b=>bf a b=true
theorem jR(a b:aG):bf a b=true↔a.1<b.1\/a.1=b.1/\a.2.1<b.2.1:=by simp[bf]
theorem IJ:∀{a b:List aG},a.Pairwise (λu v=>bf u v=true)->b.Pairwise (λu v=>bf u v=true)->(∀v,v∈a↔v∈b)->a=b
 |[],[],_,_,_=>rfl
 |[],y::b,_,_,h=>by have:=(h y).2 zp;cases this
 |x::a,[],_,_,h=>by have:=(h x).1 zp;cases this
 |x::a,y::b,g,hb,h=>by
  have c:=abB.1 g;have d:=abB.1 hb;have e:x=y:=by
   rcases abk.1 ((h x).1 zp) with e|i
   .exact e
   .rcases abk.1 ((h y).2 zp) with e|j
    .exact e.symm
    .have k:=(jR _ _).1 (c.1 y j);have l:=(jR _ _).1 (d.1 x i);omega
  subst e;congr 1;refine IJ c.2 d.2 λv=>⟨λhv=>?_,λhv=>?_⟩
  .rcases abk.1 ((h v).1 (by simp[hv])) with e|f
   .subst e
    have:=(jR _ _).1 (c.1 v hv);omega
   .exact f
  .rcases abk.1 ((h v).2 (by simp[hv])) with e|f
   .subst e
    have:=(jR _ _).1 (d.1 v hv);omega
   .exact f
def nD(c1:Ctx)(l1:List aG)(c2:Ctx)(l2:List aG):List aG:=(ml c1 l1 c2 l2).mergeSort λa b=>!bf b a
def F6(c1:Ctx)(l1:List aG)(c2:Ctx)(l2:List aG):(nD c1 l1 c2 l2).Perm (ml c1 l1 c2 l2):=List.mergeSort_perm _ _
def Ho(v:aG):v∈nD c1 l1 c2 l2↔v∈ml c1 l1 c2 l2:=(F6 _ _ _ _).mem_iff
theorem UT(v:aG):v∈ml c1 l1 c2 l2↔(v∈l2/\gT c1 v=false)\/∃u∈l1,eE c2 l2 u=some v:=by
 simp[ml,aS]
theorem xC{c:Ctx}{l:List aG}(h:eE c l u=some v):v.1=u.1/\v.2.1=u.2.1:=by
 unfold eE at h;grind
def kE(a b:aG):Prop:=a.1≠b.1\/a.2.1≠b.2.1
theorem kE.of_lt{a b:aG}(h:bf a b=true):kE a b:=by
 have:=(jR _ _).1 h;unfold kE;omega
theorem JY{c:Ctx}{l:List aG}:∀{m:List aG},m.Pairwise (λu v=>bf u v=true)->(m.filterMap (eE c l)).Pairwise λu v=>bf u v=true
 |[],_=>List.Pairwise.nil
 |x::m,h=>by
  have a:=abB.1 h;have b:=JY (c:=c) (l:=l) a.2;rw[List.filterMap_cons];cases g:eE c l x with
  |none=>exact b
  |some y=>
   refine abB.2 ⟨λz i=>?_,b⟩;obtain⟨u,j,e⟩:=List.mem_filterMap.1 i;have d:=xC g;have f:=xC e;have k:=(jR _ _).1 (a.1 u j);rw[jR,d.1,d.2,f.1,f.2];exact k
theorem Cu(h1:gN c1 l1)(c:gN c2 l2):(ml c1 l1 c2 l2).Pairwise kE:=by
 unfold ml;rw[ach];refine⟨List.Pairwise.imp kE.of_lt (adt _ c.sorted),List.Pairwise.imp kE.of_lt (JY h1.sorted),λa d b hb=>?_⟩;obtain⟨_,hs⟩:=acw.1 d;obtain⟨u,f,e⟩:=List.mem_filterMap.1 hb;have g:=xC e;have hv:=(h1.fX u f).2.2.2;simp only[gT,Bool.not_eq_true',acA]at hs;unfold kE;grind
theorem Al:∀{l:List aG},l.Pairwise (λa b=>bf b a=false)->l.Pairwise kE->l.Pairwise λa b=>bf a b=true
 |[],_,_=>List.Pairwise.nil
 |x::l,h,f=>by
  have d:=abB.1 h;have c:=abB.1 f;refine abB.2 ⟨λy e=>?_,Al d.2 c.2⟩;have g: ¬(bf y x=true):=by rw[d.1 y e];simp
  have i:=c.1 y e;rw[jR]at g ⊢;unfold kE at i;omega
theorem tU{a b:List aG}(h:a.Perm b)(hb:b.Pairwise kE):a.Pairwise kE:=
 (h.pairwise_iff (λ{x y} h=>by unfold kE at*;omega)).2 hb
theorem Vz(c1:Ctx)(l1:List aG)(c2:Ctx)(l2:List aG):(nD c1 l1 c2 l2).Pairwise λa b=>bf b a=false:=by
 have:=List.pairwise_mergeSort (le:=λa b:aG=>!bf b a) (λa b c d e=>by
  simp only[Bool.not_eq_true'] at*;have d: ¬(bf b a=true):=by rw[d];simp
  have e: ¬(bf c b=true):=by rw[e];simp
  have: ¬(bf c a=true):=by
   rw[jR] at*;omega
  simpa using this) (λa b=>by
  by_cases h:bf b a=true
  .have: ¬(bf a b=true):=by
    rw[jR] at*;omega
   simp[this]
  .simp[h]) (ml c1 l1 c2 l2)
 exact List.Pairwise.imp (λh=>by simpa using h) this
def GU(h1:gN c1 l1)(c:gN c2 l2):(nD c1 l1 c2 l2).Pairwise λa b=>bf a b=true:=
 Al (Vz _ _ _ _) (tU (F6 _ _ _ _) (Cu h1 c))
theorem Dh{c:List aG}(h1:gN c1 l1)(d:gN c2 l2)(e:c.Perm (ml c1 l1 c2 l2))(hs:c.Pairwise λa b=>bf b a=false):c=nD c1 l1 c2 l2:=
 IJ (Al hs (tU e (Cu h1 d))) (GU h1 d) λv=>by rw[e.mem_iff,Ho]
theorem Ve{a b:ah}{n:Nat}(c:a.size<=n)(hb:b.size<=n):(Go.Lib.minS a b).size<=n:=by
 unfold Go.Lib.minS;split<;>assumption
theorem Jo{l:List aG}(h:qi l v=some u):u∈l/\u.1=v.1/\u.2.1=v.2.1:=by
 refine⟨List.mem_of_find?_eq_some h,?_⟩;simpa using List.find?_some h
theorem Q2(h1:gN c1 l1)(f:gN c2 l2):gN (aO c1 c2) (nD c1 l1 c2 l2) where
 ctx:=λi hi=>by have:=h1.ctx i hi;have:=f.ctx i hi;simp only[aO];omega
 fX:=λv hv=>by
  rcases (UT v).1 ((Ho v).1 hv) with⟨h,_⟩|⟨u,j,e⟩
  .obtain⟨a,b,c,d⟩:=f.fX v h;exact⟨a,b,c,by simp only[aO];omega⟩
  .obtain⟨a,b,c,d⟩:=h1.fX u j;have g:=xC e;refine⟨zg,zg,?_,by rw[show v.rep=u.rep from g.1,show v.n=u.n from g.2];simp only[aO];omega⟩;unfold eE at e;split at e
   .rename_i x k;cases e;exact Ve c (f.fX x (Jo k).1).2.2.1
   grind
 sorted:=GU h1 f
def jg(a b:Ctx×List aG):Ctx×List aG:=(aO a.1 b.1,nD a.1 a.2 b.1 b.2)
def cX(K:aL)(rs:List aJ):aL:=rs.foldl (λK r=>dV K r.1 (jg (K r.1) r.2)) K
theorem xG{s:ah}:∀{rs:List aJ} {K:aL},(∀r∈rs,r.1≠s)->cX K rs s=K s
 |[],_,_=>rfl
 |r::rs,K,h=>by
  have:=xG (rs:=rs) (K:=dV K r.1 (jg (K r.1) r.2)) λx a=>h x (by simp[a]);rw[show cX K (r::rs)=cX (dV K r.1 (jg (K r.1) r.2)) rs from rfl,this,dV,AT λe=>h r zp e.symm]
theorem uw(K:aL)(a b:List aJ):cX K (a++b)=cX (cX K a) b:=by
 simp[cX,acv]
end Go.Proofs.YtldmcdeibiclkaaGreatQ
namespace Go.Proofs.YtldmcdeibiclkaaGreatQ
open Go.RowKit
structure Jd(n:Nat)(rs:List aJ):Prop where
 each:∀r∈rs,aZ r.1=n/\bq r.1=true/\il r.2.1 r.2.2/\r.2.2.length<=5000000
 apart:(rs.map (·.1)).Pairwise (·≠·)
def Fit(K:aL):Prop:=∀s,gN (K s).1 (K s).2/\(K s).2.length<=5000000
theorem il.oj{c:Ctx}{l:List aG}(h:il c l):gN c l:=by
 refine⟨λi hi=>?_,h.fX,h.sorted⟩
 have:=h.ctx;simp only[cR,gC,No,abb]at this;grind
theorem Rp{c d:Ctx}(a:∀i,i<4->0<=c i)(b:∀i,i<4->0<=d i)(h:fj d):fj (aO c d):=by
 obtain⟨i,hi,e⟩:=h
 have:=a i hi
 have:=b i hi;refine⟨i,hi,?_⟩;simp only[aO];omega
structure Cq(w:af)(b num n:Nat)(bm:Nat->Nat)(K:aL)(W:af):Prop where
 rep:aV W b bm num K
 fr:Fr (λq=>q=bm n) w W
theorem Yx(b num n B:Nat)(bm:Nat->Nat)(K:aL)(rv:ag)(rc:List Rc)(w:af)(h:aV w b bm num K)(hn:n<64)(aT:fD w B rv rc)(hv:∀r∈rc,aU w r.sv r.l)(Y:Jd n (rc.map Rc.bP))(hK:∀r∈rc.map Rc.bP,gN (K r.1).1 (K r.1).2/\(K r.1).2.length<=5000000):
  Calls aC.prog 140 #[.map (some (bm n)),rv] w λe w'=>e=.r (.tuple #[])/\aV w' b bm num (cX K (rc.map Rc.bP))/\Fr (λq=>q=bm n) w w':=by
 obtain⟨ad,cap,rfl,Z,bN⟩:=aT.len;unfold maxLen at Z;have J:Hid _:=aT;have HV:Hid _:=hv;have R:=zu Y;have HK:Hid _:=hK;have M: ∃es clock,w.heap[bm n]?=some (.map es clock):=by
  obtain⟨es,clock,e,_⟩:=h.2.1 n hn;exact⟨es,clock,e⟩
 have ab:Hid (∀{q C t fr},w.heap[q]?=some (.cells C t fr)->¬q=bm n):=λ{q C t fr} hq e=>by
  obtain⟨es,clock,he⟩:=M;rw[e,he]at hq;cases hq
 have an:Hid (Cq w b num n bm (cX K []) w):=⟨h,Fr.refl _ _⟩
 clear aT hv Y hK h M;go_enter aC.func140,aC.ntmps140;go_wp2;go_loopw [8] (λiv wr=>∃k:Nat,k<=rc.length/\iv=.i k/\Hid (Cq w b num n bm (cX K ((rc.take k).map Rc.bP)) wr)) (λiv _=>rc.length-(intOf iv).toNat)
 case atStart=>exact⟨0,zo,rfl,an.out⟩
 case round=>
  obtain⟨k,hk,rfl,N⟩:=hrel;clear an;by_cases p:k<rc.length
  .obtain⟨g,ao,aq,br,_,_,cc⟩:=fD.cells J.out p;cases aq;obtain⟨y,ar⟩: ∃y,w.heap[g]?=some (.cells y 152 (0,0)):=by
    rcases J.out.2 with⟨e,_⟩|⟨g',ao,y,e,_,hh,_⟩
    .cases e
    .cases e;exact⟨y,hh⟩
   have bs:=ab.out ar;have S:∀j,j<6->wr.cell? (.a g (k*6+j))=(mr rc[k].key rc[k].c rc[k].sv)[j]? :=λj hj=>by
    rw[World.cell?_of_block (N.out.fr.block g br bs)];exact cc j hj
   have c0:=S 0 zo;have c1:=S 1 zo;have c2:=S 2 zo;have c3:=S 3 zo;have c4:=S 4 zo;have c5:=S 5 zo;clear cc S;simp[mr]at c0 c1 c2 c3 c4 c5;have T:=HV.out rc[k] (IS p);have av:=T.de λq hq ⟨y,hc⟩=>N.out.fr.block q hq (ab.out hc);obtain⟨e1,e2,X,e4⟩:=R.out.each rc[k].bP (adq (IS p));have z:Hid (cX K ((rc.take k).map Rc.bP) rc[k].key=K rc[k].key):=xG λr hr e=>by
    obtain⟨x,hx,rfl⟩:=aaW.1 hr;obtain⟨j,hj,rfl⟩:=acZ hx;rw[acN]at hj;have hp:=acr.1 R.out.apart j k zt zt zo;simp only[acE,List.getElem_map,Function.comp]at hp;rw[List.getElem_take]at e;exact hp e
   have U:Hid (cX K ((rc.take (k+1)).map Rc.bP)=dV (cX K ((rc.take k).map Rc.bP)) rc[k].key (jg (K rc[k].key) (rc[k].c,rc[k].l))):=(show _=_ by
    rw[abE p,abZ,uw,<-z.out];rfl)
   have A:Hid (gN (K rc[k].key).1 (K rc[k].key).2/\(K rc[k].key).2.length<=5000000):=HK.out rc[k].bP (adq (IS p));obtain⟨es,clock,m1,m2,m3,m4,m5⟩:=N.out.rep.2.1 n hn;obtain⟨bR,n1,n2⟩:=m3 rc[k].key e1;rw[z.out]at n1 n2;obtain⟨G,f,ay⟩:=vD T;obtain⟨az,O,aA⟩:=vD n2;clear R HK z T m3 m4 m5;simp only[Rc.bP]at e1 e2 X e4;have P:=zu N.out.rep;have aB:=zu N.out.fr;clear N;generalize cX K ((rc.take k).map Rc.bP)=Kk at*;generalize aE:cX K ((rc.take (k+1)).map Rc.bP)=Kn at*;have bx:=zu aE;clear aE;generalize rc[k].key=key at*;generalize rc[k].c=c at*;generalize rc[k].sv=sv at*;generalize rc[k].l=l at*;subst ay aA;generalize a1:(K key).1=cK at*;generalize a6:(K key).2=lK at*;have a7:K key=(cK,lK):=Prod.ext a1 a6;rw[a7]at U;clear a7 a1 a6;subst e1;have k1:(k:Int)<(rc.length:Int):=zo;have k0:(0:Int)<=(k:Int):=zo;obtain⟨H,I⟩: ∃W,W=wr.alloc (.cells (.q key c (.slice G l.length f)) 152):=⟨_,rfl⟩
   have E:Below wr wr H:=by rw[I];exact zj.alloc zf _
   have bT:(Instr.lookup 63 (.map (some (bm (aZ key)))) (.s key) false).run aC.prog H.drew=.ok (bY cK (.slice az lK.length O)) H.drew:=by
    rw[qx H.drew _ es clock key (bj m1 E.drew) m2,n1]
   have V:H.heap[wr.heap.size]?=.c (.q key c (.slice G l.length f)) 152:=by rw[I];exact By wr _
   have bB:Hid (Calls aC.prog 182 #[bY cK (.slice az lK.length O),bY c (.slice G l.length f)] H.drew λe w2=>∃v',e=.returned (bY (aO cK c) v')/\(∃F d,(Instr.mapUpdate 63 (.map (some (bm (aZ key)))) (.string key) (bY (aO cK c) v')).run aC.prog w2=.ok () (jA w2 (bm (aZ key)) F d)/\Cq w b num (aZ key) bm Kn (jA w2 (bm (aZ key)) F d))/\(∀o,w2.cell? ⟨wr.heap.size,o,none⟩=#[.string key,.int .i64 (c 0),.int .i64 (c 1),.int .i64 (c 2),.int .i64 (c 3),.slice G l.length f][o]?)):=by
    refine(MJ cK _ lK c _ l H.drew (aU.below n2 E.drew) (aU.below av E.drew) (λv hv=>(A.out.1.fX v hv).1) (λv hv=>(X.fX v hv).1) X.sorted A.out.2 e4).mono ?_;rintro e w2 ⟨v',l',rfl,hp,hs,a8,bb⟩;have m:=bk E.drew bb;obtain rfl:=Dh A.out.1 X.oj hp hs;obtain⟨F,d,bc,bL,bd,bn⟩:=D8 (bm (aZ key)) es clock key (bY (aO cK c) v') m2;refine⟨v',rfl,⟨F,d,bc _ (bj m1 m),?_⟩,?_⟩
    .have Q:=D4 (w:=w2) (w1:=w2) (l:=nD cK lK c l) (c:=aO cK c) (sv:=v') zj (P.out.below m) (bj m1 m) bL bd bn ⟨by have:=mW e2;omega,e2⟩ (Rp (λi hi=>(A.out.1.ctx i hi).1) (λi hi=>(X.oj.ctx i hi).1) X.some) (aU.uU (B:=H.drew.heap.size) a8);refine⟨by rw[U.out];exact Q.1,?_⟩;exact(aB.out.below m).grown Q.2 λx hx _=>by cases hx;rfl
    .exact (aH (bj (W:=H.drew) V bb)).1
   have cW:=(aH V).1;clear V E m1 m2 n1 n2 av P aB U A;go_upto_region 3 with fail;rw[<-I];clear I;go_region_with (first|(go_at_call 182;refine AI bB.out ?_;rintro e w2 ⟨v',rfl,⟨F,d,bZ,bo⟩,b0⟩;have HU:Hid _:=bo;clear bo))
   all_goals
    go_wp2;exact⟨⟨k+1,zo,by go_num,by rw[bx.out];exact HU.out⟩,zi⟩
  .obtain rfl:k=rc.length:=zo;have bp:=zu ((by have:=N.out;rw[abF]at this;exact this));clear N;go_wp2;go_end0;exact⟨rfl,bp.out.rep,bp.out.fr⟩
end Go.Proofs.YtldmcdeibiclkaaGreatQ
