/-
  Toward all_holds
-/
import Derived.Test.YtldmcdeibiclkaaGreatC24
import Derived.Test.YtldmcdeibiclkaaGreatC01
import Derived.Test.YtldmcdeibiclkaaGreatC17
import Derived.Test.YtldmcdeibiclkaaGreatC20
import Derived.Test.YtldmcdeibiclkaaGreatC23
import Derived.Deep.RegionHeld3
set_option linter.all false
noncomputable section
set_option maxRecDepth 100000
set_option maxHeartbeats 20000000
namespace Go.Proofs.YtldmcdeibiclkaaGreatQ
variable {w:af}{B:Nat}{t:ak}{v:ag}{xs:ae}
open Go.RowKit
theorem Pp(W:af)(r n:Int)(s:ah):(binOp .eql 88 (.agg #[.i r,.i n,.s s]) (.agg #[.i r,.i n,.s s])).run aC.prog W=.ok (.bool true) W:=by
 have d:=aC.underlying3;have e:=aC.underlying9;have f:=aC.isAgg3;have g:=aC.sizeOf3;have h:=aC.isAgg9;have j:=aC.sizeOf9;have a:aC.prog.underlying 88=some (.struct (aC.prog.fieldsOf 88)):=zk;have c:aC.prog.stoodInHeld 88=false:=zk;rw[run_eql_struct,show(10000:Nat)=9999+1 from rfl,run_equalIn_agg W 9999 88 _ _ a c];simp only[Program.fieldsOf,aC.underlying88];go_simp
theorem WX(d:Nat)(W:af)(a b c e:Int):(Op.equalIn (d+2) 34 (.agg #[.i a,.i b,.i c,.i e]) (.agg #[.i a,.i b,.i c,.i e])).run aC.prog W=.ok true W:=by
 have h:=aC.underlying3;have f:=aC.underlying34;have g:=aC.isAgg3;have j:=aC.sizeOf3;rw[Op.equalIn];simp only[abH,abW f,abY];go_simp;rw[show List.range' 0 4= [0,1,2,3] from rfl];simp only[List.forIn_cons,List.forIn_nil,abH,g,abY,abf,abd];go_simp
theorem UP(W:af)(a b c d:Int):(binOp .eql 34 (.agg #[.i a,.i b,.i c,.i d]) (.agg #[.i a,.i b,.i c,.i d])).run aC.prog W=.ok (.bool true) W:=by
 rw[run_eql_struct,show(10000:Nat)=9998+2 from rfl,WX];rfl
theorem VY(b rb:Nat)(key:ah)(c:Ctx)(L:List aG)(er:Int)(w:af)(hL:L.length<=8000000)(h1:∀W,Below w w W->Calls aC.prog 66 #[.p b,.s key] W λe w'=>∃v',e=.r (.tuple #[v',bz c,.i er])/\w'.ownsRow W 88 3 v' L.length (aQ L)/\Below W W w')(h2:∀W,Below w w W->Calls aC.prog 28 #[.p rb,.s key] W λe w'=>∃v',e=.r (.tuple #[v',bz c,.i er])/\fT w' v' L/\Below W W w'):
  Calls aC.prog 44 #[.agg #[.p b,.p rb],.s key] w λe w'=>∃v',e=.r (.tuple #[v',.bool true])/\w'.ownsRow w 88 3 v' L.length (aQ L)/\Below w w w':=by
 have H1:Hid _:=h1;have H2:Hid _:=h2;have D:=λW r n s=>Pp W r n s;have az:=λW=>UP W (c 0) (c 1) (c 2) (c 3);clear h1 h2;go_enter aC.func44,aC.ntmps44;go_upto_region 2 with (first
  |(go_at_call 66;refine AI (H1.out _ (zj.alloc zf _)) ?_;rintro e w1 ⟨v1,rfl,d,E⟩;obtain⟨A,j,rfl,M,ar⟩:=cz d))
 have N:=zu ((show w1.ownsRow (w.heap.size+1) 88 3 (.slice A L.length j) L.length (aQ L) by have:=d;simpa using this));have J:Below (w.heap.size+1) (w.alloc (.cells #[.p b,.p rb] 47)) w1:=(by have:=E;simpa using this)
 have z1:=(by have:=J.size;simpa using this)
 have O:=zu ((zj.alloc zf _).trans (J.mono zo));have x1:w1.cell? (.a w 1)=.p rb:=by
  rw[J.cell (p:=(.a w 1)) (show w<w.heap.size+1 by omega)];exact(aH (By w _)).1 1
 obtain⟨F,f⟩: ∃W,W=w1.alloc (.cells (.k c) 34):=⟨_,rfl⟩
 rw[<-f];have G:Hid (Below w w F):=(by rw[f];exact O.out.alloc zo _)
 have x2:F.cell? (.a w 1)=.p rb:=by
  rw[f,abp _ _ _ (show w<w1.heap.size by omega)];exact x1
 have P:Hid (F.heap[w1.heap.size]?=.c (.k c) 34):=(by rw[f];exact By w1 _)
 have Q:Hid (F.ownsRow (w.heap.size+1) 88 3 (.slice A L.length j) L.length (aQ L)):=(by rw[f];exact N.out.alloc _)
 have z2:w1.heap.size+1=F.heap.size:=by rw[f,eK]
 clear f x1 d E J;go_upto_region 3 with (first
  |(go_at_call 28;refine AI (H2.out _ G.out) ?_;rintro e w3 ⟨v3,rfl,g,l⟩;obtain⟨H,z,rfl,R,av⟩:=cz g))
 have S:Hid _:=G.out.trans (l.mono zo);have z3:=l.size;have T:Hid _:=bj P.out l;have V:=zu (bH Q.out l zf);have X:Hid (w3.ownsRow 0 88 3 (.slice H L.length z) L.length (aQ L)):=g;obtain⟨C,h⟩: ∃W,W=w3.alloc (.cells (.k c) 34):=⟨_,rfl⟩
 rw[<-h];have Y:Hid (Below w w C):=(by rw[h];exact S.out.alloc zo _)
 have o:Hid (C.heap[w3.heap.size]?=.c (.k c) 34):=(by rw[h];exact By w3 _)
 have u:Hid (C.heap[w1.heap.size]?=.c (.k c) 34):=(by rw[h,aaO _ _ _ (show w1<w3.heap.size by omega)];exact T.out)
 have I:Hid (C.ownsRow (w.heap.size+1) 88 3 (.slice A L.length j) L.length (aQ L)):=(by rw[h];exact V.out.alloc _)
 have Z:Hid (C.ownsRow 0 88 3 (.slice H L.length z) L.length (aQ L)):=(by rw[h];exact X.out.alloc _)
 clear h x2 g l;go_wp2;go_loopw [12,13] (λr i wr=>∃k:Nat,k<=L.length/\r=.bool true/\i=.i k/\∃q,wr=C.drewN q) (λ_ i _=>L.length-(intOf i).toNat)
 case atStart=>exact⟨0,zo,zp,rfl,0,rfl⟩
 case round=>
  obtain⟨k,hk,rfl,rfl,q,rfl⟩:=hrel;have k0:(0:Int)<=(k:Int):=zo;by_cases ab:k<L.length
  .have aA:(k:Int)<(L.length:Int):=zo;obtain⟨g1,ad,an,_,_,_,x⟩:=dU I.out zo;cases an;obtain⟨g3,ao,aq,_,_,_,y⟩:=dU Z.out zo;cases aq;obtain⟨f0,f1,f2⟩:=mU L k ab;have a0:=x _ _ zo f0;have a1:=x _ _ zo f1;have a2:=x _ _ zo f2;have b0:=y _ _ zo f0;have b1:=y _ _ zo f1;have b2:=y _ _ zo f2;generalize L[k].rep=vr at*;generalize L[k].n=vn at*;generalize L[k].val=vv at*;have ay:=λW=>D W vr vn vv;clear D f0 f1 f2 x y;go_wp2;go_quiet (fail);go_wp2;exact⟨⟨k+1,zo,rfl,by go_num,_,rfl⟩,zi⟩
  .obtain rfl:k=L.length:=zo;have p0:=(aH o.out).1 0;have p1:=(aH o.out).1 1;have p2:=(aH o.out).1 2;have p3:=(aH o.out).1 3;have q0:=(aH u.out).1 0;have q1:=(aH u.out).1 1;have q2:=(aH u.out).1 2;have q3:=(aH u.out).1 3;go_wp2;go_ret2;exact⟨_,rfl,bU (show World.ownsRow (C.drewN q) _ _ _ _ _ _ from I.out) zo,abg Y.out q⟩
theorem NF(g:PG)(key:ah)(w:af)(h:dw w g)(hlen:g.l.length<=1900000000000)(a:key.size<=maxLen):
  Calls aC.prog 44 #[.agg #[.p g.b,.p g.rb],.s key] w λe w'=>∃v' n xs,e=.r (.tuple #[v',.bool true])/\n<=5000000/\w'.ownsRow w 88 3 v' n xs/\Below w w w':=by
 have hl:(if bq key=true then (g.K key).2 else []).length<=5000000:=by
  split
  .exact (h.inv key).len
  .simp
 refine(VY g.b g.rb key (if bq key=true then (g.K key).1 else λ_=>0) (if bq key=true then (g.K key).2 else []) (if bq key=true then 0 else 2) w zo (λW c=>?_) (λW c=>?_)).mono ?_
 .exact Qp g.b g.num g.bm g.K key W (h.rep.below c) h.inv a
 .exact Km g.rb g.num g.sv g.l g.K key W (h.gI.below c) hlen a
 grind
section
variable {U:List ah}
theorem aC.Qk:(aC.prog.info? 67).map (λi=>(i.zero,i.size,i.bytes))=some (some (.slice none 0 0),1,24):=zk
def l5(m:ah)(vs:ag):Array Value:=#[vs,.slice none 0 0,.s m]
theorem tR{h:Nat}{m:ah}{vs:ag}(e:w.heap[h]?=.c (l5 m vs) 110):w.cell? ⟨h,0,none⟩=some vs/\w.frozen? ⟨h,0,none⟩=false/\w.cell? ⟨h,2,none⟩=.s m:=by
 obtain⟨c,f⟩:=aH e;exact⟨by rw[c];rfl,f 0,by rw[c];rfl⟩
theorem Le(wb:Nat)(pv C hv:ag)(hs:List Nat)(lv:ag)(n:Nat)(xs:ae)(S:Nat->Prop)(w:af)(hblk:w.heap[wb]?=.c #[pv,C,hv] 30)(aT:w.ownsRow 0 61 1 hv hs.length (hs.map gv))(hlen:hs.length<=9000000000000)(hl:w.ownsRow 0 88 3 lv n xs)(hn:n<=8000000)(aA:∀b,lv.ownBlock=some b->S b)(aB:∀b,w.heap.size<=b->S b):
  Calls aC.prog 45 #[.p wb,lv] w λe w'=>e=.r (.tuple #[])/\∃(h:Nat) (m:ah) (f:ag) (w1:af) (u:ag),
   m.size<=4/\w<=h/\w1.heap[h]?=.c (l5 m (.slice none 0 0)) 110/\w1.heap[wb]?=.c #[pv,C,f] 30/\w1.ownsRow 0 61 1 f (hs++ [h]).length ((hs++ [h]).map gv)/\Fr (λk=>k=wb\/hv.ownBlock=some k) w w1/\(∀k,f.ownBlock=some k->hv.ownBlock=some k\/w<=k)/\
   KV 88 67 (qV m) S (l5 m) h n (λb=>lv.ownBlock=some b\/b=h) w1 w' u 8 9:=by
 obtain⟨ad,cap,rfl,cd,cr⟩:=cz hl;obtain⟨i0,bN,bR,bT,bZ⟩:=aaY aC.rJ;obtain⟨j0,aE,a1,a6,a7⟩:=aaY aC.Qk;have HN:Hid (Calls aC.prog 67 #[.p wb] w λe w'=>∃(h:Nat) (m:ah) (f:ag),e=.r (.pointer (some ⟨h,0,none⟩))/\m.size<=4/\w<=h/\w'.heap[h]?=.c (l5 m (.slice none 0 0)) 110/\w'.heap[wb]?=.c #[pv,C,f] 30/\
   w'.ownsRow 0 61 1 f (hs++ [h]).length ((hs++ [h]).map gv)/\Fr (λk=>k=wb\/hv.ownBlock=some k) w w'/\∀k,f.ownBlock=some k->hv.ownBlock=some k\/w<=k):=Jk wb pv C hv hs w hblk aT hlen
 have HL:=zu hl;have b0:=zu aA;have b1:=zu aB;have b2:Hid (∀k,(Value.slice ad n cap).ownBlock=some k->¬(k=wb\/hv.ownBlock=some k)):=λk e=>by
  obtain⟨Q,hc⟩:=fe hl e;rintro (e'|e')
  .rw[e',hblk]at hc;exact absurd hc zp
  .obtain⟨cj,b3⟩:=fe aT e';exact absurd (oD hc b3) zd
 clear hblk aT hl aA aB;go_enter aC.func45,aC.ntmps45;go_wp2_with (first
  |(go_at_call 67;refine AI HN.out ?_;rintro e w1 ⟨h,m,f,rfl,hm,hh,R,T,V,D,a8⟩))
 have b4:=zu R;have cv:=zu T;have cw:=zu V;have cx:=zu D;have HM:=zu hm;have b5:=zu (D.row HL.out λg o l c e=>b2.out g (by rw[e];rfl));have bb:=zu (λb hb=>b1.out b (IT D.size hb));have bc:Hid (∀w' u,KV 88 67 (qV m) S (l5 m) h n (λb=>(Value.slice ad n cap).ownBlock=some b\/b=h) w1 w' u 8 9->∃(h:Nat) (m:ah) (f:ag) (w1:af) (u:ag),m.size<=4/\w<=h/\w1.heap[h]?=.c (l5 m (.slice none 0 0)) 110/\w1.heap[wb]?=.c #[pv,C,f] 30/\w1.ownsRow 0 61 1 f (hs++ [h]).length ((hs++ [h]).map gv)/\Fr (λk=>k=wb\/hv.ownBlock=some k) w w1/\(∀k,f.ownBlock=some k->hv.ownBlock=some k\/w<=k)/\
   KV 88 67 (qV m) S (l5 m) h n (λb=>(Value.slice ad n cap).ownBlock=some b\/b=h) w1 w' u 8 9):=λw' u hk=>⟨h,m,f,w1,u,hm,hh,R,T,V,D,a8,hk⟩
 clear R T V D hm a8;go_loopw [5] (λi wr=>∃k:Nat,k<=n/\i=.i k/\Hid (gF wr 88 (qV m) (.slice ad n cap) n k)/\Hid (Fr (λb=>(Value.slice ad n cap).ownBlock=some b\/b=h) w1 wr)/\Hid (wr.heap[h]?=.c (l5 m (.slice none 0 0)) 110)) (λi _=>n-(intOf i).toNat)
 case atStart=>exact⟨0,zo,rfl,gF.DJ b5.out,Fr.refl _ _,b4.out⟩
 case round=>
  obtain⟨k,hk,rfl,bd,bn,bo⟩:=hrel;have W:=zu bd.out;have Y:=zu bn.out;have y:=zu bo.out;clear bd bn bo;obtain⟨x0,x1,x2⟩:=tR y.out;have k0:(0:Int)<=(k:Int):=zo;by_cases b6:k<n
  .have cA:(k:Int)<(n:Int):=zo;obtain⟨ys,x,_⟩:=W.out;have M:wr.ownsRow 0 88 3 (.slice ad n cap) n ys:=x;clear x;obtain⟨g,ck,bp,_,_,hg,j⟩:=dU M zo;cases bp;have b7: ∃Q,wr.heap[g]?=.c Q 88:=fe M rfl;obtain⟨Q,z⟩:=b7;have N:=(aH z).2;have b8:=M.1;have Z:g≠h:=λe=>by rw[e,y.out]at z;exact absurd z zp
   have c0:wr.cell? ⟨g,k*3,none⟩=some ys[k*3]:=j _ _ zo (by simp[show k*3<ys.length by omega]);have c1:wr.cell? ⟨g,k*3+1,none⟩=some ys[k*3+1]:=j _ _ zo (by simp[show k*3+1<ys.length by omega]);have c2:wr.cell? (.a g (k*3+2))=some ys[k*3+2]:=j _ _ zo (by simp[show k*3+2<ys.length by omega]);generalize ys[k*3]=y0 at*;generalize ys[k*3+1]=y1 at*;generalize ys[k*3+2]=y2 at*;have f0:=N (k*3);have f1:=N (k*3+1);have f2:=N (k*3+2);clear j M z N b8;go_wp2;refine⟨⟨k+1,zo,by go_num,W.out.O5 b6,?_,?_⟩,zi⟩
   .exact Fr.setCell (X:=λb=>(Value.slice (.a g 0) n cap).ownBlock=some b\/b=h) (Fr.setCell (X:=λb=>(Value.slice (.a g 0) n cap).ownBlock=some b\/b=h) (Fr.setCell (X:=λb=>(Value.slice (.a g 0) n cap).ownBlock=some b\/b=h) Y.out (Or.inr (Or.inl rfl)) _) (Or.inr (Or.inl rfl)) _) (Or.inr (Or.inl rfl)) _
   .show _=_;rw[aaS _ _ _ _ (Ne.symm Z),aaS _ _ _ _ (Ne.symm Z),aaS _ _ _ _ (Ne.symm Z)];exact y.out
  .obtain rfl:k=n:=zo;have b9:Hid (KV 88 67 (qV m) S (l5 m) h k (λb=>(Value.slice ad k cap).ownBlock=some b\/b=h) w1 wr (.slice ad k cap) 0 0):=KV.start Y.out W.out b0.out (λb e=>Or.inl e) y.out;have cB:=Y.out.size;have E:=(IN.1 y.out).1;go_wp2_with (first
    |(at_builtin;refine sZ _ rfl _ _ _ rfl w1 67 j0 _ 1 24 aC.underlying107 aE a1 a6 a7 rfl zo (.slice none 0 0) 0 [] rfl (abh _ _ _ _) (.a wr 0) 1 1 [.slice ad k cap] rfl rfl (aaT (cs:=#[.slice ad k cap]) (t:=67) (fr:=(0,0)) (By wr _)) zv zo ze zo zt ?_;intro g3 br w3 q d ab;have an:=zu q;have F:Hid ((wr.alloc (.cells #[.slice ad k cap] 67)).grownBy w3 (Value.slice none 0 0).ownBlock):=d;have G:=(F.out.block h zt (by simp[Value.ownBlock])).trans ((aaO _ _ _ E).trans y.out);obtain⟨z0,z1,z2⟩:=tR G;clear q d ab G))
   have ca:=zu (b9.out.yf zd zd zd (Or.inr rfl) zo 0 (λa b=>rfl) y.out (abh _ _ _ _) (λv hv=>by simp at hv) an.out F.out);clear z0 z1 z2 x0 x1 x2 k0 E;go_loopw [1,6] (λu i wr=>∃r:Nat,r<=8/\i=.i r/\Hid (KV 88 67 (qV m) S (l5 m) h k (λb=>(Value.slice ad k cap).ownBlock=some b\/b=h) w1 wr u r (r+1))) (λ_ i _=>8-(intOf i).toNat)
   case atStart=>exact⟨0,zo,rfl,ca.out⟩
   case round=>
    obtain⟨r,hr,rfl,ao⟩:=hrel;obtain⟨bs,O,rfl,cl,cm⟩:=ao.out.row.form;have HK:=zu ao.out;clear ao;have r0:(0:Int)<=(r:Int):=zo;by_cases cn:r<8
    .have cI:(r:Int)<8:=zo;obtain⟨ys,x,bx⟩:=HK.out.row;have bB:Hid (wr.ownsRow 0 88 3 (.slice bs (k+r) O) (k+r) ys):=x;have cb:=zu bx;obtain⟨vs,vl,e1,_,_⟩:=HK.out.hold;obtain⟨x0,x1,x2⟩:=tR e1;have cp:=HK.out.fr.size;have E:=(IN.1 e1).1;have P:=trivial;clear x bx e1 x0 x1;go_wp2_with (first
      |(at_builtin;have _t:=P;refine sZ _ rfl _ _ _ rfl 0 88 i0 _ 3 32 aC.underlying67 bN bR bT bZ rfl zo (.slice bs (k+r) O) _ _ rfl (bB.out.alloc _) (.a wr 0) 1 1 [.i 0,.i 0,.s m] rfl rfl (aaT (cs:=#[.i 0,.i 0,.s m]) (t:=88) (fr:=(0,0)) (By wr _)) zv zo ze zo (aaZ _) ?_;intro g2 H w2 I A bL;have aq:=zu (HK.out.Ec zd zd bb.out bB.out cb.out I A bL);obtain⟨cK,cN,q1,q2,q3⟩:=aq.out.hold;obtain⟨ar,J,rfl,_,cW⟩:=cz q2;obtain⟨z0,z1,z2⟩:=tR q1;have av:Hid (w2.heap[h]?=.c (l5 m (.slice ar (r+1) J)) 110):=q1;have ay:=zu q2;have cc:=zu q3;have cq:=aq.out.fr.size;have az:=(IN.1 q1).1;clear P I A bL q1 q2 q3)
      |(at_builtin;refine sZ _ rfl _ _ _ rfl w1 67 j0 _ 1 24 aC.underlying107 aE a1 a6 a7 rfl zo (.slice ar (r+1) J) _ _ rfl (ay.out.alloc _) (.a w2 0) 1 1 [.l g2 (k+r+1) H] rfl rfl (aaT (cs:=#[.l g2 (k+r+1) H]) (t:=67) (fr:=(0,0)) (By w2 _)) zv zo ze zo zt ?_;intro g3 br w3 q d ab;have an:=zu q;have F:Hid ((w2.alloc (.cells #[.l g2 (k+r+1) H] 67)).grownBy w3 (Value.slice ar (r+1) J).ownBlock):=d;have G:=(F.out.block h zt (oA ay.out av.out zd)).trans ((aaO _ _ _ az).trans av.out);obtain⟨y0,y1,y2⟩:=tR G;clear q d ab G))
     exact⟨⟨r+1,zo,by go_num,aq.out.yf zd zd zd (Or.inr rfl) zo 0 (λa b=>rfl) av.out ay.out cc.out an.out F.out⟩,zi⟩
    .obtain rfl:r=8:=zo;go_wp2;go_end0;exact⟨rfl,bc.out _ _ HK.out⟩
theorem yS(S:Nat->Prop)(wb:Nat)(pv le hv:ag)(gs:List PG)(hs:List Nat)(lv:ag)(n:Nat)(xs:ae)(w:af)(H:lR U S w wb pv le hv gs hs)(hlen:hs.length<=9000000000000)(hl:w.ownsRow 0 88 3 lv n xs)(G:n<=8000000)(i:∀b,lv.ownBlock=some b->¬S b):
  Calls aC.prog 45 #[.p wb,lv] w λe w'=>e=.r (.tuple #[])/\∃(f:ag) (h:Nat),lR U (λk=>S k\/lv.ownBlock=some k\/w<=k) w' wb pv le f gs (hs++ [h])/\Fr (λk=>k=wb\/hv.ownBlock=some k\/lv.ownBlock=some k) w w'/\∀k,f.ownBlock=some k->hv.ownBlock=some k\/w<=k:=by
 refine(Le wb pv le hv hs lv n xs (λk=>lv.ownBlock=some k\/w<=k) w H.law.blk H.law.aT hlen hl G (λb e=>Or.inl e) (λb e=>Or.inr e)).mono ?_;rintro e w' ⟨rfl,h,m,f,w1,u,O,R,P,q,y,a,z,j⟩;refine⟨rfl,f,h,?_⟩;have I:Fr (λk=>k=wb\/hv.ownBlock=some k\/lv.ownBlock=some k) w w':=by
  refine⟨j.fr.os.trans a.os,j.fr.tape.trans a.tape,j.fr.output.trans a.output,IT a.size j.fr.size,λk J G=>?_⟩;rw[j.fr.block k (abc J a.size) zg,a.block k J zg]
 have A:=a.row hl λg o l c e=>by
  obtain⟨d,M⟩:=fe hl (show lv.ownBlock=some g by rw[e];rfl);rintro (C|C)
  .rw[C]at M;exact absurd (oD M H.law.blk) zd
  .obtain⟨s,D⟩:=fe H.law.aT C;grind
 have x:∀g t d,w1.heap[g]?=.c d t->t≠88->t≠110->¬(lv.ownBlock=some g\/g=h):=by
  rintro g t d N T V (e|e)
  .obtain⟨s,D⟩:=fe A e;grind
  grind
 refine⟨H.held (λk=>S k\/lv.ownBlock=some k\/w<=k) (λk e=>Or.inl e) (j.fr.heap q (x _ _ _ q zd zd)) (j.fr.fh y λg d N=>x g _ d N zd zd) (λk=>lv.ownBlock=some k\/w<=k) (λk e=>Or.inr e) (λk e=>e.elim (λe=>.inl (i k e)) .inr) ?_ I ?_,I,z⟩
 .obtain⟨vs,vl,Q,E,W⟩:=j.hold;refine⟨vs,.slice none 0 0,m,vl,[],Q,O,?_,abh _ _ _ _,?_,zp,λv hv=>?_,λv hv=>by simp at hv⟩
  .have F:vl.length=9:=by have:=E.1;simpa using this
   rw[F];exact bU E (aaZ _)
  .have:=E.1;simp at this;omega
  grind
 .rintro k (e|e|e)
  .exact Or.inl ⟨_,e▸H.law.blk⟩
  .exact Or.inr (Or.inl (fe H.law.aT e))
  .exact Or.inr (Or.inr ⟨i k e,Or.inl (fe hl e)⟩)
end
section
variable {U:List ah}
structure ef where
 kind:Int
 m:Int
 a:Int
 b:Int
 s:ah
 t:ah
 c:Ctx
def eV(o:ef):Array Value:=#[.i o.kind,.i o.m,.i o.a,.i o.b,.s o.s,.s o.t,.i (o.c 0),.i (o.c 1),.i (o.c 2),.i (o.c 3)]
def tO{n size:Nat}(h:w.ownsRow B t size v n xs){k:Nat}(e:v.ownBlock=some k):B<=k/\k<w:=h.lt k e
theorem keep_other{w':af}{wb:Nat}{pv le hv hv0:ag}{gs:List PG}{hs:List Nat}{S:Nat->Prop}{n size:Nat}{lv:ag}(H:lR U S w wb pv le hv gs hs)(p:Fr (λk=>k=wb\/hv.ownBlock=some k\/lv.ownBlock=some k) w w')(f:w.ownsRow B t size v n xs)(q:t≠30)(u:t≠61)(d:∀k,v.ownBlock=some k->¬lv.ownBlock=some k):w'.ownsRow B t size v n xs:=
 p.row f λg o l c e=>by
  have h:v.ownBlock=some g:=by rw[e];rfl
  obtain⟨r,i⟩:=fe f h;rintro (a|a|a)
  .rw[a]at i;exact q (oD i H.law.blk)
  .obtain⟨j,s⟩:=fe H.law.aT a;grind
  .exact d g h a
def xJ(W:af)(p b rb:Nat)(s t:ah):Prop:=
 W.cell? (.a p 0)=.p b/\W.cell? (.a p 1)=.p rb/\W.cell? (.a (p+1) 4)=.s s/\W.cell? (.a (p+1) 5)=.s t
def xJ.de{W a:af}{p b rb:Nat}{s t:ah}(h:xJ W p b rb s t)(hb:Below W W a):xJ a p b rb s t:=
 ⟨aX h.1 hb,aX h.2.1 hb,aX h.2.2.1 hb,aX h.2.2.2 hb⟩
theorem L4(wb:Nat)(pv le hv:ag)(gs:List PG)(hs:List Nat)(g:PG)(o:ef)(w:af)(h:dQ U w wb pv le hv gs hs)(hg:g∈gs)(hlen:hs.length<=8000000000000)(hl:g.l.length<=1900000000000)(N:o.s.size<=maxLen)(a8:o.t.size<=maxLen):
  Calls aC.prog 17 #[.pointer (some ⟨wb,0,none⟩),.agg #[.pointer (some ⟨g.b,0,none⟩),.pointer (some ⟨g.rb,0,none⟩)],.agg (eV o)] w λe w'=>e=.returned (.bool true)/\∃(O:ag) (P:List Nat),dQ U w' wb pv le O gs P/\P.length=hs.length+3/\Fr (λk=>k=wb\/hv.ownBlock=some k) w w'/\∀k,O.ownBlock=some k->hv.ownBlock=some k\/w.heap.size<=k:=by
 have HG:=zu (λkey hk W hW=>NF g key W ((h.dx g hg).below hW) hl hk);have bb:=zu h.Dk;generalize g.b=b at*;generalize g.rb=rb at*;clear h;obtain⟨kind,m,a,ob,s,t,c⟩:=o;simp only[eV] at*;go_enter aC.func17,aC.ntmps17;go_upto_region 1 with fail;obtain⟨W0,q⟩: ∃W,W=(w.alloc (.cells #[.p b,.p rb] 47)).alloc (.cells #[.i kind,.i m,.i a,.i ob,.s s,.s t,.i (c 0),.i (c 1),.i (c 2),.i (c 3)] 36):=⟨_,rfl⟩
 rw[<-q];have Q:Hid (Below w w W0):=(by rw[q];exact(zj.alloc zf _).alloc zp _)
 have z0:W0=w.heap.size+2:=by rw[q];simp
 have R:Hid (xJ W0 w b rb s t):=(by
  rw[q];have e1:=(aH (By (w.alloc (.cells #[.p b,.p rb] 47)) (.cells #[.i kind,.i m,.i a,.i ob,.s s,.s t,.i (c 0),.i (c 1),.i (c 2),.i (c 3)] 36))).1;rw[eK]at e1;have e2:=(aH (By w (.cells #[.p b,.p rb] 47))).1;refine⟨?_,?_,e1 4,e1 5⟩
  .rw[abp _ _ _ zp];exact e2 0
  .rw[abp _ _ _ zp];exact e2 1)
 clear q;obtain⟨S,T,x2,V⟩:=R.out;go_upto_region 2 with (first
  |(go_at_call 44;refine AI (HG.out _ N _ Q.out) ?_;rintro e w1 ⟨v1,n1,bc,rfl,b9,f,A⟩;obtain⟨X,F,rfl,bd,b6⟩:=cz f))
 have Y:=zu f;have Z:=zu (Q.out.trans (A.mono zo));have ab:=zu (R.out.de A);have z1:=A.size;clear f A S T x2 V;obtain⟨S,T,x2,V⟩:=ab.out;go_upto_region 3 with (first
  |(go_at_call 44;refine AI (HG.out _ a8 _ Z.out) ?_;rintro e w2 ⟨v2,n2,bn,rfl,ca,j,r⟩;obtain⟨ad,G,rfl,bo,b7⟩:=cz j))
 have an:=zu j;have bp:=zu (bH Y.out r zf);have ao:=zu (Z.out.trans (r.mono zo));have br:=zu (ab.out.de r);have z2:=r.size;clear j r S T x2 V;obtain⟨S,T,x2,V⟩:=br.out;go_upto_region 4 with (first
  |(go_at_call 44;refine AI (HG.out _ N _ ao.out) ?_;rintro e w3 ⟨v3,n3,bs,rfl,cb,n,u⟩;obtain⟨aq,H,rfl,bx,b8⟩:=cz n))
 have ar:=zu n;have bB:=zu (bH bp.out u zf);have bL:Hid _:=bH an.out u zf;have x:Hid _:=ao.out.trans (u.mono zo);have z3:=u.size;have I:Hid _:=bb.out.below x.out;have L1:Hid (∀k,(Value.slice X n1 F).ownBlock=some k->w.heap.size+2<=k/\k<w1):=λk e=>by have:=tO Y.out e;omega
 have L2:Hid (∀k,(Value.slice ad n2 G).ownBlock=some k->w1<=k/\k<w2):=λk e=>tO an.out e;have L3:Hid (∀k,(Value.slice aq n3 H).ownBlock=some k->w2<=k/\k<w3):=λk e=>tO ar.out e;have bN:Hid _:=yS (λk=>k<w.heap.size) wb pv le hv gs hs (.slice X n1 F) n1 bc w3 I.out zo (bU bB.out (aaZ _)) zo (λk e=>by have:=L1.out k e;omega);clear n u S T x2 V;go_upto_region 5 with (first
  |(go_at_call 45;refine AI bN.out ?_;rintro e w4 ⟨rfl,J,h4,av,y,ay⟩))
 have az:Hid _:=av;have C:Hid _:=y;have aA:Hid _:=ay;have bR:Hid _:=keep_other (hv0:=J) I.out y bL.out zd zd (λk e d=>by have:=L1.out k d;have:=L2.out k e;omega);have bT:Hid _:=keep_other (hv0:=J) I.out y ar.out zd zd (λk e d=>by have:=L1.out k d;have:=L3.out k e;omega);have z4:=y.size;have bZ:Hid _:=yS _ wb pv le J gs (hs++ [h4]) (.slice ad n2 G) n2 bn w4 az.out zt (bU bR.out (aaZ _)) zo (λk e=>by
  have:=L2.out k e;rintro (d|d|d)
  .omega
  .have:=L1.out k d;omega
  .omega)
 clear av y ay;go_upto_region 6 with (first
  |(go_at_call 45;refine AI bZ.out ?_;rintro e w5 ⟨rfl,M,h5,aB,D,aE⟩))
 have b0:Hid _:=aB;have E:Hid _:=D;have aT:Hid _:=aE;have b1:Hid _:=keep_other (hv0:=M) az.out D bT.out zd zd (λk e d=>by have:=L2.out k d;have:=L3.out k e;omega);have z5:=D.size;have b2:Hid _:=yS _ wb pv le M gs (hs++ [h4]++ [h5]) (.slice aq n3 H) n3 bs w5 b0.out zt (bU b1.out (aaZ _)) zo (λk e=>by
  have:=L3.out k e;rintro ((d|d|d)|d|d)
  .omega
  .have:=L1.out k d;omega
  .omega
  .have:=L2.out k d;omega
  .omega)
 clear aB D aE;go_wp2_with (first
  |(go_at_call 45;refine AI b2.out ?_;rintro e w6 ⟨rfl,b3,h6,a1,a6,a7⟩;have b4:Hid _:=a1.law;have z:Hid _:=a6;have b5:Hid _:=a7;clear a1 a6 a7))
 go_ret;refine⟨rfl,b3,hs++ [h4]++ [h5]++ [h6],b4.out,zp,?_,λk e=>?_⟩
 .have z6:=z.out.size;refine⟨?_,?_,?_,zo,λk hk hn=>?_⟩
  .rw[z.out.os,E.out.os,C.out.os,x.out.os]
  .rw[z.out.tape,E.out.tape,C.out.tape,x.out.tape]
  .rw[z.out.output,E.out.output,C.out.output,x.out.output]
  .have hA:∀v,hv.ownBlock=some k\/w3<=k->v=k->False:=λv hx _=>by
    rcases hx with hx|hx
    .exact hn (Or.inr hx)
    .omega
   have n4:=λe=>hA k (aA.out k e) rfl;have n5: ¬M.ownBlock=some k:=λe=>by
    rcases aT.out k e with d|d
    .exact n4 d
    .omega
   rw[z.out.block k zo (by rintro (e|e|e);exact hn (Or.inl e);exact n5 e;have:=L3.out k e;omega),E.out.block k zo (by rintro (e|e|e);exact hn (Or.inl e);exact n4 e;have:=L2.out k e;omega),C.out.block k zo (by rintro (e|e|e);exact hn (Or.inl e);exact hn (Or.inr e);have:=L1.out k e;omega)];exact x.out.block k hk
 .rcases b5.out k e with e|e
  .rcases aT.out k e with e|e
   .rcases aA.out k e with e|e
    .exact Or.inl e
    .right;omega
   .right;omega
  .right;omega
end
theorem Xn(N:List (List UInt8))(k:Nat)(h:k<N.length):(eM N)[k]?=.s ⟨N[k].toArray⟩:=by simp[eM,h]
theorem NH(b rb:Nat)(N:List (List UInt8))(w:af)(Y:N.length<=1900000000000)(h1:∀W,Below w w W->Calls aC.prog 68 #[.p b] W λe w'=>∃v',e=.r v'/\w'.ownsRow W 9 1 v' N.length (eM N)/\Below W W w')(M:∀W,Below w w W->Calls aC.prog 69 #[.p rb] W λe w'=>∃v',e=.r v'/\w'.ownsRow W 9 1 v' N.length (eM N)/\Below W W w'):
  Calls aC.prog 46 #[.agg #[.p b,.p rb]] w λe w'=>∃v',e=.r (.tuple #[v',.bool true])/\w'.ownsRow w 9 1 v' N.length (eM N)/\Below w w w':=by
 have R:Hid _:=h1;have S:Hid _:=M;clear h1 M;go_enter aC.func46,aC.ntmps46;go_upto_region 2 with (first
  |(go_at_call 68;refine AI (R.out _ (zj.alloc zf _)) ?_;rintro e w1 ⟨v1,rfl,c,g⟩;obtain⟨x,h,rfl,y,O⟩:=cz c))
 have z:=zu ((show w1.ownsRow (w.heap.size+1) 9 1 (.slice x N.length h) N.length (eM N) by have:=c;simpa using this));have u:Below (w.heap.size+1) (w.alloc (.cells #[.p b,.p rb] 47)) w1:=(by have:=g;simpa using this)
 have Z:=(by have:=u.size;simpa using this)
 have j:=zu ((zj.alloc zf _).trans (u.mono zo));have T:w1.cell? (.a w 1)=.p rb:=by
  rw[u.cell (p:=(.a w 1)) (show w<w.heap.size+1 by omega)];exact(aH (By w _)).1 1
 clear c g u;go_upto_region 3 with (first
  |(go_at_call 69;refine AI (S.out _ j.out) ?_;rintro e w3 ⟨v3,rfl,d,f⟩;obtain⟨V,P,rfl,A,Q⟩:=cz d))
 have C:Hid _:=j.out.trans (f.mono zo);have l:Hid _:=bH z.out f zf;have D:Hid _:=d;clear d f T;go_wp2;go_loopw [6,7] (λr i wr=>∃k:Nat,k<=N.length/\r=.bool true/\i=.i k/\∃q,wr=w3.drewN q) (λ_ i _=>N.length-(intOf i).toNat)
 case atStart=>exact⟨0,zo,zp,rfl,0,rfl⟩
 case round=>
  obtain⟨k,hk,rfl,rfl,q,rfl⟩:=hrel;have k0:(0:Int)<=(k:Int):=zo;by_cases E:k<N.length
  .have X:(k:Int)<(N.length:Int):=zo;obtain⟨g1,F,G,_,_,_,n⟩:=dU l.out zo;cases G;obtain⟨g3,H,I,_,_,_,o⟩:=dU D.out zo;cases I;have J:=Xn N k E;have a0:=n _ _ zo J;have b0:=o _ _ zo J;generalize (⟨N[k].toArray⟩:ah)=s at*;clear J n o;go_wp2;go_quiet (fail);go_wp2;exact⟨⟨k+1,zo,zp,by go_num,_,rfl⟩,zi⟩
  .obtain rfl:k=N.length:=zo;go_wp2;go_ret2;exact⟨_,rfl,bU (show World.ownsRow (w3.drewN q) _ _ _ _ _ _ from l.out) zo,abg C.out q⟩
theorem Pj(g:PG)(w:af)(h:dw w g)(hlen:g.l.length<=1900000000000):
  Calls aC.prog 46 #[.agg #[.p g.b,.p g.rb]] w λe w'=>∃v' n xs,e=.r (.tuple #[v',.bool true])/\n<=1900000000000/\w'.ownsRow w 9 1 v' n xs/\Below w w w':=by
 have hl:=IT (Jj g.l) hlen;refine(NH g.b g.rb (kO g.l) w hl (λW d=>?_) (λW d=>?_)).mono ?_
 .refine (RX g.b g.num g.bm g.K W (h.rep.below d) h.inv λL i j=>IT (TA h.gI i j) hlen).mono ?_;rintro e w' ⟨v',L,rfl,k,a,hb⟩;refine⟨v',rfl,?_,hb⟩;have c:=Zk h.gI k;rw[c,<-Kg,c]at a;exact a
 .have f:=h.gI.below d;refine(OP g.rb g.num g.sv g.l W f.ref (λq o=>?_) hlen).mono ?_
  .obtain⟨ad,m,cap,c,s⟩:=f.De q o;exact⟨ad,m,cap,c,by rw[s];have:=(h.inv q.1).len;omega⟩
  .rintro e w' ⟨v',rfl,a,hb⟩;refine⟨v',rfl,?_,hb⟩;rw[RL]at a;rw[show(eM (kO g.l)).length=(kO g.l).length by simp[eM]]at a;exact a
 grind
section
variable {U:List ah}
theorem Tq(wb:Nat)(pv le hv:ag)(gs:List PG)(hs:List Nat)(g:PG)(w:af)(h:dQ U w wb pv le hv gs hs)(hg:g∈gs)(hlen:hs.length<=8000000000000)(hl:g.l.length<=1900000000000):
  Calls aC.prog 18 #[.pointer (some ⟨wb,0,none⟩),.agg #[.pointer (some ⟨g.b,0,none⟩),.pointer (some ⟨g.rb,0,none⟩)]] w λe w'=>e=.returned (.bool true)/\∃(y:ag) (z:List Nat),dQ U w' wb pv le y gs z/\z.length=hs.length+2/\Fr (λk=>k=wb\/hv.ownBlock=some k) w w'/\∀k,y.ownBlock=some k->hv.ownBlock=some k\/w.heap.size<=k:=by
 have HG:Hid _:=λW hW=>Pj g W ((h.dx g hg).below hW) hl;have T:Hid _:=h.Dk;generalize g.b=b at*;generalize g.rb=rb at*;clear h;go_enter aC.func18,aC.ntmps18;go_upto_region 1 with fail;obtain⟨R,f⟩: ∃W,W=w.alloc (.cells #[.p b,.p rb] 47):=⟨_,rfl⟩
 rw[<-f];have A:Hid (Below w w R):=(by rw[f];exact zj.alloc zf _)
 have z0:R=w.heap.size+1:=by rw[f];simp
 have x0:R.cell? (.a w 0)=.p b:=by rw[f];exact(aH (By w _)).1 0
 have x1:R.cell? (.a w 1)=.p rb:=by rw[f];exact(aH (By w _)).1 1
 clear f;go_upto_region 2 with (first
  |(go_at_call 46;refine AI (HG.out _ A.out) ?_;rintro e w1 ⟨v1,V,X,rfl,aT,c,i⟩;obtain⟨C,s,rfl,Y,aB⟩:=cz c))
 have D:Hid _:=c;have E:Hid _:=A.out.trans (i.mono zo);have y0:=aX x0 i;have y1:=aX x1 i;have z1:=i.size;clear c i x0 x1;go_upto_region 3 with (first
  |(go_at_call 46;refine AI (HG.out _ E.out) ?_;rintro e w2 ⟨v2,Z,ab,rfl,a1,d,o⟩;obtain⟨F,u,rfl,ad,aE⟩:=cz d))
 have G:Hid _:=d;have an:Hid _:=bH D.out o zf;have j:Hid _:=E.out.trans (o.mono zo);have z2:=o.size;have H:Hid _:=T.out.below j.out;have L1:Hid (∀k,(Value.slice C V s).ownBlock=some k->w.heap.size+1<=k/\k<w1):=λk e=>by have:=tO D.out e;omega
 have L2:Hid (∀k,(Value.slice F Z u).ownBlock=some k->w1<=k/\k<w2):=λk e=>tO G.out e;have ao:Hid _:=EE (λk=>k<w.heap.size) wb pv le hv gs hs (.slice C V s) V X w2 H.out zo (bU an.out (aaZ _)) zo (λk e=>by have:=L1.out k e;omega);clear d o y0 y1;go_upto_region 4 with (first
  |(go_at_call 47;refine AI ao.out ?_;rintro e w4 ⟨rfl,x,h4,I,q,J⟩))
 have aq:Hid _:=I;have r:Hid _:=q;have M:Hid _:=J;have ar:Hid _:=keep_other (hv0:=x) H.out q G.out zd zd (λk e N=>by have:=L1.out k N;have:=L2.out k e;omega);have z4:=q.size;have av:Hid _:=EE _ wb pv le x gs (hs++ [h4]) (.slice F Z u) Z ab w4 aq.out zt (bU ar.out (aaZ _)) zo (λk e=>by
  have:=L2.out k e;rintro (N|N|N)
  .omega
  .have:=L1.out k N;omega
  .omega)
 clear I q J;go_wp2_with (first
  |(go_at_call 47;refine AI av.out ?_;rintro e w6 ⟨rfl,ay,h6,O,P,Q⟩;have az:Hid _:=O.law;have n:Hid _:=P;have aA:Hid _:=Q;clear O P Q))
 go_ret;refine⟨rfl,ay,hs++ [h4]++ [h6],az.out,zp,?_,λk e=>?_⟩
 .have z6:=n.out.size;refine⟨?_,?_,?_,zo,λk hk S=>?_⟩
  .rw[n.out.os,r.out.os,j.out.os]
  .rw[n.out.tape,r.out.tape,j.out.tape]
  .rw[n.out.output,r.out.output,j.out.output]
  .have n4: ¬x.ownBlock=some k:=λe=>by
    rcases M.out k e with hx|hx
    .exact S (Or.inr hx)
    .omega
   rw[n.out.block k zo (by rintro (e|e|e);exact S (Or.inl e);exact n4 e;have:=L2.out k e;omega),r.out.block k zo (by rintro (e|e|e);exact S (Or.inl e);exact S (Or.inr e);have:=L1.out k e;omega)];exact j.out.block k hk
 .rcases aA.out k e with e|e
  .rcases M.out k e with e|e
   .exact Or.inl e
   .right;omega
  .right;omega
end
end Go.Proofs.YtldmcdeibiclkaaGreatQ
namespace Go.Proofs.YtldmcdeibiclkaaGreatQ
variable {m:Nat}{L:List (List UInt8)}{seen:Ctx}
section
def nR(K:aL)(n:Nat)(L:List (List UInt8)):Prop:=L.Pairwise (λa b=>a<b)/\∀x,x∈L↔aZ (eG x)=n/\fj (K (eG x)).1
theorem nR.unique{K:aL}{n:Nat}:∀{L M:List (List UInt8)},L.Pairwise (λa b=>a<b)->M.Pairwise (λa b=>a<b)->(∀x,x∈L↔x∈M)->L=M
 |[],[],_,_,_=>rfl
 |[],y::b,_,_,h=>by have:=(h y).2 zp;cases this
 |x::a,[],_,_,h=>by have:=(h x).1 zp;cases this
 |x::a,y::b,f,hb,h=>by
  have c:=abB.1 f;have d:=abB.1 hb;have e:x=y:=by
   rcases abk.1 ((h x).1 zp) with e|g
   .exact e
   .rcases abk.1 ((h y).2 zp) with e|i
    .exact e.symm
    grind
  subst e;congr 1;refine nR.unique (K:=K) (n:=n) c.2 d.2 λv=>⟨λhv=>?_,λhv=>?_⟩
  .grind
  grind
open Classical in
def BG(K:aL)(n:Nat):List (List UInt8):=if h: ∃L,nR K n L then h.choose else []
theorem rZ{K:aL}{n:Nat}(h:nR K n L):BG K n=L:=by
 have a: ∃L,nR K n L:=⟨L,h⟩
 unfold BG;rw[dif_pos a];have c:=a.choose_spec;exact nR.unique (K:=K) (n:=n) c.1 h.1 λx=>by rw[c.2,h.2]
def fq(K:aL)(n:Nat):List aJ:=(BG K n).map λx=>(eG x,(K (eG x)).1,(K (eG x)).2)
def iY(K:aL)(n:Nat):ByteArray:=fW (fq K n)
def ed(K:aL)(lv n:Nat):Int:=dg (iY K) (3-lv) n
theorem Cf{w:af}{n:Nat}{K:aL}(h:ru w m n K){s:ah}(hs:aZ s=n):cS (dB w m) s≠none↔fj (K s).1:=by
 obtain⟨es,clock,c,l,d,o,e⟩:=h;have a:dB w m=es.toList:=by simp[dB,c]
 rw[a];refine⟨e s,λf g=>?_⟩;obtain⟨sv,j,_⟩:=d s hs;rw[g]at j;obtain⟨i,hi,k⟩:=f;grind
theorem ru.names{w:af}{n:Nat}{K:aL}(h:ru w m n K):nR K n (jT (fE (dB w m))):=by
 have c:=λs hs=>Cf h (s:=s) hs;obtain⟨es,clock,i,d,j,f,k⟩:=h;have e:dB w m=es.toList:=by simp[dB,i]
 rw[e]at c ⊢;refine⟨QU d f.1,λx=>⟨λa=>?_,λa=>?_⟩⟩
 .have g:=(AW f.2.2.2 a).1;exact⟨g,(c _ g).1 (Sy d a)⟩
 .have:=T5 ((c _ a.1).2 a.2) d;simpa[eG] using this
theorem zD{w:af}{n:Nat}{K:aL}(h:ru w m n K):iN K (dB w m)=fq K n:=by
 rw[iN,fq,rZ h.names]
section
variable {w:af}{b num:Nat}{bm:Nat->Nat}{K:aL}
theorem aV.text(h:aV w b bm num K){n:Nat}(a:n<64):gG w bm K n=iY K n:=by rw[gG,iY,zD (h.2.1 n a)]
theorem aV.uT(h:aV w b bm num K){lv n:Nat}(hl:lv<=3)(c:n<4 ^ lv):cC w bm K lv n=ed K lv n:=
 Cr (λk a=>h.text a) _ zo _ zg
end
end
theorem vm{α:Type}[DecidableEq α]:∀{l U:List α},l.Pairwise (·≠·)->(∀x∈l,x∈U)->l.length<=U.length
 |[],U,_,_=>aaZ _
 |x::l,U,h,hs=>by
  have a:=abB.1 h;have d:=hs x zp
  have:=vm (l:=l) (U:=U.erase x) a.2 λy c=>(List.mem_erase_of_ne (λe=>a.1 y c e.symm)).2 (hs y (by simp[c]));grind
def re(U:List ah)(ns:List Nat):Nat:=(ns.map λn=>(U.filter λs=>decide (aZ s=n)).length).sum
theorem BF:∀(ns:List Nat) (U:List ah),ns.Pairwise (·≠·)->re U ns<=U.length
 |[],U,_=>aaZ _
 |n::ns,U,h=>by
  have d:=abB.1 h;have a:=BF ns (U.filter λs=>decide (aZ s≠n)) d.2;have c:re (U.filter λs=>decide (aZ s≠n)) ns=re U ns:=by
   unfold re;congr 1;refine aci λm e=>?_;rw[List.filter_filter];grind
  have f:U.length=(U.filter λs=>decide (aZ s=n)).length+(U.filter λs=>decide (aZ s≠n)).length:=by
   clear a c;induction U with
   |nil=>rfl
   |cons s U g=>
    grind
  rw[c]at a;show(U.filter λs=>decide (aZ s=n)).length+re U ns<=_;omega
theorem Eg{K:aL}{n:Nat}{U:List ah}(h:nR K n L)(g:∀s,fj (K s).1->s∈U):L.length<=(U.filter λs=>decide (aZ s=n)).length:=by
 have:=vm (l:=L.map eG) (U:=U.filter λs=>decide (aZ s=n)) (acs.2 (h.1.imp λ{a b} c e=>by
  have i:a=b:=by simpa[eG] using e
  grind)) λx d=>by
   obtain⟨a,f,rfl⟩:=aaW.1 d;obtain⟨j,k⟩:=(h.2 a).1 f;grind
 grind
def bQ(U:List ah)(K:aL):Prop:=U.length<=1300000/\∀s,fj (K s).1->s∈U
theorem bQ.CK{U:List ah}{K:aL}(h:bQ U K){w:af}{b num:Nat}{bm:Nat->Nat}(a:aV w b bm num K):FL w bm:=λn c=>by
 have d:=Eg (a.2.1 n c).names h.2;rw[(pq _).length_eq,fE,abe]at d
 have:=abV (λs=>decide (aZ s=n)) U
 have:=h.1;omega
theorem bQ.jO{U:List ah}{K:aL}(h:bQ U K){w:af}{b num:Nat}{bm:Nat->Nat}(a:aV w b bm num K):∀ns:List Nat,(∀n∈ns,n<64)->(ns.map λn=>(fq K n).length).sum<=re U ns
 |[],_=>aba _
 |n::ns,c=>by
  have h1:=bQ.jO h a ns λm d=>c m (by simp[d]);have hs:=(a.2.1 n (c n zp)).names;have e:=Eg hs h.2;have f:(fq K n).length=(jT (fE (dB w (bm n)))).length:=by rw[fq,rZ hs,abe]
  unfold re at*;grind
section
section
variable {U:List ah}{K:aL}{key:ah}
theorem bQ.upd(h:bQ U K)(a:key∈U)(x:Ctx×List aG):bQ U (dV K key x):=⟨h.1,λs hs=>by
 by_cases e:s=key
 .rw[e];exact a
 .rw[dV,AT e]at hs;exact h.2 s hs⟩
theorem bQ.put(h:bQ U K)(a:key∈U){n:Nat}{val:ah}:bQ U (lS K n key val seen):=by
 unfold lS;split
 .exact h.upd a _
 .exact h
theorem bQ.del(h:bQ U K)(a:key∈U):bQ U (ly K key seen):=by
 unfold ly;split
 .exact h.upd a _
 .exact h
def bQ.none(h:U.length<=1300000):bQ U nB:=⟨h,λ_ ⟨_,_,e⟩=>absurd rfl e⟩
theorem bQ.pair{w:af}{g:PG}(h:bQ U g.K)(d:dw w g):g.l.length<=1300000:=by
 have f:=vm (l:=g.l.map (·.1)) (U:=U) (acs.2 (d.gI.sorted.imp λ{a b} c e=>?_)) λs hs=>?_
 .rw[abe]at f;exact IT f h.1
 .have:=nu.1 c;grind
 .obtain⟨q,i,rfl⟩:=aaW.1 hs;exact h.2 _ ((d.gI.mem_iff q.1).1 ⟨q,i,rfl⟩)
end
end
end Go.Proofs.YtldmcdeibiclkaaGreatQ
namespace Go.Proofs.YtldmcdeibiclkaaGreatQ
open Go.RowKit
section
variable {U:List ah}
theorem Ji(c n:Int)(w:af)(h1: -9223372036854775808<=c)(d:c<=9223372036854775807)(f:1<=n)(a:n<=9000000000000):
  Calls aC.prog 25 #[.i c,.i n] w λe w'=>e=.r (.i (lj c n))/\w'=w:=by
 by_cases h:c<0
 .go_enter aC.func25,aC.ntmps25;go_wp2;go_ret;refine⟨sO ?_,rfl⟩;rw[lj,BY h,<-Int.neg_tmod,Int.tmod_eq_emod_of_nonneg zo]
 .go_enter aC.func25,aC.ntmps25;go_wp2;go_ret;refine⟨sO ?_,rfl⟩;rw[lj,AT zo]
theorem Gt(gs:List PG)(k:Nat)(h:k<gs.length):(gs.flatMap iz)[k*2]?=.p gs[k].b/\(gs.flatMap iz)[k*2+1]?=.p gs[k].rb:=by
 induction gs generalizing k with
 |nil=>simp at h
 |cons v l a=>
  have e:(v::l).flatMap iz=iz v++l.flatMap iz:=zp;cases k with
  |zero=>simp[e,iz,gv]
  |succ k=>
   have c:k<l.length:=by simpa using h
   have:=a k c;rw[e];have d:(k+1)*2=(iz v).length+k*2:=by simp[iz];omega
   grind
theorem DH(wb:Nat)(pv le hv:ag)(gs:List PG)(hs:List Nat)(o:ef)(w:af)(h:dQ U w wb pv le hv gs hs)(h0:0<gs.length)(hlen:gs.length<=4000000000000)(hl:∀g∈gs,g.l.length<=1900000000000)(J:o.s.size<=maxLen)(M: -9223372036854775808<=o.b)(N:o.b<=9223372036854775807):
  Calls aC.prog 12 #[.p wb,.agg (eV o)] w λe w'=>∃c:Ctx,e=.r (bz c)/\Below w w w':=by
 have aT:=h.og;obtain⟨ad,cap,rfl,Y,ao⟩:=cz aT;have c0:w.cell? (.a wb 0)=some (.slice ad gs.length cap):=(aH h.blk).1 0;have hp:=ET o.b gs.length zo;obtain⟨p,F⟩: ∃p:Nat,lj o.b gs.length=(p:Int):=⟨(lj o.b gs.length).toNat,zo⟩
 have A:p<gs.length:=zo;obtain⟨g,Z,O,_,_,hg,f⟩:=dU aT h0;cases O;obtain⟨f0,f1⟩:=Gt gs p A;have p0:=f _ _ zo f0;have p1:=f _ _ zo f1;have G:Hid (∀W,Below w w W->Calls aC.prog 28 #[.p gs[p].rb,.s o.s] W λe w'=>∃v' u,e=.r (.tuple #[v',bz u,.i (if bq o.s=true then 0 else 2)])/\fT w' v' (if bq o.s=true then (gs[p].K o.s).2 else [])/\Below W W w'):=λW hW=>
  (Km gs[p].rb gs[p].num gs[p].sv gs[p].l gs[p].K o.s W ((h.dx _ (IS A)).gI.below hW) (hl _ (IS A)) J).mono λe w' ⟨v',he,hr⟩=>⟨v',_,he,hr⟩
 have HP:Hid _:=λW=>by
  have:=Ji o.b gs.length W M N zo zo;rw[F]at this;exact this
 have aq:=(IN.1 h.blk).1;generalize gs[p].b=pb at*;generalize gs[p].rb=prb at*;have i0:(0:Int)<=(p:Int):=zo;have i1:(p:Int)<(gs.length:Int):=zo;clear h aT f f0 f1 hp F;obtain⟨kind,m,a,E,s,t,c⟩:=o;simp only[eV] at*;by_cases ha:a=1
 .subst ha;go_enter aC.func12,aC.ntmps12;go_upto_region 3 with fail;obtain⟨n,j⟩: ∃W,W=(w.alloc (.cells #[.i kind,.i m,.i 1,.i E,.s s,.s t,.i (c 0),.i (c 1),.i (c 2),.i (c 3)] 36)).alloc (.cells #[.i 0,.i 0,.i 0,.i 0] 34):=⟨_,rfl⟩
  rw[<-j];have x:Hid (Below w w n):=(by rw[j];exact(zj.alloc zf _).alloc zp _)
  have z0:w.heap.size+2=n.heap.size:=by rw[j];simp
  have P:=(aH (By w (.cells #[.i kind,.i m,.i 1,.i E,.s s,.s t,.i (c 0),.i (c 1),.i (c 2),.i (c 3)] 36))).1;have y3:n.cell? (.a w 3)=.i E:=by rw[j,abp _ _ _ zp];exact P 3
  have y4:n.cell? (.a w 4)=.s s:=by rw[j,abp _ _ _ zp];exact P 4
  have Q:Hid (n.heap[w.heap.size+1]?=.c #[.i 0,.i 0,.i 0,.i 0] 34):=(by
   rw[j]
   have:=By (w.alloc (.cells #[.i kind,.i m,.i 1,.i E,.s s,.s t,.i (c 0),.i (c 1),.i (c 2),.i (c 3)] 36)) (.cells #[.i 0,.i 0,.i 0,.i 0] 34);rw[eK]at this;exact this)
  have b0:=aX c0 x.out;have b1:=aX p0 x.out;have b2:=aX p1 x.out;have R:Hid (∀w',Below n n w'->w'.cell? (.a wb 0)=.l g gs.length cap/\w'.cell? (.a g (p*2))=.p pb/\w'.cell? (.a g (p*2+1))=.p prb/\w'.cell? (.a w 3)=.i E):=λw' I=>⟨aX b0 I,aX b1 I,aX b2 I,aX y3 I⟩
  clear j P c0 p0 p1 b0 b1 b2 y3;go_region_held3 (λw'=>w'.cell? (.a wb 0)=.l g gs.length cap/\w'.cell? (.a g (p*2))=.p pb/\w'.cell? (.a g (p*2+1))=.p prb/\w'.cell? (.a w 3)=.i E)
   ((refine R.out _ ?_;simp (maxDischargeDepth:=12) [aaP,aaR,aaU,abm];done))
   (first|(go_at_call 25;refine AI (HP.out _) ?_;rintro e w1 ⟨rfl,rfl⟩))
  all_goals
   have ar:w<n.heap.size:=zo;have C:Hid (Below w w (n.alloc (.cells #[.p pb,.p prb] 47)).drew):=(x.out.alloc zo _).drew;go_wp2_with (first
    |(go_at_call 28;refine AI (G.out _ C.out) ?_;rintro e w3 ⟨v3,u,rfl,q,D⟩;obtain⟨av,ab,rfl,S,an⟩:=cz q;have T:Hid _:=C.out.trans (D.mono C.out.size);have d:=bj (W:=(n.alloc (.cells #[.p pb,.p prb] 47)).drew) ((aaO n _ _ (show w.heap.size+1<n.heap.size by omega)).trans Q.out) D;have V:Hid _:=d;have q0:=(aH d).1 0;have q1:=(aH d).1 1;have q2:=(aH d).1 2;have q3:=(aH d).1 3;have r0:=(aH d).2 0;have r1:=(aH d).2 1;have r2:=(aH d).2 2;have r3:=(aH d).2 3;have ay:=(IN.1 d).1;clear q D d))
   all_goals
    obtain⟨W9,y⟩: ∃W,W=((((w3.setCell (.a (w.heap.size+1) 0) (.i (u 0))).setCell (.a (w.heap.size+1) 1) (.i (u 1))).setCell (.a (w.heap.size+1) 2) (.i (u 2))).setCell (.a (w.heap.size+1) 3) (.i (u 3))).alloc (.cells (.k u) 34):=⟨_,rfl⟩
    rw[<-y];have z:w<=w.heap.size+1:=zo;have X:Below w w W9:=by rw[y];exact((((T.out.setCell z _).setCell z _).setCell z _).setCell z _).alloc (by simp[World.setCell];omega) _
    have H:W9.heap[w.heap.size+1]?=.c (.k u) 34:=by
     rw[y,aaO _ _ _ (by simp[World.setCell];omega),heap_set (heap_set (heap_set (heap_set V.out)))];rfl
    have t0:=(aH H).1 0;have t1:=(aH H).1 1;have t2:=(aH H).1 2;have t3:=(aH H).1 3;clear y H;refine abn (v:=bz u) ?_ rfl ⟨⟨u,rfl⟩,X⟩;simp[results,aC.results12,go_sem,t0,t1,t2,t3]
 .have az:(a !=1)=true:=by simpa using ha
  go_enter aC.func12,aC.ntmps12;go_wp2;refine abn (v:=bz c) ?_ rfl ⟨c,rfl,?_⟩
  .simp[results,aC.results12,go_sem]
  .simp (maxDischargeDepth:=12) [aaP,aaU,abm]
end
end Go.Proofs.YtldmcdeibiclkaaGreatQ
