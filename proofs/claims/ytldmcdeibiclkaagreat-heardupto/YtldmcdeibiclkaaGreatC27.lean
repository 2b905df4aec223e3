/-
  Toward all_holds
-/
import Derived.Test.YtldmcdeibiclkaaGreatC26
import Derived.Test.YtldmcdeibiclkaaGreatC23
import Derived.Test.YtldmcdeibiclkaaGreatC01
import Derived.Test.YtldmcdeibiclkaaGreatC25
import Derived.Test.YtldmcdeibiclkaaGreatC24
set_option linter.all false
noncomputable section
set_option maxRecDepth 100000
set_option maxHeartbeats 20000000
namespace Go.Proofs.YtldmcdeibiclkaaGreatQ
variable {K:aL}{sv lv:ag}{W W':af}{lev b:Nat}{bm:Nat->Nat}{sg:List Nd}
open Go.RowKit
section
structure mu(w:af)(rb:Nat)(T:Nat->ah)(c:Nat->Nat):Prop where
 bC:∀n:Nat,n<64->∀W,Below w w W->Calls aC.prog 50 #[.p rb,.i n] W λe w'=>e=.r (.tuple #[.s (T n),.i (c n)])/\Below w w w'
 small:∀n:Nat,n<64->(T n).size<=maxLen
section
variable {w:af}{rb:Nat}{T:Nat->ah}{c:Nat->Nat}
theorem FQ(lv n:Nat)(hl:lv<3)(G:n<4 ^ lv)(H:∀m:Nat,m<4 ^ (lv+1)->∀W,Below w w W->Calls aC.prog 53 #[.p rb,.i (lv+1:Nat),.i m] W λe w'=>e=.r (.int .u64 (dg T (3-(lv+1)) m))/\Below w w w')(W:af)(l:Below w w W):
  Calls aC.prog 76 #[.p rb,.i lv,.i n] W λe w'=>e=.r (.s (cu (λj=>dg T (3-(lv+1)) (n*4+j)) 4))/\Below w w w':=by
 obtain⟨d,o⟩: ∃d:Nat->Int,d=λj=>dg T (3-(lv+1)) (n*4+j):=⟨_,rfl⟩
 have y:Hid (∀j:Nat,j<4->∀W,Below w w W->Calls aC.prog 53 #[.p rb,.i ((lv:Int)+1),.i (4*(n:Int)+j)] W λe w'=>e=.r (.int .u64 (d j))/\Below w w w'):=λj hj W l=>by
  have:=H (n*4+j) (by rw[acR];omega) W l;rw[o];rw[show((lv+1:Nat):Int)=(lv:Int)+1 by omega,show((n*4+j:Nat):Int)=4*(n:Int)+j by omega]at this;exact this
 have a:Hid (∀(j:Nat) W,Calls aC.prog 55 #[.int .u64 (d j),.i 8] W λe w'=>e=.r (.s (eA (d j)))/\Below W W w'):=λj W=>by
  have:=xV (d j) 8 W zo;rw[Gl]at this;exact this
 have I:=(mz (show lv<=3 by omega)).1;rw[<-o];have z:(n:Int)<=64:=zo;have B:(lv:Int)<3:=zo;have C:Hid _:=l;clear H l o;go_enter aC.func76,aC.ntmps76;go_wp2;go_loopw [7,8] (λs i wr=>∃k:Nat,k<=4/\i=.i k/\s=.s (cu d k)/\Hid (Below w w wr)) (λ_ i _=>4-(intOf i).toNat)
 case atStart=>exact⟨0,zo,rfl,rfl,C.out⟩
 case round=>
  obtain⟨k,J,rfl,rfl,A⟩:=hrel;by_cases q:k<4
  .have k1:(k:Int)<4:=zo;have L:(0:Int)<=(k:Int):=zo;have D:=kx d k;have E:Hid (cu d (k+1)=cu d k++eA (d k)):=rfl;have F:(eA (d k)).size=8:=Bi _;have t:Hid _:=y.out k q;have u:Hid _:=a.out k;generalize eA (d k)=db at*;generalize cu d k=st at*;generalize d k=dk at*;clear y a;go_wp2_with (first
    |(go_at_call 53;refine AI (t.out _ A.out) ?_;rintro e w1 ⟨rfl,f⟩;have v:Hid _:=f;clear f)
    |(go_at_call 55;refine AI (u.out _) ?_;rintro e w2 ⟨rfl,h⟩;have x:Hid _:=bk v.out h;clear h))
   exact⟨⟨k+1,zo,by go_num,by rw[E.out],x.out⟩,zi⟩
  .obtain rfl:k=4:=zo;go_wp2;go_ret;exact⟨rfl,A.out⟩
theorem RR(h:mu w rb T c)(n:Nat)(j:n<64)(W:af)(k:Below w w W):
  Calls aC.prog 53 #[.p rb,.i 3,.i n] W λe w'=>e=.r (.int .u64 (dg T 0 n))/\Below w w w':=by
 have l:Hid _:=h.bC n j W k;have m:Hid (∀W,Calls aC.prog 73 #[.s (T n)] W λe w'=>e=.r (.int .u64 (dg T 0 n))/\w'=W):=λW=>xS (T n) W (h.small n j);clear h k;generalize dg T 0 n=D at*;go_enter aC.func53,aC.ntmps53;go_wp2_with (first
  |(go_at_call 50;refine AI l.out ?_;rintro e w1 ⟨rfl,a⟩;have d:=zu a;clear a)
  |(go_at_call 73;refine AI (m.out _) ?_;rintro e w2 ⟨rfl,f⟩;obtain rfl:=f.symm))
 go_ret;exact⟨rfl,d.out⟩
theorem Xi(lv n:Nat)(hl:lv<3)(W:af)(H:Calls aC.prog 76 #[.p rb,.i lv,.i n] W λe w'=>e=.r (.s (cu (λj=>dg T (3-(lv+1)) (n*4+j)) 4))/\Below w w w'):
  Calls aC.prog 53 #[.p rb,.i lv,.i n] W λe w'=>e=.r (.int .u64 (dg T (3-lv) n))/\Below w w w':=by
 have h:Hid (∀W,Calls aC.prog 73 #[.s (cu (λj=>dg T (3-(lv+1)) (n*4+j)) 4)] W λe w'=>e=.r (.int .u64 (dg T (3-lv) n))/\w'=W):=λW=>by
  have:=xS (cu (λj=>dg T (3-(lv+1)) (n*4+j)) 4) W (by rw[kx];decide);rw[show 3-lv=(3-(lv+1))+1 by omega,dg,jy];exact this
 have k:Hid _:=H;generalize dg T (3-lv) n=D at*;generalize cu (λj=>dg T (3-(lv+1)) (n*4+j)) 4=st at*;have l: ¬(lv:Int)=3:=zo;clear H;go_enter aC.func53,aC.ntmps53;go_wp2_with (first
  |(go_at_call 76;refine AI k.out ?_;rintro e w1 ⟨rfl,a⟩;have d:Hid _:=a;clear a)
  |(go_at_call 73;refine AI (h.out _) ?_;rintro e w2 ⟨rfl,f⟩;obtain rfl:=f.symm))
 go_ret;exact⟨rfl,d.out⟩
theorem yc(h:mu w rb T c):∀(k lv:Nat),lv+k=3->∀n:Nat,n<4 ^ lv->∀W,Below w w W->Calls aC.prog 53 #[.p rb,.i lv,.i n] W λe w'=>e=.r (.int .u64 (dg T (3-lv) n))/\Below w w w'
 |0,lv,e,n,d,W,a=>by
  obtain rfl:lv=3:=zo;exact RR h n d W a
 |k+1,lv,e,n,d,W,a=>Xi lv n zo W (FQ lv n zo d (λm f W a=>yc h k (lv+1) zo m f W a) W a)
theorem B9(h:mu w rb T c){lv n:Nat}(hl:lv<3)(d:n<4 ^ lv)(W:af)(a:Below w w W):Calls aC.prog 76 #[.p rb,.i lv,.i n] W λe w'=>e=.r (.s (cu (λj=>dg T (3-(lv+1)) (n*4+j)) 4))/\Below w w w':=
 FQ lv n hl d (λm f W a=>yc h (3-(lv+1)) (lv+1) zo m f W a) W a
theorem Rz(h:mu w rb T c)(n:Nat)(f:n<64)(W:af)(j:Below w w W):
  Calls aC.prog 20 #[.p rb,.i n] W λe w'=>e=.r (.tuple #[.s (T n),.i 0])/\Below w w w':=by
 have k:Hid _:=h.bC n f W j;have l: ¬(63:Int)<(n:Int):=zo;have m:decide ((n:Int)<0)=false:=zp;clear h j f;go_enter aC.func20,aC.ntmps20;go_wp2_with (go_at_call 50;refine AI k.out ?_;rintro e w1 ⟨rfl,a⟩;have d:Hid _:=a;clear a)
 go_ret2;exact⟨rfl,d.out⟩
theorem C6(h:mu w rb T c)(W:af)(l:Below w w W):
  Calls aC.prog 24 #[.pointer (some ⟨rb,0,none⟩)] W λe w'=>e=.returned (.string (aK 82++eA (dg T 3 0)))/\Below w.heap.size w w':=by
 have m:Hid _:=yc h 3 0 rfl 0 zd W l;have f:Hid (∀W,Calls aC.prog 55 #[.int .u64 (dg T 3 0),.i 8] W λe w'=>e=.r (.s (eA (dg T 3 0)))/\Below W W w'):=λW=>by
  have:=xV (dg T 3 0) 8 W zo;rw[Gl]at this;exact this
 have n:(eA (dg T 3 0)).size=8:=Bi _;generalize eA (dg T 3 0)=db at*;generalize dg T 3 0=D at*;clear h l;go_enter aC.func24,aC.ntmps24;go_wp2_with (first
  |(go_at_call 53;refine AI m.out ?_;rintro e w1 ⟨rfl,a⟩;have j:Hid _:=a;clear a)
  |(go_at_call 55;refine AI (f.out _) ?_;rintro e w2 ⟨rfl,d⟩;have k:Hid _:=bk j.out d;clear d))
 go_ret;exact⟨rfl,k.out⟩
end
end
theorem G6{w:af}{rb num:Nat}{l:List aY}(h:cG w rb num sv l K)(n:Nat):nR K n ((l.filter λq=>decide (aZ q.1=n)).map λq=>q.1.data.toList):=by
 refine⟨?_,λx=>⟨λk=>?_,λ⟨j,d⟩=>?_⟩⟩
 .refine acs.2 ((adt _ h.sorted).imp λ{a b} f=>?_)
  have:=nu.1 f;rwa [acC,acC]at this
 .obtain⟨q,i,rfl⟩:=aaW.1 k;obtain⟨j,d⟩:=acw.1 i;rw[xQ];exact⟨by simpa using d,(h.mem_iff q.1).1 ⟨q,j,rfl⟩⟩
 .obtain⟨q,i,e⟩:=(h.mem_iff (eG x)).2 d;refine aaW.2 ⟨q,acw.2 ⟨i,zg⟩,?_⟩;rw[e];simp[eG]
theorem D5{w:af}{rb num:Nat}{l:List aY}(h:cG w rb num sv l K)(n:Nat):eS K n l=fq K n:=by
 rw[fq,rZ (G6 h n),acE,eS];refine aci λq _=>?_;simp only[Function.comp_apply,xQ]
theorem dw.names{w:af}{g:PG}(h:dw w g):ye g.l:=λq f=>by
 have i:=(h.gI.mem_iff q.1).1 ⟨q,f,rfl⟩;have hs:=h.rep.2.1 (aZ q.1) (kP _);have a:=(Cf hs rfl).2 i;obtain⟨es,clock,j,m,n,k,o⟩:=hs;have d:dB w (g.bm (aZ q.1))=es.toList:=by simp[dB,j]
 rw[d]at a;exact mW (xn a λe a=>k.2.2.2 e a).2.2
theorem dw.qj{w:af}{g:PG}(h:dw w g)(hl:g.l.length<=1300000):gi w g.bm g.K:=by
 refine⟨h.inv.ok,λn d=>?_⟩;have a:=rZ (h.rep.2.1 n d).names;rw[rZ (G6 h.gI n)]at a;have e:=congrArg List.length a;rw[(pq _).length_eq,fE,abe,abe]at e;grind
theorem EW{w:af}{rb num:Nat}{l:List aY}(h:cG w rb num sv l K)(a:cF K)(d:ye l)(hl:l.length<=1300000):mu w rb (iY K) λn=>(fq K n).length where
 bC n hn W hW:=by
  have:=TL rb num n sv l K W (h.below hW) a (λs v hv=>by have:=(a s).pos v hv;omega) d zo hn;rw[D5 h]at this;exact this.mono λe w' ⟨f,hb⟩=>⟨f,bk hW hb⟩
 small n hn:=by
  have:=Ek a d n;rw[D5 h]at this;unfold maxLen;show(fW (fq K n)).size<=_;omega
def dw.yZ{w:af}{g:PG}(h:dw w g)(hl:g.l.length<=1300000):mu w g.rb (iY g.K) λn=>(fq g.K n).length:=EW h.gI h.inv h.names hl
section
theorem WB(l n:Int)(h:l<0\/3<l\/n<0)(w:af):Calls aC.prog 48 #[.i l,.i n] w λe w'=>e=.r (.bool false)/\w'=w:=by
 by_cases a:l<0
 .have d:decide (0<=l)=false:=by simpa using a
  go_enter aC.func48,aC.ntmps48;go_wp2;go_ret;exact⟨rfl,rfl⟩
 .have d:0<=l:=zo;by_cases f:3<l
  .have j:decide (l<=3)=false:=by simpa using f
   go_enter aC.func48,aC.ntmps48;go_wp2;go_ret;exact⟨rfl,rfl⟩
  .have j:l<=3:=zo;have k:decide (0<=n)=false:=zt;go_enter aC.func48,aC.ntmps48;go_wp2;go_ret;exact⟨rfl,rfl⟩
theorem JL(l n:Int)(w:af):Calls aC.prog 48 #[.i l,.i n] w λe w'=>e=.r (.bool (decide ((0<=l/\l<=3)/\0<=n/\n<(4 ^ l.toNat:Nat))))/\w'=w:=by
 by_cases h:l<0\/3<l\/n<0
 .rw[abC zo];exact WB l n h w
 .have:=xB l.toNat n.toNat zo w;rw[show((l.toNat:Nat):Int)=l by omega,show((n.toNat:Nat):Int)=n by omega]at this;simp_all
def sw(K:aL)(n:Int):Value:=if 0<=n/\n<64 then .tuple #[.s (iY K n.toNat),.i 0] else .tuple #[.s ⟨#[]⟩,.i 7]
theorem Sm(b:Nat)(n:Int)(h: ¬(0<=n/\n<64))(w:af):Calls aC.prog 19 #[.p b,.i n] w λe w'=>e=.r (.tuple #[.s ⟨#[]⟩,.i 7])/\w'=w:=by
 have d:Hid _:=λW=>by
  have:=JL 3 n W;rwa [abC (λq=>h ⟨q.2.1,q.2.2⟩)]at this
 clear h;go_enter aC.func19,aC.ntmps19;go_wp2_with (go_at_call 48;refine AI (d.out _) ?_;rintro e w0 ⟨rfl,a⟩;obtain rfl:=a.symm)
 go_ret2;exact⟨rfl,rfl⟩
theorem MP(rb:Nat)(n:Int)(h: ¬(0<=n/\n<64))(w:af):Calls aC.prog 20 #[.p rb,.i n] w λe w'=>e=.r (.tuple #[.s ⟨#[]⟩,.i 7])/\w'=w:=by
 by_cases a:n<0
 .go_enter aC.func20,aC.ntmps20;go_wp2;go_ret2;exact⟨rfl,rfl⟩
 .have d:decide (n<0)=false:=by simpa using a
  have f:63<n:=zo;clear h a;go_enter aC.func20,aC.ntmps20;go_wp2;go_ret2;exact⟨rfl,rfl⟩
section
variable {w:af}{g:PG}
theorem dw.KY(h:dw w g)(hl:g.l.length<=1300000)(n:Int)(W:af)(a:Below w w W):Calls aC.prog 19 #[.p g.b,.i n] W λe w'=>e=.r (sw g.K n)/\Below w w w':=by
 unfold sw;by_cases d:0<=n/\n<64
 .rw[BY d];have f:=h.below a
  have:=ZF g.b g.num n.toNat g.bm g.K W f.rep (f.qj hl) zo;rw[show((n.toNat:Nat):Int)=n by omega,f.rep.text zo]at this;exact this.mono λe w' ⟨j,hb⟩=>⟨j,bk a hb⟩
 .rw[AT d];exact(Sm g.b n d W).mono λe w' ⟨j,k⟩=>⟨j,k▸a⟩
theorem dw.Xk(h:dw w g)(hl:g.l.length<=1300000)(n:Int)(W:af)(d:Below w w W):Calls aC.prog 20 #[.p g.rb,.i n] W λe w'=>e=.r (sw g.K n)/\Below w w w':=by
 unfold sw;by_cases a:0<=n/\n<64
 .rw[BY a]
  have:=Rz (h.yZ hl) n.toNat zo W d;grind
 .rw[AT a];exact(MP g.rb n a W).mono λe w' ⟨f,j⟩=>⟨f,j▸d⟩
end
def rQ(K:aL)(l n:Int):Value:=if (0<=l/\l<=3)/\0<=n/\n<(4 ^ l.toNat:Nat) then .tuple #[.int .u64 (ed K l.toNat n.toNat),.i 0] else .tuple #[.int .u64 0,.i 7]
theorem Zn(b:Nat)(l n:Int)(h: ¬((0<=l/\l<=3)/\0<=n/\n<(4 ^ l.toNat:Nat)))(w:af):Calls aC.prog 21 #[.p b,.i l,.i n] w λe w'=>e=.r (.tuple #[.int .u64 0,.i 7])/\w'=w:=by
 have d:Hid _:=λW=>by
  have:=JL l n W;rwa [abC h]at this
 clear h;go_enter aC.func21,aC.ntmps21;go_wp2_with (go_at_call 48;refine AI (d.out _) ?_;rintro e w0 ⟨rfl,a⟩;obtain rfl:=a.symm)
 go_ret2;exact⟨rfl,rfl⟩
theorem K1(rb:Nat)(l n:Int)(h: ¬((0<=l/\l<=3)/\0<=n/\n<(4 ^ l.toNat:Nat)))(w:af):Calls aC.prog 22 #[.p rb,.i l,.i n] w λe w'=>e=.r (.tuple #[.int .u64 0,.i 7])/\w'=w:=by
 by_cases a:l<0
 .go_enter aC.func22,aC.ntmps22;go_wp2;go_ret2;exact⟨rfl,rfl⟩
 .have m:decide (l<0)=false:=by simpa using a
  by_cases d:3<l
  .clear h a;go_enter aC.func22,aC.ntmps22;go_wp2;go_ret2;exact⟨rfl,rfl⟩
  .have o:decide (3<l)=false:=by simpa using d
   by_cases j:n<0
   .clear h a d;go_enter aC.func22,aC.ntmps22;go_wp2;go_ret2;exact⟨rfl,rfl⟩
   .have s:decide (n<0)=false:=by simpa using j
    have k:Hid _:=λW=>by
     have:=Ar l.toNat W zo;rwa [show((l.toNat:Nat):Int)=l by omega]at this
    have t:((4 ^ l.toNat:Nat):Int)<=n:=by
     refine aco λq=>h ⟨zo,zo,zo⟩
    generalize 4 ^ l.toNat=p at*;clear h a d j;go_enter aC.func22,aC.ntmps22;go_wp2_with (go_at_call 52;refine AI (k.out _) ?_;rintro e w0 ⟨rfl,f⟩;obtain rfl:=f.symm)
    go_ret2;exact⟨rfl,rfl⟩
theorem Lf{w:af}{rb:Nat}{T:Nat->ah}{c:Nat->Nat}(h:mu w rb T c)(l n:Nat)(hl:l<=3)(j:n<4 ^ l)(W:af)(k:Below w w W):Calls aC.prog 22 #[.p rb,.i l,.i n] W λe w'=>e=.r (.tuple #[.int .u64 (dg T (3-l) n),.i 0])/\Below w w w':=by
 have m:Hid _:=yc h (3-l) l zo n j W k;have o:Hid _:=λW=>Ar l W hl;have q:decide ((l:Int)<0)=false:=zp;have s:decide (3<(l:Int))=false:=zt;have t:decide ((n:Int)<0)=false:=zp;generalize 4 ^ l=p at*;have u: ¬(p:Int)<=(n:Int):=zo;generalize dg T (3-l) n=D at*;clear h k j hl;go_enter aC.func22,aC.ntmps22;go_wp2_with (first
  |(go_at_call 52;refine AI (o.out _) ?_;rintro e w0 ⟨rfl,d⟩;obtain rfl:=d.symm)
  |(go_at_call 53;refine AI m.out ?_;rintro e w1 ⟨rfl,a⟩;have f:Hid _:=a;clear a))
 go_ret2;exact⟨rfl,f.out⟩
section
variable {w:af}{g:PG}
theorem dw.PD(h:dw w g)(hl:g.l.length<=1300000)(l n:Int)(W:af)(a:Below w w W):Calls aC.prog 21 #[.p g.b,.i l,.i n] W λe w'=>e=.r (rQ g.K l n)/\Below w w w':=by
 unfold rQ;by_cases d:(0<=l/\l<=3)/\0<=n/\n<(4 ^ l.toNat:Nat)
 .rw[BY d];have f:=h.below a
  have:=Tm g.b g.num l.toNat n.toNat g.bm g.K W f.rep (f.qj hl) zo zo;rw[show((l.toNat:Nat):Int)=l by omega,show((n.toNat:Nat):Int)=n by omega,f.rep.uT zo zo]at this;exact this.mono λe w' ⟨j,hb⟩=>⟨j,bk a hb⟩
 .rw[AT d];exact(Zn g.b l n d W).mono λe w' ⟨j,k⟩=>⟨j,k▸a⟩
theorem dw.KU(h:dw w g)(hl:g.l.length<=1300000)(l n:Int)(W:af)(d:Below w w W):Calls aC.prog 22 #[.p g.rb,.i l,.i n] W λe w'=>e=.r (rQ g.K l n)/\Below w w w':=by
 unfold rQ;by_cases a:(0<=l/\l<=3)/\0<=n/\n<(4 ^ l.toNat:Nat)
 .rw[BY a]
  have:=Lf (h.yZ hl) l.toNat n.toNat zo zo W d;rwa [show((l.toNat:Nat):Int)=l by omega,show((n.toNat:Nat):Int)=n by omega]at this
 .rw[AT a];exact(K1 g.rb l n a W).mono λe w' ⟨f,j⟩=>⟨f,j▸d⟩
theorem dw.Ma(h:dw w g)(hl:g.l.length<=1300000)(W:af)(d:Below w w W):Calls aC.prog 23 #[.p g.b] W λe w'=>e=.r (.s (kK (ed g.K 0 0)))/\Below w w w':=by
 have a:=h.below d
 have:=Td g.b g.num g.bm g.K W a.rep (a.qj hl);rw[a.rep.uT zo zd]at this;exact this.mono λe w' ⟨f,hb⟩=>⟨f,bk d hb⟩
def dw.Va(h:dw w g)(hl:g.l.length<=1300000)(W:af)(a:Below w w W):Calls aC.prog 24 #[.p g.rb] W λe w'=>e=.r (.s (kK (ed g.K 0 0)))/\Below w w w':=
 C6 (h.yZ hl) W a
end
end
section
open Go.Lib (strCells strCells_length strCells_oneCell)
def jM:List aJ->ah
 |[]=>ByteArray.empty
 |r::l=>dY r.1 r.2.1 r.2.2++jM l
theorem Oa(l:List aJ):∀s,l.foldl (λs r=>s++dY r.1 r.2.1 r.2.2) s=s++jM l:=by
 induction l with
 |nil=>intro s;simp[jM,iT]
 |cons v l a=>intro s;rw[acJ,a,jM,cE]
theorem Ba(l:List aJ):fW l=jM l:=by rw[fW,Oa,lG]
def gB(rs:List aJ):ByteArray:=dp rs.length++jM rs
def cU:List (Nat×List aJ)->ah
 |[]=>ByteArray.empty
 |g::l=>aK g.1++(gB g.2++cU l)
def fR:List Nd->ah
 |[]=>ByteArray.empty
 |g::l=>aK g.1++(cu g.2 4++fR l)
def Let.bytes:Let->ah
 |.root d=>aK 82++eA d
 |.nodes lev sg=>aK 78++(aK lev++(aK sg.length++fR sg))
 |.bS kind sg=>aK kind++(aK sg.length++cU sg)
theorem MR(B Q:Nat)(v N:ag)(s:ah)(rs:List Rc)(w:af)(O:bF w B v s)(hB:B<=w)(h:fD w Q N rs)(hv:∀r∈rs,aU w r.sv r.l/\r.l.length<=8000000)(hlen:s.size+(fy rs).size<=140737488355328):
  Calls aC.prog 71 #[v,N] w λe w'=>∃v',e=.r v'/\bF w' B v' (s++fy rs)/\cV w w' v v':=by
 obtain⟨ad,cap,rfl,p,R⟩:=h.len;unfold maxLen at p;have H:Hid _:=h;have S:Hid _:=hv;have m:Hid _:=O;clear h hv O;go_enter aC.func71,aC.ntmps71;go_wp2;go_loopw [0,9] (λo i wr=>∃k:Nat,k<=rs.length/\i=.i k/\Hid (bF wr B o (s++fy (rs.take k)))/\Hid (cV w wr v o)) (λ_ i _=>rs.length-(intOf i).toNat)
 case atStart=>exact⟨0,zo,rfl,by rw[ado];show Hid (bF w B v (s++ByteArray.empty));rw[iT];exact m.out,cV.refl _ _⟩
 case round=>
  obtain⟨k,hk,rfl,C,t⟩:=hrel;have U:=t.out.grown.size;by_cases d:k<rs.length
  .obtain⟨g,P,u,V,_,_,n⟩:=fD.cells (Ao t.out.grown m.out H.out zd) d;cases u;have c0:=n 0 zo;have c1:=n 1 zo;have c2:=n 2 zo;have c3:=n 3 zo;have c4:=n 4 zo;have X:=n 5 zo;clear n;simp[mr]at c0 c1 c2 c3 c4 X;have f:=S.out rs[k] (IS d);have D:Hid _:=aU.mw f.1 m.out t.out;have E:=f.2;obtain⟨j,a,x⟩:=vD f.1;clear f;have y:=CP rs (k+1);rw[vS d,OF]at y;have Y:Hid (s++fy (rs.take k)++dY rs[k].key rs[k].c rs[k].l=s++fy (rs.take (k+1))):=(show _=_ by rw[vS d,cE])
   have F:(s++fy (rs.take k)).size+(dY rs[k].key rs[k].c rs[k].l).size<=140737488355328:=by rw[OF];omega
   generalize s++fy (rs.take k)=st at*;clear y;generalize rs[k].key=key at*;generalize rs[k].c=c at*;generalize rs[k].sv=sv at*;generalize rs[k].l=l at*;subst x;have Z:(k:Int)<(rs.length:Int):=zo;have k0:(0:Int)<=(k:Int):=zo;have G:Hid (Below wr wr (wr.alloc (.cells (.q key c (.slice j l.length a)) 152))):=zj.alloc zf _;have I:Hid (bF (wr.alloc (.cells (.q key c (.slice j l.length a)) 152)) B u0 st):=C.out.alloc _;go_wp2_with (go_at_call 92;refine(Fh B u0 st key c (.slice j l.length a) l (wr.alloc (.cells (.q key c (.slice j l.length a)) 152)) I.out zt (aU.below D.out G.out) E F).mono ?_;rintro e w1 ⟨v1,rfl,z,A⟩;have J:Hid _:=z;have L:=zu ((t.out.alloc _).trans A);clear z A)
   refine⟨⟨k+1,zo,by go_num,?_,L.out⟩,zi⟩;show bF _ _ _ _;rw[<-Y.out];exact J.out
  .obtain rfl:k=rs.length:=zo;have M:=zu ((by have:=C.out;rw[abF]at this;exact this));clear C;go_wp2;go_ret;exact⟨_,rfl,M.out,t.out⟩
def Gm.is(g:Gm):Nat×List aJ:=(g.1,g.2.2.map Rc.bP)
theorem R9(l:List (Nat×List aJ))(g:Nat×List aJ):cU (l++ [g])=cU l++(aK g.1++gB g.2):=by
 induction l with
 |nil=>simp[cU,iT,lG]
 |cons x l a=>rw[abT,cU,a,cU,cE,cE]
theorem aay{l:List (Nat×List aJ)}{k:Nat}(h:k<l.length):cU (l.take (k+1))=cU (l.take k)++(aK l[k].1++gB l[k].2):=by
 rw[abE h,R9]
theorem Mo(l:List (Nat×List aJ)):∀k,(cU (l.take k)).size<=(cU l).size:=λk=>by
 have key:∀a b:List (Nat×List aJ),(cU (a++b)).size=(cU a).size+(cU b).size:=λa b=>by
  induction a with
  |nil=>simp[cU]
  |cons x a d=>simp only[abT,cU,OF,d];omega
 have:=key (l.take k) (l.drop k);simp_all
theorem ZG(rc:List Rc):dp (rc.map Rc.bP).length++fy rc=gB (rc.map Rc.bP):=by rw[gB,Cs,Ba]
theorem uQ:∀(gs:List Gm) (k:Nat) (h:k<gs.length),(jN gs)[k*2]?=.i gs[k].1/\(jN gs)[k*2+1]?=some gs[k].2.1
 |g::gs,0,_=>by simp[jN]
 |g::gs,k+1,h=>by
  have:=uQ gs k (by simpa using h);simp only[jN,acn,List.getElem_cons_succ] at*;grind
theorem sG{w:af}{B size n:Nat}{t:ak}{v:ag}{xs:ae}(h:w.ownsRow B t size v n xs)(d:0<n): ∃g cap,v=.l g n cap/\g<w/\n<=cap/\cap<=maxLen/\∀j x,j<n*size->xs[j]?=some x->w.cell? (.a g j)=some x:=by
 obtain⟨p,e⟩:=h;rcases e with⟨_,e⟩|⟨g,cap,k,hv,_,f,d,m,hs,o⟩
 .omega
 .refine⟨g,cap,hv,(IN.1 f).1,d,m,λj x hj i=>?_⟩;rw[<-o,abQ,BY hj]at i;simpa[World.cell?,f] using i
theorem VT(B1 V kind:Nat)(lv:ag)(gs:List Gm)(w:af)(h:w.ownsRow B1 220 2 lv gs.length (jN gs))(hk:kind<256)(hl:gs.length<=64)(hg:∀g∈gs,g.1<64/\g.2.2.length<=1300000/\fD w V g.2.1 g.2.2/\∀r∈g.2.2,aU w r.sv r.l/\r.l.length<=8000000)(F:(Let.bS kind (gs.map Gm.is)).bytes.size<=140737488355328):
  Calls aC.prog 181 #[.agg #[.int .u8 kind,lv]] w λe w'=>e=.r (.s (Let.bS kind (gs.map Gm.is)).bytes)/\Below w w w':=by
 obtain⟨i0,X,Y,Z,ab⟩:=aaY aC.ri;obtain⟨ad,cap,rfl,a8,bd⟩:=lh h;have v:(gs.map Gm.is).length=gs.length:=abe ..;have bn:(0:Int)<=(gs.length:Int):=zo;have aT:bF ((w.alloc (.cells #[.int .u8 kind,.slice ad gs.length cap] 171)).alloc (.cells #[.int .u8 kind,.int .u8 gs.length] 5)) w (.l (w.heap.size+1) 2 2) (aK kind++aK gs.length):=
  ⟨by simp[qA,kZ,OF,dE],Or.inr ⟨w.heap.size+1,2,#[.int .u8 kind,.int .u8 gs.length],rfl,zo,mH w _ _,zf,zd,rfl,by
   rw[qA,kZ,kZ,adw zo zo,adw zo zo];rfl⟩⟩
 have u:=zu aT;have HG:=zu hg;have G:(Let.bS kind (gs.map Gm.is)).bytes=(aK kind++aK gs.length)++cU (gs.map Gm.is):=by rw[Let.bytes,v,cE]
 rw[G]at F ⊢;have hP:=Mo (gs.map Gm.is);have HP:Hid (∀k,((aK kind++aK gs.length)++cU ((gs.map Gm.is).take k)).size<=140737488355328):=(show∀k,_ by intro k;have:=hP k;rw[OF]at F ⊢;omega)
 have an:Hid (∀k (h:k<gs.length),((aK kind++aK gs.length)++cU ((gs.map Gm.is).take k))++aK gs[k].1++dp gs[k].2.2.length++fy gs[k].2.2=(aK kind++aK gs.length)++cU ((gs.map Gm.is).take (k+1))):=(show∀k (h:k<gs.length),_ by
  intro k h;rw[aay (by rw[v];exact h)];simp only[List.getElem_map,Gm.is,cE];simp only[<-ZG,abe])
 clear hP G;have H:=zu h;clear aT hg h;go_enter aC.func181,aC.ntmps181;go_wp2;have I:Hid (Below w w ((w.alloc (.cells #[.int .u8 kind,.slice ad gs.length cap] 171)).alloc (.cells #[.int .u8 kind,.int .u8 gs.length] 5))):=(zj.alloc zf _).alloc zp _;generalize J:aK kind++aK gs.length=P0 at*;have ao:=zu J;clear J;go_loopw [3,16] (λo i wr=>∃k:Nat,k<=gs.length/\i=.i k/\Hid (bF wr w o (P0++cU ((gs.map Gm.is).take k)))/\Hid (Below w w wr)) (λ_ i _=>gs.length-(intOf i).toNat)
 case atStart=>exact⟨0,zo,rfl,by rw[ado,cU,iT];exact u.out,I.out⟩
 case round=>
  obtain⟨k,bo,rfl,HR,L⟩:=hrel;have aq:=L.out.size;clear u I;by_cases t:k<gs.length
  .obtain⟨g,bb,ar,M,_,_,cc⟩:=sG H.out (show 0<gs.length by omega);cases ar;have c0:=(L.out.cell (p:=(.a g (k*2))) M).trans (cc (k*2) _ zo (uQ gs k t).1);have c1:=(L.out.cell (p:=(.a g (k*2+1))) M).trans (cc (k*2+1) _ zo (uQ gs k t).2);obtain⟨g1,g2,g3,g4⟩:=HG.out gs[k] (IS t);obtain⟨f,d,av,ay,_⟩:=lh g3;have N:=HP.out (k+1);have x:=an.out k t;have az:Hid _:=x;rw[<-x]at N;clear cc x;have y:Hid (∀W,Below w w W->fD W V gs[k].2.1 gs[k].2.2/\∀r∈gs[k].2.2,aU W r.sv r.l/\r.l.length<=8000000):=λW hW=>⟨bH g3 hW zf,λr hr=>⟨aU.below (g4 r hr).1 hW,(g4 r hr).2⟩⟩
   clear g3 g4;generalize P0++cU ((gs.map Gm.is).take k)=P at*;rw[av]at c1 y;generalize gs[k].1=n at*;generalize bp:gs[k].2.2=rc at*;simp only[OF,dE,l6]at N;have a1:(k:Int)<(gs.length:Int):=zo;have a0:(0:Int)<=(k:Int):=zo;have m1:(0:Int)<=(n:Int):=zo;have m2:(n:Int)<=255:=zo;have aA:Hid (Below w w (wr.alloc (.cells #[.i n,.slice f rc.length d] 220))):=L.out.alloc aq _;have z:Hid (Below w w ((wr.alloc (.cells #[.i n,.slice f rc.length d] 220)).alloc (.cells #[.int .u8 n] 5))):=aA.out.alloc zt _;have A:Hid (bF ((wr.alloc (.cells #[.i n,.slice f rc.length d] 220)).alloc (.cells #[.int .u8 n] 5)) w u3 P):=(HR.out.alloc _).alloc _;have aB:Hid (((wr.alloc (.cells #[.i n,.slice f rc.length d] 220)).alloc (.cells #[.int .u8 n] 5)).heap[wr.heap.size]?=.c #[.i n,.slice f rc.length d] 220):=(by rw[aaO _ _ _ zp];exact By wr _)
   go_wp2_with (first
    |(at_builtin;refine kj _ rfl _ _ _ rfl w 5 i0 _ 1 1 aC.underlying124 X Y Z ab rfl zo u3 _ _ rfl A.out (.a (wr.heap.size+1) 0) 1 1 _ rfl (by rfl) (aaT (mH wr _ _)) zv zo ze zo (by have:=z.out.size;omega) ?_;intro g7 bc w7 j m;have B:Hid _:=bF.of j rfl (by rw[kZ,adw zo zo]);have C:=m.other A.out aB.out zd;obtain⟨c7,f7⟩:=aH C;have br:=c7 0;have bs:=c7 1;clear c7 f7;have aE:Hid _:=C;have D:Hid _:=m.toBelow z.out z.out.size A.out;clear C j m)
    |(go_at_call 124;refine AI (vY w _ _ rc.length w7 B.out D.out.size (by simp[OF,dE];omega)) ?_;rintro e w8 ⟨v8,rfl,O,E⟩;have Q:Hid _:=O;have R:=E.other B.out aE.out zd;obtain⟨c8,f8⟩:=aH R;have bx:=c8 1;have q:Hid _:=E.toBelow D.out D.out.size B.out;clear c8 f8 R O E)
    |(go_at_call 71;refine AI (MR w V _ _ _ rc w8 Q.out q.out.size (y.out w8 q.out).1 (y.out w8 q.out).2 (by simp[OF,dE,l6];omega)) ?_;rintro e w9 ⟨v9,rfl,S,U⟩;have a6:Hid _:=S;have a7:Hid _:=U.toBelow q.out q.out.size Q.out;clear S U))
   refine⟨⟨k+1,zo,by go_num,?_,a7.out⟩,zi⟩;rw[<-az.out];exact a6.out
  .obtain rfl:k=gs.length:=zo;have hR:=HR.out;rw[<-v,abF]at hR;have hcv:=sx hR;clear hR;go_wp2;go_ret;exact⟨by rw[ao.out];rfl,L.out⟩
end
section
open Go.Lib (strCells strCells_length strCells_oneCell)
theorem SX(l:List Nd)(g:Nd):fR (l++ [g])=fR l++(aK g.1++cu g.2 4):=by
 induction l with
 |nil=>simp[fR,iT,lG]
 |cons x l a=>rw[abT,fR,a,fR,cE,cE]
theorem Lx{l:List Nd}{k:Nat}(h:k<l.length):fR (l.take (k+1))=fR (l.take k)++(aK l[k].1++cu l[k].2 4):=by
 rw[abE h,SX]
theorem OU(l:List Nd):(fR l).size=33*l.length:=by
 induction l with
 |nil=>rfl
 |cons x l a=>rw[fR,OF,OF,a,kx,dE,abi];omega
theorem CO(l:List Nd):(gJ l).length=l.length*5:=by
 induction l with
 |nil=>rfl
 |cons g gs a=>simp only[gJ,acn,abo,abi,nQ,abM] at*;omega
theorem BC:∀(l:List Nd) (k:Nat) (h:k<l.length) (j:Nat),j<5->(gJ l)[k*5+j]?=(nQ l[k])[j]?
 |g::l,0,_,j,hj=>by
  simp only[gJ,acn,Nat.zero_mul,Nat.zero_add,List.getElem_cons_zero];rw[List.getElem?_append_left (by simpa[nQ] using hj)]
 |g::l,k+1,h,j,hj=>by
  have:=BC l k (by simpa using h) j hj;simp only[gJ,acn,List.getElem_cons_succ] at*;rw[adg (by simp[nQ];omega),show(k+1)*5+j-(nQ g).length=k*5+j by simp[nQ];omega];exact this
theorem vJ(W:af)(a b c d:ag):
  (Instr.index 215 (.agg #[a,b,c,d]) (.i 0)).run aC.prog W=.ok a W/\
  (Instr.index 215 (.agg #[a,b,c,d]) (.i 1)).run aC.prog W=.ok b W/\
  (Instr.index 215 (.agg #[a,b,c,d]) (.i 2)).run aC.prog W=.ok c W/\
  (Instr.index 215 (.agg #[a,b,c,d]) (.i 3)).run aC.prog W=.ok d W:=
 ⟨zk,zk,zk,zk⟩
theorem indexAt(d:Nat->Int){j:Nat}(hj:j<4)(W:af):(Instr.index 215 (.agg #[.int .u64 (d 0),.int .u64 (d 1),.int .u64 (d 2),.int .u64 (d 3)]) (.i j)).run aC.prog W=.ok (.int .u64 (d j)) W:=by
 rcases dR hj with rfl|rfl|rfl|rfl
 .exact (vJ W _ _ _ _).1
 .exact (vJ W _ _ _ _).2.1
 .exact (vJ W _ _ _ _).2.2.1
 .exact (vJ W _ _ _ _).2.2.2
theorem Wc(B1 lev:Nat)(lv:ag)(sg:List Nd)(w:af)(h:w.ownsRow B1 217 5 lv sg.length (gJ sg))(hk:lev<256)(hl:sg.length<=64)(hg:∀g∈sg,g.1<256):
  Calls aC.prog 180 #[.agg #[.i lev,lv]] w λe w'=>e=.r (.s (Let.nodes lev sg).bytes)/\Below w w w':=by
 obtain⟨i0,U,V,X,Y⟩:=aaY aC.ri;obtain⟨ad,cap,rfl,a7,bc⟩:=lh h;have bd:(0:Int)<=(sg.length:Int):=zo;have bn:(sg.length:Int)<=255:=zo;have e0:(0:Int)<=(lev:Int):=zo;have e1:(lev:Int)<=255:=zo;have aT:bF ((w.alloc (.cells #[.i lev,.slice ad sg.length cap] 167)).alloc (.cells #[.int .u8 78,.int .u8 lev,.int .u8 sg.length] 5)) w (.l (w.heap.size+1) 3 3) (aK 78++aK lev++aK sg.length):=
  ⟨by simp[qA,kZ,OF,dE],Or.inr ⟨w.heap.size+1,3,#[.int .u8 78,.int .u8 lev,.int .u8 sg.length],rfl,zo,mH w _ _,zf,zd,rfl,by
   rw[qA,qA,kZ,kZ,kZ,adw (a:=(lev:Int)) zo zo,adw (a:=(sg.length:Int)) zo zo];rfl⟩⟩
 have y:Hid _:=aT;have HG:Hid _:=hg;have H:Hid _:=h;have B:(Let.nodes lev sg).bytes=(aK 78++aK lev++aK sg.length)++fR sg:=by rw[Let.bytes,cE,cE]
 rw[B];have Z:Hid (∀k (h:k<sg.length),(aK 78++aK lev++aK sg.length)++fR (sg.take k)++aK sg[k].1++cu sg[k].2 4=(aK 78++aK lev++aK sg.length)++fR (sg.take (k+1))):=(show∀k (h:k<sg.length),_ by
  intro k h;rw[Lx h];simp only[cE])
 have ab:Hid (∀k,((aK 78++aK lev++aK sg.length)++fR (sg.take k)).size<=3000):=(show∀k,_ by
  intro k
  have:=List.length_take_le' k sg;simp only[OF,dE,OU];omega)
 clear aT hg h B;go_enter aC.func180,aC.ntmps180;go_wp2;have C:Hid (Below w w ((w.alloc (.cells #[.i lev,.slice ad sg.length cap] 167)).alloc (.cells #[.int .u8 78,.int .u8 lev,.int .u8 sg.length] 5))):=(zj.alloc zf _).alloc zp _;generalize D:aK 78++aK lev++aK sg.length=P0 at*;have an:Hid _:=D;clear D;go_loopw [3,19] (λo i wr=>∃k:Nat,k<=sg.length/\i=.i k/\Hid (bF wr w o (P0++fR (sg.take k)))/\Hid (Below w w wr)) (λ_ i _=>sg.length-(intOf i).toNat)
 case atStart=>exact⟨0,zo,rfl,by rw[ado,fR,iT];exact y.out,C.out⟩
 case round=>
  obtain⟨k,bo,rfl,HR,E⟩:=hrel;have ao:=E.out.size;clear y C;by_cases z:k<sg.length
  .obtain⟨g,a8,aq,ar,_,_,cc⟩:=sG H.out (show 0<sg.length by omega);cases aq;have A:∀j,j<5->wr.cell? (.a g (k*5+j))=(nQ sg[k])[j]? :=λj hj=>by
    have h1:=BC sg k z j hj;rw[E.out.cell (p:=(.a g (k*5+j))) ar,<-h1];rw[abG (by rw[CO];omega)];exact cc _ _ zo (abG _)
   have c0:wr.cell? (.a g (k*5))=.i sg[k].1:=A 0 zo;have c1:wr.cell? (.a g (k*5+1))=some (.int .u64 (sg[k].2 0)):=A 1 zo;have c2:wr.cell? (.a g (k*5+2))=some (.int .u64 (sg[k].2 1)):=A 2 zo;have c3:wr.cell? (.a g (k*5+3))=some (.int .u64 (sg[k].2 2)):=A 3 zo;have c4:wr.cell? (.a g (k*5+4))=some (.int .u64 (sg[k].2 3)):=A 4 zo;have g1:=HG.out sg[k] (IS z);have F:=Z.out k z;have hz:=ab.out k;clear cc A;generalize av:P0++fR (sg.take k)=P at*;generalize sg[k].1=n at*;generalize sg[k].2=d at*;have ay:=zu F;clear F av;have a1:(k:Int)<(sg.length:Int):=zo;have a0:(0:Int)<=(k:Int):=zo;have m1:(0:Int)<=(n:Int):=zo;have m2:(n:Int)<=255:=zo;obtain⟨S,f⟩: ∃W,W=(wr.alloc (.cells #[.i n,.int .u64 (d 0),.int .u64 (d 1),.int .u64 (d 2),.int .u64 (d 3)] 217)).alloc (.cells #[.int .u8 n] 5):=⟨_,rfl⟩
   have t:Hid (Below w w S):=(by rw[f];exact(E.out.alloc ao _).alloc zt _)
   have u:Hid (bF S w u3 P):=(by rw[f];exact(HR.out.alloc _).alloc _)
   have G:Hid (S.heap[wr.heap.size]?=.c #[.i n,.int .u64 (d 0),.int .u64 (d 1),.int .u64 (d 2),.int .u64 (d 3)] 217):=(by rw[f,aaO _ _ _ zp];exact By wr _)
   have I:Hid (S.heap[wr.heap.size+1]?=.c #[.int .u8 n] 5):=(by rw[f];exact mH wr _ _)
   go_wp2_with (first
    |(at_builtin;rw[<-f];refine kj _ rfl _ _ _ rfl w 5 i0 _ 1 1 aC.underlying124 U V X Y rfl zo u3 _ _ rfl u.out (.a (wr.heap.size+1) 0) 1 1 _ rfl (by rfl) (aaT I.out) zv zo ze zo t.out.size ?_;intro g7 bb w7 m q;have J:=zu (bF.of m rfl (by rw[kZ,adw zo zo]));have L:=q.other u.out G.out zd;obtain⟨M,f7⟩:=aH L;have bp:=M 1;have br:=M 2;have bs:=M 3;have bx:=M 4;clear M f7;have N:=zu (q.toBelow t.out t.out.size u.out);clear L m q))
   clear f t u G I HR E;go_loopw [3,31] (λo i wq=>∃j:Nat,j<=4/\i=.i j/\Hid (bF wq w o (P++aK n++cu d j))/\Hid (Below w w wq)) (λ_ i _=>4-(intOf i).toNat)
   case atStart=>exact⟨0,zo,rfl,by rw[cu,iT];exact J.out,N.out⟩
   case round=>
    obtain⟨j,hj,rfl,v,x⟩:=hrel;clear J N;by_cases az:j<4
    .have j1:(j:Int)<4:=zo;have bB:=indexAt d az;have aA:Hid (P++aK n++cu d j++eA (d j)=P++aK n++cu d (j+1)):=(show _=_ by rw[cu,cE])
     have bL:(P++aK n++cu d j).size<=4000:=by simp only[OF,dE,kx];omega
     generalize P++aK n++cu d j=Q at*;generalize d j=dj at*;go_wp2_with (go_at_call 77;refine AI (Ca w _ Q dj _ v.out x.out.size zo) ?_;rintro e w8 ⟨v8,rfl,O,R⟩;have aB:Hid _:=O;have aE:Hid _:=R.toBelow x.out x.out.size v.out;clear O R)
     exact⟨⟨j+1,zo,by go_num,by rw[<-aA.out];exact aB.out,aE.out⟩,zi⟩
    .obtain rfl:j=4:=zo;have a6:Hid (bF ‹af› w.heap.size _ (P0++fR (sg.take (k+1)))):=(by rw[<-ay.out];exact v.out)
     clear v;go_wp2;exact⟨⟨k+1,zo,by go_num,a6.out,x.out⟩,zi⟩
  .obtain rfl:k=sg.length:=zo;have hR:=HR.out;rw[abF]at hR;have hcv:=sx hR;clear hR;go_wp2;go_ret;exact⟨by rw[an.out];rfl,E.out⟩
end
def fi(w:af)(B:Nat)(v:ag)(ns:List Nat):Prop:=w.ownsRow B 3 1 v ns.length (ns.map λ(n:Nat)=>Value.int .i64 (n:Int))
def dO(w:af)(bm:Nat->Nat)(K:aL)(ns:List Nat):List (Nat×List aJ):=ns.map λn=>(n,iN K (dB w (bm n)))
structure qc(w:af)(bs kind:Nat)(sg:List (Nat×List aJ))(k:Nat)(W:af)(lv:ag)(gs:List Gm):Prop where
 st:W.heap[bs]?=.c #[.int .u8 kind,lv] 171
 row:W.ownsRow w 220 2 lv k (jN gs)
 is:gs.map Gm.is=sg.take k
 jO:∀g∈gs,fD W w g.2.1 g.2.2/\∀r∈g.2.2,aU W r.sv r.l
 bR:Below w w W
theorem qc.step{w wr w2 w4:af}{kind n k m d:Nat}{sg:List (Nat×List aJ)}{gs:List Gm}{lv v2:ag}{rs:List Rc}{ro:List aJ}(h:qc w w kind sg k wr lv gs)(hb:Below wr wr w2)(o:fD w2 w v2 rs)(hv:∀r∈rs,aU w2 r.sv r.l)(v:rs.map Rc.bP=ro)(u:bA (λt=>t≠220) w2 w4)(x:w4.ownsRow w 220 2 (.l m (k+1) d) (k+1) (jN gs++ [.i n,v2]))(p:Below w w w4)(hs:sg.take (k+1)=sg.take k++ [(n,ro)]):
  qc w w kind sg (k+1) (w4.setCell (.a w 1) (.l m (k+1) d)) (.l m (k+1) d) (gs++ [(n,v2,rs)]):=by
 have f:=u _ _ _ _ (bj h.st hb) zd;have e:bA (λt=>t=152\/t=117) w2 (w4.setCell (.a w 1) (.l m (k+1) d)):=λq cs t fr y h=>bA.set f (T:=λt=>t≠171) (λh=>h rfl) _ _ _ _ _ _ (u _ _ _ _ y (by grind)) (by grind);refine⟨heap_set f,?_,?_,λg j=>?_,p.setCell zf _⟩
 .rw[jN,acu];exact dy x f zd _ _
 .rw[hs,abZ,h.is,List.map_singleton,Gm.is,v]
 .rcases abr.1 j with j|j
  .exact⟨e.row (bH (h.jO g j).1 hb zf) (.inl rfl),λr o=>e.row (aU.below ((h.jO g j).2 r o) hb) (.inr rfl)⟩
  .obtain rfl:=abu.1 j;exact⟨e.row o (.inl rfl),λr s=>e.row (hv r s) (.inr rfl)⟩
theorem GM(b num kind Bn:Nat)(bm:Nat->Nat)(K:aL)(nv:ag)(ns:List Nat)(w:af)(h:aV w b bm num K)(hK:gi w bm K)(o:fi w Bn nv ns)(hk:kind<256)(hl:ns.length<=64)(I:∀n∈ns,n<64)(P:(Let.bS kind (dO w bm K ns)).bytes.size<=140737488355328):
  Calls aC.prog 139 #[.p b,.int .u8 kind,nv] w λe w'=>e=.r (.s (Let.bS kind (dO w bm K ns)).bytes)/\Below w w w':=by
 have y:=hK.2;obtain⟨i0,aT,a6,a7,a8⟩:=aaY aC.Ev;obtain⟨ad,cap,rfl,b0,b7⟩:=lh o;have Q:=h.1.lt;have R:(dO w bm K ns).length=ns.length:=abe ..;have E:Hid (∀n,n<64->∀W,Below w w W->Calls aC.prog 72 #[.map (some (bm n))] W λe w'=>∃v rs,e=.r v/\fD w' W v rs/\(∀r∈rs,aU w' r.sv r.l)/\rs.map Rc.bP=iN K (dB w (bm n))/\Below W W w'):=λn o W hW=>by
  obtain⟨es,clock,J,e2,e3,e4,_⟩:=(h.below hW).2.1 n o;have bb:w.heap[bm n]?=some (.map es clock):=by rw[<-hW.block _ (h.2.1 n o).lt];exact J
  have bc:dB w (bm n)=es.toList:=by simp[dB,bb]
  have:=y n o;rw[bc]at this ⊢;exact JI (bm n) n K W es clock J e2 e3 e4 (by simp at this;omega)
 have F:Hid (∀n,n<64->∀W,Below w w W->W.cell? (.a b (n+1))=some (.map (some (bm n)))):=λn o W hW=>(h.below hW).1.bC o;have HN:=zu o;have S:=zu I;have bd:Hid (∀W lv gs,qc w w kind (dO w bm K ns) ns.length W lv gs->Calls aC.prog 181 #[.agg #[.int .u8 kind,lv]] W λe w'=>e=.r (.s (Let.bS kind (dO w bm K ns)).bytes)/\Below w w w'):=by
  intro W lv gs U;have J:gs.map Gm.is=dO w bm K ns:=by rw[U.is,<-R,abF]
  have e2:gs.length=ns.length:=by have:=congrArg List.length J;simpa[dO] using this
  have hm:∀g∈gs,∃n,n<64/\g.1=n/\g.2.2.map Rc.bP=iN K (dB w (bm n)):=λg V=>by
   have:g.is∈dO w bm K ns:=by rw[<-J];exact adq V
   obtain⟨n,o,e⟩:=aaW.1 this;exact⟨n,I n o,(congrArg Prod.fst e).symm,(congrArg Prod.snd e).symm⟩
  have:=VT w w kind lv gs W (by rw[e2];exact U.row) hk zo (λg V=>by
   obtain⟨n,o,h1,h2⟩:=hm g V;have hlen:g.2.2.length=(dB w (bm n)).length:=by have:=congrArg List.length h2;rw[Fq]at this;simpa using this
   have hf:=y n o;refine⟨zo,zo,(U.jO g V).1,λr hr=>⟨(U.jO g V).2 r hr,?_⟩⟩;have:r.bP∈iN K (dB w (bm n)):=by rw[<-h2];exact adq hr
   obtain⟨x,_,e⟩:=aaW.1 this;have e':r.l=(K (eG x)).2:=(congrArg (λt=>t.2.2) e).symm
   have:=(hK.1 (eG x)).2.1;rw[e'];omega) (by rw[J];exact P)
  rw[J]at this;exact this.mono λe w' ⟨he,hb⟩=>⟨he,bk U.bR hb⟩
 have X:Hid (∀k (h:k<ns.length),(dO w bm K ns).take (k+1)=(dO w bm K ns).take k++ [(ns[k],iN K (dB w (bm ns[k])))]):=λk h=>by
  rw[abE (by rw[R];exact h)];simp[dO]
 have Y:Hid (qc w w kind (dO w bm K ns) 0 (w.alloc (.cells #[.int .u8 kind,.slice none 0 0] 171)) (.slice none 0 0) []):=⟨By w _,abh _ _ _ _,rfl,zc,zj.alloc zf _⟩
 clear h o I y P hK;generalize dO w bm K ns=sg at*;go_enter aC.func139,aC.ntmps139;go_wp2;go_loopw [14] (λiv wr=>∃(k:Nat) (lv:ag) (gs:List Gm),k<=ns.length/\iv=.i k/\Hid (qc w w kind sg k wr lv gs)) (λiv _=>ns.length-(intOf iv).toNat)
 case atStart=>exact⟨0,_,_,zo,rfl,Y.out⟩
 case round=>
  obtain⟨k,lv,gs,b8,rfl,u⟩:=hrel;clear Y;have bn:=u.out.bR.size;obtain⟨cs,fs⟩:=aH u.out.st;have y0:=cs 0;have y1:=cs 1;clear cs fs;by_cases L:k<ns.length
  .obtain⟨g,b1,bo,bp,_,_,cc⟩:=sG HN.out (show 0<ns.length by omega);cases bo;have cn:wr.cell? (.a g k)=.i ns[k]:=(u.out.bR.cell (p:=(.a g k)) bp).trans (cc k _ zo (by rw[ada,abG L];rfl));have G:=S.out _ (IS L);have Z:=X.out k L;have H:=F.out ns[k] G wr u.out.bR;have br:Hid (Calls aC.prog 72 #[.map (some (bm ns[k]))] wr.drew λe w2=>∃j f d rs,e=.r (.slice j f d)/\fD w2 w (.slice j f d) rs/\(∀r∈rs,aU w2 r.sv r.l)/\rs.map Rc.bP=iN K (dB w (bm ns[k]))/\Below wr wr w2):=by
    refine(E.out ns[k] G wr.drew (u.out.bR.drew)).mono ?_;rintro e w2 ⟨v,rs,rfl,h1,h2,h3,h4⟩;obtain⟨j,d,rfl⟩:=dS h1;exact⟨j,_,d,rs,rfl,bU h1 bn,h2,h3,bk zj.drew h4⟩
   have ab:=zu Z;clear Z cc E F S X;generalize iN K (dB w (bm ns[k]))=ro at*;generalize b9:ns[k]=n at*;obtain⟨M,z,rfl⟩:=dS u.out.row;have a1:(k:Int)<(ns.length:Int):=zo;have a0:(0:Int)<=(k:Int):=zo;have m0:(0:Int)<=(n:Int):=zo;have m1:(n:Int)<64:=zo;have A:wr.cell? (.a b (1+n))=some (.map (some (bm n))):=by rw[acV];exact H
   clear H;have bs:wr.cell? (.a w 1)=some (.slice M k z):=y1;clear y1;go_upto_region 5 with fail;have ca:b≠w:=zo;go_region_law (first
    |(refine step_append_lies _ rfl _ _ _ rfl w 220 i0 _ 2 32 aC.underlying169 aT a6 a7 a8 rfl zo (.slice M k z) _ _ rfl B.out (.a w2 0) 1 1 [.i n,.slice j f d] rfl rfl (aaT (By w2 _)) zv zo ze zo (by have:=N.out.size;simp<;>omega) (w2.heap.size+1) zp ?_;intro g4 b2 w4 C D b3 b4;have bx:=zu C;have O:bA (λt=>t≠220) w2 w4:=(bA.below (zj.alloc zf _)).trans (bA.grown D B.out (λh=>h rfl));have bB:=zu O;have an:=O _ _ _ _ (bj u.out.st N.out) zd;obtain⟨ao,aq⟩:=aH an;have cb:=ao 1;have cd:=aq 1;have ar:=zu (Below.grown av.out D av.out.size (λq hq=>mF B.out hq));have s4:=(ar.out.cell (p:=(.a b (1+n))) Q).trans ((u.out.bR.cell (p:=(.a b (1+n))) Q).symm.trans A);clear ao aq an O C D)
    |(go_simp;go_at_call 72;refine AI br.out ?_;rintro e w2 ⟨j,f,d,rs,rfl,ay,az,aA,m⟩;have aB:=zu ay;have bL:=zu az;have bN:=zu aA;have N:=zu m;have bT:=zu (bH u.out.row m zf);have s2:=aX A m;have y2:=aX bs m;have b5:=(IN.1 (bj u.out.st m)).1;have b6:b<w2:=zo;have B:Hid ((w2.alloc (.cells #[.i n,.slice j f d] 220)).ownsRow w 220 2 (.slice M k z) k (jN gs)):=aaV bT.out _;have av:Hid (Below w w (w2.alloc (.cells #[.i n,.slice j f d] 220))):=(bk u.out.bR m).alloc (by have:=m.size;omega) _;clear ay az aA m))
   all_goals
    go_wp2;exact⟨⟨k+1,_,gs++ [(n,.slice j f d,rs)],zo,by go_num,qc.step u.out N.out aB.out bL.out bN.out bB.out bx.out ar.out ab.out⟩,zi⟩
  .obtain rfl:k=ns.length:=zo;have aE:=zu (bd.out wr lv gs u.out);go_wp2_with (go_at_call 181;refine AI aE.out ?_;rintro e w9 ⟨rfl,bZ⟩)
   go_ret;exact⟨rfl,bZ⟩
theorem JE(n i:Nat)(w:af)(a:n<=64)(hi:i<4):
  Calls aC.prog 179 #[.i n,.i i] w λe w'=>e=.r (.i ((n*4+i:Nat):Int))/\w'=w:=by
 have e:((n*4+i:Nat):Int)=(n:Int)*4+(i:Int):=zo;have d:(n:Int)*4<=256:=zo;have f:(n:Int)*4+(i:Int)<=260:=zo;have h:(0:Int)<=(n:Int)*4:=zo;have j:(0:Int)<=(n:Int)*4+(i:Int):=zo;rw[e];go_enter aC.func179,aC.ntmps179;go_wp2;go_ret;exact⟨rfl,rfl⟩
theorem zI{w:af}{num:Nat}(h:aV w b bm num K)(f:gi w bm K):∀lv n:Nat,lv<=3->n<4 ^ lv->∀W,Below w w W->Calls aC.prog 51 #[.p b,.i lv,.i n] W λe w'=>e=.r (.int .u64 (cC w bm K lv n))/\Below W W w':=λlv n hl d W a=>by
 have:=yE b num lv n bm K W (h.below a) (f.below h a) hl d;rw[uF h a hl d]at this;exact this
def kids(w:af)(bm:Nat->Nat)(K:aL)(lev n i:Nat):Int:=if i<4 then cC w bm K (lev+1) (n*4+i) else 0
def iC(w:af)(bm:Nat->Nat)(K:aL)(lev:Nat)(ns:List Nat):List Nd:=ns.map λn=>(n,kids w bm K lev n)
theorem vM{w:af}{num:Nat}(h:aV w b bm num K)(hb:Below w w W)(hl:lev<3){ns:List Nat}(a:∀n∈ns,n<4 ^ lev):iC W bm K lev ns=iC w bm K lev ns:=by
 refine aci λn d=>?_;congr 1;funext i;unfold kids
 have:=a n d;split
 .exact uF h hb zo zo
 .rfl
structure qz(w:af)(lev:Nat)(sg:List Nd)(k:Nat)(W:af)(lv:ag):Prop where
 st:W.heap[w.heap.size]?=.c #[.i lev,lv] 167
 row:W.ownsRow w 217 5 lv k (gJ (sg.take k))
 bR:Below w w W
structure vg(w:af)(lev:Nat)(sg:List Nd)(k:Nat)(lv:ag)(bn n i:Nat)(d:Nat->Int)(W:af):Prop where
 j:qz w lev sg k W lv
 nd:W.heap[bn]?=.c (jf n d i) 217
 iR:∀q,lv.ownBlock=some q->q<bn
 high:w<bn
theorem qz.below{w:af}{k:Nat}(h:qz w lev sg k W lv)(hb:Below W W W'):qz w lev sg k W' lv:=
 ⟨bj h.st hb,bH h.row hb zf,bk h.bR hb⟩
theorem vg.set{w:af}{k bn n i:Nat}{d:Nat->Int}(h:vg w lev sg k lv bn n i d W)(hb:Below W W W')(hi:i<4):W'.heap[bn]?=.c (jf n d i) 217/\vg w lev sg k lv bn n (i+1) d (W'.setCell (.a bn (1+i)) (.int .u64 (d i))):=by
 have hj:=h.j.below hb;have f:=bj h.nd hb;have hs:=heap_set (o:=1+i) (v:=.int .u64 (d i)) f;rw[Ja n d hi]at hs;have m:=h.high;refine⟨f,⟨?_,nh hj.row λq _ l=>aaS _ _ _ _ (λe=>?_),hj.bR.setCell (Nat.le_of_lt h.high) _⟩,hs,h.iR,h.high⟩
 .rw[aaS _ _ _ _ (by show _≠bn;omega)];exact hj.st
 .have:=h.iR q l;grind
theorem C4(b num lev Bn:Nat)(bm:Nat->Nat)(K:aL)(nv:ag)(ns:List Nat)(w:af)(h:aV w b bm num K)(hK:gi w bm K)(x:fi w Bn nv ns)(br:lev<3)(hl:ns.length<=64)(m:∀n∈ns,n<4 ^ lev):
  Calls aC.prog 137 #[.p b,.i lev,nv] w λe w'=>e=.r (.s (Let.nodes lev (iC w bm K lev ns)).bytes)/\Below w w w':=by
 obtain⟨i0,ar,av,ay,az⟩:=aaY aC.JG;obtain⟨ad,cap,rfl,bs,bN⟩:=lh x;have h4:=(mz (show lev<=3 by omega)).1;have H:(iC w bm K lev ns).length=ns.length:=abe ..;have HD:Hid (∀n∈ns,∀i:Nat,i<4->∀W,Below w w W->Calls aC.prog 51 #[.p b,.i ((lev:Int)+1),.i ((n*4+i:Nat):Int)] W λe w'=>e=.r (.int .u64 (cC w bm K (lev+1) (n*4+i)))/\Below W W w'):=λn x i hi W hW=>by
  have h1:=m n x
  have:=zI h hK (lev+1) (n*4+i) zo (by rw[acR];omega) W hW;rw[show((lev+1:Nat):Int)=(lev:Int)+1 by omega]at this;exact this
 have HC:Hid _:=λn x i hi W=>by
  have h1:=m n x;exact JE n i W zo hi
 have HN:=zu x;have aA:=zu m;have aB:Hid (∀W lv,qz w lev (iC w bm K lev ns) ns.length W lv->Calls aC.prog 180 #[.agg #[.i lev,lv]] W λe w'=>e=.r (.s (Let.nodes lev (iC w bm K lev ns)).bytes)/\Below w w w'):=by
  intro W lv hJ;have hr:=hJ.row;rw[<-H,abF]at hr;refine(Wc w lev lv _ W hr zo zo (λg hg=>?_)).mono λe w' ⟨he,hb⟩=>⟨he,bk hJ.bR hb⟩
  obtain⟨n,x,rfl⟩:=aaW.1 hg
  have:=m n x;show n<256;omega
 have I:Hid (∀k (h:k<ns.length),(iC w bm K lev ns).take (k+1)=(iC w bm K lev ns).take k++ [(ns[k],kids w bm K lev ns[k])]):=λk h=>by
  rw[abE (by rw[H];exact h)];simp[iC]
 have J:Hid (qz w lev (iC w bm K lev ns) 0 (w.alloc (.cells #[.i lev,.slice none 0 0] 167)) (.slice none 0 0)):=⟨By w _,abh _ _ _ _,zj.alloc zf _⟩
 have v1:(lev:Int)+1<=3:=zo;clear h x m hK;generalize iC w bm K lev ns=sg at*;go_enter aC.func137,aC.ntmps137;go_wp2;go_loopw [16] (λC wr=>∃(k:Nat) (lv:ag),k<=ns.length/\C=.i k/\Hid (qz w lev sg k wr lv)) (λC _=>ns.length-(intOf C).toNat)
 case atStart=>exact⟨0,_,zo,rfl,J.out⟩
 case round=>
  obtain⟨k,lv,bT,rfl,A⟩:=hrel;clear J;have bZ:=A.out.bR.size;obtain⟨y,f,rfl⟩:=dS A.out.row;have L:=(IN.1 A.out.st).1;obtain⟨cs,fs⟩:=aH A.out.st;have y0:=cs 0;have y1:=cs 1;clear cs fs;by_cases D:k<ns.length
  .obtain⟨g,bx,aE,aT,_,_,cc⟩:=sG HN.out (show 0<ns.length by omega);cases aE;have cn:wr.cell? (.a g k)=.i ns[k]:=(A.out.bR.cell (p:=(.a g k)) aT).trans (cc k _ zo (by rw[ada,abG D];rfl));have o:=IS D;have M:Hid _:=I.out k D;have N:Hid _:=HD.out ns[k] o;have O:Hid _:=HC.out ns[k] o;clear cc HD HC aA I o;generalize b0:ns[k]=n at*;have P:=zu N.out;have a6:=zu O.out;have Q:=zu M.out;clear N O M;have a7:Hid _:=λi hi W hW=>by
    have:=P.out i hi W hW;rw[show cC w bm K (lev+1) (n*4+i)=kids w bm K lev n i by rw[kids,BY hi]]at this;exact this
   clear P;generalize kids w bm K lev n=d at*;have a1:(k:Int)<(ns.length:Int):=zo;have a0:(0:Int)<=(k:Int):=zo;have R:Hid (vg w lev sg k (.slice y k f) wr n 0 d (wr.alloc (.cells (jf n d 0) 217))):=⟨A.out.below (zj.alloc zf _),By wr _,λq hq=>pO A.out.row hq,L⟩
   go_wp2;generalize wr.heap.size=bn at*;go_loopw [22] (λC wq=>∃i:Nat,i<=4/\C=.i i/\Hid (vg w lev sg k (.slice y k f) bn n i d wq)) (λC _=>4-(intOf C).toNat)
   case atStart=>exact⟨0,zo,rfl,R.out⟩
   case round=>
    obtain⟨i,hi,rfl,B⟩:=hrel;clear R;by_cases z:i<4
    .have i1:(i:Int)<4:=zo;have b1:(0:Int)<=(i:Int):=zo;have a8:Hid _:=a7.out i z;have bb:Hid _:=a6.out i z;generalize ((n*4+i:Nat):Int)=ch at*;go_wp2_with (first
      |(go_at_call 179;refine(bb.out _).mono ?_;rintro e w' ⟨rfl,b2⟩;subst w')
      |(go_at_call 51;refine(a8.out _ B.out.j.bR).mono ?_;rintro e w2 ⟨rfl,S⟩;obtain⟨U,V⟩:=B.out.set S z;obtain⟨c2,f2⟩:=aH U;have cI:=(c2 (1+i)).trans (CA n d z);have fI:=f2 (1+i);clear c2 f2 U S;have bc:Hid _:=V;clear V))
     exact⟨⟨i+1,zo,by go_num,bc.out⟩,zi⟩
    .obtain rfl:i=4:=zo;obtain⟨cs,fs⟩:=aH B.out.j.st;obtain⟨b3,b4⟩:=aH B.out.nd;have b5:=cs 1;clear cs fs;have X:=B.out.j.bR.size;have E:Hid ((wr.alloc (.cells (jf n d 4) 217)).ownsRow w 217 5 (.slice y k f) k (gJ (sg.take k))):=aaV B.out.j.row _;have F:Hid (Below w w (wr.alloc (.cells (jf n d 4) 217))):=B.out.j.bR.alloc X _;go_wp2_with (at_builtin;refine abq _ rfl _ _ _ rfl w 217 i0 _ 5 40 aC.underlying165 ar av ay az rfl zo (.slice y k f) _ _ rfl E.out (.a wr 0) 1 1 _ rfl (by rfl) (aaT (By wr _)) zv zo ze zo F.out.size (wr.heap.size+1) zp ?_;intro g4 Y w4 u v bB bL;have bd:Hid _:=u;have Z:bA (λt=>t≠217) wr w4:=(bA.below (zj.alloc zf _)).trans (bA.grown v E.out (λh=>h rfl));have G:=Z _ _ _ _ B.out.j.st zd;have ab:Hid _:=G;obtain⟨an,ao⟩:=aH G;have b6:=an 1;have b7:=ao 1;have bo:Hid _:=Below.grown F.out v F.out.size (λq hq=>mF E.out hq);clear an ao G Z u v)
     have hp:∀j,j<4->gx d 4 j=d j:=λj hj=>by simp[gx,hj]
     refine⟨⟨k+1,_,zo,by go_num,heap_set ab.out,?_,bo.out.setCell zf _⟩,zi⟩;rw[Q.out,gJ,acu]
     have:=dy bd.out ab.out zd 1 (.l g4 (k+1) Y);simp only[jf,hp 0 zo,hp 1 zo,hp 2 zo,hp 3 zo]at this;exact this
  .obtain rfl:k=ns.length:=zo;have aq:Hid _:=aB.out wr _ A.out;go_wp2_with (go_at_call 180;refine AI aq.out ?_;rintro e w9 ⟨rfl,bp⟩)
   go_ret;exact⟨rfl,bp⟩
end Go.Proofs.YtldmcdeibiclkaaGreatQ
