/-
  Toward summed_holds: Contracts of the reference: node, below, Segment, Digest, Hello.
-/
import Derived.Test.YtldmcdeibiclkaaGreatC27
import Derived.Test.YtldmcdeibiclkaaGreatC26
import Derived.Test.YtldmcdeibiclkaaGreatC22
import Derived.Test.YtldmcdeibiclkaaGreatC24
import Derived.Test.YtldmcdeibiclkaaGreatC19
import Derived.Test.YtldmcdeibiclkaaGreatC25
import Derived.Test.YtldmcdeibiclkaaGreatC23
set_option linter.unusedVariables false
set_option linter.unusedSimpArgs false
set_option maxRecDepth 100000
set_option maxHeartbeats 20000000
namespace Go.Proofs.YtldmcdeibiclkaaGreatQ
variable {sv:Value}{l:List aC}{K:aB}
open Go.RowKit
section
structure nz(w:World)(rb:Nat)(T:Nat->ByteArray)(c:Nat->Nat):Prop where
 kZ:∀n:Nat,n<64->∀W,Below w.heap.size w W->Calls aa.prog 50 #[.pointer (some ⟨rb,0,none⟩),.int .i64 n] W λe w'=>e=.returned (.tuple #[.string (T n),.int .i64 (c n)])/\Below w.heap.size w w'
 small:∀n:Nat,n<64->(T n).size<=maxLen
section
variable {w:World}{rb:Nat}{T:Nat->ByteArray}{c:Nat->Nat}
theorem GM(lv n:Nat)(hl:lv<3)(hn:n<4 ^ lv)(H:∀m:Nat,m<4 ^ (lv+1)->∀W,Below w.heap.size w W->Calls aa.prog 53 #[.pointer (some ⟨rb,0,none⟩),.int .i64 (lv+1:Nat),.int .i64 m] W λe w'=>e=.returned (.int .u64 (dg T (3-(lv+1)) m))/\Below w.heap.size w w')(W:World)(hW:Below w.heap.size w W):
  Calls aa.prog 76 #[.pointer (some ⟨rb,0,none⟩),.int .i64 lv,.int .i64 n] W λe w'=>e=.returned (.string (dF (λj=>dg T (3-(lv+1)) (n*4+j)) 4))/\Below w.heap.size w w':=by
 obtain⟨d,hd⟩: ∃d:Nat->Int,d=λj=>dg T (3-(lv+1)) (n*4+j):=⟨_,rfl⟩
 have HN:Hid (∀j:Nat,j<4->∀W,Below w.heap.size w W->Calls aa.prog 53 #[.pointer (some ⟨rb,0,none⟩),.int .i64 ((lv:Int)+1),.int .i64 (4*(n:Int)+j)] W λe w'=>e=.returned (.int .u64 (d j))/\Below w.heap.size w w'):=λj hj W hW=>by
  have:=H (n*4+j) (by rw[Nat.pow_succ];omega) W hW;rw[hd];rw[show ((lv+1:Nat):Int)=(lv:Int)+1 by omega,show ((n*4+j:Nat):Int)=4*(n:Int)+j by omega]at this;exact this
 have HBy:Hid (∀(j:Nat) W,Calls aa.prog 55 #[.int .u64 (d j),.int .i64 8] W λe w'=>e=.returned (.string (gh (d j)))/\Below W.heap.size W w'):=λj W=>by
  have:=tT (d j) 8 W (by omega);rw[wy]at this;exact this
 have hp:=(tu (show lv<=3 by omega)).1;rw[<-hd];have hn64:(n:Int)<=64:=by omega
 have hl3:(lv:Int)<3:=by omega
 have HW:Hid (Below w.heap.size w W):=hW;clear H hW hd;go_enter aa.func76,aa.ntmps76;go_wp2;go_loopw [7,8] (λs i wr=>∃k:Nat,k<=4/\i=.int .i64 k/\s=.string (dF d k)/\Hid (Below w.heap.size w wr)) (λ_ i _=>4-(intOf i).toNat)
 case atStart=>exact⟨0,by omega,rfl,rfl,HW.out⟩
 case round=>
  obtain⟨k,hk,rfl,rfl,HB⟩:=hrel;by_cases hlt:k<4
  ·have k1:(k:Int)<4:=by omega
   have k0:(0:Int)<=(k:Int):=by omega
   have hsz:(dF d k).size=8*k:=oP d k;have HE:Hid (dF d (k+1)=dF d k++gh (d k)):=rfl;have hds:(gh (d k)).size=8:=tG _;have HNk:Hid _:=HN.out k hlt;have HBk:Hid _:=HBy.out k;generalize gh (d k)=db at*;generalize dF d k=st at*;generalize d k=dk at*;clear HN HBy;go_wp2_with (first
    |(go_at_call 53;refine BY (HNk.out _ HB.out) ?_;rintro e w1 ⟨rfl,hb1⟩;have HB1:Hid (Below w.heap.size w w1):=hb1;clear hb1)
    |(go_at_call 55;refine BY (HBk.out _) ?_;rintro e w2 ⟨rfl,hb2⟩;have HB2:Hid (Below w.heap.size w w2):=cI HB1.out hb2;clear hb2))
   exact⟨⟨k+1,by omega,by go_num,by rw[HE.out],HB2.out⟩,by simp[intOf];omega⟩
  ·obtain rfl:k=4:=by omega
   go_wp2;go_ret;exact⟨rfl,HB.out⟩
theorem PO(h:nz w rb T c)(n:Nat)(hn:n<64)(W:World)(hW:Below w.heap.size w W):
  Calls aa.prog 53 #[.pointer (some ⟨rb,0,none⟩),.int .i64 3,.int .i64 n] W λe w'=>e=.returned (.int .u64 (dg T 0 n))/\Below w.heap.size w w':=by
 have HS:Hid _:=h.kZ n hn W hW;have HM:Hid (∀W,Calls aa.prog 73 #[.string (T n)] W λe w'=>e=.returned (.int .u64 (dg T 0 n))/\w'=W):=λW=>uo (T n) W (h.small n hn);clear h hW;generalize dg T 0 n=D at*;go_enter aa.func53,aa.ntmps53;go_wp2_with (first
  |(go_at_call 50;refine BY HS.out ?_;rintro e w1 ⟨rfl,hb1⟩;have HB1:Hid (Below w.heap.size w w1):=hb1;clear hb1)
  |(go_at_call 73;refine BY (HM.out _) ?_;rintro e w2 ⟨rfl,hw2⟩;obtain rfl:=hw2.symm))
 go_ret;exact⟨rfl,HB1.out⟩
theorem Mc(lv n:Nat)(hl:lv<3)(W:World)(H:Calls aa.prog 76 #[.pointer (some ⟨rb,0,none⟩),.int .i64 lv,.int .i64 n] W λe w'=>e=.returned (.string (dF (λj=>dg T (3-(lv+1)) (n*4+j)) 4))/\Below w.heap.size w w'):
  Calls aa.prog 53 #[.pointer (some ⟨rb,0,none⟩),.int .i64 lv,.int .i64 n] W λe w'=>e=.returned (.int .u64 (dg T (3-lv) n))/\Below w.heap.size w w':=by
 have HM:Hid (∀W,Calls aa.prog 73 #[.string (dF (λj=>dg T (3-(lv+1)) (n*4+j)) 4)] W λe w'=>e=.returned (.int .u64 (dg T (3-lv) n))/\w'=W):=λW=>by
  have:=uo (dF (λj=>dg T (3-(lv+1)) (n*4+j)) 4) W (by rw[oP];decide);rw[show 3-lv=(3-(lv+1))+1 by omega,dg,fE];exact this
 have HH:Hid _:=H;generalize dg T (3-lv) n=D at*;generalize dF (λj=>dg T (3-(lv+1)) (n*4+j)) 4=st at*;have hl3: ¬(lv:Int)=3:=by omega
 clear H;go_enter aa.func53,aa.ntmps53;go_wp2_with (first
  |(go_at_call 76;refine BY HH.out ?_;rintro e w1 ⟨rfl,hb1⟩;have HB1:Hid (Below w.heap.size w w1):=hb1;clear hb1)
  |(go_at_call 73;refine BY (HM.out _) ?_;rintro e w2 ⟨rfl,hw2⟩;obtain rfl:=hw2.symm))
 go_ret;exact⟨rfl,HB1.out⟩
theorem tN(h:nz w rb T c):∀(k lv:Nat),lv+k=3->∀n:Nat,n<4 ^ lv->∀W,Below w.heap.size w W->Calls aa.prog 53 #[.pointer (some ⟨rb,0,none⟩),.int .i64 lv,.int .i64 n] W λe w'=>e=.returned (.int .u64 (dg T (3-lv) n))/\Below w.heap.size w w'
 |0,lv,e,n,hn,W,hW=>by
  obtain rfl:lv=3:=by omega
  exact PO h n hn W hW
 |k+1,lv,e,n,hn,W,hW=>Mc lv n (by omega) W (GM lv n (by omega) hn (λm hm W hW=>tN h k (lv+1) (by omega) m hm W hW) W hW)
theorem DU(h:nz w rb T c)(n:Nat)(hn:n<64)(W:World)(hW:Below w.heap.size w W):
  Calls aa.prog 20 #[.pointer (some ⟨rb,0,none⟩),.int .i64 n] W λe w'=>e=.returned (.tuple #[.string (T n),.int .i64 0])/\Below w.heap.size w w':=by
 have HS:Hid _:=h.kZ n hn W hW;have h1: ¬(63:Int)<(n:Int):=by omega
 have h2:decide ((n:Int)<0)=false:=by simp
 clear h hW hn;go_enter aa.func20,aa.ntmps20;go_wp2_with (go_at_call 50;refine BY HS.out ?_;rintro e w1 ⟨rfl,hb1⟩;have HB1:Hid (Below w.heap.size w w1):=hb1;clear hb1)
 go_ret2;exact⟨rfl,HB1.out⟩
theorem Ou(h:nz w rb T c)(W:World)(hW:Below w.heap.size w W):
  Calls aa.prog 24 #[.pointer (some ⟨rb,0,none⟩)] W λe w'=>e=.returned (.string (dz 82++gh (dg T 3 0)))/\Below w.heap.size w w':=by
 have HN:Hid (Calls aa.prog 53 #[.pointer (some ⟨rb,0,none⟩),.int .i64 0,.int .i64 0] W λe w'=>e=.returned (.int .u64 (dg T 3 0))/\Below w.heap.size w w'):=tN h 3 0 rfl 0 (by decide) W hW;have HBy:Hid (∀W,Calls aa.prog 55 #[.int .u64 (dg T 3 0),.int .i64 8] W λe w'=>e=.returned (.string (gh (dg T 3 0)))/\Below W.heap.size W w'):=λW=>by
  have:=tT (dg T 3 0) 8 W (by omega);rw[wy]at this;exact this
 have hds:(gh (dg T 3 0)).size=8:=tG _;generalize gh (dg T 3 0)=db at*;generalize dg T 3 0=D at*;clear h hW;go_enter aa.func24,aa.ntmps24;go_wp2_with (first
  |(go_at_call 53;refine BY HN.out ?_;rintro e w1 ⟨rfl,hb1⟩;have HB1:Hid (Below w.heap.size w w1):=hb1;clear hb1)
  |(go_at_call 55;refine BY (HBy.out _) ?_;rintro e w2 ⟨rfl,hb2⟩;have HB2:Hid (Below w.heap.size w w2):=cI HB1.out hb2;clear hb2))
 go_ret;exact⟨rfl,HB2.out⟩
end
end
theorem Bb{w:World}{rb num:Nat}(h:bK w rb num sv l K)(n:Nat):kQ K n ((l.filter λq=>decide (aI q.1=n)).map λq=>q.1.data.toList):=by
 refine⟨?_,λx=>⟨λhx=>?_,λ⟨h1,h2⟩=>?_⟩⟩
 ·refine List.pairwise_map.2 ((List.Pairwise.filter _ h.sorted).imp λ{a b} hab=>?_)
  have:=lM.1 hab;rwa [Go.Lib.toList_data,Go.Lib.toList_data]at this
 ·obtain⟨q,hq,rfl⟩:=Rj.1 hx;obtain⟨h1,h2⟩:=List.mem_filter.1 hq;rw[pZ];exact⟨by simpa using h2,(h.mem_iff q.1).1 ⟨q,h1,rfl⟩⟩
 ·obtain⟨q,hq,e⟩:=(h.mem_iff (da x)).2 h2;refine Rj.2 ⟨q,List.mem_filter.2 ⟨hq,by rw[e];exact decide_eq_true h1⟩,?_⟩;rw[e];simp[da]
theorem vp{w:World}{rb num:Nat}(h:bK w rb num sv l K)(n:Nat):cJ K n l=kV K n:=by
 rw[kV,qk (Bb h n),List.map_map,cJ];refine List.map_congr_left λq _=>?_;simp only[Function.comp_apply,pZ]
theorem bH.names{w:World}{g:PG}(h:bH w g):te g.l:=λq hq=>by
 have hk:=(h.dW.mem_iff q.1).1 ⟨q,hq,rfl⟩;have hs:=h.rep.2.1 (aI q.1) (gR _);have he:=(A7 hs rfl).2 hk;obtain⟨es,clock,e1,e2,e3,e4,e5⟩:=hs;have hes:eV w (g.bm (aI q.1))=es.toList:=by simp[eV,e1]
 rw[hes]at he;exact jX (uJ he λe he=>e4.2.2.2 e he).2.2
theorem pgD:∀(M:Nat) (l:List Nat),l.Nodup->(∀x∈l,x<M)->l.length<=M
 |0,l,_,h=>by
  cases l with
  |nil=>exact Nat.le_refl _
  |cons x r=>exact absurd (h x (by simp)) (by omega)
 |M+1,l,hn,h=>by
  have h1:=pgD M (l.erase M) (hn.erase M) λx hx=>by
   have h2:=hn.mem_erase_iff.1 hx;have h3:=h x h2.2;omega
  by_cases hm:M∈l
  ·have h4:=List.length_erase_of_mem hm;omega
  ·rw[List.erase_of_not_mem hm]at h1;omega
def pgN:List UInt8->Nat
 |[]=>0
 |b::r=>(b.toNat-96)+27*pgN r
theorem pgI:∀(a b:List UInt8),(∀x∈a,97<=x.toNat/\x.toNat<=122)->(∀x∈b,97<=x.toNat/\x.toNat<=122)->pgN a=pgN b->a=b
 |[],[],_,_,_=>rfl
 |[],c::s,_,hb,e=>by have:=hb c (by simp);simp only[pgN]at e;omega
 |c::s,[],ha,_,e=>by have:=ha c (by simp);simp only[pgN]at e;omega
 |c::s,d::t,ha,hb,e=>by
  have h1:=ha c (by simp);have h2:=hb d (by simp);simp only[pgN]at e
  have h3:c.toNat=d.toNat:=by omega
  have h4:=pgI s t (λx hx=>ha x (by simp[hx])) (λx hx=>hb x (by simp[hx])) (by omega)
  rw[h4,UInt8.toNat_inj.1 h3]
theorem pgL:∀(k:Nat) (a:List UInt8),(∀x∈a,97<=x.toNat/\x.toNat<=122)->a.length<=k->pgN a<27 ^ k
 |0,a,_,h=>by
  cases a with
  |nil=>simp[pgN]
  |cons x r=>simp at h
 |k+1,a,ha,h=>by
  cases a with
  |nil=>exact Nat.pow_pos (by omega)
  |cons x r=>
   have h1:=pgL k r (λy hy=>ha y (by simp[hy])) (by simpa using h);have h2:=ha x (by simp);simp only[pgN,Nat.pow_succ];omega
theorem pgP(L:List (List UInt8))(hs:L.Pairwise λa b=>a<b)(hk:∀a∈L,a.length<=8/\∀x∈a,97<=x.toNat/\x.toNat<=122):L.length<=282429536481:=by
 have h1:=pgD 282429536481 (L.map pgN) (List.pairwise_map.2 (hs.imp_of_mem λ{a b} ha hb hab e=>by
  have e1:=pgI a b (hk a ha).2 (hk b hb).2 e;subst e1;exact List.lt_irrefl a hab)) (λx hx=>by
  obtain⟨a,ha,rfl⟩:=List.mem_map.1 hx;exact pgL 8 a (hk a ha).2 (hk a ha).1)
 rwa [List.length_map]at h1
theorem bH.few{w:World}{g:PG}(h:bH w g):g.l.length<=282429536481:=by
 have hk:∀q∈g.l,aK q.1=true:=λq hq=>by
  have hk:=(h.dW.mem_iff q.1).1 ⟨q,hq,rfl⟩;have hs:=h.rep.2.1 (aI q.1) (gR _);have he:=(A7 hs rfl).2 hk;obtain⟨es,clock,e1,e2,e3,e4,e5⟩:=hs;have hes:eV w (g.bm (aI q.1))=es.toList:=by simp[eV,e1]
  rw[hes]at he;exact (uJ he λe he=>e4.2.2.2 e he).2.2
 have h1:=pgP (g.l.map λq=>q.1.data.toList) (List.pairwise_map.2 (h.dW.sorted.imp λ{a b} hab=>by
  have:=lM.1 hab;rwa [Go.Lib.toList_data,Go.Lib.toList_data]at this)) (λa ha=>by
  obtain⟨q,hq,rfl⟩:=List.mem_map.1 ha;have h2:=hk q hq;have h3:=jX h2;simp only[aK,Bool.and_eq_true]at h2;exact⟨h3,λx hx=>of_decide_eq_true (List.all_eq_true.1 h2.2 x hx)⟩)
 rwa [List.length_map]at h1
theorem bH.uc{w:World}{g:PG}(h:bH w g)(hl:g.l.length<=282429536481):gX w g.bm g.K:=by
 refine⟨h.inv.ok,λn hn=>?_⟩;have h1:=qk (h.rep.2.1 n hn).names;rw[qk (Bb h.dW n)]at h1;have h2:=congrArg List.length h1;rw[(lY _).length_eq,cP,Rb,Rb]at h2
 have:=Q4 (λq:aC=>decide (aI q.1=n)) g.l;omega
theorem bH.tn{w:World}{g:PG}(h:bH w g)(hl:g.l.length<=282429536481):nz w g.rb (oQ g.K) λn=>(kV g.K n).length where
 kZ n hn W hW:=by
  have:=Gc g.rb g.num n g.sv g.l g.K W (h.below hW).dW h.inv (λs=>(h.inv s).pos) h.names (by omega) hn;rw[vp h.dW]at this;exact this.mono λe w' ⟨he,hb⟩=>⟨he,cI hW hb⟩
 small n hn:=by
  have:=zd h.inv h.names n;rw[vp h.dW]at this;unfold maxLen;show (dS (kV g.K n)).size<=_;omega
section
theorem LO(l n:Int)(h:l<0\/3<l\/n<0)(w:World):Calls aa.prog 48 #[.int .i64 l,.int .i64 n] w λe w'=>e=.returned (.bool false)/\w'=w:=by
 by_cases h1:l<0
 ·have e1:decide (0<=l)=false:=by simpa using h1
  go_enter aa.func48,aa.ntmps48;go_wp2;go_ret;exact⟨rfl,rfl⟩
 ·have e1:0<=l:=by omega
  by_cases h2:3<l
  ·have e2:decide (l<=3)=false:=by simpa using h2
   go_enter aa.func48,aa.ntmps48;go_wp2;go_ret;exact⟨rfl,rfl⟩
  ·have e2:l<=3:=by omega
   have e3:decide (0<=n)=false:=by simp;omega
   go_enter aa.func48,aa.ntmps48;go_wp2;go_ret;exact⟨rfl,rfl⟩
theorem Ap(l n:Int)(w:World):Calls aa.prog 48 #[.int .i64 l,.int .i64 n] w λe w'=>e=.returned (.bool (decide ((0<=l/\l<=3)/\0<=n/\n<(4 ^ l.toNat:Nat))))/\w'=w:=by
 by_cases h:l<0\/3<l\/n<0
 ·rw[Rs (by omega)];exact LO l n h w
 ·have:=ur l.toNat n.toNat (by omega) w;rw[show ((l.toNat:Nat):Int)=l by omega,show ((n.toNat:Nat):Int)=n by omega]at this;have e:decide (l.toNat<=3/\n.toNat<4 ^ l.toNat)=decide ((0<=l/\l<=3)/\0<=n/\n<(4 ^ l.toNat:Nat)):=by
   refine decide_eq_decide.2 ?_;generalize 4 ^ l.toNat=p;omega
  rw[<-e];exact this
noncomputable def j8(K:aB)(n:Int):Value:=if 0<=n/\n<64 then .tuple #[.string (oQ K n.toNat),.int .i64 0] else .tuple #[.string ⟨#[]⟩,.int .i64 7]
theorem Pe(b:Nat)(n:Int)(h: ¬(0<=n/\n<64))(w:World):Calls aa.prog 19 #[.pointer (some ⟨b,0,none⟩),.int .i64 n] w λe w'=>e=.returned (.tuple #[.string ⟨#[]⟩,.int .i64 7])/\w'=w:=by
 have HH:Hid (∀W,Calls aa.prog 48 #[.int .i64 3,.int .i64 n] W λe w'=>e=.returned (.bool false)/\w'=W):=λW=>by
  have:=Ap 3 n W;rwa [Rs (λq=>h ⟨q.2.1,q.2.2⟩)]at this
 clear h;go_enter aa.func19,aa.ntmps19;go_wp2_with (go_at_call 48;refine BY (HH.out _) ?_;rintro e w0 ⟨rfl,hw0⟩;obtain rfl:=hw0.symm)
 go_ret2;exact⟨rfl,rfl⟩
theorem Cx(rb:Nat)(n:Int)(h: ¬(0<=n/\n<64))(w:World):Calls aa.prog 20 #[.pointer (some ⟨rb,0,none⟩),.int .i64 n] w λe w'=>e=.returned (.tuple #[.string ⟨#[]⟩,.int .i64 7])/\w'=w:=by
 by_cases h1:n<0
 ·go_enter aa.func20,aa.ntmps20;go_wp2;go_ret2;exact⟨rfl,rfl⟩
 ·have e1:decide (n<0)=false:=by simpa using h1
  have e2:63<n:=by omega
  clear h h1;go_enter aa.func20,aa.ntmps20;go_wp2;go_ret2;exact⟨rfl,rfl⟩
section
variable {w:World}{g:PG}
theorem bH.OW(h:bH w g)(hl:g.l.length<=282429536481)(n:Int)(W:World)(hW:Below w.heap.size w W):Calls aa.prog 19 #[.pointer (some ⟨g.b,0,none⟩),.int .i64 n] W λe w'=>e=.returned (j8 g.K n)/\Below w.heap.size w w':=by
 unfold j8;by_cases hn:0<=n/\n<64
 ·rw[IN hn];have hp:=h.below hW
  have:=Mp g.b g.num n.toNat g.bm g.K W hp.rep (hp.uc hl) (by omega);rw[show ((n.toNat:Nat):Int)=n by omega,hp.rep.text (by omega)]at this;exact this.mono λe w' ⟨he,hb⟩=>⟨he,cI hW hb⟩
 ·rw[By hn];exact (Pe g.b n hn W).mono λe w' ⟨he,hw⟩=>⟨he,hw▸hW⟩
theorem bH.EL(h:bH w g)(hl:g.l.length<=282429536481)(n:Int)(W:World)(hW:Below w.heap.size w W):Calls aa.prog 20 #[.pointer (some ⟨g.rb,0,none⟩),.int .i64 n] W λe w'=>e=.returned (j8 g.K n)/\Below w.heap.size w w':=by
 unfold j8;by_cases hn:0<=n/\n<64
 ·rw[IN hn]
  have:=DU (h.tn hl) n.toNat (by omega) W hW;rwa [show ((n.toNat:Nat):Int)=n by omega]at this
 ·rw[By hn];exact (Cx g.rb n hn W).mono λe w' ⟨he,hw⟩=>⟨he,hw▸hW⟩
end
noncomputable def kO(K:aB)(l n:Int):Value:=if (0<=l/\l<=3)/\0<=n/\n<(4 ^ l.toNat:Nat) then .tuple #[.int .u64 (lU K l.toNat n.toNat),.int .i64 0] else .tuple #[.int .u64 0,.int .i64 7]
theorem Ff(b:Nat)(l n:Int)(h: ¬((0<=l/\l<=3)/\0<=n/\n<(4 ^ l.toNat:Nat)))(w:World):Calls aa.prog 21 #[.pointer (some ⟨b,0,none⟩),.int .i64 l,.int .i64 n] w λe w'=>e=.returned (.tuple #[.int .u64 0,.int .i64 7])/\w'=w:=by
 have HH:Hid (∀W,Calls aa.prog 48 #[.int .i64 l,.int .i64 n] W λe w'=>e=.returned (.bool false)/\w'=W):=λW=>by
  have:=Ap l n W;rwa [Rs h]at this
 clear h;go_enter aa.func21,aa.ntmps21;go_wp2_with (go_at_call 48;refine BY (HH.out _) ?_;rintro e w0 ⟨rfl,hw0⟩;obtain rfl:=hw0.symm)
 go_ret2;exact⟨rfl,rfl⟩
theorem NH(rb:Nat)(l n:Int)(h: ¬((0<=l/\l<=3)/\0<=n/\n<(4 ^ l.toNat:Nat)))(w:World):Calls aa.prog 22 #[.pointer (some ⟨rb,0,none⟩),.int .i64 l,.int .i64 n] w λe w'=>e=.returned (.tuple #[.int .u64 0,.int .i64 7])/\w'=w:=by
 by_cases h1:l<0
 ·go_enter aa.func22,aa.ntmps22;go_wp2;go_ret2;exact⟨rfl,rfl⟩
 ·have e1:decide (l<0)=false:=by simpa using h1
  by_cases h2:3<l
  ·clear h h1;go_enter aa.func22,aa.ntmps22;go_wp2;go_ret2;exact⟨rfl,rfl⟩
  ·have e2:decide (3<l)=false:=by simpa using h2
   by_cases h3:n<0
   ·clear h h1 h2;go_enter aa.func22,aa.ntmps22;go_wp2;go_ret2;exact⟨rfl,rfl⟩
   ·have e3:decide (n<0)=false:=by simpa using h3
    have HW:Hid (∀W,Calls aa.prog 52 #[.int .i64 l] W λe w'=>e=.returned (.int .i64 (4 ^ l.toNat:Nat))/\w'=W):=λW=>by
     have:=xj l.toNat W (by omega);rwa [show ((l.toNat:Nat):Int)=l by omega]at this
    have e4:((4 ^ l.toNat:Nat):Int)<=n:=by
     refine Rm λq=>h ⟨by omega,by omega,by omega⟩
    generalize 4 ^ l.toNat=p at*;clear h h1 h2 h3;go_enter aa.func22,aa.ntmps22;go_wp2_with (go_at_call 52;refine BY (HW.out _) ?_;rintro e w0 ⟨rfl,hw0⟩;obtain rfl:=hw0.symm)
    go_ret2;exact⟨rfl,rfl⟩
theorem KS{w:World}{rb:Nat}{T:Nat->ByteArray}{c:Nat->Nat}(h:nz w rb T c)(l n:Nat)(hl:l<=3)(hn:n<4 ^ l)(W:World)(hW:Below w.heap.size w W):Calls aa.prog 22 #[.pointer (some ⟨rb,0,none⟩),.int .i64 l,.int .i64 n] W λe w'=>e=.returned (.tuple #[.int .u64 (dg T (3-l) n),.int .i64 0])/\Below w.heap.size w w':=by
 have HN:Hid _:=tN h (3-l) l (by omega) n hn W hW;have HW:Hid (∀W,Calls aa.prog 52 #[.int .i64 l] W λe w'=>e=.returned (.int .i64 (4 ^ l:Nat))/\w'=W):=λW=>xj l W hl;have e1:decide ((l:Int)<0)=false:=by simp
 have e2:decide (3<(l:Int))=false:=by simp;omega
 have e3:decide ((n:Int)<0)=false:=by simp
 generalize 4 ^ l=p at*;have e4: ¬(p:Int)<=(n:Int):=by omega
 generalize dg T (3-l) n=D at*;clear h hW hn hl;go_enter aa.func22,aa.ntmps22;go_wp2_with (first
  |(go_at_call 52;refine BY (HW.out _) ?_;rintro e w0 ⟨rfl,hw0⟩;obtain rfl:=hw0.symm)
  |(go_at_call 53;refine BY HN.out ?_;rintro e w1 ⟨rfl,hb1⟩;have HB1:Hid (Below w.heap.size w w1):=hb1;clear hb1))
 go_ret2;exact⟨rfl,HB1.out⟩
section
variable {w:World}{g:PG}
theorem bH.Qo(h:bH w g)(hl:g.l.length<=282429536481)(l n:Int)(W:World)(hW:Below w.heap.size w W):Calls aa.prog 21 #[.pointer (some ⟨g.b,0,none⟩),.int .i64 l,.int .i64 n] W λe w'=>e=.returned (kO g.K l n)/\Below w.heap.size w w':=by
 unfold kO;by_cases hn:(0<=l/\l<=3)/\0<=n/\n<(4 ^ l.toNat:Nat)
 ·rw[IN hn];have hp:=h.below hW
  have:=P9 g.b g.num l.toNat n.toNat g.bm g.K W hp.rep (hp.uc hl) (by omega) (by omega);rw[show ((l.toNat:Nat):Int)=l by omega,show ((n.toNat:Nat):Int)=n by omega,hp.rep.zX (by omega) (by omega)]at this;exact this.mono λe w' ⟨he,hb⟩=>⟨he,cI hW hb⟩
 ·rw[By hn];exact (Ff g.b l n hn W).mono λe w' ⟨he,hw⟩=>⟨he,hw▸hW⟩
theorem bH.Mg(h:bH w g)(hl:g.l.length<=282429536481)(l n:Int)(W:World)(hW:Below w.heap.size w W):Calls aa.prog 22 #[.pointer (some ⟨g.rb,0,none⟩),.int .i64 l,.int .i64 n] W λe w'=>e=.returned (kO g.K l n)/\Below w.heap.size w w':=by
 unfold kO;by_cases hn:(0<=l/\l<=3)/\0<=n/\n<(4 ^ l.toNat:Nat)
 ·rw[IN hn]
  have:=KS (h.tn hl) l.toNat n.toNat (by omega) (by omega) W hW;rwa [show ((l.toNat:Nat):Int)=l by omega,show ((n.toNat:Nat):Int)=n by omega]at this
 ·rw[By hn];exact (NH g.rb l n hn W).mono λe w' ⟨he,hw⟩=>⟨he,hw▸hW⟩
theorem bH.El(h:bH w g)(hl:g.l.length<=282429536481)(W:World)(hW:Below w.heap.size w W):Calls aa.prog 23 #[.pointer (some ⟨g.b,0,none⟩)] W λe w'=>e=.returned (.string (kU (lU g.K 0 0)))/\Below w.heap.size w w':=by
 have hp:=h.below hW
 have:=Cd g.b g.num g.bm g.K W hp.rep (hp.uc hl);rw[hp.rep.zX (by omega) (by decide)]at this;exact this.mono λe w' ⟨he,hb⟩=>⟨he,cI hW hb⟩
theorem bH.M8(h:bH w g)(hl:g.l.length<=282429536481)(W:World)(hW:Below w.heap.size w W):Calls aa.prog 24 #[.pointer (some ⟨g.rb,0,none⟩)] W λe w'=>e=.returned (.string (kU (lU g.K 0 0)))/\Below w.heap.size w w':=
 Ou (h.tn hl) W hW
end
end
theorem EE(wb:Nat)(pv le hv:Value)(gs:List PG)(hs:List Nat)(o:bU)(w:World)(h:bu w wb pv le hv gs hs)(h0:0<gs.length)(hlen:gs.length<=4000000000000)(hm1: -9223372036854775808<=o.m)(hm2:o.m<=9223372036854775807)(hk:o.kind=6)(hl:∀g∈gs,g.l.length<=282429536481):
  Calls aa.prog 9 #[.pointer (some ⟨wb,0,none⟩),.agg (bq o)] w λe w'=>e=.returned (.bool true)/\Below w.heap.size w w':=by
 have aF:=h.fJ;obtain⟨ad,cap,rfl,hcap,hlc⟩:=aZ aF;have c0:w.cell? ⟨wb,0,none⟩=some (.slice ad gs.length cap):=(aj h.blk).1 0;obtain⟨q,p,hq,hq1,hq2,hpe,hpe',hpl⟩:=j5 o.m gs.length h0;obtain⟨g,cap',hsv,_,_,hg,hcells⟩:=cU aF h0;cases hsv;obtain⟨f0,f1⟩:=jC gs p hpl;have p0:=hcells _ _ (by omega) f0;have p1:=hcells _ _ (by omega) f1;have hwb:wb<w.heap.size:=(Array.getElem?_eq_some_iff.1 h.blk).1;have HP:Hid (∀W,Below w.heap.size w W->Calls aa.prog 19 #[.pointer (some ⟨gs[p].b,0,none⟩),.int .i64 o.a] W λe w'=>e=.returned (j8 gs[p].K o.a)/\Below W.heap.size W w'):=λW hW=>((h.bL _ (OF hpl)).below hW).OW (hl _ (OF hpl)) o.a W (AT _ _);have HF:Hid (∀W,Below w.heap.size w W->Calls aa.prog 20 #[.pointer (some ⟨gs[p].rb,0,none⟩),.int .i64 o.a] W λe w'=>e=.returned (j8 gs[p].K o.a)/\Below W.heap.size W w'):=λW hW=>((h.bL _ (OF hpl)).below hW).EL (hl _ (OF hpl)) o.a W (AT _ _);obtain⟨sb,se,hsr⟩: ∃sb se,j8 gs[p].K o.a=.tuple #[.string sb,.int .i64 se]:=by
  unfold j8;split
  ·exact⟨_,_,rfl⟩
  ·exact⟨_,_,rfl⟩
 rw[hsr]at HP HF;clear hsr;generalize gs[p]=gp at*;generalize gp.b=pb at*;generalize gp.rb=prb at*;have i0:(0:Int)<=(p:Int):=by omega
 have i1:(p:Int)<(gs.length:Int):=by omega
 have n1:(0:Int)<(gs.length:Int):=by omega
 clear h aF hcells f0 f1;generalize gs.length=gl at*;have n2: ¬gl=0:=by omega
 have n3: ¬(gl:Int)=0:=by omega
 have n4:((gl:Int)==0)=false:=by simpa using n2
 have w1:IntKind.i64.wrap (q+(gl:Int))=q+gl:=QI (by omega) (by omega);have w2:IntKind.i64.wrap q=q:=QI (by omega) (by omega);have w3:IntKind.i64.wrap (p:Int)=p:=QI (by omega) (by omega);have hpq:q%(gl:Int)=p:=by rw[<-hpe',RF]
 obtain⟨kind,m,a,ob,s,t,c⟩:=o;have k1:(kind==1)=false:=beq_eq_false_iff_ne.2 (by have:kind=6:=hk;omega);have k2:(kind==2)=false:=beq_eq_false_iff_ne.2 (by have:kind=6:=hk;omega);have k3:(kind==3)=false:=beq_eq_false_iff_ne.2 (by have:kind=6:=hk;omega);have k4:(kind==4)=false:=beq_eq_false_iff_ne.2 (by have:kind=6:=hk;omega);have k5:(kind==5)=false:=beq_eq_false_iff_ne.2 (by have:kind=6:=hk;omega);have k6:(kind==6)=true:=Rw.2 hk;clear hk;simp only[bq] at*;go_enter aa.func9,aa.ntmps9;go_upto_region 4 with fail;obtain⟨W0,hW0⟩: ∃W,W=w.alloc (.cells #[.int .i64 kind,.int .i64 m,.int .i64 a,.int .i64 ob,.string s,.string t,.int .i64 (c 0),.int .i64 (c 1),.int .i64 (c 2),.int .i64 (c 3)] 36):=⟨_,rfl⟩
 rw[<-hW0];have HB0:Hid (Below w.heap.size w W0):=(by rw[hW0];exact (AT _ _).alloc (AI _) _)
 have z0:W0.heap.size=w.heap.size+1:=by rw[hW0];simp
 have HOp:Hid (W0.heap[w.heap.size]?=some (.cells #[.int .i64 kind,.int .i64 m,.int .i64 a,.int .i64 ob,.string s,.string t,.int .i64 (c 0),.int .i64 (c 1),.int .i64 (c 2),.int .i64 (c 3)] 36)):=(by rw[hW0];exact IS w _)
 have y1:W0.cell? ⟨w.heap.size,1,none⟩=some (.int .i64 m):=(aj HOp.out).1 1;have b0:=aD c0 HB0.out;have b1:=aD p0 HB0.out;have b2:=aD p1 HB0.out;have hmk:Hid (∀w',Below W0.heap.size W0 w'->w'.cell? ⟨wb,0,none⟩=some (.slice (some ⟨g,0,none⟩) gl cap)/\w'.cell? ⟨g,p*2,none⟩=some (.pointer (some ⟨pb,0,none⟩))/\w'.cell? ⟨g,p*2+1,none⟩=some (.pointer (some ⟨prb,0,none⟩))/\w'.cell? ⟨w.heap.size,1,none⟩=some (.int .i64 m)):=λw' hw=>⟨aD b0 hw,aD b1 hw,aD b2 hw,aD y1 hw⟩
 clear hW0 c0 p0 p1 b0 b1 b2 y1;go_region_held3 (λw'=>w'.cell? ⟨wb,0,none⟩=some (.slice (some ⟨g,0,none⟩) gl cap)/\w'.cell? ⟨g,p*2,none⟩=some (.pointer (some ⟨pb,0,none⟩))/\w'.cell? ⟨g,p*2+1,none⟩=some (.pointer (some ⟨prb,0,none⟩))/\w'.cell? ⟨w.heap.size,1,none⟩=some (.int .i64 m))
  ((refine hmk.out _ ?_;simp (maxDischargeDepth:=12) [AT,Qy,Qz,QE];done))
  (fail)
 all_goals
  clear hpe hpe' hpq w1 w2 w3 n4;try rw[z0]
  obtain⟨W2,hW2⟩: ∃W,W=(W0.alloc (.cells #[.pointer (some ⟨pb,0,none⟩),.pointer (some ⟨prb,0,none⟩)] 47)).drew:=⟨_,rfl⟩
  rw[<-hW2];have HB2:Hid (Below w.heap.size w W2):=(by rw[hW2];exact (HB0.out.alloc (by omega) _).drew)
  have HX2:Hid (dE W2 w.heap.size (w.heap.size+1) ⟨kind,m,a,ob,s,t,c⟩ pb prb):=(by
   rw[hW2];refine⟨(Qx W0 _ _ (by omega)).trans HOp.out,?_⟩;rw[<-z0];exact IS W0 _)
  have z2:W2.heap.size=w.heap.size+2:=by rw[hW2];simp;omega
  obtain⟨x0,x1,x2,x3,x4,x5,x6,x7,x8,x9,y0,y1⟩:=HX2.out.cells;clear hW2 hmk z0 HOp HB0;go_wp2_with (first
   |(go_at_call 19;refine BY (HP.out _ HB2.out) ?_;rintro e w3 ⟨rfl,hb3⟩;have HB3:Hid (Below w.heap.size w w3):=cI HB2.out hb3;have HX3:Hid (dE w3 w.heap.size (w.heap.size+1) ⟨kind,m,a,ob,s,t,c⟩ pb prb):=HX2.out.below hb3;obtain⟨x0',x1',x2',x3',x4',x5',x6',x7',x8',x9',y0',y1'⟩:=HX3.out.cells;clear hb3)
   |(go_at_call 20;refine BY (HF.out _ HB3.out) ?_;rintro e w4 ⟨rfl,hb4⟩;have HB4:Hid (Below w.heap.size w w4):=cI HB3.out hb4;clear hb4))
  go_ret;exact⟨rfl,HB4.out⟩
theorem NL(wb:Nat)(pv le hv:Value)(gs:List PG)(hs:List Nat)(o:bU)(w:World)(h:bu w wb pv le hv gs hs)(h0:0<gs.length)(hlen:gs.length<=4000000000000)(hm1: -9223372036854775808<=o.m)(hm2:o.m<=9223372036854775807)(hk:o.kind=7)(hl:∀g∈gs,g.l.length<=282429536481):
  Calls aa.prog 9 #[.pointer (some ⟨wb,0,none⟩),.agg (bq o)] w λe w'=>e=.returned (.bool true)/\Below w.heap.size w w':=by
 have aF:=h.fJ;obtain⟨ad,cap,rfl,hcap,hlc⟩:=aZ aF;have c0:w.cell? ⟨wb,0,none⟩=some (.slice ad gs.length cap):=(aj h.blk).1 0;obtain⟨q,p,hq,hq1,hq2,hpe,hpe',hpl⟩:=j5 o.m gs.length h0;obtain⟨g,cap',hsv,_,_,hg,hcells⟩:=cU aF h0;cases hsv;obtain⟨f0,f1⟩:=jC gs p hpl;have p0:=hcells _ _ (by omega) f0;have p1:=hcells _ _ (by omega) f1;have hwb:wb<w.heap.size:=(Array.getElem?_eq_some_iff.1 h.blk).1;have HP:Hid (∀W,Below w.heap.size w W->Calls aa.prog 21 #[.pointer (some ⟨gs[p].b,0,none⟩),.int .i64 o.a,.int .i64 o.b] W λe w'=>e=.returned (kO gs[p].K o.a o.b)/\Below W.heap.size W w'):=λW hW=>((h.bL _ (OF hpl)).below hW).Qo (hl _ (OF hpl)) o.a o.b W (AT _ _);have HF:Hid (∀W,Below w.heap.size w W->Calls aa.prog 22 #[.pointer (some ⟨gs[p].rb,0,none⟩),.int .i64 o.a,.int .i64 o.b] W λe w'=>e=.returned (kO gs[p].K o.a o.b)/\Below W.heap.size W w'):=λW hW=>((h.bL _ (OF hpl)).below hW).Mg (hl _ (OF hpl)) o.a o.b W (AT _ _);obtain⟨sb,se,hsr⟩: ∃sb se,kO gs[p].K o.a o.b=.tuple #[.int .u64 sb,.int .i64 se]:=by
  unfold kO;split
  ·exact⟨_,_,rfl⟩
  ·exact⟨_,_,rfl⟩
 rw[hsr]at HP HF;clear hsr;generalize gs[p]=gp at*;generalize gp.b=pb at*;generalize gp.rb=prb at*;have i0:(0:Int)<=(p:Int):=by omega
 have i1:(p:Int)<(gs.length:Int):=by omega
 have n1:(0:Int)<(gs.length:Int):=by omega
 clear h aF hcells f0 f1;generalize gs.length=gl at*;have n2: ¬gl=0:=by omega
 have n3: ¬(gl:Int)=0:=by omega
 have n4:((gl:Int)==0)=false:=by simpa using n2
 have w1:IntKind.i64.wrap (q+(gl:Int))=q+gl:=QI (by omega) (by omega);have w2:IntKind.i64.wrap q=q:=QI (by omega) (by omega);have w3:IntKind.i64.wrap (p:Int)=p:=QI (by omega) (by omega);have hpq:q%(gl:Int)=p:=by rw[<-hpe',RF]
 obtain⟨kind,m,a,ob,s,t,c⟩:=o;have k1:(kind==1)=false:=beq_eq_false_iff_ne.2 (by have:kind=7:=hk;omega);have k2:(kind==2)=false:=beq_eq_false_iff_ne.2 (by have:kind=7:=hk;omega);have k3:(kind==3)=false:=beq_eq_false_iff_ne.2 (by have:kind=7:=hk;omega);have k4:(kind==4)=false:=beq_eq_false_iff_ne.2 (by have:kind=7:=hk;omega);have k5:(kind==5)=false:=beq_eq_false_iff_ne.2 (by have:kind=7:=hk;omega);have k6:(kind==6)=false:=beq_eq_false_iff_ne.2 (by have:kind=7:=hk;omega);have k7:(kind==7)=true:=Rw.2 hk;clear hk;simp only[bq] at*;go_enter aa.func9,aa.ntmps9;go_upto_region 4 with fail;obtain⟨W0,hW0⟩: ∃W,W=w.alloc (.cells #[.int .i64 kind,.int .i64 m,.int .i64 a,.int .i64 ob,.string s,.string t,.int .i64 (c 0),.int .i64 (c 1),.int .i64 (c 2),.int .i64 (c 3)] 36):=⟨_,rfl⟩
 rw[<-hW0];have HB0:Hid (Below w.heap.size w W0):=(by rw[hW0];exact (AT _ _).alloc (AI _) _)
 have z0:W0.heap.size=w.heap.size+1:=by rw[hW0];simp
 have HOp:Hid (W0.heap[w.heap.size]?=some (.cells #[.int .i64 kind,.int .i64 m,.int .i64 a,.int .i64 ob,.string s,.string t,.int .i64 (c 0),.int .i64 (c 1),.int .i64 (c 2),.int .i64 (c 3)] 36)):=(by rw[hW0];exact IS w _)
 have y1:W0.cell? ⟨w.heap.size,1,none⟩=some (.int .i64 m):=(aj HOp.out).1 1;have b0:=aD c0 HB0.out;have b1:=aD p0 HB0.out;have b2:=aD p1 HB0.out;have hmk:Hid (∀w',Below W0.heap.size W0 w'->w'.cell? ⟨wb,0,none⟩=some (.slice (some ⟨g,0,none⟩) gl cap)/\w'.cell? ⟨g,p*2,none⟩=some (.pointer (some ⟨pb,0,none⟩))/\w'.cell? ⟨g,p*2+1,none⟩=some (.pointer (some ⟨prb,0,none⟩))/\w'.cell? ⟨w.heap.size,1,none⟩=some (.int .i64 m)):=λw' hw=>⟨aD b0 hw,aD b1 hw,aD b2 hw,aD y1 hw⟩
 clear hW0 c0 p0 p1 b0 b1 b2 y1;go_region_held3 (λw'=>w'.cell? ⟨wb,0,none⟩=some (.slice (some ⟨g,0,none⟩) gl cap)/\w'.cell? ⟨g,p*2,none⟩=some (.pointer (some ⟨pb,0,none⟩))/\w'.cell? ⟨g,p*2+1,none⟩=some (.pointer (some ⟨prb,0,none⟩))/\w'.cell? ⟨w.heap.size,1,none⟩=some (.int .i64 m))
  ((refine hmk.out _ ?_;simp (maxDischargeDepth:=12) [AT,Qy,Qz,QE];done))
  (fail)
 all_goals
  clear hpe hpe' hpq w1 w2 w3 n4;try rw[z0]
  obtain⟨W2,hW2⟩: ∃W,W=(W0.alloc (.cells #[.pointer (some ⟨pb,0,none⟩),.pointer (some ⟨prb,0,none⟩)] 47)).drew:=⟨_,rfl⟩
  rw[<-hW2];have HB2:Hid (Below w.heap.size w W2):=(by rw[hW2];exact (HB0.out.alloc (by omega) _).drew)
  have HX2:Hid (dE W2 w.heap.size (w.heap.size+1) ⟨kind,m,a,ob,s,t,c⟩ pb prb):=(by
   rw[hW2];refine⟨(Qx W0 _ _ (by omega)).trans HOp.out,?_⟩;rw[<-z0];exact IS W0 _)
  have z2:W2.heap.size=w.heap.size+2:=by rw[hW2];simp;omega
  obtain⟨x0,x1,x2,x3,x4,x5,x6,x7,x8,x9,y0,y1⟩:=HX2.out.cells;clear hW2 hmk z0 HOp HB0;go_wp2_with (first
   |(go_at_call 21;refine BY (HP.out _ HB2.out) ?_;rintro e w3 ⟨rfl,hb3⟩;have HB3:Hid (Below w.heap.size w w3):=cI HB2.out hb3;have HX3:Hid (dE w3 w.heap.size (w.heap.size+1) ⟨kind,m,a,ob,s,t,c⟩ pb prb):=HX2.out.below hb3;obtain⟨x0',x1',x2',x3',x4',x5',x6',x7',x8',x9',y0',y1'⟩:=HX3.out.cells;clear hb3)
   |(go_at_call 22;refine BY (HF.out _ HB3.out) ?_;rintro e w4 ⟨rfl,hb4⟩;have HB4:Hid (Below w.heap.size w w4):=cI HB3.out hb4;clear hb4))
  go_ret;exact⟨rfl,HB4.out⟩
theorem MX{w w4 w5:World}{wb:Nat}{pv hv:Value}{gs:List PG}{hs:List Nat}{lad:Option Addr}{lcap gg capn:Nat}{ls:List ByteArray}{lt:ByteArray}(h:bu w4 wb pv (.slice lad ls.length lcap) hv gs hs)(hB:Below w.heap.size w w4)(hR:w4.ownsRow 0 9 1 (.slice lad ls.length lcap) ls.length (ls.map Value.string))(hG:(w4.alloc (.cells #[.string lt] 9)).grownBy w5 (Value.slice lad ls.length lcap).ownBlock)(hO:w5.ownsRow 0 9 1 (.slice (some ⟨gg,0,none⟩) (ls.length+1) capn) (ls.length+1) (ls.map Value.string++ [.string lt]))(hb:w5.heap[wb]?=some (.cells #[pv,.slice lad ls.length lcap,hv] 30))(hA:(Value.slice lad ls.length lcap).ownBlock=some gg\/gg=(w4.alloc (.cells #[.string lt] 9)).heap.size):
  ∃le',bu (w5.setCell ⟨wb,1,none⟩ (.slice (some ⟨gg,0,none⟩) (ls.length+1) capn)) wb pv le' hv gs hs/\(∀ad n cap,Value.slice lad ls.length lcap=.slice ad n cap->∃ad' cap',le'=.slice ad' (n+1) cap')/\Fr (λk=>k=wb\/(Value.slice lad ls.length lcap).ownBlock=some k) w (w5.setCell ⟨wb,1,none⟩ (.slice (some ⟨gg,0,none⟩) (ls.length+1) capn))/\∀k,le'.ownBlock=some k->(Value.slice lad ls.length lcap).ownBlock=some k\/w.heap.size<=k:=by
 generalize hle:Value.slice lad ls.length lcap=le at*;obtain⟨w6,hw6⟩: ∃W,W=w5.setCell ⟨wb,1,none⟩ (.slice (some ⟨gg,0,none⟩) (ls.length+1) capn):=⟨_,rfl⟩
 have hF:Fr (λk=>k=wb\/le.ownBlock=some k) w4 w6:=by
  rw[hw6];exact Fr.setCell (X:=λk=>k=wb\/le.ownBlock=some k) (((Fr.refl _ w4).alloc _).grown hG λk e _=>Or.inr e) (Or.inr (Or.inl rfl)) _
 have hX:∀j t cur,w4.heap[j]?=some (.cells cur t)->t≠30->t≠9->¬(j=wb\/le.ownBlock=some j):=by
  rintro j t cur hj t1 t2 (e|e)
  ·rw[e]at hj;exact t1 (ew hj h.blk)
  ·obtain⟨cur',hc'⟩:=cZ hR e;exact t2 (ew hj hc')
 have hM:∀j es c,w4.heap[j]?=some (.map es c)->¬(j=wb\/le.ownBlock=some j):=by
  rintro j es c hj (e|e)
  ·rw[e,h.blk]at hj;cases hj
  ·obtain⟨cur',hc'⟩:=cZ hR e;rw[hc']at hj;cases hj
 have hold:∀k∈hs,cT w6 k λg=>g<w4.heap.size/\le.ownBlock≠some g:=λk hk=>by
  have h1:cT w4 k λg=>g<w4.heap.size/\le.ownBlock≠some g:=by
   cases e:le.ownBlock with
   |none=>exact (h.holds k hk).weaken λg hg _=>⟨hg,by simp⟩
   |some b=>exact (h.free b e k hk).weaken λg hg hne=>⟨hg,λe'=>hne (Q0 e').symm⟩
  obtain⟨cur,ht⟩:=(h.holds k hk).typed;refine h1.frame hF (hX _ _ _ ht (by decide) (by decide)) (λg cur hg=>hX g _ cur hg (by decide) (by decide)) (λg cur hg=>hX g _ cur hg (by decide) (by decide)) (λg cur _ hg=>hX g _ cur hg (by decide) (by decide)) (λg cur hg hc=>?_);rintro (e|e)
  ·rw[e]at hc;exact absurd (ew hc h.blk) (by decide)
  ·exact hg.2 e
 have hz:=hG.size;simp only[cA]at hz;have hgg:le.ownBlock=some gg\/w4.heap.size<=gg:=hA.imp id λe=>by rw[e];simp
 rw[<-hw6];refine⟨.slice (some ⟨gg,0,none⟩) (ls.length+1) capn,⟨?_,?_,?_,?_,h.apart,λk hk=>(hold k hk).weaken λ_ _ _=>trivial,⟨ls++ [lt],?_⟩,λk e k' hk'=>?_⟩,λad n cap e=>?_,(Fr.bR hB).trans hF,λk e=>?_⟩
 ·rw[hw6,heap_set hb];rfl
 ·exact hF.dq h.fJ λk cur hk=>hX k _ cur hk (by decide) (by decide)
 ·exact hF.dq h.aF λk cur hk=>hX k _ cur hk (by decide) (by decide)
 ·intro g hg;obtain⟨⟨A,kb⟩,km,⟨C,kr⟩⟩:=(h.bL g hg).kinds;refine (h.bL g hg).frame hF (hX _ _ _ kb (by decide) (by decide)) (λm hm=>?_) (hX _ _ _ kr (by decide) (by decide)) (λk cur hk=>hX k _ cur hk (by decide) (by decide)) (λk cur hk=>hX k _ cur hk (by decide) (by decide)) (λk cur hk=>hX k _ cur hk (by decide) (by decide));obtain⟨es,c,hm⟩:=km m hm;exact hM _ es c hm
 ·rw[Q2,RQ,R6,hw6];refine (Fr.setCell (X:=λk=>k=wb) (Fr.refl _ _) (Or.inr rfl) _).dq hO λg cur hg e=>?_;have e':g=wb:=e;rw[e']at hg;exact absurd (ew hg hb) (by decide)
 ·have e':gg=k:=by simpa[Value.ownBlock] using e
  subst e';exact (hold k' hk').weaken λg _ hg e=>by
   subst e;rcases hgg with h1|h1
   ·exact hg.2 h1
   ·have:=hg.1;omega
 ·rw[<-hle]at e;cases e;exact⟨_,_,rfl⟩
 ·have e':gg=k:=by simpa[Value.ownBlock] using e
  subst e';exact hgg.imp id λh1=>IT hB.size h1
theorem Fy(wb:Nat)(pv le hv:Value)(gs:List PG)(hs:List Nat)(o:bU)(w:World)(h:bu w wb pv le hv gs hs)(h0:0<gs.length)(hlen:gs.length<=4000000000000)(hm1: -9223372036854775808<=o.m)(hm2:o.m<=9223372036854775807)(hk:o.kind=8)(hl:∀g∈gs,g.l.length<=282429536481)(hlets:∀ad n cap,le=.slice ad n cap->n<=4000000000000):
  Calls aa.prog 9 #[.pointer (some ⟨wb,0,none⟩),.agg (bq o)] w λe w'=>e=.returned (.bool true)/\∃le',bu w' wb pv le' hv gs hs/\(∀ad n cap,le=.slice ad n cap->∃ad' cap',le'=.slice ad' (n+1) cap')/\Fr (λk=>k=wb\/le.ownBlock=some k) w w'/\∀k,le'.ownBlock=some k->le.ownBlock=some k\/w.heap.size<=k:=by
 have aF:=h.fJ;obtain⟨ad,cap,rfl,hcap,hlc⟩:=aZ aF;have c0:w.cell? ⟨wb,0,none⟩=some (.slice ad gs.length cap):=(aj h.blk).1 0;obtain⟨q,p,hq,hq1,hq2,hpe,hpe',hpl⟩:=j5 o.m gs.length h0;obtain⟨g,cap',hsv,_,_,hg,hcells⟩:=cU aF h0;cases hsv;obtain⟨f0,f1⟩:=jC gs p hpl;have p0:=hcells _ _ (by omega) f0;have p1:=hcells _ _ (by omega) f1;have hwb:wb<w.heap.size:=(Array.getElem?_eq_some_iff.1 h.blk).1;have HP:Hid (∀W,Below w.heap.size w W->Calls aa.prog 23 #[.pointer (some ⟨gs[p].b,0,none⟩)] W λe w'=>e=.returned (.string (kU (lU gs[p].K 0 0)))/\Below W.heap.size W w'):=λW hW=>((h.bL _ (OF hpl)).below hW).El (hl _ (OF hpl)) W (AT _ _);have HF:Hid (∀W,Below w.heap.size w W->Calls aa.prog 24 #[.pointer (some ⟨gs[p].rb,0,none⟩)] W λe w'=>e=.returned (.string (kU (lU gs[p].K 0 0)))/\Below W.heap.size W w'):=λW hW=>((h.bL _ (OF hpl)).below hW).M8 (hl _ (OF hpl)) W (AT _ _);obtain⟨ls,hlr⟩:=h.kS;obtain⟨lad,lcap,rfl,hlcap,hllc⟩:=aZ hlr;have hll:=hlets _ _ _ rfl;obtain⟨j0,hj0,jz0,jz1,jz2⟩:=QN aa.qJ;have HNe:Hid (some wb≠(Value.slice lad ls.length lcap).ownBlock):=kG hlr h.blk (by decide);have HLw:Hid (∀W,Below w.heap.size w W->bu W wb (.slice (some ⟨g,0,none⟩) gs.length cap) (.slice lad ls.length lcap) hv gs hs):=λW hW=>h.below hW;have HLr:Hid (∀W,Below w.heap.size w W->W.ownsRow 0 9 1 (.slice lad ls.length lcap) ls.length (ls.map Value.string)):=λW hW=>(Fr.bR (X:=λ_=>False) hW).dq hlr λ_ _ _ h=>h;generalize kU (lU gs[p].K 0 0)=lt at*;generalize gs[p]=gp at*;generalize gp.b=pb at*;generalize gp.rb=prb at*;have i0:(0:Int)<=(p:Int):=by omega
 have i1:(p:Int)<(gs.length:Int):=by omega
 have n1:(0:Int)<(gs.length:Int):=by omega
 clear h aF hcells f0 f1;generalize gs.length=gl at*;have n2: ¬gl=0:=by omega
 have n3: ¬(gl:Int)=0:=by omega
 have n4:((gl:Int)==0)=false:=by simpa using n2
 have w1:IntKind.i64.wrap (q+(gl:Int))=q+gl:=QI (by omega) (by omega);have w2:IntKind.i64.wrap q=q:=QI (by omega) (by omega);have w3:IntKind.i64.wrap (p:Int)=p:=QI (by omega) (by omega);have hpq:q%(gl:Int)=p:=by rw[<-hpe',RF]
 obtain⟨kind,m,a,ob,s,t,c⟩:=o;have k1:(kind==1)=false:=beq_eq_false_iff_ne.2 (by have:kind=8:=hk;omega);have k2:(kind==2)=false:=beq_eq_false_iff_ne.2 (by have:kind=8:=hk;omega);have k3:(kind==3)=false:=beq_eq_false_iff_ne.2 (by have:kind=8:=hk;omega);have k4:(kind==4)=false:=beq_eq_false_iff_ne.2 (by have:kind=8:=hk;omega);have k5:(kind==5)=false:=beq_eq_false_iff_ne.2 (by have:kind=8:=hk;omega);have k6:(kind==6)=false:=beq_eq_false_iff_ne.2 (by have:kind=8:=hk;omega);have k7:(kind==7)=false:=beq_eq_false_iff_ne.2 (by have:kind=8:=hk;omega);have k8:(kind==8)=true:=Rw.2 hk;clear hk;simp only[bq] at*;go_enter aa.func9,aa.ntmps9;go_upto_region 4 with fail;obtain⟨W0,hW0⟩: ∃W,W=w.alloc (.cells #[.int .i64 kind,.int .i64 m,.int .i64 a,.int .i64 ob,.string s,.string t,.int .i64 (c 0),.int .i64 (c 1),.int .i64 (c 2),.int .i64 (c 3)] 36):=⟨_,rfl⟩
 rw[<-hW0];have HB0:Hid (Below w.heap.size w W0):=(by rw[hW0];exact (AT _ _).alloc (AI _) _)
 have z0:W0.heap.size=w.heap.size+1:=by rw[hW0];simp
 have HOp:Hid (W0.heap[w.heap.size]?=some (.cells #[.int .i64 kind,.int .i64 m,.int .i64 a,.int .i64 ob,.string s,.string t,.int .i64 (c 0),.int .i64 (c 1),.int .i64 (c 2),.int .i64 (c 3)] 36)):=(by rw[hW0];exact IS w _)
 have y1:W0.cell? ⟨w.heap.size,1,none⟩=some (.int .i64 m):=(aj HOp.out).1 1;have b0:=aD c0 HB0.out;have b1:=aD p0 HB0.out;have b2:=aD p1 HB0.out;have hmk:Hid (∀w',Below W0.heap.size W0 w'->w'.cell? ⟨wb,0,none⟩=some (.slice (some ⟨g,0,none⟩) gl cap)/\w'.cell? ⟨g,p*2,none⟩=some (.pointer (some ⟨pb,0,none⟩))/\w'.cell? ⟨g,p*2+1,none⟩=some (.pointer (some ⟨prb,0,none⟩))/\w'.cell? ⟨w.heap.size,1,none⟩=some (.int .i64 m)):=λw' hw=>⟨aD b0 hw,aD b1 hw,aD b2 hw,aD y1 hw⟩
 clear hW0 c0 p0 p1 b0 b1 b2 y1;go_region_held3 (λw'=>w'.cell? ⟨wb,0,none⟩=some (.slice (some ⟨g,0,none⟩) gl cap)/\w'.cell? ⟨g,p*2,none⟩=some (.pointer (some ⟨pb,0,none⟩))/\w'.cell? ⟨g,p*2+1,none⟩=some (.pointer (some ⟨prb,0,none⟩))/\w'.cell? ⟨w.heap.size,1,none⟩=some (.int .i64 m))
  ((refine hmk.out _ ?_;simp (maxDischargeDepth:=12) [AT,Qy,Qz,QE];done))
  (fail)
 all_goals
  clear hpe hpe' hpq w1 w2 w3 n4;try rw[z0]
  obtain⟨W2,hW2⟩: ∃W,W=(W0.alloc (.cells #[.pointer (some ⟨pb,0,none⟩),.pointer (some ⟨prb,0,none⟩)] 47)).drew:=⟨_,rfl⟩
  rw[<-hW2];have HB2:Hid (Below w.heap.size w W2):=(by rw[hW2];exact (HB0.out.alloc (by omega) _).drew)
  have HX2:Hid (dE W2 w.heap.size (w.heap.size+1) ⟨kind,m,a,ob,s,t,c⟩ pb prb):=(by
   rw[hW2];refine⟨(Qx W0 _ _ (by omega)).trans HOp.out,?_⟩;rw[<-z0];exact IS W0 _)
  have z2:W2.heap.size=w.heap.size+2:=by rw[hW2];simp;omega
  obtain⟨x0,x1,x2,x3,x4,x5,x6,x7,x8,x9,y0,y1⟩:=HX2.out.cells;clear hW2 hmk z0 HOp HB0;go_upto_region 31 with (first
   |(go_at_call 23;refine BY (HP.out _ HB2.out) ?_;rintro e w3 ⟨rfl,hb3⟩;have HB3:Hid (Below w.heap.size w w3):=cI HB2.out hb3;have HX3:Hid (dE w3 w.heap.size (w.heap.size+1) ⟨kind,m,a,ob,s,t,c⟩ pb prb):=HX2.out.below hb3;obtain⟨x0',x1',x2',x3',x4',x5',x6',x7',x8',x9',y0',y1'⟩:=HX3.out.cells;clear hb3)
   |(go_at_call 24;refine BY (HF.out _ HB3.out) ?_;rintro e w4 ⟨rfl,hb4⟩;have HB4:Hid (Below w.heap.size w w4):=cI HB3.out hb4;clear hb4))
  have hL4:=HLw.out w4 HB4.out;have HR4:Hid _:=HLr.out w4 HB4.out;have HLB:Hid _:=hL4.blk;obtain⟨cb,fb⟩:=aj hL4.blk;have l1:w4.cell? ⟨wb,1,none⟩=some (.slice lad ls.length lcap):=cb 1;have z4:=HB4.out.size;have HBw:Hid (∀A,(w4.alloc A).heap[wb]?=some (.cells #[.slice (some ⟨g,0,none⟩) gl cap,.slice lad ls.length lcap,hv] 30)):=λA=>(Qx _ _ _ (by omega)).trans HLB.out;have HL4:Hid _:=hL4;clear hL4 cb fb x0' x1' x2' x3' x4' x5' x6' x7' x8' x9' y0' y1' x0 x1 x2 x3 x4 x5 x6 x7 x8 x9 y0 y1;go_wp2_with (at_builtin;refine QZ _ rfl _ _ _ rfl 0 9 j0 _ 1 16 aa.underlying27 hj0 jz0 jz1 jz2 rfl (by omega) (.slice lad ls.length lcap) _ _ rfl (QW HR4.out _) ⟨w4.heap.size,0,none⟩ 1 1 [.string lt] rfl rfl (QJ (cs:=#[.string lt]) (t:=9) (fr:=(0,0)) (IS w4 _)) (by simp[Value.oneCell']) (by omega) (by unfold maxLen;omega) (by omega) (QQ _) _ rfl ?_;intro gg capn w5 hown5 hgrow5 hat5 hlt5;have HO5:Hid (w5.ownsRow 0 9 1 (.slice (some ⟨gg,0,none⟩) (ls.length+1) capn) (ls.length+1) (ls.map Value.string++ [.string lt])):=hown5;have HG5:Hid _:=hgrow5;have hb5:=(HG5.out.block wb (by simp;omega) HNe.out).trans (HBw.out _);obtain⟨c5,f5⟩:=aj hb5;have hc5:=c5 1;have hf5:=f5 1;have Hb5:Hid _:=hb5;have HA5:Hid ((Value.slice lad ls.length lcap).ownBlock=some gg\/gg=(w4.alloc (.cells #[.string lt] 9)).heap.size):=hat5;clear hown5 hgrow5 hat5 hlt5 hb5 c5 f5)
  go_ret;have hz5:=HG5.out.size;simp only[cA]at hz5;exact⟨rfl,MX HL4.out HB4.out HR4.out HG5.out HO5.out Hb5.out HA5.out⟩
theorem Jp(B N:Nat)(wb:Nat)(pv le hv:Value)(gs:List PG)(hs:List Nat)(o:bU)(w:World)(h:dT B N w wb pv le hv gs hs)(h0:0<gs.length)(hN:N<=1600000000000)(ho:fC o)(hk:o.kind<=8):
  Calls aa.prog 9 #[.pointer (some ⟨wb,0,none⟩),.agg (bq o)] w λe w'=>e=.returned (.bool true)/\∃pv' le' hv' gs' hs',dT B (N+1) w' wb pv' le' hv' gs' hs'/\0<gs'.length/\Below B w w':=by
 have hgl:=h.gl;have hle:∀g∈gs,g.l.length<=282429536481:=λg hg=>(h.law.bL g hg).few
 by_cases k5:o.kind<=5
 ·exact FE B N wb pv le hv gs hs o w h h0 (by omega) ho k5
 ·by_cases k6:o.kind=6
  ·exact (EE wb pv le hv gs hs o w h.law h0 (by omega) ho.m1 ho.m2 k6 hle).mono λe w' ⟨he,hb⟩=>⟨he,pv,le,hv,gs,hs,(h.below hb).more (by omega),h0,hb.mono h.base⟩
  ·by_cases k7:o.kind=7
   ·exact (NL wb pv le hv gs hs o w h.law h0 (by omega) ho.m1 ho.m2 k7 hle).mono λe w' ⟨he,hb⟩=>⟨he,pv,le,hv,gs,hs,(h.below hb).more (by omega),h0,hb.mono h.base⟩
   ·refine (Fy wb pv le hv gs hs o w h.law h0 (by omega) ho.m1 ho.m2 (by omega) hle (λad n cap e=>by have:=h.ll ad n cap e;omega)).mono ?_;rintro e w' ⟨he,le',h1,h2,h3,h4⟩;refine⟨he,pv,le',hv,gs,hs,⟨h1,h.ia,h.iD,h.jA,h.iY,λg hg=>IT (h.len g hg) (by omega),by omega,by have:=h.hl;omega,IT h.base h3.size,λk e=>?_,λad n cap e=>?_⟩,h0,h3.toBelow (λk e=>?_) h.base⟩
    ·rcases h4 k e with e'|e'
     ·exact h.leB k e'
     ·exact IT h.base e'
    ·obtain⟨ls,hl⟩:=h.law.kS;obtain⟨ad1,cap1,e1,_⟩:=aZ hl;obtain⟨ad',cap',e2⟩:=h2 ad1 ls.length cap1 e1
     have:=h.ll ad1 ls.length cap1 e1;rw[e2]at e;cases e;omega
    ·rcases e with e|e
     ·rw[e];exact h.ia
     ·exact h.leB k e
theorem GD(wb:Nat)(pv le hv:Value)(gs:List PG)(hs:List Nat)(w:World)(h:bu w wb pv le hv gs hs)(hlen:hs.length<=9000000000000):
  Calls aa.prog 10 #[.pointer (some ⟨wb,0,none⟩)] w λe w'=>e=.returned (.bool true)/\∃q,w'=w.drewN q:=by
 have aF:=h.aF;obtain⟨ad,cap,rfl,hcap,hlc⟩:=aZ aF;have hc:=(aj h.blk).1;have c2:w.cell? ⟨wb,2,none⟩=some (.slice ad hs.length cap):=by rw[hc];rfl
 have HR:Hid (w.ownsRow 0 61 1 (.slice ad hs.length cap) hs.length (hs.map cS)):=aF;have HM:Hid (∀k (hk:k<hs.length) q,Calls aa.prog 27 #[.pointer (some ⟨hs[k],0,none⟩)] (w.drewN q) λe w'=>e=.returned (.bool true)/\∃q,w'=w.drewN q):=λk hk q=>
  (Jh hs[k] (λ_=>True) (w.drewN q) ((h.holds _ (OF hk)).below (Rf (AT _ _) q))).mono λe w' ⟨he,q',hq⟩=>⟨he,q+q',by rw[hq];exact World.drewN_drewN ..⟩
 clear h aF hc;go_enter aa.func10,aa.ntmps10;go_wp2;go_loopw [3] (λi wr=>∃k:Nat,k<=hs.length/\i=.int .i64 k/\∃q,wr=w.drewN q) (λi _=>hs.length-(intOf i).toNat)
 case atStart=>exact⟨0,by omega,rfl,0,rfl⟩
 case round=>
  obtain⟨k,hk,rfl,q,rfl⟩:=hrel;have k0:(0:Int)<=(k:Int):=by omega
  by_cases hlt:k<hs.length
  ·have k63:(k:Int)<(hs.length:Int):=by omega
   obtain⟨g,cap',hsv',_,_,hg,hcells⟩:=cU HR.out (by omega);cases hsv';have ck:w.cell? ⟨g,k,none⟩=some (.pointer (some ⟨hs[k],0,none⟩)):=hcells k _ (by omega) (by simp[hlt,cS]);have HMk:Hid _:=HM.out k hlt;generalize hs[k]=hh at*;clear hcells;go_wp2_with (first
    |(go_at_call 27;refine BY (HMk.out _) ?_;rintro e w1 ⟨rfl,q1,rfl⟩))
   exact⟨⟨k+1,by omega,by go_num,_,rfl⟩,by simp[intOf];omega⟩
  ·obtain rfl:k=hs.length:=by omega
   go_wp2;go_ret;exact⟨rfl,_,rfl⟩
end Go.Proofs.YtldmcdeibiclkaaGreatQ
