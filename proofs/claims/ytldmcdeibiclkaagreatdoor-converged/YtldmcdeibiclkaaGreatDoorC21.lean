/-
  Toward converged_holds: Contracts: tree.Digest, Replica.digest, Replica.Digest, Replica.Segment, Replica.Hello.
-/
import Derived.Test.YtldmcdeibiclkaaGreatDoorC20
set_option linter.unusedVariables false
set_option linter.unusedSimpArgs false
set_option maxRecDepth 100000
set_option maxHeartbeats 20000000
namespace Go.Proofs.YtldmcdeibiclkaaGreatDoorQ
variable {w:World}{b k:Nat}{bm:Nat->Nat}{K:al}
open Go.RowKit
section
open Go.Lib (strCells strCells_length strCells_oneCell)
def dg(T:Nat->ByteArray):Nat->Nat->Int
 |0,n=>dA (T n)
 |h+1,n=>fV λj=>dg T h (n*4+j)
@[simp] theorem aa.call68(args:Array Value)(w:World):Sem.run aa.prog (callFunc 68 args) w=.ok (.enter 68 args) w:=aa.aI aa.func68 (by kernel_rfl) rfl args w
def BI:Value->Nat
 |.slice _ n _=>n
 |_=>0
theorem Um(T:Nat->ByteArray)(k n m:Nat):((List.range m).map λi=>fV λj=>(λi=>dg T k (n*(m*4)+i)) (i*4+j))=(List.range m).map λi=>dg T (k+1) (n*m+i):=by
 apply Wb;intro i _;rw[dg];congr 1;funext j;show dg T k (n*(m*4)+(i*4+j))=dg T k ((n*m+i)*4+j);congr 1;rw[<-Nat.mul_assoc];omega
theorem Oi(b lv n:Nat)(T:Nat->ByteArray)(w:World)(hT:∀k:Nat,k<64->∀W,Below w.heap.size w W->Calls aa.prog 28 #[.pointer (some ⟨b,0,none⟩),.int .i64 k] W λe w'=>e=.returned (.string (T k))/\Below W.heap.size W w')(hTs:∀k,k<64->(T k).size<=maxLen)(hl:lv<=3)(hn:n<4 ^ lv):
  Calls aa.prog 47 #[.int .i64 lv,.int .i64 n,.func (.func 28) #[.pointer (some ⟨b,0,none⟩)] #[]] w λe w'=>e=.returned (.int .u64 (dg T (3-lv) n))/\Below w.heap.size w w':=by
 obtain⟨h,hh⟩: ∃h,h=3-lv:=⟨_,rfl⟩
 have hh3:h<=3:=by omega
 have e1:(3:Int)-(lv:Int)=(h:Int):=by omega
 have hpw:4 ^ lv*4 ^ h=64:=by
  rw[<-Nat.pow_add,show lv+h=3 by omega]
 obtain⟨c,hcd⟩: ∃c,c=4 ^ h:=⟨_,rfl⟩
 have hc4:c=1\/c=4\/c=16\/c=64:=by
  rw[hcd];rcases Gd hh3 with rfl|rfl|rfl|rfl<;>decide
 have hf:n*c+c<=64:=by
  rw[<-hpw,<-hcd,<-Nat.succ_mul];exact Nat.mul_le_mul_right c hn
 have HW:Hid (∀W,Calls aa.prog 46 #[.int .i64 (h:Int)] W λe w'=>e=.returned (.int .i64 (c:Int))/\w'=W):=λW=>by rw[hcd];exact FX h hh3 W
 have HS:=TZ b (n*c) c T w hT hTs hc4 hf;have HSeg:Hid (Calls aa.prog 68 #[.int .i64 ((n:Int)*(c:Int)),.int .i64 c,.func (.func 28) #[.pointer (some ⟨b,0,none⟩)] #[]] w λe w'=>∃v,e=.returned v/\fP w' w.heap.size v ((List.range c).map λi=>dA (T (n*c+i)))/\Below w.heap.size w w'):=(by rw[<-Int.natCast_mul];exact HS)
 have hnc:(n:Int)*(c:Int)<=64:=by rw[<-Int.natCast_mul];omega
 have hnc0:(0:Int)<=(n:Int)*(c:Int):=by rw[<-Int.natCast_mul];omega
 have hcc:c<=64:=by omega
 have HD0:Hid (((List.range c).map λi=>dA (T (n*c+i)))=(List.range (4 ^ (h-0))).map λi=>dg T 0 (n*4 ^ (h-0)+i)):=(show _=_ by rw[Nat.sub_zero,<-hcd];rfl)
 rw[<-hh];clear HS hT hTs hpw hf hc4 hcd hh hn;go_enter aa.func47,aa.ntmps47;go_wp2_with (first
  |(go_at_call 46;refine By (HW.out _) ?_;rintro e w0 ⟨rfl,hw0⟩;obtain rfl:=hw0.symm)
  |(go_at_call 68;go_loud (refine By HSeg.out ?_;rintro e w1 ⟨v1,rfl,hr1,hb1⟩;rw[HD0.out]at hr1;have HR1:Hid (fP w1 w.heap.size v1 ((List.range (4 ^ (h-0))).map λi=>dg T 0 (n*4 ^ (h-0)+i))):=hr1;have HB1:Hid (Below w.heap.size w w1):=hb1;clear hr1 hb1)))
 clear HW HSeg HD0 hnc hnc0 e1;go_loopw [8] (λo wr=>∃k:Nat,k<=h/\Hid (fP wr w.heap.size o ((List.range (4 ^ (h-k))).map λi=>dg T k (n*4 ^ (h-k)+i)))/\Hid (Below w.heap.size w wr)) (λo _=>BI o)
 case atStart=>exact⟨0,by omega,HR1.out,HB1.out⟩
 case round=>
  obtain⟨k,hk,hr,hb⟩:=hrel;have HR:Hid (fP wr w.heap.size u8 ((List.range (4 ^ (h-k))).map λi=>dg T k (n*4 ^ (h-k)+i))):=hr.out;have HB:Hid (Below w.heap.size w wr):=hb.out;have hsz:=hb.out.size;clear hr hb;by_cases hlt:k<h
  ·obtain⟨m,hm⟩: ∃m,m=4 ^ (h-(k+1)):=⟨_,rfl⟩
   have hL:4 ^ (h-k)=m*4:=by rw[hm,<-Wf];congr 1;omega
   have hm16:1<=m/\m<=16:=by
    have:h-(k+1)=0\/h-(k+1)=1\/h-(k+1)=2:=by omega
    rw[hm];rcases this with e|e|e<;>rw[e]<;>decide
   have HRm:fP wr w.heap.size u8 ((List.range (m*4)).map λi=>dg T k (n*(m*4)+i)):=by have:=HR.out;rw[hL]at this;exact this
   obtain⟨ad,cap,rfl,hcap,_⟩:=HRm.len;have HP:Hid _:=Qc w.heap.size m _ (λi=>dg T k (n*(m*4)+i)) wr hm16 HRm;have HU:Hid _:=Um T k n m;have HMm:Hid (m=4 ^ (h-(k+1))):=hm;simp only[VJ,List.length_range] at*;have hg1:(1:Int)<(m:Int)*4:=by omega
   clear HR HRm hL hm;go_wp2_with (go_at_call 69;refine By HP.out ?_;rintro e w2 ⟨v2,rfl,hr2,hb2⟩;rw[HU.out]at hr2;have HR2:Hid (fP w2 w.heap.size v2 ((List.range m).map λi=>dg T (k+1) (n*m+i))):=eE hr2 hsz;have HB2:Hid (Below w.heap.size w w2):=HB.out.trans (hb2.mono hsz);clear hr2 hb2)
   refine⟨⟨k+1,by omega,?_,HB2.out⟩,?_⟩
   ·show fP _ _ _ _;rw[<-HMm.out];exact HR2.out
   ·obtain⟨ad2,cap2,e2,_⟩:=HR2.out.len;rw[e2];simp[BI];omega
  ·obtain rfl:k=h:=by omega
   have HR0:fP wr w.heap.size u8 [dg T k n]:=by
    have:=HR.out;rw[Nat.sub_self]at this;simpa using this
   obtain⟨g,cap,rfl,hgl,hc0⟩:=tW HR0 (k:=0) rfl;have hcp:(cap:Int)<=9223372036854775807:=by
    obtain⟨ad,cap',e,hc,_⟩:=HR0.len;cases e;exact hc
   simp only[WA] at*;clear HR HR0;go_wp2;go_ret;exact⟨rfl,HB.out⟩
end
section
open Go.Lib (strCells strCells_length strCells_oneCell)
def bK(w:World)(bm:Nat->Nat)(K:al)(lv n:Nat):Int:=dg (eO w bm K) (3-lv) n
theorem IY{num:Nat}(h:aA w b bm num K)(hK:dD w bm K):∀k:Nat,k<64->∀W,Below w.heap.size w W->Calls aa.prog 28 #[.pointer (some ⟨b,0,none⟩),.int .i64 k] W λe w'=>e=.returned (.string (eO w bm K k))/\Below W.heap.size W w':=λk hk W hW=>by
 have e:eO W bm K k=eO w bm K k:=Dm (hW.block _ (h.2.1 k hk).lt);rw[<-e];exact DZ b num k bm K W (h.below hW) (hK.below h hW) hk
theorem C4{num:Nat}(h:aA w b bm num K)(hK:dD w bm K):∀k,k<64->(eO w bm K k).size<=maxLen:=λk hk=>by
 have:=xY h hK hk;unfold maxLen;omega
theorem Cq(b num lv n:Nat)(bm:Nat->Nat)(K:al)(w:World)(h:aA w b bm num K)(hK:dD w bm K)(hl:lv<=3)(hn:n<4 ^ lv):
  Calls aa.prog 27 #[.pointer (some ⟨b,0,none⟩),.int .i64 lv,.int .i64 n] w λe w'=>e=.returned (.int .u64 (bK w bm K lv n))/\Below w.heap.size w w':=by
 have HD:Hid _:=Oi b lv n (eO w bm K) w (IY h hK) (C4 h hK) hl hn;have HE:Hid (dg (eO w bm K) (3-lv) n=bK w bm K lv n):=rfl;generalize bK w bm K lv n=D at*;clear h hK;go_enter aa.func27,aa.ntmps27;go_wp2_with (go_at_call 47;refine By HD.out ?_;rintro e w1 ⟨rfl,hb1⟩;rw[HE.out];have HB:Hid (Below w.heap.size w w1):=hb1;clear hb1)
 go_ret;exact⟨rfl,HB.out⟩
theorem zI(b num n:Nat)(bm:Nat->Nat)(K:al)(w:World)(h:aA w b bm num K)(hK:dD w bm K)(hn:n<64):
  Calls aa.prog 11 #[.pointer (some ⟨b,0,none⟩),.int .i64 n] w λe w'=>e=.returned (.tuple #[.string (eO w bm K n),.int .i64 0])/\Below w.heap.size w w':=by
 have HD:Hid _:=DZ b num n bm K w h hK hn;have HH:Hid (∀W,Calls aa.prog 26 #[.int .i64 3,.int .i64 n] W λe w'=>e=.returned (.bool true)/\w'=W):=λW=>by
  have:=B7 3 n (by omega) W;rwa [show decide (3<=3/\n<4 ^ 3)=true by simp;omega]at this
 generalize eO w bm K n=D at*;clear h hK hn;go_enter aa.func11,aa.ntmps11;go_wp2_with (first
  |(go_at_call 26;refine By (HH.out _) ?_;rintro e w0 ⟨rfl,hw0⟩;obtain rfl:=hw0.symm)
  |(go_at_call 28;refine By HD.out ?_;rintro e w1 ⟨rfl,hb1⟩;have HB:Hid (Below w.heap.size w w1):=hb1;clear hb1))
 go_ret2;exact⟨rfl,HB.out⟩
def zL(d:Int):ByteArray:=av 82++fD d
theorem He(d:Int)(w:World):
  Calls aa.prog 29 #[.agg #[.int .u64 d]] w λe w'=>e=.returned (.string (zL d))/\Below w.heap.size w w':=by
 have hrow:aG ((w.alloc (.cells #[.int .u64 d] 81)).alloc (.cells #[.int .u8 82] 5)) (w.heap.size+1) (.slice (some ⟨w.heap.size+1,0,none⟩) 1 1) (av 82):=
  ⟨rfl,Or.inr ⟨w.heap.size+1,1,#[.int .u8 82],rfl,eR _,kP w _ _,eR _,by decide,rfl,rfl⟩⟩
 have HA:Hid _:=vE (w.heap.size+1) _ _ d _ hrow (by simp) (by decide);have HRow:Hid _:=hrow;clear hrow;go_enter aa.func29,aa.ntmps29;go_wp2_with (go_at_call 50;refine By HA.out ?_;rintro e w1 ⟨v1,rfl,hr1,hg1⟩;have hcv:=og hr1;have HB:Hid (Below w.heap.size w w1):=(hg1.toBelow (((AT (w.heap.size) w).alloc (eR _) _).alloc (by simp) _) (by simp;omega) (eE HRow.out (by omega)));clear hr1 hg1)
 go_ret;exact⟨rfl,HB.out⟩
theorem D3(b num:Nat)(bm:Nat->Nat)(K:al)(w:World)(h:aA w b bm num K)(hK:dD w bm K):
  Calls aa.prog 12 #[.pointer (some ⟨b,0,none⟩)] w λe w'=>e=.returned (.string (zL (bK w bm K 0 0)))/\Below w.heap.size w w':=by
 have HD:Hid (Calls aa.prog 27 #[.pointer (some ⟨b,0,none⟩),.int .i64 0,.int .i64 0] w λe w'=>e=.returned (.int .u64 (bK w bm K 0 0))/\Below w.heap.size w w'):=Cq b num 0 0 bm K w h hK (by decide) (by decide);generalize bK w bm K 0 0=D at*;clear h hK;go_enter aa.func12,aa.ntmps12;go_wp2_with (first
  |(go_at_call 27;refine By HD.out ?_;rintro e w1 ⟨rfl,hb1⟩;have HB1:Hid (Below w.heap.size w w1):=hb1;clear hb1)
  |(go_at_call 29;refine (He D _).mono ?_;rintro e w2 ⟨rfl,hb2⟩;have HB2:Hid (Below w.heap.size w w2):=HB1.out.trans (hb2.mono HB1.out.size);clear hb2))
 go_ret;exact⟨rfl,HB2.out⟩
theorem Ap(s:ByteArray)(w:World)(hs:s.size<=maxLen):
  Calls aa.prog 13 #[.string s] w λe w'=>e=.returned (.int .u64 (dA s))/\w'=w:=by
 unfold maxLen at hs;go_enter aa.func13,aa.ntmps13;go_wp2;go_loop [3,4] (λd i=>∃k:Nat,k<=s.size/\i=.int .i64 k/\d=.int .u64 (hY s k)) (λ_ i=>s.size-(intOf i).toNat)
 case atStart=>exact⟨0,by omega,rfl,rfl⟩
 case round=>
  obtain⟨k,hk,rfl,rfl⟩:=hrel;by_cases hlt:k<s.size
  ·have g1:(k:Int)<(s.size:Int):=by omega
   have g0:(0:Int)<=(k:Int):=by omega
   have hst:Hid (hY s (k+1)=IntKind.u64.wrap (Go.bits .xor .u64 (hY s k) (s[k].toNat:Int)*1099511628211)):=by
    show hY s (k+1)=_;rw[hY,xB s k hlt]
   go_wp2;refine⟨⟨k+1,by omega,by go_num,?_⟩,by simp[intOf];omega⟩;rw[hst.out,xD]
  ·have hke:k=s.size:=by omega
   go_wp2;go_ret;exact⟨rfl,rfl⟩
end
inductive Let where
 |root (d:Int)
 |nodes (lev:Nat) (sg:List Nd)
 |aL (kind:Nat) (sg:List (Nat×List ai))
def Let.bytes:Let->ByteArray
 |.root d=>av 82++fD d
 |.nodes lev sg=>av 78++(av lev++(av sg.length++bU sg))
 |.aL kind sg=>av kind++(av sg.length++bR sg)
def Let.Ok:Let->Prop
 |.root d=>0<=d/\d<18446744073709551616
 |.nodes lev sg=>lS lev sg
 |.aL kind sg=>(kind=83\/kind=84)/\ki sg
def rU(w W:World)(v:Value):Let->Prop
 |.root d=>v=.iface 81 (.agg #[.int .u64 d])
 |.nodes lev sg=>∃lv,v=.iface 128 (.agg #[.int .i64 lev,lv])/\W.ownsRow w.heap.size 163 5 lv sg.length (dU sg)
 |.aL kind sg=>∃lv gs,v=.iface 132 (.agg #[.int .u8 kind,lv])/\iI w W lv gs sg
theorem xF(b:Nat)(w:World)(h:bG w b ByteArray.empty):
  Calls aa.prog 58 #[.pointer (some ⟨b,0,none⟩)] w λe w'=>e=.returned (.bool true)/\w'=w:=by
 obtain⟨c,f⟩:=au h.1;go_enter aa.func58,aa.ntmps58;go_wp2;go_ret;exact⟨rfl,rfl⟩
theorem yF(T:ByteArray)(w:World):
  Calls aa.prog 52 #[.string T] w λe w'=>e=.returned (.pointer (some ⟨w.heap.size,0,none⟩))/\w'=w.alloc (.cells #[.string T,.bool false] 158):=by
 go_enter aa.func52,aa.ntmps52;go_wp2;go_ret;exact⟨rfl,rfl⟩
theorem Rd.out{W W':World}{s:ByteArray}(h:Rd W W' b s)(hb:Below w.heap.size w W)(hl:w.heap.size<=b):Below w.heap.size w W':=
 hb.trans (h.2.toBelow (λk hk=>by omega) hb.size)
theorem Vd(d:Int)(w:World)(hok:0<=d/\d<18446744073709551616):
  Calls aa.prog 34 #[.string (av 82++fD d)] w λe w'=>e=.returned (.tuple #[.iface 81 (.agg #[.int .u64 d]),.int .i64 0])/\Below w.heap.size w w':=by
 generalize hT:av 82++fD d=T;have hsz:T.size=9:=by rw[<-hT];simp[dO,sI]
 have HRd:Hid (bG (w.alloc (.cells #[.string T,.bool false] 158)) w.heap.size (av 82++fD d)):=(show bG _ _ _ from⟨by rw[hT];exact BY w _,by rw[hT];omega⟩)
 have HB0:Hid (Below w.heap.size w (w.alloc (.cells #[.string T,.bool false] 158))):=(AT _ _).alloc (eR _) _;have HBy:Hid (Calls aa.prog 53 #[.pointer (some ⟨w.heap.size,0,none⟩)] (w.alloc (.cells #[.string T,.bool false] 158)) λe w'=>e=.returned (.int .i64 82)/\bG w' w.heap.size (fD d++ByteArray.empty)/\Below w.heap.size w w'):=(mx _ 82 _ _ HRd.out (by omega) (by omega)).mono λe w' ⟨he,hr⟩=>⟨he,by rw[gN];exact hr.1,hr.out HB0.out (eR _)⟩
 have HDg:Hid (∀W,bG W w.heap.size (fD d++ByteArray.empty)->Below w.heap.size w W->Calls aa.prog 54 #[.pointer (some ⟨w.heap.size,0,none⟩)] W λe w'=>e=.returned (.int .u64 d)/\bG w' w.heap.size ByteArray.empty/\Below w.heap.size w w'):=λW hW hb=>(zO _ d _ W hW hok.1 hok.2).mono λe w' ⟨he,hr⟩=>⟨he,hr.1,hr.out hb (eR _)⟩
 have HDn:Hid (∀W,bG W w.heap.size ByteArray.empty->Calls aa.prog 58 #[.pointer (some ⟨w.heap.size,0,none⟩)] W λe w'=>e=.returned (.bool true)/\w'=W):=λW hW=>xF _ W hW;have HNw:Hid _:=yF T w;clear hT HRd hsz;go_enter aa.func34,aa.ntmps34;go_wp2_with (first
  |(go_at_call 52;refine By HNw.out ?_;rintro e w' ⟨rfl,hw'⟩;subst w')
  |(go_at_call 53;refine By HBy.out ?_;rintro e w1 ⟨rfl,hr1,hb1⟩)
  |(go_at_call 54;refine By (HDg.out _ hr1 hb1) ?_;rintro e w2 ⟨rfl,hr2,hb2⟩)
  |(go_at_call 58;refine By (HDn.out _ hr2) ?_;rintro e w' ⟨rfl,hw'⟩;subst w'))
 go_ret2;exact⟨rfl,hb2⟩
theorem SA(lev:Nat)(sg:List Nd)(w:World)(hok:lS lev sg)(hsz:(Let.nodes lev sg).bytes.size<=140737488355328):
  Calls aa.prog 34 #[.string (Let.nodes lev sg).bytes] w λe w'=>∃v,e=.returned (.tuple #[v,.int .i64 0])/\rU w w' v (.nodes lev sg)/\Below w.heap.size w w':=by
 generalize hT:(Let.nodes lev sg).bytes=T at*;have HRd:Hid (bG (w.alloc (.cells #[.string T,.bool false] 158)) w.heap.size (av 78++(av lev++(av sg.length++bU sg)))):=(show bG _ _ _ from⟨by rw[show av 78++(av lev++(av sg.length++bU sg))=T from hT];exact BY w _,by rw[show av 78++(av lev++(av sg.length++bU sg))=T from hT];exact hsz⟩)
 have HB0:Hid (Below w.heap.size w (w.alloc (.cells #[.string T,.bool false] 158))):=(AT _ _).alloc (eR _) _;have HBy:Hid (Calls aa.prog 53 #[.pointer (some ⟨w.heap.size,0,none⟩)] (w.alloc (.cells #[.string T,.bool false] 158)) λe w'=>e=.returned (.int .i64 78)/\bG w' w.heap.size (av lev++(av sg.length++(bU sg++ByteArray.empty)))/\Below w.heap.size w w'):=(mx _ 78 _ _ HRd.out (by omega) (by omega)).mono λe w' ⟨he,hr⟩=>⟨he,by rw[gN];exact hr.1,hr.out HB0.out (eR _)⟩
 have HNd:Hid (∀W,bG W w.heap.size (av lev++(av sg.length++(bU sg++ByteArray.empty)))->Below w.heap.size w W->Calls aa.prog 55 #[.pointer (some ⟨w.heap.size,0,none⟩)] W λe w'=>∃lv,e=.returned (.agg #[.int .i64 lev,lv])/\w'.ownsRow w.heap.size 163 5 lv sg.length (dU sg)/\bG w' w.heap.size ByteArray.empty/\Below w.heap.size w w'):=λW hW hb=>(NN _ lev sg _ W hW hok).mono λe w' ⟨lv,he,hrow,hr⟩=>⟨lv,he,eE hrow hb.size,hr.1,hr.out hb (eR _)⟩
 have HDn:Hid (∀W,bG W w.heap.size ByteArray.empty->Calls aa.prog 58 #[.pointer (some ⟨w.heap.size,0,none⟩)] W λe w'=>e=.returned (.bool true)/\w'=W):=λW hW=>xF _ W hW;have HNw:Hid _:=yF T w;clear hT HRd hsz hok;go_enter aa.func34,aa.ntmps34;go_wp2_with (first
  |(go_at_call 52;refine By HNw.out ?_;rintro e w' ⟨rfl,hw'⟩;subst w')
  |(go_at_call 53;refine By HBy.out ?_;rintro e w1 ⟨rfl,hr1,hb1⟩)
  |(go_at_call 55;refine By (HNd.out _ hr1 hb1) ?_;rintro e w2 ⟨lv,rfl,hrow2,hr2,hb2⟩)
  |(go_at_call 58;refine By (HDn.out _ hr2) ?_;rintro e w' ⟨rfl,hw'⟩;subst w'))
 go_ret2;exact⟨_,rfl,⟨lv,rfl,hrow2⟩,hb2⟩
theorem Hi{kind:Nat}(hq:kind=83\/kind=84)(sg:List (Nat×List ai))(w:World)(hok:ki sg)(hsz:(Let.aL kind sg).bytes.size<=140737488355328):
  Calls aa.prog 34 #[.string (Let.aL kind sg).bytes] w λe w'=>∃v,e=.returned (.tuple #[v,.int .i64 0])/\rU w w' v (.aL kind sg)/\Below w.heap.size w w':=by
 generalize hT:(Let.aL kind sg).bytes=T at*;have HRd:Hid (bG (w.alloc (.cells #[.string T,.bool false] 158)) w.heap.size (av kind++(av sg.length++bR sg))):=(show bG _ _ _ from⟨by rw[show av kind++(av sg.length++bR sg)=T from hT];exact BY w _,by rw[show av kind++(av sg.length++bR sg)=T from hT];exact hsz⟩)
 have HB0:Hid (Below w.heap.size w (w.alloc (.cells #[.string T,.bool false] 158))):=(AT _ _).alloc (eR _) _;have HBy:Hid (Calls aa.prog 53 #[.pointer (some ⟨w.heap.size,0,none⟩)] (w.alloc (.cells #[.string T,.bool false] 158)) λe w'=>e=.returned (.int .i64 kind)/\bG w' w.heap.size (av sg.length++(bR sg++ByteArray.empty))/\Below w.heap.size w w'):=(mx _ kind _ _ HRd.out (by omega) (by omega)).mono λe w' ⟨he,hr⟩=>⟨he,by rw[gN];exact hr.1,hr.out HB0.out (eR _)⟩
 have HNd:Hid (∀W,bG W w.heap.size (av sg.length++(bR sg++ByteArray.empty))->Below w.heap.size w W->Calls aa.prog 56 #[.pointer (some ⟨w.heap.size,0,none⟩),.int .u8 kind] W λe w'=>∃lv gs,e=.returned (.agg #[.int .u8 kind,lv])/\iI w w' lv gs sg/\bG w' w.heap.size ByteArray.empty/\Below w.heap.size w w'):=λW hW hb=>(Pt _ kind sg _ W hW hok).mono λe w' ⟨lv,gs,he,hrow,hr⟩=>⟨lv,gs,he,⟨eE hrow.row hb.size,hrow.is,λg hg=>(hrow.lT g hg).base hb.size⟩,hr.1,hr.out hb (eR _)⟩
 have HDn:Hid (∀W,bG W w.heap.size ByteArray.empty->Calls aa.prog 58 #[.pointer (some ⟨w.heap.size,0,none⟩)] W λe w'=>e=.returned (.bool true)/\w'=W):=λW hW=>xF _ W hW;have HNw:Hid _:=yF T w;clear hT HRd hsz hok;obtain⟨z,hz⟩: ∃z:Int,(kind:Int)=z:=⟨_,rfl⟩
 rw[hz]at HBy HNd;have hkz:kind=83/\z=83\/kind=84/\z=84:=by omega
 clear hz hq;go_enter aa.func34,aa.ntmps34;rcases hkz with⟨rfl,rfl⟩|⟨rfl,rfl⟩
 all_goals
  go_wp2_with (first
   |(go_at_call 52;refine By HNw.out ?_;rintro e w' ⟨rfl,hw'⟩;subst w')
   |(go_at_call 53;refine By HBy.out ?_;rintro e w1 ⟨rfl,hr1,hb1⟩)
   |(go_at_call 56;refine By (HNd.out _ hr1 hb1) ?_;rintro e w2 ⟨lv,gs,rfl,hrow2,hr2,hb2⟩)
   |(go_at_call 58;refine By (HDn.out _ hr2) ?_;rintro e w' ⟨rfl,hw'⟩;subst w'))
  go_ret2;exact⟨_,rfl,⟨lv,gs,rfl,hrow2⟩,hb2⟩
theorem TL(L:Let)(w:World)(hok:L.Ok)(hsz:L.bytes.size<=140737488355328):
  Calls aa.prog 34 #[.string L.bytes] w λe w'=>∃v,e=.returned (.tuple #[v,.int .i64 0])/\rU w w' v L/\Below w.heap.size w w':=by
 cases L with
 |root d=>exact (Vd d w hok).mono λe w' ⟨he,hb⟩=>⟨_,he,rfl,hb⟩
 |nodes lev sg=>exact SA lev sg w hok hsz
 |aL kind sg=>
  exact Hi hok.1 sg w hok.2 hsz
section
open Go.Lib (strCells strCells_length strCells_oneCell)
theorem Qw(B Br:Nat)(v rv:Value)(s:ByteArray)(rs:List Rc)(w:World)(hr:aG w B v s)(hB:B<=w.heap.size)(h:da w Br rv rs)(hv:∀r∈rs,az w r.sv r.l/\r.l.length<=100000)(hlen:s.size+(cZ rs).size<=140737488355328):
  Calls aa.prog 48 #[v,rv] w λe w'=>∃v',e=.returned v'/\aG w' B v' (s++cZ rs)/\bq w w' v v':=by
 obtain⟨ad,cap,rfl,hcap,hlc⟩:=h.len;unfold maxLen at hcap;have H:Hid (da w Br (.slice ad rs.length cap) rs):=h;have HV:Hid (∀r∈rs,az w r.sv r.l/\r.l.length<=100000):=hv;have HR0:Hid (aG w B v s):=hr;clear h hv hr;go_enter aa.func48,aa.ntmps48;go_wp2;go_loopw [0,9] (λo i wr=>∃k:Nat,k<=rs.length/\i=.int .i64 k/\Hid (aG wr B o (s++cZ (rs.take k)))/\Hid (bq w wr v o)) (λ_ i _=>rs.length-(intOf i).toNat)
 case atStart=>exact⟨0,by omega,rfl,by rw[List.take_zero];show Hid (aG w B v (s++ByteArray.empty));rw[gN];exact HR0.out,bq.refl _ _⟩
 case round=>
  obtain⟨k,hk,rfl,HR,HG⟩:=hrel;have hsz:=HG.out.grown.size;by_cases hlt:k<rs.length
  ·obtain⟨g,cap',hsv',hgl,_,_,cc⟩:=da.cells (yH HG.out.grown HR0.out H.out (by decide)) hlt;cases hsv';have c0:=cc 0 (by omega);have c1:=cc 1 (by omega);have c2:=cc 2 (by omega);have c3:=cc 3 (by omega);have c4:=cc 4 (by omega);have c5:=cc 5 (by omega);clear cc;simp[jD]at c0 c1 c2 c3 c4 c5;have hvk:=HV.out rs[k] (VB hlt);have HVk:Hid (az wr rs[k].sv rs[k].l):=az.mj hvk.1 HR0.out HG.out;have hvl:=hvk.2;obtain⟨adv,capv,hsvv⟩:=pk hvk.1;clear hvk;have htk:=CK rs (k+1);rw[tY hlt,IT]at htk;have HT:Hid (s++cZ (rs.take k)++dp rs[k].key rs[k].c rs[k].l=s++cZ (rs.take (k+1))):=(show _=_ by rw[tY hlt,cM])
   have hst:(s++cZ (rs.take k)).size+(dp rs[k].key rs[k].c rs[k].l).size<=140737488355328:=by rw[IT];omega
   generalize s++cZ (rs.take k)=st at*;clear htk;generalize rs[k].key=key at*;generalize rs[k].c=c at*;generalize rs[k].sv=sv at*;generalize rs[k].l=l at*;subst hsvv;have g63:(k:Int)<(rs.length:Int):=by omega
   have k0:(0:Int)<=(k:Int):=by omega
   have HBa:Hid (Below wr.heap.size wr (wr.alloc (.cells #[.string key,.int .i64 (c 0),.int .i64 (c 1),.int .i64 (c 2),.int .i64 (c 3),.slice adv l.length capv] 151))):=(AT _ _).alloc (eR _) _;have HRa:Hid (aG (wr.alloc (.cells #[.string key,.int .i64 (c 0),.int .i64 (c 1),.int .i64 (c 2),.int .i64 (c 3),.slice adv l.length capv] 151)) B u0 st):=HR.out.alloc _;go_wp2_with (go_at_call 70;refine (FB B u0 st key c (.slice adv l.length capv) l (wr.alloc (.cells #[.string key,.int .i64 (c 0),.int .i64 (c 1),.int .i64 (c 2),.int .i64 (c 3),.slice adv l.length capv] 151)) HRa.out (by simp;omega) (az.below HVk.out HBa.out) hvl hst).mono ?_;rintro e w1 ⟨v1,rfl,hr1,hg1⟩;have HR1:Hid (aG w1 B v1 (st++dp key c l)):=hr1;have HG1:Hid (bq w w1 v v1):=(HG.out.alloc _).trans hg1;clear hr1 hg1)
   refine⟨⟨k+1,by omega,by go_num,?_,HG1.out⟩,by simp[intOf];omega⟩;show aG _ _ _ _;rw[<-HT.out];exact HR1.out
  ·obtain rfl:k=rs.length:=by omega
   have HRe:Hid (aG wr B u0 (s++cZ rs)):=(by have:=HR.out;rw[VW]at this;exact this)
   clear HR;go_wp2;go_ret;exact⟨_,rfl,HRe.out,HG.out⟩
def Gm.is(g:Gm):Nat×List ai:=(g.1,g.2.2.map Rc.bV)
theorem PB(l:List (Nat×List ai))(g:Nat×List ai):bR (l++ [g])=bR l++(av g.1++gB g.2):=by
 induction l with
 |nil=>simp[bR,gN,jm]
 |cons x l ih=>rw[Ws,bR,ih,bR,cM,cM]
theorem RV{l:List (Nat×List ai)}(h:k<l.length):bR (l.take (k+1))=bR (l.take k)++(av l[k].1++gB l[k].2):=by
 rw[VO h,PB]
theorem LR(l:List (Nat×List ai)):∀k,(bR (l.take k)).size<=(bR l).size:=λk=>by
 have key:∀a b:List (Nat×List ai),(bR (a++b)).size=(bR a).size+(bR b).size:=λa b=>by
  induction a with
  |nil=>simp[bR]
  |cons x a ih=>simp only[Ws,bR,IT,ih];omega
 have:=key (l.take k) (l.drop k);rw[List.take_append_drop]at this;omega
theorem GI(rc:List Rc):cF (rc.map Rc.bV).length++cZ rc=gB (rc.map Rc.bV):=by rw[gB,yX,BP]
theorem qN:∀(gs:List Gm) (k:Nat) (h:k<gs.length),(fH gs)[k*2]?=some (.int .i64 gs[k].1)/\(fH gs)[k*2+1]?=some gs[k].2.1
 |g::gs,0,_=>by simp[fH]
 |g::gs,k+1,h=>by
  have:=qN gs k (by simpa using h);simp only[fH,Wi,List.getElem_cons_succ] at*;rw[List.getElem?_append_right (by simp;omega),List.getElem?_append_right (by simp;omega)];simpa[Nat.add_mul,show (k+1)*2-2=k*2 by omega,show (k+1)*2+1-2=k*2+1 by omega] using this
theorem pa{B size n:Nat}{t:TypeId}{v:Value}{xs:List Value}(h:w.ownsRow B t size v n xs)(hn:0<n): ∃g cap,v=.slice (some ⟨g,0,none⟩) n cap/\g<w.heap.size/\n<=cap/\cap<=maxLen/\∀j x,j<n*size->xs[j]?=some x->w.cell? ⟨g,j,none⟩=some x:=by
 obtain⟨h1,h2⟩:=h;rcases h2 with⟨_,h2⟩|⟨g,cap,cur,hv,_,hh,hn,hc,hs,ht⟩
 ·omega
 ·refine⟨g,cap,hv,(Array.getElem?_eq_some_iff.1 hh).1,hn,hc,λj x hj hx=>?_⟩;rw[<-ht,List.getElem?_take,AS hj]at hx;simpa[World.cell?,hh] using hx
theorem Sz(B1 Br kind:Nat)(lv:Value)(gs:List Gm)(w:World)(h:w.ownsRow B1 167 2 lv gs.length (fH gs))(hk:kind<256)(hl:gs.length<=64)(hg:∀g∈gs,g.1<64/\g.2.2.length<=1000000/\da w Br g.2.1 g.2.2/\∀r∈g.2.2,az w r.sv r.l/\r.l.length<=100000)(hsz:(Let.aL kind (gs.map Gm.is)).bytes.size<=140737488355328):
  Calls aa.prog 105 #[.agg #[.int .u8 kind,lv]] w λe w'=>e=.returned (.string (Let.aL kind (gs.map Gm.is)).bytes)/\Below w.heap.size w w':=by
 obtain⟨i0,hi0,hz0,hz1,hz2⟩:=VH aa.oc;obtain⟨ad,cap,rfl,hcap,hlc⟩:=jE h;have hlm:(gs.map Gm.is).length=gs.length:=VJ ..;have hl0:(0:Int)<=(gs.length:Int):=by omega
 have hrow:aG ((w.alloc (.cells #[.int .u8 kind,.slice ad gs.length cap] 132)).alloc (.cells #[.int .u8 kind,.int .u8 gs.length] 5)) w.heap.size (.slice (some ⟨w.heap.size+1,0,none⟩) 2 2) (av kind++av gs.length):=
  ⟨by simp[nO,je,IT,dO],Or.inr ⟨w.heap.size+1,2,#[.int .u8 kind,.int .u8 gs.length],rfl,by omega,kP w _ _,eR _,by decide,rfl,by
   rw[nO,je,je,Xf (by omega) (by omega),Xf (by omega) (by omega)];rfl⟩⟩
 have HRow:Hid (aG ((w.alloc (.cells #[.int .u8 kind,.slice ad gs.length cap] 132)).alloc (.cells #[.int .u8 kind,.int .u8 gs.length] 5)) w.heap.size (.slice (some ⟨w.heap.size+1,0,none⟩) 2 2) (av kind++av gs.length)):=hrow;have HG:Hid (∀g∈gs,g.1<64/\g.2.2.length<=1000000/\da w Br g.2.1 g.2.2/\∀r∈g.2.2,az w r.sv r.l/\r.l.length<=100000):=hg;have dQ:(Let.aL kind (gs.map Gm.is)).bytes=(av kind++av gs.length)++bR (gs.map Gm.is):=by rw[Let.bytes,hlm,cM]
 rw[dQ]at hsz ⊢;have hP:=LR (gs.map Gm.is);have HP:Hid (∀k,((av kind++av gs.length)++bR ((gs.map Gm.is).take k)).size<=140737488355328):=(show ∀k,_ by intro k;have:=hP k;rw[IT]at hsz ⊢;omega)
 have HPs:Hid (∀k (h:k<gs.length),((av kind++av gs.length)++bR ((gs.map Gm.is).take k))++av gs[k].1++cF gs[k].2.2.length++cZ gs[k].2.2=(av kind++av gs.length)++bR ((gs.map Gm.is).take (k+1))):=(show ∀k (h:k<gs.length),_ by
  intro k h;rw[RV (by rw[hlm];exact h)];simp only[Xq,Gm.is,cM];simp only[<-GI,VJ])
 clear hP dQ;have H:Hid (w.ownsRow B1 167 2 (.slice ad gs.length cap) gs.length (fH gs)):=h;clear hrow hg h;go_enter aa.func105,aa.ntmps105;go_wp2;have HB0:Hid (Below w.heap.size w ((w.alloc (.cells #[.int .u8 kind,.slice ad gs.length cap] 132)).alloc (.cells #[.int .u8 kind,.int .u8 gs.length] 5))):=((AT _ _).alloc (eR _) _).alloc (by simp) _;generalize hP0:av kind++av gs.length=P0 at*;have HP0:Hid (av kind++av gs.length=P0):=hP0;clear hP0;go_loopw [3,16] (λo i wr=>∃k:Nat,k<=gs.length/\i=.int .i64 k/\Hid (aG wr w.heap.size o (P0++bR ((gs.map Gm.is).take k)))/\Hid (Below w.heap.size w wr)) (λ_ i _=>gs.length-(intOf i).toNat)
 case atStart=>exact⟨0,by omega,rfl,by rw[List.take_zero,bR,gN];exact HRow.out,HB0.out⟩
 case round=>
  obtain⟨k,hkl,rfl,HR,HB⟩:=hrel;have hsw:=HB.out.size;clear HRow HB0;by_cases hlt:k<gs.length
  ·obtain⟨g,cap',hv',hgl,_,_,cc⟩:=pa H.out (show 0<gs.length by omega);cases hv';have c0:=(HB.out.cell (p:=⟨g,k*2,none⟩) hgl).trans (cc (k*2) _ (by omega) (qN gs k hlt).1);have c1:=(HB.out.cell (p:=⟨g,k*2+1,none⟩) hgl).trans (cc (k*2+1) _ (by omega) (qN gs k hlt).2);obtain⟨g1,g2,g3,g4⟩:=HG.out gs[k] (VB hlt);obtain⟨adr,cT,hrv,hcapr,_⟩:=jE g3;have hs1:=HP.out (k+1);have hs0:=HPs.out k hlt;have HS0:Hid _:=hs0;rw[<-hs0]at hs1;clear cc hs0;have HRs:Hid (∀W,Below w.heap.size w W->da W Br gs[k].2.1 gs[k].2.2/\∀r∈gs[k].2.2,az W r.sv r.l/\r.l.length<=100000):=λW hW=>⟨dS g3 hW (eR _),λr hr=>⟨az.below (g4 r hr).1 hW,(g4 r hr).2⟩⟩
   clear g3 g4;generalize P0++bR ((gs.map Gm.is).take k)=P at*;rw[hrv]at c1 HRs;generalize gs[k].1=n at*;generalize hrc:gs[k].2.2=rc at*;simp only[IT,dO,lZ]at hs1;have a1:(k:Int)<(gs.length:Int):=by omega
   have a0:(0:Int)<=(k:Int):=by omega
   have m1:(0:Int)<=(n:Int):=by omega
   have m2:(n:Int)<=255:=by omega
   have HB5:Hid (Below w.heap.size w (wr.alloc (.cells #[.int .i64 n,.slice adr rc.length cT] 167))):=HB.out.alloc hsw _;have HW6:Hid (Below w.heap.size w ((wr.alloc (.cells #[.int .i64 n,.slice adr rc.length cT] 167)).alloc (.cells #[.int .u8 n] 5))):=HB5.out.alloc (by simp;omega) _;have HR6:Hid (aG ((wr.alloc (.cells #[.int .i64 n,.slice adr rc.length cT] 167)).alloc (.cells #[.int .u8 n] 5)) w.heap.size u3 P):=(HR.out.alloc _).alloc _;have HS6:Hid (((wr.alloc (.cells #[.int .i64 n,.slice adr rc.length cT] 167)).alloc (.cells #[.int .u8 n] 5)).heap[wr.heap.size]?=some (.cells #[.int .i64 n,.slice adr rc.length cT] 167)):=(by rw[Vx _ _ _ (by simp)];exact BY wr _)
   go_wp2_with (first
    |(at_builtin;refine jw _ rfl _ _ _ rfl w.heap.size 5 i0 _ 1 1 aa.underlying48 hi0 hz0 hz1 hz2 rfl (by omega) u3 _ _ rfl HR6.out ⟨wr.heap.size+1,0,none⟩ 1 1 _ rfl (by rfl) (VM (kP wr _ _)) (by simp[Value.oneCell']) (by omega) (by unfold maxLen;omega) (by omega) (by have:=HW6.out.size;omega) ?_;intro g7 cap7 w7 hown7 hgr7;have HR7:Hid (aG w7 w.heap.size (.slice (some ⟨g7,0,none⟩) (P.size+1) cap7) (P++av n)):=aG.of hown7 rfl (by rw[je,Xf (by omega) (by omega)]);have hs7:=hgr7.other HR6.out HS6.out (by decide);obtain⟨c7,f7⟩:=au hs7;have x70:=c7 0;have x71:=c7 1;clear c7 f7;have HS7:Hid (w7.heap[wr.heap.size]?=some (.cells #[.int .i64 n,.slice adr rc.length cT] 167)):=hs7;have HB7:Hid (Below w.heap.size w w7):=hgr7.toBelow HW6.out HW6.out.size HR6.out;clear hs7 hown7 hgr7)
    |(go_at_call 94;refine By (th w.heap.size _ _ rc.length w7 HR7.out HB7.out.size (by simp[IT,dO];omega)) ?_;rintro e w8 ⟨v8,rfl,hr8,hg8⟩;have HR8:Hid (aG w8 w.heap.size v8 (P++av n++cF rc.length)):=hr8;have hs8:=hg8.other HR7.out HS7.out (by decide);obtain⟨c8,f8⟩:=au hs8;have x81:=c8 1;have HB8:Hid (Below w.heap.size w w8):=hg8.toBelow HB7.out HB7.out.size HR7.out;clear c8 f8 hs8 hr8 hg8)
    |(go_at_call 48;refine By (Qw w.heap.size Br _ _ _ rc w8 HR8.out HB8.out.size (HRs.out w8 HB8.out).1 (HRs.out w8 HB8.out).2 (by simp[IT,dO,lZ];omega)) ?_;rintro e w9 ⟨v9,rfl,hr9,hg9⟩;have HR9:Hid (aG w9 w.heap.size v9 (P++av n++cF rc.length++cZ rc)):=hr9;have HB9:Hid (Below w.heap.size w w9):=hg9.toBelow HB8.out HB8.out.size HR8.out;clear hr9 hg9))
   refine⟨⟨k+1,by omega,by go_num,?_,HB9.out⟩,by simp[intOf];omega⟩;rw[<-HS0.out];exact HR9.out
  ·obtain rfl:k=gs.length:=by omega
   have hR:=HR.out;rw[<-hlm,VW]at hR;have hcv:=og hR;clear hR;go_wp2;go_ret;exact⟨by rw[HP0.out];rfl,HB.out⟩
end
section
open Go.Lib (strCells strCells_length strCells_oneCell)
theorem US(l:List Nd)(g:Nd):bU (l++ [g])=bU l++(av g.1++cA g.2 4):=by
 induction l with
 |nil=>simp[bU,gN,jm,Gv]
 |cons x l ih=>rw[Ws,bU,ih,bU,cM,cM]
theorem MO{l:List Nd}(h:k<l.length):bU (l.take (k+1))=bU (l.take k)++(av l[k].1++cA l[k].2 4):=by
 rw[VO h,US]
theorem BJ(l:List Nd):(bU l).size=33*l.length:=by
 induction l with
 |nil=>rfl
 |cons x l ih=>rw[bU,IT,IT,ih,Gv,nJ,dO,VL];omega
theorem zN(l:List Nd):(dU l).length=l.length*5:=by
 induction l with
 |nil=>rfl
 |cons g gs ih=>simp only[dU,Wi,VF,VL,lA,Wt] at*;omega
theorem wY:∀(l:List Nd) (k:Nat) (h:k<l.length) (j:Nat),j<5->(dU l)[k*5+j]?=(lA l[k])[j]?
 |g::l,0,_,j,hj=>by
  simp only[dU,Wi,Nat.zero_mul,Nat.zero_add,List.getElem_cons_zero];rw[List.getElem?_append_left (by simpa[lA] using hj)]
 |g::l,k+1,h,j,hj=>by
  have:=wY l k (by simpa using h) j hj;simp only[dU,Wi,List.getElem_cons_succ] at*;rw[List.getElem?_append_right (by simp[lA];omega),show (k+1)*5+j-(lA g).length=k*5+j by simp[lA];omega];exact this
theorem ug(W:World)(a b c d:Value):
  (Instr.index 161 (.agg #[a,b,c,d]) (.int .i64 0)).run aa.prog W=.ok a W/\
  (Instr.index 161 (.agg #[a,b,c,d]) (.int .i64 1)).run aa.prog W=.ok b W/\
  (Instr.index 161 (.agg #[a,b,c,d]) (.int .i64 2)).run aa.prog W=.ok c W/\
  (Instr.index 161 (.agg #[a,b,c,d]) (.int .i64 3)).run aa.prog W=.ok d W:=
 ⟨by kernel_rfl,by kernel_rfl,by kernel_rfl,by kernel_rfl⟩
theorem indexAt(d:Nat->Int){j:Nat}(hj:j<4)(W:World):(Instr.index 161 (.agg #[.int .u64 (d 0),.int .u64 (d 1),.int .u64 (d 2),.int .u64 (d 3)]) (.int .i64 j)).run aa.prog W=.ok (.int .u64 (d j)) W:=by
 rcases fc hj with rfl|rfl|rfl|rfl
 ·exact (ug W _ _ _ _).1
 ·exact (ug W _ _ _ _).2.1
 ·exact (ug W _ _ _ _).2.2.1
 ·exact (ug W _ _ _ _).2.2.2
theorem JG(B1 lev:Nat)(lv:Value)(sg:List Nd)(w:World)(h:w.ownsRow B1 163 5 lv sg.length (dU sg))(hk:lev<256)(hl:sg.length<=64)(hg:∀g∈sg,g.1<256):
  Calls aa.prog 104 #[.agg #[.int .i64 lev,lv]] w λe w'=>e=.returned (.string (Let.nodes lev sg).bytes)/\Below w.heap.size w w':=by
 obtain⟨i0,hi0,hz0,hz1,hz2⟩:=VH aa.oc;obtain⟨ad,cap,rfl,hcap,hlc⟩:=jE h;have hl0:(0:Int)<=(sg.length:Int):=by omega
 have hl1:(sg.length:Int)<=255:=by omega
 have e0:(0:Int)<=(lev:Int):=by omega
 have e1:(lev:Int)<=255:=by omega
 have hrow:aG ((w.alloc (.cells #[.int .i64 lev,.slice ad sg.length cap] 128)).alloc (.cells #[.int .u8 78,.int .u8 lev,.int .u8 sg.length] 5)) w.heap.size (.slice (some ⟨w.heap.size+1,0,none⟩) 3 3) (av 78++av lev++av sg.length):=
  ⟨by simp[nO,je,IT,dO],Or.inr ⟨w.heap.size+1,3,#[.int .u8 78,.int .u8 lev,.int .u8 sg.length],rfl,by omega,kP w _ _,eR _,by decide,rfl,by
   rw[nO,nO,je,je,je,Xf (a:=(lev:Int)) (by omega) (by omega),Xf (a:=(sg.length:Int)) (by omega) (by omega)];rfl⟩⟩
 have HRow:Hid (aG ((w.alloc (.cells #[.int .i64 lev,.slice ad sg.length cap] 128)).alloc (.cells #[.int .u8 78,.int .u8 lev,.int .u8 sg.length] 5)) w.heap.size (.slice (some ⟨w.heap.size+1,0,none⟩) 3 3) (av 78++av lev++av sg.length)):=hrow;have HG:Hid (∀g∈sg,g.1<256):=hg;have H:Hid (w.ownsRow B1 163 5 (.slice ad sg.length cap) sg.length (dU sg)):=h;have dQ:(Let.nodes lev sg).bytes=(av 78++av lev++av sg.length)++bU sg:=by rw[Let.bytes,cM,cM]
 rw[dQ];have HPs:Hid (∀k (h:k<sg.length),(av 78++av lev++av sg.length)++bU (sg.take k)++av sg[k].1++cA sg[k].2 4=(av 78++av lev++av sg.length)++bU (sg.take (k+1))):=(show ∀k (h:k<sg.length),_ by
  intro k h;rw[MO h];simp only[cM])
 have HPz:Hid (∀k,((av 78++av lev++av sg.length)++bU (sg.take k)).size<=3000):=(show ∀k,_ by
  intro k
  have:=List.length_take_le' k sg;simp only[IT,dO,BJ];omega)
 clear hrow hg h dQ;go_enter aa.func104,aa.ntmps104;go_wp2;have HB0:Hid (Below w.heap.size w ((w.alloc (.cells #[.int .i64 lev,.slice ad sg.length cap] 128)).alloc (.cells #[.int .u8 78,.int .u8 lev,.int .u8 sg.length] 5))):=((AT _ _).alloc (eR _) _).alloc (by simp) _;generalize hP0:av 78++av lev++av sg.length=P0 at*;have HP0:Hid (av 78++av lev++av sg.length=P0):=hP0;clear hP0;go_loopw [3,19] (λo i wr=>∃k:Nat,k<=sg.length/\i=.int .i64 k/\Hid (aG wr w.heap.size o (P0++bU (sg.take k)))/\Hid (Below w.heap.size w wr)) (λ_ i _=>sg.length-(intOf i).toNat)
 case atStart=>exact⟨0,by omega,rfl,by rw[List.take_zero,bU,gN];exact HRow.out,HB0.out⟩
 case round=>
  obtain⟨k,hkl,rfl,HR,HB⟩:=hrel;have hsw:=HB.out.size;clear HRow HB0;by_cases hlt:k<sg.length
  ·obtain⟨g,cap',hv',hgl,_,_,cc⟩:=pa H.out (show 0<sg.length by omega);cases hv';have cw:∀j,j<5->wr.cell? ⟨g,k*5+j,none⟩=(lA sg[k])[j]? :=λj hj=>by
    have h1:=wY sg k hlt j hj;rw[HB.out.cell (p:=⟨g,k*5+j,none⟩) hgl,<-h1];rw[List.getElem?_eq_getElem (by rw[zN];omega)];exact cc _ _ (by omega) (List.getElem?_eq_getElem _)
   have c0:wr.cell? ⟨g,k*5,none⟩=some (.int .i64 sg[k].1):=cw 0 (by omega);have c1:wr.cell? ⟨g,k*5+1,none⟩=some (.int .u64 (sg[k].2 0)):=cw 1 (by omega);have c2:wr.cell? ⟨g,k*5+2,none⟩=some (.int .u64 (sg[k].2 1)):=cw 2 (by omega);have c3:wr.cell? ⟨g,k*5+3,none⟩=some (.int .u64 (sg[k].2 2)):=cw 3 (by omega);have c4:wr.cell? ⟨g,k*5+4,none⟩=some (.int .u64 (sg[k].2 3)):=cw 4 (by omega);have g1:=HG.out sg[k] (VB hlt);have hs0:=HPs.out k hlt;have hz:=HPz.out k;clear cc cw;generalize hPk:P0++bU (sg.take k)=P at*;generalize sg[k].1=n at*;generalize sg[k].2=d at*;have HS0:Hid (P++av n++cA d 4=P0++bU (sg.take (k+1))):=hs0;clear hs0 hPk;have a1:(k:Int)<(sg.length:Int):=by omega
   have a0:(0:Int)<=(k:Int):=by omega
   have m1:(0:Int)<=(n:Int):=by omega
   have m2:(n:Int)<=255:=by omega
   obtain⟨W6,hW6⟩: ∃W,W=(wr.alloc (.cells #[.int .i64 n,.int .u64 (d 0),.int .u64 (d 1),.int .u64 (d 2),.int .u64 (d 3)] 163)).alloc (.cells #[.int .u8 n] 5):=⟨_,rfl⟩
   have HW6:Hid (Below w.heap.size w W6):=(by rw[hW6];exact (HB.out.alloc hsw _).alloc (by simp;omega) _)
   have HR6:Hid (aG W6 w.heap.size u3 P):=(by rw[hW6];exact (HR.out.alloc _).alloc _)
   have HS6:Hid (W6.heap[wr.heap.size]?=some (.cells #[.int .i64 n,.int .u64 (d 0),.int .u64 (d 1),.int .u64 (d 2),.int .u64 (d 3)] 163)):=(by rw[hW6,Vx _ _ _ (by simp)];exact BY wr _)
   have HN6:Hid (W6.heap[wr.heap.size+1]?=some (.cells #[.int .u8 n] 5)):=(by rw[hW6];exact kP wr _ _)
   go_wp2_with (first
    |(at_builtin;rw[<-hW6];refine jw _ rfl _ _ _ rfl w.heap.size 5 i0 _ 1 1 aa.underlying48 hi0 hz0 hz1 hz2 rfl (by omega) u3 _ _ rfl HR6.out ⟨wr.heap.size+1,0,none⟩ 1 1 _ rfl (by rfl) (VM HN6.out) (by simp[Value.oneCell']) (by omega) (by unfold maxLen;omega) (by omega) HW6.out.size ?_;intro g7 cap7 w7 hown7 hgr7;have HR7:Hid (aG w7 w.heap.size (.slice (some ⟨g7,0,none⟩) (P.size+1) cap7) (P++av n)):=aG.of hown7 rfl (by rw[je,Xf (by omega) (by omega)]);have hs7:=hgr7.other HR6.out HS6.out (by decide);obtain⟨c7,f7⟩:=au hs7;have x71:=c7 1;have x72:=c7 2;have x73:=c7 3;have x74:=c7 4;clear c7 f7;have HB7:Hid (Below w.heap.size w w7):=hgr7.toBelow HW6.out HW6.out.size HR6.out;clear hs7 hown7 hgr7))
   clear hW6 HW6 HR6 HS6 HN6 HR HB;go_loopw [3,31] (λo i wq=>∃j:Nat,j<=4/\i=.int .i64 j/\Hid (aG wq w.heap.size o (P++av n++cA d j))/\Hid (Below w.heap.size w wq)) (λ_ i _=>4-(intOf i).toNat)
   case atStart=>exact⟨0,by omega,rfl,by rw[cA,gN];exact HR7.out,HB7.out⟩
   case round=>
    obtain⟨j,hj,rfl,HRj,HBj⟩:=hrel;clear HR7 HB7;by_cases hj4:j<4
    ·have j1:(j:Int)<4:=by omega
     have hix:=indexAt d hj4;have HSt:Hid (P++av n++cA d j++fD (d j)=P++av n++cA d (j+1)):=(show _=_ by rw[cA,cM])
     have hQz:(P++av n++cA d j).size<=4000:=by simp only[IT,dO,nJ];omega
     generalize P++av n++cA d j=Q at*;generalize d j=dj at*;go_wp2_with (go_at_call 50;refine By (vE w.heap.size _ Q dj _ HRj.out HBj.out.size (by omega)) ?_;rintro e w8 ⟨v8,rfl,hr8,hg8⟩;have HR8:Hid (aG w8 w.heap.size v8 (Q++fD dj)):=hr8;have HB8:Hid (Below w.heap.size w w8):=hg8.toBelow HBj.out HBj.out.size HRj.out;clear hr8 hg8)
     exact⟨⟨j+1,by omega,by go_num,by rw[<-HSt.out];exact HR8.out,HB8.out⟩,by simp[intOf];omega⟩
    ·obtain rfl:j=4:=by omega
     have HRe:Hid (aG ‹World› w.heap.size _ (P0++bU (sg.take (k+1)))):=(by rw[<-HS0.out];exact HRj.out)
     clear HRj;go_wp2;exact⟨⟨k+1,by omega,by go_num,HRe.out,HBj.out⟩,by simp[intOf];omega⟩
  ·obtain rfl:k=sg.length:=by omega
   have hR:=HR.out;rw[VW]at hR;have hcv:=og hR;clear hR;go_wp2;go_ret;exact⟨by rw[HP0.out];rfl,HB.out⟩
end
def fO(w:World)(B:Nat)(v:Value)(ns:List Nat):Prop:=w.ownsRow B 3 1 v ns.length (ns.map λ(n:Nat)=>Value.int .i64 (n:Int))
def cm(w:World)(bm:Nat->Nat)(K:al)(ns:List Nat):List (Nat×List ai):=ns.map λn=>(n,dN K (cE w (bm n)))
structure oC(w:World)(bs kind:Nat)(sg:List (Nat×List ai))(k:Nat)(W:World)(lv:Value)(gs:List Gm):Prop where
 st:W.heap[bs]?=some (.cells #[.int .u8 kind,lv] 132)
 row:W.ownsRow w.heap.size 167 2 lv k (fH gs)
 is:gs.map Gm.is=sg.take k
 lT:∀g∈gs,da W w.heap.size g.2.1 g.2.2/\∀r∈g.2.2,az W r.sv r.l
 bj:Below w.heap.size w W
theorem oC.step{w wr w2 w4:World}{kind n k g4 cap4:Nat}{sg:List (Nat×List ai)}{gs:List Gm}{lv v2:Value}{rs:List Rc}{ro:List ai}(h:oC w w.heap.size kind sg k wr lv gs)(hb:Below wr.heap.size wr w2)(hr:da w2 w.heap.size v2 rs)(hv:∀r∈rs,az w2 r.sv r.l)(ht:rs.map Rc.bV=ro)(hK:bM (λt=>t≠167) w2 w4)(ho:w4.ownsRow w.heap.size 167 2 (.slice (some ⟨g4,0,none⟩) (k+1) cap4) (k+1) (fH gs++ [.int .i64 n,v2]))(hb4:Below w.heap.size w w4)(hs:sg.take (k+1)=sg.take k++ [(n,ro)]):
  oC w w.heap.size kind sg (k+1) (w4.setCell ⟨w.heap.size,1,none⟩ (.slice (some ⟨g4,0,none⟩) (k+1) cap4)) (.slice (some ⟨g4,0,none⟩) (k+1) cap4) (gs++ [(n,v2,rs)]):=by
 have hs4:=hK _ _ _ _ (aS h.st hb) (by decide);have hK2:bM (λt=>t=151\/t=144) w2 (w4.setCell ⟨w.heap.size,1,none⟩ (.slice (some ⟨g4,0,none⟩) (k+1) cap4)):=λq cs t fr hq h=>bM.set hs4 (T:=λt=>t≠132) (λh=>h rfl) _ _ _ _ _ _ (hK _ _ _ _ hq (by rcases h with rfl|rfl<;>decide)) (by rcases h with rfl|rfl<;>decide);refine⟨heap_set hs4,?_,?_,λg hg=>?_,hb4.setCell (eR _) _⟩
 ·rw[fH,WI];exact fX ho hs4 (by decide) _ _
 ·rw[hs,WL,h.is,List.map_singleton,Gm.is,ht]
 ·rcases List.mem_append.1 hg with hg|hg
  ·exact⟨hK2.row (dS (h.lT g hg).1 hb (eR _)) (.inl rfl),λr hr=>hK2.row (az.below ((h.lT g hg).2 r hr) hb) (.inr rfl)⟩
  ·obtain rfl:=List.mem_singleton.1 hg;exact⟨hK2.row hr (.inl rfl),λr hr'=>hK2.row (hv r hr') (.inr rfl)⟩
theorem zx(b num kind Bn:Nat)(bm:Nat->Nat)(K:al)(nv:Value)(ns:List Nat)(w:World)(h:aA w b bm num K)(hK:dD w bm K)(hn:fO w Bn nv ns)(hk:kind<256)(hl:ns.length<=64)(hns:∀n∈ns,n<64)(hsz:(Let.aL kind (cm w bm K ns)).bytes.size<=140737488355328):
  Calls aa.prog 80 #[.pointer (some ⟨b,0,none⟩),.int .u8 kind,nv] w λe w'=>e=.returned (.string (Let.aL kind (cm w bm K ns)).bytes)/\Below w.heap.size w w':=by
 have hfew:=hK.2;obtain⟨i0,hi0,hz0,hz1,hz2⟩:=VH aa.A8;obtain⟨ad,cap,rfl,hcap,hlc⟩:=jE hn;have hbl:=h.1.lt;have hlm:(cm w bm K ns).length=ns.length:=VJ ..;have HRec:Hid (∀n,n<64->∀W,Below w.heap.size w W->Calls aa.prog 49 #[.map (some (bm n))] W λe w'=>∃v rs,e=.returned v/\da w' W.heap.size v rs/\(∀r∈rs,az w' r.sv r.l)/\rs.map Rc.bV=dN K (cE w (bm n))/\Below W.heap.size W w'):=λn hn W hW=>by
  obtain⟨es,clock,e1,e2,e3,e4,_⟩:=(h.below hW).2.1 n hn;have e1':w.heap[bm n]?=some (.map es clock):=by rw[<-hW.block _ (h.2.1 n hn).lt];exact e1
  have hes:cE w (bm n)=es.toList:=by simp[cE,e1']
  have:=hfew n hn;rw[hes]at this ⊢;exact Dn (bm n) n K W es clock e1 e2 e3 e4 (by simp at this;omega)
 have HSeg:Hid (∀n,n<64->∀W,Below w.heap.size w W->W.cell? ⟨b,n+1,none⟩=some (.map (some (bm n)))):=λn hn W hW=>(h.below hW).1.ua hn;have HN:Hid (fO w Bn (.slice ad ns.length cap) ns):=hn;have HNs:Hid (∀n∈ns,n<64):=hns;have HTx:Hid (∀W lv gs,oC w w.heap.size kind (cm w bm K ns) ns.length W lv gs->Calls aa.prog 105 #[.agg #[.int .u8 kind,lv]] W λe w'=>e=.returned (.string (Let.aL kind (cm w bm K ns)).bytes)/\Below w.heap.size w w'):=by
  intro W lv gs hJ;have e1:gs.map Gm.is=cm w bm K ns:=by rw[hJ.is,<-hlm,VW]
  have e2:gs.length=ns.length:=by have:=congrArg List.length e1;simpa[cm] using this
  have hm:∀g∈gs,∃n,n<64/\g.1=n/\g.2.2.map Rc.bV=dN K (cE w (bm n)):=λg hg=>by
   have:g.is∈cm w bm K ns:=by rw[<-e1];exact W7 hg
   obtain⟨n,hn,e⟩:=Wm.1 this;exact⟨n,hns n hn,(congrArg Prod.fst e).symm,(congrArg Prod.snd e).symm⟩
  have:=Sz w.heap.size w.heap.size kind lv gs W (by rw[e2];exact hJ.row) hk (by omega) (λg hg=>by
   obtain⟨n,hn,h1,h2⟩:=hm g hg;have hlen:g.2.2.length=(cE w (bm n)).length:=by have:=congrArg List.length h2;rw[yB]at this;simpa using this
   have hf:=hfew n hn;refine⟨by omega,by omega,(hJ.lT g hg).1,λr hr=>⟨(hJ.lT g hg).2 r hr,?_⟩⟩;have:r.bV∈dN K (cE w (bm n)):=by rw[<-h2];exact W7 hr
   obtain⟨x,_,e⟩:=Wm.1 this;have e':r.l=(K (dF x)).2:=(congrArg (λt=>t.2.2) e).symm
   have:=(hK.1 (dF x)).2.1;rw[e'];omega) (by rw[e1];exact hsz)
  rw[e1]at this;exact this.mono λe w' ⟨he,hb⟩=>⟨he,bf hJ.bj hb⟩
 have HSg:Hid (∀k (h:k<ns.length),(cm w bm K ns).take (k+1)=(cm w bm K ns).take k++ [(ns[k],dN K (cE w (bm ns[k])))]):=λk h=>by
  rw[VO (by rw[hlm];exact h)];simp[cm]
 have HJ0:Hid (oC w w.heap.size kind (cm w bm K ns) 0 (w.alloc (.cells #[.int .u8 kind,.slice none 0 0] 132)) (.slice none 0 0) []):=⟨BY w _,Ww _ _ _ _,rfl,(λg hg=>by cases hg),(AT _ _).alloc (eR _) _⟩
 clear h hn hns hfew hsz hK;generalize cm w bm K ns=sg at*;go_enter aa.func80,aa.ntmps80;go_wp2;go_loopw [14] (λiv wr=>∃(k:Nat) (lv:Value) (gs:List Gm),k<=ns.length/\iv=.int .i64 k/\Hid (oC w w.heap.size kind sg k wr lv gs)) (λiv _=>ns.length-(intOf iv).toNat)
 case atStart=>exact⟨0,_,_,by omega,rfl,HJ0.out⟩
 case round=>
  obtain⟨k,lv,gs,hkl,rfl,HJ⟩:=hrel;clear HJ0;have hsw:=HJ.out.bj.size;obtain⟨cs,fs⟩:=au HJ.out.st;have y0:=cs 0;have y1:=cs 1;clear cs fs;by_cases hlt:k<ns.length
  ·obtain⟨g,cap',hv',hgl,_,_,cc⟩:=pa HN.out (show 0<ns.length by omega);cases hv';have cn:wr.cell? ⟨g,k,none⟩=some (.int .i64 ns[k]):=(HJ.out.bj.cell (p:=⟨g,k,none⟩) hgl).trans (cc k _ (by omega) (by rw[List.getElem?_map,List.getElem?_eq_getElem hlt];rfl));have hn64:=HNs.out _ (VB hlt);have HSk:=HSg.out k hlt;have cseg:=HSeg.out ns[k] hn64 wr HJ.out.bj;have HRk:Hid (Calls aa.prog 49 #[.map (some (bm ns[k]))] wr.drew λe w2=>∃ad2 len2 cap2 rs,e=.returned (.slice ad2 len2 cap2)/\da w2 w.heap.size (.slice ad2 len2 cap2) rs/\(∀r∈rs,az w2 r.sv r.l)/\rs.map Rc.bV=dN K (cE w (bm ns[k]))/\Below wr.heap.size wr w2):=by
    refine (HRec.out ns[k] hn64 wr.drew (HJ.out.bj.drew)).mono ?_;rintro e w2 ⟨v,rs,rfl,h1,h2,h3,h4⟩;obtain⟨ad2,cap2,rfl⟩:=gD h1;exact⟨ad2,_,cap2,rs,rfl,eE h1 hsw,h2,h3,bf (AT _ _).drew h4⟩
   have HSk':Hid (sg.take (k+1)=sg.take k++ [(ns[k],dN K (cE w (bm ns[k])))]):=HSk;clear HSk cc HRec HSeg HNs HSg;generalize dN K (cE w (bm ns[k]))=ro at*;generalize hnk:ns[k]=n at*;obtain⟨adl,capl,rfl⟩:=gD HJ.out.row;have a1:(k:Int)<(ns.length:Int):=by omega
   have a0:(0:Int)<=(k:Int):=by omega
   have m0:(0:Int)<=(n:Int):=by omega
   have m1:(n:Int)<64:=by omega
   have cseg':wr.cell? ⟨b,1+n,none⟩=some (.map (some (bm n))):=by rw[WS];exact cseg
   clear cseg;have y1':wr.cell? ⟨w.heap.size,1,none⟩=some (.slice adl k capl):=y1;clear y1;go_upto_region 5 with fail;have hnb:b≠w.heap.size:=by omega
   go_region_law (first
    |(refine step_append_lies _ rfl _ _ _ rfl w.heap.size 167 i0 _ 2 32 aa.underlying130 hi0 hz0 hz1 hz2 rfl (by omega) (.slice adl k capl) _ _ rfl HO2a.out ⟨w2.heap.size,0,none⟩ 1 1 [.int .i64 n,.slice ad2 len2 cap2] rfl rfl (VM (BY w2 _)) (by simp[Value.oneCell']) (by omega) (by unfold maxLen;omega) (by omega) (by have:=HB2.out.size;simp<;>omega) (w2.heap.size+1) (by simp) ?_;intro g4 cap4 w4 hown4 hgr4 hat4 hlt4;have HO4:Hid (w4.ownsRow w.heap.size 167 2 (.slice (some ⟨g4,0,none⟩) (k+1) cap4) (k+1) (fH gs++ [.int .i64 n,.slice ad2 len2 cap2])):=hown4;have hK4:bM (λt=>t≠167) w2 w4:=(bM.below ((AT _ _).alloc (eR _) _)).trans (bM.grown hgr4 HO2a.out (λh=>h rfl));have HK4:Hid (bM (λt=>t≠167) w2 w4):=hK4;have hc4:=hK4 _ _ _ _ (aS HJ.out.st HB2.out) (by decide);obtain⟨cb4,fb4⟩:=au hc4;have c41:=cb4 1;have f41:=fb4 1;have HB4:Hid (Below w.heap.size w w4):=Below.grown HBw.out hgr4 HBw.out.size (λq hq=>oZ HO2a.out hq);have s4:w4.cell? ⟨b,1+n,none⟩=some (.map (some (bm n))):=(HB4.out.cell (p:=⟨b,1+n,none⟩) hbl).trans ((HJ.out.bj.cell (p:=⟨b,1+n,none⟩) hbl).symm.trans cseg');clear cb4 fb4 hc4 hK4 hown4 hgr4)
    |(go_simp;go_at_call 49;refine By HRk.out ?_;rintro e w2 ⟨ad2,len2,cap2,rs,rfl,hr2,hv2,ht2,hb2⟩;have HRs2:Hid (da w2 w.heap.size (.slice ad2 len2 cap2) rs):=hr2;have HV2:Hid (∀r∈rs,az w2 r.sv r.l):=hv2;have HT2:Hid (rs.map Rc.bV=ro):=ht2;have HB2:Hid (Below wr.heap.size wr w2):=hb2;have HO2:Hid (w2.ownsRow w.heap.size 167 2 (.slice adl k capl) k (fH gs)):=dS HJ.out.row hb2 (eR _);have s2:=bp cseg' hb2;have y2:=bp y1' hb2;have hz2':w.heap.size<w2.heap.size:=(Array.getElem?_eq_some_iff.1 (aS HJ.out.st hb2)).1;have hb2':b<w2.heap.size:=(by omega);have HO2a:Hid ((w2.alloc (.cells #[.int .i64 n,.slice ad2 len2 cap2] 167)).ownsRow w.heap.size 167 2 (.slice adl k capl) k (fH gs)):=VD HO2.out _;have HBw:Hid (Below w.heap.size w (w2.alloc (.cells #[.int .i64 n,.slice ad2 len2 cap2] 167))):=(bf HJ.out.bj hb2).alloc (by have:=hb2.size;omega) _;clear hr2 hv2 ht2 hb2))
   all_goals
    go_wp2;exact⟨⟨k+1,_,gs++ [(n,.slice ad2 len2 cap2,rs)],by omega,by go_num,oC.step HJ.out HB2.out HRs2.out HV2.out HT2.out HK4.out HO4.out HB4.out HSk'.out⟩,by simp[intOf];omega⟩
  ·obtain rfl:k=ns.length:=by omega
   have HTx':Hid (Calls aa.prog 105 #[.agg #[.int .u8 kind,lv]] wr λe w'=>e=.returned (.string (Let.aL kind sg).bytes)/\Below w.heap.size w w'):=HTx.out wr lv gs HJ.out;go_wp2_with (go_at_call 105;refine By HTx'.out ?_;rintro e w9 ⟨rfl,hb9⟩)
   go_ret;exact⟨rfl,hb9⟩
end Go.Proofs.YtldmcdeibiclkaaGreatDoorQ
