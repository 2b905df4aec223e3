/-
  Toward converged_holds: How many keys there can be; and how long the text of a segment can be.
-/
import Derived.Test.YtldmcdeibiclkaaGreatDoorC19
import Derived.Test.YtldmcdeibiclkaaGreatDoorC17
set_option linter.unusedVariables false
set_option linter.unusedSimpArgs false
set_option maxRecDepth 100000
set_option maxHeartbeats 20000000
namespace Go.Proofs.YtldmcdeibiclkaaGreatDoorQ
variable {w W w' w1 W':World}{v:Value}{T:TypeId->Prop}{k b B i:Nat}{K:al}{bm:Nat->Nat}{xs:List Value}{t:TypeId}{s s0:ByteArray}{M:Array Value}{rc:List Rc}{rs:List ai}
open Go.RowKit
theorem Nc{k:ByteArray}(h:cS k=true):k.data.toList.length<=8/\∀b∈k.data.toList,qe b=true:=by
 simp only[cS,IN,VN,List.all_eq_true]at h;exact⟨by rw[Wc];exact h.1.2,h.2⟩
theorem Ky{l:List aj}(h:∀v∈l,v.val.size<=12):(dn l).size<=18*l.length:=by
 have key:∀(m:List aj) (s:ByteArray),(∀v∈m,v.val.size<=12)->(m.foldl (λs v=>s++gf v) s).size<=s.size+18*m.length:=λm=>by
  induction m with
  |nil=>intro s _;simp
  |cons v m ih=>
   intro s hs;have h1:=ih (s++gf v) λx hx=>hs x (by simp[hx]);have h2:=hs v (by simp);rw[IT,BH]at h1;rw[WM,VL];omega
 have:=key l ByteArray.empty h;simpa[dn] using this
theorem Ka{l:List (ByteArray×Ctx×List aj)}(h:∀r∈l,r.1.size<=8/\r.2.2.length<=100/\∀v∈r.2.2,v.val.size<=12):(kL l).size<=1829*l.length:=by
 have key:∀(m:List (ByteArray×Ctx×List aj)) (s:ByteArray),(∀r∈m,r.1.size<=8/\r.2.2.length<=100/\∀v∈r.2.2,v.val.size<=12)->(m.foldl (λs r=>s++dp r.1 r.2.1 r.2.2) s).size<=s.size+1829*m.length:=λm=>by
  induction m with
  |nil=>intro s _;simp
  |cons r m ih=>
   intro s hs;have h1:=ih (s++dp r.1 r.2.1 r.2.2) λx hx=>hs x (by simp[hx]);obtain⟨h2,h3,h4⟩:=hs r (by simp);have h5:=Ky h4;rw[IT,DL]at h1;rw[WM,VL];omega
 have:=key l ByteArray.empty h;simpa[kL] using this
section
open Go.Lib (strCells strCells_length strCells_oneCell Bytes)
theorem og(h:aG w B v s):(convert 48 9 v).run aa.prog w=.ok (.string s) w:=by
 rcases h.2 with⟨rfl,h0⟩|⟨g,cap,cur,rfl,_,hh,hn,_,hs,ht⟩
 ·obtain rfl:s=ByteArray.empty:=by
   apply WV;have:s.data.size=0:=h0;simpa using Array.eq_empty_of_size_eq_zero this
  simpa using Go.run_convert_bytes_nil (P:=aa.prog) w 48 5 aa.underlying48 aa.underlying5 0 0 9 aa.underlying9
 ·refine Go.Lib.run_convert_whole (P:=aa.prog) w 48 5 9 aa.underlying48 aa.underlying5 aa.underlying9 g 0 s (λi hi=>?_) cap;have e1:(strCells s)[i]?=some (.int .u8 (s[i].toNat:Int)):=by
   have hi':i<s.data.toList.length:=by rw[Wc];exact hi
   rw[strCells,List.getElem?_map,List.getElem?_eq_getElem hi'];simp;rfl
  rw[<-ht,List.getElem?_take,AS (by omega)]at e1;simpa[World.cell?,hh] using e1
def cE(w:World)(m:Nat):List MapEntry:=match w.heap[m]? with
 |some (.map es _)=>es.toList
 |_=>[]
def eO(w:World)(bm:Nat->Nat)(K:al)(n:Nat):ByteArray:=kL (dN K (cE w (bm n)))
theorem Dm{n:Nat}(h:w'.heap[bm n]?=w.heap[bm n]?):eO w' bm K n=eO w bm K n:=by
 simp only[eO,cE,h]
theorem Dk(hK:jj K){es:List MapEntry}{Q:ByteArray->Prop}{clock:Nat}(h:j8 Q es clock)(hQ:∀k,Q k->cS k=true):∀r∈dN K es,r.1.size<=8/\r.2.2.length<=100/\∀v∈r.2.2,v.val.size<=12:=λr hr=>by
 obtain⟨x,hx,rfl⟩:=Wm.1 hr
 have:=Nc (qL (λe he=>(h.2.2.2 e he).imp λk hk=>⟨hk.1,hQ k hk.2⟩) hx);exact⟨by simpa using this.1,(hK _).2.1,(hK _).2.2.1⟩
theorem yB(K:al)(es:List MapEntry):(dN K es).length=es.length:=by
 rw[dN,VJ,(oe _).length_eq,cX,VJ]
def yr(w:World)(bm:Nat->Nat):Prop:=∀n,n<64->(cE w (bm n)).length<=1000
def dD(w:World)(bm:Nat->Nat)(K:al):Prop:=jj K/\yr w bm
theorem wK{m:Nat}(h:w'.heap[m]?=w.heap[m]?):cE w' m=cE w m:=by simp only[cE,h]
theorem dD.below{num:Nat}(hK:dD w bm K)(h:aA w b bm num K)(hb:Below w.heap.size w W):dD W bm K:=
 ⟨hK.1,λn hn=>by rw[wK (hb.block _ (h.2.1 n hn).lt)];exact hK.2 n hn⟩
theorem xY{num:Nat}(h:aA w b bm num K)(hK:dD w bm K){n:Nat}(hn:n<64):(eO w bm K n).size<=1829000:=by
 have hf:=hK.2 n hn;obtain⟨es,clock,hm,hk,hall,hst,_⟩:=h.2.1 n hn;have h1:=Ka (Dk hK.1 hst λk h=>h.2.2);rw[yB]at h1;simp only[eO,cE,hm] at*;omega
theorem DZ(b num n:Nat)(bm:Nat->Nat)(K:al)(w:World)(h:aA w b bm num K)(hK:dD w bm K)(hn:n<64):
  Calls aa.prog 28 #[.pointer (some ⟨b,0,none⟩),.int .i64 n] w λe w'=>e=.returned (.string (eO w bm K n))/\Below w.heap.size w w':=by
 have hc:=h.1.ua hn;have hsz:=xY h hK hn;have h2:=hK.2 n hn;obtain⟨es,clock,hm,hk,hall,hst,_⟩:=h.2.1 n hn;simp only[cE,hm]at h2;have HF:Hid (∀r∈dN K es.toList,r.1.size<=8/\r.2.2.length<=100/\∀v∈r.2.2,v.val.size<=12):=Dk hK.1 hst λk h=>h.2.2;have HRec:Hid _:=Dn (bm n) n K w es clock hm hk hall hst (by rw[Wc]at h2;omega);have HT:Hid (eO w bm K n=kL (dN K es.toList)):=(show eO w bm K n=kL (dN K es.toList) by simp only[eO,cE,hm])
 generalize eO w bm K n=tx at*;have hl':(n:Int)<64:=by omega
 have hl0:(0:Int)<=(n:Int):=by omega
 have hc':w.cell? ⟨b,1+n,none⟩=some (.map (some (bm n))):=by rw[WS];exact hc
 clear h hK hm hk hall hst h2 hc;generalize bm n=m at*;go_enter aa.func28,aa.ntmps28;go_wp2_with (first
  |(go_at_call 49;refine By HRec.out ?_;rintro e w1 ⟨rv,rs,rfl,hrow,hv,htri,hb1⟩;have HA:Hid _:=TI w.heap.size rv rs w1 hrow (λr hr=>⟨hv r hr,by have h3:=(HF.out (Rc.bV r) (by rw[<-htri];exact W7 hr)).2.1;exact OF h3 (by decide)⟩) (by rw[yX,htri,<-HT.out];omega);have HB1:Hid (Below w.heap.size w w1):=hb1;have HE:Hid (cZ rs=tx):=(show cZ rs=tx by rw[yX,htri,<-HT.out]);clear hrow hv htri hb1)
  |(go_at_call 48;refine By HA.out ?_;rintro e w2 ⟨v2,rfl,hrow2,hb2⟩;rw[HE.out]at hrow2;have hcv:=og hrow2;have HB2:Hid (Below w.heap.size w w2):=HB1.out.trans (hb2.mono HB1.out.size);clear hrow2 hb2))
 go_ret;exact⟨rfl,HB2.out⟩
end
section
open Go.Lib (strCells strCells_length strCells_oneCell)
theorem aa.DO:(aa.prog.info? 44).map (λi=>(i.zero,i.size,i.bytes))=some (some (.int .u64 0),1,8):=by kernel_rfl
def fP(w:World)(B:Nat)(v:Value)(ds:List Int):Prop:=w.ownsRow B 44 1 v ds.length (ds.map (.int .u64))
theorem Bi{x:Value}(hs:k<M.size)(h:M.toList.take k=xs):(M.setIfInBounds k x).toList.take (k+1)=xs++ [x]:=by
 subst h;apply List.ext_getElem?;intro t;have hl:(M.toList.take k).length=k:=by simp;omega
 by_cases h1:t<k
 ·rw[List.getElem?_take,AS (by omega),List.getElem?_append_left (by omega),List.getElem?_take,AS h1];simp only[Array.getElem?_toList,Array.getElem?_setIfInBounds];rw[AI (by omega)]
 ·rw[List.getElem?_append_right (by omega),hl];by_cases h2:t=k
  ·subst h2;rw[List.getElem?_take,AS (by omega)];simp only[Array.getElem?_toList,Array.getElem?_setIfInBounds];simp[hs]
  ·rw[List.getElem?_take,AI (by omega),List.getElem?_eq_none (by simp;omega)]
def o8(w:World)(f:Nat->Int)(n k:Nat)(wr:World):Prop:=
 ∃M:Array Value,wr.heap[w.heap.size]?=some (.cells M 44)/\M.size=n/\M.toList.take k=((List.range k).map f).map (.int .u64)/\Below w.heap.size w wr
theorem o8.row{wr:World}{f:Nat->Int}{n:Nat}(h:o8 w f n n wr)(hn:n<=maxLen):fP wr w.heap.size (.slice (some ⟨w.heap.size,0,none⟩) n n) ((List.range n).map f):=by
 obtain⟨M,h1,h2,h3,h4⟩:=h;refine⟨by simp,Or.inr ⟨w.heap.size,n,M,by simp,eR _,h1,by simp,hn,by omega,?_⟩⟩;simpa using h3
theorem E5(h:w.heap[b]?=some (.cells M t))(hk:k<M.size):(∃x,w.cell? ⟨b,k,none⟩=some x)/\∀o,w.frozen? ⟨b,o,none⟩=false:=
 ⟨⟨M[k],by simp only[World.cell?,h];simp[hk]⟩,λo=>by simp[World.frozen?,h]⟩
noncomputable def vN:Func:={Tryz.f68 with ntmps:=20,results:=#[.tmp 6],body:=some YtldmcdeibiclkaaGreatDoor.U.oN}
theorem aa.func68:aa.prog.funcs[68]?=some vN:=by
 rw[aa.is,aa.DD,YtldmcdeibiclkaaGreatDoor.U.Gg,Array.getElem?_setIfInBounds_self,AS]
 ·rw[YtldmcdeibiclkaaGreatDoor.U.mz,Tryz.func68];rfl
 ·have:=Tryz.func68;exact (Array.getElem?_eq_some_iff.1 this).1
theorem aa.ntmps68:vN.ntmps=20:=rfl
theorem aa.results68:vN.results=#[.tmp 6]:=rfl
attribute [local simp] aa.results68
theorem TZ(b first c:Nat)(T:Nat->ByteArray)(w:World)(hT:∀k:Nat,k<64->∀W,Below w.heap.size w W->Calls aa.prog 28 #[.pointer (some ⟨b,0,none⟩),.int .i64 k] W λe w'=>e=.returned (.string (T k))/\Below W.heap.size W w')(hTs:∀k,k<64->(T k).size<=maxLen)(hc:c=1\/c=4\/c=16\/c=64)(hf:first+c<=64):
  Calls aa.prog 68 #[.int .i64 first,.int .i64 c,.func (.func 28) #[.pointer (some ⟨b,0,none⟩)] #[]] w λe w'=>∃v,e=.returned v/\fP w' w.heap.size v ((List.range c).map λi=>dA (T (first+i)))/\Below w.heap.size w w':=by
 obtain⟨i0,hi0,hz0,hz1,hz2⟩:=VH aa.DO;have hmk:=run_make (P:=aa.prog) w 147 44 i0 _ aa.underlying147 hi0 hz0 .i64 .i64 c c (by omega) (by omega) (by rw[hz2];omega) (by omega);rw[hz1]at hmk;simp only[Int.toNat_natCast]at hmk;have hM:=size_madeCells (Value.int .u64 0).cells (c*1);generalize madeCells (Value.int .u64 0).cells (c*1)=M at hmk hM;have HM:Hid (M.size=c):=(show M.size=c by rw[hM,Nat.mul_one])
 have HT:Hid _:=hT;have HTs:Hid _:=hTs;clear hM hi0 hz0 hz1 hz2 hT hTs;obtain⟨b1,h1⟩: ∃x,((c:Int)==1)=x:=⟨_,rfl⟩
 obtain⟨b2,h2⟩: ∃x,((c:Int)==4)=x:=⟨_,rfl⟩
 obtain⟨b3,h3⟩: ∃x,((c:Int)==16)=x:=⟨_,rfl⟩
 obtain⟨b4,h4⟩: ∃x,((c:Int)==64)=x:=⟨_,rfl⟩
 have HB:Hid ((b1||b2||b3||b4)=true):=(show (b1||b2||b3||b4)=true by
  rw[<-h1,<-h2,<-h3,<-h4];rcases hc with rfl|rfl|rfl|rfl<;>rfl)
 clear hc;go_enter aa.func68,aa.ntmps68;simp only[YtldmcdeibiclkaaGreatDoor.U.oN,YtldmcdeibiclkaaGreatDoor.U.qOp,YtldmcdeibiclkaaGreatDoor.U.qI,YtldmcdeibiclkaaGreatDoor.U.qU,YtldmcdeibiclkaaGreatDoor.U.jk,YtldmcdeibiclkaaGreatDoor.U.xu,YtldmcdeibiclkaaGreatDoor.U.wE];go_wp2
 all_goals
  clear h1 h2 h3 h4;(try cases (show b1=true by assumption))
  (try cases (show b1=false by assumption))
  (try cases (show b2=true by assumption))
  (try cases (show b2=false by assumption))
  (try cases (show b3=true by assumption))
  (try cases (show b3=false by assumption))
  (try cases (show b4=true by assumption))
  (try cases (show b4=false by assumption))
 all_goals first
  |(exact absurd HB.out (by decide))
  |(exact absurd (show true=false by assumption) (by decide))
  |skip
 all_goals
  clear HB;go_loopw [3] (λi wr=>∃k:Nat,k<=c/\i=.int .i64 k/\Hid (o8 w (λi=>dA (T (first+i))) c k wr)) (λi _=>c-(intOf i).toNat)
  case atStart=>exact⟨0,by omega,rfl,M,BY w _,HM.out,by simp,(AT _ _).alloc (eR _) _⟩
  case round=>
   obtain⟨k,hk,rfl,hrel⟩:=hrel;by_cases hlt:k<c
   ·obtain⟨M',hh,hms,htk,hb⟩:=hrel.out;have hT1:=HT.out (first+k) (by omega);simp only[Int.natCast_add]at hT1;have HT1:Hid (∀W,Below w.heap.size w W->Calls aa.prog 28 #[.pointer (some ⟨b,0,none⟩),.int .i64 ((first:Int)+(k:Int))] W λe w'=>e=.returned (.string (T (first+k)))/\Below W.heap.size W w'):=hT1;have hsz:Hid ((T (first+k)).size<=maxLen):=HTs.out (first+k) (by omega);have HTk:Hid (((List.range (k+1)).map λi=>dA (T (first+i))).map (Value.int .u64)=((List.range k).map λi=>dA (T (first+i))).map (Value.int .u64)++ [.int .u64 (dA (T (first+k)))]):=(show (((List.range (k+1)).map λi=>dA (T (first+i))).map (Value.int .u64))=_ by simp[Wn])
    have hF:=qg (T (first+k)) (T (first+k)).size;have hF0:0<=dA (T (first+k)):=hF.1;have hF1:dA (T (first+k))<18446744073709551616:=hF.2;clear hF hT1;have HS:Hid (∀W,Calls aa.prog 82 #[.string (T (first+k))] W λe w'=>e=.returned (.int .u64 (dA (T (first+k))))/\w'=W):=λW=>wG _ W hsz.out;generalize dA (T (first+k))=F at*;generalize T (first+k)=tx at*;have HH:Hid (wr.heap[w.heap.size]?=some (.cells M' 44)/\M'.size=c/\M'.toList.take k=((List.range k).map λi=>dA (T (first+i))).map (.int .u64)/\Below w.heap.size w wr):=⟨hh,hms,htk,hb⟩
    have hbs:=hb.size;have hbo:=(Array.getElem?_eq_some_iff.1 hh).1;clear hh hms htk hb hrel;have g63:(k:Int)<(c:Int):=by omega
    have k0:(0:Int)<=(k:Int):=by omega
    have f0:(0:Int)<=(first:Int):=by omega
    have fk:(first:Int)+(k:Int)<64:=by omega
    go_wp2_with (first
     |(go_at_call 28;refine By (HT1.out _ HH.out.2.2.2) ?_;rintro e w1 ⟨rfl,hb1⟩;have HB1:Hid (Below wr.heap.size wr w1):=hb1;clear hb1)
     |(go_at_call 28;refine By (HT1.out _ (HH.out.2.2.2.trans (HB1.out.mono hbs))) ?_;rintro e w3 ⟨rfl,hb3⟩;have HB3:Hid (Below wr.heap.size wr w3):=HB1.out.trans (hb3.mono HB1.out.size);have m0:=aS HH.out.1 HB3.out;obtain⟨⟨x1,m1⟩,m2⟩:=E5 (k:=k) m0 (by rw[HH.out.2.1];exact hlt);have HM0:Hid (w3.heap[w.heap.size]?=some (.cells M' 44)):=m0;clear hb3 m0)
     |(go_at_call 82;refine By (HS.out _) ?_;rintro e w2 ⟨rfl,rfl⟩))
    refine⟨⟨k+1,by omega,by go_num,_,heap_set HM0.out,by rw[VX];exact HH.out.2.1,?_,(HH.out.2.2.2.trans (HB3.out.mono hbs)).setCell (eR _) _⟩,by simp[intOf];omega⟩;rw[HTk.out];exact Bi (by rw[HH.out.2.1];exact hlt) HH.out.2.2.1
   ·obtain rfl:k=c:=by omega
    have HR:Hid (o8 w (λi=>dA (T (first+i))) k k wr):=hrel.out;clear hrel;go_wp2;go_ret;exact⟨_,rfl,HR.out.row (by unfold maxLen;omega),HR.out.elim λM' h=>h.2.2.2⟩
end
section
open Go.Lib (strCells strCells_length strCells_oneCell)
theorem Gd{n:Nat}(h:n<=3):n=0\/n=1\/n=2\/n=3:=by omega
theorem kU(h:k<=3):4 ^ k<=64/\1<=4 ^ k:=by
 rcases Gd h with rfl|rfl|rfl|rfl<;>decide
theorem FX(n:Nat)(hn:n<=3)(w:World):Calls aa.prog 46 #[.int .i64 n] w λe w'=>e=.returned (.int .i64 (4 ^ n:Nat))/\w'=w:=by
 go_enter aa.func46,aa.ntmps46;go_wp2;go_loop [3,5] (λc i=>∃k:Nat,k<=n/\i=.int .i64 k/\c=.int .i64 (4 ^ k:Nat)) (λ_ i=>n-(intOf i).toNat)
 case atStart=>exact⟨0,by omega,rfl,rfl⟩
 case round=>
  obtain⟨k,hk,rfl,rfl⟩:=hrel;by_cases hlt:k<n
  ·have g1:(k:Int)<(n:Int):=by omega
   have hp:=(kU (k:=k) (by omega)).1;have HP:Hid (4 ^ (k+1)=4 ^ k*4):=Wf ..;generalize 4 ^ k=p at*;go_wp2;exact⟨⟨k+1,by omega,by go_num,by rw[HP.out];go_num⟩,by simp[intOf];omega⟩
  ·obtain rfl:k=n:=by omega
   go_wp2;go_ret;exact⟨rfl,rfl⟩
theorem B7(l n:Nat)(hl:l<=4)(w:World):Calls aa.prog 26 #[.int .i64 l,.int .i64 n] w λe w'=>e=.returned (.bool (decide (l<=3/\n<4 ^ l)))/\w'=w:=by
 have l0:(0:Int)<=(l:Int):=by omega
 have n0:(0:Int)<=(n:Int):=by omega
 by_cases h3:l<=3
 ·have l3:(l:Int)<=3:=by omega
  have HW:Hid (∀W,Calls aa.prog 46 #[.int .i64 l] W λe w'=>e=.returned (.int .i64 (4 ^ l:Nat))/\w'=W):=λW=>FX l h3 W;have HD:Hid (decide (l<=3/\n<4 ^ l)=decide (n<4 ^ l)):=(show decide (l<=3/\n<4 ^ l)=decide (n<4 ^ l) by simp[h3])
  rw[HD.out];clear HD;generalize 4 ^ l=p at*;go_enter aa.func26,aa.ntmps26;go_wp2_with (go_at_call 46;refine By (HW.out _) ?_;rintro e w1 ⟨rfl,rfl⟩)
  go_ret;exact⟨rfl,rfl⟩
 ·obtain rfl:l=4:=by omega
  go_enter aa.func26,aa.ntmps26;go_wp2;go_ret;exact⟨rfl,rfl⟩
def cA(d:Nat->Int):Nat->ByteArray
 |0=>ByteArray.empty
 |k+1=>cA d k++fD (d k)
theorem Vl(d:Int):(fD d).size=8:=ry d 8
theorem nJ(d:Nat->Int):∀k,(cA d k).size=8*k
 |0=>rfl
 |k+1=>by rw[cA,IT,nJ d k,Vl];omega
def fV(d:Nat->Int):Int:=dA (cA d 4)
theorem Jr(g off cap:Nat)(d:Nat->Int)(w:World)(hg:g<w.heap.size)(hc:∀j,j<4->w.cell? ⟨g,off+j,none⟩=some (.int .u64 (d j)))(hcap:(cap:Int)<=9223372036854775807):
  Calls aa.prog 92 #[.slice (some ⟨g,off,none⟩) 4 cap] w λe w'=>e=.returned (.int .u64 (fV d))/\Below w.heap.size w w':=by
 have HC:Hid _:=hc;clear hc;go_enter aa.func92,aa.ntmps92;go_wp2;go_loopw [3,8] (λo i wr=>∃k:Nat,k<=4/\i=.int .i64 k/\Hid (aG wr w.heap.size o (cA d k))/\Hid (Below w.heap.size w wr)) (λ_ i _=>4-(intOf i).toNat)
 case atStart=>exact⟨0,by omega,rfl,aG.nil _ _,AT _ _⟩
 case round=>
  obtain⟨k,hk,rfl,hr,hb⟩:=hrel;have HR:Hid (aG wr w.heap.size u3 (cA d k)):=hr.out;have HB:Hid (Below w.heap.size w wr):=hb.out;have hsz:=hb.out.size;clear hr hb;by_cases hlt:k<4
  ·have hcw:wr.cell? ⟨g,off+k,none⟩=some (.int .u64 (d k)):=(HB.out.cell (p:=⟨g,off+k,none⟩) hg).trans (HC.out k hlt);have g1:(k:Int)<4:=by omega
   have g0:(0:Int)<=(k:Int):=by omega
   have HA:Hid _:=vE w.heap.size u3 (cA d k) (d k) wr HR.out hsz (by rw[nJ];omega);go_wp2_with (go_at_call 50;refine By HA.out ?_;rintro e w1 ⟨v1,rfl,hr1,hg1⟩;have HR1:Hid (aG w1 w.heap.size v1 (cA d (k+1))):=hr1;have HB1:Hid (Below w.heap.size w w1):=hg1.toBelow HB.out hsz HR.out;clear hr1 hg1)
   exact⟨⟨k+1,by omega,by go_num,HR1.out,HB1.out⟩,by simp[intOf];omega⟩
  ·obtain rfl:k=4:=by omega
   have hcv:=og HR.out;have HS:Hid (∀W,Calls aa.prog 82 #[.string (cA d 4)] W λe w'=>e=.returned (.int .u64 (fV d))/\w'=W):=λW=>wG _ W (by rw[nJ];decide);go_wp2_with (go_at_call 82;refine By (HS.out _) ?_;rintro e w2 ⟨rfl,rfl⟩)
   go_ret;exact⟨rfl,HB.out⟩
theorem fP.len{ds:List Int}(h:fP w B v ds): ∃ad cap,v=.slice ad ds.length cap/\(cap:Int)<=9223372036854775807/\ds.length<=cap:=jE h
theorem fP.below{ds:List Int}(h:fP w B v ds)(hb:Below w.heap.size w w'):fP w' B v ds:=dS h hb (eR _)
theorem Qc(B m:Nat)(v:Value)(f:Nat->Int)(w:World)(hm:1<=m/\m<=16)(h:fP w B v ((List.range (m*4)).map f)):
  Calls aa.prog 69 #[v] w λe w'=>∃v',e=.returned v'/\fP w' w.heap.size v' ((List.range m).map λi=>fV λj=>f (i*4+j))/\Below w.heap.size w w':=by
 obtain⟨g,cap,rfl,hgl,hcells,hcap,hcl⟩: ∃g cap,v=.slice (some ⟨g,0,none⟩) (m*4) cap/\g<w.heap.size/\(∀k,k<m*4->w.cell? ⟨g,k,none⟩=some (.int .u64 (f k)))/\(cap:Int)<=9223372036854775807/\m*4<=cap:=by
  have hl:((List.range (m*4)).map f).length=m*4:=by simp
  have hget:∀k,k<m*4->(((List.range (m*4)).map f).map (Value.int .u64))[k]?=some (.int .u64 (f k)):=λk hk=>by simp[hk]
  unfold fP at h;rw[hl]at h;obtain⟨g,cap,hv,hg,_⟩:=tW h (hget 0 (by omega));obtain⟨ad,cap',hv',hc1,hc2⟩:=jE h;rw[hv]at hv';cases hv';refine⟨g,cap,hv,hg,λk hk=>?_,hc1,hc2⟩;obtain⟨g',cap',hv',_,hc⟩:=tW h (hget k hk);rw[hv]at hv';cases hv';exact hc
 clear h;obtain⟨i0,hi0,hz0,hz1,hz2⟩:=VH aa.DO;have hmk:=run_make (P:=aa.prog) w 147 44 i0 _ aa.underlying147 hi0 hz0 .i64 .i64 m m (by omega) (by omega) (by rw[hz2];omega) (by omega);rw[hz1]at hmk;simp only[Int.toNat_natCast]at hmk;have hM:=size_madeCells (Value.int .u64 0).cells (m*1);generalize madeCells (Value.int .u64 0).cells (m*1)=M at hmk hM;have HM:Hid (M.size=m):=(show M.size=m by rw[hM,Nat.mul_one])
 have HC:Hid _:=hcells;clear hM hi0 hz0 hz1 hz2 hcells;have hquo:Int.tdiv ((m*4:Nat):Int) 4=(m:Int):=by
  rw[Int.natCast_mul];exact Int.mul_tdiv_cancel _ (by decide)
 have hquo2:((m*4:Nat):Int) / 4=(m:Int):=by omega
 go_enter aa.func69,aa.ntmps69;go_wp2;clear hquo hquo2;go_loopw [11] (λi wr=>∃k:Nat,k<=m/\i=.int .i64 k/\Hid (o8 w (λi=>fV λj=>f (i*4+j)) m k wr)) (λi _=>m-(intOf i).toNat)
 case atStart=>exact⟨0,by omega,rfl,M,BY w _,HM.out,by simp,(AT _ _).alloc (eR _) _⟩
 case round=>
  obtain⟨k,hk,rfl,hrel⟩:=hrel;by_cases hlt:k<m
  ·obtain⟨M',hh,hms,htk,hb⟩:=hrel.out;have HTk:Hid (((List.range (k+1)).map λi=>fV λj=>f (i*4+j)).map (Value.int .u64)=((List.range k).map λi=>fV λj=>f (i*4+j)).map (Value.int .u64)++ [.int .u64 (fV λj=>f (k*4+j))]):=(show (((List.range (k+1)).map λi=>fV λj=>f (i*4+j)).map (Value.int .u64))=_ by simp[Wn])
   have HN:Hid _:=Jr g (k*4) (cap-k*4) (λj=>f (k*4+j)) wr (VA hgl hb.size) (λj hj=>(hb.cell (p:=⟨g,k*4+j,none⟩) hgl).trans (HC.out (k*4+j) (by omega))) (by omega);generalize (fV λj=>f (k*4+j))=F at*;have HH:Hid (wr.heap[w.heap.size]?=some (.cells M' 44)/\M'.size=m/\M'.toList.take k=((List.range k).map λi=>fV λj=>f (i*4+j)).map (.int .u64)/\Below w.heap.size w wr):=⟨hh,hms,htk,hb⟩
   have hbs:=hb.size;have hbo:=(Array.getElem?_eq_some_iff.1 hh).1;clear hh hms htk hb hrel;have hsl:∀W,(Instr.slice 147 (.slice (some ⟨g,0,none⟩) (m*4) cap) (some (.int .i64 ((k:Int)*4))) (some (.int .i64 (((k:Int)+1)*4))) none).run aa.prog W=.ok (.slice (some ⟨g,k*4,none⟩) 4 (cap-k*4)) W:=λW=>by
    have:=Go.Lib.run_slice_window (P:=aa.prog) W 147 44 aa.underlying147 aa.sizeOf44 g 0 (m*4) cap (k*4) ((k+1)*4) (by omega) (by omega);rw[show (k+1)*4-k*4=4 by omega,Nat.zero_add]at this;simpa using this
   have g63:(k:Int)<(m:Int):=by omega
   have k0:(0:Int)<=(k:Int):=by omega
   go_wp2_with (go_at_call 92;refine By HN.out ?_;rintro e w3 ⟨rfl,hb3⟩;have HB3:Hid (Below wr.heap.size wr w3):=hb3;have m0:=aS HH.out.1 HB3.out;obtain⟨⟨x1,m1⟩,m2⟩:=E5 (k:=k) m0 (by rw[HH.out.2.1];exact hlt);have HM0:Hid (w3.heap[w.heap.size]?=some (.cells M' 44)):=m0;clear hb3 m0)
   refine⟨⟨k+1,by omega,by go_num,_,heap_set HM0.out,by rw[VX];exact HH.out.2.1,?_,(HH.out.2.2.2.trans (HB3.out.mono hbs)).setCell (eR _) _⟩,by simp[intOf];omega⟩;rw[HTk.out];exact Bi (by rw[HH.out.2.1];exact hlt) HH.out.2.2.1
  ·obtain rfl:k=m:=by omega
   have HR:Hid (o8 w (λi=>fV λj=>f (i*4+j)) k k wr):=hrel.out;clear hrel;go_wp2;go_ret;exact⟨_,rfl,HR.out.row (by unfold maxLen;omega),HR.out.elim λM' h=>h.2.2.2⟩
end
def ml(ns:List Nat):Nat->Int
 |0=>-1
 |k+1=>((ns[k]?).getD 0:Nat)
theorem JE{ns:List Nat}(h:ns.Pairwise (· < ·))(hk:k<ns.length):ml ns k<(ns[k]:Int):=by
 cases k with
 |zero=>simp only[ml];omega
 |succ k=>
  have:=List.pairwise_iff_getElem.1 h k (k+1) (by omega) hk (by omega);simp only[ml,List.getElem?_eq_getElem (show k<ns.length by omega),WR];omega
theorem EH(cl:FuncId)(hcl:cl=75\/cl=76)(b lv:Nat)(c1 c2:Value)(ns:List Nat)(rest body:Nat->ByteArray)(J:Nat->World->Prop)(w:World)(h:bG w b (av ns.length++rest 0))(h1:1<=ns.length/\ns.length<=64)(hlv:lv<=3)(hns:∀n∈ns,n<4 ^ lv)(hasc:ns.Pairwise (· < ·))(hrest:∀k (h:k<ns.length),rest k=av ns[k]++(body k++rest (k+1)))(hJ0:∀w',Rd w w' b (rest 0)->J 0 w')(hJr:∀k W,J k W->bG W b (rest k))(hclo:∀k (h:k<ns.length) W W',J k W->Rd W W' b (body k++rest (k+1))->Calls aa.prog cl #[.int .i64 ns[k],c1,c2] W' λe w'=>e=.returned (.tuple #[])/\J (k+1) w'):
  Calls aa.prog 74 #[.pointer (some ⟨b,0,none⟩),.int .i64 lv,.func (.func cl) #[] #[c1,c2]] w λe w'=>e=.returned (.tuple #[])/\J ns.length w':=by
 have HB:Hid (Calls aa.prog 53 #[.pointer (some ⟨b,0,none⟩)] w λe w'=>e=.returned (.int .i64 ns.length)/\J 0 w'):=(mx b ns.length _ w h (by omega) (by omega)).mono λe w' ⟨he,hr⟩=>⟨he,hJ0 w' hr⟩
 have HM:Hid _:=uf b;have HF:Hid (∀k W,J k W->Calls aa.prog 99 #[.pointer (some ⟨b,0,none⟩)] W λe w'=>e=.returned (.bool false)/\w'=W):=λk W hJ=>CY b _ W (hJr k W hJ);have HBk:Hid (∀k (h:k<ns.length) W,J k W->Calls aa.prog 53 #[.pointer (some ⟨b,0,none⟩)] W λe w'=>e=.returned (.int .i64 ns[k])/\Rd W w' b (body k++rest (k+1))):=λk hk W hJ=>by
  have hn:=hns _ (VB hk);have h4:=(kU hlv).1;have hr:=hJr k W hJ;rw[hrest k hk]at hr;exact mx b ns[k] _ W hr (by omega) (by omega)
 have HH:Hid (∀k (h:k<ns.length) W,Calls aa.prog 26 #[.int .i64 lv,.int .i64 ns[k]] W λe w'=>e=.returned (.bool true)/\w'=W):=λk hk W=>by
  have:=B7 lv ns[k] (by omega) W;rw[Xl ⟨hlv,hns _ (VB hk)⟩]at this;exact this
 have HC:Hid (∀k (h:k<ns.length) W W',J k W->Rd W W' b (body k++rest (k+1))->Calls aa.prog cl #[.int .i64 ns[k],c1,c2] W' λe w'=>e=.returned (.tuple #[])/\J (k+1) w'):=hclo;have HL:Hid (∀k (h:k<ns.length),ml ns k<(ns[k]:Int)):=λk hk=>JE hasc hk;have n1:(1:Int)<=(ns.length:Int):=by omega
 have n2:(ns.length:Int)<=64:=by omega
 clear h hJ0 hJr hclo hns hasc hrest;rcases hcl with rfl|rfl
 all_goals
  go_enter aa.func74,aa.ntmps74;go_wp2_with (first
   |(go_at_call 53;refine HB.out.mono ?_;rintro e w1 ⟨rfl,hj1⟩;have HJ1:Hid (J 0 w1):=hj1;clear hj1)
   |(go_at_call 57;refine (HM.out _).mono ?_;rintro e w' ⟨rfl,hw'⟩;subst w'))
  go_loopw [7,8] (λlv iv wr=>∃k:Nat,k<=ns.length/\lv=.int .i64 (ml ns k)/\iv=.int .i64 k/\Hid (J k wr)) (λ_ iv _=>ns.length-(intOf iv).toNat)
  case atStart=>exact⟨0,by omega,rfl,rfl,HJ1.out⟩
  case round=>
   obtain⟨k,hk,rfl,rfl,HJ⟩:=hrel;by_cases hkl:k<ns.length
   ·have k1:(k:Int)<(ns.length:Int):=by omega
    have hdk:decide ((k:Int)<(ns.length:Int))=true:=by simpa using hkl
    have hln:=HL.out k hkl;have HLs:Hid (ml ns (k+1)=(ns[k]:Int)):=(show ml ns (k+1)=(ns[k]:Int) by simp[ml,hkl])
    have HF':Hid (Calls aa.prog 99 #[.pointer (some ⟨b,0,none⟩)] wr λe w'=>e=.returned (.bool false)/\w'=wr):=HF.out k wr HJ.out;have HB':Hid (Calls aa.prog 53 #[.pointer (some ⟨b,0,none⟩)] wr λe w'=>e=.returned (.int .i64 ns[k])/\Rd wr w' b (body k++rest (k+1))):=HBk.out k hkl wr HJ.out;have HH':Hid (∀W,Calls aa.prog 26 #[.int .i64 lv,.int .i64 ns[k]] W λe w'=>e=.returned (.bool true)/\w'=W):=λW=>HH.out k hkl W;have HC':Hid (∀W',Rd wr W' b (body k++rest (k+1))->Calls aa.prog _ #[.int .i64 ns[k],c1,c2] W' λe w'=>e=.returned (.tuple #[])/\J (k+1) w'):=λW' h=>HC.out k hkl wr W' HJ.out h;generalize ns[k]=nk at*;clear HF HBk HH HC HL HB;go_wp2_with (first
     |(go_at_call 99;refine HF'.out.mono ?_;rintro e w' ⟨rfl,hw'⟩;subst w')
     |(go_at_call 53;refine HB'.out.mono ?_;rintro e w2 ⟨rfl,hr2⟩;have HR2:Hid (Rd wr w2 b (body k++rest (k+1))):=hr2;clear hr2)
     |(go_at_call 26;refine (HH'.out _).mono ?_;rintro e w' ⟨rfl,hw'⟩;subst w')
     |(go_at_call 57;refine (HM.out _).mono ?_;rintro e w' ⟨rfl,hw'⟩;subst w')
     |((first|go_at_call 75|go_at_call 76);refine (HC'.out _ HR2.out).mono ?_;rintro e w3 ⟨rfl,hj3⟩;have HJ3:Hid (J (k+1) w3):=hj3;clear hj3))
    exact⟨⟨k+1,by omega,by rw[HLs.out],by go_num,HJ3.out⟩,by simp[intOf];omega⟩
   ·obtain rfl:k=ns.length:=by omega
    go_wp2;go_end0;exact⟨rfl,HJ.out⟩
theorem aa.A8:(aa.prog.info? 167).map (λi=>(i.zero,i.size,i.bytes))=some (some (.agg #[.int .i64 0,.slice none 0 0]),2,32):=by kernel_rfl
def bM(T:TypeId->Prop)(w w':World):Prop:=∀(k:Nat) (cs:Array Value) (t:TypeId) (fr:Nat×Nat),w.heap[k]?=some (.cells cs t fr)->T t->w'.heap[k]?=some (.cells cs t fr)
theorem bM.row(h:bM T w w'){size n:Nat}(hr:w.ownsRow B t size v n xs)(ht:T t):w'.ownsRow B t size v n xs:=by
 obtain⟨h1,h2⟩:=hr;refine⟨h1,?_⟩;rcases h2 with h2|⟨g,cap,cur,hv,hg,hh,r⟩
 ·exact Or.inl h2
 ·exact Or.inr ⟨g,cap,cur,hv,hg,h _ _ _ _ hh ht,r⟩
theorem bM.trans{w2:World}(h:bM T w w1)(h':bM T w1 w2):bM T w w2:=λk cs t fr hk ht=>h' _ _ _ _ (h _ _ _ _ hk ht) ht
theorem bM.below(h:Below w.heap.size w w1):bM T w w1:=λ_ _ _ _ hk _=>aS hk h
theorem bM.rd(h:Rd w w1 b s)(h0:bG w b s0)(hT: ¬T 158):bM T w w1:=λk cs t fr hk ht=>h.other hk λe=>by
 subst e;rw[h0.1]at hk;cases hk;exact hT ht
theorem bM.grown(h:w.grownBy w1 v.ownBlock){size n:Nat}{e:TypeId}(hr:w.ownsRow B e size v n xs)(hT: ¬T e):bM T w w1:=λk cs t fr hk ht=>lx h hr hk λe'=>hT (e' ▸ ht)
theorem bM.set{A:Array Value}{fr:Nat×Nat}(hb:w.heap[b]?=some (.cells A t fr))(hT: ¬T t)(o:Nat)(v:Value):bM T w (w.setCell ⟨b,o,none⟩ v):=λk cs t' fr' hk ht=>by
 rw[VC _ _ _ _ (λe=>by subst e;rw[hb]at hk;cases hk;exact hT ht)];exact hk
theorem iP.dH(h:iP w W v rc rs)(hk:bM T W W')(h1:T 151)(h2:T 144):iP w W' v rc rs:=
 ⟨hk.row h.row h1,h.bV,λr hr=>hk.row (h.rG r hr) h2⟩
theorem iP.base{w0:World}(h:iP w W v rc rs)(hb:w0.heap.size<=w.heap.size):iP w0 W v rc rs:=
 ⟨eE h.row hb,h.bV,λr hr=>eE (h.rG r hr) hb⟩
abbrev Gm:=Nat×Value×List Rc
def fH(gs:List Gm):List Value:=gs.flatMap λg=>[.int .i64 g.1,g.2.1]
structure iI(w W:World)(v:Value)(gs:List Gm)(sg:List (Nat×List ai)):Prop where
 row:W.ownsRow w.heap.size 167 2 v gs.length (fH gs)
 is:gs.map (λg=>(g.1,g.2.2.map Rc.bV))=sg
 lT:∀g∈gs,iP w W g.2.1 g.2.2 (g.2.2.map Rc.bV)
theorem iI.dH{gs:List Gm}{sg:List (Nat×List ai)}(h:iI w W v gs sg)(hk:bM T W W')(h1:T 151)(h2:T 144)(h3:T 167):iI w W' v gs sg:=
 ⟨hk.row h.row h3,h.is,λg hg=>(h.lT g hg).dH hk h1 h2⟩
def gB(rs:List ai):ByteArray:=cF rs.length++gb rs
def bR:List (Nat×List ai)->ByteArray
 |[]=>ByteArray.empty
 |g::l=>av g.1++(gB g.2++bR l)
structure pS(w:World)(b bb bs br kind:Nat)(sg:List (Nat×List ai))(s:ByteArray)(k:Nat)(W:World):Prop where
 box:W.heap[bb]?=some (.cells #[.pointer (some ⟨b,0,none⟩)] 122)
 st: ∃lv gs,W.heap[bs]?=some (.cells #[.int .u8 kind,lv] 132)/\iI w W lv gs (sg.take k)
 res:W.heap[br]?=some (.cells #[.int .u8 0,.slice none 0 0] 132)
 rd:Rd w W b (bR (sg.drop k)++s)
theorem pS.step{w w2 w4:World}{b bb bs br kind n k g4 cap4:Nat}{sg:List (Nat×List ai)}{s:ByteArray}{gs:List Gm}{lv v2:Value}{rc:List Rc}{rs:List ai}(hb:w2.heap[bb]?=some (.cells #[.pointer (some ⟨b,0,none⟩)] 122))(hs:w2.heap[bs]?=some (.cells #[.int .u8 kind,lv] 132))(hr:w2.heap[br]?=some (.cells #[.int .u8 0,.slice none 0 0] 132))(ha:iI w w2 lv gs (sg.take k))(hrc:iP w w2 v2 rc rs)(hK:bM (λt=>t≠167) w2 w4)(ho:w4.ownsRow w.heap.size 167 2 (.slice (some ⟨g4,0,none⟩) (k+1) cap4) (k+1) (fH gs++ [.int .i64 n,v2]))(hrd:Rd w w4 b (bR (sg.drop (k+1))++s))(hne:b<w.heap.size/\w.heap.size<=bs/\bb≠bs/\br≠bs)(ht:sg.take (k+1)=sg.take k++ [(n,rs)])(hl:gs.length=k):pS w b bb bs br kind sg s (k+1) (w4.setCell ⟨bs,1,none⟩ (.slice (some ⟨g4,0,none⟩) (k+1) cap4)):=by
 obtain⟨n1,n2,n3,n4⟩:=hne;have hs4:=hK _ _ _ _ hs (by decide);have hK2:bM (λt=>t=151\/t=144) w2 (w4.setCell ⟨bs,1,none⟩ (.slice (some ⟨g4,0,none⟩) (k+1) cap4)):=λq cs t fr hq h=>bM.set hs4 (T:=λt=>t≠132) (λh=>h rfl) _ _ _ _ _ _ (hK _ _ _ _ hq (by rcases h with rfl|rfl<;>decide)) (by rcases h with rfl|rfl<;>decide);refine⟨?_,⟨_,gs++ [(n,v2,rc)],heap_set hs4,?_,?_,λg hg=>?_⟩,?_,hrd.setCell ⟨n2,by omega⟩ _⟩
 ·rw[VC _ _ _ _ n3];exact hK _ _ _ _ hb (by decide)
 ·rw[VF,hl,fH,WI];exact fX ho hs4 (by decide) _ _
 ·rw[ht,WL,ha.is,List.map_singleton,hrc.bV]
 ·rcases List.mem_append.1 hg with hg|hg
  ·exact (ha.lT g hg).dH hK2 (.inl rfl) (.inr rfl)
  ·obtain rfl:=List.mem_singleton.1 hg
   have:=hrc.dH hK2 (.inl rfl) (.inr rfl);rw[<-hrc.bV]at this;exact this
 ·rw[VC _ _ _ _ n4];exact hK _ _ _ _ hr (by decide)
theorem Pa(w:World)(b bb bs br kind:Nat)(sg:List (Nat×List ai))(s:ByteArray)(hne:b<w.heap.size/\w.heap.size<=bb/\w.heap.size<=bs/\w.heap.size<=br/\bb≠bs/\br≠bs)(hlen:sg.length<=64)(k:Nat)(hk:k<sg.length)(hok:jK sg[k].1 sg[k].2)(W W':World)(h:pS w b bb bs br kind sg s k W)(hr:Rd W W' b (gB sg[k].2++(bR (sg.drop (k+1))++s))):
  Calls aa.prog 76 #[.int .i64 sg[k].1,.pointer (some ⟨bs,0,none⟩),.pointer (some ⟨bb,0,none⟩)] W' λe w'=>e=.returned (.tuple #[])/\pS w b bb bs br kind sg s (k+1) w':=by
 obtain⟨i0,hi0,hz0,hz1,hz2⟩:=VH aa.A8;obtain⟨n1,n2,n3,n4,n5,n6⟩:=hne;have HTk:Hid (sg.take (k+1)=sg.take k++ [sg[k]]):=VO hk;obtain⟨lv,gs,hst,hsa⟩:=h.st;have hgl:gs.length=k:=by have:=congrArg List.length hsa.is;simpa[Nat.min_eq_left (Nat.le_of_lt hk)] using this
 have hbx:=hr.other h.box (show bb≠b by omega);have hst':=hr.other hst (show bs≠b by omega);have hre:=hr.other h.res (show br≠b by omega);have hKT:bM (λt=>t≠158) W W':=bM.rd hr h.rd.1 (λh=>h rfl);have hsa':=hsa.dH hKT (by decide) (by decide) (by decide);have hrd:Rd w W' b (gB sg[k].2++(bR (sg.drop (k+1))++s)):=h.rd.trans hr;have hrow:W'.ownsRow w.heap.size 167 2 lv k (fH gs):=by have:=hsa'.row;rw[hgl]at this;exact this
 clear h hr hst hsa hKT;generalize sg[k]=g at*;obtain⟨n,rs⟩:=g;simp only[gB] at*;rw[cM]at hrd;obtain⟨ad,cap,rfl⟩:=gD hrow;obtain⟨cb,fb⟩:=au hbx;obtain⟨cs,fs⟩:=au hst';have x0:=cb 0;have y1:=cs 1;have g1:=fs 1;clear cb fb cs fs;have HRr:Hid (Calls aa.prog 77 #[.pointer (some ⟨b,0,none⟩),.int .i64 n] W'.drew λe w2=>∃ad2 len2 cap2 rc,e=.returned (.slice ad2 len2 cap2)/\iP w w2 (.slice ad2 len2 cap2) rc rs/\Rd w w2 b (bR (sg.drop (k+1))++s)/\w2.heap[bb]?=some (.cells #[.pointer (some ⟨b,0,none⟩)] 122)/\w2.heap[bs]?=some (.cells #[.int .u8 kind,.slice ad k cap] 132)/\w2.heap[br]?=some (.cells #[.int .u8 0,.slice none 0 0] 132)/\w2.ownsRow w.heap.size 167 2 (.slice ad k cap) k (fH gs)/\iI w w2 (.slice ad k cap) gs (sg.take k)):=by
  refine (QO b n rs _ W'.drew (hrd.1.below (AT _ _).drew) hok).mono ?_;rintro e w2 ⟨v2,rc,rfl,hrc,hr2⟩;obtain⟨ad2,cap2,rfl⟩:=gD hrc.row;have hr2':Rd W' w2 b (bR (sg.drop (k+1))++s):=⟨hr2.1,(Fr.refl _ _).drew.trans hr2.2⟩
  have hKT:bM (λt=>t≠158) W' w2:=bM.rd hr2' hrd.1 (λh=>h rfl);exact⟨ad2,_,cap2,rc,rfl,hrc.base hrd.2.size,hrd.trans hr2',hr2'.other hbx (by omega),hr2'.other hst' (by omega),hr2'.other hre (by omega),hKT.row hrow (by decide),hsa'.dH hKT (by decide) (by decide) (by decide)⟩
 clear hbx hst' hre hsa' hrd hrow hok;go_enter aa.func76,aa.ntmps76;go_region_law (first
  |(refine step_append_lies _ rfl _ _ _ rfl w.heap.size 167 i0 _ 2 32 aa.underlying130 hi0 hz0 hz1 hz2 rfl (by omega) (.slice ad k cap) _ _ rfl (VD HO2.out _) ⟨w2.heap.size,0,none⟩ 1 1 [.int .i64 n,.slice ad2 len2 cap2] rfl rfl (VM (BY w2 _)) (by simp[Value.oneCell']) (by omega) (by unfold maxLen;omega) (by omega) (by have:=HRd2.out.2.size;simp;omega) (w2.heap.size+1) (by simp) ?_;intro g4 cap4 w4 hown4 hgr4 hat4 hlt4;have HO4:Hid (w4.ownsRow w.heap.size 167 2 (.slice (some ⟨g4,0,none⟩) (k+1) cap4) (k+1) (fH gs++ [.int .i64 n,.slice ad2 len2 cap2])):=hown4;have hK4:bM (λt=>t≠167) w2 w4:=(bM.below ((AT _ _).alloc (eR _) _)).trans (bM.grown hgr4 (VD HO2.out _) (λh=>h rfl));have HK4:Hid (bM (λt=>t≠167) w2 w4):=hK4;have hc4:=hK4 _ _ _ _ HS2.out (by decide);obtain⟨cb4,fb4⟩:=au hc4;have c41:=cb4 1;have f41:=fb4 1;have HRd4:Hid (Rd w w4 b (bR (sg.drop (k+1))++s)):=(HRd2.out.below ((AT _ _).alloc (eR _) _)).mj (VD HO2.out _) hgr4 (by decide);clear cb4 fb4 hc4 hK4 hown4 hgr4)
  |(go_simp;go_at_call 77;refine By HRr.out ?_;rintro e w2 ⟨ad2,len2,cap2,rc,rfl,hrc2,hrd2,hb2,hs2,hre2,ho2,hsa2⟩;obtain⟨cs2,fs2⟩:=au hs2;have y2:=cs2 1;have hbs2:=(Array.getElem?_eq_some_iff.1 hs2).1;have HRc2:Hid (iP w w2 (.slice ad2 len2 cap2) rc rs):=hrc2;have HRd2:Hid (Rd w w2 b (bR (sg.drop (k+1))++s)):=hrd2;have HB2:Hid (w2.heap[bb]?=some (.cells #[.pointer (some ⟨b,0,none⟩)] 122)):=hb2;have HS2:Hid (w2.heap[bs]?=some (.cells #[.int .u8 kind,.slice ad k cap] 132)):=hs2;have HRe2:Hid (w2.heap[br]?=some (.cells #[.int .u8 0,.slice none 0 0] 132)):=hre2;have HO2:Hid (w2.ownsRow w.heap.size 167 2 (.slice ad k cap) k (fH gs)):=ho2;have HSA2:Hid (iI w w2 (.slice ad k cap) gs (sg.take k)):=hsa2;clear hrc2 hrd2 hb2 hs2 hre2 ho2 hsa2 cs2 fs2))
 all_goals
  go_wp2;go_end0;exact⟨rfl,pS.step HB2.out HS2.out HRe2.out HSA2.out HRc2.out HK4.out HO4.out HRd4.out (by omega) HTk.out hgl⟩
theorem Rf{l:List (Nat×List ai)}(h:k<l.length):bR (l.drop k)=av l[k].1++(gB l[k].2++bR (l.drop (k+1))):=by
 rw[List.drop_eq_getElem_cons h,bR]
structure ki(sg:List (Nat×List ai)):Prop where
 len:1<=sg.length/\sg.length<=64
 num:∀g∈sg,g.1<64/\jK g.1 g.2
 iM:(sg.map (·.1)).Pairwise (· < ·)
theorem Pt(b kind:Nat)(sg:List (Nat×List ai))(s:ByteArray)(w:World)(h:bG w b (av sg.length++(bR sg++s)))(hok:ki sg):
  Calls aa.prog 56 #[.pointer (some ⟨b,0,none⟩),.int .u8 kind] w λe w'=>∃lv gs,e=.returned (.agg #[.int .u8 kind,lv])/\iI w w' lv gs sg/\Rd w w' b s:=by
 have hbl:=h.lt;have hl:=hok.len;have HE:Hid (∀W,W.heap[w.heap.size]?=some (.cells #[.pointer (some ⟨b,0,none⟩)] 122)->W.heap[w.heap.size+1]?=some (.cells #[.int .u8 0,.slice none 0 0] 132)->W.heap[w.heap.size+2]?=some (.cells #[.int .u8 kind,.slice none 0 0] 132)->Rd w W b (av sg.length++(bR sg++s))->
   Calls aa.prog 74 #[.pointer (some ⟨b,0,none⟩),.int .i64 3,.func (.func 76) #[] #[.pointer (some ⟨w.heap.size+2,0,none⟩),.pointer (some ⟨w.heap.size,0,none⟩)]] W λe w'=>e=.returned (.tuple #[])/\∃lv gs,w'.heap[w.heap.size+2]?=some (.cells #[.int .u8 kind,lv] 132)/\iI w w' lv gs sg/\w'.heap[w.heap.size+1]?=some (.cells #[.int .u8 0,.slice none 0 0] 132)/\Rd w w' b s):=by
  intro W h1 h2 h3 h4;have e1:(sg.map (·.1)).length=sg.length:=VJ ..
  have:=EH _ (.inr rfl) b 3 (.pointer (some ⟨w.heap.size+2,0,none⟩)) (.pointer (some ⟨w.heap.size,0,none⟩)) (sg.map (·.1)) (λk=>bR (sg.drop k)++s) (λk=>gB ((sg[k]?.map (·.2)).getD [])) (pS w b w.heap.size (w.heap.size+2) (w.heap.size+1) kind sg s) W
   (by rw[e1,List.drop_zero];exact h4.1) (by rw[e1];exact hl) (by omega) (λn hn=>by obtain⟨g,hg,rfl⟩:=Wm.1 hn;exact (hok.num g hg).1) hok.iM
   (λk hk=>by rw[e1]at hk;simp only[Rf hk,Xq,List.getElem?_eq_getElem hk,Wa,WR,cM])
   (λw' hr=>⟨hr.other h1 (by omega),⟨_,[],hr.other h3 (by omega),⟨Ww _ _ _ _,rfl,λg hg=>by cases hg⟩⟩,hr.other h2 (by omega),h4.trans hr⟩)
   (λk W hJ=>hJ.rd.1)
   (λk hk W W' hJ hr=>by
    rw[e1]at hk;simp only[List.getElem?_eq_getElem hk,Wa,WR]at hr
    have:=Pa w b w.heap.size (w.heap.size+2) (w.heap.size+1) kind sg s (by omega) hl.2 k hk (hok.num _ (VB hk)).2 W W' hJ hr;simpa using this)
  refine this.mono ?_;rintro e w' ⟨rfl,hJ⟩;rw[e1]at hJ;obtain⟨lv,gs,x1,x2⟩:=hJ.st;rw[VW]at x2;have x3:=hJ.rd;rw[List.drop_length,bR,jm]at x3;exact⟨rfl,lv,gs,x1,x2,hJ.res,x3⟩
 have hmf:∀(fn:Fn) (first cap:Array Value) (w:World),(Instr.makeFunc fn first cap).run aa.prog w=.ok (.func fn first cap) w:=λ_ _ _ _=>rfl;obtain⟨W0,hW0⟩: ∃W,W=(((w.alloc (.cells #[.pointer (some ⟨b,0,none⟩)] 122)).alloc (.cells #[.int .u8 0,.slice none 0 0] 132)).alloc (.cells #[.int .u8 kind,.slice none 0 0] 132)):=⟨_,rfl⟩
 have hB0:Below w.heap.size w W0:=by rw[hW0];exact (((AT _ _).alloc (eR _) _).alloc (by simp) _).alloc (by simp;omega) _
 have HE':Hid _:=HE.out W0 (by rw[hW0,Vx _ _ _ (by simp;omega),Vx _ _ _ (by simp)];exact BY w _) (by rw[hW0,Vx _ _ _ (by simp)];exact kP w _ _) (by rw[hW0];have:=BY ((w.alloc (.cells #[.pointer (some ⟨b,0,none⟩)] 122)).alloc (.cells #[.int .u8 0,.slice none 0 0] 132)) (.cells #[.int .u8 kind,.slice none 0 0] 132);simpa using this) ((Rd.refl h).below hB0);clear h HE;go_enter aa.func56,aa.ntmps56;go_wp2_with (go_at_call 74;rw[<-hW0];refine By HE'.out ?_;rintro e w3 ⟨rfl,lv,gs,hs3,hsa3,hre3,hrd3⟩;obtain⟨ad,cap,rfl⟩:=gD hsa3.row;obtain⟨cs3,fs3⟩:=au hs3;obtain⟨cr3,fr3⟩:=au hre3;have s0:=cs3 0;have s1:=cs3 1;have r0:=cr3 0;have r1:=cr3 1;have t0:=fr3 0;have t1:=fr3 1;clear cs3 fs3 cr3 fr3;have HSA:Hid (iI w w3 (.slice ad gs.length cap) gs sg):=hsa3;have HRE:Hid (w3.heap[w.heap.size+1]?=some (.cells #[.int .u8 0,.slice none 0 0] 132)):=hre3;have HRD:Hid (Rd w w3 b s):=hrd3;clear hs3 hsa3 hre3 hrd3)
 refine V9 (v:=.agg #[.int .u8 kind,.slice ad gs.length cap]) ?_ rfl ⟨_,gs,rfl,?_,?_⟩
 ·simp[results,aa.results56,go_sem,r0,r1]
 ·have k1:=bM.set (T:=λt=>t≠132) HRE.out (λh=>h rfl) 0 (.int .u8 kind);have k2:=bM.set (T:=λt=>t≠132) (heap_set (o:=0) (v:=.int .u8 kind) HRE.out) (λh=>h rfl) 1 (.slice ad gs.length cap);exact HSA.out.dH (k1.trans k2) (by decide) (by decide) (by decide)
 ·exact (HRD.out.setCell (by omega) _).setCell (by omega) _
theorem aa.Au:(aa.prog.info? 163).map (λi=>(i.zero,i.size,i.bytes))=some (some (.agg #[.int .i64 0,.int .u64 0,.int .u64 0,.int .u64 0,.int .u64 0]),5,40):=by kernel_rfl
abbrev Nd:=Nat×(Nat->Int)
def F7(d:Nat->Int):Prop:=∀i,i<4->0<=d i/\d i<18446744073709551616
def jz(d:Nat->Int)(i:Nat):ByteArray:=(List.range' i (4-i)).foldr (λj s=>fD (d j)++s) ByteArray.empty
theorem Gv(d:Nat->Int):jz d 0=cA d 4:=by
 simp[jz,cA,List.range'_succ,gN,cM,jm]
theorem Ln(d:Nat->Int)(h:i<4):jz d i=fD (d i)++jz d (i+1):=by
 unfold jz;rw[show 4-i=(4-(i+1))+1 by omega,List.range'_succ];simp
theorem Hr(d:Nat->Int):jz d 4=ByteArray.empty:=rfl
def bU:List Nd->ByteArray
 |[]=>ByteArray.empty
 |g::l=>av g.1++(jz g.2 0++bU l)
theorem H0{l:List Nd}(h:k<l.length):bU (l.drop k)=av l[k].1++(jz l[k].2 0++bU (l.drop (k+1))):=by
 rw[List.drop_eq_getElem_cons h,bU]
def lA(g:Nd):List Value:=[.int .i64 g.1,.int .u64 (g.2 0),.int .u64 (g.2 1),.int .u64 (g.2 2),.int .u64 (g.2 3)]
def dU(l:List Nd):List Value:=l.flatMap lA
abbrev fJ(n:Nat)(d:Nat->Int)(i:Nat):Array Value:=#[.int .i64 n,.int .u64 (gz d i 0),.int .u64 (gz d i 1),.int .u64 (gz d i 2),.int .u64 (gz d i 3)]
theorem Ez(n:Nat)(d:Nat->Int)(h:i<4):(fJ n d i).setIfInBounds (1+i) (.int .u64 (d i))=fJ n d (i+1):=by
 rcases fc h with rfl|rfl|rfl|rfl<;>simp[fJ,gz]
theorem Cl(n:Nat)(d:Nat->Int)(h:i<4):(fJ n d i)[1+i]?=some (.int .u64 0):=by
 rcases fc h with rfl|rfl|rfl|rfl<;>simp[fJ,gz]
structure oP(w:World)(b bb bs br lev:Nat)(sg:List Nd)(s:ByteArray)(k:Nat)(W:World):Prop where
 box:W.heap[bb]?=some (.cells #[.pointer (some ⟨b,0,none⟩)] 122)
 st: ∃lv,W.heap[bs]?=some (.cells #[.int .i64 lev,lv] 128)/\W.ownsRow w.heap.size 163 5 lv k (dU (sg.take k))
 res:W.heap[br]?=some (.cells #[.int .i64 0,.slice none 0 0] 128)
 rd:Rd w W b (bU (sg.drop k)++s)
theorem oP.C7{bb bs br lev:Nat}{sg:List Nd}{s':ByteArray}{lv:Value}(hbox:W.heap[bb]?=some (.cells #[.pointer (some ⟨b,0,none⟩)] 122))(hst:W.heap[bs]?=some (.cells #[.int .i64 lev,lv] 128))(hrow:W.ownsRow w.heap.size 163 5 lv k (dU (sg.take k)))(hres:W.heap[br]?=some (.cells #[.int .i64 0,.slice none 0 0] 128))(h0:bG W b s0)(hr:Rd W W' b s'):
  W'.heap[bb]?=some (.cells #[.pointer (some ⟨b,0,none⟩)] 122)/\W'.heap[bs]?=some (.cells #[.int .i64 lev,lv] 128)/\W'.ownsRow w.heap.size 163 5 lv k (dU (sg.take k))/\W'.heap[br]?=some (.cells #[.int .i64 0,.slice none 0 0] 128):=by
 have hK:bM (λt=>t≠158) W W':=bM.rd hr h0 (λh=>h rfl);exact⟨hK _ _ _ _ hbox (by decide),hK _ _ _ _ hst (by decide),hK.row hrow (by decide),hK _ _ _ _ hres (by decide)⟩
structure oH(w:World)(b bb bs br lev bn k i:Nat)(lv:Value)(n:Nat)(d:Nat->Int)(sg:List Nd)(s:ByteArray)(W:World):Prop where
 box:W.heap[bb]?=some (.cells #[.pointer (some ⟨b,0,none⟩)] 122)
 st:W.heap[bs]?=some (.cells #[.int .i64 lev,lv] 128)
 row:W.ownsRow w.heap.size 163 5 lv k (dU (sg.take k))
 res:W.heap[br]?=some (.cells #[.int .i64 0,.slice none 0 0] 128)
 nd:W.heap[bn]?=some (.cells (fJ n d i) 163)
 qZ:∀q,lv.ownBlock=some q->q<bn
 rd:Rd w W b (jz d i++s)
theorem GX(w:World)(b bb bs br lev:Nat)(sg:List Nd)(s:ByteArray)(hne:b<w.heap.size/\w.heap.size<=bb/\w.heap.size<=bs/\w.heap.size<=br/\bb≠bs/\br≠bs)(hlen:sg.length<=64)(k:Nat)(hk:k<sg.length)(hok:F7 sg[k].2)(W W':World)(h:oP w b bb bs br lev sg s k W)(hr:Rd W W' b (jz sg[k].2 0++(bU (sg.drop (k+1))++s))):
  Calls aa.prog 75 #[.int .i64 sg[k].1,.pointer (some ⟨bb,0,none⟩),.pointer (some ⟨bs,0,none⟩)] W' λe w'=>e=.returned (.tuple #[])/\oP w b bb bs br lev sg s (k+1) w':=by
 obtain⟨i0,hi0,hz0,hz1,hz2⟩:=VH aa.Au;obtain⟨n1,n2,n3,n4,n5,n6⟩:=hne;have HTk:Hid (sg.take (k+1)=sg.take k++ [sg[k]]):=VO hk;obtain⟨lv,hst,hrow⟩:=h.st;obtain⟨ad,cap,rfl⟩:=gD hrow;obtain⟨m1,m2,m3,m4⟩:=oP.C7 h.box hst hrow h.res h.rd.1 hr;have hrd:=h.rd.trans hr;clear h hr hst hrow;generalize sg[k]=g at*;obtain⟨n,d⟩:=g;simp only at*;have hbl:∀q,Value.ownBlock (.slice ad k cap)=some q->q<W'.heap.size:=λq hq=>uJ m3 hq;have HL0:Hid (oH w b bb bs br lev W'.heap.size k 0 (.slice ad k cap) n d sg (bU (sg.drop (k+1))++s) (W'.alloc (.cells (fJ n d 0) 163))):=
  have hb:Below W'.heap.size W' (W'.alloc (.cells (fJ n d 0) 163)):=(AT _ _).alloc (eR _) _
  ⟨aS m1 hb,aS m2 hb,dS m3 hb (eR _),aS m4 hb,BY W' _,hbl,hrd.below hb⟩
 have hbn:w.heap.size<=W'.heap.size:=hrd.2.size;have HDg:Hid (∀i,i<4->∀W1,oH w b bb bs br lev W'.heap.size k i (.slice ad k cap) n d sg (bU (sg.drop (k+1))++s) W1->Calls aa.prog 54 #[.pointer (some ⟨b,0,none⟩)] W1 λe w2=>e=.returned (.int .u64 (d i))/\w2.heap[W'.heap.size]?=some (.cells (fJ n d i) 163)/\oH w b bb bs br lev W'.heap.size k (i+1) (.slice ad k cap) n d sg (bU (sg.drop (k+1))++s) (w2.setCell ⟨W'.heap.size,1+i,none⟩ (.int .u64 (d i)))):=by
  intro i hi W1 hL;have h3:=hL.rd;rw[Ln d hi,cM]at h3;refine (zO b (d i) _ W1 h3.1 (hok i hi).1 (hok i hi).2).mono ?_;rintro e w2 ⟨rfl,hr2⟩;obtain⟨x1,x2,x3,x4⟩:=oP.C7 hL.box hL.st hL.row hL.res h3.1 hr2;have x5:=hr2.other hL.nd (by omega);have hnb:W'.heap.size≠bb:=λe=>by rw[e,x1]at x5;cases x5
  have hns:W'.heap.size≠bs:=λe=>by rw[e,x2]at x5;cases x5
  have cC:W'.heap.size≠br:=λe=>by rw[e,x4]at x5;cases x5
  have x6:=heap_set (o:=1+i) (v:=.int .u64 (d i)) x5;rw[Ez n d hi]at x6;refine⟨rfl,x5,⟨?_,?_,?_,?_,x6,hL.qZ,(h3.trans hr2).setCell ⟨hbn,by omega⟩ _⟩⟩
  ·rw[VC _ _ _ _ (VG hnb)];exact x1
  ·rw[VC _ _ _ _ (VG hns)];exact x2
  ·refine tf x3 λq hq hv=>VC _ _ _ _ (λe=>?_)
   have:=hL.qZ q hv;simp only at e;omega
  ·rw[VC _ _ _ _ (VG cC)];exact x4
 clear m1 m2 m3 m4 hrd hbl hok;go_enter aa.func75,aa.ntmps75;go_wp2;generalize W'.heap.size=bn at*;go_loopw [8] (λiv wr=>∃i:Nat,i<=4/\iv=.int .i64 i/\Hid (oH w b bb bs br lev bn k i (.slice ad k cap) n d sg (bU (sg.drop (k+1))++s) wr)) (λiv _=>4-(intOf iv).toNat)
 case atStart=>exact⟨0,by omega,rfl,HL0.out⟩
 case round=>
  obtain⟨i,hi,rfl,HL⟩:=hrel;clear HL0;by_cases hi4:i<4
  ·have i1:(i:Int)<4:=by omega
   have i00:(0:Int)<=(i:Int):=by omega
   have bx:=(au HL.out.box).1 0;have HD':Hid (Calls aa.prog 54 #[.pointer (some ⟨b,0,none⟩)] wr λe w2=>e=.returned (.int .u64 (d i))/\w2.heap[bn]?=some (.cells (fJ n d i) 163)/\oH w b bb bs br lev bn k (i+1) (.slice ad k cap) n d sg (bU (sg.drop (k+1))++s) (w2.setCell ⟨bn,1+i,none⟩ (.int .u64 (d i)))):=HDg.out i hi4 wr HL.out;go_wp2_with (go_at_call 54;refine HD'.out.mono ?_;rintro e w2 ⟨rfl,hn2,hL2⟩;obtain⟨c2,f2⟩:=au hn2;have cI:=(c2 (1+i)).trans (Cl n d hi4);have fI:=f2 (1+i);clear c2 f2 hn2;have HL2:Hid (oH w b bb bs br lev bn k (i+1) (.slice ad k cap) n d sg (bU (sg.drop (k+1))++s) (w2.setCell ⟨bn,1+i,none⟩ (.int .u64 (d i)))):=hL2;clear hL2)
   exact⟨⟨i+1,by omega,by go_num,HL2.out⟩,by simp[intOf];omega⟩
  ·obtain rfl:i=4:=by omega
   obtain⟨cs,fs⟩:=au HL.out.st;obtain⟨cn,fn⟩:=au HL.out.nd;have y1:=cs 1;clear cs fs;go_wp2_with (at_builtin;refine Xi _ rfl _ _ _ rfl w.heap.size 163 i0 _ 5 40 aa.underlying126 hi0 hz0 hz1 hz2 rfl (by omega) (.slice ad k cap) _ _ rfl (VD HL.out.row _) ⟨wr.heap.size,0,none⟩ 1 1 _ rfl (by rfl) (VM (BY wr _)) (by simp[Value.oneCell']) (by omega) (by unfold maxLen;omega) (by omega) (by have:=HL.out.rd.2.size;simp;omega) (wr.heap.size+1) (by simp) ?_;intro g4 cap4 w4 hown4 hgr4 hat4 hlt4;have HO4:Hid (w4.ownsRow w.heap.size 163 5 (.slice (some ⟨g4,0,none⟩) (k+1) cap4) (k+1) (dU (sg.take k)++(fJ n d 4).toList)):=hown4;have hK4:bM (λt=>t≠163) wr w4:=(bM.below ((AT _ _).alloc (eR _) _)).trans (bM.grown hgr4 (VD HL.out.row _) (λh=>h rfl));have HK4:Hid (bM (λt=>t≠163) wr w4):=hK4;have hc4:=hK4 _ _ _ _ HL.out.st (by decide);obtain⟨cb4,fb4⟩:=au hc4;have c41:=cb4 1;have f41:=fb4 1;have HRd4:Hid (Rd w w4 b (jz d 4++(bU (sg.drop (k+1))++s))):=(HL.out.rd.below ((AT _ _).alloc (eR _) _)).mj (VD HL.out.row _) hgr4 (by decide);clear cb4 fb4 hc4 hK4 hown4 hgr4)
   go_end0;have hs4:=HK4.out _ _ _ _ HL.out.st (by decide);have hrd4:=HRd4.out;rw[Hr,jm]at hrd4;have hp:∀j,j<4->gz d 4 j=d j:=λj hj=>by simp[gz,hj]
   refine⟨rfl,?_,⟨_,heap_set hs4,?_⟩,?_,hrd4.setCell ⟨n3,by omega⟩ _⟩
   ·rw[VC _ _ _ _ n5];exact HK4.out _ _ _ _ HL.out.box (by decide)
   ·rw[HTk.out,dU,WI]
    have:=fX HO4.out hs4 (by decide) 1 (.slice (some ⟨g4,0,none⟩) (k+1) cap4);simp only[fJ,hp 0 (by omega),hp 1 (by omega),hp 2 (by omega),hp 3 (by omega)]at this;exact this
   ·rw[VC _ _ _ _ n6];exact HK4.out _ _ _ _ HL.out.res (by decide)
structure lS(lev:Nat)(sg:List Nd):Prop where
 low:lev<3
 len:1<=sg.length/\sg.length<=64
 num:∀g∈sg,g.1<4 ^ lev/\F7 g.2
 iM:(sg.map (·.1)).Pairwise (· < ·)
theorem NN(b lev:Nat)(sg:List Nd)(s:ByteArray)(w:World)(h:bG w b (av lev++(av sg.length++(bU sg++s))))(hok:lS lev sg):
  Calls aa.prog 55 #[.pointer (some ⟨b,0,none⟩)] w λe w'=>∃lv,e=.returned (.agg #[.int .i64 lev,lv])/\w'.ownsRow w.heap.size 163 5 lv sg.length (dU sg)/\Rd w w' b s:=by
 have hbl:=h.lt;have hl:=hok.len;have hlev:=hok.low;have HE:Hid (∀W bs,w.heap.size+2<=bs->W.heap[w.heap.size]?=some (.cells #[.pointer (some ⟨b,0,none⟩)] 122)->W.heap[w.heap.size+1]?=some (.cells #[.int .i64 0,.slice none 0 0] 128)->W.heap[bs]?=some (.cells #[.int .i64 lev,.slice none 0 0] 128)->Rd w W b (av sg.length++(bU sg++s))->
   Calls aa.prog 74 #[.pointer (some ⟨b,0,none⟩),.int .i64 lev,.func (.func 75) #[] #[.pointer (some ⟨w.heap.size,0,none⟩),.pointer (some ⟨bs,0,none⟩)]] W λe w'=>e=.returned (.tuple #[])/\∃lv,w'.heap[bs]?=some (.cells #[.int .i64 lev,lv] 128)/\w'.ownsRow w.heap.size 163 5 lv sg.length (dU sg)/\w'.heap[w.heap.size+1]?=some (.cells #[.int .i64 0,.slice none 0 0] 128)/\Rd w w' b s):=by
  intro W bs h0 h1 h2 h3 h4;have e1:(sg.map (·.1)).length=sg.length:=VJ ..
  have:=EH _ (.inl rfl) b lev (.pointer (some ⟨w.heap.size,0,none⟩)) (.pointer (some ⟨bs,0,none⟩)) (sg.map (·.1)) (λk=>bU (sg.drop k)++s) (λk=>jz ((sg[k]?.map (·.2)).getD λ_=>0) 0) (oP w b w.heap.size bs (w.heap.size+1) lev sg s) W
   (by rw[e1,List.drop_zero];exact h4.1) (by rw[e1];exact hl) (by omega) (λn hn=>by obtain⟨g,hg,rfl⟩:=Wm.1 hn;exact (hok.num g hg).1) hok.iM
   (λk hk=>by rw[e1]at hk;simp only[H0 hk,Xq,List.getElem?_eq_getElem hk,Wa,WR,cM])
   (λw' hr=>⟨hr.other h1 (by omega),⟨_,hr.other h3 (by omega),Ww _ _ _ _⟩,hr.other h2 (by omega),h4.trans hr⟩)
   (λk W hJ=>hJ.rd.1)
   (λk hk W W' hJ hr=>by
    rw[e1]at hk;simp only[List.getElem?_eq_getElem hk,Wa,WR]at hr
    have:=GX w b w.heap.size bs (w.heap.size+1) lev sg s (by omega) hl.2 k hk (hok.num _ (VB hk)).2 W W' hJ hr;simpa using this)
  refine this.mono ?_;rintro e w' ⟨rfl,hJ⟩;rw[e1]at hJ;obtain⟨lv,x1,x2⟩:=hJ.st;rw[VW]at x2;have x3:=hJ.rd;rw[List.drop_length,bU,jm]at x3;exact⟨rfl,lv,x1,x2,hJ.res,x3⟩
 have hmf:∀(fn:Fn) (first cap:Array Value) (w:World),(Instr.makeFunc fn first cap).run aa.prog w=.ok (.func fn first cap) w:=λ_ _ _ _=>rfl;have HBy:Hid (∀W,Below w.heap.size w W->Calls aa.prog 53 #[.pointer (some ⟨b,0,none⟩)] W λe w'=>e=.returned (.int .i64 lev)/\Rd W w' b (av sg.length++(bU sg++s))):=λW hW=>mx b lev _ W (h.below hW) (by omega) (by omega);have HM:Hid _:=uf b;have l1:(lev:Int)<3:=by omega
 obtain⟨W0,hW0⟩: ∃W,W=(w.alloc (.cells #[.pointer (some ⟨b,0,none⟩)] 122)).alloc (.cells #[.int .i64 0,.slice none 0 0] 128):=⟨_,rfl⟩
 have HB0:Hid (Below w.heap.size w W0):=(by rw[hW0];exact ((AT _ _).alloc (eR _) _).alloc (by simp) _)
 have Hb0:Hid (W0.heap[w.heap.size]?=some (.cells #[.pointer (some ⟨b,0,none⟩)] 122)):=(by rw[hW0,Vx _ _ _ (by simp)];exact BY w _)
 have Hr0:Hid (W0.heap[w.heap.size+1]?=some (.cells #[.int .i64 0,.slice none 0 0] 128)):=(by rw[hW0];exact kP w _ _)
 have HBy':Hid (Calls aa.prog 53 #[.pointer (some ⟨b,0,none⟩)] ((w.alloc (.cells #[.pointer (some ⟨b,0,none⟩)] 122)).alloc (.cells #[.int .i64 0,.slice none 0 0] 128)) λe w'=>e=.returned (.int .i64 lev)/\Rd w w' b (av sg.length++(bU sg++s))/\w'.heap[w.heap.size]?=some (.cells #[.pointer (some ⟨b,0,none⟩)] 122)/\w'.heap[w.heap.size+1]?=some (.cells #[.int .i64 0,.slice none 0 0] 128)/\w.heap.size+2<=w'.heap.size):=by
  rw[<-hW0];refine (HBy.out W0 HB0.out).mono ?_;rintro e w' ⟨rfl,hr⟩;have hr':=((Rd.refl h).below HB0.out).trans hr;have hz:=(Array.getElem?_eq_some_iff.1 (hr.other Hr0.out (by omega))).1;exact⟨rfl,hr',hr.other Hb0.out (by omega),hr.other Hr0.out (by omega),by omega⟩
 clear h HBy hW0 HB0 Hb0 Hr0;go_enter aa.func55,aa.ntmps55;go_wp2_with (first
  |(go_at_call 53;refine By HBy'.out ?_;rintro e w1 ⟨rfl,hr1,hb1,hre1,hz1⟩;have bx1:=(au hb1).1 0;have HR1:Hid (Rd w w1 b (av sg.length++(bU sg++s))):=hr1;have Hb1:Hid (w1.heap[w.heap.size]?=some (.cells #[.pointer (some ⟨b,0,none⟩)] 122)):=hb1;have Hre1:Hid (w1.heap[w.heap.size+1]?=some (.cells #[.int .i64 0,.slice none 0 0] 128)):=hre1;clear hr1 hb1 hre1;have hzz:w.heap.size<w1.heap.size:=by omega)
  |(go_at_call 57;refine (HM.out _).mono ?_;rintro e w' ⟨rfl,hw'⟩;subst w')
  |(go_at_call 74;refine By (HE.out _ w1.heap.size hz1 (aS Hb1.out ((AT _ _).alloc (eR _) _)) (aS Hre1.out ((AT _ _).alloc (eR _) _)) (BY w1 _) (HR1.out.below ((AT _ _).alloc (eR _) _))) ?_;rintro e w3 ⟨rfl,lv,hs3,hsa3,hre3,hrd3⟩;obtain⟨ad,cap,rfl⟩:=gD hsa3;obtain⟨cs3,fs3⟩:=au hs3;obtain⟨cr3,fr3⟩:=au hre3;have s0:=cs3 0;have s1:=cs3 1;have r0:=cr3 0;have r1:=cr3 1;have t0:=fr3 0;have t1:=fr3 1;clear cs3 fs3 cr3 fr3;have HSA:Hid (w3.ownsRow w.heap.size 163 5 (.slice ad sg.length cap) sg.length (dU sg)):=hsa3;have HRE:Hid (w3.heap[w.heap.size+1]?=some (.cells #[.int .i64 0,.slice none 0 0] 128)):=hre3;have HRD:Hid (Rd w w3 b s):=hrd3;clear hs3 hsa3 hre3 hrd3))
 refine V9 (v:=.agg #[.int .i64 lev,.slice ad sg.length cap]) ?_ rfl ⟨_,rfl,?_,?_⟩
 ·simp[results,aa.results55,go_sem,r0,r1]
 ·exact fX (fX HSA.out HRE.out (by decide) 0 (.int .i64 lev)) (heap_set HRE.out) (by decide) _ _
 ·exact (HRD.out.setCell (by omega) _).setCell (by omega) _
end Go.Proofs.YtldmcdeibiclkaaGreatDoorQ
