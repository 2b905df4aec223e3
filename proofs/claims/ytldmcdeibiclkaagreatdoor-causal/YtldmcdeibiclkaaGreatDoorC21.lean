/-
  Toward causal_holds: Contract: Replica.text: the text of a segment.
-/
import Derived.Test.YtldmcdeibiclkaaGreatDoorC20
import Derived.Test.YtldmcdeibiclkaaGreatDoorC18
set_option linter.unusedVariables false
set_option linter.unusedSimpArgs false
set_option maxRecDepth 100000
set_option maxHeartbeats 20000000
namespace Go.Proofs.YtldmcdeibiclkaaGreatDoorQ
open Go.RowKit
section
open Go.Lib (strCells strCells_length strCells_oneCell Bytes)
theorem qV{w:World}{B:Nat}{v:Value}{s:ByteArray}(h:aO w B v s):(convert 48 9 v).run aa.prog w= .ok (.string s) w:=by
 rcases h.2 with ⟨rfl,h0⟩|⟨g,cap,cur,rfl,_,hh,hn,_,hs,ht⟩
 ·obtain rfl:s=ByteArray.empty:=by
   apply ZT
   have:s.data.size=0:=h0
   simpa using Array.eq_empty_of_size_eq_zero this
  simpa using Go.run_convert_bytes_nil (P:=aa.prog) w 48 5 aa.underlying48 aa.underlying5 0 0 9 aa.underlying9
 ·refine Go.Lib.run_convert_whole (P:=aa.prog) w 48 5 9 aa.underlying48 aa.underlying5 aa.underlying9 g 0 s (λi hi=>?_) cap
  have e1:(strCells s)[i]? =some (.int .u8 (s[i].toNat:Int)):=by
   have hi':i< s.data.toList.length:=by rw[YR];exact hi
   rw[strCells,ZR,Yn hi']
   simp
   rfl
  rw[←ht,YJ,AT (by omega)] at e1
  simpa[World.cell?,hh] using e1
def cp(w:World)(m:Nat):List MapEntry:=match w.heap[m]? with
 |some (.map es _)=>es.toList
 |_=>[]
def dy(w:World)(bm:Nat->Nat)(K:aF)(n:Nat):ByteArray:=kG (dA K (cp w (bm n)))
theorem vW{w w':World}{bm:Nat->Nat}{K:aF}{n:Nat}(h:w'.heap[bm n]? =w.heap[bm n]?):dy w' bm K n=dy w bm K n:=by
 simp only[dy,cp,h]
theorem Co{K:aF}(hK:jc K){es:List MapEntry}{Q:ByteArray->Prop}{clock:Nat}(h:kx Q es clock)(hQ:∀k,Q k->cL k=true):∀r∈dA K es,r.1.size<=8/\r.2.2.length<=100/\∀v∈r.2.2,v.val.size<=12:=λr hr=>by
 obtain⟨x,hx,rfl⟩:=Ya.1 hr
 have:=XE (rE (λe he=>(h.2.2.2 e he).imp λk hk=>⟨hk.1,hQ k hk.2⟩) hx)
 exact⟨by simpa using this.1,(hK _).2.1,(hK _).2.2.1⟩
theorem yV(K:aF)(es:List MapEntry):(dA K es).length=es.length:=by
 rw[dA,Yr,(oP _).length_eq,cU,Yr]
def vM(w:World)(bm:Nat->Nat):Prop:=∀n,n< 64->(cp w (bm n)).length<=1000
def dX(w:World)(bm:Nat->Nat)(K:aF):Prop:=jc K/\vM w bm
theorem xj{w w':World}{m:Nat}(h:w'.heap[m]? =w.heap[m]?):cp w' m=cp w m:=by simp only[cp,h]
theorem dX.below{w W:World}{b num:Nat}{bm:Nat->Nat}{K:aF}(hK:dX w bm K)(h:aE w b bm num K)(hb:Below w.heap.size w W):dX W bm K:=
 ⟨hK.1,λn hn=>by rw[xj (hb.block _ (h.2.1 n hn).lt)];exact hK.2 n hn⟩
theorem vO{w:World}{b num:Nat}{bm:Nat->Nat}{K:aF}(h:aE w b bm num K)(hK:dX w bm K){n:Nat}(hn:n< 64):(dy w bm K n).size<=1829000:=by
 have hf:=hK.2 n hn
 obtain⟨es,clock,hm,hk,hall,hst,_⟩:=h.2.1 n hn
 have h1:=JD (Co hK.1 hst λk h=>h.2.2)
 rw[yV] at h1
 simp only[dy,cp,hm] at*
 omega
theorem DC(b num n:Nat)(bm:Nat->Nat)(K:aF)(w:World)(h:aE w b bm num K)(hK:dX w bm K)(hn:n< 64):
  Calls aa.prog 28 #[.pointer (some ⟨b,0,none⟩),.int .i64 n] w λe w'=>e= .returned (.string (dy w bm K n))/\Below w.heap.size w w':=by
 have hc:=h.1.tw hn
 have hsz:=vO h hK hn
 have h2:=hK.2 n hn
 obtain⟨es,clock,hm,hk,hall,hst,_⟩:=h.2.1 n hn
 simp only[cp,hm] at h2
 have HF:Hid (∀r∈dA K es.toList,r.1.size<=8/\r.2.2.length<=100/\∀v∈r.2.2,v.val.size<=12):=Co hK.1 hst λk h=>h.2.2
 have HRec:Hid _:=CA (bm n) n K w es clock hm hk hall hst (by rw[YR] at h2;omega)
 have HT:Hid (dy w bm K n=kG (dA K es.toList)):=(show dy w bm K n=kG (dA K es.toList) by simp only[dy,cp,hm])
 generalize dy w bm K n=tx at*
 have hl':(n:Int)< 64:=by omega
 have hl0:(0:Int)<=(n:Int):=by omega
 have hc':w.cell? ⟨b,1+n,none⟩=some (.map (some (bm n))):=by rw[Zw];exact hc
 clear h hK hm hk hall hst h2 hc
 generalize bm n=m at*
 go_enter aa.func28,aa.ntmps28
 go_wp2_with (first
  |(go_at_call 49;refine BY HRec.out ?_;rintro e w1 ⟨rv,rs,rfl,hrow,hv,htri,hb1⟩;have HA:Hid _:=Vv w.heap.size rv rs w1 hrow (λr hr=>⟨hv r hr,by have h3:=(HF.out (Rc.bU r) (by rw[←htri];exact ZG hr)).2.1;exact X0 h3 (by decide)⟩) (by rw[wU,htri,←HT.out];omega);have HB1:Hid (Below w.heap.size w w1):=hb1;have HE:Hid (cV rs=tx):=(show cV rs=tx by rw[wU,htri,←HT.out]);clear hrow hv htri hb1)
  |(go_at_call 48;refine BY HA.out ?_;rintro e w2 ⟨v2,rfl,hrow2,hb2⟩;rw[HE.out] at hrow2;have hcv:=qV hrow2;have HB2:Hid (Below w.heap.size w w2):=HB1.out.trans (hb2.mono HB1.out.size);clear hrow2 hb2))
 go_ret
 exact⟨rfl,HB2.out⟩
end
section
open Go.Lib (strCells strCells_length strCells_oneCell)
theorem aa.AB:(aa.prog.info? 44).map (λi=>(i.zero,i.size,i.bytes))=some (some (.int .u64 0),1,8):=by kernel_rfl
def gG(w:World)(B:Nat)(v:Value)(ds:List Int):Prop:=w.ownsRow B 44 1 v ds.length (ds.map (.int .u64))
theorem Dj{M:Array Value}{k:Nat}{xs:List Value}{x:Value}(hs:k< M.size)(h:M.toList.take k=xs):(M.setIfInBounds k x).toList.take (k+1)=xs++ [x]:=by
 subst h
 apply ZY
 intro t
 have hl:(M.toList.take k).length=k:=by simp;omega
 by_cases h1:t< k
 ·rw[YJ,AT (by omega),YW (by omega),YJ,AT h1]
  simp only[YS,Yl]
  rw[AS (by omega)]
 ·rw[Yx (by omega),hl]
  by_cases h2:t=k
  ·subst h2
   rw[YJ,AT (by omega)]
   simp only[YS,Yl]
   simp[hs]
  ·rw[YJ,AS (by omega),ZI (by simp;omega)]
def pa(w:World)(f:Nat->Int)(n k:Nat)(wr:World):Prop:=
 ∃M:Array Value,wr.heap[w.heap.size]? =some (.cells M 44)/\M.size=n/\M.toList.take k=((List.range k).map f).map (.int .u64)/\Below w.heap.size w wr
theorem pa.row{w wr:World}{f:Nat->Int}{n:Nat}(h:pa w f n n wr)(hn:n<=maxLen):gG wr w.heap.size (.slice (some ⟨w.heap.size,0,none⟩) n n) ((List.range n).map f):=by
 obtain⟨M,h1,h2,h3,h4⟩:=h
 refine⟨by simp,Or.inr ⟨w.heap.size,n,M,by simp,AI _,h1,by simp,hn,by omega,?_⟩⟩
 simpa using h3
theorem Ae{w:World}{b k:Nat}{M:Array Value}{t:TypeId}(h:w.heap[b]? =some (.cells M t))(hk:k< M.size):(∃x,w.cell? ⟨b,k,none⟩=some x)/\∀o,w.frozen? ⟨b,o,none⟩=false:=
 ⟨⟨M[k],by simp only[World.cell?,h];simp[hk]⟩,λo=>by simp[World.frozen?,h]⟩
noncomputable def wB:Func:={Tryz.f68 with ntmps:=20,results:=#[.tmp 6],body:=some YtldmcdeibiclkaaGreatDoor.U.px}
theorem aa.func68:aa.prog.funcs[68]? =some wB:=by
 rw[aa.is,aa.Al,YtldmcdeibiclkaaGreatDoor.U.Gg,Array.getElem?_setIfInBounds_self,AT]
 ·rw[YtldmcdeibiclkaaGreatDoor.U.nJ,Tryz.func68];rfl
 ·have:=Tryz.func68
  exact (IN.1 this).1
theorem aa.ntmps68:wB.ntmps=20:=rfl
theorem aa.results68:wB.results=#[.tmp 6]:=rfl
attribute [local simp] aa.results68
theorem OQ(b first c:Nat)(T:Nat->ByteArray)(w:World)(hT:∀k:Nat,k< 64->∀W,Below w.heap.size w W->Calls aa.prog 28 #[.pointer (some ⟨b,0,none⟩),.int .i64 k] W λe w'=>e= .returned (.string (T k))/\Below W.heap.size W w')(hTs:∀k,k< 64->(T k).size<=maxLen)(hc:c=1\/c=4\/c=16\/c=64)(hf:first+c<=64):
  Calls aa.prog 68 #[.int .i64 first,.int .i64 c,.func (.func 28) #[.pointer (some ⟨b,0,none⟩)] #[]] w λe w'=>∃v,e= .returned v/\gG w' w.heap.size v ((List.range c).map λi=>cO (T (first+i)))/\Below w.heap.size w w':=by
 obtain⟨i0,hi0,hz0,hz1,hz2⟩:=Yk aa.AB
 have hmk:=run_make (P:=aa.prog) w 147 44 i0 _ aa.underlying147 hi0 hz0 .i64 .i64 c c (by omega) (by omega) (by rw[hz2];omega) (by omega)
 rw[hz1] at hmk
 simp only[Int.toNat_natCast] at hmk
 have hM:=size_madeCells (Value.int .u64 0).cells (c*1)
 generalize madeCells (Value.int .u64 0).cells (c*1)=M at hmk hM
 have HM:Hid (M.size=c):=(show M.size=c by rw[hM,Nat.mul_one])
 have HT:Hid _:=hT
 have HTs:Hid _:=hTs
 clear hM hi0 hz0 hz1 hz2 hT hTs
 obtain⟨b1,h1⟩: ∃x,((c:Int)==1)=x:=⟨_,rfl⟩
 obtain⟨b2,h2⟩: ∃x,((c:Int)==4)=x:=⟨_,rfl⟩
 obtain⟨b3,h3⟩: ∃x,((c:Int)==16)=x:=⟨_,rfl⟩
 obtain⟨b4,h4⟩: ∃x,((c:Int)==64)=x:=⟨_,rfl⟩
 have HB:Hid ((b1||b2||b3||b4)=true):=(show (b1||b2||b3||b4)=true by
  rw[←h1,←h2,←h3,←h4]
  rcases hc with rfl|rfl|rfl|rfl<;>rfl)
 clear hc
 go_enter aa.func68,aa.ntmps68
 simp only[YtldmcdeibiclkaaGreatDoor.U.px,YtldmcdeibiclkaaGreatDoor.U.qOp,YtldmcdeibiclkaaGreatDoor.U.qI,YtldmcdeibiclkaaGreatDoor.U.qU,YtldmcdeibiclkaaGreatDoor.U.jB,YtldmcdeibiclkaaGreatDoor.U.yj,YtldmcdeibiclkaaGreatDoor.U.xp]
 go_wp2
 all_goals
  clear h1 h2 h3 h4
  (try cases (show b1=true by assumption))
  (try cases (show b1=false by assumption))
  (try cases (show b2=true by assumption))
  (try cases (show b2=false by assumption))
  (try cases (show b3=true by assumption))
  (try cases (show b3=false by assumption))
  (try cases (show b4=true by assumption))
  (try cases (show b4=false by assumption))
 all_goals first
  |(exact absurd HB.out (by decide))
  |(exact absurd (show true=false by assumption) (by decide))
  |skip
 all_goals
  clear HB
  go_loopw [3] (λi wr=>∃k:Nat,k<=c/\i= .int .i64 k/\Hid (pa w (λi=>cO (T (first+i))) c k wr)) (λi _=>c - (intOf i).toNat)
  case atStart=>exact⟨0,by omega,rfl,M,IS w _,HM.out,by simp,(By _ _).alloc (AI _) _⟩
  case round=>
   obtain⟨k,hk,rfl,hrel⟩:=hrel
   by_cases hlt:k< c
   ·obtain⟨M',hh,hms,htk,hb⟩:=hrel.out
    have hT1:=HT.out (first+k) (by omega)
    simp only[Int.natCast_add] at hT1
    have HT1:Hid (∀W,Below w.heap.size w W->Calls aa.prog 28 #[.pointer (some ⟨b,0,none⟩),.int .i64 ((first:Int)+(k:Int))] W λe w'=>e= .returned (.string (T (first+k)))/\Below W.heap.size W w'):=hT1
    have hsz:Hid ((T (first+k)).size<=maxLen):=HTs.out (first+k) (by omega)
    have HTk:Hid (((List.range (k+1)).map λi=>cO (T (first+i))).map (Value.int .u64)=((List.range k).map λi=>cO (T (first+i))).map (Value.int .u64)++ [.int .u64 (cO (T (first+k)))]):=(show (((List.range (k+1)).map λi=>cO (T (first+i))).map (Value.int .u64))=_ by simp[Zj])
    have hF:=pK (T (first+k)) (T (first+k)).size
    have hF0:0<=cO (T (first+k)):=hF.1
    have hF1:cO (T (first+k))< 18446744073709551616:=hF.2
    clear hF hT1
    have HS:Hid (∀W,Calls aa.prog 82 #[.string (T (first+k))] W λe w'=>e= .returned (.int .u64 (cO (T (first+k))))/\w'=W):=λW=>yU _ W hsz.out
    generalize cO (T (first+k))=F at*
    generalize T (first+k)=tx at*
    have HH:Hid (wr.heap[w.heap.size]? =some (.cells M' 44)/\M'.size=c/\M'.toList.take k=((List.range k).map λi=>cO (T (first+i))).map (.int .u64)/\Below w.heap.size w wr):=⟨hh,hms,htk,hb⟩
    have hbs:=hb.size
    have hbo:=(IN.1 hh).1
    clear hh hms htk hb hrel
    have g63:(k:Int)< (c:Int):=by omega
    have k0:(0:Int)<=(k:Int):=by omega
    have f0:(0:Int)<=(first:Int):=by omega
    have fk:(first:Int)+(k:Int)< 64:=by omega
    go_wp2_with (first
     |(go_at_call 28;refine BY (HT1.out _ HH.out.2.2.2) ?_;rintro e w1 ⟨rfl,hb1⟩;have HB1:Hid (Below wr.heap.size wr w1):=hb1;clear hb1)
     |(go_at_call 28;refine BY (HT1.out _ (HH.out.2.2.2.trans (HB1.out.mono hbs))) ?_;rintro e w3 ⟨rfl,hb3⟩;have HB3:Hid (Below wr.heap.size wr w3):=HB1.out.trans (hb3.mono HB1.out.size);have m0:=aY HH.out.1 HB3.out;obtain⟨⟨x1,m1⟩,m2⟩:=Ae (k:=k) m0 (by rw[HH.out.2.1];exact hlt);have HM0:Hid (w3.heap[w.heap.size]? =some (.cells M' 44)):=m0;clear hb3 m0)
     |(go_at_call 82;refine BY (HS.out _) ?_;rintro e w2 ⟨rfl,rfl⟩))
    refine⟨⟨k+1,by omega,by go_num,_,heap_set HM0.out,by rw[YK];exact HH.out.2.1,?_,(HH.out.2.2.2.trans (HB3.out.mono hbs)).setCell (AI _) _⟩,by simp[intOf];omega⟩
    rw[HTk.out]
    exact Dj (by rw[HH.out.2.1];exact hlt) HH.out.2.2.1
   ·obtain rfl:k=c:=by omega
    have HR:Hid (pa w (λi=>cO (T (first+i))) k k wr):=hrel.out
    clear hrel
    go_wp2
    go_ret
    exact⟨_,rfl,HR.out.row (by unfold maxLen;omega),HR.out.elim λM' h=>h.2.2.2⟩
end
section
open Go.Lib (strCells strCells_length strCells_oneCell)
theorem Fc{n:Nat}(h:n<=3):n=0\/n=1\/n=2\/n=3:=by omega
theorem oD{k:Nat}(h:k<=3):4 ^ k<=64/\1<=4 ^ k:=by
 rcases Fc h with rfl|rfl|rfl|rfl<;>decide
theorem Cu(n:Nat)(hn:n<=3)(w:World):Calls aa.prog 46 #[.int .i64 n] w λe w'=>e= .returned (.int .i64 (4 ^ n:Nat))/\w'=w:=by
 go_enter aa.func46,aa.ntmps46
 go_wp2
 go_loop [3,5] (λc i=>∃k:Nat,k<=n/\i= .int .i64 k/\c= .int .i64 (4 ^ k:Nat)) (λ_ i=>n - (intOf i).toNat)
 case atStart=>exact⟨0,by omega,rfl,rfl⟩
 case round=>
  obtain⟨k,hk,rfl,rfl⟩:=hrel
  by_cases hlt:k< n
  ·have g1:(k:Int)< (n:Int):=by omega
   have hp:=(oD (k:=k) (by omega)).1
   have HP:Hid (4 ^ (k+1)=4 ^ k*4):=Y7 ..
   generalize 4 ^ k=p at*
   go_wp2
   exact⟨⟨k+1,by omega,by go_num,by rw[HP.out];go_num⟩,by simp[intOf];omega⟩
  ·obtain rfl:k=n:=by omega
   go_wp2
   go_ret
   exact⟨rfl,rfl⟩
theorem xW(l n:Nat)(hl:l<=4)(w:World):Calls aa.prog 26 #[.int .i64 l,.int .i64 n] w λe w'=>e= .returned (.bool (decide (l<=3/\n< 4 ^ l)))/\w'=w:=by
 have l0:(0:Int)<=(l:Int):=by omega
 have n0:(0:Int)<=(n:Int):=by omega
 by_cases h3:l<=3
 ·have l3:(l:Int)<=3:=by omega
  have HW:Hid (∀W,Calls aa.prog 46 #[.int .i64 l] W λe w'=>e= .returned (.int .i64 (4 ^ l:Nat))/\w'=W):=λW=>Cu l h3 W
  have HD:Hid (decide (l<=3/\n< 4 ^ l)=decide (n< 4 ^ l)):=(show decide (l<=3/\n< 4 ^ l)=decide (n< 4 ^ l) by simp[h3])
  rw[HD.out]
  clear HD
  generalize 4 ^ l=p at*
  go_enter aa.func26,aa.ntmps26
  go_wp2_with (go_at_call 46;refine BY (HW.out _) ?_;rintro e w1 ⟨rfl,rfl⟩)
  go_ret
  exact⟨rfl,rfl⟩
 ·obtain rfl:l=4:=by omega
  go_enter aa.func26,aa.ntmps26
  go_wp2
  go_ret
  exact⟨rfl,rfl⟩
def dT(d:Nat->Int):Nat->ByteArray
 |0=>ByteArray.empty
 |k+1=>dT d k++fG (d k)
theorem Je(d:Int):(fG d).size=8:=sY d 8
theorem sa(d:Nat->Int):∀k,(dT d k).size=8*k
 |0=>rfl
 |k+1=>by rw[dT,No,sa d k,Je];omega
def iN(d:Nat->Int):Int:=cO (dT d 4)
theorem PH(g off cap:Nat)(d:Nat->Int)(w:World)(hg:g< w.heap.size)(hc:∀j,j< 4->w.cell? ⟨g,off+j,none⟩=some (.int .u64 (d j)))(hcap:(cap:Int)<=9223372036854775807):
  Calls aa.prog 92 #[.slice (some ⟨g,off,none⟩) 4 cap] w λe w'=>e= .returned (.int .u64 (iN d))/\Below w.heap.size w w':=by
 have HC:Hid _:=hc
 clear hc
 go_enter aa.func92,aa.ntmps92
 go_wp2
 go_loopw [3,8] (λo i wr=>∃k:Nat,k<=4/\i= .int .i64 k/\Hid (aO wr w.heap.size o (dT d k))/\Hid (Below w.heap.size w wr)) (λ_ i _=>4 - (intOf i).toNat)
 case atStart=>exact⟨0,by omega,rfl,aO.nil _ _,By _ _⟩
 case round=>
  obtain⟨k,hk,rfl,hr,hb⟩:=hrel
  have HR:Hid (aO wr w.heap.size u3 (dT d k)):=hr.out
  have HB:Hid (Below w.heap.size w wr):=hb.out
  have hsz:=hb.out.size
  clear hr hb
  by_cases hlt:k< 4
  ·have hcw:wr.cell? ⟨g,off+k,none⟩=some (.int .u64 (d k)):=(HB.out.cell (p:=⟨g,off+k,none⟩) hg).trans (HC.out k hlt)
   have g1:(k:Int)< 4:=by omega
   have g0:(0:Int)<=(k:Int):=by omega
   have HA:Hid _:=yG w.heap.size u3 (dT d k) (d k) wr HR.out hsz (by rw[sa];omega)
   go_wp2_with (go_at_call 50;refine BY HA.out ?_;rintro e w1 ⟨v1,rfl,hr1,hg1⟩;have HR1:Hid (aO w1 w.heap.size v1 (dT d (k+1))):=hr1;have HB1:Hid (Below w.heap.size w w1):=hg1.toBelow HB.out hsz HR.out;clear hr1 hg1)
   exact⟨⟨k+1,by omega,by go_num,HR1.out,HB1.out⟩,by simp[intOf];omega⟩
  ·obtain rfl:k=4:=by omega
   have hcv:=qV HR.out
   have HS:Hid (∀W,Calls aa.prog 82 #[.string (dT d 4)] W λe w'=>e= .returned (.int .u64 (iN d))/\w'=W):=λW=>yU _ W (by rw[sa];decide)
   go_wp2_with (go_at_call 82;refine BY (HS.out _) ?_;rintro e w2 ⟨rfl,rfl⟩)
   go_ret
   exact⟨rfl,HB.out⟩
theorem gG.len{w:World}{B:Nat}{v:Value}{ds:List Int}(h:gG w B v ds): ∃ad cap,v= .slice ad ds.length cap/\(cap:Int)<=9223372036854775807/\ds.length<=cap:=jJ h
theorem gG.below{w w':World}{B:Nat}{v:Value}{ds:List Int}(h:gG w B v ds)(hb:Below w.heap.size w w'):gG w' B v ds:=dp h hb (AI _)
theorem Ku(B m:Nat)(v:Value)(f:Nat->Int)(w:World)(hm:1<=m/\m<=16)(h:gG w B v ((List.range (m*4)).map f)):
  Calls aa.prog 69 #[v] w λe w'=>∃v',e= .returned v'/\gG w' w.heap.size v' ((List.range m).map λi=>iN λj=>f (i*4+j))/\Below w.heap.size w w':=by
 obtain⟨g,cap,rfl,hgl,hcells,hcap,hcl⟩: ∃g cap,v= .slice (some ⟨g,0,none⟩) (m*4) cap/\g< w.heap.size/\(∀k,k< m*4->w.cell? ⟨g,k,none⟩=some (.int .u64 (f k)))/\(cap:Int)<=9223372036854775807/\m*4<=cap:=by
  have hl:((List.range (m*4)).map f).length=m*4:=by simp
  have hget:∀k,k< m*4->(((List.range (m*4)).map f).map (Value.int .u64))[k]? =some (.int .u64 (f k)):=λk hk=>by simp[hk]
  unfold gG at h
  rw[hl] at h
  obtain⟨g,cap,hv,hg,_⟩:=tD h (hget 0 (by omega))
  obtain⟨ad,cap',hv',hc1,hc2⟩:=jJ h
  rw[hv] at hv'
  cases hv'
  refine⟨g,cap,hv,hg,λk hk=>?_,hc1,hc2⟩
  obtain⟨g',cap',hv',_,hc⟩:=tD h (hget k hk)
  rw[hv] at hv'
  cases hv'
  exact hc
 clear h
 obtain⟨i0,hi0,hz0,hz1,hz2⟩:=Yk aa.AB
 have hmk:=run_make (P:=aa.prog) w 147 44 i0 _ aa.underlying147 hi0 hz0 .i64 .i64 m m (by omega) (by omega) (by rw[hz2];omega) (by omega)
 rw[hz1] at hmk
 simp only[Int.toNat_natCast] at hmk
 have hM:=size_madeCells (Value.int .u64 0).cells (m*1)
 generalize madeCells (Value.int .u64 0).cells (m*1)=M at hmk hM
 have HM:Hid (M.size=m):=(show M.size=m by rw[hM,Nat.mul_one])
 have HC:Hid _:=hcells
 clear hM hi0 hz0 hz1 hz2 hcells
 have hquo:Int.tdiv ((m*4:Nat):Int) 4=(m:Int):=by
  rw[Int.natCast_mul];exact Int.mul_tdiv_cancel _ (by decide)
 have hquo2:((m*4:Nat):Int) / 4=(m:Int):=by omega
 go_enter aa.func69,aa.ntmps69
 go_wp2
 clear hquo hquo2
 go_loopw [11] (λi wr=>∃k:Nat,k<=m/\i= .int .i64 k/\Hid (pa w (λi=>iN λj=>f (i*4+j)) m k wr)) (λi _=>m - (intOf i).toNat)
 case atStart=>exact⟨0,by omega,rfl,M,IS w _,HM.out,by simp,(By _ _).alloc (AI _) _⟩
 case round=>
  obtain⟨k,hk,rfl,hrel⟩:=hrel
  by_cases hlt:k< m
  ·obtain⟨M',hh,hms,htk,hb⟩:=hrel.out
   have HTk:Hid (((List.range (k+1)).map λi=>iN λj=>f (i*4+j)).map (Value.int .u64)=((List.range k).map λi=>iN λj=>f (i*4+j)).map (Value.int .u64)++ [.int .u64 (iN λj=>f (k*4+j))]):=(show (((List.range (k+1)).map λi=>iN λj=>f (i*4+j)).map (Value.int .u64))=_ by simp[Zj])
   have HN:Hid _:=PH g (k*4) (cap - k*4) (λj=>f (k*4+j)) wr (X4 hgl hb.size) (λj hj=>(hb.cell (p:=⟨g,k*4+j,none⟩) hgl).trans (HC.out (k*4+j) (by omega))) (by omega)
   generalize (iN λj=>f (k*4+j))=F at*
   have HH:Hid (wr.heap[w.heap.size]? =some (.cells M' 44)/\M'.size=m/\M'.toList.take k=((List.range k).map λi=>iN λj=>f (i*4+j)).map (.int .u64)/\Below w.heap.size w wr):=⟨hh,hms,htk,hb⟩
   have hbs:=hb.size
   have hbo:=(IN.1 hh).1
   clear hh hms htk hb hrel
   have hsl:∀W,(Instr.slice 147 (.slice (some ⟨g,0,none⟩) (m*4) cap) (some (.int .i64 ((k:Int)*4))) (some (.int .i64 (((k:Int)+1)*4))) none).run aa.prog W= .ok (.slice (some ⟨g,k*4,none⟩) 4 (cap - k*4)) W:=λW=>by
    have:=Go.Lib.run_slice_window (P:=aa.prog) W 147 44 aa.underlying147 aa.sizeOf44 g 0 (m*4) cap (k*4) ((k+1)*4) (by omega) (by omega)
    rw[show (k+1)*4 - k*4=4 by omega,Nat.zero_add] at this
    simpa using this
   have g63:(k:Int)< (m:Int):=by omega
   have k0:(0:Int)<=(k:Int):=by omega
   go_wp2_with (go_at_call 92;refine BY HN.out ?_;rintro e w3 ⟨rfl,hb3⟩;have HB3:Hid (Below wr.heap.size wr w3):=hb3;have m0:=aY HH.out.1 HB3.out;obtain⟨⟨x1,m1⟩,m2⟩:=Ae (k:=k) m0 (by rw[HH.out.2.1];exact hlt);have HM0:Hid (w3.heap[w.heap.size]? =some (.cells M' 44)):=m0;clear hb3 m0)
   refine⟨⟨k+1,by omega,by go_num,_,heap_set HM0.out,by rw[YK];exact HH.out.2.1,?_,(HH.out.2.2.2.trans (HB3.out.mono hbs)).setCell (AI _) _⟩,by simp[intOf];omega⟩
   rw[HTk.out]
   exact Dj (by rw[HH.out.2.1];exact hlt) HH.out.2.2.1
  ·obtain rfl:k=m:=by omega
   have HR:Hid (pa w (λi=>iN λj=>f (i*4+j)) k k wr):=hrel.out
   clear hrel
   go_wp2
   go_ret
   exact⟨_,rfl,HR.out.row (by unfold maxLen;omega),HR.out.elim λM' h=>h.2.2.2⟩
end
def fL(ns:List Nat):Nat->Int
 |0=>-1
 |k+1=>((ns[k]?).getD 0:Nat)
theorem yX{ns:List Nat}(h:ns.Pairwise (· < ·)){k:Nat}(hk:k< ns.length):fL ns k< (ns[k]:Int):=by
 cases k with
 |zero=>simp only[fL];omega
 |succ k=>
  have:=Y3.1 h k (k+1) (by omega) hk (by omega)
  simp only[fL,Yn (show k< ns.length by omega),Zv]
  omega
theorem GD(b lv:Nat)(c1 c2:Value)(ns:List Nat)(rest body:Nat->ByteArray)(J:Nat->World->Prop)(w:World)(h:bl w b (al ns.length++rest 0))(h1:1<=ns.length/\ns.length<=64)(hlv:lv<=3)(hns:∀n∈ns,n< 4 ^ lv)(hasc:ns.Pairwise (· < ·))(hrest:∀k (h:k< ns.length),rest k=al ns[k]++(body k++rest (k+1)))(hJ0:∀w',Rd w w' b (rest 0)->J 0 w')(hJr:∀k W,J k W->bl W b (rest k))(hclo:∀k (h:k< ns.length) W W',J k W->Rd W W' b (body k++rest (k+1))->Calls aa.prog 75 #[.int .i64 ns[k],c1,c2] W' λe w'=>e= .returned (.tuple #[])/\J (k+1) w'):
  Calls aa.prog 74 #[.pointer (some ⟨b,0,none⟩),.int .i64 lv,.func (.func 75) #[] #[c1,c2]] w λe w'=>e= .returned (.tuple #[])/\J ns.length w':=by
 have HB:Hid (Calls aa.prog 53 #[.pointer (some ⟨b,0,none⟩)] w λe w'=>e= .returned (.int .i64 ns.length)/\J 0 w'):=(kA b ns.length _ w h (by omega) (by omega)).mono λe w' ⟨he,hr⟩=>⟨he,hJ0 w' hr⟩
 have HM:Hid _:=rV b
 have HF:Hid (∀k W,J k W->Calls aa.prog 99 #[.pointer (some ⟨b,0,none⟩)] W λe w'=>e= .returned (.bool false)/\w'=W):=λk W hJ=>ya b _ W (hJr k W hJ)
 have HBk:Hid (∀k (h:k< ns.length) W,J k W->Calls aa.prog 53 #[.pointer (some ⟨b,0,none⟩)] W λe w'=>e= .returned (.int .i64 ns[k])/\Rd W w' b (body k++rest (k+1))):=λk hk W hJ=>by
  have hn:=hns _ (X9 hk)
  have h4:=(oD hlv).1
  have hr:=hJr k W hJ
  rw[hrest k hk] at hr
  exact kA b ns[k] _ W hr (by omega) (by omega)
 have HH:Hid (∀k (h:k< ns.length) W,Calls aa.prog 26 #[.int .i64 lv,.int .i64 ns[k]] W λe w'=>e= .returned (.bool true)/\w'=W):=λk hk W=>by
  have:=xW lv ns[k] (by omega) W
  rw[ZL ⟨hlv,hns _ (X9 hk)⟩] at this
  exact this
 have HC:Hid (∀k (h:k< ns.length) W W',J k W->Rd W W' b (body k++rest (k+1))->Calls aa.prog 75 #[.int .i64 ns[k],c1,c2] W' λe w'=>e= .returned (.tuple #[])/\J (k+1) w'):=hclo
 have HL:Hid (∀k (h:k< ns.length),fL ns k< (ns[k]:Int)):=λk hk=>yX hasc hk
 have n1:(1:Int)<=(ns.length:Int):=by omega
 have n2:(ns.length:Int)<=64:=by omega
 clear h hJ0 hJr hclo hns hasc hrest
 go_enter aa.func74,aa.ntmps74
 go_wp2_with (first
  |(go_at_call 53;refine HB.out.mono ?_;rintro e w1 ⟨rfl,hj1⟩;have HJ1:Hid (J 0 w1):=hj1;clear hj1)
  |(go_at_call 57;refine (HM.out _).mono ?_;rintro e w' ⟨rfl,hw'⟩;subst w'))
 go_loopw [7,8] (λlv iv wr=>∃k:Nat,k<=ns.length/\lv= .int .i64 (fL ns k)/\iv= .int .i64 k/\Hid (J k wr)) (λ_ iv _=>ns.length - (intOf iv).toNat)
 case atStart=>exact⟨0,by omega,rfl,rfl,HJ1.out⟩
 case round=>
  obtain⟨k,hk,rfl,rfl,HJ⟩:=hrel
  by_cases hkl:k< ns.length
  ·have k1:(k:Int)< (ns.length:Int):=by omega
   have hdk:decide ((k:Int)< (ns.length:Int))=true:=by simpa using hkl
   have hln:=HL.out k hkl
   have HLs:Hid (fL ns (k+1)=(ns[k]:Int)):=(show fL ns (k+1)=(ns[k]:Int) by simp[fL,hkl])
   have HF':Hid (Calls aa.prog 99 #[.pointer (some ⟨b,0,none⟩)] wr λe w'=>e= .returned (.bool false)/\w'=wr):=HF.out k wr HJ.out
   have HB':Hid (Calls aa.prog 53 #[.pointer (some ⟨b,0,none⟩)] wr λe w'=>e= .returned (.int .i64 ns[k])/\Rd wr w' b (body k++rest (k+1))):=HBk.out k hkl wr HJ.out
   have HH':Hid (∀W,Calls aa.prog 26 #[.int .i64 lv,.int .i64 ns[k]] W λe w'=>e= .returned (.bool true)/\w'=W):=λW=>HH.out k hkl W
   have HC':Hid (∀W',Rd wr W' b (body k++rest (k+1))->Calls aa.prog 75 #[.int .i64 ns[k],c1,c2] W' λe w'=>e= .returned (.tuple #[])/\J (k+1) w'):=λW' h=>HC.out k hkl wr W' HJ.out h
   generalize ns[k]=nk at*
   clear HF HBk HH HC HL HB
   go_wp2_with (first
    |(go_at_call 99;refine HF'.out.mono ?_;rintro e w' ⟨rfl,hw'⟩;subst w')
    |(go_at_call 53;refine HB'.out.mono ?_;rintro e w2 ⟨rfl,hr2⟩;have HR2:Hid (Rd wr w2 b (body k++rest (k+1))):=hr2;clear hr2)
    |(go_at_call 26;refine (HH'.out _).mono ?_;rintro e w' ⟨rfl,hw'⟩;subst w')
    |(go_at_call 57;refine (HM.out _).mono ?_;rintro e w' ⟨rfl,hw'⟩;subst w')
    |(go_at_call 75;refine (HC'.out _ HR2.out).mono ?_;rintro e w3 ⟨rfl,hj3⟩;have HJ3:Hid (J (k+1) w3):=hj3;clear hj3))
   exact⟨⟨k+1,by omega,by rw[HLs.out],by go_num,HJ3.out⟩,by simp[intOf];omega⟩
  ·obtain rfl:k=ns.length:=by omega
   go_wp2
   go_end0
   exact⟨rfl,HJ.out⟩
theorem NW(b lv:Nat)(c1 c2:Value)(ns:List Nat)(rest body:Nat->ByteArray)(J:Nat->World->Prop)(w:World)(h:bl w b (al ns.length++rest 0))(h1:1<=ns.length/\ns.length<=64)(hlv:lv<=3)(hns:∀n∈ns,n< 4 ^ lv)(hasc:ns.Pairwise (· < ·))(hrest:∀k (h:k< ns.length),rest k=al ns[k]++(body k++rest (k+1)))(hJ0:∀w',Rd w w' b (rest 0)->J 0 w')(hJr:∀k W,J k W->bl W b (rest k))(hclo:∀k (h:k< ns.length) W W',J k W->Rd W W' b (body k++rest (k+1))->Calls aa.prog 76 #[.int .i64 ns[k],c1,c2] W' λe w'=>e= .returned (.tuple #[])/\J (k+1) w'):
  Calls aa.prog 74 #[.pointer (some ⟨b,0,none⟩),.int .i64 lv,.func (.func 76) #[] #[c1,c2]] w λe w'=>e= .returned (.tuple #[])/\J ns.length w':=by
 have HB:Hid (Calls aa.prog 53 #[.pointer (some ⟨b,0,none⟩)] w λe w'=>e= .returned (.int .i64 ns.length)/\J 0 w'):=(kA b ns.length _ w h (by omega) (by omega)).mono λe w' ⟨he,hr⟩=>⟨he,hJ0 w' hr⟩
 have HM:Hid _:=rV b
 have HF:Hid (∀k W,J k W->Calls aa.prog 99 #[.pointer (some ⟨b,0,none⟩)] W λe w'=>e= .returned (.bool false)/\w'=W):=λk W hJ=>ya b _ W (hJr k W hJ)
 have HBk:Hid (∀k (h:k< ns.length) W,J k W->Calls aa.prog 53 #[.pointer (some ⟨b,0,none⟩)] W λe w'=>e= .returned (.int .i64 ns[k])/\Rd W w' b (body k++rest (k+1))):=λk hk W hJ=>by
  have hn:=hns _ (X9 hk)
  have h4:=(oD hlv).1
  have hr:=hJr k W hJ
  rw[hrest k hk] at hr
  exact kA b ns[k] _ W hr (by omega) (by omega)
 have HH:Hid (∀k (h:k< ns.length) W,Calls aa.prog 26 #[.int .i64 lv,.int .i64 ns[k]] W λe w'=>e= .returned (.bool true)/\w'=W):=λk hk W=>by
  have:=xW lv ns[k] (by omega) W
  rw[ZL ⟨hlv,hns _ (X9 hk)⟩] at this
  exact this
 have HC:Hid (∀k (h:k< ns.length) W W',J k W->Rd W W' b (body k++rest (k+1))->Calls aa.prog 76 #[.int .i64 ns[k],c1,c2] W' λe w'=>e= .returned (.tuple #[])/\J (k+1) w'):=hclo
 have HL:Hid (∀k (h:k< ns.length),fL ns k< (ns[k]:Int)):=λk hk=>yX hasc hk
 have n1:(1:Int)<=(ns.length:Int):=by omega
 have n2:(ns.length:Int)<=64:=by omega
 clear h hJ0 hJr hclo hns hasc hrest
 go_enter aa.func74,aa.ntmps74
 go_wp2_with (first
  |(go_at_call 53;refine HB.out.mono ?_;rintro e w1 ⟨rfl,hj1⟩;have HJ1:Hid (J 0 w1):=hj1;clear hj1)
  |(go_at_call 57;refine (HM.out _).mono ?_;rintro e w' ⟨rfl,hw'⟩;subst w'))
 go_loopw [7,8] (λlv iv wr=>∃k:Nat,k<=ns.length/\lv= .int .i64 (fL ns k)/\iv= .int .i64 k/\Hid (J k wr)) (λ_ iv _=>ns.length - (intOf iv).toNat)
 case atStart=>exact⟨0,by omega,rfl,rfl,HJ1.out⟩
 case round=>
  obtain⟨k,hk,rfl,rfl,HJ⟩:=hrel
  by_cases hkl:k< ns.length
  ·have k1:(k:Int)< (ns.length:Int):=by omega
   have hdk:decide ((k:Int)< (ns.length:Int))=true:=by simpa using hkl
   have hln:=HL.out k hkl
   have HLs:Hid (fL ns (k+1)=(ns[k]:Int)):=(show fL ns (k+1)=(ns[k]:Int) by simp[fL,hkl])
   have HF':Hid (Calls aa.prog 99 #[.pointer (some ⟨b,0,none⟩)] wr λe w'=>e= .returned (.bool false)/\w'=wr):=HF.out k wr HJ.out
   have HB':Hid (Calls aa.prog 53 #[.pointer (some ⟨b,0,none⟩)] wr λe w'=>e= .returned (.int .i64 ns[k])/\Rd wr w' b (body k++rest (k+1))):=HBk.out k hkl wr HJ.out
   have HH':Hid (∀W,Calls aa.prog 26 #[.int .i64 lv,.int .i64 ns[k]] W λe w'=>e= .returned (.bool true)/\w'=W):=λW=>HH.out k hkl W
   have HC':Hid (∀W',Rd wr W' b (body k++rest (k+1))->Calls aa.prog 76 #[.int .i64 ns[k],c1,c2] W' λe w'=>e= .returned (.tuple #[])/\J (k+1) w'):=λW' h=>HC.out k hkl wr W' HJ.out h
   generalize ns[k]=nk at*
   clear HF HBk HH HC HL HB
   go_wp2_with (first
    |(go_at_call 99;refine HF'.out.mono ?_;rintro e w' ⟨rfl,hw'⟩;subst w')
    |(go_at_call 53;refine HB'.out.mono ?_;rintro e w2 ⟨rfl,hr2⟩;have HR2:Hid (Rd wr w2 b (body k++rest (k+1))):=hr2;clear hr2)
    |(go_at_call 26;refine (HH'.out _).mono ?_;rintro e w' ⟨rfl,hw'⟩;subst w')
    |(go_at_call 57;refine (HM.out _).mono ?_;rintro e w' ⟨rfl,hw'⟩;subst w')
    |(go_at_call 76;refine (HC'.out _ HR2.out).mono ?_;rintro e w3 ⟨rfl,hj3⟩;have HJ3:Hid (J (k+1) w3):=hj3;clear hj3))
   exact⟨⟨k+1,by omega,by rw[HLs.out],by go_num,HJ3.out⟩,by simp[intOf];omega⟩
  ·obtain rfl:k=ns.length:=by omega
   go_wp2
   go_end0
   exact⟨rfl,HJ.out⟩
theorem aa.Dy:(aa.prog.info? 167).map (λi=>(i.zero,i.size,i.bytes))=some (some (.agg #[.int .i64 0,.slice none 0 0]),2,32):=by kernel_rfl
def bL(T:TypeId->Prop)(w w':World):Prop:=∀(k:Nat) (cs:Array Value) (t:TypeId) (fr:Nat×Nat),w.heap[k]? =some (.cells cs t fr)->T t->w'.heap[k]? =some (.cells cs t fr)
theorem bL.row{T:TypeId->Prop}{w w':World}(h:bL T w w'){B size n:Nat}{t:TypeId}{v:Value}{xs:List Value}(hr:w.ownsRow B t size v n xs)(ht:T t):w'.ownsRow B t size v n xs:=by
 obtain⟨h1,h2⟩:=hr
 refine⟨h1,?_⟩
 rcases h2 with h2|⟨g,cap,cur,hv,hg,hh,r⟩
 ·exact Or.inl h2
 ·exact Or.inr ⟨g,cap,cur,hv,hg,h _ _ _ _ hh ht,r⟩
theorem bL.trans{T:TypeId->Prop}{w w1 w2:World}(h:bL T w w1)(h':bL T w1 w2):bL T w w2:=λk cs t fr hk ht=>h' _ _ _ _ (h _ _ _ _ hk ht) ht
theorem bL.below{T:TypeId->Prop}{w w1:World}(h:Below w.heap.size w w1):bL T w w1:=λ_ _ _ _ hk _=>aY hk h
theorem bL.rd{T:TypeId->Prop}{w w1:World}{b:Nat}{s s0:ByteArray}(h:Rd w w1 b s)(h0:bl w b s0)(hT: ¬ T 158):bL T w w1:=λk cs t fr hk ht=>h.other hk λe=>by
 subst e;rw[h0.1] at hk;cases hk;exact hT ht
theorem bL.grown{T:TypeId->Prop}{w w1:World}{v:Value}(h:w.grownBy w1 v.ownBlock){B size n:Nat}{e:TypeId}{xs:List Value}(hr:w.ownsRow B e size v n xs)(hT: ¬ T e):bL T w w1:=λk cs t fr hk ht=>lW h hr hk λe'=>hT (e' ▸ ht)
theorem bL.set{T:TypeId->Prop}{w:World}{b:Nat}{A:Array Value}{t:TypeId}{fr:Nat×Nat}(hb:w.heap[b]? =some (.cells A t fr))(hT: ¬ T t)(o:Nat)(v:Value):bL T w (w.setCell ⟨b,o,none⟩ v):=λk cs t' fr' hk ht=>by
 rw[Yj _ _ _ _ (λe=>by subst e;rw[hb] at hk;cases hk;exact hT ht)]
 exact hk
theorem ja.dO{T:TypeId->Prop}{w W W':World}{v:Value}{rc:List Rc}{rs:List ai}(h:ja w W v rc rs)(hk:bL T W W')(h1:T 151)(h2:T 144):ja w W' v rc rs:=
 ⟨hk.row h.row h1,h.bU,λr hr=>hk.row (h.qS r hr) h2⟩
theorem ja.base{w w0 W:World}{v:Value}{rc:List Rc}{rs:List ai}(h:ja w W v rc rs)(hb:w0.heap.size<=w.heap.size):ja w0 W v rc rs:=
 ⟨cY h.row hb,h.bU,λr hr=>cY (h.qS r hr) hb⟩
abbrev Gm:=Nat×Value×List Rc
def fK(gs:List Gm):List Value:=gs.flatMap λg=>[.int .i64 g.1,g.2.1]
structure iH(w W:World)(v:Value)(gs:List Gm)(sg:List (Nat×List ai)):Prop where
 row:W.ownsRow w.heap.size 167 2 v gs.length (fK gs)
 is:gs.map (λg=>(g.1,g.2.2.map Rc.bU))=sg
 k9:∀g∈gs,ja w W g.2.1 g.2.2 (g.2.2.map Rc.bU)
theorem iH.dO{T:TypeId->Prop}{w W W':World}{v:Value}{gs:List Gm}{sg:List (Nat×List ai)}(h:iH w W v gs sg)(hk:bL T W W')(h1:T 151)(h2:T 144)(h3:T 167):iH w W' v gs sg:=
 ⟨hk.row h.row h3,h.is,λg hg=>(h.k9 g hg).dO hk h1 h2⟩
def gB(rs:List ai):ByteArray:=cy rs.length++eC rs
def ba:List (Nat×List ai)->ByteArray
 |[]=>ByteArray.empty
 |g::l=>al g.1++(gB g.2++ba l)
structure pP(w:World)(b bb bs br kind:Nat)(sg:List (Nat×List ai))(s:ByteArray)(k:Nat)(W:World):Prop where
 box:W.heap[bb]? =some (.cells #[.pointer (some ⟨b,0,none⟩)] 122)
 st: ∃lv gs,W.heap[bs]? =some (.cells #[.int .u8 kind,lv] 132)/\iH w W lv gs (sg.take k)
 res:W.heap[br]? =some (.cells #[.int .u8 0,.slice none 0 0] 132)
 rd:Rd w W b (ba (sg.drop k)++s)
theorem pP.step{w w2 w4:World}{b bb bs br kind n k g4 cap4:Nat}{sg:List (Nat×List ai)}{s:ByteArray}{gs:List Gm}{lv v2:Value}{rc:List Rc}{rs:List ai}(hb:w2.heap[bb]? =some (.cells #[.pointer (some ⟨b,0,none⟩)] 122))(hs:w2.heap[bs]? =some (.cells #[.int .u8 kind,lv] 132))(hr:w2.heap[br]? =some (.cells #[.int .u8 0,.slice none 0 0] 132))(ha:iH w w2 lv gs (sg.take k))(hrc:ja w w2 v2 rc rs)(hK:bL (λt=>t≠167) w2 w4)(ho:w4.ownsRow w.heap.size 167 2 (.slice (some ⟨g4,0,none⟩) (k+1) cap4) (k+1) (fK gs++ [.int .i64 n,v2]))(hrd:Rd w w4 b (ba (sg.drop (k+1))++s))(hne:b< w.heap.size/\w.heap.size<=bs/\bb≠bs/\br≠bs)(ht:sg.take (k+1)=sg.take k++ [(n,rs)])(hl:gs.length=k):pP w b bb bs br kind sg s (k+1) (w4.setCell ⟨bs,1,none⟩ (.slice (some ⟨g4,0,none⟩) (k+1) cap4)):=by
 obtain⟨n1,n2,n3,n4⟩:=hne
 have hs4:=hK _ _ _ _ hs (by decide)
 have hK2:bL (λt=>t=151\/t=144) w2 (w4.setCell ⟨bs,1,none⟩ (.slice (some ⟨g4,0,none⟩) (k+1) cap4)):=λq cs t fr hq h=>bL.set hs4 (T:=λt=>t≠132) (λh=>h rfl) _ _ _ _ _ _ (hK _ _ _ _ hq (by rcases h with rfl|rfl<;>decide)) (by rcases h with rfl|rfl<;>decide)
 refine⟨?_,⟨_,gs++ [(n,v2,rc)],heap_set hs4,?_,?_,λg hg=>?_⟩,?_,hrd.setCell ⟨n2,by omega⟩ _⟩
 ·rw[Yj _ _ _ _ n3];exact hK _ _ _ _ hb (by decide)
 ·rw[Yh,hl,fK,Ze]
  exact fW ho hs4 (by decide) _ _
 ·rw[ht,Zx,ha.is,List.map_singleton,hrc.bU]
 ·rcases Zl.1 hg with hg|hg
  ·exact (ha.k9 g hg).dO hK2 (.inl rfl) (.inr rfl)
  ·obtain rfl:=Y4.1 hg
   have:=hrc.dO hK2 (.inl rfl) (.inr rfl)
   rw[←hrc.bU] at this
   exact this
 ·rw[Yj _ _ _ _ n4];exact hK _ _ _ _ hr (by decide)
theorem OK(w:World)(b bb bs br kind:Nat)(sg:List (Nat×List ai))(s:ByteArray)(hne:b< w.heap.size/\w.heap.size<=bb/\w.heap.size<=bs/\w.heap.size<=br/\bb≠bs/\br≠bs)(hlen:sg.length<=64)(k:Nat)(hk:k< sg.length)(hok:kl sg[k].1 sg[k].2)(W W':World)(h:pP w b bb bs br kind sg s k W)(hr:Rd W W' b (gB sg[k].2++(ba (sg.drop (k+1))++s))):
  Calls aa.prog 76 #[.int .i64 sg[k].1,.pointer (some ⟨bs,0,none⟩),.pointer (some ⟨bb,0,none⟩)] W' λe w'=>e= .returned (.tuple #[])/\pP w b bb bs br kind sg s (k+1) w':=by
 obtain⟨i0,hi0,hz0,hz1,hz2⟩:=Yk aa.Dy
 obtain⟨n1,n2,n3,n4,n5,n6⟩:=hne
 have HTk:Hid (sg.take (k+1)=sg.take k++ [sg[k]]):=Yu hk
 obtain⟨lv,gs,hst,hsa⟩:=h.st
 have hgl:gs.length=k:=by have:=congrArg List.length hsa.is;simpa[Nat.min_eq_left (Nat.le_of_lt hk)] using this
 have hbx:=hr.other h.box (show bb≠b by omega)
 have hst':=hr.other hst (show bs≠b by omega)
 have hre:=hr.other h.res (show br≠b by omega)
 have hKT:bL (λt=>t≠158) W W':=bL.rd hr h.rd.1 (λh=>h rfl)
 have hsa':=hsa.dO hKT (by decide) (by decide) (by decide)
 have hrd:Rd w W' b (gB sg[k].2++(ba (sg.drop (k+1))++s)):=h.rd.trans hr
 have hrow:W'.ownsRow w.heap.size 167 2 lv k (fK gs):=by have:=hsa'.row;rw[hgl] at this;exact this
 clear h hr hst hsa hKT
 generalize sg[k]=g at*
 obtain⟨n,rs⟩:=g
 simp only[gB] at*
 rw[cq] at hrd
 obtain⟨ad,cap,rfl⟩:=gY hrow
 obtain⟨cb,fb⟩:=au hbx
 obtain⟨cs,fs⟩:=au hst'
 have x0:=cb 0
 have y1:=cs 1
 have g1:=fs 1
 clear cb fb cs fs
 have HRr:Hid (Calls aa.prog 77 #[.pointer (some ⟨b,0,none⟩),.int .i64 n] W'.drew λe w2=>∃ad2 len2 cap2 rc,e= .returned (.slice ad2 len2 cap2)/\ja w w2 (.slice ad2 len2 cap2) rc rs/\Rd w w2 b (ba (sg.drop (k+1))++s)/\w2.heap[bb]? =some (.cells #[.pointer (some ⟨b,0,none⟩)] 122)/\w2.heap[bs]? =some (.cells #[.int .u8 kind,.slice ad k cap] 132)/\w2.heap[br]? =some (.cells #[.int .u8 0,.slice none 0 0] 132)/\w2.ownsRow w.heap.size 167 2 (.slice ad k cap) k (fK gs)/\iH w w2 (.slice ad k cap) gs (sg.take k)):=by
  refine (Pt b n rs _ W'.drew (hrd.1.below (By _ _).drew) hok).mono ?_
  rintro e w2 ⟨v2,rc,rfl,hrc,hr2⟩
  obtain⟨ad2,cap2,rfl⟩:=gY hrc.row
  have hr2':Rd W' w2 b (ba (sg.drop (k+1))++s):=⟨hr2.1,(Fr.refl _ _).drew.trans hr2.2⟩
  have hKT:bL (λt=>t≠158) W' w2:=bL.rd hr2' hrd.1 (λh=>h rfl)
  exact⟨ad2,_,cap2,rc,rfl,hrc.base hrd.2.size,hrd.trans hr2',hr2'.other hbx (by omega),hr2'.other hst' (by omega),hr2'.other hre (by omega),hKT.row hrow (by decide),hsa'.dO hKT (by decide) (by decide) (by decide)⟩
 clear hbx hst' hre hsa' hrd hrow hok
 go_enter aa.func76,aa.ntmps76
 go_region_law (first
  |(refine Z4 _ rfl _ _ _ rfl w.heap.size 167 i0 _ 2 32 aa.underlying130 hi0 hz0 hz1 hz2 rfl (by omega) (.slice ad k cap) _ _ rfl (Yc HO2.out _) ⟨w2.heap.size,0,none⟩ 1 1 [.int .i64 n,.slice ad2 len2 cap2] rfl rfl (Yo (IS w2 _)) (by simp[Value.oneCell']) (by omega) (by unfold maxLen;omega) (by omega) (by have:=HRd2.out.2.size;simp;omega) (w2.heap.size+1) (by simp) ?_;intro g4 cap4 w4 hown4 hgr4 hat4 hlt4;have HO4:Hid (w4.ownsRow w.heap.size 167 2 (.slice (some ⟨g4,0,none⟩) (k+1) cap4) (k+1) (fK gs++ [.int .i64 n,.slice ad2 len2 cap2])):=hown4;have hK4:bL (λt=>t≠167) w2 w4:=(bL.below ((By _ _).alloc (AI _) _)).trans (bL.grown hgr4 (Yc HO2.out _) (λh=>h rfl));have HK4:Hid (bL (λt=>t≠167) w2 w4):=hK4;have hc4:=hK4 _ _ _ _ HS2.out (by decide);obtain⟨cb4,fb4⟩:=au hc4;have c41:=cb4 1;have f41:=fb4 1;have HRd4:Hid (Rd w w4 b (ba (sg.drop (k+1))++s)):=(HRd2.out.below ((By _ _).alloc (AI _) _)).mS (Yc HO2.out _) hgr4 (by decide);clear cb4 fb4 hc4 hK4 hown4 hgr4)
  |(go_simp;go_at_call 77;refine BY HRr.out ?_;rintro e w2 ⟨ad2,len2,cap2,rc,rfl,hrc2,hrd2,hb2,hs2,hre2,ho2,hsa2⟩;obtain⟨cs2,fs2⟩:=au hs2;have y2:=cs2 1;have hbs2:=(IN.1 hs2).1;have HRc2:Hid (ja w w2 (.slice ad2 len2 cap2) rc rs):=hrc2;have HRd2:Hid (Rd w w2 b (ba (sg.drop (k+1))++s)):=hrd2;have HB2:Hid (w2.heap[bb]? =some (.cells #[.pointer (some ⟨b,0,none⟩)] 122)):=hb2;have HS2:Hid (w2.heap[bs]? =some (.cells #[.int .u8 kind,.slice ad k cap] 132)):=hs2;have HRe2:Hid (w2.heap[br]? =some (.cells #[.int .u8 0,.slice none 0 0] 132)):=hre2;have HO2:Hid (w2.ownsRow w.heap.size 167 2 (.slice ad k cap) k (fK gs)):=ho2;have HSA2:Hid (iH w w2 (.slice ad k cap) gs (sg.take k)):=hsa2;clear hrc2 hrd2 hb2 hs2 hre2 ho2 hsa2 cs2 fs2))
 all_goals
  go_wp2
  go_end0
  exact⟨rfl,pP.step HB2.out HS2.out HRe2.out HSA2.out HRc2.out HK4.out HO4.out HRd4.out (by omega) HTk.out hgl⟩
theorem Bw{l:List (Nat×List ai)}{k:Nat}(h:k< l.length):ba (l.drop k)=al l[k].1++(gB l[k].2++ba (l.drop (k+1))):=by
 rw[aal h,ba]
structure ko(sg:List (Nat×List ai)):Prop where
 len:1<=sg.length/\sg.length<=64
 num:∀g∈sg,g.1< 64/\kl g.1 g.2
 je:(sg.map (·.1)).Pairwise (· < ·)
theorem DK(b kind:Nat)(sg:List (Nat×List ai))(s:ByteArray)(w:World)(h:bl w b (al sg.length++(ba sg++s)))(hok:ko sg):
  Calls aa.prog 56 #[.pointer (some ⟨b,0,none⟩),.int .u8 kind] w λe w'=>∃lv gs,e= .returned (.agg #[.int .u8 kind,lv])/\iH w w' lv gs sg/\Rd w w' b s:=by
 have hbl:=h.lt
 have hl:=hok.len
 have HE:Hid (∀W,W.heap[w.heap.size]? =some (.cells #[.pointer (some ⟨b,0,none⟩)] 122)->W.heap[w.heap.size+1]? =some (.cells #[.int .u8 0,.slice none 0 0] 132)->W.heap[w.heap.size+2]? =some (.cells #[.int .u8 kind,.slice none 0 0] 132)->Rd w W b (al sg.length++(ba sg++s))->
   Calls aa.prog 74 #[.pointer (some ⟨b,0,none⟩),.int .i64 3,.func (.func 76) #[] #[.pointer (some ⟨w.heap.size+2,0,none⟩),.pointer (some ⟨w.heap.size,0,none⟩)]] W λe w'=>e= .returned (.tuple #[])/\∃lv gs,w'.heap[w.heap.size+2]? =some (.cells #[.int .u8 kind,lv] 132)/\iH w w' lv gs sg/\w'.heap[w.heap.size+1]? =some (.cells #[.int .u8 0,.slice none 0 0] 132)/\Rd w w' b s):=by
  intro W h1 h2 h3 h4
  have e1:(sg.map (·.1)).length=sg.length:=Yr ..
  have:=NW b 3 (.pointer (some ⟨w.heap.size+2,0,none⟩)) (.pointer (some ⟨w.heap.size,0,none⟩)) (sg.map (·.1)) (λk=>ba (sg.drop k)++s) (λk=>gB ((sg[k]?.map (·.2)).getD [])) (pP w b w.heap.size (w.heap.size+2) (w.heap.size+1) kind sg s) W
   (by rw[e1,List.drop_zero];exact h4.1) (by rw[e1];exact hl) (by omega) (λn hn=>by obtain⟨g,hg,rfl⟩:=Ya.1 hn;exact (hok.num g hg).1) hok.je
   (λk hk=>by rw[e1] at hk;simp only[Bw hk,ZX,Yn hk,YO,Zv,cq])
   (λw' hr=>⟨hr.other h1 (by omega),⟨_,[],hr.other h3 (by omega),⟨Y6 _ _ _ _,rfl,λg hg=>by cases hg⟩⟩,hr.other h2 (by omega),h4.trans hr⟩)
   (λk W hJ=>hJ.rd.1)
   (λk hk W W' hJ hr=>by
    rw[e1] at hk
    simp only[Yn hk,YO,Zv] at hr
    have:=OK w b w.heap.size (w.heap.size+2) (w.heap.size+1) kind sg s (by omega) hl.2 k hk (hok.num _ (X9 hk)).2 W W' hJ hr
    simpa using this)
  refine this.mono ?_
  rintro e w' ⟨rfl,hJ⟩
  rw[e1] at hJ
  obtain⟨lv,gs,x1,x2⟩:=hJ.st
  rw[YD] at x2
  have x3:=hJ.rd
  rw[List.drop_length,ba,iY] at x3
  exact⟨rfl,lv,gs,x1,x2,hJ.res,x3⟩
 have hmf:∀(fn:Fn) (first cap:Array Value) (w:World),(Instr.makeFunc fn first cap).run aa.prog w= .ok (.func fn first cap) w:=λ_ _ _ _=>rfl
 obtain⟨W0,hW0⟩: ∃W,W=(((w.alloc (.cells #[.pointer (some ⟨b,0,none⟩)] 122)).alloc (.cells #[.int .u8 0,.slice none 0 0] 132)).alloc (.cells #[.int .u8 kind,.slice none 0 0] 132)):=⟨_,rfl⟩
 have hB0:Below w.heap.size w W0:=by rw[hW0];exact (((By _ _).alloc (AI _) _).alloc (by simp) _).alloc (by simp;omega) _
 have HE':Hid _:=HE.out W0 (by rw[hW0,OF _ _ _ (by simp;omega),OF _ _ _ (by simp)];exact IS w _) (by rw[hW0,OF _ _ _ (by simp)];exact kF w _ _) (by rw[hW0];have:=IS ((w.alloc (.cells #[.pointer (some ⟨b,0,none⟩)] 122)).alloc (.cells #[.int .u8 0,.slice none 0 0] 132)) (.cells #[.int .u8 kind,.slice none 0 0] 132);simpa using this) ((Rd.refl h).below hB0)
 clear h HE
 go_enter aa.func56,aa.ntmps56
 go_wp2_with (go_at_call 74;rw[←hW0];refine BY HE'.out ?_;rintro e w3 ⟨rfl,lv,gs,hs3,hsa3,hre3,hrd3⟩;obtain⟨ad,cap,rfl⟩:=gY hsa3.row;obtain⟨cs3,fs3⟩:=au hs3;obtain⟨cr3,fr3⟩:=au hre3;have s0:=cs3 0;have s1:=cs3 1;have r0:=cr3 0;have r1:=cr3 1;have t0:=fr3 0;have t1:=fr3 1;clear cs3 fs3 cr3 fr3;have HSA:Hid (iH w w3 (.slice ad gs.length cap) gs sg):=hsa3;have HRE:Hid (w3.heap[w.heap.size+1]? =some (.cells #[.int .u8 0,.slice none 0 0] 132)):=hre3;have HRD:Hid (Rd w w3 b s):=hrd3;clear hs3 hsa3 hre3 hrd3)
 refine YB (v:= .agg #[.int .u8 kind,.slice ad gs.length cap]) ?_ rfl ⟨_,gs,rfl,?_,?_⟩
 ·simp[results,aa.results56,go_sem,r0,r1]
 ·have k1:=bL.set (T:=λt=>t≠132) HRE.out (λh=>h rfl) 0 (.int .u8 kind)
  have k2:=bL.set (T:=λt=>t≠132) (heap_set (o:=0) (v:= .int .u8 kind) HRE.out) (λh=>h rfl) 1 (.slice ad gs.length cap)
  exact HSA.out.dO (k1.trans k2) (by decide) (by decide) (by decide)
 ·exact (HRD.out.setCell (by omega) _).setCell (by omega) _
end Go.Proofs.YtldmcdeibiclkaaGreatDoorQ
