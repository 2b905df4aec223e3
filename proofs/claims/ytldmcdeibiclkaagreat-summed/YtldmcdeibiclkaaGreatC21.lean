/-
  Toward summed_holds: Contracts of the reference: Put, done.
-/
import Derived.Test.YtldmcdeibiclkaaGreatC20
import Derived.Test.YtldmcdeibiclkaaGreatC19
import Derived.Maps.RangeRun
set_option linter.unusedVariables false
set_option linter.unusedSimpArgs false
set_option maxRecDepth 100000
set_option maxHeartbeats 20000000
namespace Go.Proofs.YtldmcdeibiclkaaGreatQ
variable {K:aB}{w w1 w':World}{l:List aC}{rb B clock n':Nat}{sv v:Value}{s a b key:ByteArray}{L:List (List UInt8)}{es:Array MapEntry}{seen d:Ctx}{e:MapEntry}{α:Type}{x:aC}{t:TypeId}{xs:List Value}{X:Nat->Prop}
open Go.RowKit
theorem ya(c:Ctx)(n:Nat):bump c n n=c n+1:=by simp[bump]
theorem J9(b n:Nat)(sv:Value)(l:List aC)(name na value:ByteArray)(seen c:Ctx)(av:Option Addr)(cv:Nat)(vl:List ax)(w:World)(h:gk w b n sv l)(hsl:∀q∈l,∃ad m cap,q.2.2=.slice ad m cap)(hlen:l.length<=1900000000000)(hf:bA l name=(na,c,.slice av vl.length cv))(hv:df w (.slice av vl.length cv) vl)(hr:∀v∈vl,v.rep<4)(hvl:vl.length<=100000)(hs:name.size<=maxLen)(hkey:aK name=true)(hsd:bn seen=true)(hn4:n<4)(hv12:value.size<=12)(hlim:(ak vl seen).length<20)(hd2:c n<1000000)(hd3:seen n<1000000)(hbn:0<=al c seen n):
  Calls aa.prog 14 #[.pointer (some ⟨b,0,none⟩),.string name,.string value,aG seen] w λe w'=>e=.returned (.int .i64 0)/\∃sv' ad' cap',w'.heap[b]?=some (.cells #[.int .i64 n,sv'] 45)/\w'.ownsRow w.heap.size 82 6 sv' (bW l (na,bump (al c seen) n,.slice ad' ((ak vl seen).length+1) cap')).length (flatK (bW l (na,bump (al c seen) n,.slice ad' ((ak vl seen).length+1) cap')))/\w'.ownsRow w.heap.size 88 3 (.slice ad' ((ak vl seen).length+1) cap') ((ak vl seen).length+1) (aw (dQ (ak vl seen) (n,al c seen n+1,value)))/\Fr (λk=>k=b) w w':=by
 have HCK:Hid (∀W,Calls aa.prog 36 #[.string name] W λe w'=>e=.returned (.bool true)/\w'=W):=λW=>by
  have:=gE name W hs;rw[hkey]at this;exact this
 have HCX:Hid (∀W,Calls aa.prog 37 #[aG seen] W λe w'=>e=.returned (.bool true)/\Below W.heap.size W w'):=λW=>by
  have:=iu seen W;rw[hsd]at this;exact this
 have HKey:Hid (∀W,Below w.heap.size w W->Calls aa.prog 38 #[.pointer (some ⟨b,0,none⟩),.string name] W λe w'=>e=.returned (fV (na,c,.slice av vl.length cv))/\Below W.heap.size W w'):=λW hW=>by
  have:=lx b n sv l name W (h.below hW) hsl hlen;rw[hf]at this;exact this
 have HUn:Hid (∀W,Below w.heap.size w W->Calls aa.prog 39 #[.slice av vl.length cv,aG seen] W λe w'=>∃v',e=.returned v'/\w'.ownsRow W.heap.size 88 3 v' (ak vl seen).length (aw (ak vl seen))/\Below W.heap.size W w'):=λW hW=>mQ _ vl seen W (cy hv hW (AI _)) hr hvl;have hbs:b<w.heap.size:=(Array.getElem?_eq_some_iff.1 h.1).1;have HUL:Hid ((ak vl seen).length<=100000):=IT (Q4 _ _) hvl;have HN:Hid (∀W,Below w.heap.size w W->W.cell? ⟨b,0,none⟩=some (.int .i64 n)):=λW hW=>by rw[(aj (h.below hW).1).1];rfl
 have HSet:Hid (∀cx ad' u' cap' W,Below w.heap.size w W->Calls aa.prog 42 #[.pointer (some ⟨b,0,none⟩),fV (na,cx,.slice ad' u' cap')] W λe w'=>e=.returned (.tuple #[])/\∃sv',w'.heap[b]?=some (.cells #[.int .i64 n,sv'] 45)/\w'.ownsRow W.heap.size 82 6 sv' (bW l (na,cx,.slice ad' u' cap')).length (flatK (bW l (na,cx,.slice ad' u' cap')))/\Fr (λk=>k=b) W w'):=λcx ad' u' cap' W hW=>AN b n sv l na cx ad' u' cap' W (h.below hW) hsl hlen;have HBoth:Hid (∀W,Calls aa.prog 40 #[aG c,aG seen] W λe w'=>e=.returned (aG (al c seen))/\Below W.heap.size W w'):=λW=>zQ c seen W;have hbb:al c seen n<1000000:=by unfold al;rw[Ro];split<;>omega
 clear hs hkey hsd hsl h hf hv hr;obtain⟨u,hu⟩: ∃u,(ak vl seen).length=u:=⟨_,rfl⟩
 rw[hu]at HUL hlim ⊢;have HNu:Hid ((ak vl seen).length=u):=hu;have HPut:Hid (∀ad4 cap4 W,df W (.slice ad4 u cap4) (ak vl seen)->Calls aa.prog 41 #[(.slice ad4 u cap4),.agg #[.int .i64 n,.int .i64 (al c seen n+1),.string value]] W λe w'=>∃v',e=.returned v'/\w'.ownsRow W.heap.size 88 3 v' (u+1) (aw (dQ (ak vl seen) (n,al c seen n+1,value)))/\Below W.heap.size W w'):=λad4 cap4 W hW=>by
  have:=La (.slice ad4 u cap4) (ak vl seen) n (al c seen n+1) value W hW (by omega);rw[HNu.out]at this;exact this
 clear hu;have n0:(0:Int)<=(n:Int):=by omega
 have n4:(n:Int)<4:=by omega
 have hdv:(value.size:Int)<=12:=by omega
 have hd:(u:Int)<20:=by omega
 go_enter aa.func14,aa.ntmps14;go_upto_region 10 with (first
  |(go_at_call 36;refine BY (HCK.out _) ?_;rintro e w1 ⟨rfl,rfl⟩)
  |(go_at_call 37;refine BY (HCX.out _) ?_;rintro e w1 ⟨rfl,hb1⟩;obtain⟨z1,hx1,hB1⟩:=ir hb1;have HB1:Hid (Below w.heap.size w w1):=hB1;have HX1:Hid (w1.heap[w.heap.size]?=some (.cells #[.int .i64 (seen 0),.int .i64 (seen 1),.int .i64 (seen 2),.int .i64 (seen 3)] 34)):=hx1;clear hb1 hx1 hB1)
  |(go_at_call 38;refine BY (HKey.out _ HB1.out) ?_;rintro e w2 ⟨rfl,hb2⟩;have HB2:Hid (Below w.heap.size w w2):=HB1.out.trans (hb2.mono (by omega));have z2:=hb2.size;have HX2:Hid (w2.heap[w.heap.size]?=some (.cells #[.int .i64 (seen 0),.int .i64 (seen 1),.int .i64 (seen 2),.int .i64 (seen 3)] 34)):=(by rw[hb2.block _ (by omega)];exact HX1.out);have x2:∀X o,(w2.alloc X).cell? ⟨w.heap.size,o,none⟩=#[Value.int .i64 (seen 0),.int .i64 (seen 1),.int .i64 (seen 2),.int .i64 (seen 3)][o]? :=(λX o=>by rw[World.cell?_alloc_lt _ _ _ (show w.heap.size<w2.heap.size by omega)];exact (aj HX2.out).1 o);clear hb2))
 obtain⟨W3,hW3⟩: ∃W,W=w2.alloc (.cells #[.string na,.int .i64 (c 0),.int .i64 (c 1),.int .i64 (c 2),.int .i64 (c 3),.slice av vl.length cv] 82):=⟨_,rfl⟩
 rw[<-hW3];have HK3:Hid (W3.heap[w2.heap.size]?=some (.cells #[.string na,.int .i64 (c 0),.int .i64 (c 1),.int .i64 (c 2),.int .i64 (c 3),.slice av vl.length cv] 82)):=(by rw[hW3];exact IS w2 _)
 have HX3:Hid (W3.heap[w.heap.size]?=some (.cells #[.int .i64 (seen 0),.int .i64 (seen 1),.int .i64 (seen 2),.int .i64 (seen 3)] 34)):=(by rw[hW3,Qx _ _ _ (show w.heap.size<w2.heap.size by omega)];exact HX2.out)
 have HB3:Hid (Below w.heap.size w W3):=(by rw[hW3];exact HB2.out.alloc (by omega) _)
 have z3:W3.heap.size=w2.heap.size+1:=by rw[hW3,cA]
 have k3:∀o,W3.cell? ⟨w2.heap.size,o,none⟩=#[Value.string na,.int .i64 (c 0),.int .i64 (c 1),.int .i64 (c 2),.int .i64 (c 3),.slice av vl.length cv][o]? :=(aj HK3.out).1;have x3:∀o,W3.cell? ⟨w.heap.size,o,none⟩=#[Value.int .i64 (seen 0),.int .i64 (seen 1),.int .i64 (seen 2),.int .i64 (seen 3)][o]? :=(aj HX3.out).1;clear hW3 x2;go_upto_region 11 with (first
  |(go_at_call 39;refine BY (HUn.out _ HB3.out) ?_;rintro e w4 ⟨v',rfl,hown,hb4⟩;rw[HNu.out]at hown;obtain⟨ad4,cap4,rfl,hcap4,-⟩:=aZ hown;have z4:=hb4.size;have HO4:Hid (w4.ownsRow W3.heap.size 88 3 (.slice ad4 u cap4) u (aw (ak vl seen))):=hown;have HB4:Hid (Below w.heap.size w w4):=HB3.out.trans (hb4.mono (by omega));have HK4:Hid (w4.heap[w2.heap.size]?=some (.cells #[.string na,.int .i64 (c 0),.int .i64 (c 1),.int .i64 (c 2),.int .i64 (c 3),.slice av vl.length cv] 82)):=(by rw[hb4.block _ (by omega)];exact HK3.out);have HX4:Hid (w4.heap[w.heap.size]?=some (.cells #[.int .i64 (seen 0),.int .i64 (seen 1),.int .i64 (seen 2),.int .i64 (seen 3)] 34)):=(by rw[hb4.block _ (by omega)];exact HX3.out);have k4:∀o,w4.cell? ⟨w2.heap.size,o,none⟩=#[Value.string na,.int .i64 (c 0),.int .i64 (c 1),.int .i64 (c 2),.int .i64 (c 3),.slice av vl.length cv][o]? :=(aj HK4.out).1;have f4:∀o,w4.frozen? ⟨w2.heap.size,o,none⟩=false:=(aj HK4.out).2;have x4:∀o,w4.cell? ⟨w.heap.size,o,none⟩=#[Value.int .i64 (seen 0),.int .i64 (seen 1),.int .i64 (seen 2),.int .i64 (seen 3)][o]? :=(aj HX4.out).1;have hul:=HUL.out;clear hown hb4 k3 x3))
 have cn:w4.cell? ⟨b,0,none⟩=some (.int .i64 n):=HN.out _ HB4.out;have ck:w4.cell? ⟨w2.heap.size,1+n,none⟩=some (.int .i64 (c n)):=by
  rw[k4];rcases cE hn4 with rfl|rfl|rfl|rfl<;>rfl
 have cx:w4.cell? ⟨w.heap.size,n,none⟩=some (.int .i64 (seen n)):=by
  rw[x4];rcases cE hn4 with rfl|rfl|rfl|rfl<;>rfl
 have ka0:w4.cell? ⟨w2.heap.size,1,none⟩=some (.int .i64 (c 0)):=k4 1;have xa0:w4.cell? ⟨w.heap.size,0,none⟩=some (.int .i64 (seen 0)):=x4 0;have ka1:w4.cell? ⟨w2.heap.size,2,none⟩=some (.int .i64 (c 1)):=k4 2;have xa1:w4.cell? ⟨w.heap.size,1,none⟩=some (.int .i64 (seen 1)):=x4 1;have ka2:w4.cell? ⟨w2.heap.size,3,none⟩=some (.int .i64 (c 2)):=k4 3;have xa2:w4.cell? ⟨w.heap.size,2,none⟩=some (.int .i64 (seen 2)):=x4 2;have ka3:w4.cell? ⟨w2.heap.size,4,none⟩=some (.int .i64 (c 3)):=k4 4;have xa3:w4.cell? ⟨w.heap.size,3,none⟩=some (.int .i64 (seen 3)):=x4 3;clear k4 x4;go_upto_region 14 with (first
  |(go_at_call 40;refine BY (HBoth.out _) ?_;rintro e w6 ⟨rfl,hb6⟩;have z6:=hb6.size;have HB6:Hid (Below w.heap.size w w6):=HB4.out.trans (hb6.mono (by omega));have HK6:Hid (w6.heap[w2.heap.size]?=some (.cells #[.string na,.int .i64 (c 0),.int .i64 (c 1),.int .i64 (c 2),.int .i64 (c 3),.slice av vl.length cv] 82)):=(by rw[hb6.block _ (by omega)];exact HK4.out);have HO6:Hid (w6.ownsRow W3.heap.size 88 3 (.slice ad4 u cap4) u (aw (ak vl seen))):=cy HO4.out hb6 (AI _);have k6:∀o,w6.cell? ⟨w2.heap.size,o,none⟩=#[Value.string na,.int .i64 (c 0),.int .i64 (c 1),.int .i64 (c 2),.int .i64 (c 3),.slice av vl.length cv][o]? :=(aj HK6.out).1;have f6:∀o,w6.frozen? ⟨w2.heap.size,o,none⟩=false:=(aj HK6.out).2;clear hb6))
 obtain⟨W7,hW7⟩: ∃W,W=(((w6.setCell ⟨w2.heap.size,1,none⟩ (.int .i64 (al c seen 0))).setCell ⟨w2.heap.size,2,none⟩ (.int .i64 (al c seen 1))).setCell ⟨w2.heap.size,3,none⟩ (.int .i64 (al c seen 2))).setCell ⟨w2.heap.size,4,none⟩ (.int .i64 (al c seen 3)):=⟨_,rfl⟩
 rw[<-hW7];have HK7:Hid (W7.heap[w2.heap.size]?=some (.cells #[.string na,.int .i64 (al c seen 0),.int .i64 (al c seen 1),.int .i64 (al c seen 2),.int .i64 (al c seen 3),.slice av vl.length cv] 82)):=(by rw[hW7,heap_set (heap_set (heap_set (heap_set HK6.out)))];rfl)
 have hle:w.heap.size<=w2.heap.size:=by omega
 have HB7:Hid (Below w.heap.size w W7):=(by rw[hW7];exact (((HB6.out.setCell hle _).setCell hle _).setCell hle _).setCell hle _)
 have hlo:w2.heap.size<W3.heap.size:=by omega
 have HO7:Hid (W7.ownsRow W3.heap.size 88 3 (.slice ad4 u cap4) u (aw (ak vl seen))):=(by rw[hW7];exact fU (fU (fU (fU HO6.out hlo) hlo) hlo) hlo)
 have zz:W7.heap.size=w6.heap.size:=by rw[hW7];simp[World.setCell]
 have c7:W7.cell? ⟨w2.heap.size,1+n,none⟩=some (.int .i64 (al c seen n)):=by
  rw[(aj HK7.out).1];rcases cE hn4 with rfl|rfl|rfl|rfl<;>rfl
 have f7:∀o,W7.frozen? ⟨w2.heap.size,o,none⟩=false:=(aj HK7.out).2;have n7:W7.cell? ⟨b,0,none⟩=some (.int .i64 n):=HN.out _ HB7.out;clear hW7 k6 f6 f4 cn ck cx ka0 ka1 ka2 ka3 xa0 xa1 xa2 xa3;go_upto_region 15 with fail;obtain⟨W9,hW9⟩: ∃W,W=W7.setCell ⟨w2.heap.size,1+n,none⟩ (.int .i64 (al c seen n+1)):=⟨_,rfl⟩
 rw[<-hW9];have HK9:Hid (W9.heap[w2.heap.size]?=some (.cells #[.string na,.int .i64 (bump (al c seen) n 0),.int .i64 (bump (al c seen) n 1),.int .i64 (bump (al c seen) n 2),.int .i64 (bump (al c seen) n 3),.slice av vl.length cv] 82)):=(by rw[hW9,heap_set HK7.out];rcases cE hn4 with rfl|rfl|rfl|rfl<;>rfl)
 have HB9:Hid (Below w.heap.size w W9):=(by rw[hW9];exact HB7.out.setCell hle _)
 have HO9:Hid (W9.ownsRow W3.heap.size 88 3 (.slice ad4 u cap4) u (aw (ak vl seen))):=(by rw[hW9];exact fU HO7.out hlo)
 have z9:W9.heap.size=W7.heap.size:=by rw[hW9];simp[World.setCell]
 clear hW9 c7 f7 n7;have hmk:Hid (∀w',Below W9.heap.size W9 w'->w'.cell? ⟨b,0,none⟩=some (.int .i64 n)/\w'.cell? ⟨w2.heap.size,1+n,none⟩=some (.int .i64 (al c seen n+1))/\df w' (.slice ad4 u cap4) (ak vl seen)):=λw' hw=>by
  refine⟨HN.out _ (HB9.out.trans (hw.mono (by omega))),?_,?_⟩
  ·rw[hw.cell (p:=⟨w2.heap.size,1+n,none⟩) (show w2.heap.size<W9.heap.size by omega),(aj HK9.out).1,<-ya];rcases cE hn4 with rfl|rfl|rfl|rfl<;>rfl
  ·have:=bM (cy HO9.out hw (AI _)) (QQ _);unfold df;rw[HNu.out];exact this
 have hmk2:Hid (∀w' x,Below W9.heap.size W9 w'->(w'.setCell ⟨w2.heap.size,5,none⟩ x).cell? ⟨b,0,none⟩=some (.int .i64 n)/\(w'.setCell ⟨w2.heap.size,5,none⟩ x).cell? ⟨w2.heap.size,1+n,none⟩=some (.int .i64 (al c seen n+1))/\df (w'.setCell ⟨w2.heap.size,5,none⟩ x) (.slice ad4 u cap4) (ak vl seen)):=λw' x hw=>by
  have hk:w'.heap[w2.heap.size]?=some (.cells #[.string na,.int .i64 (bump (al c seen) n 0),.int .i64 (bump (al c seen) n 1),.int .i64 (bump (al c seen) n 2),.int .i64 (bump (al c seen) n 3),.slice av vl.length cv] 82):=by rw[hw.block _ (by omega)];exact HK9.out
  refine⟨?_,?_,?_⟩
  ·rw[ct (show b≠w2.heap.size by omega)];exact (hmk.out w' hw).1
  ·rw[(aj (heap_set hk)).1,<-ya];rcases cE hn4 with rfl|rfl|rfl|rfl<;>rfl
  ·have:=bM (fU (o:=5) (val:=x) (cy HO9.out hw (AI _)) hlo) (QQ _);unfold df;rw[HNu.out];exact this
 go_region_held3 (λw'=>w'.cell? ⟨b,0,none⟩=some (.int .i64 n)/\w'.cell? ⟨w2.heap.size,1+n,none⟩=some (.int .i64 (al c seen n+1))/\df w' (.slice ad4 u cap4) (ak vl seen))
  (first|(refine hmk2.out _ _ ?_;(simp (maxDischargeDepth:=12) [B1];done))|(refine hmk.out _ ?_;first|(simp (maxDischargeDepth:=12) [AT,Qy];done)|(simp (maxDischargeDepth:=12) [B1];done)))
  (first|(go_at_call 41;refine BY (HPut.out _ _ _ (by go_split_ands;assumption)) ?_;rintro e w8 ⟨v',rfl,hown8,hb8⟩;obtain⟨ad8,cap8,rfl,hcap8,-⟩:=aZ hown8;have HO8:Hid (w8.ownsRow W9.heap.size 88 3 (.slice ad8 (u+1) cap8) (u+1) (aw (dQ (ak vl seen) (n,al c seen n+1,value)))):=hown8;have B1:Below W9.heap.size W9 w8:=fL hb8 (by simp[AT,Qy]);have HK8:Hid (w8.heap[w2.heap.size]?=some (.cells #[.string na,.int .i64 (bump (al c seen) n 0),.int .i64 (bump (al c seen) n 1),.int .i64 (bump (al c seen) n 2),.int .i64 (bump (al c seen) n 3),.slice av vl.length cv] 82)):=(by rw[B1.block _ (by omega)];exact HK9.out);have k8:∀o,w8.cell? ⟨w2.heap.size,o,none⟩=#[Value.string na,.int .i64 (bump (al c seen) n 0),.int .i64 (bump (al c seen) n 1),.int .i64 (bump (al c seen) n 2),.int .i64 (bump (al c seen) n 3),.slice av vl.length cv][o]? :=(aj HK8.out).1;have f8:∀o,w8.frozen? ⟨w2.heap.size,o,none⟩=false:=(aj HK8.out).2;clear hown8 hb8))
 have z8:=B1.size;have HB8:Hid (Below w.heap.size w w8):=HB9.out.trans (B1.mono (by omega));clear B1;go_upto_region 16 with fail;obtain⟨WA,hWA⟩: ∃W,W=w8.setCell ⟨w2.heap.size,5,none⟩ (.slice ad8 (u+1) cap8):=⟨_,rfl⟩
 rw[<-hWA];have HKA:Hid (WA.heap[w2.heap.size]?=some (.cells #[.string na,.int .i64 (bump (al c seen) n 0),.int .i64 (bump (al c seen) n 1),.int .i64 (bump (al c seen) n 2),.int .i64 (bump (al c seen) n 3),.slice ad8 (u+1) cap8] 82)):=(by rw[hWA,heap_set HK8.out];rfl)
 have HBA:Hid (Below w.heap.size w WA):=(by rw[hWA];exact HB8.out.setCell hle _)
 have HOA:Hid (WA.ownsRow W9.heap.size 88 3 (.slice ad8 (u+1) cap8) (u+1) (aw (dQ (ak vl seen) (n,al c seen n+1,value)))):=(by rw[hWA];exact fU HO8.out (by omega))
 have kA:∀o,WA.cell? ⟨w2.heap.size,o,none⟩=#[Value.string na,.int .i64 (bump (al c seen) n 0),.int .i64 (bump (al c seen) n 1),.int .i64 (bump (al c seen) n 2),.int .i64 (bump (al c seen) n 3),.slice ad8 (u+1) cap8][o]? :=(aj HKA.out).1;have zA:=HBA.out.size;clear hWA k8 f8;go_wp2_with (first
  |(go_at_call 42;refine BY (HSet.out (bump (al c seen) n) ad8 (u+1) cap8 _ HBA.out) ?_;rintro e wB ⟨rfl,sv',hb8,hr8,hF8⟩;have R1:Hid (wB.heap[b]?=some (.cells #[.int .i64 n,sv'] 45)):=hb8;have R2:Hid (wB.ownsRow WA.heap.size 82 6 sv' (bW l (na,bump (al c seen) n,(.slice ad8 (u+1) cap8))).length (flatK (bW l (na,bump (al c seen) n,(.slice ad8 (u+1) cap8))))):=hr8;have R3:Hid (Fr (λk=>k=b) WA wB):=hF8;clear hb8 hr8 hF8))
 go_ret;refine⟨rfl,sv',ad8,cap8,R1.out,bM R2.out (by omega),?_,(Fr.bR HBA.out).trans R3.out⟩;refine bM (Fr.row R3.out HOA.out λg o l' c' hv e=>?_) (by omega);rcases HOA.out.2 with⟨h1,_⟩|⟨g1,cap1,cur1,hv1,hg1,_⟩
 ·rw[h1]at hv;cases hv
 ·rw[hv1]at hv;cases hv;omega
theorem BH:∀(x y:List UInt8),Op.bytesLess x y=decide (x<y)
 |[],[]=>by simp[Op.bytesLess]
 |_::_,[]=>by simp[Op.bytesLess]
 |[],_::_=>by simp[Op.bytesLess]
 |a::x,b::y=>by
  rw[Op.bytesLess,BH x y];simp only[List.cons_lt_cons_iff];by_cases h1:a<b<;>by_cases h2:a=b<;>by_cases h3:x<y<;>simp[h1,h2,h3]
def gi(a b:ByteArray):Prop:=Op.bytesLess a.toList b.toList=true
theorem lM:gi a b↔a.toList<b.toList:=by rw[gi,BH,QS]
theorem bytes_inj(h:a.toList=b.toList):a=b:=by
 by_cases e:a=b
 ·exact e
 ·have:=rU e;rw[h]at this;simp at this
theorem MZ(a:ByteArray): ¬gi a a:=λh=>List.lt_irrefl _ (lM.1 h)
theorem wE(h:gi a b): ¬a=b:=λe=>MZ b (e▸h)
theorem Aa{c:ByteArray}(h:gi a b)(h':gi b c):gi a c:=lM.2 (List.lt_trans (lM.1 h) (lM.1 h'))
theorem NN(h: ¬gi a b)(hn: ¬a=b):gi b a:=by
 rw[lM] at*;by_cases h2:b.toList<a.toList
 ·exact h2
 ·exact absurd (bytes_inj (List.le_antisymm (List.not_lt.1 h2) (List.not_lt.1 h))) hn
def jP(l:List aC):Prop:=l.Pairwise λa b=>gi a.1 b.1
theorem sa(p:α->Bool)(l:List α):l.take (l.takeWhile p).length=l.takeWhile p/\l.drop (l.takeWhile p).length=l.dropWhile p:=by
 induction l with
 |nil=>simp
 |cons x l ih=>
  rw[List.takeWhile_cons,List.dropWhile_cons];by_cases h:p x=true
  ·rw[IN h,IN h];simpa using ih
  ·rw[By h,By h];simp
theorem Pz(l:List aC)(nm:ByteArray):l.take (bF l nm)=l.takeWhile λk=>Op.bytesLess k.1.toList nm.toList:=(sa _ l).1
theorem P6(l:List aC)(nm:ByteArray):l.drop (bF l nm)=l.dropWhile λk=>Op.bytesLess k.1.toList nm.toList:=(sa _ l).2
theorem zZ(l:List aC)(nm:ByteArray):∀x∈l.take (bF l nm),gi x.1 nm:=by
 rw[Pz];intro x hx;induction l with
 |nil=>simp at hx
 |cons y l ih=>
  rw[List.takeWhile_cons]at hx;by_cases h:Op.bytesLess y.1.toList nm.toList=true
  ·rw[IN h]at hx;rcases RP.1 hx with rfl|hx
   ·exact h
   ·exact ih hx
  ·rw[By h]at hx;simp at hx
theorem wh(l:List aC)(nm:ByteArray)(hs:jP l): ∃mid,l=l.take (bF l nm)++(mid++l.drop (dy l nm))/\(∀x∈mid,x.1=nm)/\∀x∈l.drop (dy l nm),gi nm x.1:=by
 have hcut:=R4 (bF l nm) l;have hss:(l.drop (bF l nm)).Pairwise λa b=>gi a.1 b.1:=List.Pairwise.drop hs;by_cases hlt:bF l nm<l.length
 ·have hd:=List.drop_eq_getElem_cons hlt;have hno: ¬gi l[bF l nm].1 nm:=by
   have hw:=P6 l nm;rw[hd]at hw;intro hh
   have:=List.head?_dropWhile_not (λk:aC=>Op.bytesLess k.1.toList nm.toList) l;rw[<-hw]at this;simp only[List.head?_cons]at this;rw[hh]at this;cases this
  rw[hd]at hss;obtain⟨h1,_⟩:=List.pairwise_cons.1 hss;by_cases he:l[bF l nm].1=nm
  ·have hnx:dy l nm=bF l nm+1:=sL rfl hlt he;refine⟨[l[bF l nm]],?_,λx hx=>?_,λx hx=>?_⟩
   ·rw[hnx]
    conv=>lhs;rw[<-hcut,hd]
    rfl
   ·simp at hx;rw[hx];exact he
   ·rw[hnx]at hx;rw[<-he];exact h1 x hx
  ·have hnx:dy l nm=bF l nm:=tf rfl hlt he;have hlt':=NN hno he;refine⟨[],?_,λx hx=>by simp at hx,λx hx=>?_⟩
   ·rw[hnx,List.nil_append,hcut]
   ·rw[hnx,hd]at hx;rcases RP.1 hx with rfl|hx
    ·exact hlt'
    ·exact Aa hlt' (h1 x hx)
 ·have hnx:dy l nm=bF l nm:=tD rfl hlt;refine⟨[],?_,λx hx=>by simp at hx,λx hx=>?_⟩
  ·rw[hnx,List.nil_append,hcut]
  ·rw[hnx,List.drop_of_length_le (by omega)]at hx;simp at hx
theorem Pu(l:List aC)(q:aC)(hs:jP l):jP (bW l q):=by
 obtain⟨mid,he,hm,hd⟩:=wh l q.1 hs;have ht:=zZ l q.1;unfold bW jP;rw[List.pairwise_append];refine⟨List.Pairwise.take hs,List.pairwise_cons.2 ⟨hd,List.Pairwise.drop hs⟩,λa ha b hb=>?_⟩;rcases RP.1 hb with rfl|hb
 ·exact ht a ha
 ·exact Aa (ht a ha) (hd b hb)
theorem xB(l:List aC)(s:ByteArray):(bA l s).1=s:=by
 unfold bA;cases h:l.find? (λk=>decide (k.1=s)) with
 |none=>rfl
 |some x=>simpa using List.find?_some h
theorem zv(h:∀x∈l,¬x.1=s):l.find? (λk=>decide (k.1=s))=none:=by
 rw[List.find?_eq_none];intro x hx;simpa using h x hx
theorem JH(l:List aC)(q:aC)(t:ByteArray)(hs:jP l):bA (bW l q) t=if t=q.1 then q else bA l t:=by
 obtain⟨mid,he,hm,hd⟩:=wh l q.1 hs;have ht:=zZ l q.1;by_cases h:t=q.1
 ·subst h;rw[IN rfl];unfold bA bW;rw[List.find?_append,zv λx hx=>wE (ht x hx)];simp
 ·rw[By h];have e1:(bW l q).find? (λk=>decide (k.1=t))=l.find? λk=>decide (k.1=t):=by
   conv=>rhs;rw[he]
   unfold bW;rw[List.find?_append,List.find?_append,List.find?_append,zv (l:=mid) λx hx e=>h (by rw[<-e,hm x hx])];rw[List.find?_cons_of_neg (by simpa using λe:q.1=t=>h e.symm)];simp
  unfold bA;rw[e1]
theorem A6(l:List aC)(q:aC):(bW l q).length<=l.length+1:=by
 have h1:=qS l q.1;have h2:bF l q.1<=dy l q.1:=by unfold dy;split<;>omega
 have h3:=Bl l q.1;rw[Aq];omega
theorem FU{q:aC}(h:x∈bW l q):x=q\/x∈l:=by
 unfold bW at h;rcases List.mem_append.1 h with h|h
 ·exact Or.inr (List.mem_of_mem_take h)
 ·rcases RP.1 h with h|h
  ·exact Or.inl h
  ·exact Or.inr (List.mem_of_mem_drop h)
theorem pY(hs:jP l)(h:x∈l):bA l x.1=x:=by
 unfold bA;induction l with
 |nil=>simp at h
 |cons y l ih=>
  obtain⟨h1,h2⟩:=List.pairwise_cons.1 hs;rcases RP.1 h with rfl|h
  ·simp
  ·rw[List.find?_cons_of_neg (by simpa using wE (h1 x h))];exact ih h2 h
theorem qh{a b:ax}:cd a b=true↔(a.rep<b.rep\/a.rep=b.rep/\a.n<b.n):=by simp[cd]
theorem BC{a b:ax}:cd a b=false↔¬(a.rep<b.rep\/a.rep=b.rep/\a.n<b.n):=by simp[cd]
def jD(l:List ax):Prop:=l.Pairwise λa b=>cd a b=true
theorem jD.two{l:List ax}(h:jD l){a b:ax}(ha:a∈l)(hb:b∈l):a=b\/cd a b=true\/cd b a=true:=by
 induction l with
 |nil=>simp at ha
 |cons y l ih=>
  obtain⟨h1,h2⟩:=List.pairwise_cons.1 h;rcases RP.1 ha with ea|ea<;>rcases RP.1 hb with eb|eb
  ·exact Or.inl (ea.trans eb.symm)
  ·subst ea;exact Or.inr (Or.inl (h1 b eb))
  ·subst eb;exact Or.inr (Or.inr (h1 a ea))
  ·exact ih h2 ea eb
theorem FZ(l:List ax)(v:ax):l.take (gA l v)=l.takeWhile (λu=>cd u v)/\l.drop (gA l v)=l.dropWhile (λu=>cd u v):=sa _ l
theorem od(l:List ax)(v:ax):(dQ l v).Perm (l++ [v]):=by
 unfold dQ;refine List.perm_middle.trans ?_;rw[R4];exact (List.perm_append_singleton v l).symm
theorem xm(l:List ax)(v:ax)(hs:jD l)(hd:∀u∈l,¬(u.rep=v.rep/\u.n=v.n)):jD (dQ l v):=by
 obtain⟨h1,h2⟩:=FZ l v;have ht:∀x∈l.take (gA l v),cd x v=true:=by
  rw[h1];intro x hx;clear h1 h2 hs hd;induction l with
  |nil=>simp at hx
  |cons y l ih=>
   rw[List.takeWhile_cons]at hx;by_cases h:cd y v=true
   ·rw[IN h]at hx;rcases RP.1 hx with rfl|hx
    ·exact h
    ·exact ih hx
   ·rw[By h]at hx;simp at hx
 have hr:∀x∈l.drop (gA l v),cd v x=true:=by
  intro x hx;have hss:jD (l.drop (gA l v)):=List.Pairwise.drop hs;have hmem:∀u∈l.drop (gA l v),u∈l:=λu hu=>List.mem_of_mem_drop hu;have hhd:=List.head?_dropWhile_not (λu:ax=>cd u v) l;rw[<-h2]at hhd;generalize l.drop (gA l v)=d at*;cases d with
  |nil=>simp at hx
  |cons y d=>
   simp only[List.head?_cons]at hhd;have hy:=hd y (hmem y (by simp));have hvy:cd v y=true:=by
    rw[qh]
    have:=BC.1 hhd;omega
   obtain⟨h3,_⟩:=List.pairwise_cons.1 hss;rcases RP.1 hx with rfl|hx
   ·exact hvy
   ·have:=h3 x hx;rw[qh] at*;omega
 unfold dQ jD;rw[List.pairwise_append];refine⟨List.Pairwise.take hs,List.pairwise_cons.2 ⟨hr,List.Pairwise.drop hs⟩,λa ha b hb=>?_⟩;rcases RP.1 hb with rfl|hb
 ·exact ht a ha
 ·have h3:=ht a ha;have h4:=hr b hb;rw[qh] at*;omega
theorem LD{l l':List ax}{v:ax}(hs:jD l)(hd:∀u∈l,¬(u.rep=v.rep/\u.n=v.n))(hp:l'.Perm (l++ [v]))(hs':l'.Pairwise (λa b=>cd b a=false)):l'=dQ l v:=by
 have hi:=xm l v hs hd;have hpp:l'.Perm (dQ l v):=hp.trans (od l v).symm;refine List.Perm.eq_of_pairwise (le:=λa b=>cd b a=false) (λa b ha hb h1 h2=>?_) hs' (hi.imp λ{a b} h=>?_) hpp
 ·rcases hi.two (hpp.subset ha) hb with h|h|h
  ·exact h
  ·rw[h]at h2;cases h2
  ·rw[h]at h1;cases h1
 ·rw[qh]at h;rw[BC];omega
structure iS(c:Ctx)(l:List ax):Prop where
 sorted:jD l
 each:∀v∈l,v.rep<4/\v.n<=c v.rep/\v.val.size<=12
 len:l.length<=20
 ctx:∀i,i<4->0<=c i/\c i<=1000000
 pos:∀v∈l,0<=v.n
theorem mD{c:Ctx}(h:bn c=true):∀i,i<4->0<=c i/\c i<=1000000:=by
 simp only[bn,eC,No,QS]at h;intro i hi;rcases cE hi with rfl|rfl|rfl|rfl
 ·exact h.1
 ·exact h.2.1
 ·exact h.2.2.1
 ·exact h.2.2.2
theorem mz{c:Ctx}(hc:∀i,i<4->0<=c i/\c i<=1000000)(hd:∀i,i<4->0<=d i/\d i<=1000000):∀i,i<4->0<=al c d i/\al c d i<=1000000:=by
 intro i hi;have h1:=hc i hi;have h2:=hd i hi;unfold al;rw[Ro];split<;>omega
theorem ot{l:List ax}{c:Ctx}{v:ax}(h:v∈ak l c):v∈l:=(List.mem_filter.1 h).1
theorem iS.del{c:Ctx}{l:List ax}(h:iS c l)(hs:bn seen=true):iS (al c seen) (ak l seen) where
 sorted:=List.Pairwise.filter _ h.sorted
 each v hv:=by
  obtain⟨h1,h2,h3⟩:=h.each v (ot hv);exact⟨h1,by unfold al;rw[Ro];split<;>omega,h3⟩
 len:=IT (Q4 _ _) h.len
 ctx:=mz h.ctx (mD hs)
 pos v hv:=h.pos v (ot hv)
theorem iS.Ab{c:Ctx}{l:List ax}(h:iS c l)(n:Nat)(val:ByteArray):∀u∈ak l seen,¬(u.rep=(ax.rep (n,al c seen n+1,val))/\u.n=ax.n (n,al c seen n+1,val)):=by
 intro u hu ⟨e1,e2⟩;obtain⟨h1,h2,h3⟩:=h.each u (ot hu);have e3:u.n=al c seen n+1:=e2;have e4:u.rep=n:=e1;rw[e4,e3]at h2;have:c n<=al c seen n:=by unfold al;rw[Ro];split<;>omega
 omega
theorem iS.put{c:Ctx}{l:List ax}(h:iS c l)(hs:bn seen=true)(n:Nat)(hn:n<4)(val:ByteArray)(hv:val.size<=12)(hl:(ak l seen).length<20)(hb:al c seen n<1000000):
  iS (bump (al c seen) n) (dQ (ak l seen) (n,al c seen n+1,val)) where
 sorted:=xm _ _ (List.Pairwise.filter _ h.sorted) (h.Ab n val)
 each v hm:=by
  have hb':∀i,al c seen i<=bump (al c seen) n i:=λi=>by unfold bump;split<;>omega
  rcases List.mem_append.1 ((od _ _).subset hm) with hm|hm
  ·obtain⟨h1,h2,h3⟩:=h.each v (ot hm);refine⟨h1,?_,h3⟩
   have:=hb' v.rep;have:c v.rep<=al c seen v.rep:=by unfold al;rw[Ro];split<;>omega
   omega
  ·rw[Q5]at hm;subst hm;exact⟨hn,by simp[bump],hv⟩
 len:=by
  have:=(od (ak l seen) (n,al c seen n+1,val)).length_eq;simp at this;omega
 ctx i hi:=by
  have h1:=mz h.ctx (mD hs) i hi;unfold bump;split
  ·rename_i e;subst e;omega
  ·exact h1
 pos v hm:=by
  rcases List.mem_append.1 ((od _ _).subset hm) with hm|hm
  ·exact h.pos v (ot hm)
  ·rw[Q5]at hm;subst hm
   have:=(mz h.ctx (mD hs) n hn).1;show 0<=al c seen n+1;omega
theorem Nf(l:List ax)(v:ax):(dQ l v).length=l.length+1:=by
 have:=(od l v).length_eq;simpa using this
def dG(K:aB):Prop:=∀s,iS (K s).1 (K s).2
theorem dG.ok(h:dG K):kl K:=λs=>⟨λv hv=>((h s).each v hv).1,by have:=(h s).len;omega,λv hv=>((h s).each v hv).2.2,(h s).ctx⟩
theorem dG.none:dG jx:=λs=>⟨List.Pairwise.nil,λv hv=>absurd hv (by simp[jx]),by simp[jx],λi _=>by simp[jx],λv hv=>absurd hv (by simp[jx])⟩
theorem dG.upd(h:dG K){c:Ctx}{l:List ax}(hs:iS c l):dG (ez K s (c,l)):=λt=>by
 unfold ez;split
 ·exact hs
 ·exact h t
theorem jX(h:aK s=true):s.size<=8:=by
 simp only[aK,No,QS]at h;exact h.1.2
def gW(K:aB)(n:Nat)(key val:ByteArray)(seen:Ctx):Int:=
 if aK key=false then 2 else if 12<val.size then 3 else if bn seen=false then 4 else if 20<=(ak (K key).2 seen).length then 6 else if 1000000<=(K key).1 n then 6 else if 1000000<=seen n then 6 else 0
def iO(K:aB)(n:Nat)(key val:ByteArray)(seen:Ctx):aB:=
 if gW K n key val seen=0 then ez K key (bump (al (K key).1 seen) n,dQ (ak (K key).2 seen) (n,al (K key).1 seen n+1,val)) else K
def jw(K:aB)(key:ByteArray)(seen:Ctx):Int:=
 if aK key=false then 2 else if bn seen=false then 4 else if (ak (K key).2 seen).length=(K key).2.length then 5 else 0
def iW(K:aB)(key:ByteArray)(seen:Ctx):aB:=
 if jw K key seen=0 then ez K key (al (K key).1 seen,ak (K key).2 seen) else K
theorem uM(K:aB)(n:Nat)(key val:ByteArray)(seen:Ctx):
  (aK key=false/\gW K n key val seen=2)\/(aK key=true/\12<val.size/\gW K n key val seen=3)\/(aK key=true/\val.size<=12/\bn seen=false/\gW K n key val seen=4)\/
  (aK key=true/\val.size<=12/\bn seen=true/\20<=(ak (K key).2 seen).length/\gW K n key val seen=6)\/
  (aK key=true/\val.size<=12/\bn seen=true/\(ak (K key).2 seen).length<20/\1000000<=(K key).1 n/\gW K n key val seen=6)\/
  (aK key=true/\val.size<=12/\bn seen=true/\(ak (K key).2 seen).length<20/\(K key).1 n<1000000/\1000000<=seen n/\gW K n key val seen=6)\/
  (aK key=true/\val.size<=12/\bn seen=true/\(ak (K key).2 seen).length<20/\(K key).1 n<1000000/\seen n<1000000/\gW K n key val seen=0):=by
 unfold gW;by_cases h1:aK key=false
 ·exact Or.inl ⟨h1,IN h1⟩
 ·have h1':aK key=true:=by simpa using h1
  rw[By h1];by_cases h2:12<val.size
  ·exact Or.inr (Or.inl ⟨h1',h2,IN h2⟩)
  ·rw[By h2];have h2':val.size<=12:=by omega
   by_cases h3:bn seen=false
   ·exact Or.inr (Or.inr (Or.inl ⟨h1',h2',h3,IN h3⟩))
   ·have h3':bn seen=true:=by simpa using h3
    rw[By h3];by_cases h4:20<=(ak (K key).2 seen).length
    ·exact Or.inr (Or.inr (Or.inr (Or.inl ⟨h1',h2',h3',h4,IN h4⟩)))
    ·rw[By h4];by_cases h5:1000000<=(K key).1 n
     ·exact Or.inr (Or.inr (Or.inr (Or.inr (Or.inl ⟨h1',h2',h3',by omega,h5,IN h5⟩))))
     ·rw[By h5];by_cases h6:1000000<=seen n
      ·exact Or.inr (Or.inr (Or.inr (Or.inr (Or.inr (Or.inl ⟨h1',h2',h3',by omega,by omega,h6,IN h6⟩)))))
      ·exact Or.inr (Or.inr (Or.inr (Or.inr (Or.inr (Or.inr ⟨h1',h2',h3',by omega,by omega,by omega,By h6⟩)))))
theorem tV(K:aB)(key:ByteArray)(seen:Ctx):
  (aK key=false/\jw K key seen=2)\/(aK key=true/\bn seen=false/\jw K key seen=4)\/(aK key=true/\bn seen=true/\(ak (K key).2 seen).length=(K key).2.length/\jw K key seen=5)\/
  (aK key=true/\bn seen=true/\¬(ak (K key).2 seen).length=(K key).2.length/\jw K key seen=0):=by
 unfold jw;by_cases h1:aK key=false
 ·exact Or.inl ⟨h1,IN h1⟩
 ·have h1':aK key=true:=by simpa using h1
  rw[By h1];by_cases h3:bn seen=false
  ·exact Or.inr (Or.inl ⟨h1',h3,IN h3⟩)
  ·have h3':bn seen=true:=by simpa using h3
   rw[By h3];by_cases h4:(ak (K key).2 seen).length=(K key).2.length
   ·exact Or.inr (Or.inr (Or.inl ⟨h1',h3',h4,IN h4⟩))
   ·exact Or.inr (Or.inr (Or.inr ⟨h1',h3',h4,By h4⟩))
theorem xL{c:Ctx}{n:Nat}{x:Int}(h:c n<x)(h':d n<x):al c d n<x:=by unfold al;rw[Ro];split<;>omega
theorem BG{c:Ctx}{n:Nat}{x:Int}(h:x<=c n\/x<=d n):x<=al c d n:=by unfold al;rw[Ro];split<;>omega
theorem O1{n:Nat}{val:ByteArray}(h:dG K)(hn:n<4):dG (iO K n key val seen):=by
 unfold iO;rcases uM K n key val seen with⟨_,e⟩|⟨_,_,e⟩|⟨_,_,_,e⟩|⟨_,_,_,_,e⟩|⟨_,_,_,_,_,e⟩|⟨_,_,_,_,_,_,e⟩|⟨_,h2,h3,h4,h5,h6,e⟩
 all_goals rw[e]
 all_goals try (rw[By (by decide)];exact h)
 rw[IN rfl];exact h.upd ((h key).put h3 n hn val h2 h4 (xL h5 h6))
theorem CG(h:dG K):dG (iW K key seen):=by
 unfold iW;rcases tV K key seen with⟨_,e⟩|⟨_,_,e⟩|⟨_,_,_,e⟩|⟨_,h2,h3,e⟩
 all_goals rw[e]
 all_goals try (rw[By (by decide)];exact h)
 rw[IN rfl];exact h.upd ((h key).del h2)
theorem yI{bm:Nat->Nat}(hg:w.grownBy w' (some (bm (aI key)))):Fr (λk=>∃n,n<64/\k=bm n) w w':=
 (Fr.refl _ w).grown hg λk e _=>⟨aI key,gR key,(Q0 e).symm⟩
theorem Nu(b num:Nat)(bm:Nat->Nat)(K:aB)(key val:ByteArray)(seen:Ctx)(w:World)(h:ba w b bm num K)(hK:dG K)(hnum:num<4)(hks:key.size<=maxLen)(hvs:val.size<=maxLen):
  Calls aa.prog 13 #[.pointer (some ⟨b,0,none⟩),.string key,.string val,aG seen] w λe w'=>e=.returned (.int .i64 (gW K num key val seen))/\ba w' b bm num (iO K num key val seen)/\Fr (λk=>∃n,n<64/\k=bm n) w w':=by
 unfold iO;rcases uM K num key val seen with⟨h1,e⟩|⟨h1,h2,e⟩|⟨h1,h2,h3,e⟩|⟨h1,h2,h3,h4,e⟩|⟨h1,h2,h3,h4,h5,e⟩|⟨h1,h2,h3,h4,h5,h6,e⟩|⟨h1,h2,h3,h4,h5,h6,e⟩
 all_goals rw[e]
 ·exact (Dx b key val seen w h1 hks).mono λe w' ⟨he,hb⟩=>⟨he,by rw[By (by decide)];exact h.below hb,Fr.bR hb⟩
 ·exact (OI b key val seen w h1 hks hvs h2).mono λe w' ⟨he,hb⟩=>⟨he,by rw[By (by decide)];exact h.below hb,Fr.bR hb⟩
 ·exact (Ef b key val seen w h1 hks h2 h3).mono λe w' ⟨he,hb⟩=>⟨he,by rw[By (by decide)];exact h.below hb,Fr.bR hb⟩
 ·exact (ub b num bm K key val seen w h hK.ok h1 (jX h1) h2 h3 hnum (Or.inl h4)).mono λe w' ⟨he,hb⟩=>⟨he,by rw[By (by decide)];exact h.below hb,Fr.bR hb⟩
 ·exact (ub b num bm K key val seen w h hK.ok h1 (jX h1) h2 h3 hnum (Or.inr ⟨h4,BG (Or.inl h5)⟩)).mono λe w' ⟨he,hb⟩=>⟨he,by rw[By (by decide)];exact h.below hb,Fr.bR hb⟩
 ·exact (ub b num bm K key val seen w h hK.ok h1 (jX h1) h2 h3 hnum (Or.inr ⟨h4,BG (Or.inr h6)⟩)).mono λe w' ⟨he,hb⟩=>⟨he,by rw[By (by decide)];exact h.below hb,Fr.bR hb⟩
 ·rw[IN rfl];refine (Ip b num bm K key val seen w h hK.ok h1 (jX h1) h2 h3 hnum h4 (mz (hK key).ctx (mD h3) num hnum).1 (xL h5 h6)).mono λe w' ⟨he,l',hp,hs,hr,hg⟩=>⟨he,?_,yI hg⟩
  have hsu:jD (ak (K key).2 seen):=List.Pairwise.filter _ (hK key).sorted;have he':l'=dQ (ak (K key).2 seen) (num,al (K key).1 seen num+1,val):=LD hsu ((hK key).Ab num val) hp hs;rw[<-he'];exact hr
theorem CD(b num:Nat)(bm:Nat->Nat)(K:aB)(key:ByteArray)(seen:Ctx)(w:World)(h:ba w b bm num K)(hK:dG K)(hks:key.size<=maxLen):
  Calls aa.prog 15 #[.pointer (some ⟨b,0,none⟩),.string key,aG seen] w λe w'=>e=.returned (.int .i64 (jw K key seen))/\ba w' b bm num (iW K key seen)/\Fr (λk=>∃n,n<64/\k=bm n) w w':=by
 unfold iW;rcases tV K key seen with⟨h1,e⟩|⟨h1,h2,e⟩|⟨h1,h2,h3,e⟩|⟨h1,h2,h3,e⟩
 all_goals rw[e]
 ·exact (Eo b key seen w h1 hks).mono λe w' ⟨he,hb⟩=>⟨he,by rw[By (by decide)];exact h.below hb,Fr.bR hb⟩
 ·exact (FA b key seen w h1 hks h2).mono λe w' ⟨he,hb⟩=>⟨he,by rw[By (by decide)];exact h.below hb,Fr.bR hb⟩
 ·exact (N9 b num bm K key seen w h hK.ok h1 (jX h1) h2 h3).mono λe w' ⟨he,hb⟩=>⟨he,by rw[By (by decide)];exact h.below hb,Fr.bR hb⟩
 ·rw[IN rfl];have hle:(ak (K key).2 seen).length<=(K key).2.length:=Q4 _ _;exact (Ja b num bm K key seen w h hK.ok h1 (jX h1) h2 (by omega)).mono λe w' ⟨he,hr,hg⟩=>⟨he,hr,yI hg⟩
theorem nD{n size:Nat}(h:w.ownsRow B t size v n xs):∀g o l c,v=.slice (some ⟨g,o,none⟩) l c->∃cur,w.heap[g]?=some (.cells cur t):=by
 intro g o l c e;rcases h.2 with⟨h2,_⟩|⟨g',cap,cur,hv,hg,hh,r⟩
 ·rw[h2]at e;cases e
 ·rw[hv]at e;cases e;exact⟨cur,hh⟩
theorem Fr.dq{n size:Nat}(h:Fr X w w1)(hr:w.ownsRow B t size v n xs)(hX:∀g cur,w.heap[g]?=some (.cells cur t)->¬X g):w1.ownsRow B t size v n xs:=
 h.row hr λg o l c e=>by
  obtain⟨cur,hh⟩:=nD hr g o l c e;exact hX g cur hh
structure bK(w:World)(rb n:Nat)(sv:Value)(l:List aC)(K:aB):Prop where
 ref:gk w rb n sv l
 sorted:jP l
 at_:∀s,(bA l s).2.1=(K s).1/\df w (bA l s).2.2 (K s).2
 kn:∀q∈l,eE q.2.1
theorem bK.mem_iff{n:Nat}(h:bK w rb n sv l K)(s:ByteArray):(∃q∈l,q.1=s)↔eE (K s).1:=by
 refine⟨λ⟨q,hq,e⟩=>?_,λhk=>?_⟩
 ·rw[<-(h.at_ s).1,<-e,pY h.sorted hq];exact h.kn q hq
 ·cases hf:l.find? (λk=>decide (k.1=s)) with
  |some q=>exact⟨q,List.mem_of_find?_eq_some hf,by simpa using List.find?_some hf⟩
  |none=>
   have h1:=(h.at_ s).1;rw[bA,hf]at h1;obtain⟨i,hi,hne⟩:=hk;exact absurd (by rw[<-h1];rfl) hne
theorem bK.known{n:Nat}(h:bK w rb n sv l K)(hne:(K s).2.length≠0):eE (K s).1:=by
 refine (h.mem_iff s).1 ?_;cases hf:l.find? (λk=>decide (k.1=s)) with
 |some q=>exact⟨q,List.mem_of_find?_eq_some hf,by simpa using List.find?_some hf⟩
 |none=>
  have h1:=(h.at_ s).2;rw[bA,hf]at h1;obtain⟨ad,cap,e,_,_⟩:=aZ h1;injection e with _ e;exact absurd e.symm hne
theorem bK.of{n:Nat}(h:bK w rb n sv l K)(s:ByteArray): ∃ad cap,bA l s=(s,(K s).1,.slice ad (K s).2.length cap)/\df w (.slice ad (K s).2.length cap) (K s).2:=by
 obtain⟨h1,h2⟩:=h.at_ s;have hn:=xB l s;obtain⟨ad,cap,e,_,_⟩:=aZ h2;rw[e]at h2;refine⟨ad,cap,?_,h2⟩;cases hx:bA l s with
 |mk a r=>
  cases r with
  |mk c v=>
   rw[hx]at hn h1 e;simp only at hn h1 e;rw[hn,h1,e]
theorem bK.xC{n:Nat}(h:bK w rb n sv l K):∀q∈l,∃ad m cap,q.2.2=.slice ad m cap/\m=(K q.1).2.length:=λq hq=>by
 obtain⟨ad,cap,e,_⟩:=h.of q.1;rw[pY h.sorted hq]at e;exact⟨ad,_,cap,by rw[e],rfl⟩
theorem bK.sl{n:Nat}(h:bK w rb n sv l K):∀q∈l,∃ad m cap,q.2.2=.slice ad m cap:=λq hq=>by
 obtain⟨ad,m,cap,e,_⟩:=h.xC q hq;exact⟨ad,m,cap,e⟩
theorem bK.frame{n:Nat}(h:bK w rb n sv l K)(hF:Fr X w w1)(hb: ¬X rb)(hk:∀g cur,w.heap[g]?=some (.cells cur 82)->¬X g)(hv:∀s g o m c,(bA l s).2.2=.slice (some ⟨g,o,none⟩) m c->¬X g):bK w1 rb n sv l K:=
 ⟨⟨hF.heap h.ref.1 hb,hF.dq h.ref.2 hk⟩,h.sorted,λs=>⟨(h.at_ s).1,hF.row (h.at_ s).2 (hv s)⟩,h.kn⟩
theorem bK.below{n:Nat}(h:bK w rb n sv l K)(hb:Below w.heap.size w w1):bK w1 rb n sv l K:=
 h.frame (X:=λ_=>False) (Fr.bR hb) (λh=>h) (λ_ _ _ h=>h) (λ_ _ _ _ _ _ h=>h)
theorem xi{n:Nat}{sv':Value}{c:Ctx}{vl:List ax}(h:bK w rb n sv l K)(hb:w'.heap[rb]?=some (.cells #[.int .i64 n,sv'] 45))(hk:w'.ownsRow w.heap.size 82 6 sv' (bW l (key,c,v)).length (flatK (bW l (key,c,v))))(hv:w'.ownsRow w.heap.size 88 3 v vl.length (aw vl))(hF:Fr (λk=>k=rb) w w')(hkn:eE c):bK w' rb n sv' (bW l (key,c,v)) (ez K key (c,vl)):=by
 refine⟨⟨hb,bM hk (QQ _)⟩,Pu _ _ h.sorted,λs=>?_,λq hq=>(FU hq).elim (λe=>by rw[e];exact hkn) (h.kn q)⟩;rw[JH _ _ _ h.sorted];unfold ez;by_cases e:s=key
 ·rw[IN e,IN e];exact⟨rfl,bM hv (QQ _)⟩
 ·rw[By e,By e];refine⟨(h.at_ s).1,hF.dq (h.at_ s).2 λg cur hg e=>?_⟩;have e':g=rb:=e;rw[e',h.ref.1]at hg;exact absurd hg (by simp)
theorem Iq(rb n:Nat)(sv:Value)(l:List aC)(K:aB)(key val:ByteArray)(seen:Ctx)(w:World)(h:bK w rb n sv l K)(hK:dG K)(hn:n<4)(hlen:l.length<=1900000000000)(hks:key.size<=maxLen)(hvs:val.size<=maxLen):
  Calls aa.prog 14 #[.pointer (some ⟨rb,0,none⟩),.string key,.string val,aG seen] w λe w'=>e=.returned (.int .i64 (gW K n key val seen))/\(∃sv' l',bK w' rb n sv' l' (iO K n key val seen)/\l'.length<=l.length+1)/\Fr (λk=>k=rb) w w':=by
 obtain⟨ad,cap,hf,hv⟩:=h.of key;have hr:∀v∈(K key).2,v.rep<4:=(hK.ok key).1;have hvl:(K key).2.length<=100000:=IT (hK.ok key).2.1 (by decide);unfold iO;rcases uM K n key val seen with⟨h1,e⟩|⟨h1,h2,e⟩|⟨h1,h2,h3,e⟩|⟨h1,h2,h3,h4,e⟩|⟨h1,h2,h3,h4,h5,e⟩|⟨h1,h2,h3,h4,h5,h6,e⟩|⟨h1,h2,h3,h4,h5,h6,e⟩
 all_goals rw[e]
 ·exact (Ke rb key val seen w hks hvs h1).mono λe w' ⟨he,hb⟩=>⟨he,by rw[By (by decide)];exact⟨sv,l,h.below hb,by omega⟩,Fr.bR hb⟩
 ·exact (ID rb key val seen w hks hvs h1 h2).mono λe w' ⟨he,hb⟩=>⟨he,by rw[By (by decide)];exact⟨sv,l,h.below hb,by omega⟩,Fr.bR hb⟩
 ·exact (Fs rb key val seen w hks hvs h1 h2 h3).mono λe w' ⟨he,hb⟩=>⟨he,by rw[By (by decide)];exact⟨sv,l,h.below hb,by omega⟩,Fr.bR hb⟩
 ·exact (DL rb n sv l key key val seen _ ad cap _ w h.ref h.sl hlen hf hv hr hvl hks h1 h3 hn h2 h4).mono λe w' ⟨he,hb⟩=>⟨he,by rw[By (by decide)];exact⟨sv,l,h.below hb,by omega⟩,Fr.bR hb⟩
 ·exact (EG rb n sv l key key val seen _ ad cap _ w h.ref h.sl hlen hf hv hr hvl hks h1 h3 hn h2 h4 h5).mono λe w' ⟨he,hb⟩=>⟨he,by rw[By (by decide)];exact⟨sv,l,h.below hb,by omega⟩,Fr.bR hb⟩
 ·exact (Fh rb n sv l key key val seen _ ad cap _ w h.ref h.sl hlen hf hv hr hvl hks h1 h3 hn h2 h4 h5 h6).mono λe w' ⟨he,hb⟩=>⟨he,by rw[By (by decide)];exact⟨sv,l,h.below hb,by omega⟩,Fr.bR hb⟩
 ·rw[IN rfl];refine (J9 rb n sv l key key val seen _ ad cap _ w h.ref h.sl hlen hf hv hr hvl hks h1 h3 hn h2 h4 h5 h6 (mz (hK key).ctx (mD h3) n hn).1).mono λe w' ⟨he,sv',ad',cap',hb,hk,hv',hF⟩=>⟨he,⟨sv',_,xi h hb hk ?_ hF ⟨n,hn,by have:=(mz (hK key).ctx (mD h3) n hn).1;simp only[bump,QD];omega⟩,A6 _ _⟩,hF⟩
  rw[Nf];exact hv'
theorem Gb(rb n:Nat)(sv:Value)(l:List aC)(K:aB)(key:ByteArray)(seen:Ctx)(w:World)(h:bK w rb n sv l K)(hK:dG K)(hlen:l.length<=1900000000000)(hks:key.size<=maxLen):
  Calls aa.prog 16 #[.pointer (some ⟨rb,0,none⟩),.string key,aG seen] w λe w'=>e=.returned (.int .i64 (jw K key seen))/\(∃sv' l',bK w' rb n sv' l' (iW K key seen)/\l'.length<=l.length+1)/\Fr (λk=>k=rb) w w':=by
 obtain⟨ad,cap,hf,hv⟩:=h.of key;have hr:∀v∈(K key).2,v.rep<4:=(hK.ok key).1;have hvl:(K key).2.length<=100000:=IT (hK.ok key).2.1 (by decide);unfold iW;rcases tV K key seen with⟨h1,e⟩|⟨h1,h2,e⟩|⟨h1,h2,h3,e⟩|⟨h1,h2,h3,e⟩
 all_goals rw[e]
 ·exact (Le rb key seen w hks h1).mono λe w' ⟨he,hb⟩=>⟨he,by rw[By (by decide)];exact⟨sv,l,h.below hb,by omega⟩,Fr.bR hb⟩
 ·exact (Ea rb key seen w hks h1 h2).mono λe w' ⟨he,hb⟩=>⟨he,by rw[By (by decide)];exact⟨sv,l,h.below hb,by omega⟩,Fr.bR hb⟩
 ·exact (LP rb n sv l key key seen _ ad cap _ w h.ref h.sl hlen hf hv hr hvl hks h1 h2 h3).mono λe w' ⟨he,hb⟩=>⟨he,by rw[By (by decide)];exact⟨sv,l,h.below hb,by omega⟩,Fr.bR hb⟩
 ·rw[IN rfl];exact (PJ rb n sv l key key seen _ ad cap _ w h.ref h.sl hlen hf hv hr hvl hks h1 h2 h3).mono λe w' ⟨he,sv',ad',cap',hb,hk,hv',hF⟩=>⟨he,⟨sv',_,xi h hb hk hv' hF (BA (λi hi=>((hK key).ctx i hi).1) (h.known λe=>h3 (by rw[List.length_eq_zero_iff.1 e];rfl))),A6 _ _⟩,hF⟩
theorem Gu(b num:Nat)(bm:Nat->Nat)(K:aB)(key:ByteArray)(w:World)(h:ba w b bm num K)(hK:dG K)(hks:key.size<=maxLen):
  Calls aa.prog 66 #[.pointer (some ⟨b,0,none⟩),.string key] w λe w'=>∃v',e=.returned (.tuple #[v',aG (if aK key=true then (K key).1 else λ_=>0),.int .i64 (if aK key=true then 0 else 2)])/\w'.ownsRow w.heap.size 88 3 v' (if aK key=true then (K key).2 else []).length (aw (if aK key=true then (K key).2 else []))/\Below w.heap.size w w':=by
 by_cases h1:aK key=true
 ·simp only[IN h1];exact OO b num bm K key w h hK.ok h1 (jX h1)
 ·simp only[By h1];exact (Iu b key w (by simpa using h1) hks).mono λe w' ⟨he,hb⟩=>⟨_,he,QT w' _ _ _,hb⟩
theorem wj(rb n:Nat)(sv:Value)(l:List aC)(K:aB)(key:ByteArray)(w:World)(h:bK w rb n sv l K)(hlen:l.length<=1900000000000)(hks:key.size<=maxLen):
  Calls aa.prog 28 #[.pointer (some ⟨rb,0,none⟩),.string key] w λe w'=>∃v',e=.returned (.tuple #[v',aG (if aK key=true then (K key).1 else λ_=>0),.int .i64 (if aK key=true then 0 else 2)])/\df w' v' (if aK key=true then (K key).2 else [])/\Below w.heap.size w w':=by
 by_cases h1:aK key=true
 ·simp only[IN h1];refine (Ph rb n sv l key w h.ref h.sl hlen hks h1).mono λe w' ⟨he,hb⟩=>?_;obtain⟨ad,cap,hf,hv⟩:=h.of key;rw[hf]at he;exact⟨_,he,(Fr.bR (X:=λ_=>False) hb).row hv λ_ _ _ _ _ h=>h,hb⟩
 ·simp only[By h1];exact (Og rb key w hks (by simpa using h1)).mono λe w' ⟨he,hb⟩=>⟨_,he,QT w' _ _ _,hb⟩
def eN(k:ByteArray):List UInt8:=k.data.toList
theorem rj(x:List UInt8):eN ⟨x.toArray⟩=x:=by simp[eN]
theorem zu(h:eN a=eN b):a=b:=by
 cases a;cases b;simp only[eN,Array.toList_inj]at h;rw[h]
theorem zo(k:ByteArray):encStr (eN k)=.string k:=by cases k;simp[eN]
theorem AG(k:ByteArray):k.toList=eN k:=ByteArray.toList_eq ..
def Live(K:aB)(s:ByteArray):Prop:=(K s).2≠[]
def iq(K:aB)(n:Nat)(L:List (List UInt8)):Prop:=L.Nodup/\∀k,eN k∈L↔aI k<n/\Live K k
def gx(K:aB)(n:Nat)(es:List MapEntry)(seen:Array Nat)(L:List (List UInt8)):Prop:=
 L.Nodup/\∀k,eN k∈L↔(aI k<n/\Live K k)\/(aI k=n/\Live K k/\∃e∈es,e.key=.string k/\e.born∈seen)
theorem iq.zero(K:aB):iq K 0 []:=⟨List.nodup_nil,λk=>by simp⟩
theorem iq.start{n:Nat}(h:iq K n L)(es:List MapEntry):gx K n es #[] L:=⟨h.1,λk=>by rw[h.2 k];simp⟩
theorem map_inj{β:Type}{f:α->β}:∀{l:List α},(l.map f).Nodup->∀{a b:α},a∈l->b∈l->f a=f b->a=b
 |[],_,_,_,ha,_,_=>by simp at ha
 |x::l,h,a,b,ha,hb,e=>by
  rw[QU,List.nodup_cons]at h;rcases RP.1 ha with ha|ha<;>rcases RP.1 hb with hb|hb
  ·rw[ha,hb]
  ·exact absurd (Rj.2 ⟨b,hb,by rw[<-e,ha]⟩) h.1
  ·exact absurd (Rj.2 ⟨a,ha,by rw[e,hb]⟩) h.1
  ·exact map_inj h.2 ha hb e
theorem Ax:∀{es:List MapEntry},dA es->bp es s=some v->∃e∈es,e.key=.string s/\e.val=v
 |[],_,h=>by cases h
 |x::es,hk,h=>by
  obtain⟨q,hq⟩:=hk x (by simp);simp only[bp,hq]at h;by_cases hs:s=q
  ·rw[IN hs]at h;exact⟨x,by simp,by rw[hq,hs],by injection h⟩
  ·rw[By hs]at h;obtain⟨e,he,h1,h2⟩:=Ax (λe' h'=>hk e' (by simp[h'])) h;exact⟨e,by simp[he],h1,h2⟩
theorem yK:∀{es:List MapEntry},dA es->(es.map (·.key)).Nodup->∀e∈es,e.key=.string s->bp es s=some e.val
 |[],_,_,e,he,_=>by simp at he
 |x::es,hk,hn,e,he,hs=>by
  obtain⟨q,hq⟩:=hk x (by simp);rw[QU,List.nodup_cons]at hn;simp only[bp,hq];rcases RP.1 he with rfl|he
  ·rw[hs]at hq;injection hq with hq;rw[IN hq]
  ·have hne: ¬s=q:=λe'=>hn.1 (Rj.2 ⟨e,he,by rw[hs,hq,e']⟩);rw[By hne];exact yK (λe' h'=>hk e' (by simp[h'])) hn.2 e he hs
theorem aM.Lt{l:List ax}(h:aM w (.slice none 0 0) l):l= []:=by
 obtain⟨ad,cap,e,_⟩:=h.len;injection e with _ e _;exact R5 e.symm
theorem Oz{n:Nat}(hk:dA es.toList)(hall:∀s,aI s=n->∃sv,(bp es.toList s).getD ij=bw (K s).1 sv/\aM w sv (K s).2)(hst:ie (λk=>aI k=n/\k.size<=281474976710656/\aK k=true) es.toList clock)(he:e∈es.toList): ∃s sv,e.key=.string s/\aI s=n/\s.size<=281474976710656/\e.val=bw (K s).1 sv/\aM w sv (K s).2:=by
 obtain⟨s,hs,hn,hz⟩:=hst.2.2.2 e he;obtain⟨sv,h1,h2⟩:=hall s hn;rw[yK hk hst.1 e he hs]at h1;exact⟨s,sv,hs,hn,hz.1,h1,h2⟩
theorem mem_left{seen:Array Nat}:e∈(leftOf es seen).toList↔e∈es.toList/\¬e.born∈seen:=by
 unfold leftOf;simp
theorem gx.done{n:Nat}{seen:Array Nat}(h:gx K n es.toList seen L)(hk:dA es.toList)(hall:∀s,aI s=n->∃sv,(bp es.toList s).getD ij=bw (K s).1 sv/\aM w sv (K s).2)(h0:(leftOf es seen).size=0):iq K (n+1) L:=by
 refine⟨h.1,λk=>?_⟩;rw[h.2 k];constructor
 ·rintro (⟨h1,h2⟩|⟨h1,h2,_⟩)
  ·exact⟨by omega,h2⟩
  ·exact⟨by omega,h2⟩
 ·rintro⟨h1,h2⟩;by_cases e:aI k=n
  ·refine Or.inr ⟨e,h2,?_⟩;obtain⟨sv,h3,h4⟩:=hall k e;cases hx:bp es.toList k with
   |none=>
    rw[hx]at h3;have:sv=.slice none 0 0:=by
     simp only[Option.getD_none,ij,bw]at h3;injection h3 with h3
     have:=congrArg (·[4]?) h3;simp at this;exact this.symm
    rw[this]at h4;exact absurd h4.Lt h2
   |some v=>
    obtain⟨e,he,hke,_⟩:=Ax hk hx;refine⟨e,he,hke,?_⟩;have hle:(leftOf es seen).toList= []:=R5 (by simpa using h0);have hno: ¬e∈(leftOf es seen).toList:=by rw[hle];simp
    rw[mem_left]at hno;by_cases hb:e.born∈seen
    ·exact hb
    ·exact absurd ⟨he,hb⟩ hno
  ·exact Or.inl ⟨by omega,h2⟩
theorem gx.dead{n:Nat}{seen:Array Nat}(h:gx K n es.toList seen L)(hb:(es.toList.map (·.born)).Nodup)(he:e∈(leftOf es seen).toList)(hs:e.key=.string s)(hl: ¬Live K s):gx K n es.toList (seen.push e.born) L:=by
 refine⟨h.1,λk=>?_⟩;rw[h.2 k];have he':=(mem_left.1 he).1;constructor
 ·rintro (h1|⟨h1,h2,e1,h3,h4,h5⟩)
  ·exact Or.inl h1
  ·exact Or.inr ⟨h1,h2,e1,h3,h4,by simp[h5]⟩
 ·rintro (h1|⟨h1,h2,e1,h3,h4,h5⟩)
  ·exact Or.inl h1
  ·rw[Array.mem_push]at h5;rcases h5 with h5|h5
   ·exact Or.inr ⟨h1,h2,e1,h3,h4,h5⟩
   ·have:e1=e:=map_inj hb h3 he' h5;rw[this,hs]at h4;injection h4 with h4;rw[<-h4]at h2;exact absurd h2 hl
theorem gx.live{n:Nat}{seen:Array Nat}(h:gx K n es.toList seen L)(hb:(es.toList.map (·.born)).Nodup)(hkk:(es.toList.map (·.key)).Nodup)(he:e∈(leftOf es seen).toList)(hs:e.key=.string s)(hn:aI s=n)(hl:Live K s):gx K n es.toList (seen.push e.born) (L++ [eN s]):=by
 obtain⟨he',hnb⟩:=mem_left.1 he;refine⟨?_,λk=>?_⟩
 ·rw[List.nodup_append];refine⟨h.1,by simp,λa ha b hbb e0=>?_⟩;rw[Q5]at hbb;rw[e0,hbb,h.2 s]at ha;rcases ha with⟨h1,_⟩|⟨_,_,e1,h3,h4,h5⟩
  ·omega
  ·have:e1=e:=map_inj hkk h3 he' (by rw[h4,hs]);rw[this]at h5;exact hnb h5
 ·rw[List.mem_append,h.2 k,Q5];constructor
  ·rintro ((h1|⟨h1,h2,e1,h3,h4,h5⟩)|h1)
   ·exact Or.inl h1
   ·exact Or.inr ⟨h1,h2,e1,h3,h4,by simp[h5]⟩
   ·have:=zu h1;rw[this];exact Or.inr ⟨hn,hl,e,he',hs,by simp⟩
  ·rintro (h1|⟨h1,h2,e1,h3,h4,h5⟩)
   ·exact Or.inl (Or.inl h1)
   ·rw[Array.mem_push]at h5;rcases h5 with h5|h5
    ·exact Or.inl (Or.inr ⟨h1,h2,e1,h3,h4,h5⟩)
    ·have:e1=e:=map_inj hb h3 he' h5;rw[this,hs]at h4;injection h4 with h4;exact Or.inr (by rw[h4])
theorem filter_le{p q:α->Bool}(h:∀x,q x=true->p x=true)(l:List α):(l.filter q).length<=(l.filter p).length:=by
 induction l with
 |nil=>simp
 |cons x l ih=>
  by_cases h1:q x=true
  ·rw[RR h1,RR (h x h1)];simpa using ih
  ·rw[List.filter_cons_of_neg h1];by_cases h2:p x=true
   ·rw[RR h2,QH];omega
   ·rw[List.filter_cons_of_neg h2];exact ih
theorem P7{p q:α->Bool}(h:∀x,q x=true->p x=true){e:α}(hp:p e=true)(hq:q e=false)(l:List α)(hm:e∈l):(l.filter q).length<(l.filter p).length:=by
 induction l with
 |nil=>simp at hm
 |cons x l ih=>
  have hle:=filter_le h l;rcases RP.1 hm with rfl|hm
  ·rw[RR hp,List.filter_cons_of_neg (by rw[hq];simp),QH];omega
  ·have hi:=ih hm;by_cases h1:q x=true
   ·rw[RR h1,RR (h x h1)];simpa using hi
   ·rw[List.filter_cons_of_neg h1];by_cases h2:p x=true
    ·rw[RR h2,QH];omega
    ·rw[List.filter_cons_of_neg h2];exact hi
theorem vE(es:Array MapEntry)(seen:Array Nat):(leftOf es seen).size=(es.toList.filter λe=>!seen.contains e.born).length:=by
 rw[show (leftOf es seen).size=(leftOf es seen).toList.length from (RG).symm];unfold leftOf;rw[Array.toList_filter]
theorem HY{seen:Array Nat}(he:e∈(leftOf es seen).toList):(leftOf es (seen.push e.born)).size<(leftOf es seen).size:=by
 obtain⟨h1,h2⟩:=mem_left.1 he;rw[vE,vE];refine P7 (λx hx=>?_) (by simpa using h2) (by simp) _ h1;simp at hx ⊢;exact hx.1
def fN(l:List aC):List (List UInt8):=(l.filter λq=>decide (0<iT q)).map λq=>eN q.1
theorem D5(l:List aC):dY l=bJ (fN l):=by
 unfold dY bJ fN;rw[List.map_map];apply List.map_congr_left;intro q _;simp[zo]
theorem Bt(l:List aC):(fN l).length<=l.length:=by
 unfold fN;rw[Rb];exact Q4 _ _
theorem xf(h:jP l):(fN l).Pairwise λa b=>a<b:=by
 unfold fN;rw[List.pairwise_map];refine (List.Pairwise.filter _ h).imp λ{a b} hab=>?_
 have:=lM.1 hab;rwa [AG,AG]at this
theorem J1(h:jP l):(fN l).Nodup:=
 (xf h).imp λ{a b} hab e=>by rw[e]at hab;exact absurd hab (List.lt_irrefl _)
theorem BM{n:Nat}(h:bK w rb n sv l K)(k:ByteArray):eN k∈fN l↔Live K k:=by
 obtain⟨ad,cap,hf,_⟩:=h.of k;unfold fN Live;rw[Rj];constructor
 ·rintro⟨q,hq,e⟩;obtain⟨hq1,hq2⟩:=List.mem_filter.1 hq;have e':=zu e;rw[<-e',pY h.sorted hq1]at hf;rw[e']at hf;have hl:iT q=(K k).2.length:=by rw[hf];rfl
  intro h0;rw[h0]at hl;simp[hl]at hq2
 ·intro hl;have hne:bA l k∈l:=by
   unfold bA at hf ⊢;cases hx:l.find? (λq=>decide (q.1=k)) with
   |none=>
    rw[hx]at hf;simp only[Option.getD_none]at hf;injection hf with _ hf;injection hf with _ hf;injection hf with _ hf _;exact absurd (R5 hf.symm) hl
   |some q=>simpa using List.mem_of_find?_eq_some hx
  refine⟨bA l k,List.mem_filter.2 ⟨hne,?_⟩,by rw[xB]⟩;have:0<(K k).2.length:=List.length_pos_iff.2 hl;rw[hf];exact decide_eq_true (by simpa[iT] using this)
theorem Ew(h:bK w rb n' sv l K)(hn:L.Nodup)(hm:∀k,eN k∈L->Live K k):L.length<=l.length:=by
 refine IT (List.Nodup.length_le_of_subset hn λx hx=>?_) (Bt l)
 have:=(BM h ⟨x.toArray⟩).2 (hm ⟨x.toArray⟩ (by rw[rj];exact hx));rwa [rj]at this
theorem LQ(h:bK w rb n' sv l K)(hL:iq K 64 L):gH L=fN l:=by
 have hp:(gH L).Perm (fN l):=(xM L).trans ((List.perm_ext_iff_of_nodup hL.1 (J1 h.sorted)).2 λx=>by
  have e1:=hL.2 ⟨x.toArray⟩;have e2:=BM h ⟨x.toArray⟩;rw[rj]at e1 e2;rw[e1,e2];exact⟨λh=>h.2,λh=>⟨gR _,h⟩⟩)
 refine List.Perm.eq_of_pairwise (le:=λa b=>a<=b) (λa b _ _ h1 h2=>List.le_antisymm h1 h2) ?_ ((xf h.sorted).imp λ{a b} hab=>List.le_of_lt hab) hp
 have:=List.pairwise_mergeSort (le:=λ(x y:List UInt8)=>decide (x<=y)) (λa b c h1 h2=>by simp at*;exact List.le_trans h1 h2) (λa b=>by simp;exact List.le_total a b) L;exact this.imp λ{a b} hab=>by simpa using hab
end Go.Proofs.YtldmcdeibiclkaaGreatQ
