/-
  Toward summed_holds: Contracts of the reference: Get.
-/
import Derived.Test.YtldmcdeibiclkaaGreatC19
set_option linter.unusedVariables false
set_option linter.unusedSimpArgs false
set_option maxRecDepth 100000
set_option maxHeartbeats 20000000
namespace Go.Proofs.YtldmcdeibiclkaaGreatQ
variable {w:World}{l:List aC}
open Go.RowKit
theorem gk.below{w':World}{b n:Nat}{sv:Value}(h:gk w b n sv l)(hb:Below w.heap.size w w'):gk w' b n sv l:=
 ⟨by rw[hb.block _ (Array.getElem?_eq_some_iff.1 h.1).1];exact h.1,cy h.2 hb (AI _)⟩
theorem K7(hsl:∀q∈l,∃ad m cap,q.2.2=.slice ad m cap)(name:ByteArray): ∃na c ad m cap,bA l name=(na,c,.slice ad m cap):=by
 unfold bA;cases hf:l.find? (λk=>decide (k.1=name)) with
 |none=>exact⟨_,_,_,_,_,rfl⟩
 |some q=>
  obtain⟨ad,m,cap,e⟩:=hsl q (List.mem_of_find?_eq_some hf);exact⟨q.1,q.2.1,ad,m,cap,by rw[<-e];rfl⟩
theorem Og(b:Nat)(name:ByteArray)(w:World)(hs:name.size<=maxLen)(hkey:aK name=false):
  Calls aa.prog 28 #[.pointer (some ⟨b,0,none⟩),.string name] w λe w'=>e=.returned (.tuple #[.slice none 0 0,aG λ_=>0,.int .i64 2])/\Below w.heap.size w w':=by
 have HCK:Hid (∀W,Calls aa.prog 36 #[.string name] W λe w'=>e=.returned (.bool false)/\w'=W):=λW=>by
  have:=gE name W hs;rw[hkey]at this;exact this
 clear hs hkey;go_enter aa.func28,aa.ntmps28;go_wp2_with (first
  |(go_at_call 36;refine BY (HCK.out _) ?_;rintro e w1 ⟨rfl,rfl⟩))
 refine Q1 (v:=.tuple #[.slice none 0 0,aG λ_=>0,.int .i64 2]) ?_ rfl ⟨rfl,?_⟩
 ·simp[results,aa.results28,go_sem]
 ·simp (maxDischargeDepth:=12) [AT,Qz,QE]
theorem Ph(b n:Nat)(sv:Value)(l:List aC)(name:ByteArray)(w:World)(h:gk w b n sv l)(hsl:∀q∈l,∃ad m cap,q.2.2=.slice ad m cap)(hlen:l.length<=1900000000000)(hs:name.size<=maxLen)(hkey:aK name=true):
  Calls aa.prog 28 #[.pointer (some ⟨b,0,none⟩),.string name] w λe w'=>e=.returned (.tuple #[(bA l name).2.2,aG (bA l name).2.1,.int .i64 0])/\Below w.heap.size w w':=by
 have HCK:Hid (∀W,Calls aa.prog 36 #[.string name] W λe w'=>e=.returned (.bool true)/\w'=W):=λW=>by
  have:=gE name W hs;rw[hkey]at this;exact this
 have HKey:Hid (∀X,Calls aa.prog 38 #[.pointer (some ⟨b,0,none⟩),.string name] (w.alloc X) λe w'=>e=.returned (fV (bA l name))/\Below (w.alloc X).heap.size (w.alloc X) w'):=λX=>lx b n sv l name _ (h.below ((AT _ _).alloc (AI _) X)) hsl hlen;obtain⟨na,c,av,mv,cv,hf⟩:=K7 hsl name;rw[hf]at HKey;rw[hf];clear hf h hsl hs hkey;go_enter aa.func28,aa.ntmps28;go_wp2_with (first
  |(go_at_call 36;refine BY (HCK.out _) ?_;rintro e w1 ⟨rfl,rfl⟩)
  |(go_at_call 38;refine BY (HKey.out _) ?_;rintro e w1 ⟨rfl,hb1⟩;have z1:=hb1.size;(try simp only[cA]at z1);have hw1:w1.heap[w.heap.size]?=some (.cells #[.int .i64 0,.int .i64 0,.int .i64 0,.int .i64 0] 34):=(by rw[hb1.block w.heap.size (by simp)];exact IS w _);obtain⟨m0,f0⟩:=aj hw1;have HB1:Hid (Below w.heap.size w w1):=((AT _ _).alloc (AI _) _).trans (hb1.mono (by simp));clear hw1 hb1))
 obtain⟨W,hW⟩: ∃W,W=w1.alloc (.cells #[.string na,.int .i64 (c 0),.int .i64 (c 1),.int .i64 (c 2),.int .i64 (c 3),.slice av mv cv] 82):=⟨_,rfl⟩
 rw[<-hW];have e':∀o,W.cell? ⟨w1.heap.size,o,none⟩=#[Value.string na,.int .i64 (c 0),.int .i64 (c 1),.int .i64 (c 2),.int .i64 (c 3),.slice av mv cv][o]? :=by
  rw[hW];exact (aj (IS w1 _)).1
 have m':∀o,W.cell? ⟨w.heap.size,o,none⟩=#[Value.int .i64 0,.int .i64 0,.int .i64 0,.int .i64 0][o]? :=λo=>by
  rw[hW,World.cell?_alloc_lt _ _ _ (show w.heap.size<w1.heap.size by omega)];exact m0 o
 have f':∀o,W.frozen? ⟨w.heap.size,o,none⟩=false:=λo=>by
  have hh:W.heap[w.heap.size]?=w1.heap[w.heap.size]? :=by rw[hW,Qx _ _ _ (show w.heap.size<w1.heap.size by omega)]
  have:=f0 o;simp only[World.frozen?,hh]at this ⊢;exact this
 have HBW:Hid (Below w.heap.size w W):=by
  have:=HB1.out.alloc (show w.heap.size<=w1.heap.size by omega) (.cells #[.string na,.int .i64 (c 0),.int .i64 (c 1),.int .i64 (c 2),.int .i64 (c 3),.slice av mv cv] 82);rw[<-hW]at this;exact this
 have hne:w.heap.size≠w1.heap.size:=by omega
 have hne':w1.heap.size≠w.heap.size:=by omega
 clear hW m0 f0;go_region
 all_goals
  go_wp2;refine Q1 (v:=.tuple #[.slice av mv cv,aG c,.int .i64 0]) ?_ rfl ⟨rfl,?_⟩
  ·simp[results,aa.results28,go_sem,m']
  ·exact (((HBW.out.drew.setCell (by simp) _).setCell (by simp) _).setCell (by simp) _).setCell (by simp) _
theorem ir{w1:World}{A:Array Value}{t:TypeId}(hb:Below (w.alloc (.cells A t)).heap.size (w.alloc (.cells A t)) w1):w.heap.size+1<=w1.heap.size/\w1.heap[w.heap.size]?=some (.cells A t)/\Below w.heap.size w w1:=by
 have z:=hb.size;rw[cA]at z;refine⟨z,?_,((AT _ _).alloc (AI _) _).trans (hb.mono (by simp))⟩;rw[hb.block w.heap.size (by simp)];exact IS w _
theorem Le(b:Nat)(name:ByteArray)(seen:Ctx)(w:World)(hs:name.size<=maxLen)(hkey:aK name=false):
  Calls aa.prog 16 #[.pointer (some ⟨b,0,none⟩),.string name,aG seen] w λe w'=>e=.returned (.int .i64 2)/\Below w.heap.size w w':=by
 have HCK:Hid (∀W,Calls aa.prog 36 #[.string name] W λe w'=>e=.returned (.bool false)/\w'=W):=λW=>by
  have:=gE name W hs;rw[hkey]at this;exact this
 have HCX:Hid (∀W,Calls aa.prog 37 #[aG seen] W λe w'=>e=.returned (.bool (bn seen))/\Below W.heap.size W w'):=λW=>iu seen W;clear hs hkey;go_enter aa.func16,aa.ntmps16;go_wp2_with (first
  |(go_at_call 36;refine BY (HCK.out _) ?_;rintro e w1 ⟨rfl,rfl⟩)
  |(go_at_call 37;refine BY (HCX.out _) ?_;rintro e w1 ⟨rfl,hb1⟩;have HB1:Hid (Below w.heap.size w w1):=(ir hb1).2.2;clear hb1))
 go_ret;exact⟨rfl,HB1.out⟩
theorem Ea(b:Nat)(name:ByteArray)(seen:Ctx)(w:World)(hs:name.size<=maxLen)(hkey:aK name=true)(hsd:bn seen=false):
  Calls aa.prog 16 #[.pointer (some ⟨b,0,none⟩),.string name,aG seen] w λe w'=>e=.returned (.int .i64 4)/\Below w.heap.size w w':=by
 have HCK:Hid (∀W,Calls aa.prog 36 #[.string name] W λe w'=>e=.returned (.bool true)/\w'=W):=λW=>by
  have:=gE name W hs;rw[hkey]at this;exact this
 have HCX:Hid (∀W,Calls aa.prog 37 #[aG seen] W λe w'=>e=.returned (.bool false)/\Below W.heap.size W w'):=λW=>by
  have:=iu seen W;rw[hsd]at this;exact this
 clear hs hkey hsd;go_enter aa.func16,aa.ntmps16;go_wp2_with (first
  |(go_at_call 36;refine BY (HCK.out _) ?_;rintro e w1 ⟨rfl,rfl⟩)
  |(go_at_call 37;refine BY (HCX.out _) ?_;rintro e w1 ⟨rfl,hb1⟩;have HB1:Hid (Below w.heap.size w w1):=(ir hb1).2.2;clear hb1))
 go_ret;exact⟨rfl,HB1.out⟩
theorem LP(b n:Nat)(sv:Value)(l:List aC)(name na:ByteArray)(seen c:Ctx)(av:Option Addr)(cv:Nat)(vl:List ax)(w:World)(h:gk w b n sv l)(hsl:∀q∈l,∃ad m cap,q.2.2=.slice ad m cap)(hlen:l.length<=1900000000000)(hf:bA l name=(na,c,.slice av vl.length cv))(hv:df w (.slice av vl.length cv) vl)(hr:∀v∈vl,v.rep<4)(hvl:vl.length<=100000)(hs:name.size<=maxLen)(hkey:aK name=true)(hsd:bn seen=true)(hno:(ak vl seen).length=vl.length):
  Calls aa.prog 16 #[.pointer (some ⟨b,0,none⟩),.string name,aG seen] w λe w'=>e=.returned (.int .i64 5)/\Below w.heap.size w w':=by
 have HCK:Hid (∀W,Calls aa.prog 36 #[.string name] W λe w'=>e=.returned (.bool true)/\w'=W):=λW=>by
  have:=gE name W hs;rw[hkey]at this;exact this
 have HCX:Hid (∀W,Calls aa.prog 37 #[aG seen] W λe w'=>e=.returned (.bool true)/\Below W.heap.size W w'):=λW=>by
  have:=iu seen W;rw[hsd]at this;exact this
 have HKey:Hid (∀W,Below w.heap.size w W->Calls aa.prog 38 #[.pointer (some ⟨b,0,none⟩),.string name] W λe w'=>e=.returned (fV (na,c,.slice av vl.length cv))/\Below W.heap.size W w'):=λW hW=>by
  have:=lx b n sv l name W (h.below hW) hsl hlen;rw[hf]at this;exact this
 have HUn:Hid (∀W,Below w.heap.size w W->Calls aa.prog 39 #[.slice av vl.length cv,aG seen] W λe w'=>∃v',e=.returned v'/\w'.ownsRow W.heap.size 88 3 v' (ak vl seen).length (aw (ak vl seen))/\Below W.heap.size W w'):=λW hW=>mQ _ vl seen W (cy hv hW (AI _)) hr hvl;have hbs:b<w.heap.size:=(Array.getElem?_eq_some_iff.1 h.1).1;have HUL:Hid ((ak vl seen).length<=100000):=IT (Q4 _ _) hvl;clear hs hkey hsd hsl h hf hv hr;rw[hno]at HUL;have HNo:Hid ((ak vl seen).length=vl.length):=hno;clear hno;go_enter aa.func16,aa.ntmps16;go_upto_region 8 with (first
  |(go_at_call 36;refine BY (HCK.out _) ?_;rintro e w1 ⟨rfl,rfl⟩)
  |(go_at_call 37;refine BY (HCX.out _) ?_;rintro e w1 ⟨rfl,hb1⟩;obtain⟨z1,hx1,hB1⟩:=ir hb1;have HB1:Hid (Below w.heap.size w w1):=hB1;have HX1:Hid (w1.heap[w.heap.size]?=some (.cells #[.int .i64 (seen 0),.int .i64 (seen 1),.int .i64 (seen 2),.int .i64 (seen 3)] 34)):=hx1;clear hb1 hx1 hB1)
  |(go_at_call 38;refine BY (HKey.out _ HB1.out) ?_;rintro e w2 ⟨rfl,hb2⟩;have HB2:Hid (Below w.heap.size w w2):=HB1.out.trans (hb2.mono (by omega));have z2:=hb2.size;have HX2:Hid (w2.heap[w.heap.size]?=some (.cells #[.int .i64 (seen 0),.int .i64 (seen 1),.int .i64 (seen 2),.int .i64 (seen 3)] 34)):=(by rw[hb2.block _ (by omega)];exact HX1.out);have x2:∀X o,(w2.alloc X).cell? ⟨w.heap.size,o,none⟩=#[Value.int .i64 (seen 0),.int .i64 (seen 1),.int .i64 (seen 2),.int .i64 (seen 3)][o]? :=(λX o=>by rw[World.cell?_alloc_lt _ _ _ (show w.heap.size<w2.heap.size by omega)];exact (aj HX2.out).1 o);clear hb2))
 obtain⟨W3,hW3⟩: ∃W,W=w2.alloc (.cells #[.string na,.int .i64 (c 0),.int .i64 (c 1),.int .i64 (c 2),.int .i64 (c 3),.slice av vl.length cv] 82):=⟨_,rfl⟩
 rw[<-hW3];have HK3:Hid (W3.heap[w2.heap.size]?=some (.cells #[.string na,.int .i64 (c 0),.int .i64 (c 1),.int .i64 (c 2),.int .i64 (c 3),.slice av vl.length cv] 82)):=(by rw[hW3];exact IS w2 _)
 have HX3:Hid (W3.heap[w.heap.size]?=some (.cells #[.int .i64 (seen 0),.int .i64 (seen 1),.int .i64 (seen 2),.int .i64 (seen 3)] 34)):=(by rw[hW3,Qx _ _ _ (show w.heap.size<w2.heap.size by omega)];exact HX2.out)
 have HB3:Hid (Below w.heap.size w W3):=(by rw[hW3];exact HB2.out.alloc (by omega) _)
 have z3:W3.heap.size=w2.heap.size+1:=by rw[hW3,cA]
 have k3:∀o,W3.cell? ⟨w2.heap.size,o,none⟩=#[Value.string na,.int .i64 (c 0),.int .i64 (c 1),.int .i64 (c 2),.int .i64 (c 3),.slice av vl.length cv][o]? :=(aj HK3.out).1;have x3:∀o,W3.cell? ⟨w.heap.size,o,none⟩=#[Value.int .i64 (seen 0),.int .i64 (seen 1),.int .i64 (seen 2),.int .i64 (seen 3)][o]? :=(aj HX3.out).1;clear hW3 x2;go_upto_region 9 with (first
  |(go_at_call 39;refine BY (HUn.out _ HB3.out) ?_;rintro e w4 ⟨v',rfl,hown,hb4⟩;rw[HNo.out]at hown;obtain⟨ad4,cap4,rfl,hcap4,-⟩:=aZ hown;have z4:=hb4.size;have HO4:Hid (w4.ownsRow W3.heap.size 88 3 (.slice ad4 vl.length cap4) vl.length (aw (ak vl seen))):=hown;have HB4:Hid (Below w.heap.size w w4):=HB3.out.trans (hb4.mono (by omega));have HK4:Hid (w4.heap[w2.heap.size]?=some (.cells #[.string na,.int .i64 (c 0),.int .i64 (c 1),.int .i64 (c 2),.int .i64 (c 3),.slice av vl.length cv] 82)):=(by rw[hb4.block _ (by omega)];exact HK3.out);have HX4:Hid (w4.heap[w.heap.size]?=some (.cells #[.int .i64 (seen 0),.int .i64 (seen 1),.int .i64 (seen 2),.int .i64 (seen 3)] 34)):=(by rw[hb4.block _ (by omega)];exact HX3.out);have k4:∀o,w4.cell? ⟨w2.heap.size,o,none⟩=#[Value.string na,.int .i64 (c 0),.int .i64 (c 1),.int .i64 (c 2),.int .i64 (c 3),.slice av vl.length cv][o]? :=(aj HK4.out).1;have f4:∀o,w4.frozen? ⟨w2.heap.size,o,none⟩=false:=(aj HK4.out).2;have x4:∀o,w4.cell? ⟨w.heap.size,o,none⟩=#[Value.int .i64 (seen 0),.int .i64 (seen 1),.int .i64 (seen 2),.int .i64 (seen 3)][o]? :=(aj HX4.out).1;have hul:=HUL.out;clear hown hb4 k3 x3))
 go_wp2;go_ret;exact⟨rfl,HB4.out⟩
theorem PJ(b n:Nat)(sv:Value)(l:List aC)(name na:ByteArray)(seen c:Ctx)(av:Option Addr)(cv:Nat)(vl:List ax)(w:World)(h:gk w b n sv l)(hsl:∀q∈l,∃ad m cap,q.2.2=.slice ad m cap)(hlen:l.length<=1900000000000)(hf:bA l name=(na,c,.slice av vl.length cv))(hv:df w (.slice av vl.length cv) vl)(hr:∀v∈vl,v.rep<4)(hvl:vl.length<=100000)(hs:name.size<=maxLen)(hkey:aK name=true)(hsd:bn seen=true)(hno: ¬(ak vl seen).length=vl.length):
  Calls aa.prog 16 #[.pointer (some ⟨b,0,none⟩),.string name,aG seen] w λe w'=>e=.returned (.int .i64 0)/\∃sv' ad' cap',w'.heap[b]?=some (.cells #[.int .i64 n,sv'] 45)/\w'.ownsRow w.heap.size 82 6 sv' (bW l (na,al c seen,.slice ad' (ak vl seen).length cap')).length (flatK (bW l (na,al c seen,.slice ad' (ak vl seen).length cap')))/\w'.ownsRow w.heap.size 88 3 (.slice ad' (ak vl seen).length cap') (ak vl seen).length (aw (ak vl seen))/\Fr (λk=>k=b) w w':=by
 have HCK:Hid (∀W,Calls aa.prog 36 #[.string name] W λe w'=>e=.returned (.bool true)/\w'=W):=λW=>by
  have:=gE name W hs;rw[hkey]at this;exact this
 have HCX:Hid (∀W,Calls aa.prog 37 #[aG seen] W λe w'=>e=.returned (.bool true)/\Below W.heap.size W w'):=λW=>by
  have:=iu seen W;rw[hsd]at this;exact this
 have HKey:Hid (∀W,Below w.heap.size w W->Calls aa.prog 38 #[.pointer (some ⟨b,0,none⟩),.string name] W λe w'=>e=.returned (fV (na,c,.slice av vl.length cv))/\Below W.heap.size W w'):=λW hW=>by
  have:=lx b n sv l name W (h.below hW) hsl hlen;rw[hf]at this;exact this
 have HUn:Hid (∀W,Below w.heap.size w W->Calls aa.prog 39 #[.slice av vl.length cv,aG seen] W λe w'=>∃v',e=.returned v'/\w'.ownsRow W.heap.size 88 3 v' (ak vl seen).length (aw (ak vl seen))/\Below W.heap.size W w'):=λW hW=>mQ _ vl seen W (cy hv hW (AI _)) hr hvl;have hbs:b<w.heap.size:=(Array.getElem?_eq_some_iff.1 h.1).1;have HUL:Hid ((ak vl seen).length<=100000):=IT (Q4 _ _) hvl;have HSet:Hid (∀cx ad' u' cap' W,Below w.heap.size w W->Calls aa.prog 42 #[.pointer (some ⟨b,0,none⟩),fV (na,cx,.slice ad' u' cap')] W λe w'=>e=.returned (.tuple #[])/\∃sv',w'.heap[b]?=some (.cells #[.int .i64 n,sv'] 45)/\w'.ownsRow W.heap.size 82 6 sv' (bW l (na,cx,.slice ad' u' cap')).length (flatK (bW l (na,cx,.slice ad' u' cap')))/\Fr (λk=>k=b) W w'):=λcx ad' u' cap' W hW=>AN b n sv l na cx ad' u' cap' W (h.below hW) hsl hlen;have HBoth:Hid (∀W,Calls aa.prog 40 #[aG c,aG seen] W λe w'=>e=.returned (aG (al c seen))/\Below W.heap.size W w'):=λW=>zQ c seen W;clear hs hkey hsd hsl h hf hv hr;obtain⟨u,hu⟩: ∃u,(ak vl seen).length=u:=⟨_,rfl⟩
 rw[hu]at HUL hno ⊢;have HNu:Hid ((ak vl seen).length=u):=hu;clear hu;have hd:((u:Int)==(vl.length:Int))=false:=by simp;omega
 go_enter aa.func16,aa.ntmps16;go_upto_region 8 with (first
  |(go_at_call 36;refine BY (HCK.out _) ?_;rintro e w1 ⟨rfl,rfl⟩)
  |(go_at_call 37;refine BY (HCX.out _) ?_;rintro e w1 ⟨rfl,hb1⟩;obtain⟨z1,hx1,hB1⟩:=ir hb1;have HB1:Hid (Below w.heap.size w w1):=hB1;have HX1:Hid (w1.heap[w.heap.size]?=some (.cells #[.int .i64 (seen 0),.int .i64 (seen 1),.int .i64 (seen 2),.int .i64 (seen 3)] 34)):=hx1;clear hb1 hx1 hB1)
  |(go_at_call 38;refine BY (HKey.out _ HB1.out) ?_;rintro e w2 ⟨rfl,hb2⟩;have HB2:Hid (Below w.heap.size w w2):=HB1.out.trans (hb2.mono (by omega));have z2:=hb2.size;have HX2:Hid (w2.heap[w.heap.size]?=some (.cells #[.int .i64 (seen 0),.int .i64 (seen 1),.int .i64 (seen 2),.int .i64 (seen 3)] 34)):=(by rw[hb2.block _ (by omega)];exact HX1.out);have x2:∀X o,(w2.alloc X).cell? ⟨w.heap.size,o,none⟩=#[Value.int .i64 (seen 0),.int .i64 (seen 1),.int .i64 (seen 2),.int .i64 (seen 3)][o]? :=(λX o=>by rw[World.cell?_alloc_lt _ _ _ (show w.heap.size<w2.heap.size by omega)];exact (aj HX2.out).1 o);clear hb2))
 obtain⟨W3,hW3⟩: ∃W,W=w2.alloc (.cells #[.string na,.int .i64 (c 0),.int .i64 (c 1),.int .i64 (c 2),.int .i64 (c 3),.slice av vl.length cv] 82):=⟨_,rfl⟩
 rw[<-hW3];have HK3:Hid (W3.heap[w2.heap.size]?=some (.cells #[.string na,.int .i64 (c 0),.int .i64 (c 1),.int .i64 (c 2),.int .i64 (c 3),.slice av vl.length cv] 82)):=(by rw[hW3];exact IS w2 _)
 have HX3:Hid (W3.heap[w.heap.size]?=some (.cells #[.int .i64 (seen 0),.int .i64 (seen 1),.int .i64 (seen 2),.int .i64 (seen 3)] 34)):=(by rw[hW3,Qx _ _ _ (show w.heap.size<w2.heap.size by omega)];exact HX2.out)
 have HB3:Hid (Below w.heap.size w W3):=(by rw[hW3];exact HB2.out.alloc (by omega) _)
 have z3:W3.heap.size=w2.heap.size+1:=by rw[hW3,cA]
 have k3:∀o,W3.cell? ⟨w2.heap.size,o,none⟩=#[Value.string na,.int .i64 (c 0),.int .i64 (c 1),.int .i64 (c 2),.int .i64 (c 3),.slice av vl.length cv][o]? :=(aj HK3.out).1;have x3:∀o,W3.cell? ⟨w.heap.size,o,none⟩=#[Value.int .i64 (seen 0),.int .i64 (seen 1),.int .i64 (seen 2),.int .i64 (seen 3)][o]? :=(aj HX3.out).1;clear hW3 x2;go_upto_region 9 with (first
  |(go_at_call 39;refine BY (HUn.out _ HB3.out) ?_;rintro e w4 ⟨v',rfl,hown,hb4⟩;rw[HNu.out]at hown;obtain⟨ad4,cap4,rfl,hcap4,-⟩:=aZ hown;have z4:=hb4.size;have HO4:Hid (w4.ownsRow W3.heap.size 88 3 (.slice ad4 u cap4) u (aw (ak vl seen))):=hown;have HB4:Hid (Below w.heap.size w w4):=HB3.out.trans (hb4.mono (by omega));have HK4:Hid (w4.heap[w2.heap.size]?=some (.cells #[.string na,.int .i64 (c 0),.int .i64 (c 1),.int .i64 (c 2),.int .i64 (c 3),.slice av vl.length cv] 82)):=(by rw[hb4.block _ (by omega)];exact HK3.out);have HX4:Hid (w4.heap[w.heap.size]?=some (.cells #[.int .i64 (seen 0),.int .i64 (seen 1),.int .i64 (seen 2),.int .i64 (seen 3)] 34)):=(by rw[hb4.block _ (by omega)];exact HX3.out);have k4:∀o,w4.cell? ⟨w2.heap.size,o,none⟩=#[Value.string na,.int .i64 (c 0),.int .i64 (c 1),.int .i64 (c 2),.int .i64 (c 3),.slice av vl.length cv][o]? :=(aj HK4.out).1;have f4:∀o,w4.frozen? ⟨w2.heap.size,o,none⟩=false:=(aj HK4.out).2;have x4:∀o,w4.cell? ⟨w.heap.size,o,none⟩=#[Value.int .i64 (seen 0),.int .i64 (seen 1),.int .i64 (seen 2),.int .i64 (seen 3)][o]? :=(aj HX4.out).1;have hul:=HUL.out;clear hown hb4 k3 x3))
 go_upto_region 12 with fail;obtain⟨W5,hW5⟩: ∃W,W=w4.setCell ⟨w2.heap.size,5,none⟩ (.slice ad4 u cap4):=⟨_,rfl⟩
 rw[<-hW5];have HK5:Hid (W5.heap[w2.heap.size]?=some (.cells #[.string na,.int .i64 (c 0),.int .i64 (c 1),.int .i64 (c 2),.int .i64 (c 3),.slice ad4 u cap4] 82)):=(by rw[hW5,heap_set HK4.out];rfl)
 have HX5:Hid (W5.heap[w.heap.size]?=some (.cells #[.int .i64 (seen 0),.int .i64 (seen 1),.int .i64 (seen 2),.int .i64 (seen 3)] 34)):=(by rw[hW5,Re _ _ _ _ (show w.heap.size≠w2.heap.size by omega)];exact HX4.out)
 have HB5:Hid (Below w.heap.size w W5):=(by rw[hW5];exact HB4.out.setCell (show w.heap.size<=w2.heap.size by omega) _)
 have HO5:Hid (W5.ownsRow W3.heap.size 88 3 (.slice ad4 u cap4) u (aw (ak vl seen))):=(by rw[hW5];exact fU HO4.out (by omega))
 have z5:W5.heap.size=w4.heap.size:=by rw[hW5];simp[World.setCell]
 have k5:∀o,W5.cell? ⟨w2.heap.size,o,none⟩=#[Value.string na,.int .i64 (c 0),.int .i64 (c 1),.int .i64 (c 2),.int .i64 (c 3),.slice ad4 u cap4][o]? :=(aj HK5.out).1;have x5:∀o,W5.cell? ⟨w.heap.size,o,none⟩=#[Value.int .i64 (seen 0),.int .i64 (seen 1),.int .i64 (seen 2),.int .i64 (seen 3)][o]? :=(aj HX5.out).1;clear hW5 k4 f4 x4;go_upto_region 13 with (first
  |(go_at_call 40;refine BY (HBoth.out _) ?_;rintro e w6 ⟨rfl,hb6⟩;have z6:=hb6.size;have HB6:Hid (Below w.heap.size w w6):=HB5.out.trans (hb6.mono (by omega));have HK6:Hid (w6.heap[w2.heap.size]?=some (.cells #[.string na,.int .i64 (c 0),.int .i64 (c 1),.int .i64 (c 2),.int .i64 (c 3),.slice ad4 u cap4] 82)):=(by rw[hb6.block _ (by omega)];exact HK5.out);have HO6:Hid (w6.ownsRow W3.heap.size 88 3 (.slice ad4 u cap4) u (aw (ak vl seen))):=cy HO5.out hb6 (AI _);have k6:∀o,w6.cell? ⟨w2.heap.size,o,none⟩=#[Value.string na,.int .i64 (c 0),.int .i64 (c 1),.int .i64 (c 2),.int .i64 (c 3),.slice ad4 u cap4][o]? :=(aj HK6.out).1;have f6:∀o,w6.frozen? ⟨w2.heap.size,o,none⟩=false:=(aj HK6.out).2;clear hb6))
 obtain⟨W7,hW7⟩: ∃W,W=(((w6.setCell ⟨w2.heap.size,1,none⟩ (.int .i64 (al c seen 0))).setCell ⟨w2.heap.size,2,none⟩ (.int .i64 (al c seen 1))).setCell ⟨w2.heap.size,3,none⟩ (.int .i64 (al c seen 2))).setCell ⟨w2.heap.size,4,none⟩ (.int .i64 (al c seen 3)):=⟨_,rfl⟩
 rw[<-hW7];have HK7:Hid (W7.heap[w2.heap.size]?=some (.cells #[.string na,.int .i64 (al c seen 0),.int .i64 (al c seen 1),.int .i64 (al c seen 2),.int .i64 (al c seen 3),.slice ad4 u cap4] 82)):=(by rw[hW7,heap_set (heap_set (heap_set (heap_set HK6.out)))];rfl)
 have hle:w.heap.size<=w2.heap.size:=by omega
 have HB7:Hid (Below w.heap.size w W7):=(by rw[hW7];exact (((HB6.out.setCell hle _).setCell hle _).setCell hle _).setCell hle _)
 have hlo:w2.heap.size<W3.heap.size:=by omega
 have HO7:Hid (W7.ownsRow W3.heap.size 88 3 (.slice ad4 u cap4) u (aw (ak vl seen))):=(by rw[hW7];exact fU (fU (fU (fU HO6.out hlo) hlo) hlo) hlo)
 have k7:∀o,W7.cell? ⟨w2.heap.size,o,none⟩=#[Value.string na,.int .i64 (al c seen 0),.int .i64 (al c seen 1),.int .i64 (al c seen 2),.int .i64 (al c seen 3),.slice ad4 u cap4][o]? :=(aj HK7.out).1;have z7:=HB7.out.size;clear hW7 k6 f6 k5 x5;go_wp2_with (first
  |(go_at_call 42;refine BY (HSet.out (al c seen) ad4 u cap4 _ HB7.out) ?_;rintro e w8 ⟨rfl,sv',hb8,hr8,hF8⟩;have R1:Hid (w8.heap[b]?=some (.cells #[.int .i64 n,sv'] 45)):=hb8;have R2:Hid (w8.ownsRow W7.heap.size 82 6 sv' (bW l (na,al c seen,(.slice ad4 u cap4))).length (flatK (bW l (na,al c seen,(.slice ad4 u cap4))))):=hr8;have R3:Hid (Fr (λk=>k=b) W7 w8):=hF8;clear hb8 hr8 hF8))
 go_ret;refine⟨rfl,sv',ad4,cap4,R1.out,bM R2.out (by omega),?_,(Fr.bR HB7.out).trans R3.out⟩;refine bM (Fr.row R3.out HO7.out λg o l' c' hv e=>?_) (by omega);rcases HO7.out.2 with⟨h1,_⟩|⟨g1,cap1,cur1,hv1,hg1,_⟩
 ·rw[h1]at hv;cases hv
 ·rw[hv1]at hv;cases hv;omega
theorem Ke(b:Nat)(name value:ByteArray)(seen:Ctx)(w:World)(hs:name.size<=maxLen)(hvs:value.size<=maxLen)(hkey:aK name=false):
  Calls aa.prog 14 #[.pointer (some ⟨b,0,none⟩),.string name,.string value,aG seen] w λe w'=>e=.returned (.int .i64 2)/\Below w.heap.size w w':=by
 have HCK:Hid (∀W,Calls aa.prog 36 #[.string name] W λe w'=>e=.returned (.bool false)/\w'=W):=λW=>by
  have:=gE name W hs;rw[hkey]at this;exact this
 have HCX:Hid (∀W,Calls aa.prog 37 #[aG seen] W λe w'=>e=.returned (.bool (bn seen))/\Below W.heap.size W w'):=λW=>by
  have:=iu seen W;exact this
 unfold maxLen at hvs;clear hs hkey;go_enter aa.func14,aa.ntmps14;go_wp2_with (first
  |(go_at_call 36;refine BY (HCK.out _) ?_;rintro e w1 ⟨rfl,rfl⟩)
  |(go_at_call 37;refine BY (HCX.out _) ?_;rintro e w1 ⟨rfl,hb1⟩;have HB1:Hid (Below w.heap.size w w1):=(ir hb1).2.2;clear hb1))
 go_ret;exact⟨rfl,HB1.out⟩
theorem ID(b:Nat)(name value:ByteArray)(seen:Ctx)(w:World)(hs:name.size<=maxLen)(hvs:value.size<=maxLen)(hkey:aK name=true)(hv:12<value.size):
  Calls aa.prog 14 #[.pointer (some ⟨b,0,none⟩),.string name,.string value,aG seen] w λe w'=>e=.returned (.int .i64 3)/\Below w.heap.size w w':=by
 have HCK:Hid (∀W,Calls aa.prog 36 #[.string name] W λe w'=>e=.returned (.bool true)/\w'=W):=λW=>by
  have:=gE name W hs;rw[hkey]at this;exact this
 have HCX:Hid (∀W,Calls aa.prog 37 #[aG seen] W λe w'=>e=.returned (.bool (bn seen))/\Below W.heap.size W w'):=λW=>by
  have:=iu seen W;exact this
 unfold maxLen at hvs;clear hs hkey;have hd:(12:Int)<(value.size:Int):=by omega
 go_enter aa.func14,aa.ntmps14;go_wp2_with (first
  |(go_at_call 36;refine BY (HCK.out _) ?_;rintro e w1 ⟨rfl,rfl⟩)
  |(go_at_call 37;refine BY (HCX.out _) ?_;rintro e w1 ⟨rfl,hb1⟩;have HB1:Hid (Below w.heap.size w w1):=(ir hb1).2.2;clear hb1))
 go_ret;exact⟨rfl,HB1.out⟩
theorem Fs(b:Nat)(name value:ByteArray)(seen:Ctx)(w:World)(hs:name.size<=maxLen)(hvs:value.size<=maxLen)(hkey:aK name=true)(hv:value.size<=12)(hsd:bn seen=false):
  Calls aa.prog 14 #[.pointer (some ⟨b,0,none⟩),.string name,.string value,aG seen] w λe w'=>e=.returned (.int .i64 4)/\Below w.heap.size w w':=by
 have HCK:Hid (∀W,Calls aa.prog 36 #[.string name] W λe w'=>e=.returned (.bool true)/\w'=W):=λW=>by
  have:=gE name W hs;rw[hkey]at this;exact this
 have HCX:Hid (∀W,Calls aa.prog 37 #[aG seen] W λe w'=>e=.returned (.bool false)/\Below W.heap.size W w'):=λW=>by
  have:=iu seen W;rw[hsd]at this;exact this
 unfold maxLen at hvs;clear hs hkey hsd;have hd:(value.size:Int)<=12:=by omega
 go_enter aa.func14,aa.ntmps14;go_wp2_with (first
  |(go_at_call 36;refine BY (HCK.out _) ?_;rintro e w1 ⟨rfl,rfl⟩)
  |(go_at_call 37;refine BY (HCX.out _) ?_;rintro e w1 ⟨rfl,hb1⟩;have HB1:Hid (Below w.heap.size w w1):=(ir hb1).2.2;clear hb1))
 go_ret;exact⟨rfl,HB1.out⟩
theorem DL(b n:Nat)(sv:Value)(l:List aC)(name na value:ByteArray)(seen c:Ctx)(av:Option Addr)(cv:Nat)(vl:List ax)(w:World)(h:gk w b n sv l)(hsl:∀q∈l,∃ad m cap,q.2.2=.slice ad m cap)(hlen:l.length<=1900000000000)(hf:bA l name=(na,c,.slice av vl.length cv))(hv:df w (.slice av vl.length cv) vl)(hr:∀v∈vl,v.rep<4)(hvl:vl.length<=100000)(hs:name.size<=maxLen)(hkey:aK name=true)(hsd:bn seen=true)(hn4:n<4)(hv12:value.size<=12)(hlim:20<=(ak vl seen).length):
  Calls aa.prog 14 #[.pointer (some ⟨b,0,none⟩),.string name,.string value,aG seen] w λe w'=>e=.returned (.int .i64 6)/\Below w.heap.size w w':=by
 have HCK:Hid (∀W,Calls aa.prog 36 #[.string name] W λe w'=>e=.returned (.bool true)/\w'=W):=λW=>by
  have:=gE name W hs;rw[hkey]at this;exact this
 have HCX:Hid (∀W,Calls aa.prog 37 #[aG seen] W λe w'=>e=.returned (.bool true)/\Below W.heap.size W w'):=λW=>by
  have:=iu seen W;rw[hsd]at this;exact this
 have HKey:Hid (∀W,Below w.heap.size w W->Calls aa.prog 38 #[.pointer (some ⟨b,0,none⟩),.string name] W λe w'=>e=.returned (fV (na,c,.slice av vl.length cv))/\Below W.heap.size W w'):=λW hW=>by
  have:=lx b n sv l name W (h.below hW) hsl hlen;rw[hf]at this;exact this
 have HUn:Hid (∀W,Below w.heap.size w W->Calls aa.prog 39 #[.slice av vl.length cv,aG seen] W λe w'=>∃v',e=.returned v'/\w'.ownsRow W.heap.size 88 3 v' (ak vl seen).length (aw (ak vl seen))/\Below W.heap.size W w'):=λW hW=>mQ _ vl seen W (cy hv hW (AI _)) hr hvl;have hbs:b<w.heap.size:=(Array.getElem?_eq_some_iff.1 h.1).1;have HUL:Hid ((ak vl seen).length<=100000):=IT (Q4 _ _) hvl;have HN:Hid (∀W,Below w.heap.size w W->W.cell? ⟨b,0,none⟩=some (.int .i64 n)):=λW hW=>by rw[(aj (h.below hW).1).1];rfl
 clear hs hkey hsd hsl h hf hv hr;obtain⟨u,hu⟩: ∃u,(ak vl seen).length=u:=⟨_,rfl⟩
 rw[hu]at HUL hlim;have HNu:Hid ((ak vl seen).length=u):=hu;clear hu;have n0:(0:Int)<=(n:Int):=by omega
 have n4:(n:Int)<4:=by omega
 have hdv:(value.size:Int)<=12:=by omega
 have hd:(20:Int)<=(u:Int):=by omega
 go_enter aa.func14,aa.ntmps14;go_upto_region 10 with (first
  |(go_at_call 36;refine BY (HCK.out _) ?_;rintro e w1 ⟨rfl,rfl⟩)
  |(go_at_call 37;refine BY (HCX.out _) ?_;rintro e w1 ⟨rfl,hb1⟩;obtain⟨z1,hx1,hB1⟩:=ir hb1;have HB1:Hid (Below w.heap.size w w1):=hB1;have HX1:Hid (w1.heap[w.heap.size]?=some (.cells #[.int .i64 (seen 0),.int .i64 (seen 1),.int .i64 (seen 2),.int .i64 (seen 3)] 34)):=hx1;clear hb1 hx1 hB1)
  |(go_at_call 38;refine BY (HKey.out _ HB1.out) ?_;rintro e w2 ⟨rfl,hb2⟩;have HB2:Hid (Below w.heap.size w w2):=HB1.out.trans (hb2.mono (by omega));have z2:=hb2.size;have HX2:Hid (w2.heap[w.heap.size]?=some (.cells #[.int .i64 (seen 0),.int .i64 (seen 1),.int .i64 (seen 2),.int .i64 (seen 3)] 34)):=(by rw[hb2.block _ (by omega)];exact HX1.out);have x2:∀X o,(w2.alloc X).cell? ⟨w.heap.size,o,none⟩=#[Value.int .i64 (seen 0),.int .i64 (seen 1),.int .i64 (seen 2),.int .i64 (seen 3)][o]? :=(λX o=>by rw[World.cell?_alloc_lt _ _ _ (show w.heap.size<w2.heap.size by omega)];exact (aj HX2.out).1 o);clear hb2))
 obtain⟨W3,hW3⟩: ∃W,W=w2.alloc (.cells #[.string na,.int .i64 (c 0),.int .i64 (c 1),.int .i64 (c 2),.int .i64 (c 3),.slice av vl.length cv] 82):=⟨_,rfl⟩
 rw[<-hW3];have HK3:Hid (W3.heap[w2.heap.size]?=some (.cells #[.string na,.int .i64 (c 0),.int .i64 (c 1),.int .i64 (c 2),.int .i64 (c 3),.slice av vl.length cv] 82)):=(by rw[hW3];exact IS w2 _)
 have HX3:Hid (W3.heap[w.heap.size]?=some (.cells #[.int .i64 (seen 0),.int .i64 (seen 1),.int .i64 (seen 2),.int .i64 (seen 3)] 34)):=(by rw[hW3,Qx _ _ _ (show w.heap.size<w2.heap.size by omega)];exact HX2.out)
 have HB3:Hid (Below w.heap.size w W3):=(by rw[hW3];exact HB2.out.alloc (by omega) _)
 have z3:W3.heap.size=w2.heap.size+1:=by rw[hW3,cA]
 have k3:∀o,W3.cell? ⟨w2.heap.size,o,none⟩=#[Value.string na,.int .i64 (c 0),.int .i64 (c 1),.int .i64 (c 2),.int .i64 (c 3),.slice av vl.length cv][o]? :=(aj HK3.out).1;have x3:∀o,W3.cell? ⟨w.heap.size,o,none⟩=#[Value.int .i64 (seen 0),.int .i64 (seen 1),.int .i64 (seen 2),.int .i64 (seen 3)][o]? :=(aj HX3.out).1;clear hW3 x2;go_upto_region 11 with (first
  |(go_at_call 39;refine BY (HUn.out _ HB3.out) ?_;rintro e w4 ⟨v',rfl,hown,hb4⟩;rw[HNu.out]at hown;obtain⟨ad4,cap4,rfl,hcap4,-⟩:=aZ hown;have z4:=hb4.size;have HO4:Hid (w4.ownsRow W3.heap.size 88 3 (.slice ad4 u cap4) u (aw (ak vl seen))):=hown;have HB4:Hid (Below w.heap.size w w4):=HB3.out.trans (hb4.mono (by omega));have HK4:Hid (w4.heap[w2.heap.size]?=some (.cells #[.string na,.int .i64 (c 0),.int .i64 (c 1),.int .i64 (c 2),.int .i64 (c 3),.slice av vl.length cv] 82)):=(by rw[hb4.block _ (by omega)];exact HK3.out);have HX4:Hid (w4.heap[w.heap.size]?=some (.cells #[.int .i64 (seen 0),.int .i64 (seen 1),.int .i64 (seen 2),.int .i64 (seen 3)] 34)):=(by rw[hb4.block _ (by omega)];exact HX3.out);have k4:∀o,w4.cell? ⟨w2.heap.size,o,none⟩=#[Value.string na,.int .i64 (c 0),.int .i64 (c 1),.int .i64 (c 2),.int .i64 (c 3),.slice av vl.length cv][o]? :=(aj HK4.out).1;have f4:∀o,w4.frozen? ⟨w2.heap.size,o,none⟩=false:=(aj HK4.out).2;have x4:∀o,w4.cell? ⟨w.heap.size,o,none⟩=#[Value.int .i64 (seen 0),.int .i64 (seen 1),.int .i64 (seen 2),.int .i64 (seen 3)][o]? :=(aj HX4.out).1;have hul:=HUL.out;clear hown hb4 k3 x3))
 have cn:w4.cell? ⟨b,0,none⟩=some (.int .i64 n):=HN.out _ HB4.out;have ck:w4.cell? ⟨w2.heap.size,1+n,none⟩=some (.int .i64 (c n)):=by
  rw[k4];rcases cE hn4 with rfl|rfl|rfl|rfl<;>rfl
 have cx:w4.cell? ⟨w.heap.size,n,none⟩=some (.int .i64 (seen n)):=by
  rw[x4];rcases cE hn4 with rfl|rfl|rfl|rfl<;>rfl
 clear k4 x4 f4;go_wp2;go_ret;exact⟨rfl,HB4.out⟩
theorem EG(b n:Nat)(sv:Value)(l:List aC)(name na value:ByteArray)(seen c:Ctx)(av:Option Addr)(cv:Nat)(vl:List ax)(w:World)(h:gk w b n sv l)(hsl:∀q∈l,∃ad m cap,q.2.2=.slice ad m cap)(hlen:l.length<=1900000000000)(hf:bA l name=(na,c,.slice av vl.length cv))(hv:df w (.slice av vl.length cv) vl)(hr:∀v∈vl,v.rep<4)(hvl:vl.length<=100000)(hs:name.size<=maxLen)(hkey:aK name=true)(hsd:bn seen=true)(hn4:n<4)(hv12:value.size<=12)(hlim:(ak vl seen).length<20)(hd2:1000000<=c n):
  Calls aa.prog 14 #[.pointer (some ⟨b,0,none⟩),.string name,.string value,aG seen] w λe w'=>e=.returned (.int .i64 6)/\Below w.heap.size w w':=by
 have HCK:Hid (∀W,Calls aa.prog 36 #[.string name] W λe w'=>e=.returned (.bool true)/\w'=W):=λW=>by
  have:=gE name W hs;rw[hkey]at this;exact this
 have HCX:Hid (∀W,Calls aa.prog 37 #[aG seen] W λe w'=>e=.returned (.bool true)/\Below W.heap.size W w'):=λW=>by
  have:=iu seen W;rw[hsd]at this;exact this
 have HKey:Hid (∀W,Below w.heap.size w W->Calls aa.prog 38 #[.pointer (some ⟨b,0,none⟩),.string name] W λe w'=>e=.returned (fV (na,c,.slice av vl.length cv))/\Below W.heap.size W w'):=λW hW=>by
  have:=lx b n sv l name W (h.below hW) hsl hlen;rw[hf]at this;exact this
 have HUn:Hid (∀W,Below w.heap.size w W->Calls aa.prog 39 #[.slice av vl.length cv,aG seen] W λe w'=>∃v',e=.returned v'/\w'.ownsRow W.heap.size 88 3 v' (ak vl seen).length (aw (ak vl seen))/\Below W.heap.size W w'):=λW hW=>mQ _ vl seen W (cy hv hW (AI _)) hr hvl;have hbs:b<w.heap.size:=(Array.getElem?_eq_some_iff.1 h.1).1;have HUL:Hid ((ak vl seen).length<=100000):=IT (Q4 _ _) hvl;have HN:Hid (∀W,Below w.heap.size w W->W.cell? ⟨b,0,none⟩=some (.int .i64 n)):=λW hW=>by rw[(aj (h.below hW).1).1];rfl
 clear hs hkey hsd hsl h hf hv hr;obtain⟨u,hu⟩: ∃u,(ak vl seen).length=u:=⟨_,rfl⟩
 rw[hu]at HUL hlim;have HNu:Hid ((ak vl seen).length=u):=hu;clear hu;have n0:(0:Int)<=(n:Int):=by omega
 have n4:(n:Int)<4:=by omega
 have hdv:(value.size:Int)<=12:=by omega
 have hd:(u:Int)<20:=by omega
 go_enter aa.func14,aa.ntmps14;go_upto_region 10 with (first
  |(go_at_call 36;refine BY (HCK.out _) ?_;rintro e w1 ⟨rfl,rfl⟩)
  |(go_at_call 37;refine BY (HCX.out _) ?_;rintro e w1 ⟨rfl,hb1⟩;obtain⟨z1,hx1,hB1⟩:=ir hb1;have HB1:Hid (Below w.heap.size w w1):=hB1;have HX1:Hid (w1.heap[w.heap.size]?=some (.cells #[.int .i64 (seen 0),.int .i64 (seen 1),.int .i64 (seen 2),.int .i64 (seen 3)] 34)):=hx1;clear hb1 hx1 hB1)
  |(go_at_call 38;refine BY (HKey.out _ HB1.out) ?_;rintro e w2 ⟨rfl,hb2⟩;have HB2:Hid (Below w.heap.size w w2):=HB1.out.trans (hb2.mono (by omega));have z2:=hb2.size;have HX2:Hid (w2.heap[w.heap.size]?=some (.cells #[.int .i64 (seen 0),.int .i64 (seen 1),.int .i64 (seen 2),.int .i64 (seen 3)] 34)):=(by rw[hb2.block _ (by omega)];exact HX1.out);have x2:∀X o,(w2.alloc X).cell? ⟨w.heap.size,o,none⟩=#[Value.int .i64 (seen 0),.int .i64 (seen 1),.int .i64 (seen 2),.int .i64 (seen 3)][o]? :=(λX o=>by rw[World.cell?_alloc_lt _ _ _ (show w.heap.size<w2.heap.size by omega)];exact (aj HX2.out).1 o);clear hb2))
 obtain⟨W3,hW3⟩: ∃W,W=w2.alloc (.cells #[.string na,.int .i64 (c 0),.int .i64 (c 1),.int .i64 (c 2),.int .i64 (c 3),.slice av vl.length cv] 82):=⟨_,rfl⟩
 rw[<-hW3];have HK3:Hid (W3.heap[w2.heap.size]?=some (.cells #[.string na,.int .i64 (c 0),.int .i64 (c 1),.int .i64 (c 2),.int .i64 (c 3),.slice av vl.length cv] 82)):=(by rw[hW3];exact IS w2 _)
 have HX3:Hid (W3.heap[w.heap.size]?=some (.cells #[.int .i64 (seen 0),.int .i64 (seen 1),.int .i64 (seen 2),.int .i64 (seen 3)] 34)):=(by rw[hW3,Qx _ _ _ (show w.heap.size<w2.heap.size by omega)];exact HX2.out)
 have HB3:Hid (Below w.heap.size w W3):=(by rw[hW3];exact HB2.out.alloc (by omega) _)
 have z3:W3.heap.size=w2.heap.size+1:=by rw[hW3,cA]
 have k3:∀o,W3.cell? ⟨w2.heap.size,o,none⟩=#[Value.string na,.int .i64 (c 0),.int .i64 (c 1),.int .i64 (c 2),.int .i64 (c 3),.slice av vl.length cv][o]? :=(aj HK3.out).1;have x3:∀o,W3.cell? ⟨w.heap.size,o,none⟩=#[Value.int .i64 (seen 0),.int .i64 (seen 1),.int .i64 (seen 2),.int .i64 (seen 3)][o]? :=(aj HX3.out).1;clear hW3 x2;go_upto_region 11 with (first
  |(go_at_call 39;refine BY (HUn.out _ HB3.out) ?_;rintro e w4 ⟨v',rfl,hown,hb4⟩;rw[HNu.out]at hown;obtain⟨ad4,cap4,rfl,hcap4,-⟩:=aZ hown;have z4:=hb4.size;have HO4:Hid (w4.ownsRow W3.heap.size 88 3 (.slice ad4 u cap4) u (aw (ak vl seen))):=hown;have HB4:Hid (Below w.heap.size w w4):=HB3.out.trans (hb4.mono (by omega));have HK4:Hid (w4.heap[w2.heap.size]?=some (.cells #[.string na,.int .i64 (c 0),.int .i64 (c 1),.int .i64 (c 2),.int .i64 (c 3),.slice av vl.length cv] 82)):=(by rw[hb4.block _ (by omega)];exact HK3.out);have HX4:Hid (w4.heap[w.heap.size]?=some (.cells #[.int .i64 (seen 0),.int .i64 (seen 1),.int .i64 (seen 2),.int .i64 (seen 3)] 34)):=(by rw[hb4.block _ (by omega)];exact HX3.out);have k4:∀o,w4.cell? ⟨w2.heap.size,o,none⟩=#[Value.string na,.int .i64 (c 0),.int .i64 (c 1),.int .i64 (c 2),.int .i64 (c 3),.slice av vl.length cv][o]? :=(aj HK4.out).1;have f4:∀o,w4.frozen? ⟨w2.heap.size,o,none⟩=false:=(aj HK4.out).2;have x4:∀o,w4.cell? ⟨w.heap.size,o,none⟩=#[Value.int .i64 (seen 0),.int .i64 (seen 1),.int .i64 (seen 2),.int .i64 (seen 3)][o]? :=(aj HX4.out).1;have hul:=HUL.out;clear hown hb4 k3 x3))
 have cn:w4.cell? ⟨b,0,none⟩=some (.int .i64 n):=HN.out _ HB4.out;have ck:w4.cell? ⟨w2.heap.size,1+n,none⟩=some (.int .i64 (c n)):=by
  rw[k4];rcases cE hn4 with rfl|rfl|rfl|rfl<;>rfl
 have cx:w4.cell? ⟨w.heap.size,n,none⟩=some (.int .i64 (seen n)):=by
  rw[x4];rcases cE hn4 with rfl|rfl|rfl|rfl<;>rfl
 clear k4 x4 f4;go_wp2;go_ret;exact⟨rfl,HB4.out⟩
theorem Fh(b n:Nat)(sv:Value)(l:List aC)(name na value:ByteArray)(seen c:Ctx)(av:Option Addr)(cv:Nat)(vl:List ax)(w:World)(h:gk w b n sv l)(hsl:∀q∈l,∃ad m cap,q.2.2=.slice ad m cap)(hlen:l.length<=1900000000000)(hf:bA l name=(na,c,.slice av vl.length cv))(hv:df w (.slice av vl.length cv) vl)(hr:∀v∈vl,v.rep<4)(hvl:vl.length<=100000)(hs:name.size<=maxLen)(hkey:aK name=true)(hsd:bn seen=true)(hn4:n<4)(hv12:value.size<=12)(hlim:(ak vl seen).length<20)(hd2:c n<1000000)(hd3:1000000<=seen n):
  Calls aa.prog 14 #[.pointer (some ⟨b,0,none⟩),.string name,.string value,aG seen] w λe w'=>e=.returned (.int .i64 6)/\Below w.heap.size w w':=by
 have HCK:Hid (∀W,Calls aa.prog 36 #[.string name] W λe w'=>e=.returned (.bool true)/\w'=W):=λW=>by
  have:=gE name W hs;rw[hkey]at this;exact this
 have HCX:Hid (∀W,Calls aa.prog 37 #[aG seen] W λe w'=>e=.returned (.bool true)/\Below W.heap.size W w'):=λW=>by
  have:=iu seen W;rw[hsd]at this;exact this
 have HKey:Hid (∀W,Below w.heap.size w W->Calls aa.prog 38 #[.pointer (some ⟨b,0,none⟩),.string name] W λe w'=>e=.returned (fV (na,c,.slice av vl.length cv))/\Below W.heap.size W w'):=λW hW=>by
  have:=lx b n sv l name W (h.below hW) hsl hlen;rw[hf]at this;exact this
 have HUn:Hid (∀W,Below w.heap.size w W->Calls aa.prog 39 #[.slice av vl.length cv,aG seen] W λe w'=>∃v',e=.returned v'/\w'.ownsRow W.heap.size 88 3 v' (ak vl seen).length (aw (ak vl seen))/\Below W.heap.size W w'):=λW hW=>mQ _ vl seen W (cy hv hW (AI _)) hr hvl;have hbs:b<w.heap.size:=(Array.getElem?_eq_some_iff.1 h.1).1;have HUL:Hid ((ak vl seen).length<=100000):=IT (Q4 _ _) hvl;have HN:Hid (∀W,Below w.heap.size w W->W.cell? ⟨b,0,none⟩=some (.int .i64 n)):=λW hW=>by rw[(aj (h.below hW).1).1];rfl
 clear hs hkey hsd hsl h hf hv hr;obtain⟨u,hu⟩: ∃u,(ak vl seen).length=u:=⟨_,rfl⟩
 rw[hu]at HUL hlim;have HNu:Hid ((ak vl seen).length=u):=hu;clear hu;have n0:(0:Int)<=(n:Int):=by omega
 have n4:(n:Int)<4:=by omega
 have hdv:(value.size:Int)<=12:=by omega
 have hd:(u:Int)<20:=by omega
 go_enter aa.func14,aa.ntmps14;go_upto_region 10 with (first
  |(go_at_call 36;refine BY (HCK.out _) ?_;rintro e w1 ⟨rfl,rfl⟩)
  |(go_at_call 37;refine BY (HCX.out _) ?_;rintro e w1 ⟨rfl,hb1⟩;obtain⟨z1,hx1,hB1⟩:=ir hb1;have HB1:Hid (Below w.heap.size w w1):=hB1;have HX1:Hid (w1.heap[w.heap.size]?=some (.cells #[.int .i64 (seen 0),.int .i64 (seen 1),.int .i64 (seen 2),.int .i64 (seen 3)] 34)):=hx1;clear hb1 hx1 hB1)
  |(go_at_call 38;refine BY (HKey.out _ HB1.out) ?_;rintro e w2 ⟨rfl,hb2⟩;have HB2:Hid (Below w.heap.size w w2):=HB1.out.trans (hb2.mono (by omega));have z2:=hb2.size;have HX2:Hid (w2.heap[w.heap.size]?=some (.cells #[.int .i64 (seen 0),.int .i64 (seen 1),.int .i64 (seen 2),.int .i64 (seen 3)] 34)):=(by rw[hb2.block _ (by omega)];exact HX1.out);have x2:∀X o,(w2.alloc X).cell? ⟨w.heap.size,o,none⟩=#[Value.int .i64 (seen 0),.int .i64 (seen 1),.int .i64 (seen 2),.int .i64 (seen 3)][o]? :=(λX o=>by rw[World.cell?_alloc_lt _ _ _ (show w.heap.size<w2.heap.size by omega)];exact (aj HX2.out).1 o);clear hb2))
 obtain⟨W3,hW3⟩: ∃W,W=w2.alloc (.cells #[.string na,.int .i64 (c 0),.int .i64 (c 1),.int .i64 (c 2),.int .i64 (c 3),.slice av vl.length cv] 82):=⟨_,rfl⟩
 rw[<-hW3];have HK3:Hid (W3.heap[w2.heap.size]?=some (.cells #[.string na,.int .i64 (c 0),.int .i64 (c 1),.int .i64 (c 2),.int .i64 (c 3),.slice av vl.length cv] 82)):=(by rw[hW3];exact IS w2 _)
 have HX3:Hid (W3.heap[w.heap.size]?=some (.cells #[.int .i64 (seen 0),.int .i64 (seen 1),.int .i64 (seen 2),.int .i64 (seen 3)] 34)):=(by rw[hW3,Qx _ _ _ (show w.heap.size<w2.heap.size by omega)];exact HX2.out)
 have HB3:Hid (Below w.heap.size w W3):=(by rw[hW3];exact HB2.out.alloc (by omega) _)
 have z3:W3.heap.size=w2.heap.size+1:=by rw[hW3,cA]
 have k3:∀o,W3.cell? ⟨w2.heap.size,o,none⟩=#[Value.string na,.int .i64 (c 0),.int .i64 (c 1),.int .i64 (c 2),.int .i64 (c 3),.slice av vl.length cv][o]? :=(aj HK3.out).1;have x3:∀o,W3.cell? ⟨w.heap.size,o,none⟩=#[Value.int .i64 (seen 0),.int .i64 (seen 1),.int .i64 (seen 2),.int .i64 (seen 3)][o]? :=(aj HX3.out).1;clear hW3 x2;go_upto_region 11 with (first
  |(go_at_call 39;refine BY (HUn.out _ HB3.out) ?_;rintro e w4 ⟨v',rfl,hown,hb4⟩;rw[HNu.out]at hown;obtain⟨ad4,cap4,rfl,hcap4,-⟩:=aZ hown;have z4:=hb4.size;have HO4:Hid (w4.ownsRow W3.heap.size 88 3 (.slice ad4 u cap4) u (aw (ak vl seen))):=hown;have HB4:Hid (Below w.heap.size w w4):=HB3.out.trans (hb4.mono (by omega));have HK4:Hid (w4.heap[w2.heap.size]?=some (.cells #[.string na,.int .i64 (c 0),.int .i64 (c 1),.int .i64 (c 2),.int .i64 (c 3),.slice av vl.length cv] 82)):=(by rw[hb4.block _ (by omega)];exact HK3.out);have HX4:Hid (w4.heap[w.heap.size]?=some (.cells #[.int .i64 (seen 0),.int .i64 (seen 1),.int .i64 (seen 2),.int .i64 (seen 3)] 34)):=(by rw[hb4.block _ (by omega)];exact HX3.out);have k4:∀o,w4.cell? ⟨w2.heap.size,o,none⟩=#[Value.string na,.int .i64 (c 0),.int .i64 (c 1),.int .i64 (c 2),.int .i64 (c 3),.slice av vl.length cv][o]? :=(aj HK4.out).1;have f4:∀o,w4.frozen? ⟨w2.heap.size,o,none⟩=false:=(aj HK4.out).2;have x4:∀o,w4.cell? ⟨w.heap.size,o,none⟩=#[Value.int .i64 (seen 0),.int .i64 (seen 1),.int .i64 (seen 2),.int .i64 (seen 3)][o]? :=(aj HX4.out).1;have hul:=HUL.out;clear hown hb4 k3 x3))
 have cn:w4.cell? ⟨b,0,none⟩=some (.int .i64 n):=HN.out _ HB4.out;have ck:w4.cell? ⟨w2.heap.size,1+n,none⟩=some (.int .i64 (c n)):=by
  rw[k4];rcases cE hn4 with rfl|rfl|rfl|rfl<;>rfl
 have cx:w4.cell? ⟨w.heap.size,n,none⟩=some (.int .i64 (seen n)):=by
  rw[x4];rcases cE hn4 with rfl|rfl|rfl|rfl<;>rfl
 clear k4 x4 f4;go_wp2;go_ret;exact⟨rfl,HB4.out⟩
end Go.Proofs.YtldmcdeibiclkaaGreatQ
