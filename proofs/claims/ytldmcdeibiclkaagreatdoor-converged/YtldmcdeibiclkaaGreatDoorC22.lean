/-
  Toward converged_holds: Contract: tellNodes: the letter with these nodes' children's digests.
-/
import Derived.Test.YtldmcdeibiclkaaGreatDoorC21
import Derived.Test.YtldmcdeibiclkaaGreatDoorC16
import Derived.Test.YtldmcdeibiclkaaGreatDoorC15
import Derived.WalkKit
import Derived.Test.YtldmcdeibiclkaaGreatDoorC17
import Derived.Deep.MidRow
import Derived.Deep.CutRange
set_option linter.unusedVariables false
set_option linter.unusedSimpArgs false
set_option maxRecDepth 100000
set_option maxHeartbeats 20000000
namespace Go.Proofs.YtldmcdeibiclkaaGreatDoorQ
variable {w W W':World}{b k lev B j:Nat}{v lv:Value}{C A:Array Value}{t e:TypeId}{bm:Nat->Nat}{K:al}{xs:List Value}{d:Nat->Int}{sg:List Nd}{kn:Nat->Bool}
open Go.RowKit
theorem yg{d':Nat->Int}:∀k,(∀i,i<k->d i=d' i)->cA d k=cA d' k
 |0,_=>rfl
 |k+1,h=>by rw[cA,cA,yg k λi hi=>h i (by omega),h k (by omega)]
theorem uH{T T':Nat->ByteArray}(h:∀k,k<64->T k=T' k):∀j,j<=3->∀n,n<4 ^ (3-j)->dg T j n=dg T' j n
 |0,_,n,hn=>by rw[dg,dg,h n (by simpa using hn)]
 |j+1,hj,n,hn=>by
  have h4:4 ^ (3-j)=4 ^ (3-(j+1))*4:=by rw[<-Wf];congr 1;omega
  rw[dg,dg,fV,fV,yg 4 λi hi=>uH h j (by omega) _ (by omega)]
theorem Rp(T:Nat->ByteArray):∀j n,0<=dg T j n/\dg T j n<18446744073709551616
 |0,_=>qg _ _
 |_+1,_=>qg _ _
theorem rX{num:Nat}(h:aA w b bm num K)(hb:Below w.heap.size w W){lv n:Nat}(hl:lv<=3)(hn:n<4 ^ lv):bK W bm K lv n=bK w bm K lv n:=
 uH (λk hk=>Dm (hb.block _ (h.2.1 k hk).lt)) _ (by omega) _ (by rw[show 3-(3-lv)=lv by omega];exact hn)
theorem zT(n i:Nat)(w:World)(hn:n<=64)(hi:i<4):
  Calls aa.prog 103 #[.int .i64 n,.int .i64 i] w λe w'=>e=.returned (.int .i64 ((n*4+i:Nat):Int))/\w'=w:=by
 have e:((n*4+i:Nat):Int)=(n:Int)*4+(i:Int):=by omega
 have h1:(n:Int)*4<=256:=by omega
 have h2:(n:Int)*4+(i:Int)<=260:=by omega
 have h0:(0:Int)<=(n:Int)*4:=by omega
 have h3:(0:Int)<=(n:Int)*4+(i:Int):=by omega
 rw[e];go_enter aa.func103,aa.ntmps103;go_wp2;go_ret;exact⟨rfl,rfl⟩
theorem xg{num:Nat}(h:aA w b bm num K)(hK:dD w bm K):∀lv n:Nat,lv<=3->n<4 ^ lv->∀W,Below w.heap.size w W->Calls aa.prog 27 #[.pointer (some ⟨b,0,none⟩),.int .i64 lv,.int .i64 n] W λe w'=>e=.returned (.int .u64 (bK w bm K lv n))/\Below W.heap.size W w':=λlv n hl hn W hW=>by
 have:=Cq b num lv n bm K W (h.below hW) (hK.below h hW) hl hn;rw[rX h hW hl hn]at this;exact this
def kids(w:World)(bm:Nat->Nat)(K:al)(lev n i:Nat):Int:=if i<4 then bK w bm K (lev+1) (n*4+i) else 0
def gv(w:World)(bm:Nat->Nat)(K:al)(lev:Nat)(ns:List Nat):List Nd:=ns.map λn=>(n,kids w bm K lev n)
theorem tj{num:Nat}(h:aA w b bm num K)(hb:Below w.heap.size w W)(hl:lev<3){ns:List Nat}(hn:∀n∈ns,n<4 ^ lev):gv W bm K lev ns=gv w bm K lev ns:=by
 refine Wb λn hm=>?_;congr 1;funext i;unfold kids
 have:=hn n hm;split
 ·exact rX h hb (by omega) (by rw[Wf];omega)
 ·rfl
structure nP(w:World)(lev:Nat)(sg:List Nd)(k:Nat)(W:World)(lv:Value):Prop where
 st:W.heap[w.heap.size]?=some (.cells #[.int .i64 lev,lv] 128)
 row:W.ownsRow w.heap.size 163 5 lv k (dU (sg.take k))
 bj:Below w.heap.size w W
structure oM(w:World)(lev:Nat)(sg:List Nd)(k:Nat)(lv:Value)(bn n i:Nat)(d:Nat->Int)(W:World):Prop where
 j:nP w lev sg k W lv
 nd:W.heap[bn]?=some (.cells (fJ n d i) 163)
 qZ:∀q,lv.ownBlock=some q->q<bn
 high:w.heap.size<bn
theorem nP.below(h:nP w lev sg k W lv)(hb:Below W.heap.size W W'):nP w lev sg k W' lv:=
 ⟨aS h.st hb,dS h.row hb (eR _),bf h.bj hb⟩
theorem oM.set{bn n i:Nat}(h:oM w lev sg k lv bn n i d W)(hb:Below W.heap.size W W')(hi:i<4):W'.heap[bn]?=some (.cells (fJ n d i) 163)/\oM w lev sg k lv bn n (i+1) d (W'.setCell ⟨bn,1+i,none⟩ (.int .u64 (d i))):=by
 have hj:=h.j.below hb;have hn:=aS h.nd hb;have hs:=heap_set (o:=1+i) (v:=.int .u64 (d i)) hn;rw[Ez n d hi]at hs;have hh:=h.high;refine⟨hn,⟨?_,tf hj.row λq _ hq=>VC _ _ _ _ (λe=>?_),hj.bj.setCell (Nat.le_of_lt h.high) _⟩,hs,h.qZ,h.high⟩
 ·rw[VC _ _ _ _ (by show _≠bn;omega)];exact hj.st
 ·have:=h.qZ q hq;simp only at e;omega
theorem Bs(b num lev Bn:Nat)(bm:Nat->Nat)(K:al)(nv:Value)(ns:List Nat)(w:World)(h:aA w b bm num K)(hK:dD w bm K)(hn:fO w Bn nv ns)(hlev:lev<3)(hl:ns.length<=64)(hns:∀n∈ns,n<4 ^ lev):
  Calls aa.prog 78 #[.pointer (some ⟨b,0,none⟩),.int .i64 lev,nv] w λe w'=>e=.returned (.string (Let.nodes lev (gv w bm K lev ns)).bytes)/\Below w.heap.size w w':=by
 obtain⟨i0,hi0,hz0,hz1,hz2⟩:=VH aa.Au;obtain⟨ad,cap,rfl,hcap,hlc⟩:=jE hn;have h4:=(kU (show lev<=3 by omega)).1;have hlm:(gv w bm K lev ns).length=ns.length:=VJ ..;have HD:Hid (∀n∈ns,∀i:Nat,i<4->∀W,Below w.heap.size w W->Calls aa.prog 27 #[.pointer (some ⟨b,0,none⟩),.int .i64 ((lev:Int)+1),.int .i64 ((n*4+i:Nat):Int)] W λe w'=>e=.returned (.int .u64 (bK w bm K (lev+1) (n*4+i)))/\Below W.heap.size W w'):=λn hn i hi W hW=>by
  have h1:=hns n hn
  have:=xg h hK (lev+1) (n*4+i) (by omega) (by rw[Wf];omega) W hW;rw[show ((lev+1:Nat):Int)=(lev:Int)+1 by omega]at this;exact this
 have HC:Hid (∀n∈ns,∀i:Nat,i<4->∀W,Calls aa.prog 103 #[.int .i64 n,.int .i64 i] W λe w'=>e=.returned (.int .i64 ((n*4+i:Nat):Int))/\w'=W):=λn hn i hi W=>by
  have h1:=hns n hn;exact zT n i W (by omega) hi
 have HN:Hid (fO w Bn (.slice ad ns.length cap) ns):=hn;have HNs:Hid (∀n∈ns,n<4 ^ lev):=hns;have HTx:Hid (∀W lv,nP w lev (gv w bm K lev ns) ns.length W lv->Calls aa.prog 104 #[.agg #[.int .i64 lev,lv]] W λe w'=>e=.returned (.string (Let.nodes lev (gv w bm K lev ns)).bytes)/\Below w.heap.size w w'):=by
  intro W lv hJ;have hr:=hJ.row;rw[<-hlm,VW]at hr;refine (JG w.heap.size lev lv _ W hr (by omega) (by omega) (λg hg=>?_)).mono λe w' ⟨he,hb⟩=>⟨he,bf hJ.bj hb⟩
  obtain⟨n,hn,rfl⟩:=Wm.1 hg
  have:=hns n hn;show n<256;omega
 have HSg:Hid (∀k (h:k<ns.length),(gv w bm K lev ns).take (k+1)=(gv w bm K lev ns).take k++ [(ns[k],kids w bm K lev ns[k])]):=λk h=>by
  rw[VO (by rw[hlm];exact h)];simp[gv]
 have HJ0:Hid (nP w lev (gv w bm K lev ns) 0 (w.alloc (.cells #[.int .i64 lev,.slice none 0 0] 128)) (.slice none 0 0)):=⟨BY w _,Ww _ _ _ _,(AT _ _).alloc (eR _) _⟩
 have v1:(lev:Int)+1<=3:=by omega
 clear h hn hns hK;generalize gv w bm K lev ns=sg at*;go_enter aa.func78,aa.ntmps78;go_wp2;go_loopw [16] (λiv wr=>∃(k:Nat) (lv:Value),k<=ns.length/\iv=.int .i64 k/\Hid (nP w lev sg k wr lv)) (λiv _=>ns.length-(intOf iv).toNat)
 case atStart=>exact⟨0,_,by omega,rfl,HJ0.out⟩
 case round=>
  obtain⟨k,lv,hkl,rfl,HJ⟩:=hrel;clear HJ0;have hsw:=HJ.out.bj.size;obtain⟨adl,capl,rfl⟩:=gD HJ.out.row;have hst0:w.heap.size<wr.heap.size:=(Array.getElem?_eq_some_iff.1 HJ.out.st).1;obtain⟨cs,fs⟩:=au HJ.out.st;have y0:=cs 0;have y1:=cs 1;clear cs fs;by_cases hlt:k<ns.length
  ·obtain⟨g,cap',hv',hgl,_,_,cc⟩:=pa HN.out (show 0<ns.length by omega);cases hv';have cn:wr.cell? ⟨g,k,none⟩=some (.int .i64 ns[k]):=(HJ.out.bj.cell (p:=⟨g,k,none⟩) hgl).trans (cc k _ (by omega) (by rw[List.getElem?_map,List.getElem?_eq_getElem hlt];rfl));have cG:=VB hlt;have HSk:Hid _:=HSg.out k hlt;have HDk:Hid _:=HD.out ns[k] cG;have HCk:Hid _:=HC.out ns[k] cG;clear cc HD HC HNs HSg cG;generalize hnk:ns[k]=n at*;have HD':Hid (∀i:Nat,i<4->∀W,Below w.heap.size w W->Calls aa.prog 27 #[.pointer (some ⟨b,0,none⟩),.int .i64 ((lev:Int)+1),.int .i64 ((n*4+i:Nat):Int)] W λe w'=>e=.returned (.int .u64 (bK w bm K (lev+1) (n*4+i)))/\Below W.heap.size W w'):=HDk.out;have HC':Hid (∀i:Nat,i<4->∀W,Calls aa.prog 103 #[.int .i64 n,.int .i64 i] W λe w'=>e=.returned (.int .i64 ((n*4+i:Nat):Int))/\w'=W):=HCk.out;have HSk':Hid (sg.take (k+1)=sg.take k++ [(n,kids w bm K lev n)]):=HSk.out;clear HDk HCk HSk;have HD2:Hid (∀i:Nat,i<4->∀W,Below w.heap.size w W->Calls aa.prog 27 #[.pointer (some ⟨b,0,none⟩),.int .i64 ((lev:Int)+1),.int .i64 ((n*4+i:Nat):Int)] W λe w'=>e=.returned (.int .u64 (kids w bm K lev n i))/\Below W.heap.size W w'):=λi hi W hW=>by
    have:=HD'.out i hi W hW;rw[show bK w bm K (lev+1) (n*4+i)=kids w bm K lev n i by rw[kids,AS hi]]at this;exact this
   clear HD';generalize kids w bm K lev n=d at*;have a1:(k:Int)<(ns.length:Int):=by omega
   have a0:(0:Int)<=(k:Int):=by omega
   have HL0:Hid (oM w lev sg k (.slice adl k capl) wr.heap.size n 0 d (wr.alloc (.cells (fJ n d 0) 163))):=⟨HJ.out.below ((AT _ _).alloc (eR _) _),BY wr _,λq hq=>uJ HJ.out.row hq,hst0⟩
   go_wp2;generalize wr.heap.size=bn at*;go_loopw [22] (λiv wq=>∃i:Nat,i<=4/\iv=.int .i64 i/\Hid (oM w lev sg k (.slice adl k capl) bn n i d wq)) (λiv _=>4-(intOf iv).toNat)
   case atStart=>exact⟨0,by omega,rfl,HL0.out⟩
   case round=>
    obtain⟨i,hi,rfl,HL⟩:=hrel;clear HL0;by_cases hi4:i<4
    ·have i1:(i:Int)<4:=by omega
     have i00:(0:Int)<=(i:Int):=by omega
     have HDi:Hid (∀W,Below w.heap.size w W->Calls aa.prog 27 #[.pointer (some ⟨b,0,none⟩),.int .i64 ((lev:Int)+1),.int .i64 ((n*4+i:Nat):Int)] W λe w'=>e=.returned (.int .u64 (d i))/\Below W.heap.size W w'):=HD2.out i hi4;have HCi:Hid (∀W,Calls aa.prog 103 #[.int .i64 n,.int .i64 i] W λe w'=>e=.returned (.int .i64 ((n*4+i:Nat):Int))/\w'=W):=HC'.out i hi4;generalize ((n*4+i:Nat):Int)=ch at*;go_wp2_with (first
      |(go_at_call 103;refine (HCi.out _).mono ?_;rintro e w' ⟨rfl,hw'⟩;subst w')
      |(go_at_call 27;refine (HDi.out _ HL.out.j.bj).mono ?_;rintro e w2 ⟨rfl,hb2⟩;obtain⟨hn2,hL2⟩:=HL.out.set hb2 hi4;obtain⟨c2,f2⟩:=au hn2;have cI:=(c2 (1+i)).trans (Cl n d hi4);have fI:=f2 (1+i);clear c2 f2 hn2 hb2;have HL2:Hid (oM w lev sg k (.slice adl k capl) bn n (i+1) d (w2.setCell ⟨bn,1+i,none⟩ (.int .u64 (d i)))):=hL2;clear hL2))
     exact⟨⟨i+1,by omega,by go_num,HL2.out⟩,by simp[intOf];omega⟩
    ·obtain rfl:i=4:=by omega
     obtain⟨cs,fs⟩:=au HL.out.j.st;obtain⟨cn4,fn4⟩:=au HL.out.nd;have y14:=cs 1;clear cs fs;have hszq:=HL.out.j.bj.size;have HRa:Hid ((wr.alloc (.cells (fJ n d 4) 163)).ownsRow w.heap.size 163 5 (.slice adl k capl) k (dU (sg.take k))):=VD HL.out.j.row _;have HBa:Hid (Below w.heap.size w (wr.alloc (.cells (fJ n d 4) 163))):=HL.out.j.bj.alloc hszq _;go_wp2_with (at_builtin;refine Xi _ rfl _ _ _ rfl w.heap.size 163 i0 _ 5 40 aa.underlying126 hi0 hz0 hz1 hz2 rfl (by omega) (.slice adl k capl) _ _ rfl HRa.out ⟨wr.heap.size,0,none⟩ 1 1 _ rfl (by rfl) (VM (BY wr _)) (by simp[Value.oneCell']) (by omega) (by unfold maxLen;omega) (by omega) HBa.out.size (wr.heap.size+1) (by simp) ?_;intro g4 cap4 w4 hown4 hgr4 hat4 hlt4;have HO4:Hid (w4.ownsRow w.heap.size 163 5 (.slice (some ⟨g4,0,none⟩) (k+1) cap4) (k+1) (dU (sg.take k)++(fJ n d 4).toList)):=hown4;have hK4:bM (λt=>t≠163) wr w4:=(bM.below ((AT _ _).alloc (eR _) _)).trans (bM.grown hgr4 HRa.out (λh=>h rfl));have hc4:=hK4 _ _ _ _ HL.out.j.st (by decide);have HC4:Hid (w4.heap[w.heap.size]?=some (.cells #[.int .i64 lev,.slice adl k capl] 128)):=hc4;obtain⟨cb4,fb4⟩:=au hc4;have c41:=cb4 1;have f41:=fb4 1;have HB4:Hid (Below w.heap.size w w4):=Below.grown HBa.out hgr4 HBa.out.size (λq hq=>oZ HRa.out hq);clear cb4 fb4 hc4 hK4 hown4 hgr4)
     have hp:∀j,j<4->gz d 4 j=d j:=λj hj=>by simp[gz,hj]
     refine⟨⟨k+1,_,by omega,by go_num,heap_set HC4.out,?_,HB4.out.setCell (eR _) _⟩,by simp[intOf];omega⟩;rw[HSk'.out,dU,WI]
     have:=fX HO4.out HC4.out (by decide) 1 (.slice (some ⟨g4,0,none⟩) (k+1) cap4);simp only[fJ,hp 0 (by omega),hp 1 (by omega),hp 2 (by omega),hp 3 (by omega)]at this;exact this
  ·obtain rfl:k=ns.length:=by omega
   have HTx':Hid (Calls aa.prog 104 #[.agg #[.int .i64 lev,.slice adl ns.length capl]] wr λe w'=>e=.returned (.string (Let.nodes lev sg).bytes)/\Below w.heap.size w w'):=HTx.out wr _ HJ.out;go_wp2_with (go_at_call 104;refine By HTx'.out ?_;rintro e w9 ⟨rfl,hb9⟩)
   go_ret;exact⟨rfl,hb9⟩
theorem re(w:World)(X Y Z:Obj):(((w.alloc X).alloc Y).alloc Z).heap[w.heap.size+1+1]?=some Z:=by
 simpa using BY ((w.alloc X).alloc Y) Z
theorem wi(w:World)(X Y Z:Obj):(((w.alloc X).alloc Y).alloc Z).heap[w.heap.size]?=some X:=by
 rw[Vx _ _ _ (by simp;omega),Vx _ _ _ (by simp)];exact BY w X
theorem vZ{base:Nat}{size:Nat}{n:Nat}(h:w.ownsRow base e size v n xs){g:Nat}(hg:v.ownBlock=some g):base<=g/\g<w.heap.size:=by
 rcases h.2 with⟨h1,_⟩|⟨g',cap,cur,hv,hb,hh,_⟩
 ·rw[h1]at hg;cases hg
 ·rw[hv]at hg;have:g'=g:=by simpa[Value.ownBlock] using hg
  subst this;exact⟨hb,(Array.getElem?_eq_some_iff.1 hh).1⟩
theorem Ao{w3 w4:World}{v3:Value}{X:Obj}(hb:w.heap[b]?=some X)(h3:w.grownBy w3 v.ownBlock)(h4:w3.grownBy w4 v3.ownBlock)(n3:some b≠v.ownBlock)(n4:some b≠v3.ownBlock):w4.heap[b]?=some X:=by
 have hlt:=(Array.getElem?_eq_some_iff.1 hb).1;rw[h4.block b (VA hlt h3.size) n4,h3.block b hlt n3,hb]
theorem Hn{w1:World}{B:Array Value}{ta tb tc:TypeId}(hb:Below (w.heap.size+3) (((w.alloc (.cells A ta)).alloc (.cells B tb)).alloc (.cells C tc)) w1):
  w1.heap[w.heap.size+1+1]?=some (.cells C tc):=by
 rw[hb.block _ (by omega)];exact re w _ _ _
theorem Cw(h:w.heap[b]?=some (.cells A t)):(∀o,w.cell? ⟨b,o,none⟩=A[o]?)/\(∀o,w.frozen? ⟨b,o,none⟩=false):=
 ⟨λo=>by simp[World.cell?,h],λo=>by simp[World.frozen?,h]⟩
theorem Vn(c:Ctx)(sv:Value)(l:List aj)(rep:Nat)(val:ByteArray)(seen:Ctx)(w:World)(h:az w sv l)(hr:∀v∈l,v.rep<4)(hlen:l.length<=100000)(ct:rep<4)(hn:(aT l seen).length<20)(h0:0<=aU c seen rep)(h1:aU c seen rep<1000000):
  Calls aa.prog 40 #[bD c sv,.int .i64 rep,.string val,cU seen] w λe w'=>∃v' l',e=.returned (.tuple #[bD (bump (aU c seen) rep) v',.int .i64 0])/\l'.Perm (aT l seen++ [(rep,aU c seen rep+1,val)])/\l'.Pairwise (λa b=>aP b a=false)/\w'.ownsRow w.heap.size 144 3 v' l'.length (bd l')/\Below w.heap.size w w':=by
 obtain⟨ad,cap,rfl,hcap⟩:=h.len;have H3:Hid (∀a b d,az (((w.alloc a).alloc b).alloc d) (.slice ad l.length cap) l):=λa b d=>((VD h a).alloc b).alloc d;have HR:Hid _:=hr;clear h hr;generalize hun:aT l seen=U at*;have HU:Hid _:=hun;clear hun;go_enter aa.func40,aa.ntmps40;obtain⟨i0,hi0,hz0,hz1,hz2⟩:=VH aa.td;rcases fc ct with rfl|rfl|rfl|rfl
 all_goals
  go_wp2_with (first
   |(go_at_call 63;refine (pD c _ l seen _ (H3.out _ _ _) HR.out hlen).mono ?_;rintro e w1 ⟨v',rfl,aD,hb⟩;rw[HU.out]at aD;obtain⟨ad',cap',hv'⟩:=nS aD;subst hv';simp at hb;obtain⟨b0,b1,b2,f0,f1,f2⟩:=l8 hb;have HO:Hid _:=eE aD (show w.heap.size+3<=_ by simp);have HB:Hid _:=hb;clear aD hb)
   |(go_at_call 64;refine (rn c seen _).mono ?_;rintro e w2 ⟨rfl,hb2⟩;have hb3:=HB.out.trans (hb2.mono (by have:=HB.out.size;simp at this;omega));obtain⟨b0,b1,b2,f0,f1,f2⟩:=l8 hb3;have HB3:Hid _:=hb3;have HO2:Hid (w2.ownsRow (w.heap.size+3) 144 3 (.slice ad' U.length cap') U.length (bd U)):=dS HO.out hb2 (eR _);have z2:w.heap.size+1+1<w2.heap.size:=(by have:=hb3.size;simp at this;omega);clear hb3 hb2)
   |(at_builtin;refine Xi _ rfl _ _ _ rfl (w.heap.size+3) 144 i0 _ 3 32 aa.underlying104 hi0 hz0 hz1 hz2 rfl (by omega) (.slice ad' U.length cap') _ _ rfl (((HO2.out.alloc _).alloc _).alloc _) ⟨w2.heap.size+1+1,0,none⟩ 1 1 [.int .i64 _,.int .i64 (aU c seen _+1),.string val] rfl rfl (VM (cs:=#[.int .i64 _,.int .i64 (aU c seen _+1),.string val]) (t:=144) (fr:=(0,0)) (re w2 _ _ _)) (by simp[Value.oneCell']) (by omega) (by unfold maxLen;omega) (by omega) (by simp;omega) (w2.heap.size+1+1+1) (by simp) ?_;intro g capn w3 hown3 hgrow3 hat3 hlt3;have HW3:Hid _:=hown3;have HG3:Hid _:=hgrow3;have HA3:Hid _:=hat3;clear hown3 hgrow3 hat3)
   |(go_at_call 65;refine (Af (w.heap.size+3) _ (U++ [(_,aU c seen _+1,val)]) _ (by have:=HW3.out;rw[VF,qO];exact this) (by simp) (by simp;omega)).mono ?_;rintro e w4 ⟨rfl,l',hperm,hsort,hown4,hgrow4⟩;have cC:∀b,b<=w2.heap.size->(b<w.heap.size+3\/b=w2.heap.size)->some b≠(Value.slice ad' U.length cap').ownBlock/\some b≠some g:=(λb hb hb'=>by
     have key:∀q,(Value.slice ad' U.length cap').ownBlock=some q->b≠q:=λq hq=>by have:=vZ HO2.out hq;omega
     refine⟨λe=>key b e.symm rfl,λe=>?_⟩;rcases HA3.out with h|h
     ·exact key g h (by simpa using e)
     ·have:b=g:=by simpa using e
      omega);obtain⟨c4,_⟩:=Cw (Ao (wi w2 _ _ _) HG3.out hgrow4 (cC _ (eR _) (Or.inr rfl)).1 (cC _ (eR _) (Or.inr rfl)).2);obtain⟨r4,fr4⟩:=Cw (Ao (w:=((w2.alloc _).alloc _).alloc _) (b:=w.heap.size+1+1) (by rw[Vx _ _ _ (by simp;omega),Vx _ _ _ (by simp;omega),Vx _ _ _ z2];exact Hn HB3.out) HG3.out hgrow4 (cC _ (by omega) (Or.inl (by omega))).1 (cC _ (by omega) (Or.inl (by omega))).2);have HN4:Hid _:=hown4;have HG4:Hid _:=hgrow4;have HP:Hid _:=hperm;have HS:Hid _:=hsort;clear hown4 hgrow4 hperm hsort cC))
  refine V9 (v:=.tuple #[bD (bump (aU c seen) _) (.slice (some ⟨g,0,none⟩) (U.length+1) capn),.int .i64 0]) ?_ rfl ⟨_,l',rfl,HP.out,HS.out,?_,?_⟩
  ·simp[results,aa.results40,go_sem,bump,r4]
  ·exact eE (Wh (Wh (Wh (Wh (Wh HN4.out (by simp) _) (by simp) _) (by simp) _) (by simp) _) (by simp) _) (by omega)
  ·have base:Below w.heap.size w w2:=(((AT _ _).alloc (eR _) _).alloc (by simp) _).alloc (by simp;omega) _|>.trans (HB3.out.mono (by omega));have base3:Below w.heap.size w w3:=(((base.alloc (by omega) _).alloc (by simp;omega) _).alloc (by simp;omega) _).grown HG3.out (by simp;omega) (λq hq=>by have:=vZ HO2.out hq;omega);have base4:Below w.heap.size w w4:=base3.grown HG4.out base3.size (λq hq=>by have:=vZ HW3.out hq;omega);repeat' (with_reducible (first|exact base4|refine VI ?_ ?_ _|refine Vw ?_ ?_ _))
   all_goals (first|omega|(simp;omega))
def nj:Array Value:=Array.replicate 80 (Value.bool false)
theorem Df:nj.size=80:=by simp[nj]
theorem aa.RE:(aa.prog.info? 33).map (·.zero)=some (some (.agg nj)):=by kernel_rfl
theorem aa.N9(w:World):(zeroValue 33).run aa.prog w=.ok (.agg nj) w:=pz aa.RE w
def eJ:Array Value:=Array.replicate 4 (Value.int .i64 0)++nj
theorem gR:eJ.size=84:=by simp[eJ,nj]
theorem aa.GQ:(aa.prog.info? 74).map (·.zero)=some (some (.agg eJ)):=by kernel_rfl
theorem aa.yM(w:World):(zeroValue 74).run aa.prog w=.ok (.agg eJ) w:=pz aa.GQ w
def gK:Array Value:=(List.replicate 2 (Value.slice none 0 0)++(List.replicate 1920 (Value.bool false)++(List.replicate 5 (Value.slice none 0 0)++List.replicate 12 (Value.int .i64 0)))).toArray
theorem AX:gK.size=1939:=by
 unfold gK;rw[List.size_toArray];simp only[VF,Wu]
theorem aa.GY:(aa.prog.info? 42).map (·.zero)=some (some (.agg gK)):=by kernel_rfl
theorem aa.Si(w:World):(zeroValue 42).run aa.prog w=.ok (.agg gK) w:=pz aa.GY w
def bits(s:Nat->Bool):Array Value:=((List.range 80).map λj=>Value.bool (s j)).toArray
theorem jf(s:Nat->Bool):(bits s).size=80:=by simp[bits]
theorem kZ(s:Nat->Bool)(j:Nat)(h:j<80):(bits s)[j]?=some (.bool (s j)):=by simp[bits,h]
theorem Gl(w:World)(X Y Z:Obj):(((w.alloc X).alloc Y).alloc Z).heap[w.heap.size+1]?=some Y:=by
 rw[Vx _ _ _ (by simp)];simpa using BY (w.alloc X) Y
theorem Q8{s t:Nat->Bool}(h:∀j,j<80->s j=t j):bits s=bits t:=by
 apply Array.ext_getElem?;intro j;by_cases hj:j<80
 ·rw[kZ _ _ hj,kZ _ _ hj,h j hj]
 ·rw[Array.getElem?_eq_none (by rw[jf];omega),Array.getElem?_eq_none (by rw[jf];omega)]
theorem tR{fr:Nat×Nat}(h:w.heap[b]?=some (.cells C t fr)):w.rangeAt b 0 C.toList:=λj v hv=>by
 simp only[World.cell?,h,Nat.zero_add];simpa using hv
theorem aa.sJ:(aa.prog.info? 33).map (·.size)=some 80:=by kernel_rfl
theorem vf(s:Nat->Bool):∀v∈(bits s).toList,v.oneCell'=true:=by
 intro v hv;simp[bits]at hv;obtain⟨j,_,rfl⟩:=hv;rfl
theorem PN(hC:C.size=80)(h:w.heap[b]?=some (.cells C t))(s:Nat->Bool):
  (storeCells ⟨b,0,none⟩ (bits s).toList).run aa.prog w=.ok () (w.setCells b 0 (bits s).toList):=by
 obtain⟨e,f⟩:=au h
 have:=run_storeCells_cells (P:=aa.prog) b 0 (bits s).toList 0 w (λj hj=>by
   have hj':j<80:=by simpa[jf] using hj
   simp[e,hC,hj']) (λj hj=>by simpa using f j) (vf s)
 simpa using this
theorem vR(b:Nat)(t:TypeId):∀(vs:List Value) (o:Nat) (w:World) (C:Array Value),w.heap[b]?=some (.cells C t)->∃C',(w.setCells b o vs).heap[b]?=some (.cells C' t)/\C'.size=C.size/\∀j,C'[j]?=if o<=j/\j<o+vs.length/\j<C.size then vs[j-o]? else C[j]?
 |[],o,w,C,h=>⟨C,by simpa[World.setCells] using h,rfl,λj=>by rw[AI (by simp;omega)]⟩
 |v::vs,o,w,C,h=>by
  obtain⟨C',h1,h2,h3⟩:=vR b t vs (o+1) (w.setCell ⟨b,o,none⟩ v) (C.setIfInBounds o v) (heap_set h);refine⟨C',by rw[World.setCells];exact h1,by simpa using h2,λj=>?_⟩;rw[h3,Array.getElem?_setIfInBounds,VX];by_cases h5:o=j
  ·subst h5;rw[AI (by omega),AS rfl];by_cases h6:o<C.size
   ·rw[AS h6,AS (by simp;omega)];simp
   ·rw[AI h6,AI (by omega)];rw[Array.getElem?_eq_none (by omega)]
  ·rw[AI h5];by_cases h6:o+1<=j/\j<o+1+vs.length/\j<C.size
   ·rw[AS h6,AS (by simp;omega)];rw[show j-o=(j-(o+1))+1 by omega];simp
   ·rw[AI h6,AI (by simp;omega)]
theorem oI(h:w.heap[b]?=some (.cells C t))(F:Array Value)(hs:C.size=F.size):(w.setCells b 0 F.toList).heap[b]?=some (.cells F t):=by
 obtain⟨C',h1,h2,h3⟩:=vR b t F.toList 0 w C h;rw[h1];congr 2;apply Array.ext_getElem?;intro j;rw[h3];by_cases hj:j<F.size
 ·rw[AS ⟨by omega,by simp;omega,by omega⟩];simp
 ·rw[AI (by simp;omega),Array.getElem?_eq_none (by omega),Array.getElem?_eq_none (by omega)]
theorem pc{a:World}:∀(vs:List Value) {w:World},Below B a w->B<=b->∀o,Below B a (w.setCells b o vs)
 |[],_,h,_,_=>h
 |v::vs,_,h,hb,o=>by rw[World.setCells];exact pc vs (h.setCell (p:=⟨b,o,none⟩) hb v) hb (o+1)
def uk(w:World)(a b:Nat->Bool)(k:Nat)(wr:World):Prop:=
 wr.heap[w.heap.size]?=some (.cells (bits λj=>if j<k then a j||b j else a j) 33)/\wr.heap[w.heap.size+1]?=some (.cells (bits b) 33)/\wr.heap[w.heap.size+1+1]?=some (.cells nj 33)/\Below w.heap.size w wr
theorem O2(s:Nat->Bool)(k:Nat)(v:Bool)(hk:k<80):(bits s).setIfInBounds k (.bool v)=bits λj=>if j=k then v else s j:=by
 apply Array.ext_getElem?;intro j;rw[Array.getElem?_setIfInBounds,jf];by_cases h:j<80
 ·rw[kZ _ _ h];by_cases e:k=j
  ·subst e;rw[kZ _ _ hk];simp[hk]
  ·rw[AI e,kZ _ _ h,AI (VG e)]
 ·have h1:(bits s)[j]?=none:=by rw[Array.getElem?_eq_none];rw[jf];omega
  have h2:(bits λj=>if j=k then v else s j)[j]?=none:=by rw[Array.getElem?_eq_none];rw[jf];omega
  rw[h1,h2,AI (by omega)]
theorem uk.step{w wr:World}{a b:Nat->Bool}{k:Nat}(h:uk w a b k wr)(hk:k<80):uk w a b (k+1) (wr.setCell ⟨w.heap.size,k,none⟩ (.bool (a k||b k))):=by
 obtain⟨h1,h2,h3,h4⟩:=h;refine⟨?_,?_,?_,h4.setCell (eR _) _⟩
 ·rw[heap_set h1,O2 _ _ _ hk];congr 2;congr 1;funext j;by_cases e:j=k
  ·subst e;simp
  ·by_cases hl:j<k
   ·simp[e,hl,Nat.lt_succ_of_lt hl]
   ·have: ¬j<k+1:=by omega
    simp[e,hl,this]
 ·rw[VC _ _ _ _ (by simp)];exact h2
 ·rw[VC _ _ _ _ (by simp;omega)];exact h3
theorem uO(a b:Nat->Bool)(w:World):
  Calls aa.prog 45 #[.agg (bits a),.agg (bits b)] w λe w'=>e=.returned (.agg (bits λj=>a j||b j))/\Below w.heap.size w w':=by
 have hz:=aa.N9;go_enter aa.func45,aa.ntmps45;go_wp2;go_loopw [5] (λi wr=>∃k:Nat,k<=80/\i=.int .i64 k/\uk w a b k wr) (λi _=>80-(intOf i).toNat)
 case atStart=>exact⟨0,by omega,rfl,wi w _ _ _,by simpa using Gl w _ _ _,re w _ _ _,(((AT _ _).alloc (eR _) _).alloc (by simp) _).alloc (by simp;omega) _⟩
 case round=>
  obtain⟨k,hk,rfl,hrel⟩:=hrel;by_cases hlt:k<80
  ·have g1:(k:Int)<80:=by omega
   have g0:(0:Int)<=(k:Int):=by omega
   obtain⟨e0,f0⟩:=au hrel.1;obtain⟨e1,f1⟩:=au hrel.2.1;have r0:wr.cell? ⟨w.heap.size,k,none⟩=some (.bool (a k)):=by rw[e0,kZ _ _ hlt];simp
   have r1:wr.cell? ⟨w.heap.size+1,k,none⟩=some (.bool (b k)):=by rw[e1,kZ _ _ hlt]
   have w0:=f0 k;have hst:Hid _:=hrel.step hlt;clear e0 f0 e1 f1 hrel;cases ha:a k with
   |true=>
    rw[ha]at r0 hst;go_wp2;exact⟨⟨k+1,by omega,by go_num,hst.out⟩,by simp[intOf];omega⟩
   |false=>
    rw[ha]at r0 hst;rw[Bool.false_or]at hst;go_wp2;exact⟨⟨k+1,by omega,by go_num,hst.out⟩,by simp[intOf];omega⟩
  ·obtain rfl:k=80:=by omega
   have hbits:(bits λj=>if j<80 then a j||b j else a j)=bits λj=>a j||b j:=Q8 λj hj=>by simp[hj]
   have h1:=hrel.1;rw[hbits]at h1;have HR:Hid _:=hrel;have hrange:=tR h1;clear hrel hbits h1;go_wp2_with fail;refine wp_load_mid 33 _ rfl w.heap.size 0 rfl _ _ hrange aa.underlying33 rfl (by rw[aa.sJ,Wc,jf]) ?_;have hs80:(bits λj=>a j||b j).size=80:=jf _;have hst:=PN Df HR.out.2.2.1 (λj=>a j||b j);generalize hF:(bits λj=>a j||b j)=F at*;have HF:Hid _:=hF;clear hF;go_wp2;have hfin:=oI HR.out.2.2.1 F (by rw[Df,hs80]);refine V9 (v:=.agg F) ?_ rfl ⟨by rw[HF.out],?_⟩
   ·have hl:=Xc (P:=aa.prog) (wr.setCells (w.heap.size+1+1) 0 F.toList) (w.heap.size+1+1) 0 33 F.toList _ (tR hfin) aa.underlying33 rfl (by rw[aa.sJ,Wc,hs80]);rw[Xn]at hl;simp[results,aa.results45,asAddr,hl]
   ·exact pc _ HR.out.2.2.2 (by omega) _
abbrev Wr:=Nat×Nat×Int×ByteArray
def Bt(x:Wr):List Value:=[.int .i64 x.1,.int .i64 x.2.1,.int .i64 x.2.2.1,.string x.2.2.2]
def ja(l:List Wr):List Value:=l.flatMap Bt
theorem GH(W:World)(r n:Int)(s:ByteArray):(binOp .neq 71 (.agg #[.int .i64 r,.int .i64 n,.string s]) (.agg #[.int .i64 r,.int .i64 n,.string s])).run aa.prog W=.ok (.bool false) W:=by
 have u3:=aa.underlying3;have u9:=aa.underlying9;have a3:=aa.isAgg3;have z3:=aa.sizeOf3;have a9:=aa.isAgg9;have z9:=aa.sizeOf9;have hS:aa.prog.underlying 71=some (.struct (aa.prog.fieldsOf 71)):=by kernel_rfl
 have hp:aa.prog.stoodInHeld 71=false:=by kernel_rfl
 rw[run_neq_struct,show (10000:Nat)=9999+1 from rfl,run_equalIn_agg W 9999 71 _ _ hS hp];simp only[Program.fieldsOf,aa.underlying71];go_simp
def cJ(ws:List Wr)(kn go:Nat->Bool)(k b m:Nat):List aj:=
 (List.range m).flatMap λj=>match ws[j]? with
  |some x=>if x.2.1=k/\x.1=b/\kn j=true/\go j=false then [(b,x.2.2.1,x.2.2.2)] else []
  |none=>[]
def expected(ws:List Wr)(kn go:Nat->Bool)(k:Nat):List aj:=(List.range 4).flatMap λb=>cJ ws kn go k b ws.length
theorem Dj{size:Nat}{n:Nat}(h:w.ownsRow B e size v n xs)(hn:0<n):
  ∃g cap,v=.slice (some ⟨g,0,none⟩) n cap/\n<=cap/\cap<=maxLen/\∀t u,t<n*size->xs[t]?=some u->w.cell? ⟨g,t,none⟩=some u:=by
 rcases h.2 with⟨_,h0⟩|⟨g,cap,cur,hv,_,hh,hnc,hc,_,ht⟩
 ·omega
 ·refine⟨g,cap,hv,hnc,hc,λt u htl hu=>?_⟩;rw[<-ht,List.getElem?_take,AS htl]at hu;simp only[World.cell?,hh];simpa using hu
theorem uQ{size:Nat}{n:Nat}(h:w.ownsRow B e size v n xs): ∃ad cap,v=.slice ad n cap:=by
 rcases h.2 with⟨h1,h2⟩|⟨g,cap,cur,hv,_⟩
 ·exact⟨_,_,by rw[h1,h2]⟩
 ·exact⟨_,_,hv⟩
theorem yd{ws:List Wr}{go:Nat->Bool}{x:Wr}(hx:ws[j]?=some x)(h1:x.2.1=k)(h2:x.1=b)(h3:kn j=true)(h4:go j=false):cJ ws kn go k b (j+1)=cJ ws kn go k b j++ [(b,x.2.2.1,x.2.2.2)]:=by
 simp[cJ,Wn,WI,hx,h1,h2,h3,h4]
theorem rW{ws:List Wr}{go:Nat->Bool}{x:Wr}(hx:ws[j]?=some x)(h: ¬(x.2.1=k/\x.1=b/\kn j=true/\go j=false)):cJ ws kn go k b (j+1)=cJ ws kn go k b j:=by
 simp only[cJ,Wn,WI,Wi,List.flatMap_nil,hx,AI h,Wz]
end Go.Proofs.YtldmcdeibiclkaaGreatDoorQ
namespace Go.Proofs.YtldmcdeibiclkaaGreatDoorQ
variable {α β:Type}
theorem si(p:β->Bool)(f:α->List β):∀l:List α,(l.flatMap f).filter p=l.flatMap λa=>(f a).filter p
 |[]=>rfl
 |a::l=>by simp only[Wi,List.filter_append,si p f l]
theorem kA{f g:α->List β}:∀l:List α,(∀a∈l,f a=g a)->l.flatMap f=l.flatMap g
 |[],_=>rfl
 |a::l,h=>by
  simp only[Wi];rw[h a (by simp),kA l λb hb=>h b (by simp[hb])]
theorem vI{ws:List Wr}{kn go m:Nat->Bool}{c:Ctx}{k:Nat}(hm:∀(j:Nat) (x:Wr),ws[j]?=some x->x.2.1=k->(m j=true↔x.2.2.1<=c x.1)):
  aT (expected ws kn go k) c=expected ws kn (λj=>go j||m j) k:=by
 unfold aT expected;rw[si];refine kA _ λb _=>?_;unfold cJ;rw[si];refine kA _ λj _=>?_;cases hx:ws[j]? with
 |none=>rfl
 |some x=>
  simp only;by_cases h1:x.2.1=k
  ·by_cases h2:x.1=b
   ·have h:=hm j x hx h1;subst h2;by_cases h3:kn j=true
    ·by_cases h4:go j=true
     ·simp[h4]
     ·by_cases h5:m j=true
      ·have h6:=h.1 h5;simp[h1,h3,h4,h5,gE,h6]
      ·have h6: ¬x.2.2.1<=c x.1:=λe=>h5 (h.2 e);simp[h1,h3,h4,h5,gE];exact Int.not_le.1 h6
    ·simp[h3]
   ·simp[h2]
  ·simp[h1]
end Go.Proofs.YtldmcdeibiclkaaGreatDoorQ
namespace Go.Proofs.YtldmcdeibiclkaaGreatDoorQ
variable {D:Nat->Int}{sg:List Nd}
open Go.RowKit
theorem aa.CH:(aa.prog.info? 3).map (λi=>(i.zero,i.size,i.bytes))=some (some (.int .i64 0),1,8):=by kernel_rfl
def dy(D:Nat->Int)(g:Nd)(i:Nat):List Nat:=((List.range i).filter λj=>decide (D (g.1*4+j)≠g.2 j)).map λj=>g.1*4+j
def bF(D:Nat->Int)(sg:List Nd):List Nat:=sg.flatMap λg=>dy D g 4
theorem Mf(D:Nat->Int)(g:Nd)(i:Nat):dy D g (i+1)=dy D g i++(if D (g.1*4+i)≠g.2 i then [g.1*4+i] else []):=by
 unfold dy;rw[Wn,List.filter_append,WL];congr 1;by_cases h:D (g.1*4+i)=g.2 i<;>simp[h]
theorem IL(D:Nat->Int){k:Nat}(h:k<sg.length):bF D (sg.take (k+1))=bF D (sg.take k)++dy D sg[k] 4:=by
 rw[VO h,bF,bF,WI];simp
theorem Ct(D:Nat->Int)(g:Nd)(i:Nat):(dy D g i).length<=i:=by
 unfold dy;rw[VJ];exact OF (List.length_filter_le _ _) (by simp)
theorem JL(D:Nat->Int)(sg:List Nd):(bF D sg).length<=4*sg.length:=by
 induction sg with
 |nil=>simp[bF]
 |cons g sg ih=>
  have:=Ct D g 4;simp only[bF,Wi,VF,VL] at*;omega
theorem fO.snoc{w:World}{B g cap n:Nat}{ns:List Nat}(h:w.ownsRow B 3 1 (.slice (some ⟨g,0,none⟩) (ns.length+1) cap) (ns.length+1) ((ns.map λ(n:Nat)=>Value.int .i64 (n:Int))++ [.int .i64 n])):fO w B (.slice (some ⟨g,0,none⟩) (ns.length+1) cap) (ns++ [n]):=by
 unfold fO;rw[VF,WL];exact h
theorem LS(b num lev B1:Nat)(bm:Nat->Nat)(K:al)(lv:Value)(sg:List Nd)(w:World)(h:aA w b bm num K)(hK:dD w bm K)(hr:w.ownsRow B1 163 5 lv sg.length (dU sg))(hlev:lev<3)(hl:sg.length<=64)(hns:∀g∈sg,g.1<4 ^ lev):
  Calls aa.prog 79 #[.pointer (some ⟨b,0,none⟩),.agg #[.int .i64 lev,lv]] w λe w'=>∃v,e=.returned v/\fO w' w.heap.size v (bF (bK w bm K (lev+1)) sg)/\Below w.heap.size w w':=by
 obtain⟨i0,hi0,hz0,hz1,hz2⟩:=VH aa.CH;obtain⟨ad,cap,rfl,hcap,hlc⟩:=jE hr;have h4:=(kU (show lev<=3 by omega)).1;have HD:Hid (∀g∈sg,∀i:Nat,i<4->∀W,Below w.heap.size w W->Calls aa.prog 27 #[.pointer (some ⟨b,0,none⟩),.int .i64 ((lev:Int)+1),.int .i64 ((g.1*4+i:Nat):Int)] W λe w'=>e=.returned (.int .u64 (bK w bm K (lev+1) (g.1*4+i)))/\Below W.heap.size W w'):=λg hg i hi W hW=>by
  have h1:=hns g hg
  have:=xg h hK (lev+1) (g.1*4+i) (by omega) (by rw[Wf];omega) W hW;rw[show ((lev+1:Nat):Int)=(lev:Int)+1 by omega]at this;exact this
 have HC:Hid (∀g∈sg,∀i:Nat,i<4->∀W,Calls aa.prog 103 #[.int .i64 g.1,.int .i64 i] W λe w'=>e=.returned (.int .i64 ((g.1*4+i:Nat):Int))/\w'=W):=λg hg i hi W=>by
  have h1:=hns g hg;exact zT g.1 i W (by omega) hi
 have HN:Hid (w.ownsRow B1 163 5 (.slice ad sg.length cap) sg.length (dU sg)):=hr;have v1:(lev:Int)+1<=3:=by omega
 have HB0:Hid (Below w.heap.size w (w.alloc (.cells #[.int .i64 lev,.slice ad sg.length cap] 128))):=(AT _ _).alloc (eR _) _;have HS0:Hid ((w.alloc (.cells #[.int .i64 lev,.slice ad sg.length cap] 128)).heap[w.heap.size]?=some (.cells #[.int .i64 lev,.slice ad sg.length cap] 128)):=BY w _;clear h hr hns hK;generalize bK w bm K (lev+1)=D at*;go_enter aa.func79,aa.ntmps79;go_wp2;go_loopw [5,14] (λo iv wr=>∃k:Nat,k<=sg.length/\iv=.int .i64 k/\Hid (fO wr w.heap.size o (bF D (sg.take k)))/\Hid (wr.heap[w.heap.size]?=some (.cells #[.int .i64 lev,.slice ad sg.length cap] 128))/\Hid (Below w.heap.size w wr)) (λ_ iv _=>sg.length-(intOf iv).toNat)
 case atStart=>exact⟨0,by omega,rfl,Ww _ _ _ _,HS0.out,HB0.out⟩
 case round=>
  obtain⟨k,hkl,rfl,HR,HS,HB⟩:=hrel;clear HS0 HB0;have hsw:=HB.out.size;by_cases hlt:k<sg.length
  ·obtain⟨g,cap',hv',hgl,_,_,cc⟩:=pa HN.out (show 0<sg.length by omega);cases hv';have cw:∀j,j<5->wr.cell? ⟨g,k*5+j,none⟩=(lA sg[k])[j]? :=λj hj=>by
    have h1:=wY sg k hlt j hj;rw[HB.out.cell (p:=⟨g,k*5+j,none⟩) hgl,<-h1];rw[List.getElem?_eq_getElem (by rw[zN];omega)];exact cc _ _ (by omega) (List.getElem?_eq_getElem _)
   have c0:wr.cell? ⟨g,k*5,none⟩=some (.int .i64 sg[k].1):=cw 0 (by omega);have c1:wr.cell? ⟨g,k*5+1,none⟩=some (.int .u64 (sg[k].2 0)):=cw 1 (by omega);have c2:wr.cell? ⟨g,k*5+2,none⟩=some (.int .u64 (sg[k].2 1)):=cw 2 (by omega);have c3:wr.cell? ⟨g,k*5+3,none⟩=some (.int .u64 (sg[k].2 2)):=cw 3 (by omega);have c4:wr.cell? ⟨g,k*5+4,none⟩=some (.int .u64 (sg[k].2 3)):=cw 4 (by omega);have HD':Hid (∀i:Nat,i<4->∀W,Below w.heap.size w W->Calls aa.prog 27 #[.pointer (some ⟨b,0,none⟩),.int .i64 ((lev:Int)+1),.int .i64 ((sg[k].1*4+i:Nat):Int)] W λe w'=>e=.returned (.int .u64 (D (sg[k].1*4+i)))/\Below W.heap.size W w'):=HD.out sg[k] (VB hlt);have HC':Hid (∀i:Nat,i<4->∀W,Calls aa.prog 103 #[.int .i64 sg[k].1,.int .i64 i] W λe w'=>e=.returned (.int .i64 ((sg[k].1*4+i:Nat):Int))/\w'=W):=HC.out sg[k] (VB hlt);have HT:Hid (bF D (sg.take (k+1))=bF D (sg.take k)++dy D sg[k] 4):=IL D hlt;have hL:(bF D (sg.take k)).length<=256:=OF (JL D _) (by have:=List.length_take_le k sg;omega);clear cc cw HD HC;generalize bF D (sg.take k)=L at*;generalize sg[k]=nd at*;have a1:(k:Int)<(sg.length:Int):=by omega
   have a0:(0:Int)<=(k:Int):=by omega
   have HR5:Hid (fO (wr.alloc (.cells #[.int .i64 nd.1,.int .u64 (nd.2 0),.int .u64 (nd.2 1),.int .u64 (nd.2 2),.int .u64 (nd.2 3)] 163)) w.heap.size u5 (L++dy D nd 0)):=(by rw[show dy D nd 0= [] from rfl,Wz];exact VD HR.out _)
   have HB5:Hid (Below w.heap.size w (wr.alloc (.cells #[.int .i64 nd.1,.int .u64 (nd.2 0),.int .u64 (nd.2 1),.int .u64 (nd.2 2),.int .u64 (nd.2 3)] 163))):=HB.out.alloc hsw _;have HS5:Hid ((wr.alloc (.cells #[.int .i64 nd.1,.int .u64 (nd.2 0),.int .u64 (nd.2 1),.int .u64 (nd.2 2),.int .u64 (nd.2 3)] 163)).heap[w.heap.size]?=some (.cells #[.int .i64 lev,.slice (some ⟨g,0,none⟩) sg.length cap] 128)):=aS HS.out ((AT _ _).alloc (eR _) _);have HN5:Hid ((wr.alloc (.cells #[.int .i64 nd.1,.int .u64 (nd.2 0),.int .u64 (nd.2 1),.int .u64 (nd.2 2),.int .u64 (nd.2 3)] 163)).heap[wr.heap.size]?=some (.cells #[.int .i64 nd.1,.int .u64 (nd.2 0),.int .u64 (nd.2 1),.int .u64 (nd.2 2),.int .u64 (nd.2 3)] 163)):=BY wr _;go_wp2;generalize wr.heap.size=bn at*;go_loopw [5,20] (λo iv wq=>∃i:Nat,i<=4/\iv=.int .i64 i/\Hid (fO wq w.heap.size o (L++dy D nd i))/\Hid (wq.heap[w.heap.size]?=some (.cells #[.int .i64 lev,.slice (some ⟨g,0,none⟩) sg.length cap] 128))/\Hid (wq.heap[bn]?=some (.cells #[.int .i64 nd.1,.int .u64 (nd.2 0),.int .u64 (nd.2 1),.int .u64 (nd.2 2),.int .u64 (nd.2 3)] 163))/\Hid (Below w.heap.size w wq)) (λ_ iv _=>4-(intOf iv).toNat)
   case atStart=>exact⟨0,by omega,rfl,HR5.out,HS5.out,HN5.out,HB5.out⟩
   case round=>
    obtain⟨i,hi,rfl,HRi,HSi,HNi,HBi⟩:=hrel;clear HR5 HS5 HN5 HB5;by_cases hi4:i<4
    ·have i1:(i:Int)<4:=by omega
     have i00:(0:Int)<=(i:Int):=by omega
     have hix:=indexAt nd.2 hi4;have HDi:Hid (∀W,Below w.heap.size w W->Calls aa.prog 27 #[.pointer (some ⟨b,0,none⟩),.int .i64 ((lev:Int)+1),.int .i64 ((nd.1*4+i:Nat):Int)] W λe w'=>e=.returned (.int .u64 (D (nd.1*4+i)))/\Below W.heap.size W w'):=HD'.out i hi4;have HCi:Hid (∀W,Calls aa.prog 103 #[.int .i64 nd.1,.int .i64 i] W λe w'=>e=.returned (.int .i64 ((nd.1*4+i:Nat):Int))/\w'=W):=HC'.out i hi4;have HSu:Hid (L++dy D nd (i+1)=(L++dy D nd i)++(if D (nd.1*4+i)≠nd.2 i then [nd.1*4+i] else [])):=(show _=_ by rw[Mf,WQ])
     have hLi:(L++dy D nd i).length<=260:=by have:=Ct D nd i;rw[VF];omega
     have nd0:=(au HNi.out).1 0;have lev0:=(au HSi.out).1 0;generalize L++dy D nd i=Li at*;generalize nd.1*4+i=ch at*;by_cases hd:D ch=nd.2 i
     ·rw[AI (by simpa using hd),Wz]at HSu;rw[hd]at HDi;generalize nd.2 i=di at*;go_wp2_with (first
       |(go_at_call 103;refine (HCi.out _).mono ?_;rintro e w' ⟨rfl,hw'⟩;subst w')
       |(go_at_call 27;refine (HDi.out _ HBi.out).mono ?_;rintro e w2 ⟨rfl,hb2⟩;have HB2:Hid (Below wr.heap.size wr w2):=hb2;clear hb2))
      exact⟨⟨i+1,by omega,by go_num,by rw[HSu.out];exact dS HRi.out HB2.out (eR _),aS HSi.out HB2.out,aS HNi.out HB2.out,bf HBi.out HB2.out⟩,by simp[intOf];omega⟩
     ·rw[AS (by simpa using hd)]at HSu;generalize D ch=Dc at*;generalize nd.2 i=di at*;go_wp2_with (first
       |(go_at_call 103;refine (HCi.out _).mono ?_;rintro e w' ⟨rfl,hw'⟩;subst w')
       |(go_at_call 27;refine (HDi.out _ HBi.out).mono ?_;rintro e w2 ⟨rfl,hb2⟩;have HB2:Hid (Below wr.heap.size wr w2):=hb2;have HRa:Hid ((w2.alloc (.cells #[.int .i64 ch] 3)).ownsRow w.heap.size 3 1 u5 Li.length (Li.map λ(n:Nat)=>Value.int .i64 (n:Int))):=VD (dS HRi.out hb2 (eR _)) _;have HBa:Hid (Below w.heap.size w (w2.alloc (.cells #[.int .i64 ch] 3))):=(bf HBi.out hb2).alloc (by have:=hb2.size;have:=HBi.out.size;omega) _;have HSa:Hid ((w2.alloc (.cells #[.int .i64 ch] 3)).heap[w.heap.size]?=some (.cells #[.int .i64 lev,.slice (some ⟨g,0,none⟩) sg.length cap] 128)):=aS (aS HSi.out hb2) ((AT _ _).alloc (eR _) _);have HNa:Hid ((w2.alloc (.cells #[.int .i64 ch] 3)).heap[bn]?=some (.cells #[.int .i64 nd.1,.int .u64 (nd.2 0),.int .u64 (nd.2 1),.int .u64 (nd.2 2),.int .u64 (nd.2 3)] 163)):=aS (aS HNi.out hb2) ((AT _ _).alloc (eR _) _);clear hb2)
       |(at_builtin;refine jw _ rfl _ _ _ rfl w.heap.size 3 i0 _ 1 8 aa.underlying22 hi0 hz0 hz1 hz2 rfl (by omega) u5 _ _ rfl HRa.out ⟨w2.heap.size,0,none⟩ 1 1 _ rfl (by rfl) (VM (BY w2 _)) (by simp[Value.oneCell']) (by omega) (by unfold maxLen;omega) (by omega) HBa.out.size ?_;intro g7 cap7 w7 hown7 hgr7;have HR7:Hid (fO w7 w.heap.size (.slice (some ⟨g7,0,none⟩) (Li.length+1) cap7) (Li++ [ch])):=fO.snoc hown7;have HG7:Hid (bq (w2.alloc (.cells #[.int .i64 ch] 3)) w7 u5 (.slice (some ⟨g7,0,none⟩) (Li.length+1) cap7)):=hgr7;clear hown7 hgr7))
      exact⟨⟨i+1,by omega,by go_num,by rw[HSu.out];exact HR7.out,HG7.out.other HRa.out HSa.out (by decide),HG7.out.other HRa.out HNa.out (by decide),HG7.out.toBelow HBa.out HBa.out.size HRa.out⟩,by simp[intOf];omega⟩
    ·obtain rfl:i=4:=by omega
     rw[<-HT.out]at HRi;go_wp2;exact⟨⟨k+1,by omega,by go_num,HRi.out,HSi.out,HBi.out⟩,by simp[intOf];omega⟩
  ·obtain rfl:k=sg.length:=by omega
   have hR:=HR.out;rw[VW]at hR;go_wp2;go_ret;exact⟨_,rfl,hR,HB.out⟩
theorem xN{g:Nd}{i c:Nat}(h:c∈dy D g i): ∃j,j<i/\c=g.1*4+j/\D c≠g.2 j:=by
 simp only[dy,Wm,List.mem_filter,List.mem_range,VN]at h;obtain⟨j,⟨h1,h2⟩,rfl⟩:=h;exact⟨j,h1,rfl,h2⟩
theorem tq{lev:Nat}(h:∀g∈sg,g.1<4 ^ lev):∀c∈bF D sg,c<4 ^ (lev+1):=λc hc=>by
 obtain⟨g,hg,hc⟩:=List.mem_flatMap.1 hc;obtain⟨j,hj,rfl,_⟩:=xN hc
 have:=h g hg;rw[Wf];omega
theorem yD:∀{sg:List Nd},(sg.map (·.1)).Pairwise (· < ·)->(bF D sg).Pairwise (· < ·)
 |[],_=>List.Pairwise.nil
 |g::sg,h=>by
  rw[VY,List.pairwise_cons]at h;show (dy D g 4++bF D sg).Pairwise _;rw[List.pairwise_append];refine⟨?_,yD h.2,λa ha c hc=>?_⟩
  ·rw[dy,List.pairwise_map];exact ((List.pairwise_lt_range (n:=4)).filter _).imp λ{a c} hac=>by omega
  ·obtain⟨j,hj,rfl,_⟩:=xN ha;obtain⟨g',hg',hc⟩:=List.mem_flatMap.1 hc;obtain⟨j',hj',rfl,_⟩:=xN hc
   have:=h.1 g'.1 (W7 hg');omega
theorem wH:∀{l:List Nat} {a m:Nat},l.Pairwise (· < ·)->(∀x∈l,a<=x/\x<m)->l.length<=m-a
 |[],_,_,_,_=>WD _
 |x::l,a,m,h,hb=>by
  rw[List.pairwise_cons]at h;have hx:=hb x List.mem_cons_self
  have:=wH (a:=x+1) (m:=m) h.2 λy hy=>⟨h.1 y hy,(hb y (List.mem_cons_of_mem _ hy)).2⟩
  rw[VL];omega
def lH(w:World)(bm:Nat->Nat)(K:al)(d:Int):Option Let:=if d=bK w bm K 0 0 then none else some (.nodes 0 (gv w bm K 0 [0]))
def ma(w:World)(bm:Nat->Nat)(K:al)(lev:Nat)(sg:List Nd):Option Let:=
 if bF (bK w bm K (lev+1)) sg= [] then none else if lev=2 then some (.aL 83 (cm w bm K (bF (bK w bm K (lev+1)) sg))) else some (.nodes (lev+1) (gv w bm K (lev+1) (bF (bK w bm K (lev+1)) sg)))
def fK:Option Let->ByteArray
 |none=>⟨#[]⟩
 |some L=>L.bytes
theorem OE(b num:Nat)(bm:Nat->Nat)(K:al)(d:Int)(w:World)(h:aA w b bm num K)(hK:dD w bm K):
  Calls aa.prog 59 #[.pointer (some ⟨b,0,none⟩),.agg #[.int .u64 d]] w λe w'=>e=.returned (.string (fK (lH w bm K d)))/\Below w.heap.size w w':=by
 have HB1:Hid (Below w.heap.size w (w.alloc (.cells #[.int .u64 d] 81))):=(AT _ _).alloc (eR _) _;have HD:Hid (∀W,Below w.heap.size w W->Calls aa.prog 27 #[.pointer (some ⟨b,0,none⟩),.int .i64 0,.int .i64 0] W λe w'=>e=.returned (.int .u64 (bK w bm K 0 0))/\Below W.heap.size W w'):=λW hW=>xg h hK 0 0 (by omega) (by decide) W hW;have HT:Hid (∀W,Below w.heap.size w W->Calls aa.prog 78 #[.pointer (some ⟨b,0,none⟩),.int .i64 0,.slice (some ⟨W.heap.size,0,none⟩) 1 1] (W.alloc (.cells #[.int .i64 0] 3)) λe w'=>e=.returned (.string (Let.nodes 0 (gv w bm K 0 [0])).bytes)/\Below w.heap.size w w'):=λW hW=>by
  have hb:Below w.heap.size w (W.alloc (.cells #[.int .i64 0] 3)):=hW.alloc hW.size _;have hrow:fO (W.alloc (.cells #[.int .i64 0] 3)) W.heap.size (.slice (some ⟨W.heap.size,0,none⟩) 1 1) [0]:=⟨rfl,Or.inr ⟨W.heap.size,1,#[.int .i64 0],rfl,eR _,BY W _,eR _,by decide,rfl,rfl⟩⟩
  have:=Bs b num 0 W.heap.size bm K _ [0] _ (h.below hb) (hK.below h hb) hrow (by omega) (by decide) (by simp);rw[tj h hb (by omega) (by simp)]at this;exact this.mono λe w' ⟨he,hb'⟩=>⟨he,bf hb hb'⟩
 clear h hK;unfold lH;generalize gv w bm K 0 [0]=no at*;generalize bK w bm K 0 0=D at*;have HD1:Hid (Calls aa.prog 27 #[.pointer (some ⟨b,0,none⟩),.int .i64 0,.int .i64 0] (w.alloc (.cells #[.int .u64 d] 81)).drew λe w'=>e=.returned (.int .u64 D)/\w'.cell? ⟨w.heap.size,0,none⟩=some (.int .u64 d)/\Below w.heap.size w w'):=(HD.out _ HB1.out.drew).mono λe w' ⟨he,hb⟩=>⟨he,by
  have:=(au (aS (BY w (.cells #[.int .u64 d] 81)) (bf (AT _ _).drew hb))).1 0;simpa using this,bf HB1.out.drew hb⟩
 have c0:(w.alloc (.cells #[.int .u64 d] 81)).cell? ⟨w.heap.size,0,none⟩=some (.int .u64 d):=by
  exact (au (BY w (.cells #[.int .u64 d] 81))).1 0
 by_cases hd:d=D
 ·subst hd;rw[AS rfl];go_enter aa.func59,aa.ntmps59;go_upto_region 1 with fail;go_region_held3 (λw'=>w'.cell? ⟨w.heap.size,0,none⟩=some (.int .u64 d)) (go_keep)
   (first|(go_at_call 27;refine By HD1.out ?_;rintro e w2 ⟨rfl,hc2,hb2⟩))
  all_goals
   go_wp2;go_ret;exact⟨rfl,hb2⟩
 ·rw[AI hd];have hd': ¬d=D:=hd;go_enter aa.func59,aa.ntmps59;go_upto_region 1 with fail;go_region_held3 (λw'=>w'.cell? ⟨w.heap.size,0,none⟩=some (.int .u64 d)) (go_keep)
   (first|(go_at_call 27;refine By HD1.out ?_;rintro e w2 ⟨rfl,hc2,hb2⟩))
  all_goals
   go_wp2_with (go_at_call 78;refine By (HT.out _ hb2) ?_;rintro e w3 ⟨rfl,hb3⟩)
   go_ret;exact⟨rfl,hb3⟩
theorem H6(b num lev B1:Nat)(bm:Nat->Nat)(K:al)(lv:Value)(sg:List Nd)(w:World)(h:aA w b bm num K)(hK:dD w bm K)(hr:w.ownsRow B1 163 5 lv sg.length (dU sg))(hlev:lev<3)(hl:sg.length<=64)(hns:∀g∈sg,g.1<4 ^ lev)(hasc:(sg.map (·.1)).Pairwise (· < ·))(hsz:∀ns:List Nat,ns.length<=64->(∀n∈ns,n<64)->(Let.aL 83 (cm w bm K ns)).bytes.size<=140737488355328):
  Calls aa.prog 60 #[.pointer (some ⟨b,0,none⟩),.agg #[.int .i64 lev,lv]] w λe w'=>e=.returned (.string (fK (ma w bm K lev sg)))/\Below w.heap.size w w':=by
 obtain⟨ad,cap,rfl⟩:=gD hr;have h4:=(kU (show lev+1<=3 by omega)).1;have hdl:=tq (D:=bK w bm K (lev+1)) hns;have hda:=yD (D:=bK w bm K (lev+1)) hasc;have hdn:=wH (a:=0) (m:=64) hda λx hx=>⟨WD _,VA (hdl x hx) h4⟩
 obtain⟨W1,hW1⟩: ∃W,W=w.alloc (.cells #[.int .i64 lev,.slice ad sg.length cap] 128):=⟨_,rfl⟩
 have hB1:Below w.heap.size w W1:=by rw[hW1];exact (AT _ _).alloc (eR _) _
 have eD:bF (bK W1 bm K (lev+1)) sg=bF (bK w bm K (lev+1)) sg:=by
  have hg:∀g∈sg,dy (bK W1 bm K (lev+1)) g 4=dy (bK w bm K (lev+1)) g 4:=λg hg=>by
   unfold dy;congr 1;refine Xe λj hj=>?_
   have:=hns g hg;have hj':=List.mem_range.1 hj;rw[rX h hB1 (by omega) (by rw[Wf];omega)]
  exact kA sg hg
 have HDf:Hid (Calls aa.prog 79 #[.pointer (some ⟨b,0,none⟩),.agg #[.int .i64 lev,.slice ad sg.length cap]] (w.alloc (.cells #[.int .i64 lev,.slice ad sg.length cap] 128)) λe w'=>∃adv capv,e=.returned (.slice adv (bF (bK w bm K (lev+1)) sg).length capv)/\fO w' w.heap.size (.slice adv (bF (bK w bm K (lev+1)) sg).length capv) (bF (bK w bm K (lev+1)) sg)/\Below w.heap.size w w'):=by
  rw[<-hW1]
  have:=LS b num lev B1 bm K _ sg W1 (h.below hB1) (hK.below h hB1) (dS hr hB1 (eR _)) hlev hl hns;rw[eD]at this;refine this.mono ?_;rintro e w' ⟨v,rfl,h1,h2⟩;obtain⟨adv,capv,rfl⟩:=gD h1;exact⟨adv,capv,rfl,eE h1 hB1.size,bf hB1 h2⟩
 have HTs:Hid (lev=2->∀W nv,Below w.heap.size w W->fO W w.heap.size nv (bF (bK w bm K (lev+1)) sg)->Calls aa.prog 80 #[.pointer (some ⟨b,0,none⟩),.int .u8 83,nv] W λe w'=>e=.returned (.string (Let.aL 83 (cm w bm K (bF (bK w bm K (lev+1)) sg))).bytes)/\Below w.heap.size w w'):=λh2 W nv hW hrow=>by
  have es:∀n,n<64->cE W (bm n)=cE w (bm n):=λn hn=>by unfold cE;rw[hW.block _ (h.2.1 n hn).lt]
  have e1:cm W bm K (bF (bK w bm K (lev+1)) sg)=cm w bm K (bF (bK w bm K (lev+1)) sg):=Wb λn hn=>by rw[es n (VA (hdl n hn) h4)]
  have:=zx b num 83 w.heap.size bm K nv _ W (h.below hW) (hK.below h hW) hrow (by omega) (by omega) (λn hn=>VA (hdl n hn) h4) (by rw[e1];exact hsz _ (by omega) (λn hn=>VA (hdl n hn) h4));rw[e1]at this;exact this.mono λe w' ⟨he,hb⟩=>⟨he,bf hW hb⟩
 have HTn:Hid (lev<2->∀W nv,Below w.heap.size w W->fO W w.heap.size nv (bF (bK w bm K (lev+1)) sg)->Calls aa.prog 78 #[.pointer (some ⟨b,0,none⟩),.int .i64 ((lev:Int)+1),nv] W λe w'=>e=.returned (.string (Let.nodes (lev+1) (gv w bm K (lev+1) (bF (bK w bm K (lev+1)) sg))).bytes)/\Below w.heap.size w w'):=λh2 W nv hW hrow=>by
  have:=Bs b num (lev+1) w.heap.size bm K nv _ W (h.below hW) (hK.below h hW) hrow (by omega) (by omega) hdl;rw[tj h hW (by omega) hdl,show ((lev+1:Nat):Int)=(lev:Int)+1 by omega]at this;exact this.mono λe w' ⟨he,hb⟩=>⟨he,bf hW hb⟩
 have v1:(lev:Int)+1<=3:=by omega
 clear h hK hr hdl hda hW1 hB1 eD hsz hns hasc;unfold ma;generalize cm w bm K (bF (bK w bm K (lev+1)) sg)=so at*;generalize gv w bm K (lev+1) (bF (bK w bm K (lev+1)) sg)=no at*;generalize bF (bK w bm K (lev+1)) sg=ds at*;by_cases hd:ds= []
 ·subst hd;rw[AS rfl];go_enter aa.func60,aa.ntmps60;go_wp2_with (go_at_call 79;refine By HDf.out ?_;rintro e w2 ⟨adv,capv,rfl,hrow2,hb2⟩)
  go_ret;exact⟨rfl,hb2⟩
 ·rw[AI hd];have hl0: ¬ds.length=0:=λh=>hd (List.eq_nil_of_length_eq_zero h);have hl1: ¬(ds.length:Int)=0:=by omega
  by_cases h2:lev=2
  ·subst h2;rw[AS rfl];have HTs':Hid _:=HTs.out rfl;go_enter aa.func60,aa.ntmps60;go_wp2_with (first
    |(go_at_call 79;refine By HDf.out ?_;rintro e w2 ⟨adv,capv,rfl,hrow2,hb2⟩)
    |(go_at_call 80;refine By (HTs'.out _ _ hb2 hrow2) ?_;rintro e w3 ⟨rfl,hb3⟩))
   go_ret;exact⟨rfl,hb3⟩
  ·rw[AI h2];have h3: ¬(lev:Int)+1=3:=by omega
   have HTn':Hid _:=HTn.out (by omega);go_enter aa.func60,aa.ntmps60;go_wp2_with (first
    |(go_at_call 79;refine By HDf.out ?_;rintro e w2 ⟨adv,capv,rfl,hrow2,hb2⟩)
    |(go_at_call 78;refine By (HTn'.out _ _ hb2 hrow2) ?_;rintro e w3 ⟨rfl,hb3⟩))
   go_ret;exact⟨rfl,hb3⟩
end Go.Proofs.YtldmcdeibiclkaaGreatDoorQ
