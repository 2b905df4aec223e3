/-
  Toward summed_holds: Contract of the reference: set: what is known of a key now, in its row.
-/
import Derived.Test.YtldmcdeibiclkaaGreatC18
import Derived.Deep.CutRange
import Derived.Deep.CutBlock
import Derived.Deep.QuietTactic
import Derived.BigQuiet
import Derived.Test.YtldmcdeibiclkaaGreatC16
import Derived.Test.YtldmcdeibiclkaaGreatC17
set_option linter.unusedVariables false
set_option linter.unusedSimpArgs false
set_option maxRecDepth 100000
set_option maxHeartbeats 20000000
namespace Go.Proofs.YtldmcdeibiclkaaGreatQ
variable {l:List aC}{h k:Nat}
open Go.RowKit
theorem aa.EO:(aa.prog.info? 82).map (λi=>(i.zero,i.size,i.bytes))=some (some (.agg #[.string ⟨#[]⟩,.int .i64 0,.int .i64 0,.int .i64 0,.int .i64 0,.slice none 0 0]),6,72):=by kernel_rfl
def bF(l:List aC)(nm:ByteArray):Nat:=(l.takeWhile λk=>Op.bytesLess k.1.toList nm.toList).length
def dy(l:List aC)(nm:ByteArray):Nat:=if ∃h:bF l nm<l.length,l[bF l nm].1=nm then bF l nm+1 else bF l nm
def bW(l:List aC)(q:aC):List aC:=l.take (bF l q.1)++q::l.drop (dy l q.1)
theorem qS(l:List aC)(nm:ByteArray):bF l nm<=l.length:=by
 unfold bF;exact (List.takeWhile_prefix _).length_le
theorem Bl(l:List aC)(nm:ByteArray):dy l nm<=l.length:=by
 unfold dy;split
 ·rename_i h;exact h.1
 ·exact qS l nm
theorem zE{nm:ByteArray}(h:∀j (hj:j<l.length),j<k->Op.bytesLess l[j].1.toList nm.toList=true)(hk:k<=l.length)(hs:∀hk':k<l.length,Op.bytesLess l[k].1.toList nm.toList=false):bF l nm=k:=by
 unfold bF;induction l generalizing k with
 |nil=>simp at hk;simp[hk]
 |cons u l ih=>
  cases k with
  |zero=>
   have:=hs (by simp);simp at this;simp[List.takeWhile,this]
  |succ k=>
   have h0:=h 0 (by simp) (by omega);simp at h0;simp only[List.takeWhile,h0,QH];rw[ih (k:=k) (λj hj hjk=>by have:=h (j+1) (by simpa using hj) (by omega);simpa using this) (by simpa using hk) (λhk'=>by have:=hs (by simpa using hk');simpa using this)]
theorem Ej(l:List aC)(k:Nat)(h:k<l.length):flatK (l.take (k+1))=flatK (l.take k)++dM l[k]:=by
 rw[List.take_add_one,yU,List.getElem?_eq_getElem h];simp[flatK]
theorem Nk(l:List aC)(k:Nat)(h:k<=l.length):flatK (l.drop k)=(flatK l).drop (k*6):=by
 have h1:flatK l=flatK (l.take k)++flatK (l.drop k):=by rw[<-yU,R4]
 rw[h1,List.drop_left' (by rw[qc,RS];omega)]
theorem OM(hsl:∀q∈l,∃ad m cap,q.2.2=.slice ad m cap):∀u∈flatK l,u.oneCell'=true:=by
 intro u hu;simp only[flatK,List.mem_flatMap]at hu;obtain⟨v,hv0,hv⟩:=hu;obtain⟨ad,m,cap,e⟩:=hsl v hv0;simp[dM,e]at hv;rcases hv with rfl|rfl|rfl|rfl|rfl|rfl<;>rfl
theorem KG{w w2:World}{g:Nat}{X:Obj}(hc:∀t u,t<l.length*6->(flatK l)[t]?=some u->w.cell? ⟨g,t,none⟩=some u)(hk:k<=l.length)(hb:Below (w.heap.size+1) (w.alloc X) w2)(hg:g<w.heap.size):
  ∀j u,(flatK (l.drop k))[j]?=some u->w2.cell? ((⟨g,k*6,none⟩:Addr).add j)=some u:=by
 intro j u hj;have hadd:(⟨g,k*6,none⟩:Addr).add j=⟨g,k*6+j,none⟩:=by unfold Addr.add;split<;>simp_all
 rw[hadd,hb.cell (p:=⟨g,k*6+j,none⟩) (show g<w.heap.size+1 by omega),World.cell?_alloc_lt _ _ _ hg];rw[Nk l k hk,List.getElem?_drop]at hj;have hlt:=(List.getElem?_eq_some_iff.1 hj).1;rw[qc]at hlt;exact hc _ _ hlt hj
theorem fU{W:World}{B b o n size:Nat}{t:TypeId}{v val:Value}{xs:List Value}(h:W.ownsRow B t size v n xs)(hb:b<B):(W.setCell ⟨b,o,none⟩ val).ownsRow B t size v n xs:=by
 refine Fr.row (Fr.setCell (X:=λk=>k=b) (Fr.refl _ _) (Or.inr rfl) _) h λg o' l c hv e=>?_;rcases h.2 with⟨h1,_⟩|⟨g1,cap1,cur1,hv1,hg1,_⟩
 ·rw[h1]at hv;cases hv
 ·rw[hv1]at hv;cases hv;omega
theorem CO(l:List aC)(q:aC):flatK (bW l q)=flatK (l.take (bF l q.1))++dM q++flatK (l.drop (dy l q.1)):=by
 simp[bW,flatK]
theorem Aq(l:List aC)(q:aC):(bW l q).length=bF l q.1+1+(l.length-dy l q.1):=by
 have:=qS l q.1;simp[bW];omega
theorem sL{nm:ByteArray}(hh:bF l nm=h)(hlt:h<l.length)(e:l[h].1=nm):dy l nm=h+1:=by
 subst hh;unfold dy;rw[IN ⟨hlt,e⟩]
theorem tf{nm:ByteArray}(hh:bF l nm=h)(hlt:h<l.length)(e: ¬l[h].1=nm):dy l nm=h:=by
 subst hh;unfold dy;rw[By λ⟨_,e'⟩=>e e']
theorem tD{nm:ByteArray}(hh:bF l nm=h)(hlt: ¬h<l.length):dy l nm=h:=by
 subst hh;unfold dy;rw[By λ⟨e',_⟩=>hlt e']
theorem AN(b n:Nat)(sv:Value)(l:List aC)(nm:ByteArray)(cx:Ctx)(av:Option Addr)(mv cv:Nat)(w:World)(h:gk w b n sv l)(hsl:∀q∈l,∃ad m cap,q.2.2=.slice ad m cap)(hlen:l.length<=1900000000000):
  Calls aa.prog 42 #[.pointer (some ⟨b,0,none⟩),fV (nm,cx,.slice av mv cv)] w λe w'=>e=.returned (.tuple #[])/\∃sv',w'.heap[b]?=some (.cells #[.int .i64 n,sv'] 45)/\w'.ownsRow w.heap.size 82 6 sv' (bW l (nm,cx,.slice av mv cv)).length (flatK (bW l (nm,cx,.slice av mv cv)))/\Fr (λk=>k=b) w w':=by
 obtain⟨ad,cap,rfl,hcap,hlc⟩:=aZ h.2;have hbs:b<w.heap.size:=(Array.getElem?_eq_some_iff.1 h.1).1;have H:Hid (pI w (.slice ad l.length cap) l):=h.2;have HB0:Hid (w.heap[b]?=some (.cells #[.int .i64 n,.slice ad l.length cap] 45)):=h.1;have HSL:Hid (∀q∈l,∃ad m cap,q.2.2=.slice ad m cap):=hsl;obtain⟨i0,hi0,hz0,hz1,hz2⟩:=QN aa.EO;clear h hsl;have HBlk:Hid (∀w',Below (w.heap.size+1) (w.alloc (.cells #[.string nm,.int .i64 (cx 0),.int .i64 (cx 1),.int .i64 (cx 2),.int .i64 (cx 3),.slice av mv cv] 82)) w'->w'.cell? ⟨b,1,none⟩=some (.slice ad l.length cap)/\w'.frozen? ⟨b,1,none⟩=false/\w'.heap[b]?=some (.cells #[.int .i64 n,.slice ad l.length cap] 45)/\∀o,w'.cell? ⟨w.heap.size,o,none⟩=#[Value.string nm,.int .i64 (cx 0),.int .i64 (cx 1),.int .i64 (cx 2),.int .i64 (cx 3),.slice av mv cv][o]?):=λw' hw=>by
  have h1:w'.heap[b]?=some (.cells #[.int .i64 n,.slice ad l.length cap] 45):=by
   rw[hw.block b (by omega),Qx _ _ _ hbs];exact HB0.out
  have h2:=aj h1;refine⟨by rw[h2.1];rfl,h2.2 1,h1,λo=>?_⟩;rw[hw.cell (p:=⟨w.heap.size,o,none⟩) (show w.heap.size<w.heap.size+1 by omega)];exact (aj (IS w _)).1 o
 go_enter aa.func42,aa.ntmps42;go_upto_block 0 with fail;go_cut [4,5] from 6 to 37 (λlf i wx=>i=.int .i64 (bF l nm:Nat)/\wx.ownsRow (w.heap.size+1) 82 6 lf (bF l nm) (flatK (l.take (bF l nm)))/\Below (w.heap.size+1) (w.alloc (.cells #[.string nm,.int .i64 (cx 0),.int .i64 (cx 1),.int .i64 (cx 2),.int .i64 (cx 3),.slice av mv cv] 82)) wx)
 case first=>
  go_wp2_with fail;go_loopw [4,5] (λlf i wr=>∃k:Nat,k<=l.length/\i=.int .i64 k/\Hid (wr.ownsRow (w.heap.size+1) 82 6 lf k (flatK (l.take k)))/\Hid (Below (w.heap.size+1) (w.alloc (.cells #[.string nm,.int .i64 (cx 0),.int .i64 (cx 1),.int .i64 (cx 2),.int .i64 (cx 3),.slice av mv cv] 82)) wr)/\Hid (∀j (hj:j<l.length),j<k->Op.bytesLess l[j].1.toList nm.toList=true)) (λ_ i _=>l.length-(intOf i).toNat)
  case atStart=>exact⟨0,by omega,rfl,⟨by simp[flatK],Or.inl ⟨rfl,rfl⟩⟩,AT _ _,λj _ hj=>absurd hj (by omega)⟩
  case round=>
   obtain⟨k,hk,rfl,hown,hbel,hall⟩:=hrel;obtain⟨cb,fb,-,hbox⟩:=HBlk.out _ hbel.out;have b0:wr.cell? ⟨w.heap.size,0,none⟩=some (.string nm):=hbox 0;have hsz:w.heap.size+1<=wr.heap.size:=by have:=hbel.out.size;simp at this;omega
   have k0:(0:Int)<=(k:Int):=by omega
   have HW:Hid (∀m,(wr.drewN m).ownsRow (w.heap.size+1) 82 6 u4 k (flatK (l.take k))):=λm=>hown.out;have HBel:Hid (∀m,Below (w.heap.size+1) (w.alloc (.cells #[.string nm,.int .i64 (cx 0),.int .i64 (cx 1),.int .i64 (cx 2),.int .i64 (cx 3),.slice av mv cv] 82)) (wr.drewN m)):=λm=>Rf hbel.out m;by_cases hlt:k<l.length
   ·obtain⟨g,cap',hsv',_,_,hg,hcells⟩:=cU H.out (by omega);cases hsv';have hcw:∀j,j<6->wr.cell? ⟨g,k*6+j,none⟩=(dM l[k])[j]? :=λj hj=>by
     have hlt':k*6+j<l.length*6:=by omega
     have hget:(flatK l)[k*6+j]?=some ((dM l[k])[j]'(by simpa[dM] using hj)):=by
      rw[oY l k hlt j hj];simp
     rw[hbel.out.cell (p:=⟨g,k*6+j,none⟩) (show g<w.heap.size+1 by omega),World.cell?_alloc_lt _ _ _ hg,hcells _ _ hlt' hget];simp
    have c0:wr.cell? ⟨g,k*6,none⟩=some (.string l[k].1):=hcw 0 (by omega);have c1:wr.cell? ⟨g,k*6+1,none⟩=some (.int .i64 (l[k].2.1 0)):=hcw 1 (by omega);have c2:wr.cell? ⟨g,k*6+2,none⟩=some (.int .i64 (l[k].2.1 1)):=hcw 2 (by omega);have c3:wr.cell? ⟨g,k*6+3,none⟩=some (.int .i64 (l[k].2.1 2)):=hcw 3 (by omega);have c4:wr.cell? ⟨g,k*6+4,none⟩=some (.int .i64 (l[k].2.1 3)):=hcw 4 (by omega);have c5:wr.cell? ⟨g,k*6+5,none⟩=some l[k].2.2:=hcw 5 (by omega);have g63:(k:Int)<(l.length:Int):=by omega
    have HSk: ∃ad m cap,l[k].2.2=.slice ad m cap:=HSL.out _ (OF hlt);have HF:Hid (Op.bytesLess l[k].1.toList nm.toList=false->bF l nm=k):=λh=>zE hall.out hk λ_=>h;have HA:Hid (Op.bytesLess l[k].1.toList nm.toList=true->∀j (hj:j<l.length),j<k+1->Op.bytesLess l[j].1.toList nm.toList=true):=λhn j hj hjk=>by
     by_cases e:j=k
     ·subst e;exact hn
     ·exact hall.out j hj (by omega)
    have HE:Hid (flatK (l.take (k+1))=flatK (l.take k)++dM l[k]):=Ej l k hlt;clear hcw hcells hall hbox hown hbel;generalize l[k]=q at*;obtain⟨na,cq,vs⟩:=q;obtain⟨aq,mq,kq,hvs⟩:=HSk;simp only at hvs;subst hvs;simp only at c0 c1 c2 c3 c4 c5;cases hless:Op.bytesLess na.toList nm.toList with
    |true=>
     have HA':Hid (∀j (hj:j<l.length),j<k+1->Op.bytesLess l[j].1.toList nm.toList=true):=HA.out hless;clear HA HF;go_wp2_with fail;go_quiet (fail);go_wp2_with (first
      |(at_builtin;refine QZ _ rfl _ _ _ rfl (w.heap.size+1) 82 i0 _ 6 72 aa.underlying43 hi0 hz0 hz1 hz2 rfl (by omega) u4 _ _ rfl ((HW.out _).alloc _) ⟨wr.heap.size,0,none⟩ 1 1 [.string na,.int .i64 (cq 0),.int .i64 (cq 1),.int .i64 (cq 2),.int .i64 (cq 3),.slice aq mq kq] rfl rfl (QJ (cs:=#[.string na,.int .i64 (cq 0),.int .i64 (cq 1),.int .i64 (cq 2),.int .i64 (cq 3),.slice aq mq kq]) (t:=82) (fr:=(0,0)) (IS _ _)) (by simp[Value.oneCell']) (by omega) (by unfold maxLen;omega) (by omega) (by simp;omega) (wr.heap.size+1) (by simp) ?_;intro gg capn w2 hown2 hgrow hat hlt2))
     refine⟨⟨k+1,by omega,by go_num,?_,?_,HA'⟩,by simp[intOf];omega⟩
     ·rw[HE.out];exact hown2
     ·exact kD (HW.out _) (HBel.out _) (by simp;omega) hgrow
    |false=>
     have HF':Hid (bF l nm=k):=HF.out hless;clear HA HF;go_wp2_with fail;go_quiet (fail);go_wp2_with fail;go_meet;rw[HF'.out];exact⟨rfl,HW.out _,HBel.out _⟩
   ·obtain rfl:k=l.length:=by omega
    have HF':Hid (bF l nm=l.length):=zE hall.out hk λh=>absurd h (by omega);clear hbox hall;go_wp2_with fail;go_quiet (fail);go_wp2_with fail;go_meet;rw[HF'.out];exact⟨rfl,HW.out _,HBel.out _⟩
 case rest=>
  have hhle:=qS l nm;have hxle:=Bl l nm;have hxge:bF l nm<=dy l nm:=by unfold dy;split<;>omega
  have Hfl:Hid (flatK (bW l (nm,cx,.slice av mv cv))=flatK (l.take (bF l nm))++ [.string nm,.int .i64 (cx 0),.int .i64 (cx 1),.int .i64 (cx 2),.int .i64 (cx 3),.slice av mv cv]++flatK (l.drop (dy l nm))):=CO l _;have Hln:Hid ((bW l (nm,cx,.slice av mv cv)).length=bF l nm+1+(l.length-dy l nm)):=Aq l _;obtain⟨h,hh⟩: ∃h,bF l nm=h:=⟨_,rfl⟩
  obtain⟨x,hx⟩: ∃x,dy l nm=x:=⟨_,rfl⟩
  rw[hh]at hcut hhle hxge Hfl Hln;rw[hx]at hxle hxge Hfl Hln;obtain⟨rfl,hown,hbel⟩:=hcut;obtain⟨cbc,_,-,hbox⟩:=HBlk.out _ hbel;have HW:Hid (wc.ownsRow (w.heap.size+1) 82 6 u4 h (flatK (l.take h))):=hown;have HBel:Hid (Below (w.heap.size+1) (w.alloc (.cells #[.string nm,.int .i64 (cx 0),.int .i64 (cx 1),.int .i64 (cx 2),.int .i64 (cx 3),.slice av mv cv] 82)) wc):=hbel;have HH:Hid (bF l nm=h):=hh;have HX:Hid (dy l nm=x):=hx;have hsz:w.heap.size+1<=wc.heap.size:=by have:=hbel.size;simp at this;omega
  have b0:wc.cell? ⟨w.heap.size,0,none⟩=some (.string nm):=hbox 0;have b1:wc.cell? ⟨w.heap.size,1,none⟩=some (.int .i64 (cx 0)):=hbox 1;have b2:wc.cell? ⟨w.heap.size,2,none⟩=some (.int .i64 (cx 1)):=hbox 2;have b3:wc.cell? ⟨w.heap.size,3,none⟩=some (.int .i64 (cx 2)):=hbox 3;have b4:wc.cell? ⟨w.heap.size,4,none⟩=some (.int .i64 (cx 3)):=hbox 4;have b5:wc.cell? ⟨w.heap.size,5,none⟩=some (.slice av mv cv):=hbox 5;clear hown hbel hbox hh hx;go_upto_region 7 with (first
   |(at_builtin;refine QZ _ rfl _ _ _ rfl (w.heap.size+1) 82 i0 _ 6 72 aa.underlying43 hi0 hz0 hz1 hz2 rfl (by omega) u4 _ _ rfl (HW.out.alloc _) ⟨wc.heap.size,0,none⟩ 1 1 [.string nm,.int .i64 (cx 0),.int .i64 (cx 1),.int .i64 (cx 2),.int .i64 (cx 3),.slice av mv cv] rfl rfl (QJ (cs:=#[.string nm,.int .i64 (cx 0),.int .i64 (cx 1),.int .i64 (cx 2),.int .i64 (cx 3),.slice av mv cv]) (t:=82) (fr:=(0,0)) (IS _ _)) (by simp[Value.oneCell']) (by omega) (by unfold maxLen;omega) (by omega) (by simp;omega) (wc.heap.size+1) (by simp) ?_;intro gg capn w2 hown2 hgrow hat hlt2;have HO2:Hid (w2.ownsRow (w.heap.size+1) 82 6 (.slice (some ⟨gg,0,none⟩) (h+1) capn) (h+1) (flatK (l.take h)++ [.string nm,.int .i64 (cx 0),.int .i64 (cx 1),.int .i64 (cx 2),.int .i64 (cx 3),.slice av mv cv])):=hown2;have HB2:Hid (Below (w.heap.size+1) (w.alloc (.cells #[.string nm,.int .i64 (cx 0),.int .i64 (cx 1),.int .i64 (cx 2),.int .i64 (cx 3),.slice av mv cv] 82)) w2):=kD HW.out HBel.out (by omega) hgrow;clear hown2 hgrow hat hlt2))
  clear cbc b0 b1 b2 b3 b4 b5;obtain⟨cb,fb,-,hbox⟩:=HBlk.out _ HB2.out;have b0:w2.cell? ⟨w.heap.size,0,none⟩=some (.string nm):=hbox 0;clear hbox;have h0:(0:Int)<=(h:Int):=by omega
  go_cut [61] from 42 to 61 (λi wx=>i=.bool (decide (x=h+1))/\∃m,wx=w2.drewN m)
  case first=>
   by_cases hlt:h<l.length
   ·obtain⟨g,cap',hsv',_,_,hg,hcells⟩:=cU H.out (by omega);cases hsv';have c0:w2.cell? ⟨g,h*6,none⟩=some (.string l[h].1):=by
     have hget:(flatK l)[h*6+0]?=some (.string l[h].1):=by
      rw[oY l h hlt 0 (by omega)];rfl
     rw[HB2.out.cell (p:=⟨g,h*6,none⟩) (show g<w.heap.size+1 by omega),World.cell?_alloc_lt _ _ _ hg];exact hcells _ _ (by omega) hget
    have g63:(h:Int)<(l.length:Int):=by omega
    by_cases hn:l[h].1=nm
    ·have hd:(l[h].1.toList==nm.toList)=true:=wJ hn;have HXe:Hid (x=h+1):=by have:=HX.out;rw[sL HH.out hlt hn]at this;exact this.symm
     clear hn hcells;generalize l[h].1=na at*;go_wp2_with fail;go_quiet (fail);go_wp2_with fail;go_meet;exact⟨by simp[HXe.out],_,rfl⟩
    ·have hd:(l[h].1.toList==nm.toList)=false:=rU hn;have HXe:Hid (x=h):=by have:=HX.out;rw[tf HH.out hlt hn]at this;exact this.symm
     clear hn hcells;generalize l[h].1=na at*;go_wp2_with fail;go_quiet (fail);go_wp2_with fail;go_meet;exact⟨by simp[HXe.out],_,rfl⟩
   ·obtain rfl:h=l.length:=by omega
    have HXe:Hid (x=l.length):=by have:=HX.out;rw[tD HH.out hlt]at this;exact this.symm
    go_wp2_with fail;go_quiet (fail);go_wp2_with fail;go_meet;exact⟨by simp[HXe.out],_,rfl⟩
  case rest=>
   obtain⟨rfl,m,rfl⟩:=hcut;have HX2:Hid (x=h+1\/x=h):=by
    rcases QO h l.length with hlt|hge
    ·by_cases hn:l[h].1=nm
     ·exact Or.inl (HX.out.symm.trans (sL HH.out hlt hn))
     ·exact Or.inr (HX.out.symm.trans (tf HH.out hlt hn))
    ·exact Or.inr (HX.out.symm.trans (tD HH.out (by omega)))
   go_upto_if 61 with fail;go_cut [5] from 62 to 63 (λi wx=>i=.int .i64 (x:Nat)/\wx=w2.drewN m)
   case first=>
    rcases HX2.out with hx2|hx2
    ·have hd:decide (x=h+1)=true:=by simpa using hx2
     go_wp2_with fail;go_meet;exact⟨by rw[hx2];go_num,rfl⟩
    ·have hd:decide (x=h+1)=false:=by simp[hx2]
     go_wp2_with fail;go_meet;exact⟨by rw[hx2],rfl⟩
   case rest=>
    obtain⟨rfl,rfl⟩:=hcut;have HOm:Hid ((w2.drewN m).ownsRow (w.heap.size+1) 82 6 (.slice (some ⟨gg,0,none⟩) (h+1) capn) (h+1) (flatK (l.take h)++ [.string nm,.int .i64 (cx 0),.int .i64 (cx 1),.int .i64 (cx 2),.int .i64 (cx 3),.slice av mv cv])):=HO2.out;have HBm:Hid (Below (w.heap.size+1) (w.alloc (.cells #[.string nm,.int .i64 (cx 0),.int .i64 (cx 1),.int .i64 (cx 2),.int .i64 (cx 3),.slice av mv cv] 82)) (w2.drewN m)):=Rf HB2.out m;have zm:=HB2.out.size;simp only[cA]at zm;have x0:(0:Int)<=(x:Int):=by omega
    have xl:(x:Int)<=(l.length:Int):=by omega
    have xc:(l.length:Int)<=(cap:Int):=by omega
    have HNil:Hid (flatK (l.drop l.length)= []):=(show flatK (l.drop l.length)= [] by simp[flatK])
    rcases H.out.2 with⟨hsv,hl0⟩|⟨g,cap',cur,hv,_,hh,_,_,_,ht⟩
    ·injection hsv with e1 e2 e3;obtain rfl:l= []:=R5 hl0;obtain rfl:x=0:=by simpa using hxle
     obtain rfl:h=0:=by simpa using hhle
     subst e1 e3;simp only[QY]at cb;have HBb:Hid ((w2.drewN m).heap[b]?=some (.cells #[.int .i64 n,.slice none 0 0] 45)):=(HBlk.out _ HBm.out).2.2.1;clear x0 xl xc;go_wp2_with (first
      |(at_builtin;refine wpList_append_own_none rfl _ _ _ rfl (w.heap.size+1) 82 i0 6 aa.underlying43 hi0 (.slice (some ⟨gg,0,none⟩) (0+1) capn) _ _ rfl HOm.out rfl ?_))
     go_end0;refine⟨rfl,.slice (some ⟨gg,0,none⟩) (0+1) capn,?_,?_,?_⟩
     ·rw[heap_set HBb.out];rfl
     ·have:=fU (o:=1) (val:=.slice (some ⟨gg,0,none⟩) (0+1) capn) HOm.out (show b<w.heap.size+1 by omega);rw[Hfl.out,Hln.out];exact bM (by simpa[flatK] using this) (by omega)
     ·exact Fr.setCell (X:=λk=>k=b) (Fr.bR (((AT _ _).alloc (AI _) _).trans (HBm.out.mono (by omega)))) (Or.inr rfl) _
    cases hv;have hg:g<w.heap.size:=(Array.getElem?_eq_some_iff.1 hh).1;have HCells:Hid (∀t u,t<l.length*6->(flatK l)[t]?=some u->w.cell? ⟨g,t,none⟩=some u):=λt u h1 h2=>by
     rw[<-ht,List.getElem?_take,IN h1]at h2;simp only[World.cell?,hh];simpa using h2
    clear hh ht;by_cases hcl:cap=x
    ·have hxl:x=l.length:=by omega
     have hc0:cap-x=0:=by omega
     have hxc:(x:Int)=(cap:Int):=by omega
     subst hcl;go_wp2_with (first
      |(at_builtin;refine wpList_append_own_at _ rfl _ _ _ rfl (w.heap.size+1) 82 i0 _ 6 72 aa.underlying43 hi0 hz0 hz1 hz2 rfl (by omega) (.slice (some ⟨gg,0,none⟩) (h+1) capn) _ _ rfl HOm.out ⟨g,0,none⟩ 0 0 [] rfl rfl (λj u hj=>by simp at hj) (λu hu=>by simp at hu) (by unfold maxLen;omega) (by omega) (by simp;omega) ?_;intro v3 w3 hown3 hgrow3 hnil3 hat3;obtain⟨ad3,cap3,rfl,-,-⟩:=aZ hown3;have HO3:Hid (w3.ownsRow (w.heap.size+1) 82 6 (.slice ad3 (h+1+0) cap3) (h+1+0) (flatK (l.take h)++ [.string nm,.int .i64 (cx 0),.int .i64 (cx 1),.int .i64 (cx 2),.int .i64 (cx 3),.slice av mv cv]++ [])):=hown3;have HB3:Hid (Below (w.heap.size+1) (w.alloc (.cells #[.string nm,.int .i64 (cx 0),.int .i64 (cx 1),.int .i64 (cx 2),.int .i64 (cx 3),.slice av mv cv] 82)) w3):=lk HOm.out HBm.out (by simp;omega) hgrow3;obtain⟨cb3,fb3,hb3,-⟩:=HBlk.out _ HB3.out;have Hb3:Hid _:=hb3;clear hown3 hgrow3 hnil3 hat3 hb3))
     go_end0;refine⟨rfl,.slice ad3 (h+1+0) cap3,?_,?_,?_⟩
     ·rw[heap_set Hb3.out];rfl
     ·have:=fU (o:=1) (val:=.slice ad3 (h+1+0) cap3) HO3.out (show b<w.heap.size+1 by omega);rw[Hfl.out,Hln.out,hxl,HNil.out,Nat.sub_self];exact bM this (by omega)
     ·exact Fr.setCell (X:=λk=>k=b) (Fr.bR (((AT _ _).alloc (AI _) _).trans (HB3.out.mono (by omega)))) (Or.inr rfl) _
    ·have hcl':(x:Int)<(cap:Int):=by omega
     have hcl2: ¬cap-x=0:=by omega
     have HN:Hid (∀j u,(flatK (l.drop x))[j]?=some u->(w2.drewN m).cell? ((⟨g,x*6,none⟩:Addr).add j)=some u):=KG HCells.out hxle HBm.out hg;have HOne:Hid (∀u∈flatK (l.drop x),u.oneCell'=true):=OM λq hq=>HSL.out q (List.mem_of_mem_drop hq);go_wp2_with (first
      |(at_builtin;refine wpList_append_own_at _ rfl _ _ _ rfl (w.heap.size+1) 82 i0 _ 6 72 aa.underlying43 hi0 hz0 hz1 hz2 rfl (by omega) (.slice (some ⟨gg,0,none⟩) (h+1) capn) _ _ rfl HOm.out ⟨g,x*6,none⟩ (l.length-x) (cap-x) (flatK (l.drop x)) rfl (by rw[qc,List.length_drop]) HN.out HOne.out (by unfold maxLen;omega) (by omega) (by simp;omega) ?_;intro v3 w3 hown3 hgrow3 hnil3 hat3;obtain⟨ad3,cap3,rfl,-,-⟩:=aZ hown3;have HO3:Hid (w3.ownsRow (w.heap.size+1) 82 6 (.slice ad3 (h+1+(l.length-x)) cap3) (h+1+((l.length-x))) (flatK (l.take h)++ [.string nm,.int .i64 (cx 0),.int .i64 (cx 1),.int .i64 (cx 2),.int .i64 (cx 3),.slice av mv cv]++(flatK (l.drop x)))):=hown3;have HB3:Hid (Below (w.heap.size+1) (w.alloc (.cells #[.string nm,.int .i64 (cx 0),.int .i64 (cx 1),.int .i64 (cx 2),.int .i64 (cx 3),.slice av mv cv] 82)) w3):=lk HOm.out HBm.out (by simp;omega) hgrow3;obtain⟨cb3,fb3,hb3,-⟩:=HBlk.out _ HB3.out;have Hb3:Hid _:=hb3;clear hown3 hgrow3 hnil3 hat3 hb3))
     go_end0;refine⟨rfl,.slice ad3 (h+1+(l.length-x)) cap3,?_,?_,?_⟩
     ·rw[heap_set Hb3.out];rfl
     ·have:=fU (o:=1) (val:=.slice ad3 (h+1+(l.length-x)) cap3) HO3.out (show b<w.heap.size+1 by omega);rw[Hfl.out,Hln.out];exact bM this (by omega)
     ·exact Fr.setCell (X:=λk=>k=b) (Fr.bR (((AT _ _).alloc (AI _) _).trans (HB3.out.mono (by omega)))) (Or.inr rfl) _
theorem aa.qJ:(aa.prog.info? 9).map (λi=>(i.zero,i.size,i.bytes))=some (some (.string ⟨#[]⟩),1,16):=by kernel_rfl
def iT(q:aC):Nat:=match q.2.2 with
 |.slice _ m _=>m
 |_=>0
def dY(l:List aC):List Value:=(l.filter λq=>decide (0<iT q)).map λq=>.string q.1
theorem Gl(l:List aC)(k:Nat)(h:k<l.length):dY (l.take (k+1))=dY (l.take k)++if 0<iT l[k] then [.string l[k].1] else []:=by
 unfold dY;rw[List.take_add_one,List.getElem?_eq_getElem h];simp only[Option.toList_some,List.filter_append,R6];congr 1;by_cases e:0<iT l[k]<;>simp[e]
theorem KA(l:List aC)(k:Nat):(dY (l.take k)).length<=l.length:=by
 unfold dY;rw[Rb];exact IT (Q4 _ _) (by simp;omega)
theorem KL(b n:Nat)(sv:Value)(l:List aC)(w:World)(h:gk w b n sv l)(hsl:∀q∈l,∃ad m cap,q.2.2=.slice ad m cap/\m<=100000)(hlen:l.length<=1900000000000):
  Calls aa.prog 69 #[.pointer (some ⟨b,0,none⟩)] w λe w'=>∃v',e=.returned v'/\w'.ownsRow w.heap.size 9 1 v' (dY l).length (dY l)/\Below w.heap.size w w':=by
 obtain⟨ad,cap,rfl,hcap,hlc⟩:=aZ h.2;have hbs:b<w.heap.size:=(Array.getElem?_eq_some_iff.1 h.1).1;have H:Hid (pI w (.slice ad l.length cap) l):=h.2;have HC:Hid (∀o,w.cell? ⟨b,o,none⟩=#[Value.int .i64 n,.slice ad l.length cap][o]?):=(aj h.1).1;have HSL:Hid (∀q∈l,∃ad m cap,q.2.2=.slice ad m cap/\m<=100000):=hsl;obtain⟨i0,hi0,hz0,hz1,hz2⟩:=QN aa.qJ;clear h hsl;go_enter aa.func69,aa.ntmps69;go_wp2;go_loopw [3,4] (λlf i wr=>∃k:Nat,k<=l.length/\i=.int .i64 k/\Hid (wr.ownsRow w.heap.size 9 1 lf (dY (l.take k)).length (dY (l.take k)))/\Hid (Below w.heap.size w wr)) (λ_ i _=>l.length-(intOf i).toNat)
 case atStart=>exact⟨0,by omega,rfl,⟨by simp[dY],Or.inl ⟨rfl,by simp[dY]⟩⟩,AT _ _⟩
 case round=>
  obtain⟨k,hk,rfl,hown,hbel⟩:=hrel;have cb:wr.cell? ⟨b,1,none⟩=some (.slice ad l.length cap):=by
   rw[hbel.out.cell (p:=⟨b,1,none⟩) hbs,HC.out];rfl
  have k0:(0:Int)<=(k:Int):=by omega
  have hsz:=hbel.out.size;by_cases hlt:k<l.length
  ·obtain⟨g,cap',hsv',_,_,hg,hcells⟩:=cU H.out (by omega);cases hsv';have hcw:∀j,j<6->wr.cell? ⟨g,k*6+j,none⟩=(dM l[k])[j]? :=λj hj=>by
    have hlt':k*6+j<l.length*6:=by omega
    have hget:(flatK l)[k*6+j]?=some ((dM l[k])[j]'(by simpa[dM] using hj)):=by
     rw[oY l k hlt j hj];simp
    rw[hbel.out.cell (p:=⟨g,k*6+j,none⟩) hg,hcells _ _ hlt' hget];simp
   have c0:wr.cell? ⟨g,k*6,none⟩=some (.string l[k].1):=hcw 0 (by omega);have c5:wr.cell? ⟨g,k*6+5,none⟩=some l[k].2.2:=hcw 5 (by omega);have g63:(k:Int)<(l.length:Int):=by omega
   have HSk: ∃ad m cap,l[k].2.2=.slice ad m cap/\m<=100000:=HSL.out _ (OF hlt);have HS:Hid (dY (l.take (k+1))=dY (l.take k)++if 0<iT l[k] then [.string l[k].1] else []):=Gl l k hlt;have HL:Hid ((dY (l.take k)).length<=l.length):=KA l k;clear hcw hcells;generalize l[k]=q at*;obtain⟨na,cx,vs⟩:=q;obtain⟨av,mv,cv,hvs,hmv⟩:=HSk;simp only at hvs;subst hvs;simp only at c0 c5;by_cases hm:0<mv
   ·have hd:(0:Int)<(mv:Int):=by omega
    have HS':Hid (dY (l.take (k+1))=dY (l.take k)++ [.string na]):=by
     have:=HS.out;rw[IN (show 0<iT (na,cx,.slice av mv cv) from hm)]at this;exact this
    have hul:=HL.out;clear HS HL;go_wp2_with (first
     |(at_builtin;refine QZ _ rfl _ _ _ rfl w.heap.size 9 i0 _ 1 16 aa.underlying27 hi0 hz0 hz1 hz2 rfl (by omega) u3 _ _ rfl (hown.out.alloc _) ⟨wr.heap.size,0,none⟩ 1 1 [.string na] rfl rfl (QJ (cs:=#[.string na]) (t:=9) (fr:=(0,0)) (IS _ _)) (by simp[Value.oneCell']) (by omega) (by unfold maxLen;omega) (by omega) (by simp;omega) (wr.heap.size+1) (by simp) ?_;intro gg capn w2 hown2 hgrow hat hlt2))
    refine⟨⟨k+1,by omega,by go_num,?_,?_⟩,by simp[intOf];omega⟩
    ·rw[HS'.out,Q2];exact hown2
    ·exact kD hown.out hbel.out (by omega) hgrow
   ·have hm0:mv=0:=by omega
    subst hm0;have HS':Hid (dY (l.take (k+1))=dY (l.take k)):=by
     have:=HS.out;rw[By (show ¬0<iT (na,cx,.slice av 0 cv) from by simp[iT]),RX]at this;exact this
    clear HS HL hm;go_wp2;exact⟨⟨k+1,by omega,by go_num,by rw[HS'.out];exact hown,hbel⟩,by simp[intOf];omega⟩
  ·have HK:Hid (List.take k l=l):=RY (by omega);go_wp2;go_ret;refine⟨_,rfl,?_,hbel.out⟩
   have:=hown.out;rw[HK.out]at this;exact this
end Go.Proofs.YtldmcdeibiclkaaGreatQ
section
namespace Go.Proofs
open Go.Shelf Go.RowKit Go.Lib Go.Sort
namespace YtldmcdeibiclkaaGreatQ
def bJ(ss:List (List UInt8)):List Value:=ss.map encStr
def gH(ss:List (List UInt8)):List (List UInt8):=ss.mergeSort λx y=>decide (x<=y)
theorem xM(ss:List (List UInt8)):(gH ss).Perm ss:=List.mergeSort_perm ss _
theorem xN(ss:List (List UInt8)):(gH ss).length=ss.length:=(xM ss).length_eq
theorem D3(blk off cap:Nat)(ss:List (List UInt8))(w:World)(hH:Holds encStr w blk off ss.toArray)(hblk:blk<w.heap.size)(hsz:ss.length<4611686018427387904):
  Calls aa.prog 91 #[.slice (some ⟨blk,off,none⟩) ss.length cap] w λe w'=>e=.returned (.tuple #[])/\∃n os,w'=grow (putRow encStr (Sort.ahead w n) blk off (gH ss).toArray) os:=
 AnyM.slices_Sort_string aa.pC blk off cap ss w hH hblk hsz
theorem Hs(p:Option Addr)(cap:Nat)(w:World):Calls aa.prog 91 #[.slice p 0 cap] w λe w'=>e=.returned (.tuple #[])/\w'=w:=
 AnyM.slices_Sort_string_none aa.pC p cap w
theorem JU(B:Nat)(v:Value)(ss:List (List UInt8))(w:World)(h:w.ownsRow B 9 1 v ss.length (bJ ss))(hsz:ss.length<4611686018427387904):
  Calls aa.prog 91 #[v] w λe w'=>e=.returned (.tuple #[])/\w'.ownsRow B 9 1 v ss.length (bJ (gH ss))/\w.grownBy w' v.ownBlock:=by
 obtain⟨h1,h2⟩:=h;rcases h2 with⟨rfl,h2⟩|⟨g,cap,cur,rfl,hg,hh,hnc,hc,hs,ht⟩
 ·obtain rfl:ss= []:=R5 h2;have e0:bJ (gH [])= []:=by simp[bJ,gH]
  exact (Hs none 0 w).mono λe w' ⟨he,hw⟩=>⟨he,by rw[hw,e0];exact QT _ _ _ _,by rw[hw];exact⟨rfl,rfl,rfl,AI _,λ_ _ _=>rfl⟩⟩
 have hglt:g<w.heap.size:=(Array.getElem?_eq_some_iff.1 hh).1;have hH:Holds encStr w g 0 ss.toArray:=by
  intro j hj;have hj':j<ss.length:=by simpa using hj
  refine⟨?_,by simp[World.frozen?,hh]⟩;have e1:(bJ ss)[j]?=some (encStr ss[j]):=by simp[bJ,hj']
  rw[<-ht,List.getElem?_take,IN (by omega)]at e1;simp only[World.cell?,hh,Nat.zero_add];rw[getElem!_pos _ j hj];simpa using e1
 refine (D3 g 0 cap ss w hH hglt hsz).mono ?_;rintro e w' ⟨rfl,n,os,rfl⟩;have hlen:=xN ss;refine⟨rfl,?_,?_⟩
 ·have hb:(grow (putRow encStr (Sort.ahead w n) g 0 (gH ss).toArray) os).heap[g]?=some (.cells (putCells encStr 0 (gH ss).toArray cur) 9 (0,0)):=by
   rw[heap_grow_old _ _ (by simpa[putRow,mapBlock,Sort.ahead] using hglt)];simp[putRow,mapBlock,Sort.ahead,Array.getElem?_modify,hh,onCells]
  refine⟨by simp[bJ,hlen],Or.inr ⟨g,cap,_,rfl,hg,hb,hnc,hc,by simp[putCells,hs],?_⟩⟩;apply List.ext_getElem?;intro t;by_cases htl:t<ss.length
  ·rw[List.getElem?_take,IN (by omega),Array.getElem?_toList];have hC:t<cur.size:=by rw[hs];omega
   have hT:t<(gH ss).length:=by omega
   simp only[putCells,Array.getElem?_mapIdx,Array.getElem?_eq_getElem hC,Q7];rw[IN ⟨by omega,by simp;omega⟩];simp only[bJ,List.getElem?_map,List.getElem?_eq_getElem hT,Q7,Nat.sub_zero];rw[getElem!_pos _ t (by simpa using hT)];simp
  ·rw[List.getElem?_eq_none (by simp;omega),List.getElem?_eq_none (by simp[bJ];omega)]
 ·refine⟨rfl,rfl,rfl,by simp[putRow,mapBlock,Sort.ahead],λk hk hne=>?_⟩;rw[heap_grow_old _ _ (by simp[putRow,mapBlock,Sort.ahead];omega)];simp only[putRow,mapBlock,Sort.ahead,Array.getElem?_modify];rw[By (λe=>hne (by subst e;rfl))]
end YtldmcdeibiclkaaGreatQ
end Go.Proofs
end
namespace Go.Proofs.YtldmcdeibiclkaaGreatQ
variable {w:World}{v sv:Value}{xs:List Value}{g b:Nat}{A:Array Value}{t:TypeId}{l:List ax}
open Go.RowKit
theorem BV(w:World)(X Y Z:Obj):(((w.alloc X).alloc Y).alloc Z).heap[w.heap.size+1+1]?=some Z:=by
 simpa using IS ((w.alloc X).alloc Y) Z
theorem G5(w:World)(X Y Z:Obj):(((w.alloc X).alloc Y).alloc Z).heap[w.heap.size]?=some X:=by
 rw[Qx _ _ _ (by simp;omega),Qx _ _ _ (by simp)];exact IS w X
theorem uy{base:Nat}{e:TypeId}{size:Nat}{n:Nat}(h:w.ownsRow base e size v n xs)(hg:v.ownBlock=some g):base<=g/\g<w.heap.size:=by
 rcases h.2 with⟨h1,_⟩|⟨g',cap,cur,hv,hb,hh,_⟩
 ·rw[h1]at hg;cases hg
 ·rw[hv]at hg;have:g'=g:=by simpa[Value.ownBlock] using hg
  subst this;exact⟨hb,(Array.getElem?_eq_some_iff.1 hh).1⟩
theorem zt{w3 w4:World}{v3:Value}{X:Obj}(hb:w.heap[b]?=some X)(h3:w.grownBy w3 v.ownBlock)(h4:w3.grownBy w4 v3.ownBlock)(n3:some b≠v.ownBlock)(n4:some b≠v3.ownBlock):w4.heap[b]?=some X:=by
 have hlt:=(Array.getElem?_eq_some_iff.1 hb).1;rw[h4.block b (QL hlt h3.size) n4,h3.block b hlt n3,hb]
theorem C1{w1:World}{B C:Array Value}{ta tb tc:TypeId}(hb:Below (w.heap.size+3) (((w.alloc (.cells A ta)).alloc (.cells B tb)).alloc (.cells C tc)) w1):
  w1.heap[w.heap.size+1+1]?=some (.cells C tc):=by
 rw[hb.block _ (by omega)];exact BV w _ _ _
theorem Az(h:w.heap[b]?=some (.cells A t)):(∀o,w.cell? ⟨b,o,none⟩=A[o]?)/\(∀o,w.frozen? ⟨b,o,none⟩=false):=
 ⟨λo=>by simp[World.cell?,h],λo=>by simp[World.frozen?,h]⟩
theorem Dd(c:Ctx)(sv:Value)(l:List ax)(rep:Nat)(val:ByteArray)(seen:Ctx)(w:World)(h:aM w sv l)(hr:∀v∈l,v.rep<4)(hlen:l.length<=100000)(hrep:rep<4)(hn:(ak l seen).length<20)(h0:0<=al c seen rep)(h1:al c seen rep<1000000):
  Calls aa.prog 33 #[bw c sv,.int .i64 rep,.string val,aG seen] w λe w'=>∃v' l',e=.returned (.tuple #[bw (bump (al c seen) rep) v',.int .i64 0])/\l'.Perm (ak l seen++ [(rep,al c seen rep+1,val)])/\l'.Pairwise (λa b=>cd b a=false)/\w'.ownsRow w.heap.size 117 3 v' l'.length (aw l')/\Below w.heap.size w w':=by
 obtain⟨ad,cap,rfl,hcap⟩:=h.len;have H3:Hid (∀a b d,aM (((w.alloc a).alloc b).alloc d) (.slice ad l.length cap) l):=λa b d=>((QW h a).alloc b).alloc d;have HR:Hid _:=hr;clear h hr;generalize hun:ak l seen=U at*;have HU:Hid _:=hun;clear hun;go_enter aa.func33,aa.ntmps33;obtain⟨i0,hi0,hz0,hz1,hz2⟩:=QN aa.xD;rcases cE hrep with rfl|rfl|rfl|rfl
 all_goals
  go_wp2_with (first
   |(go_at_call 59;refine (oB c _ l seen _ (H3.out _ _ _) HR.out hlen).mono ?_;rintro e w1 ⟨v',rfl,hown,hb⟩;rw[HU.out]at hown;obtain⟨ad',cap',hv'⟩:=lB hown;subst hv';simp at hb;obtain⟨b0,b1,b2,f0,f1,f2⟩:=jj hb;have HO:Hid _:=bM hown (show w.heap.size+3<=_ by simp);have HB:Hid _:=hb;clear hown hb)
   |(go_at_call 60;refine (qH c seen _).mono ?_;rintro e w2 ⟨rfl,hb2⟩;have hb3:=HB.out.trans (hb2.mono (by have:=HB.out.size;simp at this;omega));obtain⟨b0,b1,b2,f0,f1,f2⟩:=jj hb3;have HB3:Hid _:=hb3;have HO2:Hid (w2.ownsRow (w.heap.size+3) 117 3 (.slice ad' U.length cap') U.length (aw U)):=cy HO.out hb2 (AI _);have z2:w.heap.size+1+1<w2.heap.size:=(by have:=hb3.size;simp at this;omega);clear hb3 hb2)
   |(at_builtin;refine QZ _ rfl _ _ _ rfl (w.heap.size+3) 117 i0 _ 3 32 aa.underlying72 hi0 hz0 hz1 hz2 rfl (by omega) (.slice ad' U.length cap') _ _ rfl (((HO2.out.alloc _).alloc _).alloc _) ⟨w2.heap.size+1+1,0,none⟩ 1 1 [.int .i64 _,.int .i64 (al c seen _+1),.string val] rfl rfl (QJ (cs:=#[.int .i64 _,.int .i64 (al c seen _+1),.string val]) (t:=117) (fr:=(0,0)) (BV w2 _ _ _)) (by simp[Value.oneCell']) (by omega) (by unfold maxLen;omega) (by omega) (by simp;omega) (w2.heap.size+1+1+1) (by simp) ?_;intro g capn w3 hown3 hgrow3 hat3 hlt3;have HW3:Hid _:=hown3;have HG3:Hid _:=hgrow3;have HA3:Hid _:=hat3;clear hown3 hgrow3 hat3)
   |(go_at_call 61;refine (I1 (w.heap.size+3) _ (U++ [(_,al c seen _+1,val)]) _ (by have:=HW3.out;rw[Q2,oV];exact this) (by simp) (by simp;omega)).mono ?_;rintro e w4 ⟨rfl,l',hperm,hsort,hown4,hgrow4⟩;have hnr:∀b,b<=w2.heap.size->(b<w.heap.size+3\/b=w2.heap.size)->some b≠(Value.slice ad' U.length cap').ownBlock/\some b≠some g:=(λb hb hb'=>by
     have key:∀q,(Value.slice ad' U.length cap').ownBlock=some q->b≠q:=λq hq=>by have:=uy HO2.out hq;omega
     refine⟨λe=>key b e.symm rfl,λe=>?_⟩;rcases HA3.out with h|h
     ·exact key g h (by simpa using e)
     ·have:b=g:=by simpa using e
      omega);obtain⟨c4,_⟩:=Az (zt (G5 w2 _ _ _) HG3.out hgrow4 (hnr _ (AI _) (Or.inr rfl)).1 (hnr _ (AI _) (Or.inr rfl)).2);obtain⟨r4,fr4⟩:=Az (zt (w:=((w2.alloc _).alloc _).alloc _) (b:=w.heap.size+1+1) (by rw[Qx _ _ _ (by simp;omega),Qx _ _ _ (by simp;omega),Qx _ _ _ z2];exact C1 HB3.out) HG3.out hgrow4 (hnr _ (by omega) (Or.inl (by omega))).1 (hnr _ (by omega) (Or.inl (by omega))).2);have HN4:Hid _:=hown4;have HG4:Hid _:=hgrow4;have HP:Hid _:=hperm;have HS:Hid _:=hsort;clear hown4 hgrow4 hperm hsort hnr))
  refine Q1 (v:=.tuple #[bw (bump (al c seen) _) (.slice (some ⟨g,0,none⟩) (U.length+1) capn),.int .i64 0]) ?_ rfl ⟨_,l',rfl,HP.out,HS.out,?_,?_⟩
  ·simp[results,aa.results33,go_sem,bump,r4]
  ·exact bM (Q3 (Q3 (Q3 (Q3 (Q3 HN4.out (by simp) _) (by simp) _) (by simp) _) (by simp) _) (by simp) _) (by omega)
  ·have base:Below w.heap.size w w2:=(((AT _ _).alloc (AI _) _).alloc (by simp) _).alloc (by simp;omega) _|>.trans (HB3.out.mono (by omega));have base3:Below w.heap.size w w3:=(((base.alloc (by omega) _).alloc (by simp;omega) _).alloc (by simp;omega) _).grown HG3.out (by simp;omega) (λq hq=>by have:=uy HO2.out hq;omega);have base4:Below w.heap.size w w4:=base3.grown HG4.out base3.size (λq hq=>by have:=uy HW3.out hq;omega);repeat' (with_reducible (first|exact base4|refine QE ?_ ?_ _|refine Qz ?_ ?_ _))
   all_goals (first|omega|(simp;omega))
theorem ub(b num:Nat)(bm:Nat->Nat)(K:aB)(key val:ByteArray)(seen:Ctx)(w:World)(h:ba w b bm num K)(hK:kl K)(hkey:aK key=true)(hks:key.size<=8)(hvs:val.size<=12)(hseen:bn seen=true)(hnum:num<4)(hn:20<=(ak (K key).2 seen).length\/(ak (K key).2 seen).length<20/\1000000<=al (K key).1 seen num):
  Calls aa.prog 13 #[.pointer (some ⟨b,0,none⟩),.string key,.string val,aG seen] w λe w'=>e=.returned (.int .i64 6)/\Below w.heap.size w w':=by
 have hb:=h.1;obtain⟨es,clock,hm,hk,hall,_⟩:=h.2.1 _ (gR key);obtain⟨sv,hent,hvs0⟩:=hall key rfl;obtain⟨ad,cap,rfl,hcap⟩:=hvs0.len;have hlk:∀W:World,W.heap[bm (aI key)]?=some (.map es clock)->(Instr.lookup 63 (.map (some (bm (aI key)))) (.string key) false).run aa.prog W=.ok (bw (K key).1 (.slice ad (K key).2.length cap)) W:=λW hW=>by
  rw[l8 W _ es clock key hW hk,hent]
 have HSeg:Hid (∀W,cY W b bm num->Calls aa.prog 32 #[.pointer (some ⟨b,0,none⟩),.string key] W λe w'=>e=.returned (.map (some (bm (aI key))))/\Below W.heap.size W w'/\w'.heap.size=W.heap.size):=λW hW=>qa b num bm key W (by unfold maxLen;omega) hW;have hbc0:w.cell? ⟨b,0,none⟩=some (.int .i64 num):=hb.num;have HBlk:Hid (∀W,Below w.heap.size w W->cY W b bm num):=λW hW=>(h.below hW).1;have HL:Hid ((K key).2.length<=100000):=IT (hK key).2.1 (by decide);have HR:Hid (∀v∈(K key).2,v.rep<4):=(hK key).1;generalize (K key).1=c at*;generalize (K key).2=l at*;have HV:Hid _:=hvs0;have HN:Hid _:=hn;have HCK:Hid _:=iz key;have HCV:Hid _:=qo val;have HSO:Hid _:=mH seen;have hvd:decide (val.size<=12)=true:=by simpa using hvs
 clear hvs0 hall hent hK hn h;generalize hbms:bm (aI key)=bms at*;have HBMS:Hid _:=hbms;clear hbms;go_enter aa.func13,aa.ntmps13;go_wp2_with (first
  |(go_at_call 29;refine (HCK.out _ (by unfold maxLen;omega)).mono ?_;rw[hkey];rintro e w1 ⟨rfl,rfl⟩)
  |(go_at_call 30;refine (HCV.out _ (by unfold maxLen;omega)).mono ?_;rw[hvd];rintro e w1 ⟨rfl,rfl⟩)
  |(go_at_call 31;refine (HSO.out _).mono ?_;rw[hseen];rintro e w2 ⟨rfl,hb2⟩;obtain⟨c2,hB2,hz2⟩:=me hb2;clear hb2))
 have hmk:Hid (∀w',Below w2.heap.size w2 w'->cY w' b bm num/\w'.cell? ⟨b,0,none⟩=some (.int .i64 num)/\(Instr.lookup 63 (.map (some bms)) (.string key) false).run aa.prog w'=.ok (bw c (.slice ad l.length cap)) w'/\aM w' (.slice ad l.length cap) l/\w'.cell? ⟨w.heap.size+1,0,none⟩=some (.int .i64 (seen 0))/\w'.cell? ⟨w.heap.size+1,1,none⟩=some (.int .i64 (seen 1))/\w'.cell? ⟨w.heap.size+1,2,none⟩=some (.int .i64 (seen 2))/\w'.cell? ⟨w.heap.size+1,3,none⟩=some (.int .i64 (seen 3))):=λw' hw=>
  ⟨HBlk.out _ (cI hB2 hw),aD (aD hbc0 hB2) hw,hlk w' (dw (dw hm hB2) hw),(aM.below HV.out hB2).below hw,aD (c2 0) hw,aD (c2 1) hw,aD (c2 2) hw,aD (c2 3) hw⟩
 have HB2:Hid _:=hB2;clear hB2 c2 hlk;go_region_held3 (λw'=>cY w' b bm num/\w'.cell? ⟨b,0,none⟩=some (.int .i64 num)/\(Instr.lookup 63 (.map (some bms)) (.string key) false).run aa.prog w'=.ok (bw c (.slice ad l.length cap)) w'/\aM w' (.slice ad l.length cap) l/\w'.cell? ⟨w.heap.size+1,0,none⟩=some (.int .i64 (seen 0))/\w'.cell? ⟨w.heap.size+1,1,none⟩=some (.int .i64 (seen 1))/\w'.cell? ⟨w.heap.size+1,2,none⟩=some (.int .i64 (seen 2))/\w'.cell? ⟨w.heap.size+1,3,none⟩=some (.int .i64 (seen 3)))
  ((refine hmk.out _ ?_;first|(simp (maxDischargeDepth:=12) [AT,Qy,Qz,QE];done)|(simp (maxDischargeDepth:=12) [AT,Qy,Qz,QE,B3,y3];done)|(simp (maxDischargeDepth:=12) [AT,Qy,Qz,QE,B6,y6];done)|(simp (maxDischargeDepth:=12) [AT,Qy,Qz,QE,B4,y4,y3,y6];done)))
  (first
   |(go_at_call 32;refine BY (HSeg.out _ (by go_split_ands;assumption)) ?_;rintro e w6 ⟨rfl,hb6,z6⟩;obtain⟨s1,s2⟩:=iK hb6;(try simp only[RL,cA]at z6);have B6:Below w2.heap.size w2 w6:=fL hb6 (by first|(simp (maxDischargeDepth:=12) [AT,Qy,Qz];done)|(simp (maxDischargeDepth:=12) [AT,Qy,Qz,B3,y3];done));have y6:=B6.size;(try (have x6:w2.heap.size<w6.heap.size:=by omega));(try (have x6':w3.heap.size<w6.heap.size:=by omega));clear hb6)
   |(go_at_call 34;refine (nN val _ (by omega)).mono ?_;rintro e w3 ⟨rfl,hb3⟩;obtain⟨q1,q2⟩:=iK hb3;have B3:Below w2.heap.size w2 w3:=fL hb3 (by first|(simp (maxDischargeDepth:=12) [AT,Qy,Qz];done)|(simp (maxDischargeDepth:=12) [AT,Qy,Qz,B6,y6];done));have y3:=B3.size;have z3:=hb3.size;(try simp only[RL,cA]at z3);(try (have x3:w2.heap.size<w3.heap.size:=by omega));(try (have x3':w6.heap.size<w3.heap.size:=by omega));clear hb3)
   |(go_at_call 33;refine (CN c _ l num val seen _ (by go_split_ands;assumption) HR.out HL.out hnum HN.out).mono ?_;rintro e w4 ⟨rfl,hb4⟩;obtain⟨p1,p2⟩:=iK hb4;have B4:Below w2.heap.size w2 w4:=fL hb4 (by first|(simp (maxDischargeDepth:=12) [AT,Qy,Qz,B3,y3];done)|(simp (maxDischargeDepth:=12) [AT,Qy,Qz,B6,y6];done));have y4:=B4.size;clear hb4))
 all_goals
  go_wp2_with (go_at_call 35;go_must (refine (vc b key (λ_=>0) (.slice none 0 0) 6 _ (by decide)).mono ?_);rintro e w5 ⟨rfl,hb5⟩;have B5:Below w2.heap.size w2 w5:=fL hb5 (by simp (maxDischargeDepth:=12) [AT,Qy,Qz,QE,B4,y4,y3,y6]);clear hb5)
  go_ret;exact⟨rfl,cI HB2.out B5⟩
theorem Pk(n:Int)(w:World)(hn:n<0\/3<n):
  Calls aa.prog 11 #[.int .i64 n] w λe w'=>e=.returned (.tuple #[.pointer none,.int .i64 1])/\w'=w:=by
 rcases hn with hn|hn
 ·go_enter aa.func11,aa.ntmps11;go_wp2;go_ret2;exact⟨rfl,rfl⟩
 ·have h0:0<=n:=by omega
  have h4:4<=n:=by omega
  go_enter aa.func11,aa.ntmps11;go_wp2;go_ret2;exact⟨rfl,rfl⟩
theorem Iu(b:Nat)(key:ByteArray)(w:World)(hkey:aK key=false)(hks:key.size<=maxLen):
  Calls aa.prog 66 #[.pointer (some ⟨b,0,none⟩),.string key] w λe w'=>e=.returned (.tuple #[.slice none 0 0,aG λ_=>0,.int .i64 2])/\Below w.heap.size w w':=by
 have HCK:Hid _:=iz key;go_enter aa.func66,aa.ntmps66;go_wp2_with (go_at_call 29;refine (HCK.out _ hks).mono ?_;rw[hkey];rintro e w1 ⟨rfl,rfl⟩)
 refine Q1 (v:=.tuple #[.slice none 0 0,aG λ_=>0,.int .i64 2]) ?_ rfl ⟨rfl,?_⟩
 ·simp[results,aa.results66,go_sem]
 ·simp (maxDischargeDepth:=12) [AT,Qy,Qz,QE]
theorem Dx(b:Nat)(key val:ByteArray)(seen:Ctx)(w:World)(hkey:aK key=false)(hks:key.size<=maxLen):
  Calls aa.prog 13 #[.pointer (some ⟨b,0,none⟩),.string key,.string val,aG seen] w λe w'=>e=.returned (.int .i64 2)/\Below w.heap.size w w':=by
 have HCK:Hid _:=iz key;go_enter aa.func13,aa.ntmps13;go_wp2_with (go_at_call 29;refine (HCK.out _ hks).mono ?_;rw[hkey];rintro e w1 ⟨rfl,rfl⟩)
 go_ret;exact⟨rfl,((AT _ _).alloc (AI _) _).alloc (by simp) _⟩
theorem OI(b:Nat)(key val:ByteArray)(seen:Ctx)(w:World)(hkey:aK key=true)(hks:key.size<=maxLen)(hvs:val.size<=maxLen)(hv:12<val.size):
  Calls aa.prog 13 #[.pointer (some ⟨b,0,none⟩),.string key,.string val,aG seen] w λe w'=>e=.returned (.int .i64 3)/\Below w.heap.size w w':=by
 have HCK:Hid _:=iz key;have HCV:Hid (∀W,Calls aa.prog 30 #[.string val] W λe w'=>e=.returned (.bool false)/\w'=W):=λW=>by
  have:=qo val W hvs;rw[show decide (val.size<=12)=false from Rs (by omega)]at this;exact this
 go_enter aa.func13,aa.ntmps13;go_wp2_with (first
  |(go_at_call 29;refine (HCK.out _ hks).mono ?_;rw[hkey];rintro e w1 ⟨rfl,rfl⟩)
  |(go_at_call 30;refine (HCV.out _).mono ?_;rintro e w1 ⟨rfl,rfl⟩))
 go_ret;exact⟨rfl,((AT _ _).alloc (AI _) _).alloc (by simp) _⟩
theorem Ef(b:Nat)(key val:ByteArray)(seen:Ctx)(w:World)(hkey:aK key=true)(hks:key.size<=maxLen)(hv:val.size<=12)(hsd:bn seen=false):
  Calls aa.prog 13 #[.pointer (some ⟨b,0,none⟩),.string key,.string val,aG seen] w λe w'=>e=.returned (.int .i64 4)/\Below w.heap.size w w':=by
 have HCK:Hid _:=iz key;have HSO:Hid _:=mH seen;have HCV:Hid (∀W,Calls aa.prog 30 #[.string val] W λe w'=>e=.returned (.bool true)/\w'=W):=λW=>by
  have:=qo val W (by unfold maxLen;omega);rw[show decide (val.size<=12)=true from decide_eq_true hv]at this;exact this
 go_enter aa.func13,aa.ntmps13;go_wp2_with (first
  |(go_at_call 29;refine (HCK.out _ hks).mono ?_;rw[hkey];rintro e w1 ⟨rfl,rfl⟩)
  |(go_at_call 30;refine (HCV.out _).mono ?_;rintro e w1 ⟨rfl,rfl⟩)
  |(go_at_call 31;refine (HSO.out _).mono ?_;rw[hsd];rintro e w2 ⟨rfl,hb2⟩;obtain⟨c2,hB2,hz2⟩:=me hb2;clear hb2))
 go_ret;exact⟨rfl,hB2⟩
theorem Eo(b:Nat)(key:ByteArray)(seen:Ctx)(w:World)(hkey:aK key=false)(hks:key.size<=maxLen):
  Calls aa.prog 15 #[.pointer (some ⟨b,0,none⟩),.string key,aG seen] w λe w'=>e=.returned (.int .i64 2)/\Below w.heap.size w w':=by
 have HCK:Hid _:=iz key;go_enter aa.func15,aa.ntmps15;go_wp2_with (go_at_call 29;refine (HCK.out _ hks).mono ?_;rw[hkey];rintro e w1 ⟨rfl,rfl⟩)
 go_ret;exact⟨rfl,((AT _ _).alloc (AI _) _).alloc (by simp) _⟩
theorem FA(b:Nat)(key:ByteArray)(seen:Ctx)(w:World)(hkey:aK key=true)(hks:key.size<=maxLen)(hsd:bn seen=false):
  Calls aa.prog 15 #[.pointer (some ⟨b,0,none⟩),.string key,aG seen] w λe w'=>e=.returned (.int .i64 4)/\Below w.heap.size w w':=by
 have HCK:Hid _:=iz key;have HSO:Hid _:=mH seen;go_enter aa.func15,aa.ntmps15;go_wp2_with (first
  |(go_at_call 29;refine (HCK.out _ hks).mono ?_;rw[hkey];rintro e w1 ⟨rfl,rfl⟩)
  |(go_at_call 31;refine (HSO.out _).mono ?_;rw[hsd];rintro e w2 ⟨rfl,hb2⟩;obtain⟨c2,hB2,hz2⟩:=me hb2;clear hb2))
 go_ret;exact⟨rfl,hB2⟩
def NR(sv:Value)(g:Nat):Prop:=∀a l c,sv=.slice (some a) l c->a.block≠g
theorem J3{B n size:Nat}(h:w.ownsRow B t size v n xs):∀g,g<B->NR v g:=by
 intro g hg a l c hv e;rcases h.2 with h2|⟨g',cap,cur,hv',hg',_⟩
 ·rw[h2.1]at hv;cases hv
 ·rw[hv']at hv;cases hv;simp at e;omega
theorem K2(h:aM w sv l)(X:Obj):aM (w.alloc X) sv l:=QW h X
theorem uC{o:Nat}(h:aM w sv l)(hn:NR sv g):aM (w.setCell ⟨g,o,none⟩ v) sv l:=by
 obtain⟨h1,h2⟩:=h;refine⟨h1,?_⟩;rcases h2 with h2|⟨g',cap,cur,hv,hg,hh,r⟩
 ·exact Or.inl h2
 ·refine Or.inr ⟨g',cap,cur,hv,hg,?_,r⟩;rw[Re _ _ _ _ (hn _ _ _ hv)];exact hh
theorem Ip(b num:Nat)(bm:Nat->Nat)(K:aB)(key val:ByteArray)(seen:Ctx)(w:World)(h:ba w b bm num K)(hK:kl K)(hkey:aK key=true)(hks:key.size<=8)(hvs:val.size<=12)(hseen:bn seen=true)(hnum:num<4)(hn:(ak (K key).2 seen).length<20)(h0:0<=al (K key).1 seen num)(h1:al (K key).1 seen num<1000000):
  Calls aa.prog 13 #[.pointer (some ⟨b,0,none⟩),.string key,.string val,aG seen] w λe w'=>e=.returned (.int .i64 0)/\∃l',l'.Perm (ak (K key).2 seen++ [(num,al (K key).1 seen num+1,val)])/\l'.Pairwise (λa b=>cd b a=false)/\ba w' b bm num (ez K key (bump (al (K key).1 seen) num,l'))/\w.grownBy w' (some (bm (aI key))):=by
 have hb:=h.1;have HRep:Hid (ba w b bm num K):=h;obtain⟨es,clock,hm,hk,hall,_⟩:=h.2.1 _ (gR key);obtain⟨sv,hent,hvs0⟩:=hall key rfl;obtain⟨ad,cap,rfl,hcap⟩:=hvs0.len;have hlk:∀W:World,W.heap[bm (aI key)]?=some (.map es clock)->(Instr.lookup 63 (.map (some (bm (aI key)))) (.string key) false).run aa.prog W=.ok (bw (K key).1 (.slice ad (K key).2.length cap)) W:=λW hW=>by
  rw[l8 W _ es clock key hW hk,hent]
 have HSeg:Hid (∀W,cY W b bm num->Calls aa.prog 32 #[.pointer (some ⟨b,0,none⟩),.string key] W λe w'=>e=.returned (.map (some (bm (aI key))))/\Below W.heap.size W w'/\w'.heap.size=W.heap.size):=λW hW=>qa b num bm key W (by unfold maxLen;omega) hW;have hbc0:w.cell? ⟨b,0,none⟩=some (.int .i64 num):=hb.num;have HBlk:Hid (∀W,Below w.heap.size w W->cY W b bm num):=λW hW=>(h.below hW).1;have HL:Hid ((K key).2.length<=100000):=IT (hK key).2.1 (by decide);have HR:Hid (∀v∈(K key).2,v.rep<4):=(hK key).1;generalize (K key).1=c at*;generalize (K key).2=l at*;have HV:Hid _:=hvs0;have HN:Hid _:=And.intro hn (And.intro h0 h1);have HKn:Hid (eE (bump (al c seen) num)):=(show eE (bump (al c seen) num) from⟨num,hnum,by simp only[bump,QD];omega⟩)
 have HCK:Hid _:=iz key;have HCV:Hid _:=qo val;have HSO:Hid _:=mH seen;have hvd:decide (val.size<=12)=true:=by simpa using hvs
 clear hvs0 hall hent hK hn h0 h1 h;generalize hbms:bm (aI key)=bms at*;have HBMS:Hid _:=hbms;clear hbms;go_enter aa.func13,aa.ntmps13;go_wp2_with (first
  |(go_at_call 29;refine (HCK.out _ (by unfold maxLen;omega)).mono ?_;rw[hkey];rintro e w1 ⟨rfl,rfl⟩)
  |(go_at_call 30;refine (HCV.out _ (by unfold maxLen;omega)).mono ?_;rw[hvd];rintro e w1 ⟨rfl,rfl⟩)
  |(go_at_call 31;refine (HSO.out _).mono ?_;rw[hseen];rintro e w2 ⟨rfl,hb2⟩;obtain⟨c2,hB2,hz2⟩:=me hb2;clear hb2))
 have hmk:Hid (∀w',Below w2.heap.size w2 w'->cY w' b bm num/\w'.cell? ⟨b,0,none⟩=some (.int .i64 num)/\(Instr.lookup 63 (.map (some bms)) (.string key) false).run aa.prog w'=.ok (bw c (.slice ad l.length cap)) w'/\aM w' (.slice ad l.length cap) l/\w'.cell? ⟨w.heap.size+1,0,none⟩=some (.int .i64 (seen 0))/\w'.cell? ⟨w.heap.size+1,1,none⟩=some (.int .i64 (seen 1))/\w'.cell? ⟨w.heap.size+1,2,none⟩=some (.int .i64 (seen 2))/\w'.cell? ⟨w.heap.size+1,3,none⟩=some (.int .i64 (seen 3))):=λw' hw=>
  ⟨HBlk.out _ (cI hB2 hw),aD (aD hbc0 hB2) hw,hlk w' (dw (dw hm hB2) hw),(aM.below HV.out hB2).below hw,aD (c2 0) hw,aD (c2 1) hw,aD (c2 2) hw,aD (c2 3) hw⟩
 have HB2:Hid _:=hB2;clear hB2 c2 hlk;go_region_held3 (λw'=>cY w' b bm num/\w'.cell? ⟨b,0,none⟩=some (.int .i64 num)/\(Instr.lookup 63 (.map (some bms)) (.string key) false).run aa.prog w'=.ok (bw c (.slice ad l.length cap)) w'/\aM w' (.slice ad l.length cap) l/\w'.cell? ⟨w.heap.size+1,0,none⟩=some (.int .i64 (seen 0))/\w'.cell? ⟨w.heap.size+1,1,none⟩=some (.int .i64 (seen 1))/\w'.cell? ⟨w.heap.size+1,2,none⟩=some (.int .i64 (seen 2))/\w'.cell? ⟨w.heap.size+1,3,none⟩=some (.int .i64 (seen 3)))
  ((refine hmk.out _ ?_;first|(simp (maxDischargeDepth:=12) [AT,Qy,Qz,QE];done)|(simp (maxDischargeDepth:=12) [AT,Qy,Qz,QE,B3,y3];done)|(simp (maxDischargeDepth:=12) [AT,Qy,Qz,QE,B6,y6];done)|(simp (maxDischargeDepth:=12) [AT,Qy,Qz,QE,B4,y4,y3,y6];done)))
  (first
   |(go_at_call 32;refine BY (HSeg.out _ (by go_split_ands;assumption)) ?_;rintro e w6 ⟨rfl,hb6,z6⟩;obtain⟨s1,s2⟩:=iK hb6;(try simp only[RL,cA]at z6);have B6:Below w2.heap.size w2 w6:=fL hb6 (by first|(simp (maxDischargeDepth:=12) [AT,Qy,Qz];done)|(simp (maxDischargeDepth:=12) [AT,Qy,Qz,B3,y3];done));have y6:=B6.size;(try (have x6:w2.heap.size<w6.heap.size:=by omega));(try (have x6':w3.heap.size<w6.heap.size:=by omega));clear hb6)
   |(go_at_call 34;refine (nN val _ (by omega)).mono ?_;rintro e w3 ⟨rfl,hb3⟩;obtain⟨q1,q2⟩:=iK hb3;have B3:Below w2.heap.size w2 w3:=fL hb3 (by first|(simp (maxDischargeDepth:=12) [AT,Qy,Qz];done)|(simp (maxDischargeDepth:=12) [AT,Qy,Qz,B6,y6];done));have y3:=B3.size;have z3:=hb3.size;(try simp only[RL,cA]at z3);(try (have x3:w2.heap.size<w3.heap.size:=by omega));(try (have x3':w6.heap.size<w3.heap.size:=by omega));clear hb3)
   |(go_at_call 33;refine (Dd c _ l num val seen _ (by go_split_ands;assumption) HR.out HL.out hnum HN.out.1 HN.out.2.1 HN.out.2.2).mono ?_;rintro e w4 ⟨v',l',rfl,hperm,hsort,hown,hb4⟩;obtain⟨ad',cap',hv'⟩:=lB hown;subst hv';have V4:=aM.tI hown;have N4:=J3 hown;(try simp only[RL,cA]at N4);(try (have n2:=N4 w2.heap.size (by omega)));(try (have n3:=N4 w3.heap.size (by omega)));(try (have n6:=N4 w6.heap.size (by omega)));clear N4;obtain⟨p1,p2⟩:=iK hb4;have B4:Below w2.heap.size w2 w4:=fL hb4 (by first|(simp (maxDischargeDepth:=12) [AT,Qy,Qz,B3,y3];done)|(simp (maxDischargeDepth:=12) [AT,Qy,Qz,B6,y6];done));have y4:=B4.size;have HP:Hid _:=hperm;have HS:Hid _:=hsort;clear hown hb4 hperm hsort))
 all_goals
  go_wp2_with (go_at_call 35;go_must (refine (yW b num bm K key (bump (al c seen) num) _ l' _ ⟨by omega,hkey⟩ HKn.out (ba.below HRep.out (cI HB2.out (by simp (maxDischargeDepth:=12) [AT,Qy,Qz,QE,B4,y4,y3,y6]))) (by first|(simp[K2,V4];done)|(simp (maxDischargeDepth:=12) [uC,V4,n2];done)|(simp (maxDischargeDepth:=12) [uC,V4,n3];done)|(simp (maxDischargeDepth:=12) [uC,V4,n6];done))).mono ?_);rintro e w5 ⟨rfl,hrep5,hg5⟩;have B5:=qm (w:=w2) (by simp (maxDischargeDepth:=12) [AT,Qy,Qz,QE,B4,y4,y3,y6]) hg5;have HR5:Hid _:=hrep5;clear hrep5 hg5)
  go_ret;exact⟨rfl,l',HP.out,HS.out,HR5.out,by have g:=qm HB2.out B5;rw[HBMS.out]at g;exact g⟩
end Go.Proofs.YtldmcdeibiclkaaGreatQ
