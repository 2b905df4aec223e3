/-
  Toward summed_holds: Contract: keepTexts: a list of texts is written full with a mark of its own, lengthened ei
-/
import Derived.Test.YtldmcdeibiclkaaGreatC22
import Derived.Test.YtldmcdeibiclkaaGreatC19
import Derived.Deep.QuietTactic
import Derived.BigQuiet
import Derived.Test.YtldmcdeibiclkaaGreatC18
set_option linter.unusedVariables false
set_option linter.unusedSimpArgs false
set_option maxRecDepth 100000
set_option maxHeartbeats 20000000
namespace Go.Proofs.YtldmcdeibiclkaaGreatQ
variable {w:World}{t:TypeId}{v vs:Value}{h B:Nat}{m:ByteArray}{S:Nat->Prop}{xs:List Value}
open Go.RowKit
theorem aa.Ir:(aa.prog.info? 27).map (λi=>(i.zero,i.size,i.bytes))=some (some (.slice none 0 0),1,24):=by kernel_rfl
def eS(m:ByteArray)(vs:Value):Array Value:=#[.slice none 0 0,vs,.string m]
theorem nY(e:w.heap[h]?=some (.cells (eS m vs) 110)):w.cell? ⟨h,1,none⟩=some vs/\w.frozen? ⟨h,1,none⟩=false/\w.cell? ⟨h,2,none⟩=some (.string m):=by
 obtain⟨c,f⟩:=aj e;exact⟨by rw[c];rfl,f 1,by rw[c];rfl⟩
theorem Cf(wb:Nat)(pv lv0 hv:Value)(hs:List Nat)(lv:Value)(n:Nat)(xs:List Value)(S:Nat->Prop)(w:World)(hblk:w.heap[wb]?=some (.cells #[pv,lv0,hv] 30))(aF:w.ownsRow 0 61 1 hv hs.length (hs.map cS))(hlen:hs.length<=9000000000000)(hl:w.ownsRow 0 9 1 lv n xs)(hn:n<=1900000000000)(hSl:∀b,lv.ownBlock=some b->S b)(hSn:∀b,w.heap.size<=b->S b):
  Calls aa.prog 47 #[.pointer (some ⟨wb,0,none⟩),lv] w λe w'=>e=.returned (.tuple #[])/\∃(h:Nat) (m:ByteArray) (hv':Value) (w1:World) (u:Value),
   m.size<=4/\w.heap.size<=h/\w1.heap[h]?=some (.cells (eS m (.slice none 0 0)) 110)/\w1.heap[wb]?=some (.cells #[pv,lv0,hv'] 30)/\w1.ownsRow 0 61 1 hv' (hs++ [h]).length ((hs++ [h]).map cS)/\Fr (λk=>k=wb\/hv.ownBlock=some k) w w1/\(∀k,hv'.ownBlock=some k->hv.ownBlock=some k\/w.heap.size<=k)/\
   KV 9 27 (eM m) S (eS m) h n (λb=>lv.ownBlock=some b\/b=h) w1 w' u 8 9:=by
 obtain⟨ad,cap,rfl,hcap,hlc⟩:=aZ hl;obtain⟨i0,hi0,hz0,hz1,hz2⟩:=QN aa.qJ;obtain⟨j0,hj0,jz0,jz1,jz2⟩:=QN aa.Ir;have HN:Hid (Calls aa.prog 67 #[.pointer (some ⟨wb,0,none⟩)] w λe w'=>∃(h:Nat) (m:ByteArray) (hv':Value),e=.returned (.pointer (some ⟨h,0,none⟩))/\m.size<=4/\w.heap.size<=h/\w'.heap[h]?=some (.cells (eS m (.slice none 0 0)) 110)/\w'.heap[wb]?=some (.cells #[pv,lv0,hv'] 30)/\
   w'.ownsRow 0 61 1 hv' (hs++ [h]).length ((hs++ [h]).map cS)/\Fr (λk=>k=wb\/hv.ownBlock=some k) w w'/\∀k,hv'.ownBlock=some k->hv.ownBlock=some k\/w.heap.size<=k):=Bi wb pv lv0 hv hs w hblk aF hlen
 have HL:Hid (w.ownsRow 0 9 1 (.slice ad n cap) n xs):=hl;have HSl:Hid (∀b,(Value.slice ad n cap).ownBlock=some b->S b):=hSl;have HSn:Hid (∀b,w.heap.size<=b->S b):=hSn;have HNA:Hid (∀k,(Value.slice ad n cap).ownBlock=some k->¬(k=wb\/hv.ownBlock=some k)):=λk e=>by
  obtain⟨cur,hc⟩:=cZ hl e;rintro (e'|e')
  ·rw[e',hblk]at hc;exact absurd hc (by simp)
  ·obtain⟨cur',hc'⟩:=cZ aF e';exact absurd (ew hc hc') (by decide)
 clear hblk aF hl hSl hSn;go_enter aa.func47,aa.ntmps47;go_wp2_with (first
  |(go_at_call 67;refine BY HN.out ?_;rintro e w1 ⟨h,m,hv',rfl,hm,hh,hb1,hw1,hr1,hF1,hN1⟩))
 have HB1:Hid (w1.heap[h]?=some (.cells (eS m (.slice none 0 0)) 110)):=hb1;have HW1:Hid (w1.heap[wb]?=some (.cells #[pv,lv0,hv'] 30)):=hw1;have HR1:Hid (w1.ownsRow 0 61 1 hv' (hs++ [h]).length ((hs++ [h]).map cS)):=hr1;have HF1:Hid (Fr (λk=>k=wb\/hv.ownBlock=some k) w w1):=hF1;have HM:Hid (m.size<=4):=hm;have HL1:Hid (w1.ownsRow 0 9 1 (.slice ad n cap) n xs):=hF1.row HL.out λg o l c e=>HNA.out g (by rw[e];rfl);have HSn1:Hid (∀b,w1.heap.size<=b->S b):=λb hb=>HSn.out b (IT hF1.size hb);have HFin:Hid (∀w' u,KV 9 27 (eM m) S (eS m) h n (λb=>(Value.slice ad n cap).ownBlock=some b\/b=h) w1 w' u 8 9->∃(h:Nat) (m:ByteArray) (hv':Value) (w1:World) (u:Value),m.size<=4/\w.heap.size<=h/\w1.heap[h]?=some (.cells (eS m (.slice none 0 0)) 110)/\w1.heap[wb]?=some (.cells #[pv,lv0,hv'] 30)/\w1.ownsRow 0 61 1 hv' (hs++ [h]).length ((hs++ [h]).map cS)/\Fr (λk=>k=wb\/hv.ownBlock=some k) w w1/\(∀k,hv'.ownBlock=some k->hv.ownBlock=some k\/w.heap.size<=k)/\
   KV 9 27 (eM m) S (eS m) h n (λb=>(Value.slice ad n cap).ownBlock=some b\/b=h) w1 w' u 8 9):=λw' u hk=>⟨h,m,hv',w1,u,hm,hh,hb1,hw1,hr1,hF1,hN1,hk⟩
 clear hb1 hw1 hr1 hF1 hm hN1;go_loopw [5] (λi wr=>∃k:Nat,k<=n/\i=.int .i64 k/\Hid (dC wr 9 (eM m) (.slice ad n cap) n k)/\Hid (Fr (λb=>(Value.slice ad n cap).ownBlock=some b\/b=h) w1 wr)/\Hid (wr.heap[h]?=some (.cells (eS m (.slice none 0 0)) 110))) (λi _=>n-(intOf i).toNat)
 case atStart=>exact⟨0,by omega,rfl,dC.zp HL1.out,Fr.refl _ _,HB1.out⟩
 case round=>
  obtain⟨k,hk,rfl,hrm,hfr,hhb⟩:=hrel;have HRm:Hid (dC wr 9 (eM m) (.slice ad n cap) n k):=hrm.out;have HFr:Hid (Fr (λb=>(Value.slice ad n cap).ownBlock=some b\/b=h) w1 wr):=hfr.out;have HHb:Hid (wr.heap[h]?=some (.cells (eS m (.slice none 0 0)) 110)):=hhb.out;clear hrm hfr hhb;obtain⟨x0,x1,x2⟩:=nY HHb.out;have k0:(0:Int)<=(k:Int):=by omega
  by_cases hlt:k<n
  ·have k63:(k:Int)<(n:Int):=by omega
   obtain⟨ys,hys',_⟩:=HRm.out;have hys:wr.ownsRow 0 9 1 (.slice ad n cap) n ys:=hys';clear hys';obtain⟨g,cap',hsv',_,_,hg,hcells⟩:=cU hys (by omega);cases hsv';have hty: ∃cur,wr.heap[g]?=some (.cells cur 9):=cZ hys rfl;obtain⟨cur,hcur⟩:=hty;have hfz:=(aj hcur).2;have hyl:ys.length=n:=by have:=hys.1;simpa using this
   have hgh:g≠h:=λe=>by rw[e,HHb.out]at hcur;exact absurd hcur (by simp)
   have c0:wr.cell? ⟨g,k,none⟩=some ys[k]:=hcells _ _ (by omega) (by simp[show k<ys.length by omega]);generalize ys[k]=y0 at*;have f0:=hfz k;clear hcells hys hcur hfz hyl;go_wp2;refine⟨⟨k+1,by omega,by go_num,HRm.out.F4 hlt,?_,?_⟩,by simp[intOf];omega⟩
   ·exact Fr.setCell (X:=λb=>(Value.slice (some ⟨g,0,none⟩) n cap).ownBlock=some b\/b=h) HFr.out (Or.inr (Or.inl rfl)) _
   ·show _=_;rw[Re _ _ _ _ (QK hgh)];exact HHb.out
  ·obtain rfl:k=n:=by omega
   have HK0:Hid (KV 9 27 (eM m) S (eS m) h k (λb=>(Value.slice ad k cap).ownBlock=some b\/b=h) w1 wr (.slice ad k cap) 0 0):=KV.start HFr.out HRm.out HSl.out (λb e=>Or.inl e) HHb.out;have hsz:=HFr.out.size;have hhlt:h<wr.heap.size:=(Array.getElem?_eq_some_iff.1 HHb.out).1;go_wp2_with (first
    |(at_builtin;refine nA _ rfl _ _ _ rfl w1.heap.size 27 j0 _ 1 24 aa.underlying108 hj0 jz0 jz1 jz2 rfl (by omega) (.slice none 0 0) 0 [] rfl (QT _ _ _ _) ⟨wr.heap.size,0,none⟩ 1 1 [.slice ad k cap] rfl rfl (QJ (cs:=#[.slice ad k cap]) (t:=27) (fr:=(0,0)) (IS wr _)) (by simp[Value.oneCell']) (by omega) (by unfold maxLen;omega) (by omega) (by simp;omega) ?_;intro g3 cap3 w3 hown3 hgrow3 hk3;have HO3:Hid (w3.ownsRow w1.heap.size 27 1 (.slice (some ⟨g3,0,none⟩) (0+1) cap3) (0+1) ([]++ [.slice ad k cap])):=hown3;have HG3:Hid ((wr.alloc (.cells #[.slice ad k cap] 27)).grownBy w3 (Value.slice none 0 0).ownBlock):=hgrow3;have hb3:w3.heap[h]?=some (.cells (eS m (.slice none 0 0)) 110):=(HG3.out.block h (by simp;omega) (by simp[Value.ownBlock])).trans ((Qx _ _ _ hhlt).trans HHb.out);obtain⟨z0,z1,z2⟩:=nY hb3;clear hown3 hgrow3 hk3 hb3))
   have HK1:Hid (KV 9 27 (eM m) S (eS m) h k (λb=>(Value.slice ad k cap).ownBlock=some b\/b=h) w1 (w3.setCell ⟨h,1,none⟩ (.slice (some ⟨g3,0,none⟩) (0+1) cap3)) (.slice ad k cap) 0 (0+1)):=HK0.out.qL (by decide) (by decide) (by decide) (Or.inr rfl) (by omega) 1 (λa b=>rfl) HHb.out (QT _ _ _ _) (λv hv=>by simp at hv) HO3.out HG3.out;clear z0 z1 z2 x0 x1 x2 k0 hhlt;go_loopw [1,6] (λu i wr=>∃r:Nat,r<=8/\i=.int .i64 r/\Hid (KV 9 27 (eM m) S (eS m) h k (λb=>(Value.slice ad k cap).ownBlock=some b\/b=h) w1 wr u r (r+1))) (λ_ i _=>8-(intOf i).toNat)
   case atStart=>exact⟨0,by omega,rfl,HK1.out⟩
   case round=>
    obtain⟨r,hr,rfl,hkv⟩:=hrel;obtain⟨ad1,cap1,rfl,hlc1,hcm1⟩:=hkv.out.row.form;have HK:Hid (KV 9 27 (eM m) S (eS m) h k (λb=>(Value.slice ad k cap).ownBlock=some b\/b=h) w1 wr (.slice ad1 (k+r) cap1) r (r+1)):=hkv.out;clear hkv;have r0:(0:Int)<=(r:Int):=by omega
    by_cases hlt8:r<8
    ·have r63:(r:Int)<8:=by omega
     obtain⟨ys,hys',hyp⟩:=HK.out.row;have HYs:Hid (wr.ownsRow 0 9 1 (.slice ad1 (k+r) cap1) (k+r) ys):=hys';have HYp:Hid (∀i j,i<k+r->j<(eM m).length->ys[i*(eM m).length+j]?=(eM m)[j]?):=hyp;obtain⟨vs,vl,e1,_,_⟩:=HK.out.hold;obtain⟨x0,x1,x2⟩:=nY e1;have hsz2:=HK.out.fr.size;have hhlt:h<wr.heap.size:=(Array.getElem?_eq_some_iff.1 e1).1;have tok1:True:=trivial;clear hys' hyp e1 x0 x1;go_wp2_with (first
      |(at_builtin;have _t:=tok1;refine nA _ rfl _ _ _ rfl 0 9 i0 _ 1 16 aa.underlying27 hi0 hz0 hz1 hz2 rfl (by omega) (.slice ad1 (k+r) cap1) _ _ rfl (HYs.out.alloc _) ⟨wr.heap.size,0,none⟩ 1 1 [.string m] rfl rfl (QJ (cs:=#[.string m]) (t:=9) (fr:=(0,0)) (IS wr _)) (by simp[Value.oneCell']) (by omega) (by unfold maxLen;omega) (by omega) (QQ _) ?_;intro g2 cap2 w2 hown2 hgrow2 hk2;have HK2:Hid (KV 9 27 (eM m) S (eS m) h k (λb=>(Value.slice ad k cap).ownBlock=some b\/b=h) w1 w2 (.slice (some ⟨g2,0,none⟩) (k+r+1) cap2) (r+1) (r+1)):=HK.out.vC (by decide) (by decide) HSn1.out HYs.out HYp.out hown2 hgrow2 hk2;obtain⟨vs2,vl2,q1,q2,q3⟩:=HK2.out.hold;obtain⟨adv,capv,rfl,_,hvc⟩:=aZ q2;obtain⟨z0,z1,z2⟩:=nY q1;have HQ1:Hid (w2.heap[h]?=some (.cells (eS m (.slice adv (r+1) capv)) 110)):=q1;have HQ2:Hid (w2.ownsRow w1.heap.size 27 1 (.slice adv (r+1) capv) (r+1) vl2):=q2;have HQ3:Hid (∀v∈vl2,∃ad l cp,v=.slice ad l cp/\l<=k+(r+1)/\dL w2 9 (eM m) S v):=q3;have hsz3:=HK2.out.fr.size;have hhlt2:h<w2.heap.size:=(Array.getElem?_eq_some_iff.1 q1).1;clear tok1 hown2 hgrow2 hk2 q1 q2 q3)
      |(at_builtin;refine nA _ rfl _ _ _ rfl w1.heap.size 27 j0 _ 1 24 aa.underlying108 hj0 jz0 jz1 jz2 rfl (by omega) (.slice adv (r+1) capv) _ _ rfl (HQ2.out.alloc _) ⟨w2.heap.size,0,none⟩ 1 1 [.slice (some ⟨g2,0,none⟩) (k+r+1) cap2] rfl rfl (QJ (cs:=#[.slice (some ⟨g2,0,none⟩) (k+r+1) cap2]) (t:=27) (fr:=(0,0)) (IS w2 _)) (by simp[Value.oneCell']) (by omega) (by unfold maxLen;omega) (by omega) (by simp;omega) ?_;intro g3 cap3 w3 hown3 hgrow3 hk3;have HO3:Hid (w3.ownsRow w1.heap.size 27 1 (.slice (some ⟨g3,0,none⟩) (r+1+1) cap3) (r+1+1) (vl2++ [.slice (some ⟨g2,0,none⟩) (k+r+1) cap2])):=hown3;have HG3:Hid ((w2.alloc (.cells #[.slice (some ⟨g2,0,none⟩) (k+r+1) cap2] 27)).grownBy w3 (Value.slice adv (r+1) capv).ownBlock):=hgrow3;have hb3:w3.heap[h]?=some (.cells (eS m (.slice adv (r+1) capv)) 110):=(HG3.out.block h (by simp;omega) (kG HQ2.out HQ1.out (by decide))).trans ((Qx _ _ _ hhlt2).trans HQ1.out);obtain⟨y0,y1,y2⟩:=nY hb3;clear hown3 hgrow3 hk3 hb3))
     exact⟨⟨r+1,by omega,by go_num,HK2.out.qL (by decide) (by decide) (by decide) (Or.inr rfl) (by omega) 1 (λa b=>rfl) HQ1.out HQ2.out HQ3.out HO3.out HG3.out⟩,by simp[intOf];omega⟩
    ·obtain rfl:r=8:=by omega
     go_wp2;go_end0;exact⟨rfl,HFin.out _ _ HK.out⟩
theorem yN(S:Nat->Prop)(wb:Nat)(pv le hv:Value)(gs:List PG)(hs:List Nat)(lv:Value)(n:Nat)(xs:List Value)(w:World)(H:eI S w wb pv le hv gs hs)(hlen:hs.length<=9000000000000)(hl:w.ownsRow 0 9 1 lv n xs)(hn:n<=1900000000000)(hfar:∀b,lv.ownBlock=some b->¬S b):
  Calls aa.prog 47 #[.pointer (some ⟨wb,0,none⟩),lv] w λe w'=>e=.returned (.tuple #[])/\∃(hv':Value) (h:Nat),eI (λk=>S k\/lv.ownBlock=some k\/w.heap.size<=k) w' wb pv le hv' gs (hs++ [h])/\Fr (λk=>k=wb\/hv.ownBlock=some k\/lv.ownBlock=some k) w w'/\∀k,hv'.ownBlock=some k->hv.ownBlock=some k\/w.heap.size<=k:=by
 refine (Cf wb pv le hv hs lv n xs (λk=>lv.ownBlock=some k\/w.heap.size<=k) w H.law.blk H.law.aF hlen hl hn (λb e=>Or.inl e) (λb e=>Or.inr e)).mono ?_;rintro e w' ⟨rfl,h,m,hv',w1,u,hm,hh,hb1,hw1,hr1,hF1,hN1,hK⟩;refine⟨rfl,hv',h,?_⟩;have hF:Fr (λk=>k=wb\/hv.ownBlock=some k\/lv.ownBlock=some k) w w':=by
  refine⟨hK.fr.os.trans hF1.os,hK.fr.tape.trans hF1.tape,hK.fr.output.trans hF1.output,IT hF1.size hK.fr.size,λk hk hn=>?_⟩;rw[hK.fr.block k (QL hk hF1.size) (by rintro (e|e);exact hn (Or.inr (Or.inr e));omega),hF1.block k hk (by rintro (e|e);exact hn (Or.inl e);exact hn (Or.inr (Or.inl e)))]
 have hl1:w1.ownsRow 0 9 1 lv n xs:=hF1.row hl λg o l c e=>by
  obtain⟨cur,hc⟩:=cZ hl (show lv.ownBlock=some g by rw[e];rfl);rintro (e'|e')
  ·rw[e']at hc;exact absurd (ew hc H.law.blk) (by decide)
  ·obtain⟨cur',hc'⟩:=cZ H.law.aF e';exact absurd (ew hc hc') (by decide)
 have hX1:∀g t cur,w1.heap[g]?=some (.cells cur t)->t≠9->t≠110->¬(lv.ownBlock=some g\/g=h):=by
  rintro g t cur hg t1 t2 (e|e)
  ·obtain⟨cur',hc'⟩:=cZ hl1 e;exact t1 (ew hg hc')
  ·rw[e]at hg;exact t2 (ew hg hb1)
 refine⟨H.held (λk=>S k\/lv.ownBlock=some k\/w.heap.size<=k) (λk e=>Or.inl e) (hK.fr.heap hw1 (hX1 _ _ _ hw1 (by decide) (by decide))) (hK.fr.dq hr1 λg cur hg=>hX1 g _ cur hg (by decide) (by decide)) (λk=>lv.ownBlock=some k\/w.heap.size<=k) (λk e=>Or.inr e) (λk e=>e.elim (λe=>.inl (hfar k e)) .inr) ?_ hF ?_,hF,hN1⟩
 ·obtain⟨vs,vl,q1,q2,q3⟩:=hK.hold;refine⟨.slice none 0 0,vs,m,[],vl,q1,hm,QT _ _ _ _,?_,by simp,?_,λv hv=>by simp at hv,λv hv=>?_⟩
  ·have hvl:vl.length=9:=by have:=q2.1;simpa using this
   rw[hvl];exact bM q2 (QQ _)
  ·have:=q2.1;simp at this;omega
  ·obtain⟨_,_,_,_,_,hm⟩:=q3 v hv;exact hm
 ·rintro k (e|e|e)
  ·exact Or.inl ⟨_,e▸H.law.blk⟩
  ·exact Or.inr (Or.inl (cZ H.law.aF e))
  ·exact Or.inr (Or.inr ⟨hfar k e,Or.inr (cZ hl e)⟩)
theorem GB(W:World)(r n:Int)(s:ByteArray):(binOp .neq 88 (.agg #[.int .i64 r,.int .i64 n,.string s]) (.agg #[.int .i64 r,.int .i64 n,.string s])).run aa.prog W=.ok (.bool false) W:=by
 have u3:=aa.underlying3;have u9:=aa.underlying9;have a3:=aa.isAgg3;have z3:=aa.sizeOf3;have a9:=aa.isAgg9;have z9:=aa.sizeOf9;have hS:aa.prog.underlying 88=some (.struct (aa.prog.fieldsOf 88)):=by kernel_rfl
 have hp:aa.prog.stoodInHeld 88=false:=by kernel_rfl
 rw[run_neq_struct,show (10000:Nat)=9999+1 from rfl,run_equalIn_agg W 9999 88 _ _ hS hp];simp only[Program.fieldsOf,aa.underlying88];go_simp
theorem dL.open{pat:List Value}(h:dL w t pat S v): ∃ad n cap,v=.slice ad n cap/\n<=2000000000000/\∀i,i<n->∃g,ad=some ⟨g,0,none⟩/\∀j,j<pat.length->w.cell? ⟨g,i*pat.length+j,none⟩=pat[j]? :=by
 obtain⟨ad,n,cap,e,hn,h⟩:=h;refine⟨ad,n,cap,e,hn,λi hi=>?_⟩;rcases h with h|⟨g,cur,e1,e2,e3,e4⟩
 ·omega
 ·refine⟨g,e1,λj hj=>?_⟩;simp only[World.cell?,e3];exact e4 i j hi hj
theorem Jh(h:Nat)(S:Nat->Prop)(w:World)(H:cT w h S):
  Calls aa.prog 27 #[.pointer (some ⟨h,0,none⟩)] w λe w'=>e=.returned (.bool true)/\∃q,w'=w.drewN q:=by
 obtain⟨vs,ts,m,vl,tl,h1,h2,h3,h4,h5,h6,h7,h8⟩:=H;obtain⟨ad,cap,rfl,hcap,hlc⟩:=aZ h3;obtain⟨at',capt,rfl,hcapt,hlct⟩:=aZ h4;have hc:=(aj h1).1;have c0:w.cell? ⟨h,0,none⟩=some (.slice ad vl.length cap):=by rw[hc];rfl
 have c1:w.cell? ⟨h,1,none⟩=some (.slice at' tl.length capt):=by rw[hc];rfl
 have c2:w.cell? ⟨h,2,none⟩=some (.string m):=by rw[hc];rfl
 have H3:Hid (w.ownsRow 0 67 1 (.slice ad vl.length cap) vl.length vl):=h3;have H4:Hid (w.ownsRow 0 27 1 (.slice at' tl.length capt) tl.length tl):=h4;have H7:Hid (∀v∈vl,dL w 88 (eH m) S v):=h7;have H8:Hid (∀v∈tl,dL w 9 (eM m) S v):=h8;have hneq:=λW=>GB W 0 0 m;clear h1 h3 h4 h7 h8 hc;go_enter aa.func27,aa.ntmps27;go_wp2;go_loopw [3] (λi wr=>∃k:Nat,k<=vl.length/\i=.int .i64 k/\∃q,wr=w.drewN q) (λi _=>vl.length-(intOf i).toNat)
 case atStart=>exact⟨0,by omega,rfl,0,rfl⟩
 case round=>
  obtain⟨k,hk,rfl,q,rfl⟩:=hrel;have k0:(0:Int)<=(k:Int):=by omega
  by_cases hlt:k<vl.length
  ·have k63:(k:Int)<(vl.length:Int):=by omega
   obtain⟨g,cap',hsv',_,_,hg,hcells⟩:=cU H3.out (by omega);cases hsv';obtain⟨ad2,n2,cap2,e2,hn2,hel⟩:=(H7.out vl[k] (OF hlt)).open;have ck:w.cell? ⟨g,k,none⟩=some (.slice ad2 n2 cap2):=by
    have:=hcells k vl[k] (by omega) (by simp);rw[this,e2]
   have HEl:Hid (∀i,i<n2->∃g,ad2=some ⟨g,0,none⟩/\∀j,j<(eH m).length->w.cell? ⟨g,i*(eH m).length+j,none⟩=(eH m)[j]?):=hel;clear hcells hel e2;go_wp2;go_loopw [4] (λi wr=>∃kk:Nat,kk<=n2/\i=.int .i64 kk/\∃q,wr=w.drewN q) (λi _=>n2-(intOf i).toNat)
   case atStart=>exact⟨0,by omega,rfl,_,rfl⟩
   case round=>
    obtain⟨kk,hkk,rfl,q2,rfl⟩:=hrel;have kk0:(0:Int)<=(kk:Int):=by omega
    by_cases hlt2:kk<n2
    ·have kk63:(kk:Int)<(n2:Int):=by omega
     obtain⟨g2,rfl,hce⟩:=HEl.out kk hlt2;have d0:w.cell? ⟨g2,kk*3,none⟩=some (.int .i64 0):=hce 0 (by simp);have d1:w.cell? ⟨g2,kk*3+1,none⟩=some (.int .i64 0):=hce 1 (by simp);have d2:w.cell? ⟨g2,kk*3+2,none⟩=some (.string m):=hce 2 (by simp);clear hce;go_wp2;go_quiet (fail);go_wp2;exact⟨⟨kk+1,by omega,by go_num,_,rfl⟩,by simp[intOf];omega⟩
    ·obtain rfl:kk=n2:=by omega
     go_wp2;exact⟨⟨k+1,by omega,by go_num,_,rfl⟩,by simp[intOf];omega⟩
  ·obtain rfl:k=vl.length:=by omega
   go_wp2;go_loopw [5] (λi wr=>∃k:Nat,k<=tl.length/\i=.int .i64 k/\∃q,wr=w.drewN q) (λi _=>tl.length-(intOf i).toNat)
   case atStart=>exact⟨0,by omega,rfl,_,rfl⟩
   case round=>
    obtain⟨k,hk,rfl,q,rfl⟩:=hrel;have k0:(0:Int)<=(k:Int):=by omega
    by_cases hlt:k<tl.length
    ·have k63:(k:Int)<(tl.length:Int):=by omega
     obtain⟨g,cap',hsv',_,_,hg,hcells⟩:=cU H4.out (by omega);cases hsv';obtain⟨ad2,n2,cap2,e2,hn2,hel⟩:=(H8.out tl[k] (OF hlt)).open;have ck:w.cell? ⟨g,k,none⟩=some (.slice ad2 n2 cap2):=by
      have:=hcells k tl[k] (by omega) (by simp);rw[this,e2]
     have HEl:Hid (∀i,i<n2->∃g,ad2=some ⟨g,0,none⟩/\∀j,j<(eM m).length->w.cell? ⟨g,i*(eM m).length+j,none⟩=(eM m)[j]?):=hel;clear hcells hel e2;go_wp2;go_loopw [6] (λi wr=>∃kk:Nat,kk<=n2/\i=.int .i64 kk/\∃q,wr=w.drewN q) (λi _=>n2-(intOf i).toNat)
     case atStart=>exact⟨0,by omega,rfl,_,rfl⟩
     case round=>
      obtain⟨kk,hkk,rfl,q2,rfl⟩:=hrel;have kk0:(0:Int)<=(kk:Int):=by omega
      by_cases hlt2:kk<n2
      ·have kk63:(kk:Int)<(n2:Int):=by omega
       obtain⟨g2,rfl,hce⟩:=HEl.out kk hlt2;have d0:w.cell? ⟨g2,kk,none⟩=some (.string m):=by have:=hce 0 (by simp);simpa using this
       clear hce;go_wp2;go_quiet (fail);go_wp2;exact⟨⟨kk+1,by omega,by go_num,_,rfl⟩,by simp[intOf];omega⟩
      ·obtain rfl:kk=n2:=by omega
       go_wp2;exact⟨⟨k+1,by omega,by go_num,_,rfl⟩,by simp[intOf];omega⟩
    ·obtain rfl:k=tl.length:=by omega
     go_wp2;go_ret;exact⟨rfl,_,rfl⟩
theorem GJ(W:World)(r n:Int)(s:ByteArray):(binOp .eql 88 (.agg #[.int .i64 r,.int .i64 n,.string s]) (.agg #[.int .i64 r,.int .i64 n,.string s])).run aa.prog W=.ok (.bool true) W:=by
 have u3:=aa.underlying3;have u9:=aa.underlying9;have a3:=aa.isAgg3;have z3:=aa.sizeOf3;have a9:=aa.isAgg9;have z9:=aa.sizeOf9;have hS:aa.prog.underlying 88=some (.struct (aa.prog.fieldsOf 88)):=by kernel_rfl
 have hp:aa.prog.stoodInHeld 88=false:=by kernel_rfl
 rw[run_eql_struct,show (10000:Nat)=9999+1 from rfl,run_equalIn_agg W 9999 88 _ _ hS hp];simp only[Program.fieldsOf,aa.underlying88];go_simp
theorem EB(d:Nat)(W:World)(a b c e:Int):(Op.equalIn (d+2) 34 (.agg #[.int .i64 a,.int .i64 b,.int .i64 c,.int .i64 e]) (.agg #[.int .i64 a,.int .i64 b,.int .i64 c,.int .i64 e])).run aa.prog W=.ok true W:=by
 have u3:=aa.underlying3;have u9:=aa.underlying34;have a3:=aa.isAgg3;have z3:=aa.sizeOf3;rw[Op.equalIn];simp only[Q6,Rk u9,Rv];go_simp;rw[show List.range' 0 4= [0,1,2,3] from rfl];simp only[List.forIn_cons,List.forIn_nil,Q6,a3,Rv,QF,QC];go_simp
theorem D7(W:World)(a b c d:Int):(binOp .eql 34 (.agg #[.int .i64 a,.int .i64 b,.int .i64 c,.int .i64 d]) (.agg #[.int .i64 a,.int .i64 b,.int .i64 c,.int .i64 d])).run aa.prog W=.ok (.bool true) W:=by
 rw[run_eql_struct,show (10000:Nat)=9998+2 from rfl,EB];rfl
theorem JS(b rb:Nat)(key:ByteArray)(c:Ctx)(L:List ax)(er:Int)(w:World)(hL:L.length<=100000)(h1:∀W,Below w.heap.size w W->Calls aa.prog 66 #[.pointer (some ⟨b,0,none⟩),.string key] W λe w'=>∃v',e=.returned (.tuple #[v',aG c,.int .i64 er])/\w'.ownsRow W.heap.size 88 3 v' L.length (aw L)/\Below W.heap.size W w')(h2:∀W,Below w.heap.size w W->Calls aa.prog 28 #[.pointer (some ⟨rb,0,none⟩),.string key] W λe w'=>∃v',e=.returned (.tuple #[v',aG c,.int .i64 er])/\df w' v' L/\Below W.heap.size W w'):
  Calls aa.prog 44 #[.agg #[.pointer (some ⟨b,0,none⟩),.pointer (some ⟨rb,0,none⟩)],.string key] w λe w'=>∃v',e=.returned (.tuple #[v',.bool true])/\w'.ownsRow w.heap.size 88 3 v' L.length (aw L)/\Below w.heap.size w w':=by
 have H1:Hid _:=h1;have H2:Hid _:=h2;have hes:=λW r n s=>GJ W r n s;have hec:=λW=>D7 W (c 0) (c 1) (c 2) (c 3);clear h1 h2;go_enter aa.func44,aa.ntmps44;go_upto_region 2 with (first
  |(go_at_call 66;refine BY (H1.out _ ((AT _ _).alloc (AI _) _)) ?_;rintro e w1 ⟨v1,rfl,hown1,hb1⟩;obtain⟨ad1,cap1,rfl,hcap1,hlc1⟩:=aZ hown1))
 have HO1:Hid (w1.ownsRow (w.heap.size+1) 88 3 (.slice ad1 L.length cap1) L.length (aw L)):=(show w1.ownsRow (w.heap.size+1) 88 3 (.slice ad1 L.length cap1) L.length (aw L) by have:=hown1;simpa using this)
 have B1:Below (w.heap.size+1) (w.alloc (.cells #[.pointer (some ⟨b,0,none⟩),.pointer (some ⟨rb,0,none⟩)] 47)) w1:=(by have:=hb1;simpa using this)
 have z1:w.heap.size+1<=w1.heap.size:=(by have:=B1.size;simpa using this)
 have HB1:Hid (Below w.heap.size w w1):=((AT _ _).alloc (AI _) _).trans (B1.mono (by omega));have x1:w1.cell? ⟨w.heap.size,1,none⟩=some (.pointer (some ⟨rb,0,none⟩)):=by
  rw[B1.cell (p:=⟨w.heap.size,1,none⟩) (show w.heap.size<w.heap.size+1 by omega)];exact (aj (IS w _)).1 1
 obtain⟨W2,hW2⟩: ∃W,W=w1.alloc (.cells #[.int .i64 (c 0),.int .i64 (c 1),.int .i64 (c 2),.int .i64 (c 3)] 34):=⟨_,rfl⟩
 rw[<-hW2];have HB2:Hid (Below w.heap.size w W2):=(by rw[hW2];exact HB1.out.alloc (by omega) _)
 have x2:W2.cell? ⟨w.heap.size,1,none⟩=some (.pointer (some ⟨rb,0,none⟩)):=by
  rw[hW2,World.cell?_alloc_lt _ _ _ (show w.heap.size<w1.heap.size by omega)];exact x1
 have HC2:Hid (W2.heap[w1.heap.size]?=some (.cells #[.int .i64 (c 0),.int .i64 (c 1),.int .i64 (c 2),.int .i64 (c 3)] 34)):=(by rw[hW2];exact IS w1 _)
 have HO2:Hid (W2.ownsRow (w.heap.size+1) 88 3 (.slice ad1 L.length cap1) L.length (aw L)):=(by rw[hW2];exact HO1.out.alloc _)
 have z2:w1.heap.size+1=W2.heap.size:=by rw[hW2,cA]
 clear hW2 x1 hown1 hb1 B1;go_upto_region 3 with (first
  |(go_at_call 28;refine BY (H2.out _ HB2.out) ?_;rintro e w3 ⟨v3,rfl,hown3,hb3⟩;obtain⟨ad3,cap3,rfl,hcap3,hlc3⟩:=aZ hown3))
 have HB3:Hid (Below w.heap.size w w3):=HB2.out.trans (hb3.mono (by omega));have z3:=hb3.size;have HC3:Hid (w3.heap[w1.heap.size]?=some (.cells #[.int .i64 (c 0),.int .i64 (c 1),.int .i64 (c 2),.int .i64 (c 3)] 34)):=dw HC2.out hb3;have HO3:Hid (w3.ownsRow (w.heap.size+1) 88 3 (.slice ad1 L.length cap1) L.length (aw L)):=cy HO2.out hb3 (AI _);have HA3:Hid (w3.ownsRow 0 88 3 (.slice ad3 L.length cap3) L.length (aw L)):=hown3;obtain⟨W4,hW4⟩: ∃W,W=w3.alloc (.cells #[.int .i64 (c 0),.int .i64 (c 1),.int .i64 (c 2),.int .i64 (c 3)] 34):=⟨_,rfl⟩
 rw[<-hW4];have HB4:Hid (Below w.heap.size w W4):=(by rw[hW4];exact HB3.out.alloc (by omega) _)
 have HC4:Hid (W4.heap[w3.heap.size]?=some (.cells #[.int .i64 (c 0),.int .i64 (c 1),.int .i64 (c 2),.int .i64 (c 3)] 34)):=(by rw[hW4];exact IS w3 _)
 have HD4:Hid (W4.heap[w1.heap.size]?=some (.cells #[.int .i64 (c 0),.int .i64 (c 1),.int .i64 (c 2),.int .i64 (c 3)] 34)):=(by rw[hW4,Qx _ _ _ (show w1.heap.size<w3.heap.size by omega)];exact HC3.out)
 have HO4:Hid (W4.ownsRow (w.heap.size+1) 88 3 (.slice ad1 L.length cap1) L.length (aw L)):=(by rw[hW4];exact HO3.out.alloc _)
 have HA4:Hid (W4.ownsRow 0 88 3 (.slice ad3 L.length cap3) L.length (aw L)):=(by rw[hW4];exact HA3.out.alloc _)
 clear hW4 x2 hown3 hb3;go_wp2;go_loopw [12,13] (λr i wr=>∃k:Nat,k<=L.length/\r=.bool true/\i=.int .i64 k/\∃q,wr=W4.drewN q) (λ_ i _=>L.length-(intOf i).toNat)
 case atStart=>exact⟨0,by omega,by simp,rfl,0,rfl⟩
 case round=>
  obtain⟨k,hk,rfl,rfl,q,rfl⟩:=hrel;have k0:(0:Int)<=(k:Int):=by omega
  by_cases hlt:k<L.length
  ·have k63:(k:Int)<(L.length:Int):=by omega
   obtain⟨g1,cap1',hs1,_,_,_,hc1⟩:=cU HO4.out (by omega);cases hs1;obtain⟨g3,cap3',hs3,_,_,_,hc3⟩:=cU HA4.out (by omega);cases hs3;obtain⟨f0,f1,f2⟩:=mn L k hlt;have a0:=hc1 _ _ (by omega) f0;have a1:=hc1 _ _ (by omega) f1;have a2:=hc1 _ _ (by omega) f2;have b0:=hc3 _ _ (by omega) f0;have b1:=hc3 _ _ (by omega) f1;have b2:=hc3 _ _ (by omega) f2;generalize L[k].rep=vr at*;generalize L[k].n=vn at*;generalize L[k].val=vv at*;have hes':=λW=>hes W vr vn vv;clear hes f0 f1 f2 hc1 hc3;go_wp2;go_quiet (fail);go_wp2;exact⟨⟨k+1,by omega,rfl,by go_num,_,rfl⟩,by simp[intOf];omega⟩
  ·obtain rfl:k=L.length:=by omega
   have p0:=(aj HC4.out).1 0;have p1:=(aj HC4.out).1 1;have p2:=(aj HC4.out).1 2;have p3:=(aj HC4.out).1 3;have q0:=(aj HD4.out).1 0;have q1:=(aj HD4.out).1 1;have q2:=(aj HD4.out).1 2;have q3:=(aj HD4.out).1 3;go_wp2;go_ret2;exact⟨_,rfl,bM (show World.ownsRow (W4.drewN q) _ _ _ _ _ _ from HO4.out) (by omega),Rf HB4.out q⟩
theorem MV(g:PG)(key:ByteArray)(w:World)(h:bH w g)(hlen:g.l.length<=1900000000000)(hks:key.size<=maxLen):
  Calls aa.prog 44 #[.agg #[.pointer (some ⟨g.b,0,none⟩),.pointer (some ⟨g.rb,0,none⟩)],.string key] w λe w'=>∃v' n xs,e=.returned (.tuple #[v',.bool true])/\n<=20/\w'.ownsRow w.heap.size 88 3 v' n xs/\Below w.heap.size w w':=by
 have hl:(if aK key=true then (g.K key).2 else []).length<=20:=by
  split
  ·exact (h.inv key).len
  ·simp
 refine (JS g.b g.rb key (if aK key=true then (g.K key).1 else λ_=>0) (if aK key=true then (g.K key).2 else []) (if aK key=true then 0 else 2) w (by omega) (λW hW=>?_) (λW hW=>?_)).mono ?_
 ·exact Gu g.b g.num g.bm g.K key W (h.rep.below hW) h.inv hks
 ·exact wj g.rb g.num g.sv g.l g.K key W (h.dW.below hW) hlen hks
 ·rintro e w' ⟨v',rfl,ho,hb⟩;exact⟨v',_,_,rfl,hl,ho,hb⟩
theorem aa.C3:(aa.prog.info? 67).map (λi=>(i.zero,i.size,i.bytes))=some (some (.slice none 0 0),1,24):=by kernel_rfl
def eT(m:ByteArray)(vs:Value):Array Value:=#[vs,.slice none 0 0,.string m]
theorem nL(e:w.heap[h]?=some (.cells (eT m vs) 110)):w.cell? ⟨h,0,none⟩=some vs/\w.frozen? ⟨h,0,none⟩=false/\w.cell? ⟨h,2,none⟩=some (.string m):=by
 obtain⟨c,f⟩:=aj e;exact⟨by rw[c];rfl,f 0,by rw[c];rfl⟩
theorem Ly(wb:Nat)(pv lv0 hv:Value)(hs:List Nat)(lv:Value)(n:Nat)(xs:List Value)(S:Nat->Prop)(w:World)(hblk:w.heap[wb]?=some (.cells #[pv,lv0,hv] 30))(aF:w.ownsRow 0 61 1 hv hs.length (hs.map cS))(hlen:hs.length<=9000000000000)(hl:w.ownsRow 0 88 3 lv n xs)(hn:n<=1000000)(hSl:∀b,lv.ownBlock=some b->S b)(hSn:∀b,w.heap.size<=b->S b):
  Calls aa.prog 45 #[.pointer (some ⟨wb,0,none⟩),lv] w λe w'=>e=.returned (.tuple #[])/\∃(h:Nat) (m:ByteArray) (hv':Value) (w1:World) (u:Value),
   m.size<=4/\w.heap.size<=h/\w1.heap[h]?=some (.cells (eT m (.slice none 0 0)) 110)/\w1.heap[wb]?=some (.cells #[pv,lv0,hv'] 30)/\w1.ownsRow 0 61 1 hv' (hs++ [h]).length ((hs++ [h]).map cS)/\Fr (λk=>k=wb\/hv.ownBlock=some k) w w1/\(∀k,hv'.ownBlock=some k->hv.ownBlock=some k\/w.heap.size<=k)/\
   KV 88 67 (eH m) S (eT m) h n (λb=>lv.ownBlock=some b\/b=h) w1 w' u 8 9:=by
 obtain⟨ad,cap,rfl,hcap,hlc⟩:=aZ hl;obtain⟨i0,hi0,hz0,hz1,hz2⟩:=QN aa.oO;obtain⟨j0,hj0,jz0,jz1,jz2⟩:=QN aa.C3;have HN:Hid (Calls aa.prog 67 #[.pointer (some ⟨wb,0,none⟩)] w λe w'=>∃(h:Nat) (m:ByteArray) (hv':Value),e=.returned (.pointer (some ⟨h,0,none⟩))/\m.size<=4/\w.heap.size<=h/\w'.heap[h]?=some (.cells (eT m (.slice none 0 0)) 110)/\w'.heap[wb]?=some (.cells #[pv,lv0,hv'] 30)/\
   w'.ownsRow 0 61 1 hv' (hs++ [h]).length ((hs++ [h]).map cS)/\Fr (λk=>k=wb\/hv.ownBlock=some k) w w'/\∀k,hv'.ownBlock=some k->hv.ownBlock=some k\/w.heap.size<=k):=Bi wb pv lv0 hv hs w hblk aF hlen
 have HL:Hid (w.ownsRow 0 88 3 (.slice ad n cap) n xs):=hl;have HSl:Hid (∀b,(Value.slice ad n cap).ownBlock=some b->S b):=hSl;have HSn:Hid (∀b,w.heap.size<=b->S b):=hSn;have HNA:Hid (∀k,(Value.slice ad n cap).ownBlock=some k->¬(k=wb\/hv.ownBlock=some k)):=λk e=>by
  obtain⟨cur,hc⟩:=cZ hl e;rintro (e'|e')
  ·rw[e',hblk]at hc;exact absurd hc (by simp)
  ·obtain⟨cur',hc'⟩:=cZ aF e';exact absurd (ew hc hc') (by decide)
 clear hblk aF hl hSl hSn;go_enter aa.func45,aa.ntmps45;go_wp2_with (first
  |(go_at_call 67;refine BY HN.out ?_;rintro e w1 ⟨h,m,hv',rfl,hm,hh,hb1,hw1,hr1,hF1,hN1⟩))
 have HB1:Hid (w1.heap[h]?=some (.cells (eT m (.slice none 0 0)) 110)):=hb1;have HW1:Hid (w1.heap[wb]?=some (.cells #[pv,lv0,hv'] 30)):=hw1;have HR1:Hid (w1.ownsRow 0 61 1 hv' (hs++ [h]).length ((hs++ [h]).map cS)):=hr1;have HF1:Hid (Fr (λk=>k=wb\/hv.ownBlock=some k) w w1):=hF1;have HM:Hid (m.size<=4):=hm;have HL1:Hid (w1.ownsRow 0 88 3 (.slice ad n cap) n xs):=hF1.row HL.out λg o l c e=>HNA.out g (by rw[e];rfl);have HSn1:Hid (∀b,w1.heap.size<=b->S b):=λb hb=>HSn.out b (IT hF1.size hb);have HFin:Hid (∀w' u,KV 88 67 (eH m) S (eT m) h n (λb=>(Value.slice ad n cap).ownBlock=some b\/b=h) w1 w' u 8 9->∃(h:Nat) (m:ByteArray) (hv':Value) (w1:World) (u:Value),m.size<=4/\w.heap.size<=h/\w1.heap[h]?=some (.cells (eT m (.slice none 0 0)) 110)/\w1.heap[wb]?=some (.cells #[pv,lv0,hv'] 30)/\w1.ownsRow 0 61 1 hv' (hs++ [h]).length ((hs++ [h]).map cS)/\Fr (λk=>k=wb\/hv.ownBlock=some k) w w1/\(∀k,hv'.ownBlock=some k->hv.ownBlock=some k\/w.heap.size<=k)/\
   KV 88 67 (eH m) S (eT m) h n (λb=>(Value.slice ad n cap).ownBlock=some b\/b=h) w1 w' u 8 9):=λw' u hk=>⟨h,m,hv',w1,u,hm,hh,hb1,hw1,hr1,hF1,hN1,hk⟩
 clear hb1 hw1 hr1 hF1 hm hN1;go_loopw [5] (λi wr=>∃k:Nat,k<=n/\i=.int .i64 k/\Hid (dC wr 88 (eH m) (.slice ad n cap) n k)/\Hid (Fr (λb=>(Value.slice ad n cap).ownBlock=some b\/b=h) w1 wr)/\Hid (wr.heap[h]?=some (.cells (eT m (.slice none 0 0)) 110))) (λi _=>n-(intOf i).toNat)
 case atStart=>exact⟨0,by omega,rfl,dC.zp HL1.out,Fr.refl _ _,HB1.out⟩
 case round=>
  obtain⟨k,hk,rfl,hrm,hfr,hhb⟩:=hrel;have HRm:Hid (dC wr 88 (eH m) (.slice ad n cap) n k):=hrm.out;have HFr:Hid (Fr (λb=>(Value.slice ad n cap).ownBlock=some b\/b=h) w1 wr):=hfr.out;have HHb:Hid (wr.heap[h]?=some (.cells (eT m (.slice none 0 0)) 110)):=hhb.out;clear hrm hfr hhb;obtain⟨x0,x1,x2⟩:=nL HHb.out;have k0:(0:Int)<=(k:Int):=by omega
  by_cases hlt:k<n
  ·have k63:(k:Int)<(n:Int):=by omega
   obtain⟨ys,hys',_⟩:=HRm.out;have hys:wr.ownsRow 0 88 3 (.slice ad n cap) n ys:=hys';clear hys';obtain⟨g,cap',hsv',_,_,hg,hcells⟩:=cU hys (by omega);cases hsv';have hty: ∃cur,wr.heap[g]?=some (.cells cur 88):=cZ hys rfl;obtain⟨cur,hcur⟩:=hty;have hfz:=(aj hcur).2;have hyl:ys.length=n*3:=hys.1;have hgh:g≠h:=λe=>by rw[e,HHb.out]at hcur;exact absurd hcur (by simp)
   have c0:wr.cell? ⟨g,k*3,none⟩=some ys[k*3]:=hcells _ _ (by omega) (by simp[show k*3<ys.length by omega]);have c1:wr.cell? ⟨g,k*3+1,none⟩=some ys[k*3+1]:=hcells _ _ (by omega) (by simp[show k*3+1<ys.length by omega]);have c2:wr.cell? ⟨g,k*3+2,none⟩=some ys[k*3+2]:=hcells _ _ (by omega) (by simp[show k*3+2<ys.length by omega]);generalize ys[k*3]=y0 at*;generalize ys[k*3+1]=y1 at*;generalize ys[k*3+2]=y2 at*;have f0:=hfz (k*3);have f1:=hfz (k*3+1);have f2:=hfz (k*3+2);clear hcells hys hcur hfz hyl;go_wp2;refine⟨⟨k+1,by omega,by go_num,HRm.out.Py hlt,?_,?_⟩,by simp[intOf];omega⟩
   ·exact Fr.setCell (X:=λb=>(Value.slice (some ⟨g,0,none⟩) n cap).ownBlock=some b\/b=h) (Fr.setCell (X:=λb=>(Value.slice (some ⟨g,0,none⟩) n cap).ownBlock=some b\/b=h) (Fr.setCell (X:=λb=>(Value.slice (some ⟨g,0,none⟩) n cap).ownBlock=some b\/b=h) HFr.out (Or.inr (Or.inl rfl)) _) (Or.inr (Or.inl rfl)) _) (Or.inr (Or.inl rfl)) _
   ·show _=_;rw[Re _ _ _ _ (QK hgh),Re _ _ _ _ (QK hgh),Re _ _ _ _ (QK hgh)];exact HHb.out
  ·obtain rfl:k=n:=by omega
   have HK0:Hid (KV 88 67 (eH m) S (eT m) h k (λb=>(Value.slice ad k cap).ownBlock=some b\/b=h) w1 wr (.slice ad k cap) 0 0):=KV.start HFr.out HRm.out HSl.out (λb e=>Or.inl e) HHb.out;have hsz:=HFr.out.size;have hhlt:h<wr.heap.size:=(Array.getElem?_eq_some_iff.1 HHb.out).1;go_wp2_with (first
    |(at_builtin;refine nA _ rfl _ _ _ rfl w1.heap.size 67 j0 _ 1 24 aa.underlying107 hj0 jz0 jz1 jz2 rfl (by omega) (.slice none 0 0) 0 [] rfl (QT _ _ _ _) ⟨wr.heap.size,0,none⟩ 1 1 [.slice ad k cap] rfl rfl (QJ (cs:=#[.slice ad k cap]) (t:=67) (fr:=(0,0)) (IS wr _)) (by simp[Value.oneCell']) (by omega) (by unfold maxLen;omega) (by omega) (by simp;omega) ?_;intro g3 cap3 w3 hown3 hgrow3 hk3;have HO3:Hid (w3.ownsRow w1.heap.size 67 1 (.slice (some ⟨g3,0,none⟩) (0+1) cap3) (0+1) ([]++ [.slice ad k cap])):=hown3;have HG3:Hid ((wr.alloc (.cells #[.slice ad k cap] 67)).grownBy w3 (Value.slice none 0 0).ownBlock):=hgrow3;have hb3:w3.heap[h]?=some (.cells (eT m (.slice none 0 0)) 110):=(HG3.out.block h (by simp;omega) (by simp[Value.ownBlock])).trans ((Qx _ _ _ hhlt).trans HHb.out);obtain⟨z0,z1,z2⟩:=nL hb3;clear hown3 hgrow3 hk3 hb3))
   have HK1:Hid (KV 88 67 (eH m) S (eT m) h k (λb=>(Value.slice ad k cap).ownBlock=some b\/b=h) w1 (w3.setCell ⟨h,0,none⟩ (.slice (some ⟨g3,0,none⟩) (0+1) cap3)) (.slice ad k cap) 0 (0+1)):=HK0.out.qL (by decide) (by decide) (by decide) (Or.inr rfl) (by omega) 0 (λa b=>rfl) HHb.out (QT _ _ _ _) (λv hv=>by simp at hv) HO3.out HG3.out;clear z0 z1 z2 x0 x1 x2 k0 hhlt;go_loopw [1,6] (λu i wr=>∃r:Nat,r<=8/\i=.int .i64 r/\Hid (KV 88 67 (eH m) S (eT m) h k (λb=>(Value.slice ad k cap).ownBlock=some b\/b=h) w1 wr u r (r+1))) (λ_ i _=>8-(intOf i).toNat)
   case atStart=>exact⟨0,by omega,rfl,HK1.out⟩
   case round=>
    obtain⟨r,hr,rfl,hkv⟩:=hrel;obtain⟨ad1,cap1,rfl,hlc1,hcm1⟩:=hkv.out.row.form;have HK:Hid (KV 88 67 (eH m) S (eT m) h k (λb=>(Value.slice ad k cap).ownBlock=some b\/b=h) w1 wr (.slice ad1 (k+r) cap1) r (r+1)):=hkv.out;clear hkv;have r0:(0:Int)<=(r:Int):=by omega
    by_cases hlt8:r<8
    ·have r63:(r:Int)<8:=by omega
     obtain⟨ys,hys',hyp⟩:=HK.out.row;have HYs:Hid (wr.ownsRow 0 88 3 (.slice ad1 (k+r) cap1) (k+r) ys):=hys';have HYp:Hid (∀i j,i<k+r->j<(eH m).length->ys[i*(eH m).length+j]?=(eH m)[j]?):=hyp;obtain⟨vs,vl,e1,_,_⟩:=HK.out.hold;obtain⟨x0,x1,x2⟩:=nL e1;have hsz2:=HK.out.fr.size;have hhlt:h<wr.heap.size:=(Array.getElem?_eq_some_iff.1 e1).1;have tok1:True:=trivial;clear hys' hyp e1 x0 x1;go_wp2_with (first
      |(at_builtin;have _t:=tok1;refine nA _ rfl _ _ _ rfl 0 88 i0 _ 3 32 aa.underlying67 hi0 hz0 hz1 hz2 rfl (by omega) (.slice ad1 (k+r) cap1) _ _ rfl (HYs.out.alloc _) ⟨wr.heap.size,0,none⟩ 1 1 [.int .i64 0,.int .i64 0,.string m] rfl rfl (QJ (cs:=#[.int .i64 0,.int .i64 0,.string m]) (t:=88) (fr:=(0,0)) (IS wr _)) (by simp[Value.oneCell']) (by omega) (by unfold maxLen;omega) (by omega) (QQ _) ?_;intro g2 cap2 w2 hown2 hgrow2 hk2;have HK2:Hid (KV 88 67 (eH m) S (eT m) h k (λb=>(Value.slice ad k cap).ownBlock=some b\/b=h) w1 w2 (.slice (some ⟨g2,0,none⟩) (k+r+1) cap2) (r+1) (r+1)):=HK.out.vC (by decide) (by decide) HSn1.out HYs.out HYp.out hown2 hgrow2 hk2;obtain⟨vs2,vl2,q1,q2,q3⟩:=HK2.out.hold;obtain⟨adv,capv,rfl,_,hvc⟩:=aZ q2;obtain⟨z0,z1,z2⟩:=nL q1;have HQ1:Hid (w2.heap[h]?=some (.cells (eT m (.slice adv (r+1) capv)) 110)):=q1;have HQ2:Hid (w2.ownsRow w1.heap.size 67 1 (.slice adv (r+1) capv) (r+1) vl2):=q2;have HQ3:Hid (∀v∈vl2,∃ad l cp,v=.slice ad l cp/\l<=k+(r+1)/\dL w2 88 (eH m) S v):=q3;have hsz3:=HK2.out.fr.size;have hhlt2:h<w2.heap.size:=(Array.getElem?_eq_some_iff.1 q1).1;clear tok1 hown2 hgrow2 hk2 q1 q2 q3)
      |(at_builtin;refine nA _ rfl _ _ _ rfl w1.heap.size 67 j0 _ 1 24 aa.underlying107 hj0 jz0 jz1 jz2 rfl (by omega) (.slice adv (r+1) capv) _ _ rfl (HQ2.out.alloc _) ⟨w2.heap.size,0,none⟩ 1 1 [.slice (some ⟨g2,0,none⟩) (k+r+1) cap2] rfl rfl (QJ (cs:=#[.slice (some ⟨g2,0,none⟩) (k+r+1) cap2]) (t:=67) (fr:=(0,0)) (IS w2 _)) (by simp[Value.oneCell']) (by omega) (by unfold maxLen;omega) (by omega) (by simp;omega) ?_;intro g3 cap3 w3 hown3 hgrow3 hk3;have HO3:Hid (w3.ownsRow w1.heap.size 67 1 (.slice (some ⟨g3,0,none⟩) (r+1+1) cap3) (r+1+1) (vl2++ [.slice (some ⟨g2,0,none⟩) (k+r+1) cap2])):=hown3;have HG3:Hid ((w2.alloc (.cells #[.slice (some ⟨g2,0,none⟩) (k+r+1) cap2] 67)).grownBy w3 (Value.slice adv (r+1) capv).ownBlock):=hgrow3;have hb3:w3.heap[h]?=some (.cells (eT m (.slice adv (r+1) capv)) 110):=(HG3.out.block h (by simp;omega) (kG HQ2.out HQ1.out (by decide))).trans ((Qx _ _ _ hhlt2).trans HQ1.out);obtain⟨y0,y1,y2⟩:=nL hb3;clear hown3 hgrow3 hk3 hb3))
     exact⟨⟨r+1,by omega,by go_num,HK2.out.qL (by decide) (by decide) (by decide) (Or.inr rfl) (by omega) 0 (λa b=>rfl) HQ1.out HQ2.out HQ3.out HO3.out HG3.out⟩,by simp[intOf];omega⟩
    ·obtain rfl:r=8:=by omega
     go_wp2;go_end0;exact⟨rfl,HFin.out _ _ HK.out⟩
theorem rL(S:Nat->Prop)(wb:Nat)(pv le hv:Value)(gs:List PG)(hs:List Nat)(lv:Value)(n:Nat)(xs:List Value)(w:World)(H:eI S w wb pv le hv gs hs)(hlen:hs.length<=9000000000000)(hl:w.ownsRow 0 88 3 lv n xs)(hn:n<=1000000)(hfar:∀b,lv.ownBlock=some b->¬S b):
  Calls aa.prog 45 #[.pointer (some ⟨wb,0,none⟩),lv] w λe w'=>e=.returned (.tuple #[])/\∃(hv':Value) (h:Nat),eI (λk=>S k\/lv.ownBlock=some k\/w.heap.size<=k) w' wb pv le hv' gs (hs++ [h])/\Fr (λk=>k=wb\/hv.ownBlock=some k\/lv.ownBlock=some k) w w'/\∀k,hv'.ownBlock=some k->hv.ownBlock=some k\/w.heap.size<=k:=by
 refine (Ly wb pv le hv hs lv n xs (λk=>lv.ownBlock=some k\/w.heap.size<=k) w H.law.blk H.law.aF hlen hl hn (λb e=>Or.inl e) (λb e=>Or.inr e)).mono ?_;rintro e w' ⟨rfl,h,m,hv',w1,u,hm,hh,hb1,hw1,hr1,hF1,hN1,hK⟩;refine⟨rfl,hv',h,?_⟩;have hF:Fr (λk=>k=wb\/hv.ownBlock=some k\/lv.ownBlock=some k) w w':=by
  refine⟨hK.fr.os.trans hF1.os,hK.fr.tape.trans hF1.tape,hK.fr.output.trans hF1.output,IT hF1.size hK.fr.size,λk hk hn=>?_⟩;rw[hK.fr.block k (QL hk hF1.size) (by rintro (e|e);exact hn (Or.inr (Or.inr e));omega),hF1.block k hk (by rintro (e|e);exact hn (Or.inl e);exact hn (Or.inr (Or.inl e)))]
 have hl1:w1.ownsRow 0 88 3 lv n xs:=hF1.row hl λg o l c e=>by
  obtain⟨cur,hc⟩:=cZ hl (show lv.ownBlock=some g by rw[e];rfl);rintro (e'|e')
  ·rw[e']at hc;exact absurd (ew hc H.law.blk) (by decide)
  ·obtain⟨cur',hc'⟩:=cZ H.law.aF e';exact absurd (ew hc hc') (by decide)
 have hX1:∀g t cur,w1.heap[g]?=some (.cells cur t)->t≠88->t≠110->¬(lv.ownBlock=some g\/g=h):=by
  rintro g t cur hg t1 t2 (e|e)
  ·obtain⟨cur',hc'⟩:=cZ hl1 e;exact t1 (ew hg hc')
  ·rw[e]at hg;exact t2 (ew hg hb1)
 refine⟨H.held (λk=>S k\/lv.ownBlock=some k\/w.heap.size<=k) (λk e=>Or.inl e) (hK.fr.heap hw1 (hX1 _ _ _ hw1 (by decide) (by decide))) (hK.fr.dq hr1 λg cur hg=>hX1 g _ cur hg (by decide) (by decide)) (λk=>lv.ownBlock=some k\/w.heap.size<=k) (λk e=>Or.inr e) (λk e=>e.elim (λe=>.inl (hfar k e)) .inr) ?_ hF ?_,hF,hN1⟩
 ·obtain⟨vs,vl,q1,q2,q3⟩:=hK.hold;refine⟨vs,.slice none 0 0,m,vl,[],q1,hm,?_,QT _ _ _ _,?_,by simp,λv hv=>?_,λv hv=>by simp at hv⟩
  ·have hvl:vl.length=9:=by have:=q2.1;simpa using this
   rw[hvl];exact bM q2 (QQ _)
  ·have:=q2.1;simp at this;omega
  ·obtain⟨_,_,_,_,_,hm⟩:=q3 v hv;exact hm
 ·rintro k (e|e|e)
  ·exact Or.inl ⟨_,e▸H.law.blk⟩
  ·exact Or.inr (Or.inl (cZ H.law.aF e))
  ·exact Or.inr (Or.inr ⟨hfar k e,Or.inl (cZ hl e)⟩)
structure bU where
 kind:Int
 m:Int
 a:Int
 b:Int
 s:ByteArray
 t:ByteArray
 c:Ctx
def bq(o:bU):Array Value:=#[.int .i64 o.kind,.int .i64 o.m,.int .i64 o.a,.int .i64 o.b,.string o.s,.string o.t,.int .i64 (o.c 0),.int .i64 (o.c 1),.int .i64 (o.c 2),.int .i64 (o.c 3)]
theorem oU{n size:Nat}(h:w.ownsRow B t size v n xs){k:Nat}(e:v.ownBlock=some k):B<=k/\k<w.heap.size:=h.lt k e
theorem keep_other{w':World}{wb:Nat}{pv le hv hv0:Value}{gs:List PG}{hs:List Nat}{n size:Nat}{lv:Value}(H:eI S w wb pv le hv gs hs)(hF:Fr (λk=>k=wb\/hv.ownBlock=some k\/lv.ownBlock=some k) w w')(hr:w.ownsRow B t size v n xs)(t1:t≠30)(t2:t≠61)(hne:∀k,v.ownBlock=some k->¬lv.ownBlock=some k):w'.ownsRow B t size v n xs:=
 hF.row hr λg o l c e=>by
  have eo:v.ownBlock=some g:=by rw[e];rfl
  obtain⟨cur,hc⟩:=cZ hr eo;rintro (e'|e'|e')
  ·rw[e']at hc;exact t1 (ew hc H.law.blk)
  ·obtain⟨cur',hc'⟩:=cZ H.law.aF e';exact t2 (ew hc hc')
  ·exact hne g eo e'
def mE(W:World)(p b rb:Nat)(s t:ByteArray):Prop:=
 W.cell? ⟨p,0,none⟩=some (.pointer (some ⟨b,0,none⟩))/\W.cell? ⟨p,1,none⟩=some (.pointer (some ⟨rb,0,none⟩))/\W.cell? ⟨p+1,4,none⟩=some (.string s)/\W.cell? ⟨p+1,5,none⟩=some (.string t)
theorem mE.jo{W W':World}{p b rb:Nat}{s t:ByteArray}(h:mE W p b rb s t)(hb:Below W.heap.size W W'):mE W' p b rb s t:=
 ⟨aD h.1 hb,aD h.2.1 hb,aD h.2.2.1 hb,aD h.2.2.2 hb⟩
theorem NU(wb:Nat)(pv le hv:Value)(gs:List PG)(hs:List Nat)(g:PG)(o:bU)(w:World)(h:bu w wb pv le hv gs hs)(hg:g∈gs)(hlen:hs.length<=8000000000000)(hl:g.l.length<=1900000000000)(hos:o.s.size<=maxLen)(hot:o.t.size<=maxLen):
  Calls aa.prog 17 #[.pointer (some ⟨wb,0,none⟩),.agg #[.pointer (some ⟨g.b,0,none⟩),.pointer (some ⟨g.rb,0,none⟩)],.agg (bq o)] w λe w'=>e=.returned (.bool true)/\∃(hv':Value) (hs':List Nat),bu w' wb pv le hv' gs hs'/\hs'.length=hs.length+3/\Fr (λk=>k=wb\/hv.ownBlock=some k) w w'/\∀k,hv'.ownBlock=some k->hv.ownBlock=some k\/w.heap.size<=k:=by
 have HG:Hid (∀key,key.size<=maxLen->∀W,Below w.heap.size w W->Calls aa.prog 44 #[.agg #[.pointer (some ⟨g.b,0,none⟩),.pointer (some ⟨g.rb,0,none⟩)],.string key] W λe w'=>∃v' n xs,e=.returned (.tuple #[v',.bool true])/\n<=20/\w'.ownsRow W.heap.size 88 3 v' n xs/\Below W.heap.size W w'):=λkey hk W hW=>MV g key W ((h.bL g hg).below hW) hl hk;have HS0:Hid (eI (λk=>k<w.heap.size) w wb pv le hv gs hs):=h.BE;generalize g.b=b at*;generalize g.rb=rb at*;clear h;obtain⟨kind,m,a,ob,s,t,c⟩:=o;simp only[bq] at*;go_enter aa.func17,aa.ntmps17;go_upto_region 1 with fail;obtain⟨W0,hW0⟩: ∃W,W=(w.alloc (.cells #[.pointer (some ⟨b,0,none⟩),.pointer (some ⟨rb,0,none⟩)] 47)).alloc (.cells #[.int .i64 kind,.int .i64 m,.int .i64 a,.int .i64 ob,.string s,.string t,.int .i64 (c 0),.int .i64 (c 1),.int .i64 (c 2),.int .i64 (c 3)] 36):=⟨_,rfl⟩
 rw[<-hW0];have HB0:Hid (Below w.heap.size w W0):=(by rw[hW0];exact ((AT _ _).alloc (AI _) _).alloc (by simp) _)
 have z0:W0.heap.size=w.heap.size+2:=by rw[hW0];simp
 have HX0:Hid (mE W0 w.heap.size b rb s t):=(by
  rw[hW0];have e1:=(aj (IS (w.alloc (.cells #[.pointer (some ⟨b,0,none⟩),.pointer (some ⟨rb,0,none⟩)] 47)) (.cells #[.int .i64 kind,.int .i64 m,.int .i64 a,.int .i64 ob,.string s,.string t,.int .i64 (c 0),.int .i64 (c 1),.int .i64 (c 2),.int .i64 (c 3)] 36))).1;rw[cA]at e1;have e2:=(aj (IS w (.cells #[.pointer (some ⟨b,0,none⟩),.pointer (some ⟨rb,0,none⟩)] 47))).1;refine⟨?_,?_,e1 4,e1 5⟩
  ·rw[World.cell?_alloc_lt _ _ _ (by simp)];exact e2 0
  ·rw[World.cell?_alloc_lt _ _ _ (by simp)];exact e2 1)
 clear hW0;obtain⟨x0,x1,x2,x3⟩:=HX0.out;go_upto_region 2 with (first
  |(go_at_call 44;refine BY (HG.out _ hos _ HB0.out) ?_;rintro e w1 ⟨v1,n1,xs1,rfl,hn1,hown1,hb1⟩;obtain⟨ad1,cap1,rfl,hcap1,hlc1⟩:=aZ hown1))
 have HO1:Hid (w1.ownsRow W0.heap.size 88 3 (.slice ad1 n1 cap1) n1 xs1):=hown1;have HB1:Hid (Below w.heap.size w w1):=HB0.out.trans (hb1.mono (by omega));have HX1:Hid (mE w1 w.heap.size b rb s t):=HX0.out.jo hb1;have z1:=hb1.size;clear hown1 hb1 x0 x1 x2 x3;obtain⟨x0,x1,x2,x3⟩:=HX1.out;go_upto_region 3 with (first
  |(go_at_call 44;refine BY (HG.out _ hot _ HB1.out) ?_;rintro e w2 ⟨v2,n2,xs2,rfl,hn2,hown2,hb2⟩;obtain⟨ad2,cap2,rfl,hcap2,hlc2⟩:=aZ hown2))
 have HO2:Hid (w2.ownsRow w1.heap.size 88 3 (.slice ad2 n2 cap2) n2 xs2):=hown2;have HP2:Hid (w2.ownsRow W0.heap.size 88 3 (.slice ad1 n1 cap1) n1 xs1):=cy HO1.out hb2 (AI _);have HB2:Hid (Below w.heap.size w w2):=HB1.out.trans (hb2.mono (by omega));have HX2:Hid (mE w2 w.heap.size b rb s t):=HX1.out.jo hb2;have z2:=hb2.size;clear hown2 hb2 x0 x1 x2 x3;obtain⟨x0,x1,x2,x3⟩:=HX2.out;go_upto_region 4 with (first
  |(go_at_call 44;refine BY (HG.out _ hos _ HB2.out) ?_;rintro e w3 ⟨v3,n3,xs3,rfl,hn3,hown3,hb3⟩;obtain⟨ad3,cap3,rfl,hcap3,hlc3⟩:=aZ hown3))
 have HO3:Hid (w3.ownsRow w2.heap.size 88 3 (.slice ad3 n3 cap3) n3 xs3):=hown3;have HP3:Hid (w3.ownsRow W0.heap.size 88 3 (.slice ad1 n1 cap1) n1 xs1):=cy HP2.out hb3 (AI _);have HQ3:Hid (w3.ownsRow w1.heap.size 88 3 (.slice ad2 n2 cap2) n2 xs2):=cy HO2.out hb3 (AI _);have HB3:Hid (Below w.heap.size w w3):=HB2.out.trans (hb3.mono (by omega));have z3:=hb3.size;have HS3:Hid (eI (λk=>k<w.heap.size) w3 wb pv le hv gs hs):=HS0.out.below HB3.out;have L1:Hid (∀k,(Value.slice ad1 n1 cap1).ownBlock=some k->w.heap.size+2<=k/\k<w1.heap.size):=λk e=>by have:=oU HO1.out e;omega
 have L2:Hid (∀k,(Value.slice ad2 n2 cap2).ownBlock=some k->w1.heap.size<=k/\k<w2.heap.size):=λk e=>oU HO2.out e;have L3:Hid (∀k,(Value.slice ad3 n3 cap3).ownBlock=some k->w2.heap.size<=k/\k<w3.heap.size):=λk e=>oU HO3.out e;have HK3:Hid _:=rL (λk=>k<w.heap.size) wb pv le hv gs hs (.slice ad1 n1 cap1) n1 xs1 w3 HS3.out (by omega) (bM HP3.out (QQ _)) (by omega) (λk e=>by have:=L1.out k e;omega);clear hown3 hb3 x0 x1 x2 x3;go_upto_region 5 with (first
  |(go_at_call 45;refine BY HK3.out ?_;rintro e w4 ⟨rfl,hv4,h4,hS4,hF4,hN4⟩))
 have HS4:Hid (eI (λk=>(k<w.heap.size)\/(Value.slice ad1 n1 cap1).ownBlock=some k\/w3.heap.size<=k) w4 wb pv le hv4 gs (hs++ [h4])):=hS4;have HF4:Hid (Fr (λk=>k=wb\/hv.ownBlock=some k\/(Value.slice ad1 n1 cap1).ownBlock=some k) w3 w4):=hF4;have HN4:Hid (∀k,hv4.ownBlock=some k->hv.ownBlock=some k\/w3.heap.size<=k):=hN4;have HQ4:Hid (w4.ownsRow w1.heap.size 88 3 (.slice ad2 n2 cap2) n2 xs2):=keep_other (hv0:=hv4) HS3.out hF4 HQ3.out (by decide) (by decide) (λk e e'=>by have:=L1.out k e';have:=L2.out k e;omega);have HR4:Hid (w4.ownsRow w2.heap.size 88 3 (.slice ad3 n3 cap3) n3 xs3):=keep_other (hv0:=hv4) HS3.out hF4 HO3.out (by decide) (by decide) (λk e e'=>by have:=L1.out k e';have:=L3.out k e;omega);have z4:=hF4.size;have HK4:Hid _:=rL _ wb pv le hv4 gs (hs++ [h4]) (.slice ad2 n2 cap2) n2 xs2 w4 HS4.out (by simp;omega) (bM HQ4.out (QQ _)) (by omega) (λk e=>by
  have:=L2.out k e;rintro (e'|e'|e')
  ·omega
  ·have:=L1.out k e';omega
  ·omega)
 clear hS4 hF4 hN4;go_upto_region 6 with (first
  |(go_at_call 45;refine BY HK4.out ?_;rintro e w5 ⟨rfl,hv5,h5,hS5,hF5,hN5⟩))
 have HS5:Hid (eI (λk=>((k<w.heap.size)\/(Value.slice ad1 n1 cap1).ownBlock=some k\/w3.heap.size<=k)\/(Value.slice ad2 n2 cap2).ownBlock=some k\/w4.heap.size<=k) w5 wb pv le hv5 gs (hs++ [h4]++ [h5])):=hS5;have HF5:Hid (Fr (λk=>k=wb\/hv4.ownBlock=some k\/(Value.slice ad2 n2 cap2).ownBlock=some k) w4 w5):=hF5;have HN5:Hid (∀k,hv5.ownBlock=some k->hv4.ownBlock=some k\/w4.heap.size<=k):=hN5;have HR5:Hid (w5.ownsRow w2.heap.size 88 3 (.slice ad3 n3 cap3) n3 xs3):=keep_other (hv0:=hv5) HS4.out hF5 HR4.out (by decide) (by decide) (λk e e'=>by have:=L2.out k e';have:=L3.out k e;omega);have z5:=hF5.size;have HK5:Hid _:=rL _ wb pv le hv5 gs (hs++ [h4]++ [h5]) (.slice ad3 n3 cap3) n3 xs3 w5 HS5.out (by simp;omega) (bM HR5.out (QQ _)) (by omega) (λk e=>by
  have:=L3.out k e;rintro ((e'|e'|e')|e'|e')
  ·omega
  ·have:=L1.out k e';omega
  ·omega
  ·have:=L2.out k e';omega
  ·omega)
 clear hS5 hF5 hN5;go_wp2_with (first
  |(go_at_call 45;refine BY HK5.out ?_;rintro e w6 ⟨rfl,hv6,h6,hS6,hF6,hN6⟩;have HS6:Hid _:=hS6.law;have HF6:Hid (Fr (λk=>k=wb\/hv5.ownBlock=some k\/(Value.slice ad3 n3 cap3).ownBlock=some k) w5 w6):=hF6;have HN6:Hid (∀k,hv6.ownBlock=some k->hv5.ownBlock=some k\/w5.heap.size<=k):=hN6;clear hS6 hF6 hN6))
 go_ret;refine⟨rfl,hv6,hs++ [h4]++ [h5]++ [h6],HS6.out,by simp,?_,λk e=>?_⟩
 ·have z6:=HF6.out.size;refine⟨?_,?_,?_,by omega,λk hk hn=>?_⟩
  ·rw[HF6.out.os,HF5.out.os,HF4.out.os,HB3.out.os]
  ·rw[HF6.out.tape,HF5.out.tape,HF4.out.tape,HB3.out.tape]
  ·rw[HF6.out.output,HF5.out.output,HF4.out.output,HB3.out.output]
  ·have hA:∀v,hv.ownBlock=some k\/w3.heap.size<=k->v=k->False:=λv hx _=>by
    rcases hx with hx|hx
    ·exact hn (Or.inr hx)
    ·omega
   have n4: ¬hv4.ownBlock=some k:=λe=>hA k (HN4.out k e) rfl;have n5: ¬hv5.ownBlock=some k:=λe=>by
    rcases HN5.out k e with e'|e'
    ·exact n4 e'
    ·omega
   rw[HF6.out.block k (by omega) (by rintro (e|e|e);exact hn (Or.inl e);exact n5 e;have:=L3.out k e;omega),HF5.out.block k (by omega) (by rintro (e|e|e);exact hn (Or.inl e);exact n4 e;have:=L2.out k e;omega),HF4.out.block k (by omega) (by rintro (e|e|e);exact hn (Or.inl e);exact hn (Or.inr e);have:=L1.out k e;omega)];exact HB3.out.block k hk
 ·rcases HN6.out k e with e|e
  ·rcases HN5.out k e with e|e
   ·rcases HN4.out k e with e|e
    ·exact Or.inl e
    ·right;omega
   ·right;omega
  ·right;omega
end Go.Proofs.YtldmcdeibiclkaaGreatQ
