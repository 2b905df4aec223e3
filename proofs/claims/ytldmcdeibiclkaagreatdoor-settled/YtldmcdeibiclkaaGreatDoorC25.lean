/-
  Toward settled_holds: Contract: segment.join: what somebody else knows of its keys is taken in.
-/
import Derived.Test.YtldmcdeibiclkaaGreatDoorC24
import Derived.Test.YtldmcdeibiclkaaGreatDoorC18
import Derived.Test.YtldmcdeibiclkaaGreatDoorC23
set_option linter.unusedVariables false
set_option linter.unusedSimpArgs false
set_option maxRecDepth 100000
set_option maxHeartbeats 20000000
namespace Go.Proofs.YtldmcdeibiclkaaGreatDoorQ
open Go.RowKit
structure xK(n:Nat)(rs:List ai):Prop where
 each:∀r∈rs,ay r.1=n/\cV r.1=true/\lu r.2.1 r.2.2/\r.2.2.length<=10000
 apart:(rs.map (·.1)).Pairwise (·≠·)
def Fit(K:aw):Prop:=∀s,gx (K s).1 (K s).2/\(K s).2.length<=10000
theorem lu.kY{c:Ctx}{l:List aj}(h:lu c l):gx c l:=by
 refine⟨λi hi=>?_,h.iV,h.sorted⟩
 have:=h.ctx;simp only[gD,eJ,IN,Xs]at this;rcases fp hi with rfl|rfl|rfl|rfl<;>omega
theorem Tm{c d:Ctx}(hc:∀i,i<4->0<=c i)(hd:∀i,i<4->0<=d i)(h:cF d):cF (aZ c d):=by
 obtain⟨i,hi,hn⟩:=h
 have:=hc i hi
 have:=hd i hi;refine⟨i,hi,?_⟩;simp only[aZ];omega
structure rj(w:World)(b num n:Nat)(bm:Nat->Nat)(K:aw)(W:World):Prop where
 rep:aB W b bm num K
 fr:Fr (λq=>q=bm n) w W
theorem WT(b num n B:Nat)(bm:Nat->Nat)(K:aw)(rv:Value)(rc:List Rc)(w:World)(h:aB w b bm num K)(hn:n<64)(hrow:dp w B rv rc)(hv:∀r∈rc,aC w r.sv r.l)(hok:xK n (rc.map Rc.cg))(hK:∀r∈rc.map Rc.cg,gx (K r.1).1 (K r.1).2/\(K r.1).2.length<=10000):
  Calls aa.prog 81 #[.map (some (bm n)),rv] w λe w'=>e=.returned (.tuple #[])/\aB w' b bm num (eX K (rc.map Rc.cg))/\Fr (λq=>q=bm n) w w':=by
 obtain⟨ad,cap,rfl,hcap,hlc⟩:=hrow.len;unfold maxLen at hcap;have HRow:Hid (dp w B (.slice ad rc.length cap) rc):=hrow;have HV:Hid (∀r∈rc,aC w r.sv r.l):=hv;have HOk:Hid (xK n (rc.map Rc.cg)):=hok;have HK:Hid (∀r∈rc.map Rc.cg,gx (K r.1).1 (K r.1).2/\(K r.1).2.length<=10000):=hK;have hmap: ∃es clock,w.heap[bm n]?=some (.map es clock):=by
  obtain⟨es,clock,e,_⟩:=h.2.1 n hn;exact⟨es,clock,e⟩
 have HNm:Hid (∀{q C t fr},w.heap[q]?=some (.cells C t fr)->¬q=bm n):=λ{q C t fr} hq e=>by
  obtain⟨es,clock,he⟩:=hmap;rw[e,he]at hq;cases hq
 have HJ0:Hid (rj w b num n bm (eX K []) w):=⟨h,Fr.refl _ _⟩
 clear hrow hv hok hK h hmap;go_enter aa.func81,aa.ntmps81;go_wp2;go_loopw [8] (λiv wr=>∃k:Nat,k<=rc.length/\iv=.int .i64 k/\Hid (rj w b num n bm (eX K ((rc.take k).map Rc.cg)) wr)) (λiv _=>rc.length-(intOf iv).toNat)
 case atStart=>exact⟨0,by omega,rfl,HJ0.out⟩
 case round=>
  obtain⟨k,hk,rfl,HJ⟩:=hrel;clear HJ0;by_cases hlt:k<rc.length
  ·obtain⟨g,cap',hsv',hgl,_,_,cc⟩:=dp.cells HRow.out hlt;cases hsv';obtain⟨cur,hcur⟩: ∃cur,w.heap[g]?=some (.cells cur 151 (0,0)):=by
    rcases HRow.out.2 with⟨e,_⟩|⟨g',cap',cur,e,_,hh,_⟩
    ·cases e
    ·cases e;exact⟨cur,hh⟩
   have hgn:=HNm.out hcur;have cw:∀j,j<6->wr.cell? ⟨g,k*6+j,none⟩=(jU rc[k].key rc[k].c rc[k].sv)[j]? :=λj hj=>by
    rw[World.cell?_of_block (HJ.out.fr.block g hgl hgn)];exact cc j hj
   have c0:=cw 0 (by omega);have c1:=cw 1 (by omega);have c2:=cw 2 (by omega);have c3:=cw 3 (by omega);have c4:=cw 4 (by omega);have c5:=cw 5 (by omega);clear cc cw;simp[jU]at c0 c1 c2 c3 c4 c5;have hvk:=HV.out rc[k] (Xe hlt);have hvr:aC wr rc[k].sv rc[k].l:=hvk.dO λq hq ⟨cur,hc⟩=>HJ.out.fr.block q hq (HNm.out hc);obtain⟨e1,e2,e3,e4⟩:=HOk.out.each rc[k].cg (Ys (Xe hlt));have HKey:Hid (eX K ((rc.take k).map Rc.cg) rc[k].key=K rc[k].key):=qZ λr hr e=>by
    obtain⟨x,hx,rfl⟩:=XP.1 hr;obtain⟨j,hj,rfl⟩:=YI hx;rw[List.length_take]at hj;have hp:=List.pairwise_iff_getElem.1 HOk.out.apart j k (by simp;omega) (by simp;omega) (by omega);simp only[Yd,YJ,Function.comp]at hp;rw[List.getElem_take]at e;exact hp e
   have HTk:Hid (eX K ((rc.take (k+1)).map Rc.cg)=bD (eX K ((rc.take k).map Rc.cg)) rc[k].key (lB (K rc[k].key) (rc[k].c,rc[k].l))):=(show _=_ by
    rw[Xq hlt,Yi,AG,<-HKey.out];rfl)
   have HFt:Hid (gx (K rc[k].key).1 (K rc[k].key).2/\(K rc[k].key).2.length<=10000):=HK.out rc[k].cg (Ys (Xe hlt));obtain⟨es,clock,m1,m2,m3,m4,m5⟩:=HJ.out.rep.2.1 n hn;obtain⟨svK,n1,n2⟩:=m3 rc[k].key e1;rw[HKey.out]at n1 n2;obtain⟨adv,capv,hsvv⟩:=pw hvk;obtain⟨adk,capk,hsvk⟩:=pw n2;clear HOk HK HKey hvk m3 m4 m5;simp only[Rc.cg]at e1 e2 e3 e4;have HRep:Hid (aB wr b bm num (eX K ((rc.take k).map Rc.cg))):=HJ.out.rep;have HFr:Hid (Fr (λq=>q=bm n) w wr):=HJ.out.fr;clear HJ;generalize eX K ((rc.take k).map Rc.cg)=Kk at*;generalize hKn:eX K ((rc.take (k+1)).map Rc.cg)=Kn at*;have HKn:Hid (eX K ((rc.take (k+1)).map Rc.cg)=Kn):=hKn;clear hKn;generalize rc[k].key=key at*;generalize rc[k].c=c at*;generalize rc[k].sv=sv at*;generalize rc[k].l=l at*;subst hsvv hsvk;generalize hcK:(K key).1=cK at*;generalize hlK:(K key).2=lK at*;have hkk:K key=(cK,lK):=Prod.ext hcK hlK;rw[hkk]at HTk;clear hkk hcK hlK;subst e1;have k1:(k:Int)<(rc.length:Int):=by omega
   have k0:(0:Int)<=(k:Int):=by omega
   obtain⟨W1,hW1⟩: ∃W,W=wr.alloc (.cells #[.string key,.int .i64 (c 0),.int .i64 (c 1),.int .i64 (c 2),.int .i64 (c 3),.slice adv l.length capv] 151):=⟨_,rfl⟩
   have hB1:Below wr.heap.size wr W1:=by rw[hW1];exact (AT _ _).alloc (iR _) _
   have hlk:(Instr.lookup 98 (.map (some (bm (ay key)))) (.string key) false).run aa.prog W1.drew=.ok (bL cK (.slice adk lK.length capk)) W1.drew:=by
    rw[oa W1.drew _ es clock key (aQ m1 hB1.drew) m2,n1]
   have hcW:W1.heap[wr.heap.size]?=some (.cells #[.string key,.int .i64 (c 0),.int .i64 (c 1),.int .i64 (c 2),.int .i64 (c 3),.slice adv l.length capv] 151):=by rw[hW1];exact BY wr _
   have HJn:Hid (Calls aa.prog 106 #[bL cK (.slice adk lK.length capk),bL c (.slice adv l.length capv)] W1.drew λe w2=>∃v',e=.returned (bL (aZ cK c) v')/\(∃es' clock',(Instr.mapUpdate 98 (.map (some (bm (ay key)))) (.string key) (bL (aZ cK c) v')).run aa.prog w2=.ok () (iu w2 (bm (ay key)) es' clock')/\rj w b num (ay key) bm Kn (iu w2 (bm (ay key)) es' clock'))/\(∀o,w2.cell? ⟨wr.heap.size,o,none⟩=#[.string key,.int .i64 (c 0),.int .i64 (c 1),.int .i64 (c 2),.int .i64 (c 3),.slice adv l.length capv][o]?)):=by
    refine (UG cK _ lK c _ l W1.drew (aC.below n2 hB1.drew) (aC.below hvr hB1.drew) (λv hv=>(HFt.out.1.iV v hv).1) (λv hv=>(e3.iV v hv).1) e3.sorted HFt.out.2 e4).mono ?_;rintro e w2 ⟨v',l',rfl,hp,hs,aD,hb2⟩;have hb2':Below wr.heap.size wr w2:=bc hB1.drew hb2;obtain rfl:=Ud HFt.out.1 e3.kY hp hs;obtain⟨es',clock',hrun,hk',hent,hstp⟩:=Ct (bm (ay key)) es clock key (bL (aZ cK c) v') m2;refine⟨v',rfl,⟨es',clock',hrun _ (aQ m1 hb2'),?_⟩,?_⟩
    ·have hset:=BU (w:=w2) (w1:=w2) (l:=mr cK lK c l) (c:=aZ cK c) (sv:=v') (AT _ _) (HRep.out.below hb2') (aQ m1 hb2') hk' hent hstp ⟨by have:=td e2;omega,e2⟩ (Tm (λi hi=>(HFt.out.1.ctx i hi).1) (λi hi=>(e3.kY.ctx i hi).1) e3.some) (aC.si (B:=W1.drew.heap.size) aD);refine⟨by rw[HTk.out];exact hset.1,?_⟩;exact (HFr.out.below hb2').grown hset.2 λx hx _=>by cases hx;rfl
    ·exact (al (aQ (W:=W1.drew) hcW hb2)).1
   have cW:=(al hcW).1;clear hcW hB1 m1 m2 n1 n2 hvr HRep HFr HTk HFt;go_upto_region 3 with fail;rw[<-hW1];clear hW1;go_region_with (first|(go_at_call 106;refine By HJn.out ?_;rintro e w2 ⟨v',rfl,⟨es',clock',hup,hjn⟩,cw2⟩;have HU:Hid (rj w b num (ay key) bm Kn (iu w2 (bm (ay key)) es' clock')):=hjn;clear hjn))
   all_goals
    go_wp2;exact⟨⟨k+1,by omega,by go_num,by rw[HKn.out];exact HU.out⟩,by simp[intOf];omega⟩
  ·obtain rfl:k=rc.length:=by omega
   have HJe:Hid (rj w b num n bm (eX K (rc.map Rc.cg)) wr):=(by have:=HJ.out;rw[Xx]at this;exact this)
   clear HJ;go_wp2;go_end0;exact⟨rfl,HJe.out.rep,HJe.out.fr⟩
end Go.Proofs.YtldmcdeibiclkaaGreatDoorQ
namespace Go.Proofs.YtldmcdeibiclkaaGreatDoorQ
variable {es:List MapEntry}{K:aw}{sg:List (Nat×List ai)}{a s b:ByteArray}{rs:List ai}{k:Nat}
theorem Ps(h:(Op.bytesLess a.toList b.toList||a.toList==b.toList)=false):b.data.toList<a.data.toList:=by
 simp only[Proofs.bytesLess_eq,Go.Lib.toList_data,Bool.or_eq_false_iff,Yz,beq_eq_false_iff_ne]at h;rcases List.le_total a.data.toList b.data.toList with h1|h1
 ·rcases Decidable.em (b.data.toList<a.data.toList) with h2|h2
  ·exact h2
  ·exact absurd (List.le_antisymm h1 (List.not_lt.1 h.1)) h.2
 ·rcases Decidable.em (b.data.toList<a.data.toList) with h2|h2
  ·exact h2
  ·exact absurd (List.le_antisymm (List.not_lt.1 h2) (List.not_lt.1 h.1)) h.2
theorem Nv(h:b.data.toList<a.data.toList):(Op.bytesLess a.toList b.toList||a.toList==b.toList)=false:=by
 simp only[Proofs.bytesLess_eq,Go.Lib.toList_data,Bool.or_eq_false_iff,Yz,beq_eq_false_iff_ne];exact⟨List.lt_asymm h,λe=>by rw[e]at h;exact List.lt_irrefl _ h⟩
theorem TV(h:1<=a.size):([]:List UInt8)<a.data.toList:=by
 cases hl:a.data.toList with
 |nil=>
  have:a.data.toList.length=0:=by rw[hl];rfl
  rw[XC]at this;have h':1<=a.data.size:=h;omega
 |cons x l=>exact List.Lex.nil
theorem j6.lt{n:Nat}(h:j6 n rs):∀(j i:Nat) (hij:i<j) (hj:j<rs.length),rs[i].1.data.toList<rs[j].1.data.toList
 |j+1,i,hij,hj=>by
  have h1:=Ps (h.jh (j+1) hj);simp only[nN,List.getElem?_eq_getElem (show j<rs.length by omega),XL,Yj]at h1;by_cases e:i=j
  ·subst e;exact h1
  ·exact List.lt_trans (j6.lt h j i (by omega) (by omega)) h1
theorem j6.apart{n:Nat}(h:j6 n rs):(rs.map (·.1)).Pairwise (·≠·):=by
 rw[List.pairwise_iff_getElem];intro i j hi hj hij e;simp only[YJ]at e
 have:=h.lt j i hij (by simpa using hj);rw[e]at this;exact List.lt_irrefl _ this
theorem j6.join{n:Nat}(h:j6 n rs)(hl:∀r∈rs,r.2.2.length<=10000):xK n rs:=
 ⟨λr hr=>⟨(h.snd r hr).2.2.2,(h.snd r hr).2.2.1,(h.snd r hr).1,hl r hr⟩,h.apart⟩
theorem gx.sound{c:Ctx}{l:List aj}(h:gx c l)(hk:cF c):lu c l:=by
 refine⟨?_,hk,h.iV,h.sorted⟩;have h0:=h.ctx 0 (by omega);have h1:=h.ctx 1 (by omega);have h2:=h.ctx 2 (by omega);have h3:=h.ctx 3 (by omega);simp only[gD,eJ,IN,Xs];omega
theorem Rh(hk:fX es){e:MapEntry}(he:e∈es)(hs:e.key=.string s):cH es s≠none:=λh=>xR hk h e he hs
theorem Ep(hk:fX es){x:List UInt8}(hx:x∈fg (de es)):cH es (dR x)≠none:=by
 rw[(nS _).mem_iff,de,XP]at hx;obtain⟨e,he,rfl⟩:=hx;obtain⟨k,hk'⟩:=hk e he;refine Rh hk he ?_;simp[pa,hk',th]
theorem MQ(h:cH es s≠none)(hk:fX es):s.data.toList∈fg (de es):=by
 rw[(nS _).mem_iff,de,XP];have: ∃e∈es,e.key=.string s:=by
  refine XD λhn=>h ?_;have key:∀l:List MapEntry,(∀e∈l,e∈es)->cH l s=none:=λl=>by
   induction l with
   |nil=>intro _;rfl
   |cons e l ih=>
    intro hl;obtain⟨k,hk'⟩:=hk e (hl e (by simp));have hne: ¬s=k:=λq=>hn ⟨e,hl e (by simp),by rw[hk',q]⟩;simp only[cH,hk',AI hne];exact ih λx hx=>hl x (by simp[hx])
  exact key es λe he=>he
 obtain⟨e,he,hs⟩:=this;exact⟨e,he,by simp[pa,hs]⟩
theorem Mu(ss:List (List UInt8)):(fg ss).Pairwise λa b=>a<=b:=by
 have:=List.pairwise_mergeSort (le:=λ(x y:List UInt8)=>decide (x<=y)) (λa b c h1 h2=>by simp at*;exact List.le_trans h1 h2) (λa b=>by simp;exact List.le_total a b) ss;exact this.imp λ{a b} hab=>by simpa using hab
theorem M6(hk:fX es)(h:(es.map (·.key)).Nodup):(de es).Nodup:=by
 unfold de;unfold List.Nodup at*;rw[List.pairwise_map] at*;refine List.Pairwise.imp_of_mem (λ{a b} ha hb hab e=>hab ?_) h;obtain⟨x,hx⟩:=hk a ha;obtain⟨y,hy⟩:=hk b hb;simp only[pa,hx,hy]at e;rw[hx,hy];congr 1;exact Yp (Array.ext' e)
theorem Cx(hk:fX es)(h:(es.map (·.key)).Nodup):(fg (de es)).Pairwise λa b=>a<b:=by
 have h1:=Mu (de es);have h2:(fg (de es)).Nodup:=(nS _).nodup_iff.2 (M6 hk h);refine List.Pairwise.imp (λ{a b} ⟨h1,h2⟩=>?_) (List.Pairwise.and h1 h2);rcases Decidable.em (a<b) with h3|h3
 ·exact h3
 ·exact absurd (List.le_antisymm h1 (List.not_lt.1 h3)) h2
theorem Kc{n clock:Nat}(hk:fX es)(hst:kH (λk=>ay k=n/\k.size<=281474976710656/\cV k=true) es clock)(aV:∀s,cH es s≠none->cF (K s).1)(hK:Fit K)(hl:es.length<=1000000):j6 n (dF K es) where
 len:=by rw[Ae];exact hl
 snd:=λr hr=>by
  obtain⟨x,hx,rfl⟩:=XP.1 hr;obtain⟨h1,h2,h3⟩:=sx hst.2.2.2 hx;exact⟨(hK _).1.sound (aV _ (Ep hk hx)),Xb (hK _).2 (by decide),h3,h1⟩
 jh:=λk hk'=>by
  refine Nv ?_;have hlen:(dF K es).length=(fg (de es)).length:=by rw[dF,Xn]
  cases k with
  |zero=>
   have hm:((dF K es)[0]).1=dR (fg (de es))[0]:=by simp[dF]
   rw[hm]
   have:=(sx hst.2.2.2 (Xe (show 0<(fg (de es)).length by omega))).2.2;exact TV (td this).1
  |succ k=>
   have h1:=List.pairwise_iff_getElem.1 (Cx hk hst.1) k (k+1) (by omega) (by omega) (by omega);simp only[nN,List.getElem?_eq_getElem (show k<(dF K es).length by omega),XL,Yj];simpa[dF,dR] using h1
theorem LS{w:World}{b num:Nat}{bm:Nat->Nat}(h:aB w b bm num K)(hK:Fit K)(hf:xa w bm){ns:List Nat}(h1:1<=ns.length/\ns.length<=64)(hns:∀n∈ns,n<64)(ha:ns.Pairwise (· < ·)):ky (bC w bm K ns) where
 len:=by rw[bC,Xn];exact h1
 num:=λg hg=>by
  obtain⟨n,hn,rfl⟩:=XP.1 hg;obtain⟨es,clock,e1,e2,e3,e4,e5⟩:=h.2.1 n (hns n hn)
  have:=hf n (hns n hn);refine⟨hns n hn,?_⟩;simp only[cM,e1]at this ⊢;exact Kc e2 e4 e5 hK (by omega)
 jh:=by
  rw[bC,Yd];show List.Pairwise _ (ns.map λn=>n);rw[List.map_id'];exact ha
def cm(K:aw)(sg:List (Nat×List ai)):aw:=eX K (sg.flatMap (·.2))
theorem Kj(h:k<sg.length):cm K (sg.take (k+1))=eX (cm K (sg.take k)) sg[k].2:=by
 rw[cm,Xq h,XU,AG];simp[cm]
theorem Qn(hok:ky sg)(h:k<sg.length):∀r∈sg[k].2,cm K (sg.take k) r.1=K r.1:=λr hr=>by
 refine qZ λx hx e=>?_;obtain⟨g,hg,hxg⟩:=YM.1 hx;obtain⟨j,hj,rfl⟩:=YI hg;rw[List.length_take]at hj;rw[List.getElem_take]at hxg;have h1:=((hok.num _ (Xe (show j<sg.length by omega))).2.snd x hxg).2.2.2;have h2:=((hok.num _ (Xe h)).2.snd r hr).2.2.2;have h3:=List.pairwise_iff_getElem.1 hok.jh j k (by simp;omega) (by simpa using h) (by omega);simp only[YJ]at h3;rw[e]at h1;omega
theorem WL(hok:ky sg):((sg.flatMap (·.2)).map (·.1)).Pairwise (·≠·):=by
 rw[List.pairwise_map,List.pairwise_flatMap];refine⟨λg hg=>by have:=(hok.num g hg).2.apart;rwa [List.pairwise_map]at this,?_⟩
 have:=hok.jh;rw[List.pairwise_map]at this;refine List.Pairwise.imp_of_mem (λ{a b} ha hb hab x hx y hy e=>?_) this;have h1:=((hok.num a ha).2.snd x hx).2.2.2;have h2:=((hok.num b hb).2.snd y hy).2.2.2;rw[e]at h1;omega
theorem IM(hok:ky sg){g:Nat×List ai}{r:ai}(hg:g∈sg)(hr:r∈g.2):cm K sg r.1=lB (K r.1) r.2:=
 Ci (WL hok) (YM.2 ⟨g,hg,hr⟩)
theorem UN(h:∀g∈sg,∀r∈g.2,r.1≠s):cm K sg s=K s:=
 qZ λr hr=>by obtain⟨g,hg,hrg⟩:=YM.1 hr;exact h g hg r hrg
end Go.Proofs.YtldmcdeibiclkaaGreatDoorQ
namespace Go.Proofs.YtldmcdeibiclkaaGreatDoorQ
variable {b kind B lev bt:Nat}{W W':World}{bm:Nat->Nat}{K:aw}{lv nv:Value}{ns:List Nat}{sg:List Nd}{t:TypeId}
open Go.RowKit
abbrev iQ(bm:Nat->Nat)(q:Nat):Prop:=∃n,n<64/\q=bm n
structure iS(w:World)(b num kind:Nat)(bm:Nat->Nat)(lv:Value)(K:aw)(ns:List Nat)(nv:Value)(W:World):Prop where
 box:W.heap[w.heap.size]?=some (.cells #[.int .u8 kind,lv] 132)
 rep:aB W b bm num K
 fr:Fr (iQ bm) w W
 row:fO W w.heap.size nv ns
theorem iS.below{w:World}{num:Nat}(h:iS w b num kind bm lv K ns nv W)(hb:Below W.heap.size W W'):iS w b num kind bm lv K ns nv W':=
 ⟨aQ h.box hb,h.rep.below hb,h.fr.below hb,ec h.row hb (iR _)⟩
theorem iS.join{w:World}{num n:Nat}{K':aw}(h:iS w b num kind bm lv K ns nv W)(hn:n<64)(hr:aB W' b bm num K')(hf:Fr (λq=>q=bm n) W W'):iS w b num kind bm lv K' ns nv W':=by
 obtain⟨es,clock,hm,_⟩:=h.rep.2.1 n hn;refine⟨hf.heap h.box (λe=>?_),hr,h.fr.trans (hf.weaken λq e=>⟨n,hn,e⟩),hf.row h.row λg o l c hv e=>?_⟩
 ·have:=h.box;rw[e,hm]at this;cases this
 ·have hrow:=h.row;rcases hrow.2 with⟨e',_⟩|⟨g',cap',cur,e',_,hh,_⟩
  ·rw[hv]at e';cases e'
  ·rw[hv]at e';cases e';rw[e,hm]at hh;cases hh
theorem iS.tell{w:World}{num:Nat}{sg:List (Nat×List ai)}(h:iS w b num kind bm lv K (sg.map (·.1)) nv W)(hok:ky sg)(hk:dK W bm K/\(Let.aK 84 (bC W bm K (sg.map (·.1)))).bytes.size<=140737488355328):
  Calls aa.prog 80 #[.pointer (some ⟨b,0,none⟩),.int .u8 84,nv] W λe w'=>e=.returned (.string (Let.aK 84 (bC w' bm K (sg.map (·.1)))).bytes)/\aB w' b bm num K/\Fr (iQ bm) w w':=by
 have hns:∀n∈sg.map (·.1),n<64:=λn hn=>by
  obtain⟨g,hg,rfl⟩:=XP.1 hn;exact (hok.num g hg).1
 have hlen:(sg.map (·.1)).length<=64:=by rw[Xn];exact hok.len.2
 generalize sg.map (·.1)=ns at*;have hl':ns.length<=64:=hlen;have ht:=Ax b num 84 w.heap.size bm K nv ns W h.rep hk.1 h.row (by decide) hl' hns hk.2;refine ht.mono λe w' hh=>?_;obtain⟨he,hb⟩:=hh;refine⟨?_,h.rep.below hb,h.fr.below hb⟩;have hs:bC w' bm K ns=bC W bm K ns:=XI λn hn=>by
  rw[wW (hb.block _ (h.rep.2.1 _ (hns n hn)).lt)]
 rw[hs];exact he
theorem Rp(b num kind:Nat)(bm:Nat->Nat)(K:aw)(lv:Value)(gs:List Gm)(sg:List (Nat×List ai))(w0 w:World)(h:aB w b bm num K)(hS:jb w0 w lv gs sg)(hok:ky sg)(hlen:∀g∈sg,∀r∈g.2,r.2.2.length<=10000)(hK:Fit K)(hkd:kind=83\/kind=84)(hK':∀W,aB W b bm num (cm K sg)->dK W bm (cm K sg)/\(Let.aK 84 (bC W bm (cm K sg) (sg.map (·.1)))).bytes.size<=140737488355328):
  Calls aa.prog 61 #[.pointer (some ⟨b,0,none⟩),.agg #[.int .u8 kind,lv]] w λe w'=>e=.returned (.string (if kind=84 then ⟨#[]⟩ else (Let.aK 84 (bC w' bm (cm K sg) (sg.map (·.1)))).bytes))/\aB w' b bm num (cm K sg)/\Fr (iQ bm) w w':=by
 obtain⟨i0,hi0,hz0,hz1,hz2⟩:=Xm aa.Ex;have hgl:gs.length=sg.length:=by rw[<-hS.is,Xn]
 have HGl:Hid (gs.length=sg.length):=hgl;clear hgl;obtain⟨ad,cap,rfl,hcap,hlc⟩:=jS hS.row;have hbl:=h.1.lt;have hsl:=hok.len;have HNm:Hid (∀{q:Nat} {C:Array Value} {t:TypeId} {fr:Nat×Nat},w.heap[q]?=some (.cells C t fr)->¬iQ bm q):=λ{q C t fr} hq ⟨n,hn,e⟩=>by
  obtain⟨es,clock,he,_⟩:=h.2.1 n hn;rw[e,he]at hq;cases hq
 have HS:Hid (jb w0 w (.slice ad gs.length cap) gs sg):=hS;have HOk:Hid (ky sg):=hok;have HLen:Hid (∀g∈sg,∀r∈g.2,r.2.2.length<=10000):=hlen;have HK:Hid (Fit K):=hK;have HK':Hid (∀W,aB W b bm num (cm K sg)->dK W bm (cm K sg)/\(Let.aK 84 (bC W bm (cm K sg) (sg.map (·.1)))).bytes.size<=140737488355328):=hK';have HJ0:Hid (iS w b num kind bm (.slice ad gs.length cap) (cm K (sg.take 0)) ((sg.map (·.1)).take 0) (.slice none 0 0) (w.alloc (.cells #[.int .u8 kind,.slice ad gs.length cap] 132))):=
  ⟨BY w _,h.below ((AT _ _).alloc (iR _) _),(Fr.refl _ _).alloc _,XZ _ _ _ _⟩
 clear h hS hok hlen hK hK';go_enter aa.func61,aa.ntmps61;go_wp2;go_loopw [5,11] (λnv iv wr=>∃k:Nat,k<=gs.length/\iv=.int .i64 k/\Hid (iS w b num kind bm (.slice ad gs.length cap) (cm K (sg.take k)) ((sg.map (·.1)).take k) nv wr)) (λ_ iv _=>gs.length-(intOf iv).toNat)
 case atStart=>exact⟨0,by omega,rfl,HJ0.out⟩
 case round=>
  obtain⟨k,hk,rfl,HJ⟩:=hrel;clear HJ0;have hsw:w.heap.size<wr.heap.size:=(Array.getElem?_eq_some_iff.1 HJ.out.box).1;by_cases hlt:k<gs.length
  ·have hlt':k<sg.length:=by have:=HGl.out;omega
   obtain⟨g,cap',hv',hgl',_,_,cc⟩:=qL HS.out.row (show 0<gs.length by omega);cases hv';obtain⟨cur,hcur⟩: ∃cur,w.heap[g]?=some (.cells cur 167 (0,0)):=by
    rcases HS.out.row.2 with⟨e,_⟩|⟨g',cap',cur,e,_,hh,_⟩
    ·cases e
    ·cases e;exact⟨cur,hh⟩
   have hgk:sg[k]=(gs[k].1,gs[k].2.2.map Rc.cg):=by
    have:=HS.out.is;subst this;simp
   have c0:wr.cell? ⟨g,k*2,none⟩=some (.int .i64 gs[k].1):=by
    rw[World.cell?_of_block (HJ.out.fr.block g hgl' (HNm.out hcur))];exact cc (k*2) _ (by omega) (sE gs k hlt).1
   have c1:wr.cell? ⟨g,k*2+1,none⟩=some gs[k].2.1:=by
    rw[World.cell?_of_block (HJ.out.fr.block g hgl' (HNm.out hcur))];exact cc (k*2+1) _ (by omega) (sE gs k hlt).2
   have hnum:=HOk.out.num sg[k] (Xe hlt');have hn64:gs[k].1<64:=by have:=hnum.1;rw[hgk]at this;exact this
   have hrc:=HS.out.lI gs[k] (Xe hlt);have HSJ:Hid (∀W,Below wr.heap.size wr W->Calls aa.prog 81 #[.map (some (bm gs[k].1)),gs[k].2.1] W λe w'=>e=.returned (.tuple #[])/\aB w' b bm num (cm K (sg.take (k+1)))/\Fr (λq=>q=bm gs[k].1) W w'):=λW hW=>by
    have hkeep:∀{q:Nat} {C:Array Value} {t:TypeId} {fr:Nat×Nat},w.heap[q]?=some (.cells C t fr)->W.heap[q]?=some (.cells C t fr):=λ{q:Nat} {C:Array Value} {t:TypeId} {fr:Nat×Nat} hq=>by
     rw[hW.block q (Xc (Array.getElem?_eq_some_iff.1 hq).1 HJ.out.fr.size)];exact HJ.out.fr.heap hq (HNm.out hq)
    have hkt:bX (λ_=>True) w W:=λq cs t fr hq _=>hkeep hq;have hj:=WT b num gs[k].1 w0.heap.size bm (cm K (sg.take k)) gs[k].2.1 gs[k].2.2 W (HJ.out.rep.below hW) hn64 (hkt.row hrc.row trivial) (λr hr=>aC.si (B:=w0.heap.size) (hkt.row (hrc.rM r hr) trivial))
     (by have:=hnum.2.join (HLen.out sg[k] (Xe hlt'));rw[hgk]at this;exact this)
     (λr hr=>by
      rw[Qn HOk.out hlt' r (by rw[hgk];exact hr)];exact HK.out r.1)
    rw[Kj hlt',hgk];exact hj
   have HTn:Hid ((sg.map (·.1)).take (k+1)=(sg.map (·.1)).take k++ [gs[k].1]):=(show _=_ by
    rw[Xq (by simpa using hlt')];simp[hgk])
   have hlk:((sg.map (·.1)).take k).length=k:=by simp;omega
   obtain⟨adr,bS,hrv⟩:=gP hrc.row;rw[hrv]at c1 HSJ;have cseg:=HJ.out.rep.1.tS hn64;clear cc hrc hgk HOk HLen HK hnum;generalize gs[k].1=n at*;generalize gs[k].2.2.length=rl at*;generalize cm K (sg.take k)=Kk at*;generalize hKn:cm K (sg.take (k+1))=Kn at*;have HKn:Hid (cm K (sg.take (k+1))=Kn):=hKn;clear hKn;generalize (sg.map (·.1)).take k=nk at*;have a1:(k:Int)<(gs.length:Int):=by omega
   have a0:(0:Int)<=(k:Int):=by omega
   have m0:(0:Int)<=(n:Int):=by omega
   have m1:(n:Int)<64:=by omega
   have cseg':wr.cell? ⟨b,1+n,none⟩=some (.map (some (bm n))):=by rw[Yk];exact cseg
   clear cseg;obtain⟨W1,hW1⟩: ∃W,W=wr.alloc (.cells #[.int .i64 n,.slice adr rl bS] 167):=⟨_,rfl⟩
   have hB1:Below wr.heap.size wr W1:=by rw[hW1];exact (AT _ _).alloc (iR _) _
   have hcW:W1.heap[wr.heap.size]?=some (.cells #[.int .i64 n,.slice adr rl bS] 167):=by rw[hW1];exact BY wr _
   have cs1:=aU cseg' hB1;have hbr:b<wr.heap.size:=Xc hbl HJ.out.fr.size;have HJn:Hid (Calls aa.prog 81 #[.map (some (bm n)),.slice adr rl bS] W1.drew λe w2=>e=.returned (.tuple #[])/\iS w b num kind bm (.slice (some ⟨g,0,none⟩) gs.length cap) Kn nk u5 w2/\w2.heap[wr.heap.size]?=some (.cells #[.int .i64 n,.slice adr rl bS] 167)):=by
    refine (HSJ.out W1.drew hB1.drew).mono ?_;rintro e w2 ⟨he,hr2,hf2⟩;refine⟨he,(HJ.out.below hB1.drew).join hn64 hr2 hf2,hf2.heap (w:=W1.drew) hcW λe=>?_⟩;obtain⟨es,clock,hm,_⟩:=HJ.out.rep.2.1 n hn64
    have:=(Array.getElem?_eq_some_iff.1 hm).1;omega
   have cW:=(al hcW).1;have cW0:=cW 0;have cW1:=cW 1;clear hcW cW HSJ HJ hB1 cseg';go_upto_region 5 with fail;rw[<-hW1];clear hW1;go_region_with (first|(go_at_call 81;refine By HJn.out ?_;rintro e w2 ⟨rfl,hj2,hc2⟩;have HJ2:Hid (iS w b num kind bm (.slice (some ⟨g,0,none⟩) gs.length cap) Kn nk u5 w2):=hj2;have c20:=(al hc2).1 0;clear hj2 hc2))
   all_goals
    obtain⟨adn,capn,rfl⟩:=gP HJ2.out.row;have hs2:=HJ2.out.fr.size;have hs2':w.heap.size<w2.heap.size:=(Array.getElem?_eq_some_iff.1 HJ2.out.box).1;have HRa:Hid ((w2.alloc (.cells #[.int .i64 n] 3)).ownsRow w.heap.size 3 1 (.slice adn nk.length capn) nk.length (nk.map λ(n:Nat)=>Value.int .i64 (n:Int))):=Xh HJ2.out.row _;go_wp2_with (at_builtin;refine jm _ rfl _ _ _ rfl w.heap.size 3 i0 _ 1 8 aa.underlying22 hi0 hz0 hz1 hz2 rfl (by omega) (.slice adn nk.length capn) _ _ rfl HRa.out ⟨w2.heap.size,0,none⟩ 1 1 _ rfl (by rfl) (Xr (BY w2 _)) (by simp[Value.oneCell']) (by omega) (by unfold maxLen;omega) (by omega) (by simp;omega) ?_;intro g7 cap7 w7 hown7 hgr7;have HO7:Hid (w7.ownsRow w.heap.size 3 1 (.slice (some ⟨g7,0,none⟩) (nk.length+1) cap7) (nk.length+1) ((nk.map λ(n:Nat)=>Value.int .i64 (n:Int))++ [.int .i64 n])):=hown7;have HG7:Hid _:=hgr7;clear hown7 hgr7)
    refine⟨⟨k+1,by omega,by go_num,?_⟩,by simp[intOf];omega⟩;have hJa:=HJ2.out.below ((AT _ _).alloc (iR _) (.cells #[.int .i64 n] 3));rw[HKn.out,HTn.out];show iS _ _ _ _ _ _ _ _ _ _;refine⟨HG7.out.other HRa.out hJa.box (by decide),hJa.rep.dO ?_ ?_ ?_,?_,(by have:=fO.snoc HO7.out;rw[hlk]at this;exact this)⟩
    ·obtain⟨⟨A,hA,_⟩,_⟩:=hJa.rep;rw[hA];exact HG7.out.other HRa.out hA (by decide)
    ·intro m hm;obtain⟨es,clock,he,_⟩:=hJa.rep.2.1 m hm;rw[he];exact HG7.out.map HRa.out he
    ·intro q _ ⟨cur,hc⟩;rw[hc];exact HG7.out.other HRa.out hc (by decide)
    ·exact hJa.fr.grown HG7.out.1 λq e hq=>by have:=ql HRa.out e;omega
  ·obtain rfl:k=gs.length:=by omega
   have HJe:Hid (iS w b num kind bm (.slice ad gs.length cap) (cm K sg) (sg.map (·.1)) u5 wr):=(by
    have:=HJ.out;have hgl:=HGl.out;rw[hgl,Xx,show (sg.map (·.1)).take sg.length=sg.map (·.1) from YA (by simp)]at this;rw[<-hgl]at this;exact this)
   clear HJ;have c0:=(al HJe.out.box).1 0;rcases hkd with rfl|rfl
   ·have HT:Hid (Calls aa.prog 80 #[.pointer (some ⟨b,0,none⟩),.int .u8 84,u5] wr λe w'=>e=.returned (.string (Let.aK 84 (bC w' bm (cm K sg) (sg.map (·.1)))).bytes)/\aB w' b bm num (cm K sg)/\Fr (iQ bm) w w'):=HJe.out.tell HOk.out (HK'.out wr HJe.out.rep);clear HK' HK HLen HOk HS;go_wp2_with (go_at_call 80;refine By HT.out ?_;rintro e w9 ⟨rfl,hr9,hf9⟩)
    go_ret;exact⟨by simp,hr9,hf9⟩
   ·clear HK' HK HLen HOk HS;go_wp2;go_ret;exact⟨by simp,HJe.out.rep,HJe.out.fr⟩
def ir(K:aw):Let->aw
 |.aK _ sg=>cm K sg
 |_=>K
def yH(w w':World)(bm:Nat->Nat)(K:aw):Let->Option Let
 |.root d=>lR w bm K d
 |.nodes lev sg=>lG w bm K lev sg
 |.aK kind sg=>if kind=84 then none else some (.aK 84 (bC w' bm (cm K sg) (sg.map (·.1))))
structure uf(b num:Nat)(bm:Nat->Nat)(K:aw)(w:World)(L:Let):Prop where
 rep:aB w b bm num K
 xz:dK w bm K
 fit:Fit K
 ok:L.Ok
 size:L.bytes.size<=140737488355328
 out:∀W,aB W b bm num K->∀ns:List Nat,ns.length<=64->(∀n∈ns,n<64)->(Let.aK 83 (bC W bm K ns)).bytes.size<=140737488355328
 aK:∀kind sg,L=.aK kind sg->(∀g∈sg,∀r∈g.2,r.2.2.length<=10000)/\∀W,aB W b bm num (cm K sg)->dK W bm (cm K sg)/\(Let.aK 84 (bC W bm (cm K sg) (sg.map (·.1)))).bytes.size<=140737488355328
theorem Qu{w:World}{num:Nat}(h:aB w b bm num K)(hb:Below w.heap.size w W)(d:Int):lR W bm K d=lR w bm K d:=by
 unfold lR;rw[rR h hb (by omega) (by decide),uX h hb (by omega) (by simp)]
theorem Lt{w:World}{num:Nat}(h:aB w b bm num K)(hb:Below w.heap.size w W)(hl:lev<3)(hns:∀g∈sg,g.1<4 ^ lev):bJ (bR W bm K (lev+1)) sg=bJ (bR w bm K (lev+1)) sg:=by
 have hg:∀g∈sg,dL (bR W bm K (lev+1)) g 4=dL (bR w bm K (lev+1)) g 4:=λg hg=>by
  unfold dL;congr 1;refine YK λj hj=>?_
  have:=hns g hg;have hj':=List.mem_range.1 hj;rw[rR h hb (by omega) (by rw[XH];omega)]
 exact k9 sg hg
theorem Me{w:World}{num:Nat}(h:aB w b bm num K)(hb:Below w.heap.size w W)(hns:∀n∈ns,n<64):bC W bm K ns=bC w bm K ns:=
 XI λn hn=>by rw[wW (hb.block _ (h.2.1 n (hns n hn)).lt)]
theorem S5{w:World}{num:Nat}(h:aB w b bm num K)(hb:Below w.heap.size w W)(hl:lev<3)(hns:∀g∈sg,g.1<4 ^ lev):lG W bm K lev sg=lG w bm K lev sg:=by
 have hd:=vq (D:=bR w bm K (lev+1)) hns;unfold lG;rw[Lt h hb hl hns];by_cases h0:bJ (bR w bm K (lev+1)) sg= []
 ·rw[AS h0,AS h0]
 ·rw[AI h0,AI h0];by_cases h2:lev=2
  ·subst h2;rw[AS rfl,AS rfl,Me h hb λn hn=>hd n hn]
  ·rw[AI h2,AI h2,uX h hb (by omega) hd]
theorem Kb(W:World)(v:Value):(Instr.typeAssert (.iface 81 v) 93 81 true).run aa.prog W=.ok (.tuple #[v,.bool true]) W:=by kernel_rfl
theorem Q4(W:World)(v:Value):(Instr.typeAssert (.iface 128 v) 93 81 true).run aa.prog W=.ok (.tuple #[.agg #[.int .u64 0],.bool false]) W:=by kernel_rfl
theorem Nh(W:World)(v:Value):(Instr.typeAssert (.iface 128 v) 93 128 true).run aa.prog W=.ok (.tuple #[v,.bool true]) W:=by kernel_rfl
theorem SL(W:World)(v:Value):(Instr.typeAssert (.iface 132 v) 93 81 true).run aa.prog W=.ok (.tuple #[.agg #[.int .u64 0],.bool false]) W:=by kernel_rfl
theorem Rk(W:World)(v:Value):(Instr.typeAssert (.iface 132 v) 93 128 true).run aa.prog W=.ok (.tuple #[.agg #[.int .i64 0,.slice none 0 0],.bool false]) W:=by kernel_rfl
theorem Ix(W:World)(v:Value):(Instr.typeAssert (.iface 132 v) 93 132 true).run aa.prog W=.ok (.tuple #[v,.bool true]) W:=by kernel_rfl
theorem Rl(b:Nat)(d:Int)(R:ByteArray)(w:World)(P:World->Prop)(hR:∀W,Below w.heap.size w W->Calls aa.prog 59 #[.pointer (some ⟨b,0,none⟩),.agg #[.int .u64 d]] W λe w'=>e=.returned (.string R)/\P w'):
  Calls aa.prog 35 #[.pointer (some ⟨b,0,none⟩),.iface 81 (.agg #[.int .u64 d])] w λe w'=>e=.returned (.string R)/\P w':=by
 have HR:Hid (∀W,Below w.heap.size w W->Calls aa.prog 59 #[.pointer (some ⟨b,0,none⟩),.agg #[.int .u64 d]] W λe w'=>e=.returned (.string R)/\P w'):=hR;clear hR;have eas_11:=Kb;go_enter aa.func35,aa.ntmps35;go_wp2_with (go_at_call 59;refine By (HR.out _ ((AT _ _).alloc (iR _) _)) ?_;rintro e w2 ⟨rfl,h2⟩)
 go_ret;exact⟨rfl,h2⟩
theorem VG(b lev len cap:Nat)(ad:Option Addr)(R:ByteArray)(w:World)(P:World->Prop)(hR:∀W,Below w.heap.size w W->Calls aa.prog 60 #[.pointer (some ⟨b,0,none⟩),.agg #[.int .i64 lev,.slice ad len cap]] W λe w'=>e=.returned (.string R)/\P w'):
  Calls aa.prog 35 #[.pointer (some ⟨b,0,none⟩),.iface 128 (.agg #[.int .i64 lev,.slice ad len cap])] w λe w'=>e=.returned (.string R)/\P w':=by
 have HR:Hid (∀W,Below w.heap.size w W->Calls aa.prog 60 #[.pointer (some ⟨b,0,none⟩),.agg #[.int .i64 lev,.slice ad len cap]] W λe w'=>e=.returned (.string R)/\P w'):=hR;clear hR;have eas_21:=Q4;have eas_22:=Nh;go_enter aa.func35,aa.ntmps35;go_wp2_with (go_at_call 60;refine By (HR.out _ ((AT _ _).alloc (iR _) _)) ?_;rintro e w2 ⟨rfl,h2⟩)
 go_ret;exact⟨rfl,h2⟩
theorem SO(b kind len cap:Nat)(ad:Option Addr)(P:Ending->World->Prop)(w:World)(hR:∀W,Below w.heap.size w W->Calls aa.prog 61 #[.pointer (some ⟨b,0,none⟩),.agg #[.int .u8 kind,.slice ad len cap]] W λe w'=>∃R,e=.returned (.string R)/\P e w'):
  Calls aa.prog 35 #[.pointer (some ⟨b,0,none⟩),.iface 132 (.agg #[.int .u8 kind,.slice ad len cap])] w λe w'=>∃R,e=.returned (.string R)/\P e w':=by
 have HR:Hid (∀W,Below w.heap.size w W->Calls aa.prog 61 #[.pointer (some ⟨b,0,none⟩),.agg #[.int .u8 kind,.slice ad len cap]] W λe w'=>∃R,e=.returned (.string R)/\P e w'):=hR;clear hR;have eas_31:=SL;have eas_32:=Rk;have eas_33:=Ix;go_enter aa.func35,aa.ntmps35;go_wp2_with (go_at_call 61;refine By (HR.out _ ((AT _ _).alloc (iR _) _)) ?_;rintro e w2 ⟨R,rfl,h2⟩)
 go_ret;exact⟨R,rfl,h2⟩
def zR(b num:Nat)(bm:Nat->Nat)(K:aw)(w:World)(L:Let)(R:ByteArray)(w':World):Prop:=
 R=iU (yH w w' bm K L)/\aB w' b bm num (ir K L)/\Fr (λq=>iQ bm q/\∃k sg,L=.aK k sg) w w'
theorem WR(b num:Nat)(bm:Nat->Nat)(K:aw)(L:Let)(v:Value)(w0 w:World)(h:uf b num bm K w0 L)(hv:sj w0 w v L)(hb:Below w0.heap.size w0 w):
  Calls aa.prog 35 #[.pointer (some ⟨b,0,none⟩),v] w λe w'=>∃R,e=.returned (.string R)/\zR b num bm K w0 L R w':=by
 cases L with
 |root d=>
  obtain rfl:=hv;refine (Rl b d (iU (lR w0 bm K d)) w (λw'=>Below w0.heap.size w0 w') λW hW=>?_).mono ?_
  ·have hB:=bc hb hW
   have:=QI b num bm K d W (h.rep.below hB) (h.xz.below h.rep hB);rw[Qu h.rep hB]at this;exact this.mono λe w' ⟨he,hb'⟩=>⟨he,bc hB hb'⟩
  ·rintro e w' ⟨rfl,hB⟩;exact⟨_,rfl,rfl,h.rep.below hB,Fr.iY hB⟩
 |nodes lev sg=>
  obtain⟨lv,rfl,hrow⟩:=hv;obtain⟨ad,cap,rfl⟩:=gP hrow;have ho:kV lev sg:=h.ok;refine (VG b lev _ cap ad (iU (lG w0 bm K lev sg)) w (λw'=>Below w0.heap.size w0 w') λW hW=>?_).mono ?_
  ·have hB:=bc hb hW
   have:=Tn b num lev w0.heap.size bm K _ sg W (h.rep.below hB) (h.xz.below h.rep hB) (ec hrow hW (iR _)) ho.low ho.len.2 (λg hg=>(ho.num g hg).1) ho.jh (h.out W (h.rep.below hB));rw[S5 h.rep hB ho.low λg hg=>(ho.num g hg).1]at this;exact this.mono λe w' ⟨he,hb'⟩=>⟨he,bc hB hb'⟩
  ·rintro e w' ⟨rfl,hB⟩;exact⟨_,rfl,rfl,h.rep.below hB,Fr.iY hB⟩
 |aK kind sg=>
  obtain⟨lv,gs,rfl,hS⟩:=hv;obtain⟨ad,cap,rfl⟩:=gP hS.row;obtain⟨hkd,hsg⟩:=h.ok;obtain⟨h1,h2⟩:=h.aK kind sg rfl;refine (SO b kind _ cap ad (λe w'=>e=.returned (.string (if kind=84 then ⟨#[]⟩ else (Let.aK 84 (bC w' bm (cm K sg) (sg.map (·.1)))).bytes))/\aB w' b bm num (cm K sg)/\Fr (iQ bm) w0 w') w λW hW=>?_).mono ?_
  ·have hB:=bc hb hW;refine (Rp b num kind bm K _ gs sg w0 W (h.rep.below hB) (hS.dO (T:=λ_=>True) (bX.below hW) trivial trivial trivial) hsg h1 h.fit hkd h2).mono ?_;rintro e w' ⟨rfl,hr,hf⟩;exact⟨_,rfl,rfl,hr,(Fr.iY hB).trans hf⟩
  ·rintro e w' ⟨R,rfl,he,hr,hf⟩;refine⟨_,rfl,?_,hr,hf.weaken λq hq=>⟨hq,kind,sg,rfl⟩⟩;injection he with he;injection he with he;rw[he,yH];by_cases hk:kind=84
   ·rw[AS hk,AS hk];rfl
   ·rw[AI hk,AI hk];rfl
theorem Nq(b num:Nat)(bm:Nat->Nat)(K:aw)(L:Let)(w:World)(h:uf b num bm K w L):
  Calls aa.prog 18 #[.pointer (some ⟨b,0,none⟩),.string L.bytes] w λe w'=>∃R,e=.returned (.tuple #[.string R,.int .i64 0])/\zR b num bm K w L R w':=by
 have HRd:Hid _:=OO L w h.ok h.size;have HA:Hid (∀W v,sj w W v L->Below w.heap.size w W->Calls aa.prog 35 #[.pointer (some ⟨b,0,none⟩),v] W λe w'=>∃R,e=.returned (.string R)/\zR b num bm K w L R w'):=λW v hv hb=>WR b num bm K L v w W h hv hb;clear h;go_enter aa.func18,aa.ntmps18;go_wp2_with (first
  |(go_at_call 34;refine By HRd.out ?_;rintro e w1 ⟨v,rfl,hl,hb⟩)
  |(go_at_call 35;refine By (HA.out _ _ hl hb) ?_;rintro e w2 ⟨R,rfl,hp⟩))
 go_ret2;exact⟨R,rfl,hp⟩
section
section
variable {X Y:Nat->Prop}{w w1 w2:World}
theorem Fr.setCells(h:Fr X w w1)(hb:w.heap.size<=b\/X b):∀(vs:List Value) (o:Nat),Fr X w (w1.setCells b o vs):=by
 intro vs;induction vs generalizing w1 with
 |nil=>intro o;exact h
 |cons v vs ih=>intro o;rw[World.setCells];exact ih (h.setCell hb v) (o+1)
end
end
theorem OQ(bt nr cap:Nat)(ad:Option Addr)(w:World)(h0:w.cell? ⟨bt,0,none⟩=some (.slice ad nr cap))(bA:nr<=4)(hr:∀i,i<nr->∀W,Below w.heap.size w W->Calls aa.prog 32 #[.pointer (some ⟨bt,0,none⟩),.int .i64 i] W λe w'=>e=.returned (.bool true)/\Below W.heap.size W w'):
  Calls aa.prog 16 #[.pointer (some ⟨bt,0,none⟩)] w λe w'=>e=.returned (.bool true)/\Below w.heap.size w w':=by
 have HR:Hid _:=hr;have H0:Hid (∀W,Below w.heap.size w W->W.cell? ⟨bt,0,none⟩=some (.slice ad nr cap)):=λW hW=>aU h0 hW;clear hr;go_enter aa.func16,aa.ntmps16;go_wp2;go_loopw [3] (λiv wr=>∃i:Nat,i<=nr/\iv=.int .i64 i/\Below w.heap.size w wr) (λiv _=>nr-(intOf iv).toNat)
 case atStart=>exact⟨0,by omega,rfl,AT _ _⟩
 case round=>
  obtain⟨i,hi,rfl,hbel⟩:=hrel;have c0:=H0.out _ hbel;by_cases hlt:i<nr
  ·have i1:(i:Int)<(nr:Int):=by omega
   go_wp2_with (go_at_call 32;refine By (HR.out i hlt _ hbel) ?_;rintro e w1 ⟨rfl,hb1⟩;have B1:=bc hbel hb1;clear hb1)
   exact⟨⟨i+1,by omega,by go_num,B1⟩,by simp[intOf];omega⟩
  ·have hie: ¬(i:Int)<(nr:Int):=by omega
   go_wp2;go_ret;exact⟨rfl,hbel⟩
abbrev Mem:=Ctx×(Nat->Bool)
def cq(m:Mem):List Value:=[.int .i64 (m.1 0),.int .i64 (m.1 1),.int .i64 (m.1 2),.int .i64 (m.1 3)]++(bits m.2).toList
def ik(l:List Mem):List Value:=l.flatMap cq
theorem lh(m:Mem):(cq m).length=84:=by simp[cq,jD]
theorem U0(a b:List Mem):ik (a++b)=ik a++ik b:=by simp[ik]
theorem AN:∀(l:List Mem) (r:Nat) (h:r<l.length) (j:Nat),j<84->(ik l)[r*84+j]?=(cq l[r])[j]?
 |m::l,0,_,j,hj=>by
  simp only[ik,XM,Nat.zero_mul,Nat.zero_add,List.getElem_cons_zero];rw[List.getElem?_append_left (by rw[lh];exact hj)]
 |m::l,r+1,h,j,hj=>by
  have:=AN l r (by simpa using h) j hj;simp only[ik,XM,List.getElem_cons_succ] at*;rw[List.getElem?_append_right (by rw[lh];omega),lh,show (r+1)*84+j-84=r*84+j by omega];exact this
structure au where
 nr:Nat
 br:Nat
 bS:Nat
 R:Array Value
 b:Nat->Nat
 bm:Nat->Nat->Nat
 K:Nat->aw
 ws:List Wr
 wv:Value
 kn:Nat->Nat->Nat->Bool
 go:Nat->Nat->Nat->Bool
 mem:Nat->List Mem
 gm:Nat->Nat
 kF:Nat->Nat
 A:Array Value
abbrev au.mv(g:au)(k:Nat):Value:=.slice (some ⟨g.gm k,0,none⟩) (g.mem k).length (g.kF k)
structure aP(B:Nat)(w:World)(bt:Nat)(g:au):Prop where
 hB:B<=bt/\(∀i n,i<g.nr->n<64->B<=g.bm i n)
 hT:w.heap[bt]?=some (.cells g.A 42)
 hA:g.A.size=1939
 h0:g.A[0]?=some (.slice (some ⟨g.br,0,none⟩) g.nr g.bS)
 hR:w.heap[g.br]?=some (.cells g.R 29)
 fh:∀i,i<g.nr->g.R[i]?=some (.pointer (some ⟨g.b i,0,none⟩))
 bj:∀i,i<g.nr->aB w (g.b i) (g.bm i) i (g.K i)
 fa:∀i j n m,i<g.nr->j<g.nr->n<64->m<64->g.bm i n=g.bm j m->i=j
 h1:g.A[1]?=some g.wv
 hw:w.ownsRow B 115 4 g.wv g.ws.length (fq g.ws)
 aV:∀i k j,i<4->k<3->j<80->g.A[2+i*240+k*80+j]?=some (.bool (g.kn i k j))
 hgo:∀i k j,i<4->k<3->j<80->g.A[962+i*240+k*80+j]?=some (.bool (g.go i k j))
 eV:∀k,k<3->g.A[1922+k]?=some (g.mv k)
 cL:∀k,k<3->w.ownsRow B 74 84 (g.mv k) (g.mem k).length (ik (g.mem k))
 eP:∀k l,k<3->l<3->g.gm k=g.gm l->k=l
 j7:∀i k,i<4->k<3->g.A[1927+i*3+k]?=some (.int .i64 (bF g.ws i k))
structure bz(ks:Nat->ByteArray)(g:au):Prop where
 bA:1<=g.nr/\g.nr<=4
 hlen:g.ws.length<=80
 eF:jl g.ws
 dD:∀x∈g.ws,x.2.2.2.size<=12
 dq:∀x∈g.ws,x.1<4
 cU:∀i k,i<g.nr->k<3->Good g.ws k (g.K i (ks k)).1 (g.kn i k)
 aD:∀i k,i<g.nr->k<3->(g.K i (ks k)).1 i=bF g.ws i k
 hex:∀i k,i<g.nr->k<3->(g.K i (ks k)).2=expected g.ws (g.kn i k) (g.go i k) k
 iC:∀i k j,i<g.nr->k<3->g.ws.length<=j->g.go i k j=false
 jQ:∀k m,k<3->m∈g.mem k->Good g.ws k m.1 m.2
 jr:∀k,k<3->1<=(g.mem k).length/\(g.mem k).length<=30
 eT:∀i,i<g.nr->ji (g.K i)
 fx:∀i,i<g.nr->∀s,cF (g.K i s).1->∃k,k<3/\s=ks k
 dH:∀i k j,i<g.nr->k<3->g.go i k j=true->g.kn i k j=true
structure dY(w:World)(ks:Nat->ByteArray):Prop where
 cell:∀k,k<3->w.cell? ⟨0,k,none⟩=some (.string (ks k))
 key:∀k,k<3->cV (ks k)=true/\(ks k).size<=8
 ne:∀k l,k<3->l<3->ks k=ks l->k=l
structure Apart(X:Nat->Prop)(w:World)(bt:Nat)(g:au):Prop where
 t: ¬X bt
 r: ¬X g.br
 rep:∀i,i<g.nr->¬X (g.b i)
 map:∀i n,i<g.nr->n<64->¬X (g.bm i n)
 iV:∀k cur,w.heap[k]?=some (.cells cur 144 (0,0))->¬X k
 wr:∀k cur,w.heap[k]?=some (.cells cur 115 (0,0))->¬X k
 mem:∀k cur,w.heap[k]?=some (.cells cur 74 (0,0))->¬X k
theorem Fr.iL{X:Nat->Prop}{w w1:World}{n size:Nat}{v:Value}{xs:List Value}(h:Fr X w w1)(hr:w.ownsRow B t size v n xs)(hn:∀k cur,w.heap[k]?=some (.cells cur t (0,0))->¬X k):w1.ownsRow B t size v n xs:=by
 obtain⟨h1,h2⟩:=hr;refine⟨h1,?_⟩;rcases h2 with h2|⟨g,cap,cur,hv,hg,hh,r⟩
 ·exact Or.inl h2
 ·exact Or.inr ⟨g,cap,cur,hv,hg,h.heap hh (hn _ _ hh),r⟩
theorem aP.fr{X:Nat->Prop}{w w1:World}{g:au}(hn:aP B w bt g)(h:Fr X w w1)(ha:Apart X w bt g):aP B w1 bt g where
 hB:=hn.hB
 hT:=h.heap hn.hT ha.t
 hA:=hn.hA
 h0:=hn.h0
 hR:=h.heap hn.hR ha.r
 fh:=hn.fh
 bj:=λi hi=>h.rep (hn.bj i hi) (ha.rep i hi) (λn hm=>ha.map i n hi hm) ha.iV
 fa:=hn.fa
 h1:=hn.h1
 hw:=h.iL hn.hw ha.wr
 aV:=hn.aV
 hgo:=hn.hgo
 eV:=hn.eV
 cL:=λk hk=>h.iL (hn.cL k hk) ha.mem
 eP:=hn.eP
 j7:=hn.j7
theorem aP.ue{w:World}{bx:Nat}{g:au}{C:Array Value}(hn:aP B w bt g)(hx:w.heap[bx]?=some (.cells C t))(h1:t≠42)(h2:t≠29)(h3:t≠101)(h4:t≠144)(h5:t≠115)(h6:t≠74):Apart (λk=>k=bx) w bt g where
 t:=λe=>by have:=hn.hT;rw[e,hx]at this;cases this;exact h1 rfl
 r:=λe=>by have:=hn.hR;rw[e,hx]at this;cases this;exact h2 rfl
 rep:=λi hi e=>by obtain⟨⟨A,hA,_⟩,_⟩:=hn.bj i hi;rw[e,hx]at hA;cases hA;exact h3 rfl
 map:=λi n hi hm e=>by obtain⟨_,hS,_⟩:=hn.bj i hi;obtain⟨es,clock,h,_⟩:=hS n hm;rw[e,hx]at h;cases h
 iV:=λk cur h e=>by rw[e,hx]at h;cases h;exact h4 rfl
 wr:=λk cur h e=>by rw[e,hx]at h;cases h;exact h5 rfl
 mem:=λk cur h e=>by rw[e,hx]at h;cases h;exact h6 rfl
theorem JK(k:Nat)(ks:Nat->ByteArray)(w:World)(hK:dY w ks)(hk:k<3):
  Calls aa.prog 51 #[.int .i64 k] w λe w'=>e=.returned (.int .i64 (ay (ks k)))/\w'=w:=by
 have hc:=hK.cell k hk;have hs:=(hK.key k hk).2;have HS:Hid (Calls aa.prog 13 #[.string (ks k)] w λe w'=>e=.returned (.int .u64 (cS (ks k)))/\w'=w):=wP (ks k) w (by unfold maxLen;omega);have HN:=Az (ks k);have hr:0<=cS (ks k)%64/\cS (ks k)%64<64:=⟨YL _ (by decide),Int.emod_lt_of_pos _ (by decide)⟩
 have k1:(k:Int)<3:=by omega
 have k0:(0:Int)<=(k:Int):=by omega
 have HN':Hid (((ay (ks k):Nat):Int)=cS (ks k)%64):=HN;clear HN hK;generalize ay (ks k)=n at*;have hf:0<=cS (ks k)/\cS (ks k)<18446744073709551616:=pL _ _;generalize cS (ks k)=f at*;have hmod:f.tmod 64=f%64:=Int.tmod_eq_emod_of_nonneg hf.1;have hw:IntKind.u64.wrap (f%64)=f%64:=by rw[IntKind.wrap_u64];omega
 have hw2:IntKind.i64.wrap (f%64)=f%64:=by rw[IntKind.wrap_i64];omega
 go_enter aa.func51,aa.ntmps51;go_wp2_with (go_at_call 13;refine By HS.out ?_;rintro e w1 ⟨rfl,hw1⟩;obtain rfl:=hw1.symm)
 go_ret;refine⟨?_,rfl⟩;rw[HN'.out];rfl
end Go.Proofs.YtldmcdeibiclkaaGreatDoorQ
