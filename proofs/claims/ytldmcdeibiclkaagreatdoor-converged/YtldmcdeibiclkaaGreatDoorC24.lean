/-
  Toward converged_holds: Contract: segment.join: what somebody else knows of its keys is taken in.
-/
import Derived.Test.YtldmcdeibiclkaaGreatDoorC23
import Derived.Test.YtldmcdeibiclkaaGreatDoorC18
import Derived.Test.YtldmcdeibiclkaaGreatDoorC22
import Derived.Test.YtldmcdeibiclkaaGreatDoorC17
set_option linter.unusedVariables false
set_option linter.unusedSimpArgs false
set_option maxRecDepth 100000
set_option maxHeartbeats 20000000
namespace Go.Proofs.YtldmcdeibiclkaaGreatDoorQ
open Go.RowKit
structure vq(n:Nat)(rs:List ai):Prop where
 each:∀r∈rs,aC r.1=n/\cS r.1=true/\kM r.2.1 r.2.2/\r.2.2.length<=10000
 apart:(rs.map (·.1)).Pairwise (·≠·)
def Fit(K:al):Prop:=∀s,fR (K s).1 (K s).2/\(K s).2.length<=10000
theorem kM.kQ{c:Ctx}{l:List aj}(h:kM c l):fR c l:=by
 refine⟨λi hi=>?_,h.iS,h.sorted⟩
 have:=h.ctx;simp only[fZ,ej,IN,VN]at this;rcases fc hi with rfl|rfl|rfl|rfl<;>omega
theorem T6{c d:Ctx}(hc:∀i,i<4->0<=c i)(hd:∀i,i<4->0<=d i)(h:cH d):cH (aU c d):=by
 obtain⟨i,hi,hn⟩:=h
 have:=hc i hi
 have:=hd i hi;refine⟨i,hi,?_⟩;simp only[aU];omega
structure qW(w:World)(b num n:Nat)(bm:Nat->Nat)(K:al)(W:World):Prop where
 rep:aA W b bm num K
 fr:Fr (λq=>q=bm n) w W
theorem OP(b num n B:Nat)(bm:Nat->Nat)(K:al)(rv:Value)(rc:List Rc)(w:World)(h:aA w b bm num K)(hn:n<64)(hrow:da w B rv rc)(hv:∀r∈rc,az w r.sv r.l)(hok:vq n (rc.map Rc.bV))(hK:∀r∈rc.map Rc.bV,fR (K r.1).1 (K r.1).2/\(K r.1).2.length<=10000):
  Calls aa.prog 81 #[.map (some (bm n)),rv] w λe w'=>e=.returned (.tuple #[])/\aA w' b bm num (eF K (rc.map Rc.bV))/\Fr (λq=>q=bm n) w w':=by
 obtain⟨ad,cap,rfl,hcap,hlc⟩:=hrow.len;unfold maxLen at hcap;have HRow:Hid (da w B (.slice ad rc.length cap) rc):=hrow;have HV:Hid (∀r∈rc,az w r.sv r.l):=hv;have HOk:Hid (vq n (rc.map Rc.bV)):=hok;have HK:Hid (∀r∈rc.map Rc.bV,fR (K r.1).1 (K r.1).2/\(K r.1).2.length<=10000):=hK;have hmap: ∃es clock,w.heap[bm n]?=some (.map es clock):=by
  obtain⟨es,clock,e,_⟩:=h.2.1 n hn;exact⟨es,clock,e⟩
 have HNm:Hid (∀{q C t fr},w.heap[q]?=some (.cells C t fr)->¬q=bm n):=λ{q C t fr} hq e=>by
  obtain⟨es,clock,he⟩:=hmap;rw[e,he]at hq;cases hq
 have HJ0:Hid (qW w b num n bm (eF K []) w):=⟨h,Fr.refl _ _⟩
 clear hrow hv hok hK h hmap;go_enter aa.func81,aa.ntmps81;go_wp2;go_loopw [8] (λiv wr=>∃k:Nat,k<=rc.length/\iv=.int .i64 k/\Hid (qW w b num n bm (eF K ((rc.take k).map Rc.bV)) wr)) (λiv _=>rc.length-(intOf iv).toNat)
 case atStart=>exact⟨0,by omega,rfl,HJ0.out⟩
 case round=>
  obtain⟨k,hk,rfl,HJ⟩:=hrel;clear HJ0;by_cases hlt:k<rc.length
  ·obtain⟨g,cap',hsv',hgl,_,_,cc⟩:=da.cells HRow.out hlt;cases hsv';obtain⟨cur,hcur⟩: ∃cur,w.heap[g]?=some (.cells cur 151 (0,0)):=by
    rcases HRow.out.2 with⟨e,_⟩|⟨g',cap',cur,e,_,hh,_⟩
    ·cases e
    ·cases e;exact⟨cur,hh⟩
   have hgn:=HNm.out hcur;have cw:∀j,j<6->wr.cell? ⟨g,k*6+j,none⟩=(jD rc[k].key rc[k].c rc[k].sv)[j]? :=λj hj=>by
    rw[World.cell?_of_block (HJ.out.fr.block g hgl hgn)];exact cc j hj
   have c0:=cw 0 (by omega);have c1:=cw 1 (by omega);have c2:=cw 2 (by omega);have c3:=cw 3 (by omega);have c4:=cw 4 (by omega);have c5:=cw 5 (by omega);clear cc cw;simp[jD]at c0 c1 c2 c3 c4 c5;have hvk:=HV.out rc[k] (VB hlt);have hvr:az wr rc[k].sv rc[k].l:=hvk.dH λq hq ⟨cur,hc⟩=>HJ.out.fr.block q hq (HNm.out hc);obtain⟨e1,e2,e3,e4⟩:=HOk.out.each rc[k].bV (W7 (VB hlt));have HKey:Hid (eF K ((rc.take k).map Rc.bV) rc[k].key=K rc[k].key):=qR λr hr e=>by
    obtain⟨x,hx,rfl⟩:=Wm.1 hr;obtain⟨j,hj,rfl⟩:=Xo hx;rw[List.length_take]at hj;have hp:=List.pairwise_iff_getElem.1 HOk.out.apart j k (by simp;omega) (by simp;omega) (by omega);simp only[WN,Xq,Function.comp]at hp;rw[List.getElem_take]at e;exact hp e
   have HTk:Hid (eF K ((rc.take (k+1)).map Rc.bV)=bl (eF K ((rc.take k).map Rc.bV)) rc[k].key (kJ (K rc[k].key) (rc[k].c,rc[k].l))):=(show _=_ by
    rw[VO hlt,WL,Dz,<-HKey.out];rfl)
   have HFt:Hid (fR (K rc[k].key).1 (K rc[k].key).2/\(K rc[k].key).2.length<=10000):=HK.out rc[k].bV (W7 (VB hlt));obtain⟨es,clock,m1,m2,m3,m4,m5⟩:=HJ.out.rep.2.1 n hn;obtain⟨svK,n1,n2⟩:=m3 rc[k].key e1;rw[HKey.out]at n1 n2;obtain⟨adv,capv,hsvv⟩:=pk hvk;obtain⟨adk,capk,hsvk⟩:=pk n2;clear HOk HK HKey hvk m3 m4 m5;simp only[Rc.bV]at e1 e2 e3 e4;have HRep:Hid (aA wr b bm num (eF K ((rc.take k).map Rc.bV))):=HJ.out.rep;have HFr:Hid (Fr (λq=>q=bm n) w wr):=HJ.out.fr;clear HJ;generalize eF K ((rc.take k).map Rc.bV)=Kk at*;generalize hKn:eF K ((rc.take (k+1)).map Rc.bV)=Kn at*;have HKn:Hid (eF K ((rc.take (k+1)).map Rc.bV)=Kn):=hKn;clear hKn;generalize rc[k].key=key at*;generalize rc[k].c=c at*;generalize rc[k].sv=sv at*;generalize rc[k].l=l at*;subst hsvv hsvk;generalize hcK:(K key).1=cK at*;generalize hlK:(K key).2=lK at*;have hkk:K key=(cK,lK):=Prod.ext hcK hlK;rw[hkk]at HTk;clear hkk hcK hlK;subst e1;have k1:(k:Int)<(rc.length:Int):=by omega
   have k0:(0:Int)<=(k:Int):=by omega
   obtain⟨W1,hW1⟩: ∃W,W=wr.alloc (.cells #[.string key,.int .i64 (c 0),.int .i64 (c 1),.int .i64 (c 2),.int .i64 (c 3),.slice adv l.length capv] 151):=⟨_,rfl⟩
   have hB1:Below wr.heap.size wr W1:=by rw[hW1];exact (AT _ _).alloc (eR _) _
   have hlk:(Instr.lookup 98 (.map (some (bm (aC key)))) (.string key) false).run aa.prog W1.drew=.ok (bD cK (.slice adk lK.length capk)) W1.drew:=by
    rw[ou W1.drew _ es clock key (aS m1 hB1.drew) m2,n1]
   have hcW:W1.heap[wr.heap.size]?=some (.cells #[.string key,.int .i64 (c 0),.int .i64 (c 1),.int .i64 (c 2),.int .i64 (c 3),.slice adv l.length capv] 151):=by rw[hW1];exact BY wr _
   have HJn:Hid (Calls aa.prog 106 #[bD cK (.slice adk lK.length capk),bD c (.slice adv l.length capv)] W1.drew λe w2=>∃v',e=.returned (bD (aU cK c) v')/\(∃es' clock',(Instr.mapUpdate 98 (.map (some (bm (aC key)))) (.string key) (bD (aU cK c) v')).run aa.prog w2=.ok () (ia w2 (bm (aC key)) es' clock')/\qW w b num (aC key) bm Kn (ia w2 (bm (aC key)) es' clock'))/\(∀o,w2.cell? ⟨wr.heap.size,o,none⟩=#[.string key,.int .i64 (c 0),.int .i64 (c 1),.int .i64 (c 2),.int .i64 (c 3),.slice adv l.length capv][o]?)):=by
    refine (Qt cK _ lK c _ l W1.drew (az.below n2 hB1.drew) (az.below hvr hB1.drew) (λv hv=>(HFt.out.1.iS v hv).1) (λv hv=>(e3.iS v hv).1) e3.sorted HFt.out.2 e4).mono ?_;rintro e w2 ⟨v',l',rfl,hp,hs,aD,hb2⟩;have hb2':Below wr.heap.size wr w2:=bf hB1.drew hb2;obtain rfl:=RO HFt.out.1 e3.kQ hp hs;obtain⟨es',clock',hrun,hk',hent,hstp⟩:=Et (bm (aC key)) es clock key (bD (aU cK c) v') m2;refine⟨v',rfl,⟨es',clock',hrun _ (aS m1 hb2'),?_⟩,?_⟩
    ·have hset:=BM (w:=w2) (w1:=w2) (l:=ly cK lK c l) (c:=aU cK c) (sv:=v') (AT _ _) (HRep.out.below hb2') (aS m1 hb2') hk' hent hstp ⟨by have:=sL e2;omega,e2⟩ (T6 (λi hi=>(HFt.out.1.ctx i hi).1) (λi hi=>(e3.kQ.ctx i hi).1) e3.some) (az.rD (B:=W1.drew.heap.size) aD);refine⟨by rw[HTk.out];exact hset.1,?_⟩;exact (HFr.out.below hb2').grown hset.2 λx hx _=>by cases hx;rfl
    ·exact (au (aS (W:=W1.drew) hcW hb2)).1
   have cW:=(au hcW).1;clear hcW hB1 m1 m2 n1 n2 hvr HRep HFr HTk HFt;go_upto_region 3 with fail;rw[<-hW1];clear hW1;go_region_with (first|(go_at_call 106;refine By HJn.out ?_;rintro e w2 ⟨v',rfl,⟨es',clock',hup,hjn⟩,cw2⟩;have HU:Hid (qW w b num (aC key) bm Kn (ia w2 (bm (aC key)) es' clock')):=hjn;clear hjn))
   all_goals
    go_wp2;exact⟨⟨k+1,by omega,by go_num,by rw[HKn.out];exact HU.out⟩,by simp[intOf];omega⟩
  ·obtain rfl:k=rc.length:=by omega
   have HJe:Hid (qW w b num n bm (eF K (rc.map Rc.bV)) wr):=(by have:=HJ.out;rw[VW]at this;exact this)
   clear HJ;go_wp2;go_end0;exact⟨rfl,HJe.out.rep,HJe.out.fr⟩
end Go.Proofs.YtldmcdeibiclkaaGreatDoorQ
namespace Go.Proofs.YtldmcdeibiclkaaGreatDoorQ
variable {es:List MapEntry}{K:al}{sg:List (Nat×List ai)}{a s b:ByteArray}{rs:List ai}{k:Nat}
theorem Tn(h:(Op.bytesLess a.toList b.toList||a.toList==b.toList)=false):b.data.toList<a.data.toList:=by
 simp only[Proofs.bytesLess_eq,W8,Bool.or_eq_false_iff,WY,beq_eq_false_iff_ne]at h;rcases List.le_total a.data.toList b.data.toList with h1|h1
 ·rcases Decidable.em (b.data.toList<a.data.toList) with h2|h2
  ·exact h2
  ·exact absurd (List.le_antisymm h1 (List.not_lt.1 h.1)) h.2
 ·rcases Decidable.em (b.data.toList<a.data.toList) with h2|h2
  ·exact h2
  ·exact absurd (List.le_antisymm (List.not_lt.1 h2) (List.not_lt.1 h.1)) h.2
theorem Tg(h:b.data.toList<a.data.toList):(Op.bytesLess a.toList b.toList||a.toList==b.toList)=false:=by
 simp only[Proofs.bytesLess_eq,W8,Bool.or_eq_false_iff,WY,beq_eq_false_iff_ne];exact⟨List.lt_asymm h,λe=>by rw[e]at h;exact List.lt_irrefl _ h⟩
theorem Hy(h:1<=a.size):([]:List UInt8)<a.data.toList:=by
 cases hl:a.data.toList with
 |nil=>
  have:a.data.toList.length=0:=by rw[hl];rfl
  rw[Wc]at this;have h':1<=a.data.size:=h;omega
 |cons x l=>exact List.Lex.nil
theorem jK.lt{n:Nat}(h:jK n rs):∀(j i:Nat) (hij:i<j) (hj:j<rs.length),rs[i].1.data.toList<rs[j].1.data.toList
 |j+1,i,hij,hj=>by
  have h1:=Tn (h.iM (j+1) hj);simp only[mX,List.getElem?_eq_getElem (show j<rs.length by omega),Wa,WR]at h1;by_cases e:i=j
  ·subst e;exact h1
  ·exact List.lt_trans (jK.lt h j i (by omega) (by omega)) h1
theorem jK.apart{n:Nat}(h:jK n rs):(rs.map (·.1)).Pairwise (·≠·):=by
 rw[List.pairwise_iff_getElem];intro i j hi hj hij e;simp only[Xq]at e
 have:=h.lt j i hij (by simpa using hj);rw[e]at this;exact List.lt_irrefl _ this
theorem jK.join{n:Nat}(h:jK n rs)(hl:∀r∈rs,r.2.2.length<=10000):vq n rs:=
 ⟨λr hr=>⟨(h.snd r hr).2.2.2,(h.snd r hr).2.2.1,(h.snd r hr).1,hl r hr⟩,h.apart⟩
theorem fR.sound{c:Ctx}{l:List aj}(h:fR c l)(hk:cH c):kM c l:=by
 refine⟨?_,hk,h.iS,h.sorted⟩;have h0:=h.ctx 0 (by omega);have h1:=h.ctx 1 (by omega);have h2:=h.ctx 2 (by omega);have h3:=h.ctx 3 (by omega);simp only[fZ,ej,IN,VN];omega
theorem Uy(hk:fB es){e:MapEntry}(he:e∈es)(hs:e.key=.string s):cy es s≠none:=λh=>xh hk h e he hs
theorem Fl(hk:fB es){x:List UInt8}(hx:x∈eP (cX es)):cy es (dF x)≠none:=by
 rw[(oe _).mem_iff,cX,Wm]at hx;obtain⟨e,he,rfl⟩:=hx;obtain⟨k,hk'⟩:=hk e he;refine Uy hk he ?_;simp[oO,hk',sW]
theorem Lo(h:cy es s≠none)(hk:fB es):s.data.toList∈eP (cX es):=by
 rw[(oe _).mem_iff,cX,Wm];have: ∃e∈es,e.key=.string s:=by
  refine V0 λhn=>h ?_;have key:∀l:List MapEntry,(∀e∈l,e∈es)->cy l s=none:=λl=>by
   induction l with
   |nil=>intro _;rfl
   |cons e l ih=>
    intro hl;obtain⟨k,hk'⟩:=hk e (hl e (by simp));have hne: ¬s=k:=λq=>hn ⟨e,hl e (by simp),by rw[hk',q]⟩;simp only[cy,hk',AI hne];exact ih λx hx=>hl x (by simp[hx])
  exact key es λe he=>he
 obtain⟨e,he,hs⟩:=this;exact⟨e,he,by simp[oO,hs]⟩
theorem Mr(ss:List (List UInt8)):(eP ss).Pairwise λa b=>a<=b:=by
 have:=List.pairwise_mergeSort (le:=λ(x y:List UInt8)=>decide (x<=y)) (λa b c h1 h2=>by simp at*;exact List.le_trans h1 h2) (λa b=>by simp;exact List.le_total a b) ss;exact this.imp λ{a b} hab=>by simpa using hab
theorem Hx(hk:fB es)(h:(es.map (·.key)).Nodup):(cX es).Nodup:=by
 unfold cX;unfold List.Nodup at*;rw[List.pairwise_map] at*;refine List.Pairwise.imp_of_mem (λ{a b} ha hb hab e=>hab ?_) h;obtain⟨x,hx⟩:=hk a ha;obtain⟨y,hy⟩:=hk b hb;simp only[oO,hx,hy]at e;rw[hx,hy];congr 1;exact WV (Array.ext' e)
theorem AQ(hk:fB es)(h:(es.map (·.key)).Nodup):(eP (cX es)).Pairwise λa b=>a<b:=by
 have h1:=Mr (cX es);have h2:(eP (cX es)).Nodup:=(oe _).nodup_iff.2 (Hx hk h);refine List.Pairwise.imp (λ{a b} ⟨h1,h2⟩=>?_) (List.Pairwise.and h1 h2);rcases Decidable.em (a<b) with h3|h3
 ·exact h3
 ·exact absurd (List.le_antisymm h1 (List.not_lt.1 h3)) h2
theorem Ty{n clock:Nat}(hk:fB es)(hst:j8 (λk=>aC k=n/\k.size<=281474976710656/\cS k=true) es clock)(bz:∀s,cy es s≠none->cH (K s).1)(hK:Fit K)(hl:es.length<=1000000):jK n (dN K es) where
 len:=by rw[yB];exact hl
 snd:=λr hr=>by
  obtain⟨x,hx,rfl⟩:=Wm.1 hr;obtain⟨h1,h2,h3⟩:=qL hst.2.2.2 hx;exact⟨(hK _).1.sound (bz _ (Fl hk hx)),OF (hK _).2 (by decide),h3,h1⟩
 iM:=λk hk'=>by
  refine Tg ?_;have hlen:(dN K es).length=(eP (cX es)).length:=by rw[dN,VJ]
  cases k with
  |zero=>
   have hm:((dN K es)[0]).1=dF (eP (cX es))[0]:=by simp[dN]
   rw[hm]
   have:=(qL hst.2.2.2 (VB (show 0<(eP (cX es)).length by omega))).2.2;exact Hy (sL this).1
  |succ k=>
   have h1:=List.pairwise_iff_getElem.1 (AQ hk hst.1) k (k+1) (by omega) (by omega) (by omega);simp only[mX,List.getElem?_eq_getElem (show k<(dN K es).length by omega),Wa,WR];simpa[dN,dF] using h1
theorem TU{w:World}{b num:Nat}{bm:Nat->Nat}(h:aA w b bm num K)(hK:Fit K)(hf:yr w bm){ns:List Nat}(h1:1<=ns.length/\ns.length<=64)(hns:∀n∈ns,n<64)(ha:ns.Pairwise (· < ·)):ki (cm w bm K ns) where
 len:=by rw[cm,VJ];exact h1
 num:=λg hg=>by
  obtain⟨n,hn,rfl⟩:=Wm.1 hg;obtain⟨es,clock,e1,e2,e3,e4,e5⟩:=h.2.1 n (hns n hn)
  have:=hf n (hns n hn);refine⟨hns n hn,?_⟩;simp only[cE,e1]at this ⊢;exact Ty e2 e4 e5 hK (by omega)
 iM:=by
  rw[cm,WN];show List.Pairwise _ (ns.map λn=>n);rw[List.map_id'];exact ha
def bO(K:al)(sg:List (Nat×List ai)):al:=eF K (sg.flatMap (·.2))
theorem Kr(h:k<sg.length):bO K (sg.take (k+1))=eF (bO K (sg.take k)) sg[k].2:=by
 rw[bO,VO h,WI,Dz];simp[bO]
theorem Mj(hok:ki sg)(h:k<sg.length):∀r∈sg[k].2,bO K (sg.take k) r.1=K r.1:=λr hr=>by
 refine qR λx hx e=>?_;obtain⟨g,hg,hxg⟩:=List.mem_flatMap.1 hx;obtain⟨j,hj,rfl⟩:=Xo hg;rw[List.length_take]at hj;rw[List.getElem_take]at hxg;have h1:=((hok.num _ (VB (show j<sg.length by omega))).2.snd x hxg).2.2.2;have h2:=((hok.num _ (VB h)).2.snd r hr).2.2.2;have h3:=List.pairwise_iff_getElem.1 hok.iM j k (by simp;omega) (by simpa using h) (by omega);simp only[Xq]at h3;rw[e]at h1;omega
theorem QD(hok:ki sg):((sg.flatMap (·.2)).map (·.1)).Pairwise (·≠·):=by
 rw[List.pairwise_map,List.pairwise_flatMap];refine⟨λg hg=>by have:=(hok.num g hg).2.apart;rwa [List.pairwise_map]at this,?_⟩
 have:=hok.iM;rw[List.pairwise_map]at this;refine List.Pairwise.imp_of_mem (λ{a b} ha hb hab x hx y hy e=>?_) this;have h1:=((hok.num a ha).2.snd x hx).2.2.2;have h2:=((hok.num b hb).2.snd y hy).2.2.2;rw[e]at h1;omega
theorem Sv(hok:ki sg){g:Nat×List ai}{r:ai}(hg:g∈sg)(hr:r∈g.2):bO K sg r.1=kJ (K r.1) r.2:=
 CS (QD hok) (List.mem_flatMap.2 ⟨g,hg,hr⟩)
theorem IQ(h:∀g∈sg,∀r∈g.2,r.1≠s):bO K sg s=K s:=
 qR λr hr=>by obtain⟨g,hg,hrg⟩:=List.mem_flatMap.1 hr;exact h g hg r hrg
end Go.Proofs.YtldmcdeibiclkaaGreatDoorQ
namespace Go.Proofs.YtldmcdeibiclkaaGreatDoorQ
variable {b kind B lev bt:Nat}{W W':World}{bm:Nat->Nat}{K:al}{lv nv:Value}{ns:List Nat}{sg:List (Nat×List ai)}{t:TypeId}{T:ByteArray}
open Go.RowKit
abbrev kN(bm:Nat->Nat)(q:Nat):Prop:=∃n,n<64/\q=bm n
structure iK(w:World)(b num kind:Nat)(bm:Nat->Nat)(lv:Value)(K:al)(ns:List Nat)(nv:Value)(W:World):Prop where
 box:W.heap[w.heap.size]?=some (.cells #[.int .u8 kind,lv] 132)
 rep:aA W b bm num K
 fr:Fr (kN bm) w W
 row:fO W w.heap.size nv ns
theorem iK.below{w:World}{num:Nat}(h:iK w b num kind bm lv K ns nv W)(hb:Below W.heap.size W W'):iK w b num kind bm lv K ns nv W':=
 ⟨aS h.box hb,h.rep.below hb,h.fr.below hb,dS h.row hb (eR _)⟩
theorem iK.join{w:World}{num n:Nat}{K':al}(h:iK w b num kind bm lv K ns nv W)(hn:n<64)(hr:aA W' b bm num K')(hf:Fr (λq=>q=bm n) W W'):iK w b num kind bm lv K' ns nv W':=by
 obtain⟨es,clock,hm,_⟩:=h.rep.2.1 n hn;refine⟨hf.heap h.box (λe=>?_),hr,h.fr.trans (hf.weaken λq e=>⟨n,hn,e⟩),hf.row h.row λg o l c hv e=>?_⟩
 ·have:=h.box;rw[e,hm]at this;cases this
 ·have hrow:=h.row;rcases hrow.2 with⟨e',_⟩|⟨g',cap',cur,e',_,hh,_⟩
  ·rw[hv]at e';cases e'
  ·rw[hv]at e';cases e';rw[e,hm]at hh;cases hh
theorem iK.tell{w:World}{num:Nat}(h:iK w b num kind bm lv K (sg.map (·.1)) nv W)(hok:ki sg)(hk:dD W bm K/\(Let.aL 84 (cm W bm K (sg.map (·.1)))).bytes.size<=140737488355328):
  Calls aa.prog 80 #[.pointer (some ⟨b,0,none⟩),.int .u8 84,nv] W λe w'=>e=.returned (.string (Let.aL 84 (cm w' bm K (sg.map (·.1)))).bytes)/\aA w' b bm num K/\Fr (kN bm) w w':=by
 have hns:∀n∈sg.map (·.1),n<64:=λn hn=>by
  obtain⟨g,hg,rfl⟩:=Wm.1 hn;exact (hok.num g hg).1
 have hlen:(sg.map (·.1)).length<=64:=by rw[VJ];exact hok.len.2
 generalize sg.map (·.1)=ns at*;have hl':ns.length<=64:=hlen;have ht:=zx b num 84 w.heap.size bm K nv ns W h.rep hk.1 h.row (by decide) hl' hns hk.2;refine ht.mono λe w' hh=>?_;obtain⟨he,hb⟩:=hh;refine⟨?_,h.rep.below hb,h.fr.below hb⟩;have hs:cm w' bm K ns=cm W bm K ns:=Wb λn hn=>by
  rw[wK (hb.block _ (h.rep.2.1 _ (hns n hn)).lt)]
 rw[hs];exact he
theorem Uk(b num kind:Nat)(bm:Nat->Nat)(K:al)(lv:Value)(gs:List Gm)(sg:List (Nat×List ai))(w0 w:World)(h:aA w b bm num K)(hS:iI w0 w lv gs sg)(hok:ki sg)(hlen:∀g∈sg,∀r∈g.2,r.2.2.length<=10000)(hK:Fit K)(hkd:kind=83\/kind=84)(hK':∀W,aA W b bm num (bO K sg)->dD W bm (bO K sg)/\(Let.aL 84 (cm W bm (bO K sg) (sg.map (·.1)))).bytes.size<=140737488355328):
  Calls aa.prog 61 #[.pointer (some ⟨b,0,none⟩),.agg #[.int .u8 kind,lv]] w λe w'=>e=.returned (.string (if kind=84 then ⟨#[]⟩ else (Let.aL 84 (cm w' bm (bO K sg) (sg.map (·.1)))).bytes))/\aA w' b bm num (bO K sg)/\Fr (kN bm) w w':=by
 obtain⟨i0,hi0,hz0,hz1,hz2⟩:=VH aa.CH;have hgl:gs.length=sg.length:=by rw[<-hS.is,VJ]
 have HGl:Hid (gs.length=sg.length):=hgl;clear hgl;obtain⟨ad,cap,rfl,hcap,hlc⟩:=jE hS.row;have hbl:=h.1.lt;have hsl:=hok.len;have HNm:Hid (∀{q:Nat} {C:Array Value} {t:TypeId} {fr:Nat×Nat},w.heap[q]?=some (.cells C t fr)->¬kN bm q):=λ{q C t fr} hq ⟨n,hn,e⟩=>by
  obtain⟨es,clock,he,_⟩:=h.2.1 n hn;rw[e,he]at hq;cases hq
 have HS:Hid (iI w0 w (.slice ad gs.length cap) gs sg):=hS;have HOk:Hid (ki sg):=hok;have HLen:Hid (∀g∈sg,∀r∈g.2,r.2.2.length<=10000):=hlen;have HK:Hid (Fit K):=hK;have HK':Hid (∀W,aA W b bm num (bO K sg)->dD W bm (bO K sg)/\(Let.aL 84 (cm W bm (bO K sg) (sg.map (·.1)))).bytes.size<=140737488355328):=hK';have HJ0:Hid (iK w b num kind bm (.slice ad gs.length cap) (bO K (sg.take 0)) ((sg.map (·.1)).take 0) (.slice none 0 0) (w.alloc (.cells #[.int .u8 kind,.slice ad gs.length cap] 132))):=
  ⟨BY w _,h.below ((AT _ _).alloc (eR _) _),(Fr.refl _ _).alloc _,Ww _ _ _ _⟩
 clear h hS hok hlen hK hK';go_enter aa.func61,aa.ntmps61;go_wp2;go_loopw [5,11] (λnv iv wr=>∃k:Nat,k<=gs.length/\iv=.int .i64 k/\Hid (iK w b num kind bm (.slice ad gs.length cap) (bO K (sg.take k)) ((sg.map (·.1)).take k) nv wr)) (λ_ iv _=>gs.length-(intOf iv).toNat)
 case atStart=>exact⟨0,by omega,rfl,HJ0.out⟩
 case round=>
  obtain⟨k,hk,rfl,HJ⟩:=hrel;clear HJ0;have hsw:w.heap.size<wr.heap.size:=(Array.getElem?_eq_some_iff.1 HJ.out.box).1;by_cases hlt:k<gs.length
  ·have hlt':k<sg.length:=by have:=HGl.out;omega
   obtain⟨g,cap',hv',hgl',_,_,cc⟩:=pa HS.out.row (show 0<gs.length by omega);cases hv';obtain⟨cur,hcur⟩: ∃cur,w.heap[g]?=some (.cells cur 167 (0,0)):=by
    rcases HS.out.row.2 with⟨e,_⟩|⟨g',cap',cur,e,_,hh,_⟩
    ·cases e
    ·cases e;exact⟨cur,hh⟩
   have hgk:sg[k]=(gs[k].1,gs[k].2.2.map Rc.bV):=by
    have:=HS.out.is;subst this;simp
   have c0:wr.cell? ⟨g,k*2,none⟩=some (.int .i64 gs[k].1):=by
    rw[World.cell?_of_block (HJ.out.fr.block g hgl' (HNm.out hcur))];exact cc (k*2) _ (by omega) (qN gs k hlt).1
   have c1:wr.cell? ⟨g,k*2+1,none⟩=some gs[k].2.1:=by
    rw[World.cell?_of_block (HJ.out.fr.block g hgl' (HNm.out hcur))];exact cc (k*2+1) _ (by omega) (qN gs k hlt).2
   have hnum:=HOk.out.num sg[k] (VB hlt');have hn64:gs[k].1<64:=by have:=hnum.1;rw[hgk]at this;exact this
   have hrc:=HS.out.lT gs[k] (VB hlt);have HSJ:Hid (∀W,Below wr.heap.size wr W->Calls aa.prog 81 #[.map (some (bm gs[k].1)),gs[k].2.1] W λe w'=>e=.returned (.tuple #[])/\aA w' b bm num (bO K (sg.take (k+1)))/\Fr (λq=>q=bm gs[k].1) W w'):=λW hW=>by
    have hkeep:∀{q:Nat} {C:Array Value} {t:TypeId} {fr:Nat×Nat},w.heap[q]?=some (.cells C t fr)->W.heap[q]?=some (.cells C t fr):=λ{q:Nat} {C:Array Value} {t:TypeId} {fr:Nat×Nat} hq=>by
     rw[hW.block q (VA (Array.getElem?_eq_some_iff.1 hq).1 HJ.out.fr.size)];exact HJ.out.fr.heap hq (HNm.out hq)
    have hkt:bM (λ_=>True) w W:=λq cs t fr hq _=>hkeep hq;have hj:=OP b num gs[k].1 w0.heap.size bm (bO K (sg.take k)) gs[k].2.1 gs[k].2.2 W (HJ.out.rep.below hW) hn64 (hkt.row hrc.row trivial) (λr hr=>az.rD (B:=w0.heap.size) (hkt.row (hrc.rG r hr) trivial))
     (by have:=hnum.2.join (HLen.out sg[k] (VB hlt'));rw[hgk]at this;exact this)
     (λr hr=>by
      rw[Mj HOk.out hlt' r (by rw[hgk];exact hr)];exact HK.out r.1)
    rw[Kr hlt',hgk];exact hj
   have HTn:Hid ((sg.map (·.1)).take (k+1)=(sg.map (·.1)).take k++ [gs[k].1]):=(show _=_ by
    rw[VO (by simpa using hlt')];simp[hgk])
   have hlk:((sg.map (·.1)).take k).length=k:=by simp;omega
   obtain⟨adr,cT,hrv⟩:=gD hrc.row;rw[hrv]at c1 HSJ;have cseg:=HJ.out.rep.1.ua hn64;clear cc hrc hgk HOk HLen HK hnum;generalize gs[k].1=n at*;generalize gs[k].2.2.length=rl at*;generalize bO K (sg.take k)=Kk at*;generalize hKn:bO K (sg.take (k+1))=Kn at*;have HKn:Hid (bO K (sg.take (k+1))=Kn):=hKn;clear hKn;generalize (sg.map (·.1)).take k=nk at*;have a1:(k:Int)<(gs.length:Int):=by omega
   have a0:(0:Int)<=(k:Int):=by omega
   have m0:(0:Int)<=(n:Int):=by omega
   have m1:(n:Int)<64:=by omega
   have cseg':wr.cell? ⟨b,1+n,none⟩=some (.map (some (bm n))):=by rw[WS];exact cseg
   clear cseg;obtain⟨W1,hW1⟩: ∃W,W=wr.alloc (.cells #[.int .i64 n,.slice adr rl cT] 167):=⟨_,rfl⟩
   have hB1:Below wr.heap.size wr W1:=by rw[hW1];exact (AT _ _).alloc (eR _) _
   have hcW:W1.heap[wr.heap.size]?=some (.cells #[.int .i64 n,.slice adr rl cT] 167):=by rw[hW1];exact BY wr _
   have cs1:=bp cseg' hB1;have hbr:b<wr.heap.size:=VA hbl HJ.out.fr.size;have HJn:Hid (Calls aa.prog 81 #[.map (some (bm n)),.slice adr rl cT] W1.drew λe w2=>e=.returned (.tuple #[])/\iK w b num kind bm (.slice (some ⟨g,0,none⟩) gs.length cap) Kn nk u5 w2/\w2.heap[wr.heap.size]?=some (.cells #[.int .i64 n,.slice adr rl cT] 167)):=by
    refine (HSJ.out W1.drew hB1.drew).mono ?_;rintro e w2 ⟨he,hr2,hf2⟩;refine⟨he,(HJ.out.below hB1.drew).join hn64 hr2 hf2,hf2.heap (w:=W1.drew) hcW λe=>?_⟩;obtain⟨es,clock,hm,_⟩:=HJ.out.rep.2.1 n hn64
    have:=(Array.getElem?_eq_some_iff.1 hm).1;omega
   have cW:=(au hcW).1;have cW0:=cW 0;have cW1:=cW 1;clear hcW cW HSJ HJ hB1 cseg';go_upto_region 5 with fail;rw[<-hW1];clear hW1;go_region_with (first|(go_at_call 81;refine By HJn.out ?_;rintro e w2 ⟨rfl,hj2,hc2⟩;have HJ2:Hid (iK w b num kind bm (.slice (some ⟨g,0,none⟩) gs.length cap) Kn nk u5 w2):=hj2;have c20:=(au hc2).1 0;clear hj2 hc2))
   all_goals
    obtain⟨adn,capn,rfl⟩:=gD HJ2.out.row;have hs2:=HJ2.out.fr.size;have hs2':w.heap.size<w2.heap.size:=(Array.getElem?_eq_some_iff.1 HJ2.out.box).1;have HRa:Hid ((w2.alloc (.cells #[.int .i64 n] 3)).ownsRow w.heap.size 3 1 (.slice adn nk.length capn) nk.length (nk.map λ(n:Nat)=>Value.int .i64 (n:Int))):=VD HJ2.out.row _;go_wp2_with (at_builtin;refine jw _ rfl _ _ _ rfl w.heap.size 3 i0 _ 1 8 aa.underlying22 hi0 hz0 hz1 hz2 rfl (by omega) (.slice adn nk.length capn) _ _ rfl HRa.out ⟨w2.heap.size,0,none⟩ 1 1 _ rfl (by rfl) (VM (BY w2 _)) (by simp[Value.oneCell']) (by omega) (by unfold maxLen;omega) (by omega) (by simp;omega) ?_;intro g7 cap7 w7 hown7 hgr7;have HO7:Hid (w7.ownsRow w.heap.size 3 1 (.slice (some ⟨g7,0,none⟩) (nk.length+1) cap7) (nk.length+1) ((nk.map λ(n:Nat)=>Value.int .i64 (n:Int))++ [.int .i64 n])):=hown7;have HG7:Hid _:=hgr7;clear hown7 hgr7)
    refine⟨⟨k+1,by omega,by go_num,?_⟩,by simp[intOf];omega⟩;have hJa:=HJ2.out.below ((AT _ _).alloc (eR _) (.cells #[.int .i64 n] 3));rw[HKn.out,HTn.out];show iK _ _ _ _ _ _ _ _ _ _;refine⟨HG7.out.other HRa.out hJa.box (by decide),hJa.rep.dH ?_ ?_ ?_,?_,(by have:=fO.snoc HO7.out;rw[hlk]at this;exact this)⟩
    ·obtain⟨⟨A,hA,_⟩,_⟩:=hJa.rep;rw[hA];exact HG7.out.other HRa.out hA (by decide)
    ·intro m hm;obtain⟨es,clock,he,_⟩:=hJa.rep.2.1 m hm;rw[he];exact HG7.out.map HRa.out he
    ·intro q _ ⟨cur,hc⟩;rw[hc];exact HG7.out.other HRa.out hc (by decide)
    ·exact hJa.fr.grown HG7.out.1 λq e hq=>by have:=oZ HRa.out e;omega
  ·obtain rfl:k=gs.length:=by omega
   have HJe:Hid (iK w b num kind bm (.slice ad gs.length cap) (bO K sg) (sg.map (·.1)) u5 wr):=(by
    have:=HJ.out;have hgl:=HGl.out;rw[hgl,VW,show (sg.map (·.1)).take sg.length=sg.map (·.1) from Xh (by simp)]at this;rw[<-hgl]at this;exact this)
   clear HJ;have c0:=(au HJe.out.box).1 0;rcases hkd with rfl|rfl
   ·have HT:Hid (Calls aa.prog 80 #[.pointer (some ⟨b,0,none⟩),.int .u8 84,u5] wr λe w'=>e=.returned (.string (Let.aL 84 (cm w' bm (bO K sg) (sg.map (·.1)))).bytes)/\aA w' b bm num (bO K sg)/\Fr (kN bm) w w'):=HJe.out.tell HOk.out (HK'.out wr HJe.out.rep);clear HK' HK HLen HOk HS;go_wp2_with (go_at_call 80;refine By HT.out ?_;rintro e w9 ⟨rfl,hr9,hf9⟩)
    go_ret;exact⟨by simp,hr9,hf9⟩
   ·clear HK' HK HLen HOk HS;go_wp2;go_ret;exact⟨by simp,HJe.out.rep,HJe.out.fr⟩
def gY(K:al):Let->al
 |.aL _ sg=>bO K sg
 |_=>K
def vY(w w':World)(bm:Nat->Nat)(K:al):Let->Option Let
 |.root d=>lH w bm K d
 |.nodes lev sg=>ma w bm K lev sg
 |.aL kind sg=>if kind=84 then none else some (.aL 84 (cm w' bm (bO K sg) (sg.map (·.1))))
structure sG(b num:Nat)(bm:Nat->Nat)(K:al)(w:World)(L:Let):Prop where
 rep:aA w b bm num K
 wQ:dD w bm K
 fit:Fit K
 ok:L.Ok
 size:L.bytes.size<=140737488355328
 out:∀W,aA W b bm num K->∀ns:List Nat,ns.length<=64->(∀n∈ns,n<64)->(Let.aL 83 (cm W bm K ns)).bytes.size<=140737488355328
 aL:∀kind sg,L=.aL kind sg->(∀g∈sg,∀r∈g.2,r.2.2.length<=10000)/\∀W,aA W b bm num (bO K sg)->dD W bm (bO K sg)/\(Let.aL 84 (cm W bm (bO K sg) (sg.map (·.1)))).bytes.size<=140737488355328
theorem KM{w:World}{num:Nat}(h:aA w b bm num K)(hb:Below w.heap.size w W)(d:Int):lH W bm K d=lH w bm K d:=by
 unfold lH;rw[rX h hb (by omega) (by decide),tj h hb (by omega) (by simp)]
theorem IB{w:World}{num:Nat}{sg:List Nd}(h:aA w b bm num K)(hb:Below w.heap.size w W)(hl:lev<3)(hns:∀g∈sg,g.1<4 ^ lev):bF (bK W bm K (lev+1)) sg=bF (bK w bm K (lev+1)) sg:=by
 have hg:∀g∈sg,dy (bK W bm K (lev+1)) g 4=dy (bK w bm K (lev+1)) g 4:=λg hg=>by
  unfold dy;congr 1;refine Xe λj hj=>?_
  have:=hns g hg;have hj':=List.mem_range.1 hj;rw[rX h hb (by omega) (by rw[Wf];omega)]
 exact kA sg hg
theorem KV{w:World}{num:Nat}(h:aA w b bm num K)(hb:Below w.heap.size w W)(hns:∀n∈ns,n<64):cm W bm K ns=cm w bm K ns:=
 Wb λn hn=>by rw[wK (hb.block _ (h.2.1 n (hns n hn)).lt)]
theorem Om{w:World}{num:Nat}{sg:List Nd}(h:aA w b bm num K)(hb:Below w.heap.size w W)(hl:lev<3)(hns:∀g∈sg,g.1<4 ^ lev):ma W bm K lev sg=ma w bm K lev sg:=by
 have hd:=tq (D:=bK w bm K (lev+1)) hns;unfold ma;rw[IB h hb hl hns];by_cases h0:bF (bK w bm K (lev+1)) sg= []
 ·rw[AS h0,AS h0]
 ·rw[AI h0,AI h0];by_cases h2:lev=2
  ·subst h2;rw[AS rfl,AS rfl,KV h hb λn hn=>hd n hn]
  ·rw[AI h2,AI h2,tj h hb (by omega) hd]
theorem S0(W:World)(v:Value):(Instr.typeAssert (.iface 81 v) 93 81 true).run aa.prog W=.ok (.tuple #[v,.bool true]) W:=by kernel_rfl
theorem Ul(W:World)(v:Value):(Instr.typeAssert (.iface 128 v) 93 81 true).run aa.prog W=.ok (.tuple #[.agg #[.int .u64 0],.bool false]) W:=by kernel_rfl
theorem GL(W:World)(v:Value):(Instr.typeAssert (.iface 128 v) 93 128 true).run aa.prog W=.ok (.tuple #[v,.bool true]) W:=by kernel_rfl
theorem QU(W:World)(v:Value):(Instr.typeAssert (.iface 132 v) 93 81 true).run aa.prog W=.ok (.tuple #[.agg #[.int .u64 0],.bool false]) W:=by kernel_rfl
theorem LI(W:World)(v:Value):(Instr.typeAssert (.iface 132 v) 93 128 true).run aa.prog W=.ok (.tuple #[.agg #[.int .i64 0,.slice none 0 0],.bool false]) W:=by kernel_rfl
theorem Se(W:World)(v:Value):(Instr.typeAssert (.iface 132 v) 93 132 true).run aa.prog W=.ok (.tuple #[v,.bool true]) W:=by kernel_rfl
theorem Pj(b:Nat)(d:Int)(R:ByteArray)(w:World)(P:World->Prop)(hR:∀W,Below w.heap.size w W->Calls aa.prog 59 #[.pointer (some ⟨b,0,none⟩),.agg #[.int .u64 d]] W λe w'=>e=.returned (.string R)/\P w'):
  Calls aa.prog 35 #[.pointer (some ⟨b,0,none⟩),.iface 81 (.agg #[.int .u64 d])] w λe w'=>e=.returned (.string R)/\P w':=by
 have HR:Hid (∀W,Below w.heap.size w W->Calls aa.prog 59 #[.pointer (some ⟨b,0,none⟩),.agg #[.int .u64 d]] W λe w'=>e=.returned (.string R)/\P w'):=hR;clear hR;have eas_11:=S0;go_enter aa.func35,aa.ntmps35;go_wp2_with (go_at_call 59;refine By (HR.out _ ((AT _ _).alloc (eR _) _)) ?_;rintro e w2 ⟨rfl,h2⟩)
 go_ret;exact⟨rfl,h2⟩
theorem TB(b lev len cap:Nat)(ad:Option Addr)(R:ByteArray)(w:World)(P:World->Prop)(hR:∀W,Below w.heap.size w W->Calls aa.prog 60 #[.pointer (some ⟨b,0,none⟩),.agg #[.int .i64 lev,.slice ad len cap]] W λe w'=>e=.returned (.string R)/\P w'):
  Calls aa.prog 35 #[.pointer (some ⟨b,0,none⟩),.iface 128 (.agg #[.int .i64 lev,.slice ad len cap])] w λe w'=>e=.returned (.string R)/\P w':=by
 have HR:Hid (∀W,Below w.heap.size w W->Calls aa.prog 60 #[.pointer (some ⟨b,0,none⟩),.agg #[.int .i64 lev,.slice ad len cap]] W λe w'=>e=.returned (.string R)/\P w'):=hR;clear hR;have eas_21:=Ul;have eas_22:=GL;go_enter aa.func35,aa.ntmps35;go_wp2_with (go_at_call 60;refine By (HR.out _ ((AT _ _).alloc (eR _) _)) ?_;rintro e w2 ⟨rfl,h2⟩)
 go_ret;exact⟨rfl,h2⟩
theorem G4(b kind len cap:Nat)(ad:Option Addr)(P:Ending->World->Prop)(w:World)(hR:∀W,Below w.heap.size w W->Calls aa.prog 61 #[.pointer (some ⟨b,0,none⟩),.agg #[.int .u8 kind,.slice ad len cap]] W λe w'=>∃R,e=.returned (.string R)/\P e w'):
  Calls aa.prog 35 #[.pointer (some ⟨b,0,none⟩),.iface 132 (.agg #[.int .u8 kind,.slice ad len cap])] w λe w'=>∃R,e=.returned (.string R)/\P e w':=by
 have HR:Hid (∀W,Below w.heap.size w W->Calls aa.prog 61 #[.pointer (some ⟨b,0,none⟩),.agg #[.int .u8 kind,.slice ad len cap]] W λe w'=>∃R,e=.returned (.string R)/\P e w'):=hR;clear hR;have eas_31:=QU;have eas_32:=LI;have eas_33:=Se;go_enter aa.func35,aa.ntmps35;go_wp2_with (go_at_call 61;refine By (HR.out _ ((AT _ _).alloc (eR _) _)) ?_;rintro e w2 ⟨R,rfl,h2⟩)
 go_ret;exact⟨R,rfl,h2⟩
def xI(b num:Nat)(bm:Nat->Nat)(K:al)(w:World)(L:Let)(R:ByteArray)(w':World):Prop:=
 R=fK (vY w w' bm K L)/\aA w' b bm num (gY K L)/\Fr (λq=>kN bm q/\∃k sg,L=.aL k sg) w w'
theorem Jw(b num:Nat)(bm:Nat->Nat)(K:al)(L:Let)(v:Value)(w0 w:World)(h:sG b num bm K w0 L)(hv:rU w0 w v L)(hb:Below w0.heap.size w0 w):
  Calls aa.prog 35 #[.pointer (some ⟨b,0,none⟩),v] w λe w'=>∃R,e=.returned (.string R)/\xI b num bm K w0 L R w':=by
 cases L with
 |root d=>
  obtain rfl:=hv;refine (Pj b d (fK (lH w0 bm K d)) w (λw'=>Below w0.heap.size w0 w') λW hW=>?_).mono ?_
  ·have hB:=bf hb hW
   have:=OE b num bm K d W (h.rep.below hB) (h.wQ.below h.rep hB);rw[KM h.rep hB]at this;exact this.mono λe w' ⟨he,hb'⟩=>⟨he,bf hB hb'⟩
  ·rintro e w' ⟨rfl,hB⟩;exact⟨_,rfl,rfl,h.rep.below hB,Fr.lz hB⟩
 |nodes lev sg=>
  obtain⟨lv,rfl,hrow⟩:=hv;obtain⟨ad,cap,rfl⟩:=gD hrow;have ho:lS lev sg:=h.ok;refine (TB b lev _ cap ad (fK (ma w0 bm K lev sg)) w (λw'=>Below w0.heap.size w0 w') λW hW=>?_).mono ?_
  ·have hB:=bf hb hW
   have:=H6 b num lev w0.heap.size bm K _ sg W (h.rep.below hB) (h.wQ.below h.rep hB) (dS hrow hW (eR _)) ho.low ho.len.2 (λg hg=>(ho.num g hg).1) ho.iM (h.out W (h.rep.below hB));rw[Om h.rep hB ho.low λg hg=>(ho.num g hg).1]at this;exact this.mono λe w' ⟨he,hb'⟩=>⟨he,bf hB hb'⟩
  ·rintro e w' ⟨rfl,hB⟩;exact⟨_,rfl,rfl,h.rep.below hB,Fr.lz hB⟩
 |aL kind sg=>
  obtain⟨lv,gs,rfl,hS⟩:=hv;obtain⟨ad,cap,rfl⟩:=gD hS.row;obtain⟨hkd,hsg⟩:=h.ok;obtain⟨h1,h2⟩:=h.aL kind sg rfl;refine (G4 b kind _ cap ad (λe w'=>e=.returned (.string (if kind=84 then ⟨#[]⟩ else (Let.aL 84 (cm w' bm (bO K sg) (sg.map (·.1)))).bytes))/\aA w' b bm num (bO K sg)/\Fr (kN bm) w0 w') w λW hW=>?_).mono ?_
  ·have hB:=bf hb hW;refine (Uk b num kind bm K _ gs sg w0 W (h.rep.below hB) (hS.dH (T:=λ_=>True) (bM.below hW) trivial trivial trivial) hsg h1 h.fit hkd h2).mono ?_;rintro e w' ⟨rfl,hr,hf⟩;exact⟨_,rfl,rfl,hr,(Fr.lz hB).trans hf⟩
  ·rintro e w' ⟨R,rfl,he,hr,hf⟩;refine⟨_,rfl,?_,hr,hf.weaken λq hq=>⟨hq,kind,sg,rfl⟩⟩;injection he with he;injection he with he;rw[he,vY];by_cases hk:kind=84
   ·rw[AS hk,AS hk];rfl
   ·rw[AI hk,AI hk];rfl
theorem Of(b num:Nat)(bm:Nat->Nat)(K:al)(L:Let)(w:World)(h:sG b num bm K w L):
  Calls aa.prog 18 #[.pointer (some ⟨b,0,none⟩),.string L.bytes] w λe w'=>∃R,e=.returned (.tuple #[.string R,.int .i64 0])/\xI b num bm K w L R w':=by
 have HRd:Hid _:=TL L w h.ok h.size;have HA:Hid (∀W v,rU w W v L->Below w.heap.size w W->Calls aa.prog 35 #[.pointer (some ⟨b,0,none⟩),v] W λe w'=>∃R,e=.returned (.string R)/\xI b num bm K w L R w'):=λW v hv hb=>Jw b num bm K L v w W h hv hb;clear h;go_enter aa.func18,aa.ntmps18;go_wp2_with (first
  |(go_at_call 34;refine By HRd.out ?_;rintro e w1 ⟨v,rfl,hl,hb⟩)
  |(go_at_call 35;refine By (HA.out _ _ hl hb) ?_;rintro e w2 ⟨R,rfl,hp⟩))
 go_ret2;exact⟨R,rfl,hp⟩
section
section
variable {X Y:Nat->Prop}{w w1 w2:World}
theorem Fr.setCells(h:Fr X w w1)(hb:w.heap.size<=b\/X b):∀(vs:List Value) (o:Nat),Fr X w (w1.setCells b o vs):=by
 intro vs;induction vs generalizing w1 with
 |nil=>intro o;exact h
 |cons v vs ih=>intro o;rw[World.setCells];exact ih (h.setCell hb v) (o+1)
end
end
abbrev Mem:=Ctx×(Nat->Bool)
def b9(m:Mem):List Value:=[.int .i64 (m.1 0),.int .i64 (m.1 1),.int .i64 (m.1 2),.int .i64 (m.1 3)]++(bits m.2).toList
def ij(l:List Mem):List Value:=l.flatMap b9
theorem kG(m:Mem):(b9 m).length=84:=by simp[b9,jf]
theorem Lw(a b:List Mem):ij (a++b)=ij a++ij b:=by simp[ij]
theorem BK:∀(l:List Mem) (r:Nat) (h:r<l.length) (j:Nat),j<84->(ij l)[r*84+j]?=(b9 l[r])[j]?
 |m::l,0,_,j,hj=>by
  simp only[ij,Wi,Nat.zero_mul,Nat.zero_add,List.getElem_cons_zero];rw[List.getElem?_append_left (by rw[kG];exact hj)]
 |m::l,r+1,h,j,hj=>by
  have:=BK l r (by simpa using h) j hj;simp only[ij,Wi,List.getElem_cons_succ] at*;rw[List.getElem?_append_right (by rw[kG];omega),kG,show (r+1)*84+j-84=r*84+j by omega];exact this
structure ay where
 nr:Nat
 br:Nat
 cT:Nat
 R:Array Value
 b:Nat->Nat
 bm:Nat->Nat->Nat
 K:Nat->al
 ws:List Wr
 wv:Value
 kn:Nat->Nat->Nat->Bool
 go:Nat->Nat->Nat->Bool
 mem:Nat->List Mem
 gm:Nat->Nat
 j9:Nat->Nat
 A:Array Value
abbrev ay.mv(g:ay)(k:Nat):Value:=.slice (some ⟨g.gm k,0,none⟩) (g.mem k).length (g.j9 k)
structure bk(B:Nat)(w:World)(bt:Nat)(g:ay):Prop where
 hB:B<=bt/\(∀i n,i<g.nr->n<64->B<=g.bm i n)
 hT:w.heap[bt]?=some (.cells g.A 42)
 hA:g.A.size=1939
 h0:g.A[0]?=some (.slice (some ⟨g.br,0,none⟩) g.nr g.cT)
 hR:w.heap[g.br]?=some (.cells g.R 29)
 iQ:∀i,i<g.nr->g.R[i]?=some (.pointer (some ⟨g.b i,0,none⟩))
 ct:∀i,i<g.nr->aA w (g.b i) (g.bm i) i (g.K i)
 fe:∀i j n m,i<g.nr->j<g.nr->n<64->m<64->g.bm i n=g.bm j m->i=j
 h1:g.A[1]?=some g.wv
 hw:w.ownsRow B 115 4 g.wv g.ws.length (ja g.ws)
 bz:∀i k j,i<4->k<3->j<80->g.A[2+i*240+k*80+j]?=some (.bool (g.kn i k j))
 hgo:∀i k j,i<4->k<3->j<80->g.A[962+i*240+k*80+j]?=some (.bool (g.go i k j))
 eS:∀k,k<3->g.A[1922+k]?=some (g.mv k)
 cG:∀k,k<3->w.ownsRow B 74 84 (g.mv k) (g.mem k).length (ij (g.mem k))
 eQ:∀k l,k<3->l<3->g.gm k=g.gm l->k=l
 kV:∀i k,i<4->k<3->g.A[1927+i*3+k]?=some (.int .i64 (bu g.ws i k))
structure bS(ks:Nat->ByteArray)(g:ay):Prop where
 cC:1<=g.nr/\g.nr<=4
 hlen:g.ws.length<=80
 eH:jg g.ws
 dq:∀x∈g.ws,x.2.2.2.size<=12
 dQ:∀x∈g.ws,x.1<4
 dc:∀i k,i<g.nr->k<3->Good g.ws k (g.K i (ks k)).1 (g.kn i k)
 aD:∀i k,i<g.nr->k<3->(g.K i (ks k)).1 i=bu g.ws i k
 hex:∀i k,i<g.nr->k<3->(g.K i (ks k)).2=expected g.ws (g.kn i k) (g.go i k) k
 il:∀i k j,i<g.nr->k<3->g.ws.length<=j->g.go i k j=false
 jH:∀k m,k<3->m∈g.mem k->Good g.ws k m.1 m.2
 jb:∀k,k<3->1<=(g.mem k).length/\(g.mem k).length<=30
 eM:∀i,i<g.nr->jj (g.K i)
 eV:∀i,i<g.nr->∀s,cH (g.K i s).1->∃k,k<3/\s=ks k
 dE:∀i k j,i<g.nr->k<3->g.go i k j=true->g.kn i k j=true
structure eY(w:World)(ks:Nat->ByteArray):Prop where
 cell:∀k,k<3->w.cell? ⟨0,k,none⟩=some (.string (ks k))
 key:∀k,k<3->cS (ks k)=true/\(ks k).size<=8
 ne:∀k l,k<3->l<3->ks k=ks l->k=l
structure Apart(X:Nat->Prop)(w:World)(bt:Nat)(g:ay):Prop where
 t: ¬X bt
 r: ¬X g.br
 rep:∀i,i<g.nr->¬X (g.b i)
 map:∀i n,i<g.nr->n<64->¬X (g.bm i n)
 iS:∀k cur,w.heap[k]?=some (.cells cur 144 (0,0))->¬X k
 wr:∀k cur,w.heap[k]?=some (.cells cur 115 (0,0))->¬X k
 mem:∀k cur,w.heap[k]?=some (.cells cur 74 (0,0))->¬X k
theorem Fr.ji{X:Nat->Prop}{w w1:World}{n size:Nat}{v:Value}{xs:List Value}(h:Fr X w w1)(hr:w.ownsRow B t size v n xs)(hn:∀k cur,w.heap[k]?=some (.cells cur t (0,0))->¬X k):w1.ownsRow B t size v n xs:=by
 obtain⟨h1,h2⟩:=hr;refine⟨h1,?_⟩;rcases h2 with h2|⟨g,cap,cur,hv,hg,hh,r⟩
 ·exact Or.inl h2
 ·exact Or.inr ⟨g,cap,cur,hv,hg,h.heap hh (hn _ _ hh),r⟩
theorem bk.fr{X:Nat->Prop}{w w1:World}{g:ay}(hn:bk B w bt g)(h:Fr X w w1)(ha:Apart X w bt g):bk B w1 bt g where
 hB:=hn.hB
 hT:=h.heap hn.hT ha.t
 hA:=hn.hA
 h0:=hn.h0
 hR:=h.heap hn.hR ha.r
 iQ:=hn.iQ
 ct:=λi hi=>h.rep (hn.ct i hi) (ha.rep i hi) (λn hm=>ha.map i n hi hm) ha.iS
 fe:=hn.fe
 h1:=hn.h1
 hw:=h.ji hn.hw ha.wr
 bz:=hn.bz
 hgo:=hn.hgo
 eS:=hn.eS
 cG:=λk hk=>h.ji (hn.cG k hk) ha.mem
 eQ:=hn.eQ
 kV:=hn.kV
theorem bk.yI{w:World}{bx:Nat}{g:ay}{C:Array Value}(hn:bk B w bt g)(hx:w.heap[bx]?=some (.cells C t))(h1:t≠42)(h2:t≠29)(h3:t≠101)(h4:t≠144)(h5:t≠115)(h6:t≠74):Apart (λk=>k=bx) w bt g where
 t:=λe=>by have:=hn.hT;rw[e,hx]at this;cases this;exact h1 rfl
 r:=λe=>by have:=hn.hR;rw[e,hx]at this;cases this;exact h2 rfl
 rep:=λi hi e=>by obtain⟨⟨A,hA,_⟩,_⟩:=hn.ct i hi;rw[e,hx]at hA;cases hA;exact h3 rfl
 map:=λi n hi hm e=>by obtain⟨_,hS,_⟩:=hn.ct i hi;obtain⟨es,clock,h,_⟩:=hS n hm;rw[e,hx]at h;cases h
 iS:=λk cur h e=>by rw[e,hx]at h;cases h;exact h4 rfl
 wr:=λk cur h e=>by rw[e,hx]at h;cases h;exact h5 rfl
 mem:=λk cur h e=>by rw[e,hx]at h;cases h;exact h6 rfl
theorem byte_at{P R:ByteArray}{n:Nat}(hn:n<256)(hT:T=P++(av n++R))(h:P.size<T.size):(T[P.size]'h).toNat=n:=by
 subst hT;rw[ByteArray.getElem_append_right (eR _)];have h1:0<(av n).size:=by rw[dO];omega
 have e:∀(q:Nat) (hq:q<(av n++R).size),q=0->((av n++R)[q]'hq).toNat=n:=λq hq e=>by
  subst e;rw[ByteArray.getElem_append_left h1];have hb:=rT (n:Int);have e2:((av n)[0]'h1)=byteOf n:=by simp[av,ByteArray.getElem_eq_getElem_data]
  rw[e2];omega
 exact e _ _ (by omega)
theorem PH(hT:(Let.aL kind sg).bytes=T)(hl:sg.length<=64):2<=T.size/\∀h:1<T.size,(T[1]'h).toNat=sg.length:=by
 have e:T=av kind++(av sg.length++bR sg):=hT.symm;refine⟨by rw[e];simp only[IT,dO];omega,λh=>?_⟩
 have:=byte_at (T:=T) (P:=av kind) (n:=sg.length) (by omega) e (by rw[dO];exact h);simp only[dO]at this;exact this
abbrev b3(F:Nat->Bool):Array Value:=#[.bool (F 0),.bool (F 1),.bool (F 2)]
theorem Sg(c n:Int)(w:World)(h1: -9223372036854775808<=c)(h2:c<=9223372036854775807)(hn:1<=n)(hn2:n<=1000):
  Calls aa.prog 9 #[.int .i64 c,.int .i64 n] w λe w'=>e=.returned (.int .i64 (mg c n))/\w'=w:=by
 by_cases h:c<0
 ·go_enter aa.func9,aa.ntmps9;go_wp2;go_ret;refine⟨pT ?_,rfl⟩;rw[mg,AS h,<-Int.neg_tmod,Int.tmod_eq_emod_of_nonneg (by omega)]
 ·go_enter aa.func9,aa.ntmps9;go_wp2;go_ret;refine⟨pT ?_,rfl⟩;rw[mg,AI (by omega)]
def nu(w:World)(ad:Option Addr)(n:Nat):Prop:=n=0\/∃b off,ad=some ⟨b,off,none⟩/\∀j,j<n->∃z:Int,w.cell? ⟨b,off+j,none⟩=some (.int .i64 z)/\-9223372036854775808<=z/\z<=9223372036854775807
def bY(w:World)(bx:Nat)(ad:Option Addr)(n cap at':Nat):Prop:=
 w.heap[bx]?=some (.cells #[.slice ad n cap,.int .i64 at'] 25)/\at'<=n/\n<=9223372036854775807/\nu w ad n
theorem Pk(bx:Nat)(ad:Option Addr)(n cap at':Nat)(m:Int)(w:World)(h:bY w bx ad n cap at')(he:n<=at'):
  Calls aa.prog 14 #[.pointer (some ⟨bx,0,none⟩),.int .i64 m] w λe w'=>e=.returned (.int .i64 0)/\∃q,w'=w.drewN q:=by
 obtain⟨hb,hle,hn,_⟩:=h;obtain⟨c,f⟩:=au hb;have hge:((n:Int)<=(at':Int)):=by omega
 clear hb;go_enter aa.func14,aa.ntmps14;go_wp2;go_quiet (fail);go_wp2;go_ret;exact⟨rfl,_,rfl⟩
theorem UP(bx b off n cap at':Nat)(m z:Int)(w:World)(hb:w.heap[bx]?=some (.cells #[.slice (some ⟨b,off,none⟩) n cap,.int .i64 at'] 25))(hlt:at'<n)(hn:n<=9223372036854775807)(hz:w.cell? ⟨b,off+at',none⟩=some (.int .i64 z))(hz1: -9223372036854775808<=z)(hz2:z<=9223372036854775807)(hm:1<=m)(hm2:m<=1000):
  Calls aa.prog 14 #[.pointer (some ⟨bx,0,none⟩),.int .i64 m] w λe w'=>e=.returned (.int .i64 (mg z m))/\∃q,w'=(w.drewN q).setCell ⟨bx,1,none⟩ (.int .i64 (at'+1)):=by
 obtain⟨c,f⟩:=au hb;have hlt':((at':Int)<(n:Int)):=by omega
 have h0:(0:Int)<=(at':Int):=by omega
 have hlt2: ¬((n:Int)<=(at':Int)):=by omega
 have hbig:(at':Int)+1<=9223372036854775807:=by omega
 have HP:Hid (∀W,Calls aa.prog 9 #[.int .i64 z,.int .i64 m] W λe w'=>e=.returned (.int .i64 (mg z m))/\w'=W):=λW=>Sg z m W hz1 hz2 hm hm2;generalize mg z m=r at*;have hd:decide (n<=at')=false:=by simpa using hlt
 clear hb hz1 hz2 hlt2;go_enter aa.func14,aa.ntmps14;go_wp2;go_quiet (fail);go_wp2;go_quiet ((go_at_call 9;refine (HP.out _).mono ?_;rintro e w' ⟨rfl,rfl⟩;exact⟨rfl,_,rfl⟩));go_wp2;go_ret;exact⟨rfl,_,rfl⟩
theorem sx(bx:Nat)(ad:Option Addr)(n cap at':Nat)(m:Int)(w:World)(h:bY w bx ad n cap at')(hnb:0<n->∀b off,ad=some ⟨b,off,none⟩->b≠bx)(hm:1<=m)(hm2:m<=1000):
  Calls aa.prog 14 #[.pointer (some ⟨bx,0,none⟩),.int .i64 m] w λe w'=>∃(r:Nat) (at2:Nat),e=.returned (.int .i64 r)/\(r:Int)<m/\bY w' bx ad n cap at2/\at'<=at2/\w.grownBy w' (some bx)/\w'.heap.size=w.heap.size:=by
 by_cases he:n<=at'
 ·refine (Pk bx ad n cap at' m w h he).mono ?_;rintro e w' ⟨rfl,q,rfl⟩;exact⟨0,at',rfl,by omega,h,eR _,⟨rfl,rfl,rfl,eR _,λ_ _ _=>rfl⟩,rfl⟩
 ·obtain⟨hb,hle,hn,hc⟩:=h;rcases hc with hc|⟨b,off,rfl,hall⟩
  ·omega
  ·obtain⟨z,hz,hz1,hz2⟩:=hall at' (by omega);have hr:=RN z m hm;refine (UP bx b off n cap at' m z w hb (by omega) hn hz hz1 hz2 hm hm2).mono ?_;rintro e w' ⟨rfl,q,rfl⟩;obtain⟨r,hr'⟩:=Int.eq_ofNat_of_zero_le hr.1;have hbne:=hnb (by omega) b off rfl;refine⟨r,at'+1,by rw[hr'],by omega,⟨?_,by omega,hn,Or.inr ⟨b,off,rfl,λj hj=>?_⟩⟩,by omega,⟨rfl,rfl,rfl,by simp[World.setCell],λk hk hne=>?_⟩,by simp[World.setCell]⟩
   ·have:=heap_set (w:=w.drewN q) (o:=1) (v:=.int .i64 (at'+1)) (show (w.drewN q).heap[bx]?=_ from hb);simpa using this
   ·obtain⟨z',h1,h2,h3⟩:=hall j hj;exact⟨z',by rw[dh hbne];exact h1,h2,h3⟩
   ·exact VC (w.drewN q) ⟨bx,1,none⟩ _ k (λe=>hne (by rw[e]))
end Go.Proofs.YtldmcdeibiclkaaGreatDoorQ
