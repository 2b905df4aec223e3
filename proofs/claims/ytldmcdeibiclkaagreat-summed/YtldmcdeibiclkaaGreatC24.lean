/-
  Toward summed_holds: Contracts: told: the program's keys are the reference's; keys: asked twice, each answer wr
-/
import Derived.Test.YtldmcdeibiclkaaGreatC22
import Derived.Test.YtldmcdeibiclkaaGreatC23
import Derived.Deep.RegionHeld3
set_option linter.unusedVariables false
set_option linter.unusedSimpArgs false
set_option maxRecDepth 100000
set_option maxHeartbeats 20000000
namespace Go.Proofs.YtldmcdeibiclkaaGreatQ
variable {w W w1 W':World}{wb ob pb b rb B N:Nat}{pv le hv:Value}{gs:List PG}{hs:List Nat}{o:bU}{g:PG}
open Go.RowKit
theorem Ma(N:List (List UInt8))(k:Nat)(h:k<N.length):(bJ N)[k]?=some (.string ⟨N[k].toArray⟩):=by simp[bJ,h]
theorem C6(b rb:Nat)(N:List (List UInt8))(w:World)(hN:N.length<=1900000000000)(h1:∀W,Below w.heap.size w W->Calls aa.prog 68 #[.pointer (some ⟨b,0,none⟩)] W λe w'=>∃v',e=.returned v'/\w'.ownsRow W.heap.size 9 1 v' N.length (bJ N)/\Below W.heap.size W w')(h2:∀W,Below w.heap.size w W->Calls aa.prog 69 #[.pointer (some ⟨rb,0,none⟩)] W λe w'=>∃v',e=.returned v'/\w'.ownsRow W.heap.size 9 1 v' N.length (bJ N)/\Below W.heap.size W w'):
  Calls aa.prog 46 #[.agg #[.pointer (some ⟨b,0,none⟩),.pointer (some ⟨rb,0,none⟩)]] w λe w'=>∃v',e=.returned (.tuple #[v',.bool true])/\w'.ownsRow w.heap.size 9 1 v' N.length (bJ N)/\Below w.heap.size w w':=by
 have H1:Hid _:=h1;have H2:Hid _:=h2;clear h1 h2;go_enter aa.func46,aa.ntmps46;go_upto_region 2 with (first
  |(go_at_call 68;refine BY (H1.out _ ((AT _ _).alloc (AI _) _)) ?_;rintro e w1 ⟨v1,rfl,hown1,hb1⟩;obtain⟨ad1,cap1,rfl,hcap1,hlc1⟩:=aZ hown1))
 have HO1:Hid (w1.ownsRow (w.heap.size+1) 9 1 (.slice ad1 N.length cap1) N.length (bJ N)):=(show w1.ownsRow (w.heap.size+1) 9 1 (.slice ad1 N.length cap1) N.length (bJ N) by have:=hown1;simpa using this)
 have B1:Below (w.heap.size+1) (w.alloc (.cells #[.pointer (some ⟨b,0,none⟩),.pointer (some ⟨rb,0,none⟩)] 47)) w1:=(by have:=hb1;simpa using this)
 have z1:w.heap.size+1<=w1.heap.size:=(by have:=B1.size;simpa using this)
 have HB1:Hid (Below w.heap.size w w1):=((AT _ _).alloc (AI _) _).trans (B1.mono (by omega));have x1:w1.cell? ⟨w.heap.size,1,none⟩=some (.pointer (some ⟨rb,0,none⟩)):=by
  rw[B1.cell (p:=⟨w.heap.size,1,none⟩) (show w.heap.size<w.heap.size+1 by omega)];exact (aj (IS w _)).1 1
 clear hown1 hb1 B1;go_upto_region 3 with (first
  |(go_at_call 69;refine BY (H2.out _ HB1.out) ?_;rintro e w3 ⟨v3,rfl,hown3,hb3⟩;obtain⟨ad3,cap3,rfl,hcap3,hlc3⟩:=aZ hown3))
 have HB3:Hid (Below w.heap.size w w3):=HB1.out.trans (hb3.mono (by omega));have HO3:Hid (w3.ownsRow (w.heap.size+1) 9 1 (.slice ad1 N.length cap1) N.length (bJ N)):=cy HO1.out hb3 (AI _);have HA3:Hid (w3.ownsRow w1.heap.size 9 1 (.slice ad3 N.length cap3) N.length (bJ N)):=hown3;clear hown3 hb3 x1;go_wp2;go_loopw [6,7] (λr i wr=>∃k:Nat,k<=N.length/\r=.bool true/\i=.int .i64 k/\∃q,wr=w3.drewN q) (λ_ i _=>N.length-(intOf i).toNat)
 case atStart=>exact⟨0,by omega,by simp,rfl,0,rfl⟩
 case round=>
  obtain⟨k,hk,rfl,rfl,q,rfl⟩:=hrel;have k0:(0:Int)<=(k:Int):=by omega
  by_cases hlt:k<N.length
  ·have k63:(k:Int)<(N.length:Int):=by omega
   obtain⟨g1,cap1',hs1,_,_,_,hc1⟩:=cU HO3.out (by omega);cases hs1;obtain⟨g3,cap3',hs3,_,_,_,hc3⟩:=cU HA3.out (by omega);cases hs3;have f0:=Ma N k hlt;have a0:=hc1 _ _ (by omega) f0;have b0:=hc3 _ _ (by omega) f0;generalize (⟨N[k].toArray⟩:ByteArray)=s at*;clear f0 hc1 hc3;go_wp2;go_quiet (fail);go_wp2;exact⟨⟨k+1,by omega,by simp,by go_num,_,rfl⟩,by simp[intOf];omega⟩
  ·obtain rfl:k=N.length:=by omega
   go_wp2;go_ret2;exact⟨_,rfl,bM (show World.ownsRow (w3.drewN q) _ _ _ _ _ _ from HO3.out) (by omega),Rf HB3.out q⟩
theorem Nj(g:PG)(w:World)(h:bH w g)(hlen:g.l.length<=1900000000000):
  Calls aa.prog 46 #[.agg #[.pointer (some ⟨g.b,0,none⟩),.pointer (some ⟨g.rb,0,none⟩)]] w λe w'=>∃v' n xs,e=.returned (.tuple #[v',.bool true])/\n<=1900000000000/\w'.ownsRow w.heap.size 9 1 v' n xs/\Below w.heap.size w w':=by
 have hl:(fN g.l).length<=1900000000000:=IT (Bt g.l) hlen;refine (C6 g.b g.rb (fN g.l) w hl (λW hW=>?_) (λW hW=>?_)).mono ?_
 ·refine (OS g.b g.num g.bm g.K W (h.rep.below hW) h.inv λL h1 h2=>IT (Ew h.dW h1 h2) hlen).mono ?_;rintro e w' ⟨v',L,rfl,hL,ho,hb⟩;refine⟨v',rfl,?_,hb⟩;have e1:=LQ h.dW hL;rw[e1,<-xN,e1]at ho;exact ho
 ·have ht:=h.dW.below hW;refine (KL g.rb g.num g.sv g.l W ht.ref (λq hq=>?_) hlen).mono ?_
  ·obtain⟨ad,m,cap,e1,e2⟩:=ht.xC q hq;exact⟨ad,m,cap,e1,by rw[e2];have:=(h.inv q.1).len;omega⟩
  ·rintro e w' ⟨v',rfl,ho,hb⟩;refine⟨v',rfl,?_,hb⟩;rw[D5]at ho;rw[show (bJ (fN g.l)).length=(fN g.l).length by simp[bJ]]at ho;exact ho
 ·rintro e w' ⟨v',rfl,ho,hb⟩;exact⟨v',_,_,rfl,hl,ho,hb⟩
theorem Qe(wb:Nat)(pv le hv:Value)(gs:List PG)(hs:List Nat)(g:PG)(w:World)(h:bu w wb pv le hv gs hs)(hg:g∈gs)(hlen:hs.length<=8000000000000)(hl:g.l.length<=1900000000000):
  Calls aa.prog 18 #[.pointer (some ⟨wb,0,none⟩),.agg #[.pointer (some ⟨g.b,0,none⟩),.pointer (some ⟨g.rb,0,none⟩)]] w λe w'=>e=.returned (.bool true)/\∃(hv':Value) (hs':List Nat),bu w' wb pv le hv' gs hs'/\hs'.length=hs.length+2/\Fr (λk=>k=wb\/hv.ownBlock=some k) w w'/\∀k,hv'.ownBlock=some k->hv.ownBlock=some k\/w.heap.size<=k:=by
 have HG:Hid (∀W,Below w.heap.size w W->Calls aa.prog 46 #[.agg #[.pointer (some ⟨g.b,0,none⟩),.pointer (some ⟨g.rb,0,none⟩)]] W λe w'=>∃v' n xs,e=.returned (.tuple #[v',.bool true])/\n<=1900000000000/\w'.ownsRow W.heap.size 9 1 v' n xs/\Below W.heap.size W w'):=λW hW=>Nj g W ((h.bL g hg).below hW) hl;have HS0:Hid (eI (λk=>k<w.heap.size) w wb pv le hv gs hs):=h.BE;generalize g.b=b at*;generalize g.rb=rb at*;clear h;go_enter aa.func18,aa.ntmps18;go_upto_region 1 with fail;obtain⟨W0,hW0⟩: ∃W,W=w.alloc (.cells #[.pointer (some ⟨b,0,none⟩),.pointer (some ⟨rb,0,none⟩)] 47):=⟨_,rfl⟩
 rw[<-hW0];have HB0:Hid (Below w.heap.size w W0):=(by rw[hW0];exact (AT _ _).alloc (AI _) _)
 have z0:W0.heap.size=w.heap.size+1:=by rw[hW0];simp
 have x0:W0.cell? ⟨w.heap.size,0,none⟩=some (.pointer (some ⟨b,0,none⟩)):=by rw[hW0];exact (aj (IS w _)).1 0
 have x1:W0.cell? ⟨w.heap.size,1,none⟩=some (.pointer (some ⟨rb,0,none⟩)):=by rw[hW0];exact (aj (IS w _)).1 1
 clear hW0;go_upto_region 2 with (first
  |(go_at_call 46;refine BY (HG.out _ HB0.out) ?_;rintro e w1 ⟨v1,n1,xs1,rfl,hn1,hown1,hb1⟩;obtain⟨ad1,cap1,rfl,hcap1,hlc1⟩:=aZ hown1))
 have HO1:Hid (w1.ownsRow W0.heap.size 9 1 (.slice ad1 n1 cap1) n1 xs1):=hown1;have HB1:Hid (Below w.heap.size w w1):=HB0.out.trans (hb1.mono (by omega));have y0:=aD x0 hb1;have y1:=aD x1 hb1;have z1:=hb1.size;clear hown1 hb1 x0 x1;go_upto_region 3 with (first
  |(go_at_call 46;refine BY (HG.out _ HB1.out) ?_;rintro e w2 ⟨v2,n2,xs2,rfl,hn2,hown2,hb2⟩;obtain⟨ad2,cap2,rfl,hcap2,hlc2⟩:=aZ hown2))
 have HO2:Hid (w2.ownsRow w1.heap.size 9 1 (.slice ad2 n2 cap2) n2 xs2):=hown2;have HP2:Hid (w2.ownsRow W0.heap.size 9 1 (.slice ad1 n1 cap1) n1 xs1):=cy HO1.out hb2 (AI _);have HB2:Hid (Below w.heap.size w w2):=HB1.out.trans (hb2.mono (by omega));have z2:=hb2.size;have HS2:Hid (eI (λk=>k<w.heap.size) w2 wb pv le hv gs hs):=HS0.out.below HB2.out;have L1:Hid (∀k,(Value.slice ad1 n1 cap1).ownBlock=some k->w.heap.size+1<=k/\k<w1.heap.size):=λk e=>by have:=oU HO1.out e;omega
 have L2:Hid (∀k,(Value.slice ad2 n2 cap2).ownBlock=some k->w1.heap.size<=k/\k<w2.heap.size):=λk e=>oU HO2.out e;have HK2:Hid _:=yN (λk=>k<w.heap.size) wb pv le hv gs hs (.slice ad1 n1 cap1) n1 xs1 w2 HS2.out (by omega) (bM HP2.out (QQ _)) (by omega) (λk e=>by have:=L1.out k e;omega);clear hown2 hb2 y0 y1;go_upto_region 4 with (first
  |(go_at_call 47;refine BY HK2.out ?_;rintro e w4 ⟨rfl,hv4,h4,hS4,hF4,hN4⟩))
 have HS4:Hid (eI (λk=>(k<w.heap.size)\/(Value.slice ad1 n1 cap1).ownBlock=some k\/w2.heap.size<=k) w4 wb pv le hv4 gs (hs++ [h4])):=hS4;have HF4:Hid (Fr (λk=>k=wb\/hv.ownBlock=some k\/(Value.slice ad1 n1 cap1).ownBlock=some k) w2 w4):=hF4;have HN4:Hid (∀k,hv4.ownBlock=some k->hv.ownBlock=some k\/w2.heap.size<=k):=hN4;have HQ4:Hid (w4.ownsRow w1.heap.size 9 1 (.slice ad2 n2 cap2) n2 xs2):=keep_other (hv0:=hv4) HS2.out hF4 HO2.out (by decide) (by decide) (λk e e'=>by have:=L1.out k e';have:=L2.out k e;omega);have z4:=hF4.size;have HK4:Hid _:=yN _ wb pv le hv4 gs (hs++ [h4]) (.slice ad2 n2 cap2) n2 xs2 w4 HS4.out (by simp;omega) (bM HQ4.out (QQ _)) (by omega) (λk e=>by
  have:=L2.out k e;rintro (e'|e'|e')
  ·omega
  ·have:=L1.out k e';omega
  ·omega)
 clear hS4 hF4 hN4;go_wp2_with (first
  |(go_at_call 47;refine BY HK4.out ?_;rintro e w6 ⟨rfl,hv6,h6,hS6,hF6,hN6⟩;have HS6:Hid _:=hS6.law;have HF6:Hid (Fr (λk=>k=wb\/hv4.ownBlock=some k\/(Value.slice ad2 n2 cap2).ownBlock=some k) w4 w6):=hF6;have HN6:Hid (∀k,hv6.ownBlock=some k->hv4.ownBlock=some k\/w4.heap.size<=k):=hN6;clear hS6 hF6 hN6))
 go_ret;refine⟨rfl,hv6,hs++ [h4]++ [h6],HS6.out,by simp,?_,λk e=>?_⟩
 ·have z6:=HF6.out.size;refine⟨?_,?_,?_,by omega,λk hk hn=>?_⟩
  ·rw[HF6.out.os,HF4.out.os,HB2.out.os]
  ·rw[HF6.out.tape,HF4.out.tape,HB2.out.tape]
  ·rw[HF6.out.output,HF4.out.output,HB2.out.output]
  ·have n4: ¬hv4.ownBlock=some k:=λe=>by
    rcases HN4.out k e with hx|hx
    ·exact hn (Or.inr hx)
    ·omega
   rw[HF6.out.block k (by omega) (by rintro (e|e|e);exact hn (Or.inl e);exact n4 e;have:=L2.out k e;omega),HF4.out.block k (by omega) (by rintro (e|e|e);exact hn (Or.inl e);exact hn (Or.inr e);have:=L1.out k e;omega)];exact HB2.out.block k hk
 ·rcases HN6.out k e with e|e
  ·rcases HN4.out k e with e|e
   ·exact Or.inl e
   ·right;omega
  ·right;omega
theorem MW(c n:Int)(w:World)(h1: -9223372036854775808<=c)(h2:c<=9223372036854775807)(hn:1<=n)(hn2:n<=9000000000000):
  Calls aa.prog 25 #[.int .i64 c,.int .i64 n] w λe w'=>e=.returned (.int .i64 (lO c n))/\w'=w:=by
 by_cases h:c<0
 ·go_enter aa.func25,aa.ntmps25;go_wp2;go_ret;refine⟨ml ?_,rfl⟩;rw[lO,IN h,<-Int.neg_tmod,Int.tmod_eq_emod_of_nonneg (by omega)]
 ·go_enter aa.func25,aa.ntmps25;go_wp2;go_ret;refine⟨ml ?_,rfl⟩;rw[lO,By (by omega)]
theorem jC(gs:List PG)(k:Nat)(h:k<gs.length):(gs.flatMap dR)[k*2]?=some (.pointer (some ⟨gs[k].b,0,none⟩))/\(gs.flatMap dR)[k*2+1]?=some (.pointer (some ⟨gs[k].rb,0,none⟩)):=by
 induction gs generalizing k with
 |nil=>simp at h
 |cons v l ih=>
  have e:(v::l).flatMap dR=dR v++l.flatMap dR:=by simp
  cases k with
  |zero=>simp[e,dR,cS]
  |succ k=>
   have h':k<l.length:=by simpa using h
   have:=ih k h';rw[e];have e1:(k+1)*2=(dR v).length+k*2:=by simp[dR];omega
   have e2:(k+1)*2+1=(dR v).length+(k*2+1):=by simp[dR];omega
   rw[e2,e1,List.getElem?_append_right (by omega),List.getElem?_append_right (by omega)];simpa using this
theorem BX(wb:Nat)(pv le hv:Value)(gs:List PG)(hs:List Nat)(o:bU)(w:World)(h:bu w wb pv le hv gs hs)(h0:0<gs.length)(hlen:gs.length<=4000000000000)(hl:∀g∈gs,g.l.length<=1900000000000)(hos:o.s.size<=maxLen)(hb1: -9223372036854775808<=o.b)(hb2:o.b<=9223372036854775807):
  Calls aa.prog 12 #[.pointer (some ⟨wb,0,none⟩),.agg (bq o)] w λe w'=>∃c:Ctx,e=.returned (aG c)/\Below w.heap.size w w':=by
 have aF:=h.fJ;obtain⟨ad,cap,rfl,hcap,hlc⟩:=aZ aF;have c0:w.cell? ⟨wb,0,none⟩=some (.slice ad gs.length cap):=(aj h.blk).1 0;have hp:=Du o.b gs.length (by omega);obtain⟨p,hpe⟩: ∃p:Nat,lO o.b gs.length=(p:Int):=⟨(lO o.b gs.length).toNat,by omega⟩
 have hpl:p<gs.length:=by omega
 obtain⟨g,cap',hsv,_,_,hg,hcells⟩:=cU aF h0;cases hsv;obtain⟨f0,f1⟩:=jC gs p hpl;have p0:=hcells _ _ (by omega) f0;have p1:=hcells _ _ (by omega) f1;have HGet:Hid (∀W,Below w.heap.size w W->Calls aa.prog 28 #[.pointer (some ⟨gs[p].rb,0,none⟩),.string o.s] W λe w'=>∃v' c',e=.returned (.tuple #[v',aG c',.int .i64 (if aK o.s=true then 0 else 2)])/\df w' v' (if aK o.s=true then (gs[p].K o.s).2 else [])/\Below W.heap.size W w'):=λW hW=>
  (wj gs[p].rb gs[p].num gs[p].sv gs[p].l gs[p].K o.s W ((h.bL _ (OF hpl)).dW.below hW) (hl _ (OF hpl)) hos).mono λe w' ⟨v',he,hr⟩=>⟨v',_,he,hr⟩
 have HP:Hid (∀W,Calls aa.prog 25 #[.int .i64 o.b,.int .i64 gs.length] W λe w'=>e=.returned (.int .i64 p)/\w'=W):=λW=>by
  have:=MW o.b gs.length W hb1 hb2 (by omega) (by omega);rw[hpe]at this;exact this
 have hwb:wb<w.heap.size:=(Array.getElem?_eq_some_iff.1 h.blk).1;generalize gs[p].b=pb at*;generalize gs[p].rb=prb at*;have i0:(0:Int)<=(p:Int):=by omega
 have i1:(p:Int)<(gs.length:Int):=by omega
 clear h aF hcells f0 f1 hp hpe;obtain⟨kind,m,a,ob,s,t,c⟩:=o;simp only[bq] at*;by_cases ha:a=1
 ·subst ha;go_enter aa.func12,aa.ntmps12;go_upto_region 3 with fail;obtain⟨W0,hW0⟩: ∃W,W=(w.alloc (.cells #[.int .i64 kind,.int .i64 m,.int .i64 1,.int .i64 ob,.string s,.string t,.int .i64 (c 0),.int .i64 (c 1),.int .i64 (c 2),.int .i64 (c 3)] 36)).alloc (.cells #[.int .i64 0,.int .i64 0,.int .i64 0,.int .i64 0] 34):=⟨_,rfl⟩
  rw[<-hW0];have HB0:Hid (Below w.heap.size w W0):=(by rw[hW0];exact ((AT _ _).alloc (AI _) _).alloc (by simp) _)
  have z0:w.heap.size+2=W0.heap.size:=by rw[hW0];simp
  have e1:=(aj (IS w (.cells #[.int .i64 kind,.int .i64 m,.int .i64 1,.int .i64 ob,.string s,.string t,.int .i64 (c 0),.int .i64 (c 1),.int .i64 (c 2),.int .i64 (c 3)] 36))).1;have y3:W0.cell? ⟨w.heap.size,3,none⟩=some (.int .i64 ob):=by rw[hW0,World.cell?_alloc_lt _ _ _ (by simp)];exact e1 3
  have y4:W0.cell? ⟨w.heap.size,4,none⟩=some (.string s):=by rw[hW0,World.cell?_alloc_lt _ _ _ (by simp)];exact e1 4
  have HC0:Hid (W0.heap[w.heap.size+1]?=some (.cells #[.int .i64 0,.int .i64 0,.int .i64 0,.int .i64 0] 34)):=(by
   rw[hW0]
   have:=IS (w.alloc (.cells #[.int .i64 kind,.int .i64 m,.int .i64 1,.int .i64 ob,.string s,.string t,.int .i64 (c 0),.int .i64 (c 1),.int .i64 (c 2),.int .i64 (c 3)] 36)) (.cells #[.int .i64 0,.int .i64 0,.int .i64 0,.int .i64 0] 34);rw[cA]at this;exact this)
  have b0:=aD c0 HB0.out;have b1:=aD p0 HB0.out;have b2:=aD p1 HB0.out;have hmk:Hid (∀w',Below W0.heap.size W0 w'->w'.cell? ⟨wb,0,none⟩=some (.slice (some ⟨g,0,none⟩) gs.length cap)/\w'.cell? ⟨g,p*2,none⟩=some (.pointer (some ⟨pb,0,none⟩))/\w'.cell? ⟨g,p*2+1,none⟩=some (.pointer (some ⟨prb,0,none⟩))/\w'.cell? ⟨w.heap.size,3,none⟩=some (.int .i64 ob)):=λw' hw=>⟨aD b0 hw,aD b1 hw,aD b2 hw,aD y3 hw⟩
  clear hW0 e1 c0 p0 p1 b0 b1 b2 y3;go_region_held3 (λw'=>w'.cell? ⟨wb,0,none⟩=some (.slice (some ⟨g,0,none⟩) gs.length cap)/\w'.cell? ⟨g,p*2,none⟩=some (.pointer (some ⟨pb,0,none⟩))/\w'.cell? ⟨g,p*2+1,none⟩=some (.pointer (some ⟨prb,0,none⟩))/\w'.cell? ⟨w.heap.size,3,none⟩=some (.int .i64 ob))
   ((refine hmk.out _ ?_;simp (maxDischargeDepth:=12) [AT,Qy,Qz,QE];done))
   (first|(go_at_call 25;refine BY (HP.out _) ?_;rintro e w1 ⟨rfl,rfl⟩))
  all_goals
   have hz1:w.heap.size<W0.heap.size:=by omega
   have HB1:Hid (Below w.heap.size w (W0.alloc (.cells #[.pointer (some ⟨pb,0,none⟩),.pointer (some ⟨prb,0,none⟩)] 47)).drew):=(HB0.out.alloc (by omega) _).drew;go_wp2_with (first
    |(go_at_call 28;refine BY (HGet.out _ HB1.out) ?_;rintro e w3 ⟨v3,c',rfl,hown3,hb3⟩;obtain⟨ad3,cap3,rfl,hcap3,hlc3⟩:=aZ hown3;have HB3:Hid (Below w.heap.size w w3):=HB1.out.trans (hb3.mono HB1.out.size);have hc3:w3.heap[w.heap.size+1]?=some (.cells #[.int .i64 0,.int .i64 0,.int .i64 0,.int .i64 0] 34):=dw (W:=(W0.alloc (.cells #[.pointer (some ⟨pb,0,none⟩),.pointer (some ⟨prb,0,none⟩)] 47)).drew) ((Qx W0 _ _ (show w.heap.size+1<W0.heap.size by omega)).trans HC0.out) hb3;have HC3:Hid (w3.heap[w.heap.size+1]?=some (.cells #[.int .i64 0,.int .i64 0,.int .i64 0,.int .i64 0] 34)):=hc3;have q0:=(aj hc3).1 0;have q1:=(aj hc3).1 1;have q2:=(aj hc3).1 2;have q3:=(aj hc3).1 3;have r0:=(aj hc3).2 0;have r1:=(aj hc3).2 1;have r2:=(aj hc3).2 2;have r3:=(aj hc3).2 3;have hz3:w.heap.size+1<w3.heap.size:=(Array.getElem?_eq_some_iff.1 hc3).1;clear hown3 hb3 hc3))
   all_goals
    obtain⟨W9,hW9⟩: ∃W,W=((((w3.setCell ⟨w.heap.size+1,0,none⟩ (.int .i64 (c' 0))).setCell ⟨w.heap.size+1,1,none⟩ (.int .i64 (c' 1))).setCell ⟨w.heap.size+1,2,none⟩ (.int .i64 (c' 2))).setCell ⟨w.heap.size+1,3,none⟩ (.int .i64 (c' 3))).alloc (.cells #[.int .i64 (c' 0),.int .i64 (c' 1),.int .i64 (c' 2),.int .i64 (c' 3)] 34):=⟨_,rfl⟩
    rw[<-hW9];have hle:w.heap.size<=w.heap.size+1:=by omega
    have HB9:Below w.heap.size w W9:=by rw[hW9];exact ((((HB3.out.setCell hle _).setCell hle _).setCell hle _).setCell hle _).alloc (by simp[World.setCell];omega) _
    have h9:W9.heap[w.heap.size+1]?=some (.cells #[.int .i64 (c' 0),.int .i64 (c' 1),.int .i64 (c' 2),.int .i64 (c' 3)] 34):=by
     rw[hW9,Qx _ _ _ (by simp[World.setCell];omega),heap_set (heap_set (heap_set (heap_set HC3.out)))];rfl
    have t0:=(aj h9).1 0;have t1:=(aj h9).1 1;have t2:=(aj h9).1 2;have t3:=(aj h9).1 3;clear hW9 h9;refine Q1 (v:=aG c') ?_ rfl ⟨⟨c',rfl⟩,HB9⟩;simp[results,aa.results12,go_sem,t0,t1,t2,t3]
 ·have ha':(a !=1)=true:=by simpa using ha
  go_enter aa.func12,aa.ntmps12;go_wp2;refine Q1 (v:=aG c) ?_ rfl ⟨c,rfl,?_⟩
  ·simp[results,aa.results12,go_sem]
  ·simp (maxDischargeDepth:=12) [AT,Qz,QE]
theorem aa.NP:(aa.prog.info? 47).map (λi=>(i.zero,i.size,i.bytes))=some (some (.agg #[.pointer none,.pointer none]),2,16):=by kernel_rfl
theorem wC(wb:Nat)(n:Int)(w:World)(hn:n<0\/3<n):
  Calls aa.prog 8 #[.pointer (some ⟨wb,0,none⟩),.int .i64 n] w λe w'=>e=.returned (.bool true)/\w'=w:=by
 have HN:Hid _:=Pk n w hn;rcases hn with hn|hn
 ·go_enter aa.func8,aa.ntmps8;go_wp2_with (go_at_call 11;refine BY HN.out ?_;rintro e w1 ⟨rfl,rfl⟩)
  go_ret;exact⟨rfl,rfl⟩
 ·have hn0: ¬n<0:=by omega
  go_enter aa.func8,aa.ntmps8;go_wp2_with (go_at_call 11;refine BY HN.out ?_;rintro e w1 ⟨rfl,rfl⟩)
  go_ret;exact⟨rfl,rfl⟩
theorem Kl(wb:Nat)(pv lv hv:Value)(n k:Nat)(xs:List Value)(w:World)(hblk:w.heap[wb]?=some (.cells #[pv,lv,hv] 30))(aF:w.ownsRow 0 47 2 pv k xs)(hk:k<=4000000000000)(hn:n<4):
  Calls aa.prog 8 #[.pointer (some ⟨wb,0,none⟩),.int .i64 n] w λe w'=>e=.returned (.bool true)/\∃(b:Nat) (bm:Nat->Nat) (rb:Nat) (pv':Value),w.heap.size<=b/\(∀m,m<64->w.heap.size<=bm m)/\w.heap.size<=rb/\ba w' b bm n jx/\w'.heap[rb]?=some (.cells #[.int .i64 n,.slice none 0 0] 45)/\
   w'.heap[wb]?=some (.cells #[pv',lv,hv] 30)/\w'.ownsRow 0 47 2 pv' (k+1) (xs++ [.pointer (some ⟨b,0,none⟩),.pointer (some ⟨rb,0,none⟩)])/\Fr (λk=>k=wb\/pv.ownBlock=some k) w w'/\∀k,pv'.ownBlock=some k->pv.ownBlock=some k\/w.heap.size<=k:=by
 obtain⟨ad,cap,rfl,hcap,hlc⟩:=aZ aF;obtain⟨i0,hi0,hz0,hz1,hz2⟩:=QN aa.NP;have hwb:wb<w.heap.size:=(Array.getElem?_eq_some_iff.1 hblk).1;have HN:Hid _:=Kz n w hn;have HB:Hid (w.heap[wb]?=some (.cells #[.slice ad k cap,lv,hv] 30)):=hblk;have HR:Hid (w.ownsRow 0 47 2 (.slice ad k cap) k xs):=aF;have HNe:Hid (some wb≠(Value.slice ad k cap).ownBlock):=kG aF hblk (by decide);have HNe2:Hid (∀j,w.heap.size<=j->some j≠(Value.slice ad k cap).ownBlock):=λj hj e=>by
  have:=(aF.lt j e.symm).2;omega
 have n0: ¬(n:Int)<0:=by omega
 have n3: ¬(3:Int)<(n:Int):=by omega
 clear hblk aF;go_enter aa.func8,aa.ntmps8;go_upto_region 6 with (first|(go_at_call 11;refine BY HN.out ?_;rintro e w1 ⟨b,bm,rfl,hb,hbm,hrep,hb1⟩))
 have HRep:Hid (ba w1 b bm n jx):=hrep;have HB1:Hid (Below w.heap.size w w1):=hb1;have Hbm:Hid (∀m,m<64->w.heap.size<=bm m):=hbm;have z1:=hb1.size;have HW1:Hid (w1.heap[wb]?=some (.cells #[.slice ad k cap,lv,hv] 30)):=dw HB.out hb1;have HR1:Hid (w1.ownsRow 0 47 2 (.slice ad k cap) k xs):=cy HR.out hb1 (AI _);have c1:w1.cell? ⟨wb,0,none⟩=some (.slice ad k cap):=(aj HW1.out).1 0;have HT:Hid (∀A B,((w1.alloc A).alloc B).heap[w1.heap.size+1]?=some B):=λA B=>by
  have:=IS (w1.alloc A) B;simpa using this
 have HBw:Hid (∀A B,((w1.alloc A).alloc B).heap[wb]?=some (.cells #[.slice ad k cap,lv,hv] 30)):=λA B=>by
  rw[Qx _ _ _ (by simp;omega),Qx _ _ _ (by omega)];exact HW1.out
 clear hrep hb1 hbm;go_wp2_with (first
  |(at_builtin;refine QZ _ rfl _ _ _ rfl 0 47 i0 _ 2 16 aa.underlying26 hi0 hz0 hz1 hz2 rfl (by omega) (.slice ad k cap) _ _ rfl ((HR1.out.alloc _).alloc _) ⟨w1.heap.size+1,0,none⟩ 1 1 [.pointer (some ⟨b,0,none⟩),.pointer (some ⟨w1.heap.size,0,none⟩)] rfl rfl (QJ (cs:=#[.pointer (some ⟨b,0,none⟩),.pointer (some ⟨w1.heap.size,0,none⟩)]) (t:=47) (fr:=(0,0)) (HT.out _ _)) (by simp[Value.oneCell']) (by omega) (by unfold maxLen;omega) (by omega) (QQ _) _ rfl ?_;intro gg capn w4 hown4 hgrow4 hat4 hlt4;have HO4:Hid (w4.ownsRow 0 47 2 (.slice (some ⟨gg,0,none⟩) (k+1) capn) (k+1) (xs++ [.pointer (some ⟨b,0,none⟩),.pointer (some ⟨w1.heap.size,0,none⟩)])):=hown4;have HG4:Hid (World.grownBy ((w1.alloc (.cells #[.int .i64 n,.slice none 0 0] 45)).alloc (.cells #[.pointer (some ⟨b,0,none⟩),.pointer (some ⟨w1.heap.size,0,none⟩)] 47)) w4 (Value.slice ad k cap).ownBlock):=hgrow4;have hb4:=(HG4.out.block wb (by simp;omega) HNe.out).trans (HBw.out _ _);obtain⟨c4,f4⟩:=aj hb4;have hc4:=c4 0;have hf4:=f4 0;have Hb4:Hid (w4.heap[wb]?=some (.cells #[.slice ad k cap,lv,hv] 30)):=hb4;have HA4:Hid ((Value.slice ad k cap).ownBlock=some gg\/gg=((w1.alloc (.cells #[.int .i64 n,.slice none 0 0] 45)).alloc (.cells #[.pointer (some ⟨b,0,none⟩),.pointer (some ⟨w1.heap.size,0,none⟩)] 47)).heap.size):=hat4;clear hown4 hgrow4 hat4 hlt4 hb4 c4 f4))
 go_ret;have hz:=HG4.out.size;simp only[cA]at hz;have hF4:Fr (λj=>j=wb\/(Value.slice ad k cap).ownBlock=some j) w1 (w4.setCell ⟨wb,0,none⟩ (.slice (some ⟨gg,0,none⟩) (k+1) capn)):=
  Fr.setCell (X:=λj=>j=wb\/(Value.slice ad k cap).ownBlock=some j) ((((Fr.refl _ w1).alloc _).alloc _).grown HG4.out λj e _=>Or.inr e) (Or.inr (Or.inl rfl)) _
 have hX:∀j t cur,w1.heap[j]?=some (.cells cur t)->t≠30->t≠47->¬(j=wb\/(Value.slice ad k cap).ownBlock=some j):=by
  rintro j t cur hj t1 t2 (e|e)
  ·rw[e,HW1.out]at hj;injection hj with hj;injection hj with _ hj;exact t1 hj.symm
  ·exact kG HR1.out hj (QK t2) e.symm
 refine⟨rfl,b,bm,w1.heap.size,.slice (some ⟨gg,0,none⟩) (k+1) capn,hb,Hbm.out,z1,?_,?_,?_,?_,?_,?_⟩
 ·obtain⟨A,h1,_⟩:=HRep.out.1;refine hF4.rep HRep.out (hX _ _ _ h1 (by decide) (by decide)) (λm hm=>?_) (λg cur hg=>hX g _ cur hg (by decide) (by decide));rintro (e|e)
  ·have:=Hbm.out m hm;omega
  ·exact HNe2.out _ (Hbm.out m hm) e.symm
 ·rw[Re _ _ _ _ (show w1.heap.size≠wb by omega),HG4.out.block w1.heap.size (by simp only[cA];omega) (HNe2.out _ z1),Qx _ _ _ (by simp)];exact IS w1 _
 ·rw[heap_set Hb4.out];rfl
 ·refine (Fr.setCell (X:=λk=>k=wb) (Fr.refl _ _) (Or.inr rfl) _).dq HO4.out λg cur hg e=>?_;have e':g=wb:=e;rw[e',Hb4.out]at hg;exact absurd hg (by simp)
 ·exact (Fr.bR HB1.out).trans hF4
 ·intro j e;have e':gg=j:=by simpa[Value.ownBlock] using e
  subst e';rcases HA4.out with h4|h4
  ·exact Or.inl h4
  ·right;rw[h4];simp;omega
theorem y8(wb:Nat)(pv le hv:Value)(gs:List PG)(hs:List Nat)(n:Nat)(w:World)(h:bu w wb pv le hv gs hs)(hk:gs.length<=4000000000000)(hn:n<4):
  Calls aa.prog 8 #[.pointer (some ⟨wb,0,none⟩),.int .i64 n] w λe w'=>e=.returned (.bool true)/\∃(g:PG) (pv':Value),bu w' wb pv' le hv (gs++ [g]) hs/\g.l= []/\(∀m,m<64->w.heap.size<=g.bm m)/\w.heap.size<=g.rb/\Fr (λk=>k=wb\/pv.ownBlock=some k) w w'/\∀k,pv'.ownBlock=some k->pv.ownBlock=some k\/w.heap.size<=k:=by
 refine (Kl wb pv le hv n gs.length (gs.flatMap dR) w h.blk h.fJ hk hn).mono ?_;rintro e w' ⟨rfl,b,bm,rb,pv',hb,hbm,hrb,hrep,href,hblk,aF,hF,hN⟩;have hX:∀j t cur,w.heap[j]?=some (.cells cur t)->t≠30->t≠47->¬(j=wb\/pv.ownBlock=some j):=by
  rintro j t cur hj t1 t2 (e|e)
  ·rw[e,h.blk]at hj;injection hj with hj;injection hj with _ hj;exact t1 hj.symm
  ·exact kG h.fJ hj (QK t2) e.symm
 have hM:∀j es c,w.heap[j]?=some (.map es c)->¬(j=wb\/pv.ownBlock=some j):=by
  rintro j es c hj (e|e)
  ·rw[e,h.blk]at hj;cases hj
  ·obtain⟨cur,hc⟩: ∃cur,w.heap[j]?=some (.cells cur 47):=by
    rcases h.fJ.2 with⟨h1,_⟩|⟨g,cap,c,hv,_,hh,_⟩
    ·rw[h1]at e;cases e
    ·rw[hv]at e;simp[Value.ownBlock]at e;subst e;exact⟨c,hh⟩
   rw[hc]at hj;cases hj
 refine⟨rfl,⟨b,bm,n,jx,rb,.slice none 0 0,[]⟩,pv',⟨hblk,?_,?_,?_,?_,?_,h.kS.imp λls hl=>hF.dq hl λg cur hg=>hX g _ cur hg (by decide) (by decide),λk e h' hh=>by
  obtain⟨cur,ht⟩:=(h.holds h' hh).typed;exact (h.free k e h' hh).frame hF (hX _ _ _ ht (by decide) (by decide)) (λg cur hg=>hX g _ cur hg (by decide) (by decide)) (λg cur hg=>hX g _ cur hg (by decide) (by decide)) (λg cur _ hg=>hX g _ cur hg (by decide) (by decide)) (λg cur _ hg=>hX g _ cur hg (by decide) (by decide))⟩,rfl,hbm,hrb,hF,hN⟩
 ·rw[Q2,RQ,List.flatMap_append];simpa[dR,cS] using aF
 ·exact hF.dq h.aF λg cur hg=>hX g _ cur hg (by decide) (by decide)
 ·intro g hg;rcases List.mem_append.1 hg with hg|hg
  ·obtain⟨⟨A,kb⟩,km,⟨C,kr⟩⟩:=(h.bL g hg).kinds;refine (h.bL g hg).frame hF (hX _ _ _ kb (by decide) (by decide)) (λm hm=>?_) (hX _ _ _ kr (by decide) (by decide)) (λk cur hk=>hX k _ cur hk (by decide) (by decide)) (λk cur hk=>hX k _ cur hk (by decide) (by decide)) (λk cur hk=>hX k _ cur hk (by decide) (by decide));obtain⟨es,c,hm⟩:=km m hm;exact hM _ es c hm
  ·rw[Q5]at hg;subst hg;refine⟨hrep,⟨⟨href,QT _ _ _ _⟩,List.Pairwise.nil,λs=>⟨rfl,QT _ _ _ _⟩,λq hq=>by cases hq⟩,dG.none,hn⟩
 ·have old:∀i (hi:i<gs.length),(∀m,m<64->gs[i].bm m<w.heap.size)/\gs[i].rb<w.heap.size:=λi hi=>by
   obtain⟨_,km,⟨C,kr⟩⟩:=(h.bL gs[i] (OF hi)).kinds;refine⟨λm hm=>?_,(Array.getElem?_eq_some_iff.1 kr).1⟩;obtain⟨es,c,hm⟩:=km m hm;exact (Array.getElem?_eq_some_iff.1 hm).1
  intro i j hi hj hne;rw[Q2,RQ]at hi hj;by_cases e1:i<gs.length
  ·by_cases e2:j<gs.length
   ·rw[List.getElem_append_left e1,List.getElem_append_left e2];exact h.apart i j e1 e2 hne
   ·have:j=gs.length:=by omega
    subst this;rw[List.getElem_append_left e1,List.getElem_append_right (by omega)];obtain⟨o1,o2⟩:=old i e1;simp only[Nat.sub_self,List.getElem_cons_zero];refine⟨λm m' hm hm' e=>?_,λe=>?_⟩
    ·have:=o1 m hm
     have:=hbm m' hm';have e':gs[i].bm m=bm m':=e;omega
    ·have e':gs[i].rb=rb:=e;omega
  ·have:i=gs.length:=by omega
   subst this;have e2:j<gs.length:=by omega
   rw[List.getElem_append_left e2,List.getElem_append_right (by omega)];obtain⟨o1,o2⟩:=old j e2;simp only[Nat.sub_self,List.getElem_cons_zero];refine⟨λm m' hm hm' e=>?_,λe=>?_⟩
   ·have:=o1 m' hm'
    have:=hbm m hm;have e':bm m=gs[j].bm m':=e;omega
   ·have e':rb=gs[j].rb:=e;omega
 ·intro k hk;obtain⟨cur,ht⟩:=(h.holds k hk).typed;exact (h.holds k hk).frame hF (hX _ _ _ ht (by decide) (by decide)) (λg cur hg=>hX g _ cur hg (by decide) (by decide)) (λg cur hg=>hX g _ cur hg (by decide) (by decide)) (λg cur _ hg=>hX g _ cur hg (by decide) (by decide)) (λg cur _ hg=>hX g _ cur hg (by decide) (by decide))
structure dT(B N:Nat)(w:World)(wb:Nat)(pv le hv:Value)(gs:List PG)(hs:List Nat):Prop where
 law:bu w wb pv le hv gs hs
 ia:B<=wb
 iD:∀k,pv.ownBlock=some k->B<=k
 jA:∀k,hv.ownBlock=some k->B<=k
 iY:∀g∈gs,(∀n,n<64->B<=g.bm n)/\B<=g.rb
 len:∀g∈gs,g.l.length<=N
 gl:gs.length<=N+2
 hl:hs.length<=3*N
 base:B<=w.heap.size
 leB:∀k,le.ownBlock=some k->B<=k
 ll:∀ad n cap,le=.slice ad n cap->n<=N
theorem dT.below(h:dT B N w wb pv le hv gs hs)(hb:Below w.heap.size w w1):dT B N w1 wb pv le hv gs hs:=
 ⟨h.law.below hb,h.ia,h.iD,h.jA,h.iY,h.len,h.gl,h.hl,IT h.base hb.size,h.leB,h.ll⟩
theorem dT.more{N':Nat}(h:dT B N w wb pv le hv gs hs)(hN:N<=N'):dT B N' w wb pv le hv gs hs:=
 ⟨h.law,h.ia,h.iD,h.jA,h.iY,λg hg=>IT (h.len g hg) hN,by have:=h.gl;omega,by have:=h.hl;omega,h.base,h.leB,λad n cap e=>IT (h.ll ad n cap e) hN⟩
theorem QI{x:Int}(h1: -9223372036854775808<=x)(h2:x<=9223372036854775807):IntKind.i64.wrap x=x:=by
 simp[IntKind.wrap,IntKind.bits,IntKind.signed];omega
theorem P1(m n:Int)(h:0<n): -n<m.tmod n:=by
 rcases Int.le_total 0 m with hm|hm
 ·have:=Int.tmod_nonneg n hm;omega
 ·have h1:m.tmod n= -((-m).tmod n):=by rw[Int.neg_tmod,Int.neg_neg]
  have h2:=Int.tmod_lt_of_pos (-m) h;omega
theorem j5(m:Int)(n:Nat)(hn:0<n): ∃(q:Int) (p:Nat),m.tmod n=q/\-(n:Int)<q/\q<n/\(q+n).tmod n=p/\(q+n)%(n:Int)=p/\p<n:=by
 have hn':(0:Int)<n:=by omega
 have h2:=Int.tmod_lt_of_pos m hn';have h3:=P1 m n hn';have h5:(m.tmod n+n).tmod n<n:=Int.tmod_lt_of_pos _ hn';have h6:(m.tmod n+n).tmod n=(m.tmod n+n)%(n:Int):=Int.tmod_eq_emod_of_nonneg (by omega);have h4:0<=(m.tmod n+n)%(n:Int):=RV _ (by omega);exact⟨m.tmod n,((m.tmod n+n).tmod n).toNat,rfl,h3,h2,by omega,by omega,by omega⟩
def dE(W:World)(ob pb:Nat)(o:bU)(b rb:Nat):Prop:=
 W.heap[ob]?=some (.cells (bq o) 36)/\W.heap[pb]?=some (.cells #[.pointer (some ⟨b,0,none⟩),.pointer (some ⟨rb,0,none⟩)] 47)
theorem dE.below(h:dE W ob pb o b rb)(hb:Below W.heap.size W W'):dE W' ob pb o b rb:=⟨dw h.1 hb,dw h.2 hb⟩
theorem dE.fr{X:Nat->Prop}(h:dE W ob pb o b rb)(hF:Fr X W W')(h1: ¬X ob)(h2: ¬X pb):dE W' ob pb o b rb:=⟨hF.heap h.1 h1,hF.heap h.2 h2⟩
theorem dE.cells{kind m a oo:Int}{s t:ByteArray}{c:Ctx}(h:dE W ob pb ⟨kind,m,a,oo,s,t,c⟩ b rb):
  W.cell? ⟨ob,0,none⟩=some (.int .i64 kind)/\W.cell? ⟨ob,1,none⟩=some (.int .i64 m)/\W.cell? ⟨ob,2,none⟩=some (.int .i64 a)/\W.cell? ⟨ob,3,none⟩=some (.int .i64 oo)/\W.cell? ⟨ob,4,none⟩=some (.string s)/\W.cell? ⟨ob,5,none⟩=some (.string t)/\
  W.cell? ⟨ob,6,none⟩=some (.int .i64 (c 0))/\W.cell? ⟨ob,7,none⟩=some (.int .i64 (c 1))/\W.cell? ⟨ob,8,none⟩=some (.int .i64 (c 2))/\W.cell? ⟨ob,9,none⟩=some (.int .i64 (c 3))/\
  W.cell? ⟨pb,0,none⟩=some (.pointer (some ⟨b,0,none⟩))/\W.cell? ⟨pb,1,none⟩=some (.pointer (some ⟨rb,0,none⟩)):=by
 have e1:=(aj h.1).1;have e2:=(aj h.2).1;exact⟨e1 0,e1 1,e1 2,e1 3,e1 4,e1 5,e1 6,e1 7,e1 8,e1 9,e2 0,e2 1⟩
def eB(bm:Nat->Nat)(k:Nat):Prop:=∃n,n<64/\k=bm n
theorem bH.tA(h:bH w g){k:Nat}{t:TypeId}{cur:Array Value}(hk:w.heap[k]?=some (.cells cur t)): ¬eB g.bm k:=by
 rintro⟨n,hn,e⟩;obtain⟨es,c,hm⟩:=h.kinds.2.1 n hn;rw[e,hm]at hk;cases hk
theorem bH.uR(h:bH w g)(hF:Fr (eB g.bm) w w1):bK w1 g.rb g.num g.sv g.l g.K:=
 h.dW.frame hF (h.tA h.dW.ref.1) (λk cur hk=>h.tA hk) λs k o m c e=>by
  obtain⟨cur,hh⟩:=nD (h.dW.at_ s).2 k o m c e;exact h.tA hh
theorem bu.AU{V w5 w6:World}(h:bu w wb pv le hv gs hs)(p:Nat)(hpl:p<gs.length)(K':aB)(hK:dG K')(hV:Below w.heap.size w V){sv':Value}{l':List aC}(hrep:ba w5 gs[p].b gs[p].bm gs[p].num K')(hF5:Fr (eB gs[p].bm) V w5)(htied:bK w6 gs[p].rb gs[p].num sv' l' K')(hl:l'.length<=gs[p].l.length+1)(hF6:Fr (λk=>k=gs[p].rb) w5 w6):
  ∃gs',bu w6 wb pv le hv gs' hs/\gs'.length=gs.length/\(∀g'∈gs',∃g∈gs,g'.bm=g.bm/\g'.rb=g.rb/\g'.l.length<=g.l.length+1)/\Fr (λk=>∃g∈gs,eB g.bm k\/k=g.rb) w w6:=by
 have hp:=h.bL gs[p] (OF hpl);have hFw5:Fr (eB gs[p].bm) w w5:=(Fr.bR hV).trans hF5;have hF:Fr (λk=>(∃n,n<64/\k=gs[p].bm n)\/k=gs[p].rb) w w6:=(hFw5.weaken λk e=>Or.inl e).trans (hF6.weaken λk e=>Or.inr e);have hrb5:w5.heap[gs[p].rb]?=some (.cells #[.int .i64 gs[p].num,gs[p].sv] 45):=(hp.uR hFw5).ref.1;have hrep6:ba w6 gs[p].b gs[p].bm gs[p].num K':=by
  obtain⟨A,h1,_⟩:=hrep.1;refine hF6.rep hrep (λe=>?_) (λn hn e=>?_) (λg cur hg e=>?_)
  ·rw[e,hrb5]at h1;exact absurd h1 (by simp)
  ·obtain⟨es,c,hm,_⟩:=hrep.2.1 n hn;rw[e,hrb5]at hm;cases hm
  ·have e':g=gs[p].rb:=e;rw[e',hrb5]at hg;exact absurd hg (by simp)
 refine⟨gs.set p ⟨gs[p].b,gs[p].bm,gs[p].num,K',gs[p].rb,sv',l'⟩,h.upd p hpl _ rfl rfl rfl ⟨hrep6,htied,hK,hp.num⟩ hF,by simp,λg' hg'=>?_,hF.weaken λk e=>⟨gs[p],OF hpl,e⟩⟩;rcases Ah hg' with rfl|⟨j,hj,_,rfl⟩
 ·exact⟨gs[p],OF hpl,rfl,rfl,hl⟩
 ·exact⟨gs[j],OF hj,rfl,rfl,by omega⟩
theorem MY(wb:Nat)(pv le hv:Value)(gs:List PG)(hs:List Nat)(o:bU)(w:World)(h:bu w wb pv le hv gs hs)(h0:0<gs.length)(hlen:gs.length<=4000000000000)(hm1: -9223372036854775808<=o.m)(hm2:o.m<=9223372036854775807)(hk:o.kind<1):
  Calls aa.prog 9 #[.pointer (some ⟨wb,0,none⟩),.agg (bq o)] w λe w'=>e=.returned (.bool true)/\Below w.heap.size w w':=by
 have aF:=h.fJ;obtain⟨ad,cap,rfl,hcap,hlc⟩:=aZ aF;have c0:w.cell? ⟨wb,0,none⟩=some (.slice ad gs.length cap):=(aj h.blk).1 0;obtain⟨q,p,hq,hq1,hq2,hpe,hpe',hpl⟩:=j5 o.m gs.length h0;obtain⟨g,cap',hsv,_,_,hg,hcells⟩:=cU aF h0;cases hsv;obtain⟨f0,f1⟩:=jC gs p hpl;have p0:=hcells _ _ (by omega) f0;have p1:=hcells _ _ (by omega) f1;have hwb:wb<w.heap.size:=(Array.getElem?_eq_some_iff.1 h.blk).1;generalize gs[p]=gp at*;generalize gp.b=pb at*;generalize gp.rb=prb at*;have i0:(0:Int)<=(p:Int):=by omega
 have i1:(p:Int)<(gs.length:Int):=by omega
 have n1:(0:Int)<(gs.length:Int):=by omega
 clear h aF hcells f0 f1;generalize gs.length=gl at*;have n2: ¬gl=0:=by omega
 have n3: ¬(gl:Int)=0:=by omega
 have n4:((gl:Int)==0)=false:=by simpa using n2
 have w1:IntKind.i64.wrap (q+(gl:Int))=q+gl:=QI (by omega) (by omega);have w2:IntKind.i64.wrap q=q:=QI (by omega) (by omega);have w3:IntKind.i64.wrap (p:Int)=p:=QI (by omega) (by omega);have hpq:q%(gl:Int)=p:=by rw[<-hpe',RF]
 obtain⟨kind,m,a,ob,s,t,c⟩:=o;have k1:(kind==1)=false:=beq_eq_false_iff_ne.2 (by have:kind<1:=hk;omega);have k2:(kind==2)=false:=beq_eq_false_iff_ne.2 (by have:kind<1:=hk;omega);have k3:(kind==3)=false:=beq_eq_false_iff_ne.2 (by have:kind<1:=hk;omega);have k4:(kind==4)=false:=beq_eq_false_iff_ne.2 (by have:kind<1:=hk;omega);have k5:(kind==5)=false:=beq_eq_false_iff_ne.2 (by have:kind<1:=hk;omega);have k6:(kind==6)=false:=beq_eq_false_iff_ne.2 (by have:kind<1:=hk;omega);have k7:(kind==7)=false:=beq_eq_false_iff_ne.2 (by have:kind<1:=hk;omega);have k8:(kind==8)=false:=beq_eq_false_iff_ne.2 (by have:kind<1:=hk;omega);have k9:(kind==9)=false:=beq_eq_false_iff_ne.2 (by have:kind<1:=hk;omega);have k10:(kind==10)=false:=beq_eq_false_iff_ne.2 (by have:kind<1:=hk;omega);simp only[bq] at*;go_enter aa.func9,aa.ntmps9;go_upto_region 4 with fail;obtain⟨W0,hW0⟩: ∃W,W=w.alloc (.cells #[.int .i64 kind,.int .i64 m,.int .i64 a,.int .i64 ob,.string s,.string t,.int .i64 (c 0),.int .i64 (c 1),.int .i64 (c 2),.int .i64 (c 3)] 36):=⟨_,rfl⟩
 rw[<-hW0];have HB0:Hid (Below w.heap.size w W0):=(by rw[hW0];exact (AT _ _).alloc (AI _) _)
 have z0:W0.heap.size=w.heap.size+1:=by rw[hW0];simp
 have HOp:Hid (W0.heap[w.heap.size]?=some (.cells #[.int .i64 kind,.int .i64 m,.int .i64 a,.int .i64 ob,.string s,.string t,.int .i64 (c 0),.int .i64 (c 1),.int .i64 (c 2),.int .i64 (c 3)] 36)):=(by rw[hW0];exact IS w _)
 have y1:W0.cell? ⟨w.heap.size,1,none⟩=some (.int .i64 m):=(aj HOp.out).1 1;have b0:=aD c0 HB0.out;have b1:=aD p0 HB0.out;have b2:=aD p1 HB0.out;have hmk:Hid (∀w',Below W0.heap.size W0 w'->w'.cell? ⟨wb,0,none⟩=some (.slice (some ⟨g,0,none⟩) gl cap)/\w'.cell? ⟨g,p*2,none⟩=some (.pointer (some ⟨pb,0,none⟩))/\w'.cell? ⟨g,p*2+1,none⟩=some (.pointer (some ⟨prb,0,none⟩))/\w'.cell? ⟨w.heap.size,1,none⟩=some (.int .i64 m)):=λw' hw=>⟨aD b0 hw,aD b1 hw,aD b2 hw,aD y1 hw⟩
 clear hW0 c0 p0 p1 b0 b1 b2 y1;go_region_held3 (λw'=>w'.cell? ⟨wb,0,none⟩=some (.slice (some ⟨g,0,none⟩) gl cap)/\w'.cell? ⟨g,p*2,none⟩=some (.pointer (some ⟨pb,0,none⟩))/\w'.cell? ⟨g,p*2+1,none⟩=some (.pointer (some ⟨prb,0,none⟩))/\w'.cell? ⟨w.heap.size,1,none⟩=some (.int .i64 m))
  ((refine hmk.out _ ?_;simp (maxDischargeDepth:=12) [AT,Qy,Qz,QE];done))
  (fail)
 all_goals
  clear hpe hpe' hpq w1 w2 w3 n4;try rw[z0]
  obtain⟨W2,hW2⟩: ∃W,W=(W0.alloc (.cells #[.pointer (some ⟨pb,0,none⟩),.pointer (some ⟨prb,0,none⟩)] 47)).drew:=⟨_,rfl⟩
  rw[<-hW2];have HB2:Hid (Below w.heap.size w W2):=(by rw[hW2];exact (HB0.out.alloc (by omega) _).drew)
  have HX2:Hid (dE W2 w.heap.size (w.heap.size+1) ⟨kind,m,a,ob,s,t,c⟩ pb prb):=(by
   rw[hW2];refine⟨(Qx W0 _ _ (by omega)).trans HOp.out,?_⟩;rw[<-z0];exact IS W0 _)
  have z2:W2.heap.size=w.heap.size+2:=by rw[hW2];simp;omega
  obtain⟨x0,x1,x2,x3,x4,x5,x6,x7,x8,x9,y0,y1⟩:=HX2.out.cells;clear hW2 hmk z0 HOp HB0;go_wp2;go_ret;exact⟨rfl,HB2.out⟩
theorem ON(wb:Nat)(pv le hv:Value)(gs:List PG)(hs:List Nat)(o:bU)(w:World)(h:bu w wb pv le hv gs hs)(h0:0<gs.length)(hlen:gs.length<=4000000000000)(hm1: -9223372036854775808<=o.m)(hm2:o.m<=9223372036854775807)(hk:o.kind=2)(hl:∀g∈gs,g.l.length<=1900000000000)(hos:o.s.size<=maxLen)(hot:o.t.size<=maxLen)(hb1: -9223372036854775808<=o.b)(hb2:o.b<=9223372036854775807):
  Calls aa.prog 9 #[.pointer (some ⟨wb,0,none⟩),.agg (bq o)] w λe w'=>e=.returned (.bool true)/\∃gs',bu w' wb pv le hv gs' hs/\gs'.length=gs.length/\(∀g'∈gs',∃g∈gs,g'.bm=g.bm/\g'.rb=g.rb/\g'.l.length<=g.l.length+1)/\Fr (λk=>∃g∈gs,eB g.bm k\/k=g.rb) w w':=by
 have aF:=h.fJ;obtain⟨ad,cap,rfl,hcap,hlc⟩:=aZ aF;have c0:w.cell? ⟨wb,0,none⟩=some (.slice ad gs.length cap):=(aj h.blk).1 0;obtain⟨q,p,hq,hq1,hq2,hpe,hpe',hpl⟩:=j5 o.m gs.length h0;obtain⟨g,cap',hsv,_,_,hg,hcells⟩:=cU aF h0;cases hsv;obtain⟨f0,f1⟩:=jC gs p hpl;have p0:=hcells _ _ (by omega) f0;have p1:=hcells _ _ (by omega) f1;have hwb:wb<w.heap.size:=(Array.getElem?_eq_some_iff.1 h.blk).1;have HSeen:Hid (∀W,Below w.heap.size w W->Calls aa.prog 12 #[.pointer (some ⟨wb,0,none⟩),.agg (bq o)] W λe w'=>∃c:Ctx,e=.returned (aG c)/\Below W.heap.size W w'):=λW hW=>BX wb _ le hv gs hs o W (h.below hW) h0 hlen hl hos hb1 hb2;obtain⟨er,her⟩: ∃er:Ctx->Int,∀x,gW gs[p].K gs[p].num o.s o.t x=er x:=⟨_,λ_=>rfl⟩
 have HPut:Hid (∀x W,Below w.heap.size w W->Calls aa.prog 13 #[.pointer (some ⟨gs[p].b,0,none⟩),.string o.s,.string o.t,aG x] W λe w'=>e=.returned (.int .i64 (er x))/\ba w' gs[p].b gs[p].bm gs[p].num (iO gs[p].K gs[p].num o.s o.t x)/\Fr (eB gs[p].bm) W w'):=λx W hW=>by
  have:=Nu gs[p].b gs[p].num gs[p].bm gs[p].K o.s o.t x W ((h.bL _ (OF hpl)).rep.below hW) (h.bL _ (OF hpl)).inv (h.bL _ (OF hpl)).num hos hot;rw[her]at this;exact this
 have HRef:Hid (∀x W V,Below w.heap.size w V->Fr (eB gs[p].bm) V W->Calls aa.prog 14 #[.pointer (some ⟨gs[p].rb,0,none⟩),.string o.s,.string o.t,aG x] W λe w'=>e=.returned (.int .i64 (er x))/\(∃sv' l',bK w' gs[p].rb gs[p].num sv' l' (iO gs[p].K gs[p].num o.s o.t x)/\l'.length<=gs[p].l.length+1)/\Fr (λk=>k=gs[p].rb) W w'):=λx W V hV hF=>by
  have:=Iq gs[p].rb gs[p].num gs[p].sv gs[p].l gs[p].K o.s o.t x W (((h.bL _ (OF hpl)).below hV).uR hF) (h.bL _ (OF hpl)).inv (h.bL _ (OF hpl)).num (hl _ (OF hpl)) hos hot;rw[her]at this;exact this
 have HFin:Hid (∀x V w5 w' sv' l',Below w.heap.size w V->ba w5 gs[p].b gs[p].bm gs[p].num (iO gs[p].K gs[p].num o.s o.t x)->Fr (eB gs[p].bm) V w5->bK w' gs[p].rb gs[p].num sv' l' (iO gs[p].K gs[p].num o.s o.t x)->l'.length<=gs[p].l.length+1->Fr (λk=>k=gs[p].rb) w5 w'->∃gs',bu w' wb (.slice (some ⟨g,0,none⟩) gs.length cap) le hv gs' hs/\gs'.length=gs.length/\(∀g'∈gs',∃g∈gs,g'.bm=g.bm/\g'.rb=g.rb/\g'.l.length<=g.l.length+1)/\Fr (λk=>∃g∈gs,eB g.bm k\/k=g.rb) w w'):=λx V w5 w' sv' l' hV h1 h2 h3 h4 h5=>h.AU p hpl _ (O1 (h.bL _ (OF hpl)).inv (h.bL _ (OF hpl)).num) hV h1 h2 h3 h4 h5;have hbm:∀n,n<64->gs[p].bm n<w.heap.size:=λn hn=>by
  obtain⟨es,c,hm⟩:=(h.bL _ (OF hpl)).kinds.2.1 n hn;exact (Array.getElem?_eq_some_iff.1 hm).1
 have HBm:Hid (∀k,w.heap.size<=k->¬eB gs[p].bm k):=λk hk ⟨n,hn,e⟩=>by have:=hbm n hn;omega
 clear her hbm;generalize gs[p]=gp at*;generalize gp.b=pb at*;generalize gp.rb=prb at*;have i0:(0:Int)<=(p:Int):=by omega
 have i1:(p:Int)<(gs.length:Int):=by omega
 have n1:(0:Int)<(gs.length:Int):=by omega
 clear h aF hcells f0 f1;generalize gs.length=gl at*;have n2: ¬gl=0:=by omega
 have n3: ¬(gl:Int)=0:=by omega
 have n4:((gl:Int)==0)=false:=by simpa using n2
 have w1:IntKind.i64.wrap (q+(gl:Int))=q+gl:=QI (by omega) (by omega);have w2:IntKind.i64.wrap q=q:=QI (by omega) (by omega);have w3:IntKind.i64.wrap (p:Int)=p:=QI (by omega) (by omega);have hpq:q%(gl:Int)=p:=by rw[<-hpe',RF]
 obtain⟨kind,m,a,ob,s,t,c⟩:=o;have k1:(kind==1)=false:=beq_eq_false_iff_ne.2 (by have:kind=2:=hk;omega);have k2:(kind==2)=true:=Rw.2 hk;clear hk;simp only[bq] at*;go_enter aa.func9,aa.ntmps9;go_upto_region 4 with fail;obtain⟨W0,hW0⟩: ∃W,W=w.alloc (.cells #[.int .i64 kind,.int .i64 m,.int .i64 a,.int .i64 ob,.string s,.string t,.int .i64 (c 0),.int .i64 (c 1),.int .i64 (c 2),.int .i64 (c 3)] 36):=⟨_,rfl⟩
 rw[<-hW0];have HB0:Hid (Below w.heap.size w W0):=(by rw[hW0];exact (AT _ _).alloc (AI _) _)
 have z0:W0.heap.size=w.heap.size+1:=by rw[hW0];simp
 have HOp:Hid (W0.heap[w.heap.size]?=some (.cells #[.int .i64 kind,.int .i64 m,.int .i64 a,.int .i64 ob,.string s,.string t,.int .i64 (c 0),.int .i64 (c 1),.int .i64 (c 2),.int .i64 (c 3)] 36)):=(by rw[hW0];exact IS w _)
 have y1:W0.cell? ⟨w.heap.size,1,none⟩=some (.int .i64 m):=(aj HOp.out).1 1;have b0:=aD c0 HB0.out;have b1:=aD p0 HB0.out;have b2:=aD p1 HB0.out;have hmk:Hid (∀w',Below W0.heap.size W0 w'->w'.cell? ⟨wb,0,none⟩=some (.slice (some ⟨g,0,none⟩) gl cap)/\w'.cell? ⟨g,p*2,none⟩=some (.pointer (some ⟨pb,0,none⟩))/\w'.cell? ⟨g,p*2+1,none⟩=some (.pointer (some ⟨prb,0,none⟩))/\w'.cell? ⟨w.heap.size,1,none⟩=some (.int .i64 m)):=λw' hw=>⟨aD b0 hw,aD b1 hw,aD b2 hw,aD y1 hw⟩
 clear hW0 c0 p0 p1 b0 b1 b2 y1;go_region_held3 (λw'=>w'.cell? ⟨wb,0,none⟩=some (.slice (some ⟨g,0,none⟩) gl cap)/\w'.cell? ⟨g,p*2,none⟩=some (.pointer (some ⟨pb,0,none⟩))/\w'.cell? ⟨g,p*2+1,none⟩=some (.pointer (some ⟨prb,0,none⟩))/\w'.cell? ⟨w.heap.size,1,none⟩=some (.int .i64 m))
  ((refine hmk.out _ ?_;simp (maxDischargeDepth:=12) [AT,Qy,Qz,QE];done))
  (fail)
 all_goals
  clear hpe hpe' hpq w1 w2 w3 n4;try rw[z0]
  obtain⟨W2,hW2⟩: ∃W,W=(W0.alloc (.cells #[.pointer (some ⟨pb,0,none⟩),.pointer (some ⟨prb,0,none⟩)] 47)).drew:=⟨_,rfl⟩
  rw[<-hW2];have HB2:Hid (Below w.heap.size w W2):=(by rw[hW2];exact (HB0.out.alloc (by omega) _).drew)
  have HX2:Hid (dE W2 w.heap.size (w.heap.size+1) ⟨kind,m,a,ob,s,t,c⟩ pb prb):=(by
   rw[hW2];refine⟨(Qx W0 _ _ (by omega)).trans HOp.out,?_⟩;rw[<-z0];exact IS W0 _)
  have z2:W2.heap.size=w.heap.size+2:=by rw[hW2];simp;omega
  obtain⟨x0,x1,x2,x3,x4,x5,x6,x7,x8,x9,y0,y1⟩:=HX2.out.cells;clear hW2 hmk z0 HOp HB0;go_upto_region 8 with (first
   |(go_at_call 12;refine BY (HSeen.out _ HB2.out) ?_;rintro e w3 ⟨cx,rfl,hb3⟩))
  have z3:=hb3.size;obtain⟨W4,hW4⟩: ∃W,W=w3.alloc (.cells #[.int .i64 (cx 0),.int .i64 (cx 1),.int .i64 (cx 2),.int .i64 (cx 3)] 34):=⟨_,rfl⟩
  rw[<-hW4];have HB4:Hid (Below w.heap.size w W4):=(by rw[hW4];exact (HB2.out.trans (hb3.mono (by omega))).alloc (by omega) _)
  have HX4:Hid (dE W4 w.heap.size (w.heap.size+1) ⟨kind,m,a,ob,s,t,c⟩ pb prb):=(by rw[hW4];exact (HX2.out.below hb3).below ((AT _ _).alloc (AI _) _))
  have HC4:Hid (W4.heap[w3.heap.size]?=some (.cells #[.int .i64 (cx 0),.int .i64 (cx 1),.int .i64 (cx 2),.int .i64 (cx 3)] 34)):=(by rw[hW4];exact IS w3 _)
  clear hW4 hb3 x0 x1 x2 x3 x4 x5 x6 x7 x8 x9 y0 y1;obtain⟨x0,x1,x2,x3,x4,x5,x6,x7,x8,x9,y0,y1⟩:=HX4.out.cells;have q0:=(aj HC4.out).1 0;have q1:=(aj HC4.out).1 1;have q2:=(aj HC4.out).1 2;have q3:=(aj HC4.out).1 3;go_upto_region 9 with (first
   |(go_at_call 13;refine BY (HPut.out cx _ HB4.out) ?_;rintro e w5 ⟨rfl,hrep5,hF5⟩))
  have HRep5:Hid _:=hrep5;have HF5:Hid (Fr (eB _) W4 w5):=hF5;have HX5:Hid (dE w5 w.heap.size (w.heap.size+1) ⟨kind,m,a,ob,s,t,c⟩ pb prb):=HX4.out.fr hF5 (HBm.out _ (AI _)) (HBm.out _ (by omega));have HC5:Hid (w5.heap[w3.heap.size]?=some (.cells #[.int .i64 (cx 0),.int .i64 (cx 1),.int .i64 (cx 2),.int .i64 (cx 3)] 34)):=hF5.heap HC4.out (HBm.out _ (by omega));clear hrep5 hF5 x0 x1 x2 x3 x4 x5 x6 x7 x8 x9 y0 y1 q0 q1 q2 q3;obtain⟨x0,x1,x2,x3,x4,x5,x6,x7,x8,x9,y0,y1⟩:=HX5.out.cells;have q0:=(aj HC5.out).1 0;have q1:=(aj HC5.out).1 1;have q2:=(aj HC5.out).1 2;have q3:=(aj HC5.out).1 3;go_wp2_with (first
   |(go_at_call 14;refine BY (HRef.out cx _ W4 HB4.out HF5.out) ?_;rintro e w6 ⟨rfl,⟨sv',l',ht6,hl6⟩,hF6⟩;have HT6:Hid _:=ht6;have HF6:Hid _:=hF6;clear ht6 hF6))
  go_ret;exact⟨by simp,HFin.out cx W4 w5 w6 sv' l' HB4.out HRep5.out HF5.out HT6.out hl6 HF6.out⟩
end Go.Proofs.YtldmcdeibiclkaaGreatQ
