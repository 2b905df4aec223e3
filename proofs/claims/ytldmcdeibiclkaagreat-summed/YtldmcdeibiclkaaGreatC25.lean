/-
  Toward summed_holds: Contract: step: a Delete.
-/
import Derived.Test.YtldmcdeibiclkaaGreatC24
import Derived.Deep.AppendLies
import Derived.Lib.AppendStr
import Derived.Lib.SlBytesRow
import Derived.Below
import Derived.Test.YtldmcdeibiclkaaGreatC17
import Derived.Test.YtldmcdeibiclkaaGreatC16
import Derived.Laws.BitsLemmas
set_option linter.unusedVariables false
set_option linter.unusedSimpArgs false
set_option maxRecDepth 100000
set_option maxHeartbeats 20000000
namespace Go.Proofs.YtldmcdeibiclkaaGreatQ
variable {v v1:Value}{B b:Nat}{s:ByteArray}{w1 w':World}{xs:List Value}{e t:TypeId}{cs:Array Value}{ops:Array Oper}{rest:List Oper}{o:Oper}{a:Act}{l:List ax}
open Go.RowKit
theorem PT(wb:Nat)(pv le hv:Value)(gs:List PG)(hs:List Nat)(o:bU)(w:World)(h:bu w wb pv le hv gs hs)(h0:0<gs.length)(hlen:gs.length<=4000000000000)(hm1: -9223372036854775808<=o.m)(hm2:o.m<=9223372036854775807)(hk:o.kind=3)(hl:∀g∈gs,g.l.length<=1900000000000)(hos:o.s.size<=maxLen)(hot:o.t.size<=maxLen)(hb1: -9223372036854775808<=o.b)(hb2:o.b<=9223372036854775807):
  Calls aa.prog 9 #[.pointer (some ⟨wb,0,none⟩),.agg (bq o)] w λe w'=>e=.returned (.bool true)/\∃gs',bu w' wb pv le hv gs' hs/\gs'.length=gs.length/\(∀g'∈gs',∃g∈gs,g'.bm=g.bm/\g'.rb=g.rb/\g'.l.length<=g.l.length+1)/\Fr (λk=>∃g∈gs,eB g.bm k\/k=g.rb) w w':=by
 have aF:=h.fJ;obtain⟨ad,cap,rfl,hcap,hlc⟩:=aZ aF;have c0:w.cell? ⟨wb,0,none⟩=some (.slice ad gs.length cap):=(aj h.blk).1 0;obtain⟨q,p,hq,hq1,hq2,hpe,hpe',hpl⟩:=j5 o.m gs.length h0;obtain⟨g,cap',hsv,_,_,hg,hcells⟩:=cU aF h0;cases hsv;obtain⟨f0,f1⟩:=jC gs p hpl;have p0:=hcells _ _ (by omega) f0;have p1:=hcells _ _ (by omega) f1;have hwb:wb<w.heap.size:=(Array.getElem?_eq_some_iff.1 h.blk).1;have HSeen:Hid (∀W,Below w.heap.size w W->Calls aa.prog 12 #[.pointer (some ⟨wb,0,none⟩),.agg (bq o)] W λe w'=>∃c:Ctx,e=.returned (aG c)/\Below W.heap.size W w'):=λW hW=>BX wb _ le hv gs hs o W (h.below hW) h0 hlen hl hos hb1 hb2;obtain⟨er,her⟩: ∃er:Ctx->Int,∀x,jw gs[p].K o.s x=er x:=⟨_,λ_=>rfl⟩
 have HPut:Hid (∀x W,Below w.heap.size w W->Calls aa.prog 15 #[.pointer (some ⟨gs[p].b,0,none⟩),.string o.s,aG x] W λe w'=>e=.returned (.int .i64 (er x))/\ba w' gs[p].b gs[p].bm gs[p].num (iW gs[p].K o.s x)/\Fr (eB gs[p].bm) W w'):=λx W hW=>by
  have:=CD gs[p].b gs[p].num gs[p].bm gs[p].K o.s x W ((h.bL _ (OF hpl)).rep.below hW) (h.bL _ (OF hpl)).inv hos;rw[her]at this;exact this
 have HRef:Hid (∀x W V,Below w.heap.size w V->Fr (eB gs[p].bm) V W->Calls aa.prog 16 #[.pointer (some ⟨gs[p].rb,0,none⟩),.string o.s,aG x] W λe w'=>e=.returned (.int .i64 (er x))/\(∃sv' l',bK w' gs[p].rb gs[p].num sv' l' (iW gs[p].K o.s x)/\l'.length<=gs[p].l.length+1)/\Fr (λk=>k=gs[p].rb) W w'):=λx W V hV hF=>by
  have:=Gb gs[p].rb gs[p].num gs[p].sv gs[p].l gs[p].K o.s x W (((h.bL _ (OF hpl)).below hV).uR hF) (h.bL _ (OF hpl)).inv (hl _ (OF hpl)) hos;rw[her]at this;exact this
 have HFin:Hid (∀x V w5 w' sv' l',Below w.heap.size w V->ba w5 gs[p].b gs[p].bm gs[p].num (iW gs[p].K o.s x)->Fr (eB gs[p].bm) V w5->bK w' gs[p].rb gs[p].num sv' l' (iW gs[p].K o.s x)->l'.length<=gs[p].l.length+1->Fr (λk=>k=gs[p].rb) w5 w'->∃gs',bu w' wb (.slice (some ⟨g,0,none⟩) gs.length cap) le hv gs' hs/\gs'.length=gs.length/\(∀g'∈gs',∃g∈gs,g'.bm=g.bm/\g'.rb=g.rb/\g'.l.length<=g.l.length+1)/\Fr (λk=>∃g∈gs,eB g.bm k\/k=g.rb) w w'):=λx V w5 w' sv' l' hV h1 h2 h3 h4 h5=>h.AU p hpl _ (CG (h.bL _ (OF hpl)).inv) hV h1 h2 h3 h4 h5;have hbm:∀n,n<64->gs[p].bm n<w.heap.size:=λn hn=>by
  obtain⟨es,c,hm⟩:=(h.bL _ (OF hpl)).kinds.2.1 n hn;exact (Array.getElem?_eq_some_iff.1 hm).1
 have HBm:Hid (∀k,w.heap.size<=k->¬eB gs[p].bm k):=λk hk ⟨n,hn,e⟩=>by have:=hbm n hn;omega
 clear her hbm;generalize gs[p]=gp at*;generalize gp.b=pb at*;generalize gp.rb=prb at*;have i0:(0:Int)<=(p:Int):=by omega
 have i1:(p:Int)<(gs.length:Int):=by omega
 have n1:(0:Int)<(gs.length:Int):=by omega
 clear h aF hcells f0 f1;generalize gs.length=gl at*;have n2: ¬gl=0:=by omega
 have n3: ¬(gl:Int)=0:=by omega
 have n4:((gl:Int)==0)=false:=by simpa using n2
 have w1:IntKind.i64.wrap (q+(gl:Int))=q+gl:=QI (by omega) (by omega);have w2:IntKind.i64.wrap q=q:=QI (by omega) (by omega);have w3:IntKind.i64.wrap (p:Int)=p:=QI (by omega) (by omega);have hpq:q%(gl:Int)=p:=by rw[<-hpe',RF]
 obtain⟨kind,m,a,ob,s,t,c⟩:=o;have k1:(kind==1)=false:=beq_eq_false_iff_ne.2 (by have:kind=3:=hk;omega);have k2:(kind==2)=false:=beq_eq_false_iff_ne.2 (by have:kind=3:=hk;omega);have k3:(kind==3)=true:=Rw.2 hk;clear hk;simp only[bq] at*;go_enter aa.func9,aa.ntmps9;go_upto_region 4 with fail;obtain⟨W0,hW0⟩: ∃W,W=w.alloc (.cells #[.int .i64 kind,.int .i64 m,.int .i64 a,.int .i64 ob,.string s,.string t,.int .i64 (c 0),.int .i64 (c 1),.int .i64 (c 2),.int .i64 (c 3)] 36):=⟨_,rfl⟩
 rw[<-hW0];have HB0:Hid (Below w.heap.size w W0):=(by rw[hW0];exact (AT _ _).alloc (AI _) _)
 have z0:W0.heap.size=w.heap.size+1:=by rw[hW0];simp
 have HOp:Hid (W0.heap[w.heap.size]?=some (.cells #[.int .i64 kind,.int .i64 m,.int .i64 a,.int .i64 ob,.string s,.string t,.int .i64 (c 0),.int .i64 (c 1),.int .i64 (c 2),.int .i64 (c 3)] 36)):=(by rw[hW0];exact IS w _)
 have y1:W0.cell? ⟨w.heap.size,1,none⟩=some (.int .i64 m):=(aj HOp.out).1 1;have b0:=aD c0 HB0.out;have b1:=aD p0 HB0.out;have b2:=aD p1 HB0.out;have hmk:Hid (∀w',Below W0.heap.size W0 w'->w'.cell? ⟨wb,0,none⟩=some (.slice (some ⟨g,0,none⟩) gl cap)/\w'.cell? ⟨g,p*2,none⟩=some (.pointer (some ⟨pb,0,none⟩))/\w'.cell? ⟨g,p*2+1,none⟩=some (.pointer (some ⟨prb,0,none⟩))/\w'.cell? ⟨w.heap.size,1,none⟩=some (.int .i64 m)):=λw' hw=>⟨aD b0 hw,aD b1 hw,aD b2 hw,aD y1 hw⟩
 clear hW0 c0 p0 p1 b0 b1 b2 y1;go_region_held3 (λw'=>w'.cell? ⟨wb,0,none⟩=some (.slice (some ⟨g,0,none⟩) gl cap)/\w'.cell? ⟨g,p*2,none⟩=some (.pointer (some ⟨pb,0,none⟩))/\w'.cell? ⟨g,p*2+1,none⟩=some (.pointer (some ⟨prb,0,none⟩))/\w'.cell? ⟨w.heap.size,1,none⟩=some (.int .i64 m))
  ((refine hmk.out _ ?_;simp (maxDischargeDepth:=12) [AT,Qy,Qz,QE];done))
  (fail)
 all_goals
  clear hpe hpe' hpq w1 w2 w3 n4;try rw[z0]
  obtain⟨W2,hW2⟩: ∃W,W=(W0.alloc (.cells #[.pointer (some ⟨pb,0,none⟩),.pointer (some ⟨prb,0,none⟩)] 47)).drew:=⟨_,rfl⟩
  rw[<-hW2];have HB2:Hid (Below w.heap.size w W2):=(by rw[hW2];exact (HB0.out.alloc (by omega) _).drew)
  have HX2:Hid (dE W2 w.heap.size (w.heap.size+1) ⟨kind,m,a,ob,s,t,c⟩ pb prb):=(by
   rw[hW2];refine⟨(Qx W0 _ _ (by omega)).trans HOp.out,?_⟩;rw[<-z0];exact IS W0 _)
  have z2:W2.heap.size=w.heap.size+2:=by rw[hW2];simp;omega
  obtain⟨x0,x1,x2,x3,x4,x5,x6,x7,x8,x9,y0,y1⟩:=HX2.out.cells;clear hW2 hmk z0 HOp HB0;go_upto_region 13 with (first
   |(go_at_call 12;refine BY (HSeen.out _ HB2.out) ?_;rintro e w3 ⟨cx,rfl,hb3⟩))
  have z3:=hb3.size;obtain⟨W4,hW4⟩: ∃W,W=w3.alloc (.cells #[.int .i64 (cx 0),.int .i64 (cx 1),.int .i64 (cx 2),.int .i64 (cx 3)] 34):=⟨_,rfl⟩
  rw[<-hW4];have HB4:Hid (Below w.heap.size w W4):=(by rw[hW4];exact (HB2.out.trans (hb3.mono (by omega))).alloc (by omega) _)
  have HX4:Hid (dE W4 w.heap.size (w.heap.size+1) ⟨kind,m,a,ob,s,t,c⟩ pb prb):=(by rw[hW4];exact (HX2.out.below hb3).below ((AT _ _).alloc (AI _) _))
  have HC4:Hid (W4.heap[w3.heap.size]?=some (.cells #[.int .i64 (cx 0),.int .i64 (cx 1),.int .i64 (cx 2),.int .i64 (cx 3)] 34)):=(by rw[hW4];exact IS w3 _)
  clear hW4 hb3 x0 x1 x2 x3 x4 x5 x6 x7 x8 x9 y0 y1;obtain⟨x0,x1,x2,x3,x4,x5,x6,x7,x8,x9,y0,y1⟩:=HX4.out.cells;have q0:=(aj HC4.out).1 0;have q1:=(aj HC4.out).1 1;have q2:=(aj HC4.out).1 2;have q3:=(aj HC4.out).1 3;go_upto_region 14 with (first
   |(go_at_call 15;refine BY (HPut.out cx _ HB4.out) ?_;rintro e w5 ⟨rfl,hrep5,hF5⟩))
  have HRep5:Hid _:=hrep5;have HF5:Hid (Fr (eB _) W4 w5):=hF5;have HX5:Hid (dE w5 w.heap.size (w.heap.size+1) ⟨kind,m,a,ob,s,t,c⟩ pb prb):=HX4.out.fr hF5 (HBm.out _ (AI _)) (HBm.out _ (by omega));have HC5:Hid (w5.heap[w3.heap.size]?=some (.cells #[.int .i64 (cx 0),.int .i64 (cx 1),.int .i64 (cx 2),.int .i64 (cx 3)] 34)):=hF5.heap HC4.out (HBm.out _ (by omega));clear hrep5 hF5 x0 x1 x2 x3 x4 x5 x6 x7 x8 x9 y0 y1 q0 q1 q2 q3;obtain⟨x0,x1,x2,x3,x4,x5,x6,x7,x8,x9,y0,y1⟩:=HX5.out.cells;have q0:=(aj HC5.out).1 0;have q1:=(aj HC5.out).1 1;have q2:=(aj HC5.out).1 2;have q3:=(aj HC5.out).1 3;go_wp2_with (first
   |(go_at_call 16;refine BY (HRef.out cx _ W4 HB4.out HF5.out) ?_;rintro e w6 ⟨rfl,⟨sv',l',ht6,hl6⟩,hF6⟩;have HT6:Hid _:=ht6;have HF6:Hid _:=hF6;clear ht6 hF6))
  go_ret;exact⟨by simp,HFin.out cx W4 w5 w6 sv' l' HB4.out HRep5.out HF5.out HT6.out hl6 HF6.out⟩
theorem Ez(wb:Nat)(pv le hv:Value)(gs:List PG)(hs:List Nat)(o:bU)(w:World)(h:bu w wb pv le hv gs hs)(h0:0<gs.length)(hlen:gs.length<=4000000000000)(hm1: -9223372036854775808<=o.m)(hm2:o.m<=9223372036854775807)(hk:o.kind=4)(hhl:hs.length<=7000000000000)(hl:∀g∈gs,g.l.length<=1900000000000)(hos:o.s.size<=maxLen)(hot:o.t.size<=maxLen):
  Calls aa.prog 9 #[.pointer (some ⟨wb,0,none⟩),.agg (bq o)] w λe w'=>e=.returned (.bool true)/\∃(hv':Value) (hs':List Nat),bu w' wb pv le hv' gs hs'/\hs'.length=hs.length+3/\Fr (λk=>k=wb\/hv.ownBlock=some k) w w'/\∀k,hv'.ownBlock=some k->hv.ownBlock=some k\/w.heap.size<=k:=by
 have aF:=h.fJ;obtain⟨ad,cap,rfl,hcap,hlc⟩:=aZ aF;have c0:w.cell? ⟨wb,0,none⟩=some (.slice ad gs.length cap):=(aj h.blk).1 0;obtain⟨q,p,hq,hq1,hq2,hpe,hpe',hpl⟩:=j5 o.m gs.length h0;obtain⟨g,cap',hsv,_,_,hg,hcells⟩:=cU aF h0;cases hsv;obtain⟨f0,f1⟩:=jC gs p hpl;have p0:=hcells _ _ (by omega) f0;have p1:=hcells _ _ (by omega) f1;have hwb:wb<w.heap.size:=(Array.getElem?_eq_some_iff.1 h.blk).1;have HG:Hid (∀W,Below w.heap.size w W->Calls aa.prog 17 #[.pointer (some ⟨wb,0,none⟩),.agg #[.pointer (some ⟨gs[p].b,0,none⟩),.pointer (some ⟨gs[p].rb,0,none⟩)],.agg (bq o)] W λe w'=>e=.returned (.bool true)/\∃(hv':Value) (hs':List Nat),bu w' wb (.slice (some ⟨g,0,none⟩) gs.length cap) le hv' gs hs'/\hs'.length=hs.length+3/\Fr (λk=>k=wb\/hv.ownBlock=some k) w w'/\∀k,hv'.ownBlock=some k->hv.ownBlock=some k\/w.heap.size<=k):=λW hW=>
  (NU wb _ le hv gs hs gs[p] o W (h.below hW) (OF hpl) (by omega) (hl _ (OF hpl)) hos hot).mono λe w' ⟨he,hv',hs',h1,h2,h3,h4⟩=>⟨he,hv',hs',h1,h2,(Fr.bR hW).trans h3,λk hk=>(h4 k hk).imp id λh=>IT hW.size h⟩
 generalize gs[p]=gp at*;generalize gp.b=pb at*;generalize gp.rb=prb at*;have i0:(0:Int)<=(p:Int):=by omega
 have i1:(p:Int)<(gs.length:Int):=by omega
 have n1:(0:Int)<(gs.length:Int):=by omega
 clear h aF hcells f0 f1;generalize gs.length=gl at*;have n2: ¬gl=0:=by omega
 have n3: ¬(gl:Int)=0:=by omega
 have n4:((gl:Int)==0)=false:=by simpa using n2
 have w1:IntKind.i64.wrap (q+(gl:Int))=q+gl:=QI (by omega) (by omega);have w2:IntKind.i64.wrap q=q:=QI (by omega) (by omega);have w3:IntKind.i64.wrap (p:Int)=p:=QI (by omega) (by omega);have hpq:q%(gl:Int)=p:=by rw[<-hpe',RF]
 obtain⟨kind,m,a,ob,s,t,c⟩:=o;have k1:(kind==1)=false:=beq_eq_false_iff_ne.2 (by have:kind=4:=hk;omega);have k2:(kind==2)=false:=beq_eq_false_iff_ne.2 (by have:kind=4:=hk;omega);have k3:(kind==3)=false:=beq_eq_false_iff_ne.2 (by have:kind=4:=hk;omega);have k4:(kind==4)=true:=Rw.2 hk;clear hk;simp only[bq] at*;go_enter aa.func9,aa.ntmps9;go_upto_region 4 with fail;obtain⟨W0,hW0⟩: ∃W,W=w.alloc (.cells #[.int .i64 kind,.int .i64 m,.int .i64 a,.int .i64 ob,.string s,.string t,.int .i64 (c 0),.int .i64 (c 1),.int .i64 (c 2),.int .i64 (c 3)] 36):=⟨_,rfl⟩
 rw[<-hW0];have HB0:Hid (Below w.heap.size w W0):=(by rw[hW0];exact (AT _ _).alloc (AI _) _)
 have z0:W0.heap.size=w.heap.size+1:=by rw[hW0];simp
 have HOp:Hid (W0.heap[w.heap.size]?=some (.cells #[.int .i64 kind,.int .i64 m,.int .i64 a,.int .i64 ob,.string s,.string t,.int .i64 (c 0),.int .i64 (c 1),.int .i64 (c 2),.int .i64 (c 3)] 36)):=(by rw[hW0];exact IS w _)
 have y1:W0.cell? ⟨w.heap.size,1,none⟩=some (.int .i64 m):=(aj HOp.out).1 1;have b0:=aD c0 HB0.out;have b1:=aD p0 HB0.out;have b2:=aD p1 HB0.out;have hmk:Hid (∀w',Below W0.heap.size W0 w'->w'.cell? ⟨wb,0,none⟩=some (.slice (some ⟨g,0,none⟩) gl cap)/\w'.cell? ⟨g,p*2,none⟩=some (.pointer (some ⟨pb,0,none⟩))/\w'.cell? ⟨g,p*2+1,none⟩=some (.pointer (some ⟨prb,0,none⟩))/\w'.cell? ⟨w.heap.size,1,none⟩=some (.int .i64 m)):=λw' hw=>⟨aD b0 hw,aD b1 hw,aD b2 hw,aD y1 hw⟩
 clear hW0 c0 p0 p1 b0 b1 b2 y1;go_region_held3 (λw'=>w'.cell? ⟨wb,0,none⟩=some (.slice (some ⟨g,0,none⟩) gl cap)/\w'.cell? ⟨g,p*2,none⟩=some (.pointer (some ⟨pb,0,none⟩))/\w'.cell? ⟨g,p*2+1,none⟩=some (.pointer (some ⟨prb,0,none⟩))/\w'.cell? ⟨w.heap.size,1,none⟩=some (.int .i64 m))
  ((refine hmk.out _ ?_;simp (maxDischargeDepth:=12) [AT,Qy,Qz,QE];done))
  (fail)
 all_goals
  clear hpe hpe' hpq w1 w2 w3 n4;try rw[z0]
  obtain⟨W2,hW2⟩: ∃W,W=(W0.alloc (.cells #[.pointer (some ⟨pb,0,none⟩),.pointer (some ⟨prb,0,none⟩)] 47)).drew:=⟨_,rfl⟩
  rw[<-hW2];have HB2:Hid (Below w.heap.size w W2):=(by rw[hW2];exact (HB0.out.alloc (by omega) _).drew)
  have HX2:Hid (dE W2 w.heap.size (w.heap.size+1) ⟨kind,m,a,ob,s,t,c⟩ pb prb):=(by
   rw[hW2];refine⟨(Qx W0 _ _ (by omega)).trans HOp.out,?_⟩;rw[<-z0];exact IS W0 _)
  have z2:W2.heap.size=w.heap.size+2:=by rw[hW2];simp;omega
  obtain⟨x0,x1,x2,x3,x4,x5,x6,x7,x8,x9,y0,y1⟩:=HX2.out.cells;clear hW2 hmk z0 HOp HB0;go_wp2_with (first
   |(go_at_call 17;refine BY (HG.out _ HB2.out) ?_;rintro e w3 ⟨rfl,hres⟩;have HRes:Hid _:=hres;clear hres))
  go_ret;exact⟨rfl,HRes.out⟩
theorem Mh(wb:Nat)(pv le hv:Value)(gs:List PG)(hs:List Nat)(o:bU)(w:World)(h:bu w wb pv le hv gs hs)(h0:0<gs.length)(hlen:gs.length<=4000000000000)(hm1: -9223372036854775808<=o.m)(hm2:o.m<=9223372036854775807)(hk:o.kind=5)(hhl:hs.length<=7000000000000)(hl:∀g∈gs,g.l.length<=1900000000000):
  Calls aa.prog 9 #[.pointer (some ⟨wb,0,none⟩),.agg (bq o)] w λe w'=>e=.returned (.bool true)/\∃(hv':Value) (hs':List Nat),bu w' wb pv le hv' gs hs'/\hs'.length=hs.length+2/\Fr (λk=>k=wb\/hv.ownBlock=some k) w w'/\∀k,hv'.ownBlock=some k->hv.ownBlock=some k\/w.heap.size<=k:=by
 have aF:=h.fJ;obtain⟨ad,cap,rfl,hcap,hlc⟩:=aZ aF;have c0:w.cell? ⟨wb,0,none⟩=some (.slice ad gs.length cap):=(aj h.blk).1 0;obtain⟨q,p,hq,hq1,hq2,hpe,hpe',hpl⟩:=j5 o.m gs.length h0;obtain⟨g,cap',hsv,_,_,hg,hcells⟩:=cU aF h0;cases hsv;obtain⟨f0,f1⟩:=jC gs p hpl;have p0:=hcells _ _ (by omega) f0;have p1:=hcells _ _ (by omega) f1;have hwb:wb<w.heap.size:=(Array.getElem?_eq_some_iff.1 h.blk).1;have HG:Hid (∀W,Below w.heap.size w W->Calls aa.prog 18 #[.pointer (some ⟨wb,0,none⟩),.agg #[.pointer (some ⟨gs[p].b,0,none⟩),.pointer (some ⟨gs[p].rb,0,none⟩)]] W λe w'=>e=.returned (.bool true)/\∃(hv':Value) (hs':List Nat),bu w' wb (.slice (some ⟨g,0,none⟩) gs.length cap) le hv' gs hs'/\hs'.length=hs.length+2/\Fr (λk=>k=wb\/hv.ownBlock=some k) w w'/\∀k,hv'.ownBlock=some k->hv.ownBlock=some k\/w.heap.size<=k):=λW hW=>
  (Qe wb _ le hv gs hs gs[p] W (h.below hW) (OF hpl) (by omega) (hl _ (OF hpl))).mono λe w' ⟨he,hv',hs',h1,h2,h3,h4⟩=>⟨he,hv',hs',h1,h2,(Fr.bR hW).trans h3,λk hk=>(h4 k hk).imp id λh=>IT hW.size h⟩
 generalize gs[p]=gp at*;generalize gp.b=pb at*;generalize gp.rb=prb at*;have i0:(0:Int)<=(p:Int):=by omega
 have i1:(p:Int)<(gs.length:Int):=by omega
 have n1:(0:Int)<(gs.length:Int):=by omega
 clear h aF hcells f0 f1;generalize gs.length=gl at*;have n2: ¬gl=0:=by omega
 have n3: ¬(gl:Int)=0:=by omega
 have n4:((gl:Int)==0)=false:=by simpa using n2
 have w1:IntKind.i64.wrap (q+(gl:Int))=q+gl:=QI (by omega) (by omega);have w2:IntKind.i64.wrap q=q:=QI (by omega) (by omega);have w3:IntKind.i64.wrap (p:Int)=p:=QI (by omega) (by omega);have hpq:q%(gl:Int)=p:=by rw[<-hpe',RF]
 obtain⟨kind,m,a,ob,s,t,c⟩:=o;have k1:(kind==1)=false:=beq_eq_false_iff_ne.2 (by have:kind=5:=hk;omega);have k2:(kind==2)=false:=beq_eq_false_iff_ne.2 (by have:kind=5:=hk;omega);have k3:(kind==3)=false:=beq_eq_false_iff_ne.2 (by have:kind=5:=hk;omega);have k4:(kind==4)=false:=beq_eq_false_iff_ne.2 (by have:kind=5:=hk;omega);have k5:(kind==5)=true:=Rw.2 hk;clear hk;simp only[bq] at*;go_enter aa.func9,aa.ntmps9;go_upto_region 4 with fail;obtain⟨W0,hW0⟩: ∃W,W=w.alloc (.cells #[.int .i64 kind,.int .i64 m,.int .i64 a,.int .i64 ob,.string s,.string t,.int .i64 (c 0),.int .i64 (c 1),.int .i64 (c 2),.int .i64 (c 3)] 36):=⟨_,rfl⟩
 rw[<-hW0];have HB0:Hid (Below w.heap.size w W0):=(by rw[hW0];exact (AT _ _).alloc (AI _) _)
 have z0:W0.heap.size=w.heap.size+1:=by rw[hW0];simp
 have HOp:Hid (W0.heap[w.heap.size]?=some (.cells #[.int .i64 kind,.int .i64 m,.int .i64 a,.int .i64 ob,.string s,.string t,.int .i64 (c 0),.int .i64 (c 1),.int .i64 (c 2),.int .i64 (c 3)] 36)):=(by rw[hW0];exact IS w _)
 have y1:W0.cell? ⟨w.heap.size,1,none⟩=some (.int .i64 m):=(aj HOp.out).1 1;have b0:=aD c0 HB0.out;have b1:=aD p0 HB0.out;have b2:=aD p1 HB0.out;have hmk:Hid (∀w',Below W0.heap.size W0 w'->w'.cell? ⟨wb,0,none⟩=some (.slice (some ⟨g,0,none⟩) gl cap)/\w'.cell? ⟨g,p*2,none⟩=some (.pointer (some ⟨pb,0,none⟩))/\w'.cell? ⟨g,p*2+1,none⟩=some (.pointer (some ⟨prb,0,none⟩))/\w'.cell? ⟨w.heap.size,1,none⟩=some (.int .i64 m)):=λw' hw=>⟨aD b0 hw,aD b1 hw,aD b2 hw,aD y1 hw⟩
 clear hW0 c0 p0 p1 b0 b1 b2 y1;go_region_held3 (λw'=>w'.cell? ⟨wb,0,none⟩=some (.slice (some ⟨g,0,none⟩) gl cap)/\w'.cell? ⟨g,p*2,none⟩=some (.pointer (some ⟨pb,0,none⟩))/\w'.cell? ⟨g,p*2+1,none⟩=some (.pointer (some ⟨prb,0,none⟩))/\w'.cell? ⟨w.heap.size,1,none⟩=some (.int .i64 m))
  ((refine hmk.out _ ?_;simp (maxDischargeDepth:=12) [AT,Qy,Qz,QE];done))
  (fail)
 all_goals
  clear hpe hpe' hpq w1 w2 w3 n4;try rw[z0]
  obtain⟨W2,hW2⟩: ∃W,W=(W0.alloc (.cells #[.pointer (some ⟨pb,0,none⟩),.pointer (some ⟨prb,0,none⟩)] 47)).drew:=⟨_,rfl⟩
  rw[<-hW2];have HB2:Hid (Below w.heap.size w W2):=(by rw[hW2];exact (HB0.out.alloc (by omega) _).drew)
  have HX2:Hid (dE W2 w.heap.size (w.heap.size+1) ⟨kind,m,a,ob,s,t,c⟩ pb prb):=(by
   rw[hW2];refine⟨(Qx W0 _ _ (by omega)).trans HOp.out,?_⟩;rw[<-z0];exact IS W0 _)
  have z2:W2.heap.size=w.heap.size+2:=by rw[hW2];simp;omega
  obtain⟨x0,x1,x2,x3,x4,x5,x6,x7,x8,x9,y0,y1⟩:=HX2.out.cells;clear hW2 hmk z0 HOp HB0;go_wp2_with (first
   |(go_at_call 18;refine BY (HG.out _ HB2.out) ?_;rintro e w3 ⟨rfl,hres⟩;have HRes:Hid _:=hres;clear hres))
  go_ret;exact⟨rfl,HRes.out⟩
structure fC(o:bU):Prop where
 m1: -9223372036854775808<=o.m
 m2:o.m<=9223372036854775807
 b1: -9223372036854775808<=o.b
 b2:o.b<=9223372036854775807
 s:o.s.size<=maxLen
 t:o.t.size<=maxLen
theorem yJ(wb:Nat)(o:bU)(w:World)(P:World->Prop)(hk:o.kind=1)(hb:∀W,Below w.heap.size w W->Calls aa.prog 8 #[.pointer (some ⟨wb,0,none⟩),.int .i64 o.a] W λe w'=>e=.returned (.bool true)/\P w'):
  Calls aa.prog 9 #[.pointer (some ⟨wb,0,none⟩),.agg (bq o)] w λe w'=>e=.returned (.bool true)/\P w':=by
 have HB:Hid _:=hb;obtain⟨kind,m,a,ob,s,t,c⟩:=o;have k1:(kind==1)=true:=Rw.2 hk;clear hk hb;simp only[bq] at*;go_enter aa.func9,aa.ntmps9;go_wp2_with (first
  |(go_at_call 8;refine BY (HB.out _ ((AT _ _).alloc (AI _) _)) ?_;rintro e w3 ⟨rfl,hres⟩;have HRes:Hid _:=hres;clear hres))
 go_ret;exact⟨rfl,HRes.out⟩
theorem FE(B N:Nat)(wb:Nat)(pv le hv:Value)(gs:List PG)(hs:List Nat)(o:bU)(w:World)(h:dT B N w wb pv le hv gs hs)(h0:0<gs.length)(hN:N<=1600000000000)(ho:fC o)(hk:o.kind<=5):
  Calls aa.prog 9 #[.pointer (some ⟨wb,0,none⟩),.agg (bq o)] w λe w'=>e=.returned (.bool true)/\∃pv' le hv' gs' hs',dT B (N+1) w' wb pv' le hv' gs' hs'/\0<gs'.length/\Below B w w':=by
 have hgl:=h.gl;have hhl:=h.hl;have hle:∀g∈gs,g.l.length<=1900000000000:=λg hg=>by have:=h.len g hg;omega
 have holdOnly:∀{w':World} {hv':Value} {hs':List Nat} {j:Nat},bu w' wb pv le hv' gs hs'->hs'.length=hs.length+j->j<=3->Fr (λk=>k=wb\/hv.ownBlock=some k) w w'->(∀k,hv'.ownBlock=some k->hv.ownBlock=some k\/w.heap.size<=k)->dT B (N+1) w' wb pv le hv' gs hs'/\Below B w w':=by
  intro w' hv' hs' j h1 h2 h3 h4 h5;refine⟨⟨h1,h.ia,h.iD,λk e=>?_,h.iY,λg hg=>by have:=h.len g hg;omega,by omega,by omega,IT h.base h4.size,h.leB,λad n cap e=>IT (h.ll ad n cap e) (by omega)⟩,h4.toBelow (λk e=>?_) h.base⟩
  ·rcases h5 k e with e|e
   ·exact h.jA k e
   ·exact IT h.base e
  ·rcases e with e|e
   ·rw[e];exact h.ia
   ·exact h.jA k e
 have pairOnly:∀{w':World} {gs':List PG},bu w' wb pv le hv gs' hs->gs'.length=gs.length->(∀g'∈gs',∃g∈gs,g'.bm=g.bm/\g'.rb=g.rb/\g'.l.length<=g.l.length+1)->Fr (λk=>∃g∈gs,eB g.bm k\/k=g.rb) w w'->dT B (N+1) w' wb pv le hv gs' hs/\Below B w w':=by
  intro w' gs' h1 h2 h3 h4;refine⟨⟨h1,h.ia,h.iD,h.jA,λg' hg'=>?_,λg' hg'=>?_,by omega,by omega,IT h.base h4.size,h.leB,λad n cap e=>IT (h.ll ad n cap e) (by omega)⟩,h4.toBelow (λk e=>?_) h.base⟩
  ·obtain⟨g,hg,e1,e2,_⟩:=h3 g' hg';rw[e1,e2];exact h.iY g hg
  ·obtain⟨g,hg,_,_,e3⟩:=h3 g' hg'
   have:=h.len g hg;omega
  ·obtain⟨g,hg,e|e⟩:=e
   ·obtain⟨n,hn,e⟩:=e;rw[e];exact (h.iY g hg).1 n hn
   ·rw[e];exact (h.iY g hg).2
 by_cases k1:o.kind=1
 ·by_cases ha:0<=o.a/\o.a<4
  ·obtain⟨n,hn⟩: ∃n:Nat,o.a=(n:Int):=⟨o.a.toNat,by omega⟩
   refine yJ wb o w (λw'=>∃pv' le hv' gs' hs',dT B (N+1) w' wb pv' le hv' gs' hs'/\0<gs'.length/\Below B w w') k1 λW hW=>?_;rw[hn];have hb:=h.below hW;refine (y8 wb pv le hv gs hs n W hb.law (by omega) (by omega)).mono ?_;rintro e w' ⟨he,g,pv',h1,h2,h3,h4,h5,h6⟩;refine⟨he,pv',le,hv,gs++ [g],hs,⟨h1,h.ia,λk e=>?_,h.jA,λg' hg'=>?_,λg' hg'=>?_,by simp;omega,by omega,IT hb.base h5.size,h.leB,λad n cap e=>IT (h.ll ad n cap e) (by omega)⟩,by simp,(hW.mono h.base).trans (h5.toBelow (λk e=>?_) hb.base)⟩
   ·rcases h6 k e with e|e
    ·exact h.iD k e
    ·exact IT hb.base e
   ·rcases List.mem_append.1 hg' with hg'|hg'
    ·exact h.iY g' hg'
    ·rw[Q5]at hg';rw[hg'];exact⟨λm hm=>IT hb.base (h3 m hm),IT hb.base h4⟩
   ·rcases List.mem_append.1 hg' with hg'|hg'
    ·have:=h.len g' hg';omega
    ·rw[Q5]at hg';rw[hg',h2];simp
   ·rcases e with e|e
    ·rw[e];exact h.ia
    ·exact h.iD k e
  ·refine yJ wb o w (λw'=>∃pv' le hv' gs' hs',dT B (N+1) w' wb pv' le hv' gs' hs'/\0<gs'.length/\Below B w w') k1 λW hW=>?_;refine (wC wb o.a W (by omega)).mono ?_;rintro e w' ⟨he,rfl⟩;exact⟨he,pv,le,hv,gs,hs,(h.below hW).more (by omega),h0,hW.mono h.base⟩
 ·by_cases k2:o.kind=2
  ·refine (ON wb pv le hv gs hs o w h.law h0 (by omega) ho.m1 ho.m2 k2 hle ho.s ho.t ho.b1 ho.b2).mono ?_;rintro e w' ⟨he,gs',h1,h2,h3,h4⟩;obtain⟨a,b⟩:=pairOnly h1 h2 h3 h4;exact⟨he,pv,le,hv,gs',hs,a,by omega,b⟩
  ·by_cases k3:o.kind=3
   ·refine (PT wb pv le hv gs hs o w h.law h0 (by omega) ho.m1 ho.m2 k3 hle ho.s ho.t ho.b1 ho.b2).mono ?_;rintro e w' ⟨he,gs',h1,h2,h3,h4⟩;obtain⟨a,b⟩:=pairOnly h1 h2 h3 h4;exact⟨he,pv,le,hv,gs',hs,a,by omega,b⟩
   ·by_cases k4:o.kind=4
    ·refine (Ez wb pv le hv gs hs o w h.law h0 (by omega) ho.m1 ho.m2 k4 (by omega) hle ho.s ho.t).mono ?_;rintro e w' ⟨he,hv',hs',h1,h2,h3,h4⟩;obtain⟨a,b⟩:=holdOnly h1 h2 (by omega) h3 h4;exact⟨he,pv,le,hv',gs,hs',a,h0,b⟩
    ·by_cases k5:o.kind=5
     ·refine (Mh wb pv le hv gs hs o w h.law h0 (by omega) ho.m1 ho.m2 k5 (by omega) hle).mono ?_;rintro e w' ⟨he,hv',hs',h1,h2,h3,h4⟩;obtain⟨a,b⟩:=holdOnly h1 h2 (by omega) h3 h4;exact⟨he,pv,le,hv',gs,hs',a,h0,b⟩
     ·refine (MY wb pv le hv gs hs o w h.law h0 (by omega) ho.m1 ho.m2 (by omega)).mono ?_;rintro e w' ⟨he,hb⟩;exact⟨he,pv,le,hv,gs,hs,(h.below hb).more (by omega),h0,hb.mono h.base⟩
section
open Go.Lib (strCells strCells_length strCells_oneCell)
structure bt(w w':World)(v v':Value):Prop where
 grown:w.grownBy w' v.ownBlock
 qv:∀g,v'.ownBlock=some g->v.ownBlock=some g\/w.heap.size<=g
theorem bt.refl(w:World)(v:Value):bt w w v v:=⟨⟨rfl,rfl,rfl,AI _,λ_ _ _=>rfl⟩,λ_ h=>Or.inl h⟩
theorem bt.trans{w w2:World}{v2:Value}(h:bt w w1 v v1)(h':bt w1 w2 v1 v2):bt w w2 v v2:=
 ⟨⟨h'.grown.os.trans h.grown.os,h'.grown.tape.trans h.grown.tape,h'.grown.output.trans h.grown.output,IT h.grown.size h'.grown.size,λk hk hn=>(h'.grown.block k (QL hk h.grown.size) λe=>by
   rcases h.qv k e.symm with e1|e1
   ·exact hn e1.symm
   ·omega).trans (h.grown.block k hk hn)⟩,
  λg hg=>by
   rcases h'.qv g hg with e1|e1
   ·exact h.qv g e1
   ·exact Or.inr (IT h.grown.size e1)⟩
theorem bt.alloc{w:World}(h:bt w w1 v v1)(o:Obj):bt w (w1.alloc o) v v1:=
 ⟨⟨h.grown.os,h.grown.tape,h.grown.output,IT h.grown.size (by simp),λk hk hn=>(Qx w1 o k (QL hk h.grown.size)).trans (h.grown.block k hk hn)⟩,h.qv⟩
theorem bt.other{w:World}(h:bt w w1 v v1){size n:Nat}(hr:w.ownsRow B e size v n xs){fr:Nat×Nat}(hb:w.heap[b]?=some (.cells cs t fr))(hne:t≠e):w1.heap[b]?=some (.cells cs t fr):=by
 rw[h.grown.block b (Array.getElem?_eq_some_iff.1 hb).1,hb];intro e1;rcases hr.2 with⟨rfl,_⟩|⟨g,cap,cur,rfl,_,hg,_⟩
 ·cases e1
 ·simp only[Value.ownBlock,QA]at e1;subst e1;rw[hb]at hg;cases hg;exact hne rfl
theorem bt.toBelow{w0 w:World}(h:bt w w1 v v1)(hb:Below B w0 w)(hB:B<=w.heap.size){size n:Nat}(hr:w.ownsRow B e size v n xs):Below B w0 w1:=
 hb.grown h.grown hB λk hk=>by
  rcases hr.2 with⟨rfl,_⟩|⟨g,cap,cur,rfl,hg,_⟩
  ·cases hk
  ·simp only[Value.ownBlock,QA]at hk;omega
section
variable {P:Program} (w:World)
theorem Jl(base:Nat)(t u ty e:TypeId)(i:TypeInfo)(ht:P.underlying t=some (.slice e))(hu:P.underlying u=some .string)(hi:P.info? e=some i)(hz:i.zero=some (.int .u8 0))(hsize:i.size=1)(hby:i.bytes=1)(v:Value)(n:Nat)(xs:List Value)(hown:w.ownsRow base e 1 v n xs)(s:ByteArray)(h63:n+s.size<=maxLen)(hbytes:n+s.size<=140737488355328)(hbase:base<=w.heap.size):
  ∃v' w',(Builtin.append_ #[t,u] ty #[v,.string s]).run P w=.ok v' w'/\w'.ownsRow base e 1 v' (n+s.size) (xs++strCells s)/\bt w w' v v':=by
 obtain⟨v',w',hr,h2,h3,_⟩:=Go.Lib.run_append_own_string (P:=P) w base t u ty e i ht hu hi hz hsize hby v n xs hown s h63 hbytes hbase;refine⟨v',w',hr,h2,h3,λg' hg'=>?_⟩;rcases hown.2 with⟨rfl,rfl⟩|⟨g,cap,cur,rfl,hbg,hg,hnc,hcm,hcs,htake⟩
 ·obtain⟨v2,w2,hr2,h4,_⟩:=Go.Lib.run_append_own_string (P:=P) w w.heap.size t u ty e i ht hu hi hz hsize hby (.slice none 0 0) 0 xs ⟨hown.1,Or.inl ⟨rfl,rfl⟩⟩ s h63 hbytes (AI _);rw[hr]at hr2;cases hr2;right;rcases h4.2 with⟨rfl,_⟩|⟨g,cap,cur,rfl,hbg,_⟩
  ·cases hg'
  ·simp only[Value.ownBlock,QA]at hg';omega
 ·by_cases hroom:n+s.size<=cap
  ·have hcs':cur.size=cap:=by simpa using hcs
   have hr2:=Go.Lib.run_append_room_string (P:=P) w t u ty e i ht hu hi hsize g n cap cur hg s hroom (by omega);rw[hr]at hr2;cases hr2;exact Or.inl hg'
  ·have hxl:xs.length=n:=by simpa using hown.1
   have holds:∀j u,xs[j]?=some u->w.cell? ((⟨g,0,none⟩:Addr).add j)=some u:=hown.cells (g:=g) rfl;have hr2:=Go.Lib.run_append_grow_string (P:=P) w t u ty e i (.int .u8 0) ht hu hi hz ⟨g,0,none⟩ n cap xs (by rw[hsize];simpa using hxl) holds s (by omega) (by simp only[maxLen]at h63;omega) (by rw[hby];exact growslice_fits (by omega) (by omega));rw[hr]at hr2;cases hr2;simp only[Value.ownBlock,QA]at hg';right;omega
theorem Cv{Q:Exit->Act->World->Prop}(hgd:o.guard=none)(sl x:Operand)(t u:TypeId)(ho:o.op=.call {callee:=.builtin .append,args:=#[sl,x],argTypes:=#[t,u]})(base:Nat)(e:TypeId)(i:TypeInfo)(ht:P.underlying t=some (.slice e))(hu:P.underlying u=some .string)(hi:P.info? e=some i)(hz:i.zero=some (.int .u8 0))(hsize:i.size=1)(hby:i.bytes=1)(v:Value)(n:Nat)(xs:List Value)(hs:a.eval sl=v)(hown:w.ownsRow base e 1 v n xs)(s:ByteArray)(hx:a.eval x=.string s)(h63:n+s.size<=maxLen)(hbytes:n+s.size<=140737488355328)(hbase:base<=w.heap.size)(h:∀v' w',w'.ownsRow base e 1 v' (n+s.size) (xs++strCells s)->bt w w' v v'->wpList P ops Q rest (a.put o.dst v') w'):wpList P ops Q (o::rest) a w:=by
 refine wpList_plain hgd λK hK=>?_;obtain⟨v',w',hr,h2,h3⟩:=Jl (P:=P) w base t u o.type e i ht hu hi hz hsize hby v n xs hown s h63 hbytes hbase;unfold Oper.wp execOp;simp only[ho,resolve,invoke,builtin,Q6,Sem.run_pure,Rv,List.map_toArray,QU,List.map_nil,hs,hx,hr];exact hK _ _ (h v' w' h2 h3)
theorem o8{Q:Exit->Act->World->Prop}(hgd:o.guard=none)(s x:Operand)(t:TypeId)(ho:o.op=.call {callee:=.builtin .append,args:=#[s,x],argTypes:=#[t,t]})(base:Nat)(e:TypeId)(i:TypeInfo)(z:Value)(size bytes:Nat)(ht:P.underlying t=some (.slice e))(hi:P.info? e=some i)(hz:i.zero=some z)(hsize:i.size=size)(hby:i.bytes=bytes)(hzs:z.cells.size=size)(hsz:0<size)(v:Value)(n:Nat)(xs:List Value)(hs:a.eval s=v)(hown:w.ownsRow base e size v n xs)(ad:Addr)(m c:Nat)(news:List Value)(hx:a.eval x=.slice (some ad) m c)(hl:news.length=m*size)(hnews:∀j u,news[j]?=some u->w.cell? (ad.add j)=some u)(h1:∀u∈news,u.oneCell'=true)(hm:0<m)(h63:n+m<=maxLen)(hbytes:(n+m)*bytes<=140737488355328)(hbase:base<=w.heap.size)(h:∀g cap w',w'.ownsRow base e size (.slice (some ⟨g,0,none⟩) (n+m) cap) (n+m) (xs++news)->bt w w' v (.slice (some ⟨g,0,none⟩) (n+m) cap)->wpList P ops Q rest (a.put o.dst (.slice (some ⟨g,0,none⟩) (n+m) cap)) w'):wpList P ops Q (o::rest) a w:=
 QZ w hgd s x t ho base e i z size bytes ht hi hz hsize hby hzs hsz v n xs hs hown ad m c news hx hl hnews h1 hm h63 hbytes hbase _ rfl λg cap w' h2 h3 h4 _=>
  h g cap w' h2 ⟨h3,λg' hg'=>by
   simp only[Value.ownBlock,QA]at hg';subst hg';rcases h4 with h4|h4
   ·exact Or.inl h4
   ·exact Or.inr (by omega)⟩
end
end
section
open Go.Lib (strCells strCells_length strCells_oneCell)
theorem aa.qR:(aa.prog.info? 5).map (λi=>(i.zero,i.size,i.bytes))=some (some (.int .u8 0),1,1):=by kernel_rfl
def aR(w:World)(B:Nat)(v:Value)(s:ByteArray):Prop:=w.ownsRow B 5 1 v s.size (strCells s)
def byteOf(z:Int):UInt8:=UInt8.ofNat (z%256).toNat
theorem vS(z:Int):((byteOf z).toNat:Int)=z%256:=by
 have h1:=RV z (show (256:Int)≠0 by decide);have h2:=Int.emod_lt_of_pos z (show (0:Int)<256 by decide);simp only[byteOf,UInt8.toNat_ofNat'];omega
def bY(n:Int):ByteArray:=⟨#[byteOf (n / 16777216),byteOf (n / 65536),byteOf (n / 256),byteOf n]⟩
def dz(n:Int):ByteArray:=⟨#[byteOf n]⟩
theorem nT(n:Int):(bY n).size=4:=rfl
theorem lV(n:Int):(dz n).size=1:=rfl
theorem zq(a b:ByteArray):strCells (a++b)=strCells a++strCells b:=by
 simp[strCells,ByteArray.data_append]
theorem aR.of{w:World}{n:Nat}{t:ByteArray}(h:w.ownsRow B 5 1 v (s.size+n) (strCells s++xs))(hn:n=t.size)(hx:xs=strCells t):aR w B v (s++t):=by
 subst hn hx;unfold aR;rw[zq,QB];exact h
theorem aR.nil(w:World)(B:Nat):aR w B (.slice none 0 0) ByteArray.empty:=QT _ _ _ _
theorem aR.below{w:World}(h:aR w B v s)(hb:Below w.heap.size w w'):aR w' B v s:=cy h hb (AI _)
theorem aR.alloc{w:World}(h:aR w B v s)(o:Obj):aR (w.alloc o) B v s:=QW h o
theorem aR.len{w:World}(h:aR w B v s): ∃ad cap,v=.slice ad s.size cap/\cap<=maxLen/\s.size<=cap:=by
 rcases h.2 with⟨h1,h2⟩|⟨g,cap,cur,hv,_,_,h4,h3,_⟩
 ·exact⟨_,_,by rw[h1,h2],by simp,by omega⟩
 ·exact⟨_,_,hv,h3,h4⟩
theorem Ij(n:Int):strCells (bY n)= [.int .u8 (n / 16777216%256),.int .u8 (n / 65536%256),.int .u8 (n / 256%256),.int .u8 (n%256)]:=by
 simp[strCells,bY,vS]
theorem rT(n:Int):strCells (dz n)= [.int .u8 (n%256)]:=by
 simp[strCells,dz,vS]
theorem rz(B:Nat)(v:Value)(s:ByteArray)(n:Int)(w:World)(h:aR w B v s)(hB:B<=w.heap.size)(hlen:s.size+4<=140737488355328):
  Calls aa.prog 124 #[v,.int .i64 n] w λe w'=>∃v',e=.returned v'/\aR w' B v' (s++bY n)/\bt w w' v v':=by
 obtain⟨i0,hi0,hz0,hz1,hz2⟩:=QN aa.qR;have H:Hid (aR w B v s):=h;clear h;go_enter aa.func124,aa.ntmps124;go_wp2_with (at_builtin;refine o8 _ rfl _ _ _ rfl B 5 i0 _ 1 1 aa.underlying124 hi0 hz0 hz1 hz2 rfl (by omega) v _ _ rfl (QW H.out _) ⟨w.heap.size,0,none⟩ 4 4 _ rfl (by rfl) (QJ (IS w _)) (by simp[Value.oneCell']) (by omega) (by unfold maxLen;omega) (by omega) (by simp;omega) ?_;intro g capn w1 hown hgr)
 go_ret;refine⟨_,rfl,aR.of hown rfl ?_,(((bt.refl w v).alloc _).trans hgr)⟩;rw[Ij]
theorem vj(B:Nat)(v:Value)(s t:ByteArray)(w:World)(h:aR w B v s)(hB:B<=w.heap.size)(hlen:s.size+1+t.size<=140737488355328):
  Calls aa.prog 123 #[v,.string t] w λe w'=>∃v',e=.returned v'/\aR w' B v' (s++(dz t.size++t))/\bt w w' v v':=by
 obtain⟨i0,hi0,hz0,hz1,hz2⟩:=QN aa.qR;have H:Hid (aR w B v s):=h;clear h;go_enter aa.func123,aa.ntmps123;go_wp2_with (first
  |(at_builtin;refine o8 _ rfl _ _ _ rfl B 5 i0 _ 1 1 aa.underlying124 hi0 hz0 hz1 hz2 rfl (by omega) v _ _ rfl (QW H.out _) ⟨w.heap.size,0,none⟩ 1 1 _ rfl (by rfl) (QJ (IS w _)) (by simp[Value.oneCell']) (by omega) (by unfold maxLen;omega) (by omega) (by simp;omega) ?_;intro g capn w1 hown hgr;have HO:Hid _:=hown;have HG:Hid _:=hgr;clear hown hgr)
  |(at_builtin;refine Cv _ rfl _ _ _ _ rfl B 5 i0 aa.underlying124 aa.underlying9 hi0 hz0 hz1 hz2 _ _ _ rfl HO.out t rfl (by unfold maxLen;omega) (by omega) (by have:=HG.out.grown.size;simp at this;omega) ?_;intro v2 w2 hown2 hgr2))
 go_ret;refine⟨_,rfl,?_,(((bt.refl w v).alloc _).trans HG.out).trans hgr2⟩;rw[List.append_assoc,Nat.add_assoc]at hown2;refine aR.of hown2 (by rw[QB,lV]) ?_;rw[zq,rT]
def gy(d:Int):Nat->ByteArray
 |0=>ByteArray.empty
 |k+1=>gy d k++dz (d / 2 ^ (56-8*k))
def gh(d:Int):ByteArray:=gy d 8
theorem uj(d:Int):∀k,(gy d k).size=k
 |0=>rfl
 |k+1=>by rw[gy,QB,uj d k,lV]
theorem nV(s:ByteArray):s++ByteArray.empty=s:=by
 apply RJ;simp
theorem gd(a b c:ByteArray):a++b++c=a++(b++c):=by
 apply RJ;simp[ByteArray.data_append]
theorem BK(B:Nat)(v:Value)(s:ByteArray)(d:Int)(w:World)(h:aR w B v s)(hB:B<=w.heap.size)(hlen:s.size+8<=140737488355328):
  Calls aa.prog 77 #[v,.int .u64 d] w λe w'=>∃v',e=.returned v'/\aR w' B v' (s++gh d)/\bt w w' v v':=by
 obtain⟨i0,hi0,hz0,hz1,hz2⟩:=QN aa.qR;have H:Hid (aR w B v s):=h;clear h;go_enter aa.func77,aa.ntmps77;go_wp2;go_loopw [0,5] (λo i wr=>∃k:Nat,k<=8/\i=.int .i64 (56-8*(k:Int))/\Hid (aR wr B o (s++gy d k))/\Hid (bt w wr v o)) (λ_ i _=>((intOf i)+8).toNat)
 case atStart=>exact⟨0,by omega,rfl,by show aR _ _ _ _;rw[gy,nV];exact H.out,bt.refl w v⟩
 case round=>
  obtain⟨k,hk,rfl,aF,hgr⟩:=hrel;by_cases hlt:k<8
  ·have g1:(0:Int)<=56-8*(k:Int):=by omega
   have g2:56-8*(k:Int)<=64:=by omega
   have hsz:B<=wr.heap.size:=by have:=hgr.out.grown.size;omega
   have hl2:(s++gy d k).size+1<=140737488355328:=by rw[QB,uj];omega
   have HN:Hid ((56-8*(k:Int)).toNat=56-8*k):=(show (56-8*(k:Int)).toNat=56-8*k by omega)
   have HR:Hid (aR wr B u0 (s++gy d k)):=aF.out;have HG:Hid (bt w wr v u0):=hgr.out;clear aF hgr;generalize hst:s++gy d k=st at*;have HST:Hid (st=s++gy d k):=hst.symm;clear hst;go_wp2_with (at_builtin;refine o8 _ rfl _ _ _ rfl B 5 i0 _ 1 1 aa.underlying124 hi0 hz0 hz1 hz2 rfl (by omega) u0 _ _ rfl (QW HR.out _) ⟨wr.heap.size,0,none⟩ 1 1 _ rfl (by rfl) (QJ (IS wr _)) (by simp[Value.oneCell']) (by omega) (by unfold maxLen;omega) (by omega) (by simp;omega) ?_;intro g capn w1 hown hgr1)
   refine⟨⟨k+1,by omega,by go_num,?_,(HG.out.alloc _).trans hgr1⟩,by simp[intOf];omega⟩;show aR _ _ _ _;rw[gy,<-gd,<-HST.out];refine aR.of hown rfl ?_;rw[rT,<-HN.out]
  ·obtain rfl:k=8:=by omega
   have HR:Hid (aR wr B u0 (s++gy d 8)):=aF.out;have HG:Hid (bt w wr v u0):=hgr.out;clear aF hgr;go_wp2;go_ret;exact⟨_,rfl,HR.out,HG.out⟩
end
section
open Go.Lib (strCells strCells_length strCells_oneCell)
def cm(t:ByteArray):ByteArray:=dz t.size++t
def cK(c:Ctx):Nat->ByteArray
 |0=>ByteArray.empty
 |k+1=>cK c k++bY (c k)
def jI(c:Ctx):ByteArray:=cK c 4
def fD(v:ax):ByteArray:=dz v.rep++(bY v.n++cm v.val)
def bI(l:List ax):ByteArray:=l.foldl (λs v=>s++fD v) ByteArray.empty
def cz(key:ByteArray)(c:Ctx)(l:List ax):ByteArray:=cm key++(jI c++(bY l.length++bI l))
theorem nq(t:ByteArray):(cm t).size=1+t.size:=by rw[cm,QB,lV]
theorem mJ(c:Ctx):∀k,(cK c k).size=4*k
 |0=>rfl
 |k+1=>by rw[cK,QB,mJ c k,nT];omega
theorem xh(v:ax):(fD v).size=6+v.val.size:=by
 rw[fD,QB,QB,lV,nT,nq];omega
theorem IH(l:List ax)(v:ax):bI (l++ [v])=bI l++fD v:=by
 simp[bI,List.foldl_append]
theorem ru{k:Nat}(h:k<l.length):bI (l.take (k+1))=bI (l.take k)++fD l[k]:=by
 rw[RO h,IH]
theorem wD(l:List ax):∀k,(bI (l.take k)).size<=(bI l).size:=λk=>by
 have key:∀(m:List ax) (s:ByteArray),s.size<=(m.foldl (λs v=>s++fD v) s).size:=λm=>by
  induction m with
  |nil=>intro s;exact AI _
  |cons v m ih=>intro s;refine IT ?_ (ih (s++fD v));rw[QB];omega
 conv=>rhs;rw[<-R4 k l]
 rw[bI,bI,List.foldl_append];exact key _ _
theorem vW(key:ByteArray)(c:Ctx)(l:List ax):(cz key c l).size=21+key.size+(bI l).size:=by
 simp only[cz,jI,QB,nq,mJ,nT];omega
def jM(key:ByteArray)(c:Ctx)(sv:Value):List Value:=[.string key,.int .i64 (c 0),.int .i64 (c 1),.int .i64 (c 2),.int .i64 (c 3),sv]
theorem aM.tj{w:World}{v':Value}{sv:Value}(h:aM w sv l)(hr:aR w B v s)(hg:bt w w' v v'):aM w' sv l:=by
 refine⟨h.1,?_⟩;rcases h.2 with h2|⟨g,cap,cur,hv,hb,hh,r⟩
 ·exact Or.inl h2
 ·exact Or.inr ⟨g,cap,cur,hv,hb,hg.other hr hh (by decide),r⟩
theorem j4{w:World}{fr:Nat×Nat}(h:w.heap[b]?=some (.cells cs t fr))(o:Nat):w.cell? ⟨b,o,none⟩=cs[o]? :=by
 simp[World.cell?,h]
theorem wX(w:World)(x o:Obj):((w.alloc x).alloc o).heap[w.heap.size+1]?=some o:=by
 have:=IS (w.alloc x) o;simpa using this
theorem M4(B:Nat)(v:Value)(s key:ByteArray)(c:Ctx)(sv:Value)(l:List ax)(w:World)(h:aR w B v s)(hB:B<=w.heap.size)(hv:aM w sv l)(hl:l.length<=100000)(hlen:s.size+(cz key c l).size<=140737488355328):
  Calls aa.prog 92 #[.agg (jM key c sv).toArray,v] w λe w'=>∃v',e=.returned v'/\aR w' B v' (s++cz key c l)/\bt w w' v v':=by
 obtain⟨i0,hi0,hz0,hz1,hz2⟩:=QN aa.qR;rw[vW]at hlen;obtain⟨ad,cap,rfl,hcap⟩: ∃ad cap,sv=.slice ad l.length cap/\(cap:Int)<=9223372036854775807:=by
  rcases hv.2 with⟨h1,h2⟩|⟨g,cap,cur,hv,_,_,_,h3,_⟩
  ·exact⟨_,_,by rw[h1,h2],by simp⟩
  ·exact⟨_,_,hv,by unfold maxLen at h3;omega⟩
 have H:Hid (aR w B v s):=h;have HV:Hid (aM w (.slice ad l.length cap) l):=hv;clear h hv;have hb0:=IS w (.cells #[.string key,.int .i64 (c 0),.int .i64 (c 1),.int .i64 (c 2),.int .i64 (c 3),.slice ad l.length cap] 152);have HBx:Hid ((w.alloc (.cells #[.string key,.int .i64 (c 0),.int .i64 (c 1),.int .i64 (c 2),.int .i64 (c 3),.slice ad l.length cap] 152)).heap[w.heap.size]?=some (.cells #[.string key,.int .i64 (c 0),.int .i64 (c 1),.int .i64 (c 2),.int .i64 (c 3),.slice ad l.length cap] 152)):=hb0;clear hb0;have HA:Hid (aR (w.alloc (.cells #[.string key,.int .i64 (c 0),.int .i64 (c 1),.int .i64 (c 2),.int .i64 (c 3),.slice ad l.length cap] 152)) B v s):=H.out.alloc _;have HGA:Hid (bt w (w.alloc (.cells #[.string key,.int .i64 (c 0),.int .i64 (c 1),.int .i64 (c 2),.int .i64 (c 3),.slice ad l.length cap] 152)) v v):=(bt.refl w v).alloc _;simp only[jM];go_enter aa.func92,aa.ntmps92;go_wp2_with (go_at_call 123;refine (vj B v s key _ HA.out (by simp;omega) (by omega)).mono ?_;rintro e w1 ⟨v1,rfl,hr1,hg1⟩;have hb1:=hg1.other HA.out HBx.out (by decide);have k1:=j4 hb1 1;have k2:=j4 hb1 2;have k3:=j4 hb1 3;have k4:=j4 hb1 4;have HB1:Hid (w1.heap[w.heap.size]?=some (.cells #[.string key,.int .i64 (c 0),.int .i64 (c 1),.int .i64 (c 2),.int .i64 (c 3),.slice ad l.length cap] 152)):=hb1;have HR1:Hid (aR w1 B v1 (s++cm key)):=hr1;have HG1:Hid (bt w w1 v v1):=HGA.out.trans hg1;simp at k1 k2 k3 k4;clear hb1 hr1 hg1)
 have HKs:Hid (w1.cell? ⟨w.heap.size,1,none⟩=some (.int .i64 (c 0))/\w1.cell? ⟨w.heap.size,2,none⟩=some (.int .i64 (c 1))/\w1.cell? ⟨w.heap.size,3,none⟩=some (.int .i64 (c 2))/\w1.cell? ⟨w.heap.size,4,none⟩=some (.int .i64 (c 3))):=⟨k1,k2,k3,k4⟩
 clear k1 k2 k3 k4;go_loopw [1,16] (λo i wr=>∃k:Nat,k<=4/\i=.int .i64 k/\Hid (aR wr B o (s++cm key++cK c k))/\Hid (bt w wr v o)/\Hid (wr.heap[w.heap.size]?=some (.cells #[.string key,.int .i64 (c 0),.int .i64 (c 1),.int .i64 (c 2),.int .i64 (c 3),.slice ad l.length cap] 152))) (λ_ i _=>4-(intOf i).toNat)
 case atStart=>exact⟨0,by omega,rfl,by show aR _ _ _ _;rw[cK,nV];exact HR1.out,HG1.out,HB1.out⟩
 case round=>
  obtain⟨k,hk,rfl,hr,hg,hb⟩:=hrel;have hsz:B<=wr.heap.size:=by have:=hg.out.grown.size;omega
  have HR:Hid (aR wr B u1 (s++cm key++cK c k)):=hr.out;have HG:Hid (bt w wr v u1):=hg.out;have HB:Hid (wr.heap[w.heap.size]?=some (.cells #[.string key,.int .i64 (c 0),.int .i64 (c 1),.int .i64 (c 2),.int .i64 (c 3),.slice ad l.length cap] 152)):=hb.out;clear hr hg hb;have hls:(s++cm key++cK c k).size+4<=140737488355328:=by rw[QB,QB,nq,mJ];omega
  by_cases hlt:k<4
  ·have HS:Hid (∀n:Int,n=c k->s++cm key++cK c k++bY n=s++cm key++cK c (k+1)):=λn hn=>by rw[hn,cK,gd]
   generalize hst:s++cm key++cK c k=st at*;clear hst;rcases cE hlt with rfl|rfl|rfl|rfl
   all_goals
    have hix:=qe;go_wp2_with (go_at_call 124;refine (rz B u1 st _ wr HR.out hsz hls).mono ?_;rintro e w2 ⟨v2,rfl,hr2,hg2⟩;have hb2:=hg2.other HR.out HB.out (by decide);have HB2:Hid (w2.heap[w.heap.size]?=some (.cells #[.string key,.int .i64 (c 0),.int .i64 (c 1),.int .i64 (c 2),.int .i64 (c 3),.slice ad l.length cap] 152)):=hb2;have HR2:Hid _:=hr2;have HG2:Hid (bt w w2 v v2):=HG.out.trans hg2;clear hb2 hr2 hg2)
    have hr3:=HR2.out;rw[HS.out _ rfl]at hr3;exact⟨⟨_,by omega,by go_num,hr3,HG2.out,HB2.out⟩,by simp[intOf]⟩
  ·obtain rfl:k=4:=by omega
   have HRc:Hid (aR wr B u1 (s++cm key++jI c)):=HR.out;clear HR;have hls':(s++cm key++jI c).size+4+(bI l).size<=140737488355328:=by rw[QB,QB,nq,jI,mJ];omega
   clear hls;have k5:=j4 HB.out 5;simp at k5;have HVr:Hid (aM wr (.slice ad l.length cap) l):=HV.out.tj H.out HG.out;have HE:Hid (s++cm key++jI c++(bY l.length++bI l)=s++cz key c l):=(show s++cm key++jI c++(bY l.length++bI l)=s++cz key c l by simp only[cz,gd])
   generalize hst:s++cm key++jI c=st at*;clear hst;go_wp2_with (go_at_call 124;refine (rz B u1 st _ wr HRc.out hsz (by omega)).mono ?_;rintro e w2 ⟨v2,rfl,hr2,hg2⟩;have hb2:=hg2.other HRc.out HB.out (by decide);have k6:=j4 hb2 5;simp at k6;have HR2:Hid (aR w2 B v2 (st++bY l.length)):=hr2;have HV2:Hid (aM w2 (.slice ad l.length cap) l):=HVr.out.tj HRc.out hg2;have HG2:Hid (bt w w2 v v2):=HG.out.trans hg2;clear hb2 hr2 hg2)
   have HS2:Hid (s++cz key c l=st++bY l.length++bI l):=(show s++cz key c l=st++bY l.length++bI l by rw[<-HE.out,gd])
   clear HE HV HVr HRc HB k5 k6 HG;have hsz2:B<=w2.heap.size:=by have:=HG2.out.grown.size;omega
   have hl2:(st++bY l.length).size+(bI l).size<=140737488355328:=by rw[QB,nT];omega
   generalize hsu:st++bY l.length=su at*;clear hsu;go_loopw [1,33] (λo i wz=>∃k:Nat,k<=l.length/\i=.int .i64 k/\Hid (aR wz B o (su++bI (l.take k)))/\Hid (bt w2 wz v2 o)) (λ_ i _=>l.length-(intOf i).toNat)
   case atStart=>exact⟨0,by omega,rfl,by show aR _ _ _ _;rw[List.take_zero,show bI []=ByteArray.empty from rfl,nV];exact HR2.out,bt.refl _ _⟩
   case round=>
    obtain⟨k,hk,rfl,hr,hg⟩:=hrel;have hsz:B<=wr.heap.size:=by have:=hg.out.grown.size;omega
    have HR:Hid (aR wr B u1 (su++bI (l.take k))):=hr.out;have HG:Hid (bt w2 wr v2 u1):=hg.out;clear hr hg;by_cases hlt:k<l.length
    ·have HVz:aM wr (.slice ad l.length cap) l:=HV2.out.tj HR2.out HG.out;obtain⟨g,cap',hsv',hgl,_,_,c0,c1,c2⟩:=aM.cells HVz hlt;cases hsv';have htk:=wD l (k+1);rw[ru hlt,QB,xh]at htk;have HT:Hid (su++bI (l.take k)++fD l[k]=su++bI (l.take (k+1))):=(show su++bI (l.take k)++fD l[k]=su++bI (l.take (k+1)) by rw[ru hlt,gd])
     have hls:(su++bI (l.take k)).size+6+l[k].val.size<=140737488355328:=by rw[QB];omega
     clear htk HVz;have HVe:Hid (fD l[k]=dz l[k].rep++(bY l[k].n++cm l[k].val)):=rfl;generalize su++bI (l.take k)=sk at*;generalize fD l[k]=vb at*;generalize l[k].rep=r at*;generalize l[k].n=n at*;generalize l[k].val=val at*;have g63:(k:Int)<(l.length:Int):=by omega
     have k0:(0:Int)<=(k:Int):=by omega
     have HRa:Hid (aR (wr.alloc (.cells #[.int .i64 r,.int .i64 n,.string val] 117)) B u1 sk):=HR.out.alloc _;have HBa:Hid ((wr.alloc (.cells #[.int .i64 r,.int .i64 n,.string val] 117)).heap[wr.heap.size]?=some (.cells #[.int .i64 r,.int .i64 n,.string val] 117)):=IS wr _;go_wp2_with (first
      |(at_builtin;refine o8 _ rfl _ _ _ rfl B 5 i0 _ 1 1 aa.underlying124 hi0 hz0 hz1 hz2 rfl (by omega) u1 _ _ rfl (QW HRa.out _) ⟨wr.heap.size+1,0,none⟩ 1 1 _ rfl (by rfl) (QJ (wX wr _ _)) (by simp[Value.oneCell']) (by omega) (by unfold maxLen;omega) (by omega) (by simp;omega) ?_;intro g3 cap3 w3 hown3 hgr3;have HR3:Hid (aR w3 B _ (sk++dz r)):=aR.of hown3 rfl (rT r).symm;have HG3:Hid (bt wr w3 u1 _):=(((bt.refl wr u1).alloc _).alloc _).trans hgr3;have hb3:=hgr3.other (QW HRa.out _) ((Qx _ _ _ (by simp)).trans HBa.out) (by decide);have k7:=j4 hb3 1;simp at k7;have hsz3:B<=w3.heap.size:=IT hsz HG3.out.grown.size;have HB3:Hid (w3.heap[wr.heap.size]?=some (.cells #[.int .i64 r,.int .i64 n,.string val] 117)):=hb3;clear hown3 hgr3 hb3)
      |(go_at_call 124;refine (rz B _ _ _ w3 HR3.out hsz3 (by rw[QB,lV];omega)).mono ?_;rintro e w4 ⟨v4,rfl,hr4,hg4⟩;have hb4:=hg4.other HR3.out HB3.out (by decide);have k8:=j4 hb4 2;simp at k8;have HR4:Hid (aR w4 B v4 (sk++dz r++bY n)):=hr4;have HG4:Hid (bt wr w4 u1 v4):=HG3.out.trans hg4;have hsz4:B<=w4.heap.size:=IT hsz HG4.out.grown.size;clear hr4 hg4 hb4)
      |(go_at_call 123;refine (vj B _ _ _ w4 HR4.out hsz4 (by rw[QB,QB,lV,nT];omega)).mono ?_;rintro e w5 ⟨v5,rfl,hr5,hg5⟩;have HR5:Hid (aR w5 B v5 (sk++dz r++bY n++cm val)):=hr5;have HG5:Hid (bt wr w5 u1 v5):=HG4.out.trans hg5;clear hr5 hg5))
     refine⟨⟨k+1,by omega,by go_num,?_,HG.out.trans HG5.out⟩,by simp[intOf];omega⟩;show aR _ _ _ _;rw[<-HT.out,HVe.out,<-gd,<-gd];exact HR5.out
    ·obtain rfl:k=l.length:=by omega
     have HRe:Hid (aR wr B u1 (s++cz key c l)):=(by have:=HR.out;rw[List.take_length,<-HS2.out]at this;exact this)
     go_wp2;go_ret;exact⟨_,rfl,HRe.out,HG2.out.trans HG.out⟩
end
end Go.Proofs.YtldmcdeibiclkaaGreatQ
