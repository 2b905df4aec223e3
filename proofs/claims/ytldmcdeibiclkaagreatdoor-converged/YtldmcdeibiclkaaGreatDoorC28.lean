/-
  Toward converged_holds: Contract: puts.
-/
import Derived.Test.YtldmcdeibiclkaaGreatDoorC27
import Derived.Test.YtldmcdeibiclkaaGreatDoorC25
import Derived.Deep.RegionLaw
import Derived.Laws.BytesArg
import Derived.Laws.Tables
set_option linter.unusedVariables false
set_option linter.unusedSimpArgs false
set_option maxRecDepth 100000
set_option maxHeartbeats 20000000
namespace Go.Proofs.YtldmcdeibiclkaaGreatDoorQ
variable {B bt i k ca bx cap at' gg:Nat}{w w1 w2:World}{g:ay}{ks:Nat->ByteArray}{m:Mem}{A C A1:Array Value}{t:TypeId}{v:Value}{xs:List Value}{ad:Option Addr}{l':List aj}
open Go.RowKit
section
attribute [local go_sem ↓] vB wZ xd
attribute [local go_sem] xT qE wI uN
attribute [local go_sem ↓] um yf Xa Xb
attribute [local go_sem] tM qo ym sj sA uI vp
theorem QJ(W:World)(x y:Int):(convert 48 9 (.slice (some ⟨W.heap.size,0,none⟩) 2 2)).run aa.prog (W.alloc (.cells #[.int .u8 x,.int .u8 y] 5))=.ok (.string (strOfNums [x,y])) (W.alloc (.cells #[.int .u8 x,.int .u8 y] 5)):=
 run_convert_bytes_arg (P:=aa.prog) _ 48 5 aa.underlying48 aa.underlying5 W.heap.size 0 2 2 [x,y] rfl (λj hj=>by
  have e:=(au (BY W (.cells #[.int .u8 x,.int .u8 y] 5))).1;rw[e];rcases (show j=0\/j=1 by omega) with rfl|rfl<;>rfl) 9 aa.underlying9
theorem NI(x y:Int):(strOfNums [x,y]).size=2:=rfl
def ql(g:ay)(i k:Nat)(m:Mem):Nat:=cg (λj=>(g.kn i k j&&!g.go i k j)&&!m.2 j) g.ws.length
theorem Su{val:ByteArray}(hN:bk B w bt g)(hI:bS ks g)(hK:eY w ks)(hi:i<g.nr)(hk:k<3)(hm:Good g.ws k m.1 m.2)(hv:val.size<=12)(hs:20<=ql g i k m)(W:World)(hW:Below w.heap.size w W):
  Calls aa.prog 21 #[.pointer (some ⟨g.b i,0,none⟩),.string (ks k),.string val,cU m.1] W λe w'=>e=.returned (.int .i64 6)/\Below W.heap.size W w':=by
 have hR:=(hN.ct i hi).below hW;have hc:=tH (go:=g.go i k) (λj x hx h=>hI.known hi hk j x hx h) hm;rw[<-hI.hex i k hi hk]at hc;refine R4 (g.b i) i (g.bm i) (g.K i) (ks k) val m.1 W hR (hI.eM i hi) (hK.key k hk).1 (hK.key k hk).2 hv (hm.sound hI.hlen) (VA hi hI.cC.2) (Or.inl ?_);rw[hc];exact hs
theorem Ks{val:ByteArray}(hN:bk B w bt g)(hI:bS ks g)(hK:eY w ks)(hi:i<g.nr)(hk:k<3)(hm:Good g.ws k m.1 m.2)(hv:val.size<=12)(hs:ql g i k m<20)(W:World)(hW:Below w.heap.size w W):
  Calls aa.prog 21 #[.pointer (some ⟨g.b i,0,none⟩),.string (ks k),.string val,cU m.1] W λe w'=>e=.returned (.int .i64 0)/\W.grownBy w' (some (g.bm i (aC (ks k))))/\∃l',l'.Perm (aT (g.K i (ks k)).2 m.1++ [(i,aU (g.K i (ks k)).1 m.1 i+1,val)])/\(l'.Pairwise (λa b=>aP b a=false)/\l'.length<=20)/\aA w' (g.b i) (g.bm i) i (bl (g.K i) (ks k) (bump (aU (g.K i (ks k)).1 m.1) i,l')):=by
 have hR:=(hN.ct i hi).below hW;have hc:=tH (go:=g.go i k) (λj x hx h=>hI.known hi hk j x hx h) hm;rw[<-hI.hex i k hi hk]at hc;have hb:=((hI.dc i k hi hk).join hm).bounds hI.hlen i;refine (Bw (g.b i) i (g.bm i) (g.K i) (ks k) val m.1 W hR (hI.eM i hi) (hK.key k hk).1 (hK.key k hk).2 hv (hm.sound hI.hlen) (VA hi hI.cC.2) (by rw[hc];exact hs) hb.1 (by omega)).mono ?_;rintro e w' ⟨rfl,l',h1,h2,h3,h4⟩;exact⟨rfl,h4,l',h1,⟨h2,by have h5:(aT (g.K i (ks k)).2 m.1).length<20:=(by rw[hc];exact hs);rw[h1.length_eq,VF,WA];omega⟩,h3⟩
def PX(w1:World)(bt:Nat)(b:Nat):Prop:=b=bt\/∃cur,w1.heap[b]?=some (.cells cur 115 (0,0))
theorem PX.tag{b:Nat}{fr:Nat×Nat}(hT:w1.heap[bt]?=some (.cells A 42))(hb:w1.heap[b]?=some (.cells C t fr))(h1:t≠42)(h2:t≠115): ¬PX w1 bt b:=λh=>by
 rcases h with e|⟨cur,e⟩
 ·rw[e,hT]at hb;exact h1 (eB hb).symm
 ·rw[e]at hb;exact h2 (eB hb).symm
theorem PX.map{w1:World}{bt b:Nat}{A:Array Value}{es:Array MapEntry}{clock:Nat}(hT:w1.heap[bt]?=some (.cells A 42))(hb:w1.heap[b]?=some (.map es clock)): ¬PX w1 bt b:=λh=>by
 rcases h with e|⟨cur,e⟩
 ·rw[e,hT]at hb;cases hb
 ·rw[e]at hb;cases hb
theorem rK{n size:Nat}(h:w.ownsRow B t size v n xs)(k:Nat)(hk:v.ownBlock=some k):B<=k/\∃cur,w.heap[k]?=some (.cells cur t (0,0)):=by
 rcases h.2 with⟨h1,_⟩|⟨g,cap,cur,hv,hg,hh,_⟩
 ·rw[h1]at hk;cases hk
 ·rw[hv]at hk;simp[Value.ownBlock]at hk;subst hk;exact⟨hg,cur,hh⟩
theorem IU{wc:World}{n:Nat}{val:ByteArray}{wv:Value}(hJ:Jx w bx ad n cap wc)(hN:bk B wc bt g)(hD:bY w bx ad n cap at')(hB:B<=bx)(hnb:0<n->∀b off,ad=some ⟨b,off,none⟩->b<B)(hi:i<g.nr)(hi4:i<4)(hk:k<3)(hlen:g.ws.length<80)(h1:Fr (λb=>b=g.bm i (aC (ks k))) wc w1)(h2:Fr (PX w1 bt) w1 w2)(hT1:w1.heap[bt]?=some (.cells g.A 42))(hW1:w1.ownsRow B 115 4 g.wv g.ws.length (ja g.ws))(hT:w2.heap[bt]?=some (.cells A 42))(hA:A.size=1939)(hX1:∀b cur,w1.heap[b]?=some (.cells cur 115 (0,0))->w2.heap[b]? ≠w1.heap[b]? ->B<=b)(hR:aA w1 (g.b i) (g.bm i) i (bl (g.K i) (ks k) (bump (aU (g.K i (ks k)).1 m.1) i,l')))(ha1:A[1]?=some wv)(hw:w2.ownsRow B 115 4 wv (g.ws.length+1) (ja (g.ws++ [g.iD i k val])))(hc:A[1927+i*3+k]?=some (.int .i64 (bu g.ws i k+1)))(hg:∀j,j<80->A[962+i*240+k*80+j]?=some (.bool (g.go i k j||m.2 j)))(bz:∀j,j<80->A[2+i*240+k*80+j]?=some (.bool (if j=g.ws.length then true else g.kn i k j||m.2 j)))(ho:∀q,(q<2+i*240+k*80\/2+i*240+k*80+80<=q)->(q<962+i*240+k*80\/962+i*240+k*80+80<=q)->q≠1->q≠1927+i*3+k->A[q]?=g.A[q]?):
  Below B w w2/\bk B w2 bt (g.put ks i k m val l' wv A)/\∃at2,bY w2 bx ad n cap at2:=by
 obtain⟨es,clock,hmap⟩:=hN.map hi (eX (ks k));have hF:Fr (λb=>b=g.bm i (aC (ks k))\/b=bt\/∃cur,wc.heap[b]?=some (.cells cur 115 (0,0))) wc w2:=
  ⟨h2.os.trans h1.os,h2.tape.trans h1.tape,h2.output.trans h1.output,OF h1.size h2.size,λq hq hn=>by
   have e1:=h1.block q hq (λe=>hn (Or.inl e));rw[h2.block q (VA hq h1.size) (λe=>?_),e1];rcases e with e|⟨cur,e⟩
   ·exact hn (Or.inr (Or.inl e))
   ·rw[e1]at e;exact hn (Or.inr (Or.inr ⟨cur,e⟩))⟩
 have ht:lN (λb=>b=g.bm i (aC (ks k))\/b=bt\/∃cur,wc.heap[b]?=some (.cells cur 115 (0,0))) wc bt i (aC (ks k)) g:=⟨λb e=>by
  rcases e with e|e|e
  ·exact Or.inr (Or.inl e)
  ·exact Or.inl e
  ·exact Or.inr (Or.inr e),hi,eX _⟩
 have hbw:B<=wc.heap.size:=by
  have:=hN.hB.1
  have:=(Array.getElem?_eq_some_iff.1 hN.hT).1;omega
 have hb:Below B w w2:=by
  refine (hJ.toBelow hB).trans ⟨hF.os,hF.tape,hF.output,hF.size,λq hq=>?_⟩;have e1:=h1.block q (by omega) (λe=>by have:=hN.hB.2 i _ hi (eX (ks k));omega);rw[<-e1];by_cases hx:PX w1 bt q
  ·rcases hx with e|⟨cur,e⟩
   ·have:=hN.hB.1;omega
   ·by_cases hne:w2.heap[q]?=w1.heap[q]?
    ·exact hne
    ·have:=hX1 q cur e hne;omega
  ·exact h2.block q (VA (by omega) h1.size) hx
 have ct:aA w2 (g.b i) (g.bm i) i (bl (g.K i) (ks k) (bump (aU (g.K i (ks k)).1 m.1) i,l')):=by
  refine h2.rep hR ?_ (λq hq=>?_) (λq cur hc=>PX.tag hT1 hc (by decide) (by decide))
  ·obtain⟨⟨C,hC,_⟩,_⟩:=hR;exact PX.tag hT1 hC (by decide) (by decide)
  ·obtain⟨es',clock',hm',_⟩:=hR.2.1 q hq;exact PX.map hT1 hm'
 refine⟨hb,hN.put hF ht hi4 hk hlen hT hA ct ha1 hw hc hg bz ho,yT hD hJ hF (λe=>?_) hnb hb⟩;obtain⟨_,⟨a,_,h3⟩,_⟩:=hJ;rcases e with e|e|⟨cur,e⟩
 ·rw[e,hmap]at h3;cases h3
 ·rw[e,hN.hT]at h3;exact absurd (eB h3) (by decide)
 ·rw[h3]at e;exact absurd (eB e) (by decide)
theorem LV{wc:World}{n size o:Nat}{u v':Value}{gA:Array Value}{t0:TypeId}(h5:Fr (λb=>b=bt) w1 wc)(hT1:w1.heap[bt]?=some (.cells gA 42))(hrow:∀q,v.ownBlock=some q->B<=q/\∃cur,w1.heap[q]?=some (.cells cur 115 (0,0)))(hgrow:((wc.alloc (.cells C t0)).drew).grownBy w2 v.ownBlock)(hT2:w2.heap[bt]?=some (.cells A1 42))(aD:w2.ownsRow B 115 size v' n xs):
  (w2.setCell ⟨bt,o,none⟩ u).ownsRow B 115 size v' n xs/\Fr (PX w1 bt) w1 (w2.setCell ⟨bt,o,none⟩ u)/\∀b cur,w1.heap[b]?=some (.cells cur 115 (0,0))->(w2.setCell ⟨bt,o,none⟩ u).heap[b]? ≠w1.heap[b]? ->B<=b:=by
 refine⟨?_,?_,λb cur hb hne=>?_⟩
 ·exact (Fr.setCell (X:=λb=>b=bt) (Fr.refl _ w2) (Or.inr rfl) u).ji aD (λb cur hb e=>by rw[e,hT2]at hb;exact absurd (eB hb) (by decide))
 ·exact Fr.setCell (((h5.weaken (λb e=>Or.inl e)).alloc _).drew.grown hgrow (λq hq _=>Or.inr (hrow q hq).2)) (Or.inr (Or.inl rfl)) u
 ·by_cases hv:v.ownBlock=some b
  ·exact (hrow b hv).1
  ·exfalso;have hbt:b≠bt:=λe=>by rw[e,hT1]at hb;exact absurd (eB hb) (by decide)
   have hlt:=(Array.getElem?_eq_some_iff.1 hb).1;have hlt':b<wc.heap.size:=VA hlt h5.size;apply hne;rw[VC _ _ _ _ hbt,hgrow.block b (by simp;omega) (λe=>hv e.symm)];show (wc.alloc _).heap[b]?=_;rw[Vx _ _ _ hlt',h5.block b hlt hbt]
theorem JI(ws:List Wr)(i k:Nat)(n:Int)(val:ByteArray):ja (ws++ [(i,k,n,val)])=ja ws++ [.int .i64 i,.int .i64 k,.int .i64 n,.string val]:=by
 simp[ja,Bt]
theorem OC{wc wa wb wd:World}{n ga:Nat}{val:ByteArray}{A2 A3 A4:Array Value}{cn:Int}(hJ:Jx w bx ad n cap wc)(hN:bk B wc bt g)(hD:bY w bx ad n cap at')(hB:B<=bx)(hnb:0<n->∀b off,ad=some ⟨b,off,none⟩->b<B)(hi:i<g.nr)(hi4:i<4)(hk:k<3)(hlen:g.ws.length<80)(hcn:bu g.ws i k=cn)(h1:Fr (λb=>b=g.bm i (aC (ks k))) wc w1)(hT1:w1.heap[bt]?=some (.cells g.A 42))(hW1:w1.ownsRow B 115 4 g.wv g.ws.length (ja g.ws))(hR:aA w1 (g.b i) (g.bm i) i (bl (g.K i) (ks k) (bump (aU (g.K i (ks k)).1 m.1) i,l')))(H34:A1[1927+i*3+k]?=some (.int .i64 (cn+1))/\∀q,q≠1927+i*3+k->A1[q]?=g.A[q]?)(HB7:A2[1]?=some (.slice (some ⟨ga,0,none⟩) (g.ws.length+1) ca)/\(∀q,q≠1->A2[q]?=A1[q]?)/\(∀b cur,w1.heap[b]?=some (.cells cur 115 (0,0))->wa.heap[b]? ≠w1.heap[b]? ->B<=b))(hTa:wa.heap[bt]?=some (.cells A2 42))(W2:wa.ownsRow B 115 4 (.slice (some ⟨ga,0,none⟩) (g.ws.length+1) ca) (g.ws.length+1) (ja (g.ws++ [(i,k,cn+1,val)])))(F2:Fr (PX w1 bt) w1 wa)(HC3:(∀j,j<80->A3[962+i*240+k*80+j]?=some (.bool (g.go i k j||m.2 j)))/\(∀j,(j<962+i*240+k*80\/962+i*240+k*80+80<=j)->A3[j]?=A2[j]?)/\Fr (λb=>b=bt) wa wb)(HD4:(∀j,j<80->A4[2+i*240+k*80+j]?=some (.bool (g.kn i k j||m.2 j)))/\(∀j,(j<2+i*240+k*80\/2+i*240+k*80+80<=j)->A4[j]?=A3[j]?)/\Fr (λb=>b=bt) wb wd)(hTd:wd.heap[bt]?=some (.cells A4 42))(hA4:A4.size=1939):
  Below B w (wd.setCell ⟨bt,2+i*240+k*80+g.ws.length,none⟩ (.bool true)).drew/\bk B (wd.setCell ⟨bt,2+i*240+k*80+g.ws.length,none⟩ (.bool true)).drew bt (g.put ks i k m val l' (.slice (some ⟨ga,0,none⟩) (g.ws.length+1) ca) (A4.setIfInBounds (2+i*240+k*80+g.ws.length) (.bool true)))/\∃at2,bY (wd.setCell ⟨bt,2+i*240+k*80+g.ws.length,none⟩ (.bool true)).drew bx ad n cap at2:=by
 have F35:Fr (λb=>b=bt) wa (wd.setCell ⟨bt,2+i*240+k*80+g.ws.length,none⟩ (.bool true)).drew:=((HC3.2.2.trans HD4.2.2).setCell (Or.inr rfl) _).drew;have hT5:(wd.setCell ⟨bt,2+i*240+k*80+g.ws.length,none⟩ (.bool true)).drew.heap[bt]?=some (.cells (A4.setIfInBounds (2+i*240+k*80+g.ws.length) (.bool true)) 42):=heap_set (w:=wd) hTd;have hget:∀q,q≠2+i*240+k*80+g.ws.length->(A4.setIfInBounds (2+i*240+k*80+g.ws.length) (.bool true))[q]?=A4[q]? :=λq hq=>by
  rw[Array.getElem?_setIfInBounds,AI (λe=>hq e.symm)]
 have hnewW:g.iD i k val=(i,k,cn+1,val):=by unfold ay.iD;rw[hcn]
 refine IU hJ hN hD hB hnb hi hi4 hk hlen h1 (F2.trans (F35.weaken λb e=>Or.inl e)) hT1 hW1 hT5 (by rw[VX];exact hA4) (λb cur hb hne=>?_) hR ?_ ?_ ?_ (λj hj=>?_) (λj hj=>?_) (λq h1 h2 h3 h4=>?_)
 ·refine HB7.2.2 b cur hb (λe=>hne ?_);have hbt:b≠bt:=λe=>by rw[e,hT1]at hb;exact absurd (eB hb) (by decide)
  have hlt:=(Array.getElem?_eq_some_iff.1 hb).1;rw[F35.block b (VA hlt F2.size) hbt,e]
 ·rw[hget 1 (by omega),HD4.2.1 1 (by omega),HC3.2.1 1 (by omega)];exact HB7.1
 ·rw[hnewW];exact F35.ji W2 (λb cur hb e=>by rw[e,hTa]at hb;exact absurd (eB hb) (by decide))
 ·rw[hget _ (by omega),HD4.2.1 _ (by omega),HC3.2.1 _ (by omega),HB7.2.1 _ (by omega),H34.1,hcn]
 ·rw[hget _ (by omega),HD4.2.1 _ (by omega)];exact HC3.1 j hj
 ·by_cases e:j=g.ws.length
  ·subst e;rw[Array.getElem?_setIfInBounds,AS rfl,AS (by omega),AS rfl]
  ·rw[hget _ (by omega),HD4.1 j hj,AI e]
 ·rw[hget _ (by omega),HD4.2.1 _ h1,HC3.2.1 _ h2,HB7.2.1 _ h3,H34.2 _ h4]
theorem aa.Mv:(aa.prog.info? 115).map (λi=>(i.zero,i.size,i.bytes))=some (some (.agg #[.int .i64 0,.int .i64 0,.int .i64 0,.string ⟨#[]⟩]),4,40):=by kernel_rfl
theorem Sy(B bt bx n cap at' i k:Nat)(ad:Option Addr)(g:ay)(ks:Nat->ByteArray)(w:World)(hN:bk B w bt g)(hI:bS ks g)(hK:eY w ks)(hD:bY w bx ad n cap at')(hnb:0<n->∀b off,ad=some ⟨b,off,none⟩->b<B)(hB:B<=bx)(hB0:0<B)(hi:i<g.nr)(hk:k<3)(hws:g.ws.length<80):
  Calls aa.prog 24 #[.pointer (some ⟨bt,0,none⟩),.pointer (some ⟨bx,0,none⟩),.int .i64 i,.int .i64 k] w λe w'=>e=.returned (.bool true)/\Below B w w'/\∃g',g'.nr=g.nr/\bk B w' bt g'/\bS ks g'/\∃at2,bY w' bx ad n cap at2:=by
 have hL:=hI.jb k hk;have hnb':0<n->∀b off,ad=some ⟨b,off,none⟩->b≠bx:=λh0 b off h=>by have:=hnb h0 b off h;omega
 have HJ:Hid (∀w',Jx w bx ad n cap w'->bk B w' bt g):=λw' h=>hN.fr h.1 (hN.yI hD.1 (by decide) (by decide) (by decide) (by decide) (by decide) (by decide));have HDice:Hid (∀w',Jx w bx ad n cap w'->∃at2,bY w' bx ad n cap at2):=λw' h=>h.yC hD.2.2.1 hD.2.2.2 hnb';have Hmk:Hid (∀w',Jx w bx ad n cap w'->w'.cell? ⟨bt,1922+k,none⟩=some (.slice (some ⟨g.gm k,0,none⟩) (g.mem k).length (g.j9 k))/\(∀r,r<(g.mem k).length->lW w' (g.gm k) (r*84))/\(∀r,r<(g.mem k).length->iC w' (g.gm k) (r*84)=b9 (gU (g.mem k) r))/\∃at2,bY w' bx ad n cap at2):=λw' h=>
  ⟨((HJ.out w' h).px hk).1,((HJ.out w' h).px hk).2.1,((HJ.out w' h).px hk).2.2,HDice.out w' h⟩
 have HNext:Hid (∀W,(∃at2,bY W bx ad n cap at2)->Calls aa.prog 14 #[.pointer (some ⟨bx,0,none⟩),.int .i64 (g.mem k).length] W λe w'=>∃(r at2:Nat),e=.returned (.int .i64 r)/\r<(g.mem k).length/\bY w' bx ad n cap at2/\W.grownBy w' (some bx)):=by
  rintro W ⟨a,hW⟩;refine (sx bx ad n cap a (g.mem k).length W hW hnb' (by omega) (by omega)).mono ?_;rintro e w' ⟨r,at2,rfl,hr,hd,_,hg,hz⟩;exact⟨r,at2,rfl,by omega,hd,hg⟩
 have J0:Hid (Jx w bx ad n cap w):=Jx.start hD;have HI:Hid _:=hI;have HKA:Hid _:=hK;have k3:(k:Int)<3:=by omega
 have k0:(0:Int)<=(k:Int):=by omega
 have hi4:(i:Int)<4:=by have:=hI.cC;omega
 have hi0:(0:Int)<=(i:Int):=by omega
 have hin:(i:Int)<(g.nr:Int):=by omega
 have hbx:bx<w.heap.size:=(Array.getElem?_eq_some_iff.1 hD.1).1;have hz:=aa.yM;have hst:=BQ;have hL30:=hL.2;have HD0:Hid _:=hD;have HN0:Hid _:=hN;clear hD hI hK hN hL;generalize hgk:g.gm k=gk at*;generalize hck:g.j9 k=ck at*;have HGK:Hid _:=And.intro hgk hck;clear hgk hck;have HNext26:Hid (∀W,Jx w bx ad n cap W->Calls aa.prog 14 #[.pointer (some ⟨bx,0,none⟩),.int .i64 26] W λe w'=>∃(r at2:Nat),e=.returned (.int .i64 r)/\r<26/\bY w' bx ad n cap at2/\W.grownBy w' (some bx)):=by
  intro W hJW;obtain⟨a,hW⟩:=HDice.out W hJW;refine (sx bx ad n cap a 26 W hW hnb' (by omega) (by omega)).mono ?_;rintro e w' ⟨r,at2,rfl,hr,hd,_,hg,hz⟩;exact⟨r,at2,rfl,by omega,hd,hg⟩
 go_enter aa.func24,aa.ntmps24;go_wp2;go_cut [9] from 14 to 31 (λpv wx=>∃p r,pv=.pointer (some ⟨p,0,none⟩)/\w.heap.size<=p/\r<(g.mem k).length/\wx.heap[p]?=some (.cells (b9 (gU (g.mem k) r)).toArray 74)/\Jx w bx ad n cap wx)
 case first=>
  go_region_held3 (λw'=>w'.cell? ⟨bt,1922+k,none⟩=some (.slice (some ⟨gk,0,none⟩) (g.mem k).length ck)/\(∀r,r<(g.mem k).length->lW w' gk (r*84))/\(∀r,r<(g.mem k).length->iC w' gk (r*84)=b9 (gU (g.mem k) r))/\∃at2,bY w' bx ad n cap at2)
   ((refine Hmk.out _ ?_;first|(simp (maxDischargeDepth:=12) [Jx.drew,Jx.alloc,Jx.setCells,J0.out];done)|(simp (maxDischargeDepth:=12) [Jx.drew,Jx.alloc,Jx.setCells,J1,z1];done)))
   (first|(go_at_call 14;refine By (HNext.out _ (by go_split_ands;assumption)) ?_;rintro e w1 ⟨r,at2,rfl,hr,hd,hg⟩;(try (have bz:=Fi (w:=w) hg hbx;have hs1:=yO gR bz));have J1:Jx w bx ad n cap w1:=Jx.next (by simp (maxDischargeDepth:=12) [Jx.drew,Jx.alloc,J0.out]) hg hd;have z1:=J1.1.size;clear hd hg))
  ·go_wp2_with fail;go_meet;exact⟨w1.heap.size,r,rfl,z1,hr,sU gR (BY w1 _) _,(J1.alloc _).setCells z1 _ _⟩
  ·go_wp2_with fail;go_meet;exact⟨w.heap.size,r,rfl,eR _,hr,sU gR bz _,J1.setCells (eR _) _ _⟩
 case rest=>
  obtain⟨p,r,rfl,hp,hr,hpc,hJ⟩:=hcut;have HP:Hid _:=hpc;have HJC:Hid (Jx w bx ad n cap wc):=hJ;have NC:Hid _:=HJ.out _ hJ;have KC:Hid (eY wc ks):=HKA.out.below hB0 (hJ.toBelow hB);have HM:Hid (Good g.ws k (gU (g.mem k) r).1 (gU (g.mem k) r).2):=HI.out.jH k _ hk (by rw[vX _ _ hr];exact VB hr);clear hpc hJ Hmk HNext hst hz;generalize gU (g.mem k) r=m at*;obtain⟨wad,wcap,hwv⟩:=uQ NC.out.hw;have HWV:Hid _:=hwv;have hlen80:g.ws.length<=80:=HI.out.hlen;have HT1:Hid (∀w',Jx w bx ad n cap w'->w'.cell? ⟨bt,1,none⟩=some (.slice wad g.ws.length wcap)):=λw' h=>by rw[(au (HJ.out w' h).hT).1,(HJ.out w' h).h1,hwv]
  have HS1:Hid (∀w',Jx w bx ad n cap w'->w'.cell? ⟨bt,1,none⟩=some (.slice wad g.ws.length wcap)/\Jx w bx ad n cap w'):=λw' h=>⟨HT1.out w' h,h⟩
  clear hwv;go_wp2;go_cut [10] from 31 to 43 (λvv wx=>∃val,vv=.string val/\val.size<=12/\wx.heap[p]?=some (.cells (b9 m).toArray 74)/\Jx w bx ad n cap wx)
  case first=>
   have t0:=HT1.out _ HJC.out;have hcv:=QJ;go_region_with (first|(go_at_call 14;refine By (HNext26.out _ (Jx.drew HJC.out)) ?_;rintro e w1 ⟨r2,at2,rfl,hr2,hd,hg⟩;have P1:Hid (w1.heap[p]?=some (.cells (b9 m).toArray 74)):=(Fr.grown (X:=λb=>b=bx) (Fr.drew (Fr.refl _ wc)) hg (λb e _=>by cases e;rfl)).heap HP.out (λe=>by have h1:bx<w.heap.size:=hbx;omega);have J1:Hid (Jx w bx ad n cap w1):=Jx.next (Jx.drew HJC.out) hg hd;have t1:=HT1.out _ J1.out;clear hd hg))
   all_goals
    go_wp2_with fail;go_meet;refine⟨_,rfl,by rw[NI];decide,?_,J1.out.alloc _⟩;rw[Vx _ _ _ (Array.getElem?_eq_some_iff.1 P1.out).1];exact P1.out
  case rest=>
   obtain⟨val,rfl,dq,hpc,hJ⟩:=hcut;clear HP KC NC HJC;have HP:Hid (wc.heap[p]?=some (.cells (b9 m).toArray 74)):=hpc;have HJC:Hid (Jx w bx ad n cap wc):=hJ;have NC:Hid (bk B wc bt g):=HJ.out _ hJ;have KC:Hid (eY wc ks):=HKA.out.below hB0 (hJ.toBelow hB);clear hpc hJ;have hmap:=NC.out.map hi (eX (ks k));have hcell:Hid (∀w',Fr (λb=>b=g.bm i (aC (ks k))) wc w'->w'.cell? ⟨bt,0,none⟩=some (.slice (some ⟨g.br,0,none⟩) g.nr g.cT)/\w'.cell? ⟨g.br,i,none⟩=some (.pointer (some ⟨g.b i,0,none⟩))/\w'.cell? ⟨0,k,none⟩=some (.string (ks k))/\w'.cell? ⟨p,0,none⟩=some (.int .i64 (m.1 0))/\w'.cell? ⟨p,1,none⟩=some (.int .i64 (m.1 1))/\w'.cell? ⟨p,2,none⟩=some (.int .i64 (m.1 2))/\w'.cell? ⟨p,3,none⟩=some (.int .i64 (m.1 3))):=λw' h=>by
    obtain⟨es,clock,hm⟩:=hmap;have ne:∀{b C t},wc.heap[b]?=some (.cells C t)->¬b=g.bm i (aC (ks k)):=λh e=>by rw[e,hm]at h;cases h
    have hp:=(au HP.out).1;refine⟨h.cell (by rw[(au NC.out.hT).1];exact NC.out.h0) (ne NC.out.hT),h.cell (by rw[(au NC.out.hR).1];exact NC.out.iQ i hi) (ne NC.out.hR),h.cell (KC.out.cell k hk) (λe=>?_),h.cell (hp 0) (ne HP.out),h.cell (hp 1) (ne HP.out),h.cell (hp 2) (ne HP.out),h.cell (hp 3) (ne HP.out)⟩
    have:=NC.out.hB.2 i _ hi (eX (ks k));omega
   have hnr4:g.nr<=4:=HI.out.cC.2;have F0:Hid (Fr (λb=>b=g.bm i (aC (ks k))) wc wc):=Fr.refl _ _;by_cases hU:ql g i k m<20
   ·have HPut:Hid (∀W,Below wc.heap.size wc W->Calls aa.prog 21 #[.pointer (some ⟨g.b i,0,none⟩),.string (ks k),.string val,cU m.1] W λe w'=>e=.returned (.int .i64 0)/\W.grownBy w' (some (g.bm i (aC (ks k))))/\∃l',l'.Perm (aT (g.K i (ks k)).2 m.1++ [(i,aU (g.K i (ks k)).1 m.1 i+1,val)])/\(l'.Pairwise (λa b=>aP b a=false)/\l'.length<=20)/\aA w' (g.b i) (g.bm i) i (bl (g.K i) (ks k) (bump (aU (g.K i (ks k)).1 m.1) i,l'))):=λW hW=>Ks NC.out HI.out KC.out hi hk HM.out dq hU W hW;go_wp2_with fail;go_region_held3 (λw'=>w'.cell? ⟨bt,0,none⟩=some (.slice (some ⟨g.br,0,none⟩) g.nr g.cT)/\w'.cell? ⟨g.br,i,none⟩=some (.pointer (some ⟨g.b i,0,none⟩))/\w'.cell? ⟨0,k,none⟩=some (.string (ks k))/\w'.cell? ⟨p,0,none⟩=some (.int .i64 (m.1 0))/\w'.cell? ⟨p,1,none⟩=some (.int .i64 (m.1 1))/\w'.cell? ⟨p,2,none⟩=some (.int .i64 (m.1 2))/\w'.cell? ⟨p,3,none⟩=some (.int .i64 (m.1 3)))
     ((refine hcell.out _ ?_;first|(simp[Fr.drew,F0.out];done)|(simp[Fr.drew,F1];done)))
     (first|(go_at_call 21;refine By (HPut.out _ (by simp[AT,No])) ?_;rintro e w1 ⟨rfl,hg1,l',hperm,hsort,hrep1⟩;have F1:Fr (λb=>b=g.bm i (aC (ks k))) wc w1:=Fr.grown (Fr.drew F0.out) hg1 (λb e _=>by cases e;rfl);have HR1:Hid (aA w1 (g.b i) (g.bm i) i (bl (g.K i) (ks k) (bump (aU (g.K i (ks k)).1 m.1) i,l'))):=hrep1;have HPS:Hid (l'.Perm (aT (g.K i (ks k)).2 m.1++ [(i,aU (g.K i (ks k)).1 m.1 i+1,val)])/\l'.Pairwise (λa b=>aP b a=false)/\l'.length<=20):=⟨hperm,hsort⟩;clear hg1 hperm hsort hrep1))
    have hm':=hmap;obtain⟨es,clock,hmp⟩:=hm';have T1:Hid (w1.heap[bt]?=some (.cells g.A 42)):=F1.heap NC.out.hT (λe=>by have:=NC.out.hT;rw[e,hmp]at this;cases this);have P1:Hid (w1.heap[p]?=some (.cells (b9 m).toArray 74)):=F1.heap HP.out (λe=>by have:=HP.out;rw[e,hmp]at this;cases this);have W1:Hid (w1.ownsRow B 115 4 g.wv g.ws.length (ja g.ws)):=F1.ji NC.out.hw (λb cur hb e=>by rw[e,hmp]at hb;cases hb);have HF1:Hid (Fr (λb=>b=g.bm i (aC (ks k))) wc w1):=F1;have hi4n:i<4:=by omega
    have hAs:=NC.out.hA;have hcc:w1.cell? ⟨bt,1927+i*3+k,none⟩=some (.int .i64 (bu g.ws i k)):=by rw[(au T1.out).1];exact NC.out.kV i k hi4n hk
    have hlt:Hid (1927+i*3+k<g.A.size):=by show _<_;rw[hAs];omega
    have hcf:w1.frozen? ⟨bt,1927+i*3+k,none⟩=false:=(au T1.out).2 _;have hc0:=qD g.ws i k;have hc1:=tG g.ws i k;have HNC:Hid (bk B wc bt g):=NC.out;have HJC0:Hid (Jx w bx ad n cap wc):=HJC.out;clear F1 hmp hmap NC HJC HP hcell F0 HPut;generalize hcn:bu g.ws i k=cn at*;have HCN:Hid _:=hcn;clear hcn;go_wp2;go_cut [] from 104 to 117 (λwx=>∃A1,wx.heap[bt]?=some (.cells A1 42)/\A1.size=1939/\A1[1927+i*3+k]?=some (.int .i64 (cn+1))/\(∀q,q≠1927+i*3+k->A1[q]?=g.A[q]?)/\Fr (λb=>b=bt) w1 wx)
    case first=>
     go_region_with (fail)
     all_goals
      go_wp2_with fail;go_meet;refine⟨_,heap_set (w:=w1.drew) T1.out,?_,?_,?_,?_⟩
      ·rw[VX];exact hAs
      ·rw[Array.getElem?_setIfInBounds,AS rfl,AS hlt.out,wrap_small _ (by omega) (by omega)]
      ·intro q hq;rw[Array.getElem?_setIfInBounds,AI (λe=>hq e.symm)]
      ·exact Fr.setCell (X:=λb=>b=bt) (Fr.drew (Fr.refl _ _)) (Or.inr rfl) _
    case rest=>
     obtain⟨A1,a1,a2,a3,a4,a5⟩:=hcut;have HA1:Hid (wc.heap[bt]?=some (.cells A1 42)):=a1;have H5:Hid (Fr (λb=>b=bt) w1 wc):=a5;have a2':A1.size=1939:=a2;have t1:wc.cell? ⟨bt,1,none⟩=some (.slice wad g.ws.length wcap):=by rw[(au a1).1,a4 1 (by omega),HNC.out.h1,HWV.out]
     have t2:wc.cell? ⟨bt,1927+i*3+k,none⟩=some (.int .i64 (cn+1)):=by rw[(au a1).1];exact a3
     have WC:Hid (wc.ownsRow B 115 4 (.slice wad g.ws.length wcap) g.ws.length (ja g.ws)):=by
      have:=a5.ji W1.out (λb cur hb e=>by rw[e,T1.out]at hb;exact absurd (eB hb) (by decide));rw[HWV.out]at this;exact this
     have hBs:Hid (B<=wc.heap.size):=by
      have h1:=HNC.out.hB.1;have h2:=(Array.getElem?_eq_some_iff.1 a1).1;show _<=_;omega
     have hrow:Hid (∀q,(Value.slice wad g.ws.length wcap).ownBlock=some q->B<=q/\∃cur,w1.heap[q]?=some (.cells cur 115 (0,0))):=λq hq=>by
      have:=rK W1.out q (by rw[HWV.out];exact hq);exact this
     have hbtn:Hid (¬(Value.slice wad g.ws.length wcap).ownBlock=some bt):=λe=>by
      obtain⟨_,cur,hc⟩:=hrow.out bt e;rw[T1.out]at hc;exact absurd (eB hc) (by decide)
     have H34:Hid (A1[1927+i*3+k]?=some (.int .i64 (cn+1))/\∀q,q≠1927+i*3+k->A1[q]?=g.A[q]?):=⟨a3,a4⟩
     obtain⟨i0,hi0,hz0,hz1,hz2⟩:=VH aa.Mv;have hbt:=(Array.getElem?_eq_some_iff.1 a1).1;clear a1 a2 a3 a4 a5 hcc hcf;go_wp2;go_cut [] from 117 to 138 (λwx=>∃A2 ga ca,wx.heap[bt]?=some (.cells A2 42)/\A2.size=1939/\A2[1]?=some (.slice (some ⟨ga,0,none⟩) (g.ws.length+1) ca)/\(∀q,q≠1->A2[q]?=A1[q]?)/\wx.ownsRow B 115 4 (.slice (some ⟨ga,0,none⟩) (g.ws.length+1) ca) (g.ws.length+1) (ja (g.ws++ [(i,k,cn+1,val)]))/\Fr (PX w1 bt) w1 wx/\(∀b cur,w1.heap[b]?=some (.cells cur 115 (0,0))->wx.heap[b]? ≠w1.heap[b]? ->B<=b))
     case first=>
      go_region_law (first|(refine step_append_lies _ rfl _ _ _ rfl B 115 i0 _ 4 40 aa.underlying31 hi0 hz0 hz1 hz2 rfl (by omega) (.slice wad g.ws.length wcap) _ _ rfl ((World.ownsRow.drew WC.out).alloc _) ⟨wc.heap.size,0,none⟩ 1 1 [.int .i64 i,.int .i64 k,.int .i64 (cn+1),.string val] rfl rfl (VM (cs:=#[.int .i64 i,.int .i64 k,.int .i64 (cn+1),.string val]) (t:=115) (fr:=(0,0)) (BY wc.drew _)) (by simp[Value.oneCell']) (by omega) (by unfold maxLen;omega) (by omega) (by have:=hBs.out;simp;omega) (wc.heap.size+1) (by simp) ?_;intro gg capn w2 hown2 hgrow hat hlt2;have T2:w2.heap[bt]?=some (.cells A1 42):=(by rw[hgrow.block bt (by simp;omega) (λe=>hbtn.out e.symm)];show (wc.alloc _).heap[bt]?=_;rw[Vx _ _ _ hbt];exact HA1.out);have s1:w2.cell? ⟨bt,1,none⟩=some A1[1]:=(by rw[(au T2).1];exact Array.getElem?_eq_getElem (by omega));have s2:w2.frozen? ⟨bt,1,none⟩=false:=(au T2).2 1;have HT2:Hid (w2.heap[bt]?=some (.cells A1 42)):=T2;have HD2:Hid _:=LV (o:=1) (u:=.slice (some ⟨gg,0,none⟩) (g.ws.length+1) capn) H5.out T1.out hrow.out hgrow HT2.out hown2;clear T2 hown2 hgrow hat hlt2))
      all_goals
       go_wp2_with fail;go_meet;obtain⟨d1,d2,d3⟩:=HD2.out;refine⟨_,gg,capn,heap_set HT2.out,?_,?_,?_,?_,d2,d3⟩
       ·rw[VX];exact a2'
       ·rw[Array.getElem?_setIfInBounds,AS rfl,AS (by omega)]
       ·intro q hq;rw[Array.getElem?_setIfInBounds,AI (λe=>hq e.symm)]
       ·rw[JI];exact d1
     case rest=>
      obtain⟨A2,ga,ca,b1,b2,b3,b4,b5,b6,b7⟩:=hcut;have HB7:Hid (A2[1]?=some (.slice (some ⟨ga,0,none⟩) (g.ws.length+1) ca)/\(∀q,q≠1->A2[q]?=A1[q]?)/\(∀b cur,w1.heap[b]?=some (.cells cur 115 (0,0))->wc.heap[b]? ≠w1.heap[b]? ->B<=b)):=⟨b3,b4,b7⟩
      have HA2:Hid (wc.heap[bt]?=some (.cells A2 42)):=b1;have W2:Hid (wc.ownsRow B 115 4 (.slice (some ⟨ga,0,none⟩) (g.ws.length+1) ca) (g.ws.length+1) (ja (g.ws++ [(i,k,cn+1,val)]))):=b5;have F2:Hid (Fr (PX w1 bt) w1 wc):=b6;have hpx:Hid (¬PX w1 bt p):=PX.tag T1.out P1.out (by decide) (by decide);have P2:Hid (wc.heap[p]?=some (.cells (b9 m).toArray 74)):=b6.heap P1.out hpx.out;have hgo2:Hid (∀j,j<80->wc.cell? ⟨bt,962+i*240+k*80+j,none⟩=some (.bool (g.go i k j))):=λj hj=>by
       rw[(au b1).1,b4 _ (by omega),H34.out.2 _ (by omega)];exact HNC.out.hgo i k j hi4n hk hj
      have hkn2:Hid (∀j,j<80->A2[2+i*240+k*80+j]?=some (.bool (g.kn i k j))):=λj hj=>by
       rw[b4 _ (by omega),H34.out.2 _ (by omega)];exact HNC.out.bz i k j hi4n hk hj
      obtain⟨r1,q1⟩:=lC hgo2.out;obtain⟨r2,q2⟩:=lC (w:=wc) (b:=p) (o:=4) (s:=m.2) (λj hj=>by rw[(au P2.out).1];exact pf m j hj);clear b1 b3 b4 b5 b6 b7 t1 t2 WC;go_wp2;go_cut [] from 138 to 156 (λwx=>∃A3,wx.heap[bt]?=some (.cells A3 42)/\A3.size=1939/\(∀j,j<80->A3[962+i*240+k*80+j]?=some (.bool (g.go i k j||m.2 j)))/\(∀j,(j<962+i*240+k*80\/962+i*240+k*80+80<=j)->A3[j]?=A2[j]?)/\Fr (λb=>b=bt) wc wx)
      case first=>
       go_region_with (first|(go_at_call 45;refine (uO (g.go i k) m.2 _).mono ?_;rintro e w2 ⟨rfl,hb2⟩;have B2:=qf (w0:=wc) hb2 rfl rfl rfl rfl;have T2:=aS HA2.out B2;have t2:lY w2 bt (962+i*240+k*80):=tB T2 (by omega);have HT2:Hid _:=T2;have HB2:Hid _:=B2;clear hb2 B2 T2))
       all_goals
        go_wp2_with fail;go_meet;obtain⟨A3,a1,a2,a3,a4⟩:=tL HT2.out (show 962+i*240+k*80+80<=A2.size by omega) (λj=>g.go i k j||m.2 j);exact⟨A3,a1,by rw[a2];exact b2,a3,a4,Fr.setCells (X:=λb=>b=bt) (Fr.lz HB2.out) (Or.inr rfl) _ _⟩
      case rest=>
       obtain⟨A3,c1,c2,c3,c4,c5⟩:=hcut;have HA3:Hid (wc.heap[bt]?=some (.cells A3 42)):=c1;have HC3:Hid ((∀j,j<80->A3[962+i*240+k*80+j]?=some (.bool (g.go i k j||m.2 j)))/\(∀j,(j<962+i*240+k*80\/962+i*240+k*80+80<=j)->A3[j]?=A2[j]?)/\Fr (λb=>b=bt) _ wc):=⟨c3,c4,c5⟩
       have P3:Hid (wc.heap[p]?=some (.cells (b9 m).toArray 74)):=c5.heap P2.out (λe=>by have:=P2.out;rw[e,HA2.out]at this;exact absurd (eB this) (by decide));clear r1 q1 r2 q2;obtain⟨r1,q1⟩:=lC (w:=wc) (b:=bt) (o:=2+i*240+k*80) (s:=g.kn i k) (λj hj=>by rw[(au c1).1,c4 _ (by omega)];exact hkn2.out j hj);obtain⟨r2,q2⟩:=lC (w:=wc) (b:=p) (o:=4) (s:=m.2) (λj hj=>by rw[(au P3.out).1];exact pf m j hj);clear c1 c3 c4 c5;go_wp2;go_cut [] from 156 to 174 (λwx=>∃A4,wx.heap[bt]?=some (.cells A4 42)/\A4.size=1939/\(∀j,j<80->A4[2+i*240+k*80+j]?=some (.bool (g.kn i k j||m.2 j)))/\(∀j,(j<2+i*240+k*80\/2+i*240+k*80+80<=j)->A4[j]?=A3[j]?)/\Fr (λb=>b=bt) wc wx)
       case first=>
        go_region_with (first|(go_at_call 45;refine (uO (g.kn i k) m.2 _).mono ?_;rintro e w2 ⟨rfl,hb2⟩;have B2:=qf (w0:=wc) hb2 rfl rfl rfl rfl;have T2:=aS HA3.out B2;have t2:lY w2 bt (2+i*240+k*80):=tB T2 (by omega);have HT2:Hid _:=T2;have HB2:Hid _:=B2;clear hb2 B2 T2))
        all_goals
         go_wp2_with fail;go_meet;obtain⟨A4,a1,a2,a3,a4⟩:=tL HT2.out (show 2+i*240+k*80+80<=A3.size by omega) (λj=>g.kn i k j||m.2 j);exact⟨A4,a1,by rw[a2];exact c2,a3,a4,Fr.setCells (X:=λb=>b=bt) (Fr.lz HB2.out) (Or.inr rfl) _ _⟩
       case rest=>
        obtain⟨A4,d1,d2,d3,d4,d5⟩:=hcut;have HA4:Hid (wc.heap[bt]?=some (.cells A4 42)):=d1;have HD4:Hid ((∀j,j<80->A4[2+i*240+k*80+j]?=some (.bool (g.kn i k j||m.2 j)))/\(∀j,(j<2+i*240+k*80\/2+i*240+k*80+80<=j)->A4[j]?=A3[j]?)/\Fr (λb=>b=bt) _ wc):=⟨d3,d4,d5⟩
        have t1:wc.cell? ⟨bt,1,none⟩=some (.slice (some ⟨ga,0,none⟩) (g.ws.length+1) ca):=by
         rw[(au d1).1,d4 1 (by omega),HC3.out.2.1 1 (by omega)];exact HB7.out.1
        have hlt4:Hid (2+i*240+k*80+g.ws.length<A4.size):=by show _<_;omega
        have t3:wc.cell? ⟨bt,2+i*240+k*80+g.ws.length,none⟩=some (.bool (g.kn i k g.ws.length||m.2 g.ws.length)):=by
         rw[(au d1).1];exact d3 _ (by omega)
        have t4:wc.frozen? ⟨bt,2+i*240+k*80+g.ws.length,none⟩=false:=(au d1).2 _;have hl80:(g.ws.length:Int)<80:=by omega
        have hl0:(0:Int)<=(g.ws.length:Int):=by omega
        have hs1:IntKind.i64.wrap ((g.ws.length:Int)+1-1)=(g.ws.length:Int):=by rw[wrap_small _ (by omega) (by omega)];omega
        have hs2:IntKind.i64.wrap (((g.ws.length+1:Nat):Int)-1)=(g.ws.length:Int):=by rw[wrap_small _ (by omega) (by omega)];omega
        have hs3:IntKind.i64.wrap (g.ws.length:Int)=(g.ws.length:Int):=wrap_small _ (by omega) (by omega);clear r1 q1 r2 q2 d1 d3 d4 d5;go_wp2;go_region_with (fail)
        go_wp2;go_ret;obtain⟨e1,e2,e3⟩:=OC HJC0.out HNC.out HD0.out hB hnb hi hi4n hk hws HCN.out HF1.out T1.out W1.out HR1.out H34.out HB7.out HA2.out W2.out F2.out HC3.out HD4.out HA4.out d2;exact⟨rfl,e1,g.put ks i k m val l' (.slice (some ⟨ga,0,none⟩) (g.ws.length+1) ca) (A4.setIfInBounds (2+i*240+k*80+g.ws.length) (.bool true)),rfl,e2,HI.out.put HKA.out.ne _ _ hi hk HM.out dq hws HPS.out.1 HPS.out.2,e3⟩
   ·have hU':20<=ql g i k m:=by omega
    have HPut:Hid (∀W,Below wc.heap.size wc W->Calls aa.prog 21 #[.pointer (some ⟨g.b i,0,none⟩),.string (ks k),.string val,cU m.1] W λe w'=>e=.returned (.int .i64 6)/\Below W.heap.size W w'):=λW hW=>Su NC.out HI.out KC.out hi hk HM.out dq hU' W hW;clear hU;go_wp2_with fail;go_region_held3 (λw'=>w'.cell? ⟨bt,0,none⟩=some (.slice (some ⟨g.br,0,none⟩) g.nr g.cT)/\w'.cell? ⟨g.br,i,none⟩=some (.pointer (some ⟨g.b i,0,none⟩))/\w'.cell? ⟨0,k,none⟩=some (.string (ks k))/\w'.cell? ⟨p,0,none⟩=some (.int .i64 (m.1 0))/\w'.cell? ⟨p,1,none⟩=some (.int .i64 (m.1 1))/\w'.cell? ⟨p,2,none⟩=some (.int .i64 (m.1 2))/\w'.cell? ⟨p,3,none⟩=some (.int .i64 (m.1 3)))
     ((refine hcell.out _ ?_;first|(simp[Fr.drew,F0.out];done)|(simp[Fr.drew,F1];done)))
     (first|(go_at_call 21;refine By (HPut.out _ (by simp[AT,No])) ?_;rintro e w1 ⟨rfl,hbel⟩;have F1:Fr (λb=>b=g.bm i (aC (ks k))) wc w1:=Fr.below (Fr.drew F0.out) hbel;have JF:Hid (Jx w bx ad n cap w1):=(Jx.drew HJC.out).below hbel;have P1:Hid (w1.heap[p]?=some (.cells (b9 m).toArray 74)):=aS (W:=wc.drew) HP.out hbel;clear hbel))
    have HU:Hid _:=hU';have N1:Hid (bk B w1 bt g):=HJ.out _ JF.out;have t1:=HT1.out _ JF.out;generalize hF:(λj=>(g.kn i k j&&!g.go i k j)&&!m.2 j)=F;have HF:Hid (∀j,F j=((g.kn i k j&&!g.go i k j)&&!m.2 j)):=λj=>by rw[<-hF]
    have HFF:Hid _:=hF;clear hF hU' F1;go_wp2;go_loop [12,13] (λcv iv=>∃j:Nat,j<=g.ws.length/\iv=.int .i64 j/\cv=.int .i64 (cg F j)/\cg F j<=j) (λ_ iv=>g.ws.length-(intOf iv).toNat)
    case atStart=>exact⟨0,by omega,rfl,rfl,eR _⟩
    case round=>
     obtain⟨j,hj,rfl,rfl,hcj⟩:=hrel;by_cases hjl:j<g.ws.length
     ·have j1:(j:Int)<(g.ws.length:Int):=by omega
      have j80:(j:Int)<80:=by omega
      have j0:(0:Int)<=(j:Int):=by omega
      have hi4':i<4:=by omega
      have kc:w1.cell? ⟨bt,2+i*240+k*80+j,none⟩=some (.bool (g.kn i k j)):=by rw[(au N1.out.hT).1];exact N1.out.bz i k j hi4' hk (by omega)
      have gc:w1.cell? ⟨bt,962+i*240+k*80+j,none⟩=some (.bool (g.go i k j)):=by rw[(au N1.out.hT).1];exact N1.out.hgo i k j hi4' hk (by omega)
      have mc:w1.cell? ⟨p,4+j,none⟩=some (.bool (m.2 j)):=by rw[(au P1.out).1];exact pf m j (by omega)
      have hFj:=HF.out j;have HA:Hid (cg F (j+1)=cg F j+(if F j then 1 else 0)):=rfl;generalize cg F j=cj at*;cases h1:g.kn i k j with
      |false=>
       rw[h1]at kc hFj;have HA2:Hid (cg F (j+1)=cj):=by show _=_;rw[HA.out,hFj];rfl
       clear hFj;go_wp2;exact⟨⟨j+1,by omega,by go_num,by rw[HA2.out],by rw[HA2.out];omega⟩,by simp[intOf];omega⟩
      |true=>
       rw[h1]at kc hFj;cases h2:g.go i k j with
       |true=>
        rw[h2]at gc hFj;have HA2:Hid (cg F (j+1)=cj):=by show _=_;rw[HA.out,hFj];rfl
        clear hFj;go_wp2;exact⟨⟨j+1,by omega,by go_num,by rw[HA2.out],by rw[HA2.out];omega⟩,by simp[intOf];omega⟩
       |false=>
        rw[h2]at gc hFj;cases h3:m.2 j with
        |true=>
         rw[h3]at mc hFj;have HA2:Hid (cg F (j+1)=cj):=by show _=_;rw[HA.out,hFj];rfl
         clear hFj;go_wp2;exact⟨⟨j+1,by omega,by go_num,by rw[HA2.out],by rw[HA2.out];omega⟩,by simp[intOf];omega⟩
        |false=>
         rw[h3]at mc hFj;have HA2:Hid (cg F (j+1)=cj+1):=by show _=_;rw[HA.out,hFj];rfl
         clear hFj;go_wp2;exact⟨⟨j+1,by omega,by go_num,by rw[HA2.out];go_num,by rw[HA2.out];omega⟩,by simp[intOf];omega⟩
     ·obtain rfl:j=g.ws.length:=by omega
      have h20:(20:Int)<=(cg F g.ws.length:Int):=by
       have:=HU.out;unfold ql at this;rw[HFF.out]at this;omega
      go_wp2;go_ret;exact⟨rfl,JF.out.toBelow hB,g,rfl,HJ.out _ JF.out,HI.out,HDice.out _ JF.out⟩
end
theorem DJ:∀(vs:List Value) (s off:Nat) (cells:Array Value) (t:Nat),
  ((vs.zipIdx s).foldl (λcs (p:Value×Nat)=>cs.setIfInBounds (off+p.2) p.1) cells)[t]?=if off+s<=t/\t<off+s+vs.length/\t<cells.size then vs[t-off-s]? else cells[t]?
 |[],s,off,cells,t=>by
  simp only[List.zipIdx_nil,List.foldl_nil,Wt];rw[AI (by omega)]
 |v::vs,s,off,cells,t=>by
  simp only[List.zipIdx_cons,WM];rw[DJ vs (s+1) off _ t,Array.getElem?_setIfInBounds,VX];by_cases h:off+s=t
  ·subst h;rw[AI (by omega),AS rfl];by_cases h2:off+s<cells.size
   ·rw[AS h2,AS ⟨by omega,by rw[VL];omega,h2⟩,show off+s-off-s=0 by omega];rfl
   ·rw[AI h2,AI (by omega),Array.getElem?_eq_none (by omega)]
  ·rw[AI h];by_cases h3:off+(s+1)<=t/\t<off+(s+1)+vs.length/\t<cells.size
   ·rw[AS h3,AS ⟨by omega,by rw[VL];omega,h3.2.2⟩,show t-off-s=(t-off-(s+1))+1 by omega];rfl
   ·rw[AI h3,AI (by rw[VL];omega)]
theorem A5:∀(l:List (Value×Nat)) (off:Nat) (cells:Array Value),(l.foldl (λcs (p:Value×Nat)=>cs.setIfInBounds (off+p.2) p.1) cells).size=cells.size
 |[],_,_=>rfl
 |p::l,off,cells=>by rw[WM,A5 l,VX]
theorem vP(place:Nat->Option (Nat×Nat))(cells cs:Array Value)(i off:Nat)(rest:List (Nat×Value))(hp:place i=some (off,cs.size))(hs:off+cs.size<=cells.size):
  ∃cells':Array Value,Instr.fill place cells ((i,.agg cs)::rest)=Instr.fill place cells' rest/\cells'.size=cells.size/\∀t,cells'[t]?=if off<=t/\t<off+cs.size then cs[t-off]? else cells[t]? :=by
 refine⟨(cs.zipIdx.foldl (λcs' (p:Value×Nat)=>cs'.setIfInBounds (off+p.2) p.1) cells),?_,?_,λt=>?_⟩
 ·have hc:(Value.agg cs).cells=cs:=rfl;rw[Instr.fill,hp];simp only[hc];rw[AI (by simp;omega)]
 ·rw[<-Xp];exact A5 _ off cells
 ·rw[<-Xp,Array.toList_zipIdx]
  have:=DJ cs.toList 0 off cells t;rw[this];simp only[Nat.add_zero,Wc,Nat.sub_zero,Array.getElem?_toList];by_cases h:off<=t/\t<off+cs.size
  ·rw[AS ⟨h.1,h.2,by omega⟩,AS h]
  ·rw[AI (λe=>h ⟨e.1,e.2.1⟩),AI h]
theorem aa.Nh(a b:Array Value):aa.prog.built 74 [(0,.agg a),(1,.agg b)]=Instr.fill (λx=>[(0,4),(4,80)][x]?) eJ [(0,.agg a),(1,.agg b)]:=by kernel_rfl
theorem M3(w:World)(a b:Array Value)(ha:a.size=4)(hb:b.size=80):(Instr.build 74 #[(0,.agg a),(1,.agg b)]).run aa.prog w=.ok (.agg (a++b)) w:=by
 refine run_build (P:=aa.prog) w _ _ _ ?_;rw[aa.Nh];obtain⟨c1,h1,s1,g1⟩:=vP (λx=>[(0,4),(4,80)][x]?) eJ a 0 0 [(1,.agg b)] (by rw[ha];rfl) (by rw[ha,gR];omega);obtain⟨c2,h2,s2,g2⟩:=vP (λx=>[(0,4),(4,80)][x]?) c1 b 1 4 [] (by rw[hb];rfl) (by rw[hb,s1,gR];omega);rw[h1,h2,Instr.fill];congr 1;apply Array.ext_getElem?;intro t;rw[g2,g1,hb,ha,Array.getElem?_append,ha];rw[gR]at s1;by_cases h4:t<4
 ·rw[AI (by omega),AS (by omega),AS h4];rfl
 ·rw[AI h4];by_cases h84:t<84
  ·rw[AS (by omega)]
  ·rw[AI (by omega),AI (by omega),Array.getElem?_eq_none (by rw[gR];omega),Array.getElem?_eq_none (by omega)]
theorem SH(base cs:Array Value)(hb:base.size=1*84)(hs:cs.size=84):Instr.fill (λi=>some (i*84,84)) base [(0,.agg cs)]=some cs:=by
 obtain⟨c1,h1,s1,g1⟩:=vP (λi=>some (i*84,84)) base cs 0 0 [] (by rw[hs]) (by rw[hs];omega);rw[h1,Instr.fill];congr 1;apply Array.ext_getElem?;intro t;rw[g1,hs];by_cases h:t<84
 ·rw[AS (by omega)];rfl
 ·rw[AI (by omega),Array.getElem?_eq_none (by omega),Array.getElem?_eq_none (by omega)]
theorem aa.Gp:(aa.prog.info? 74).map (λi=>(i.zero,i.size,i.bytes))=some (some (.agg eJ),84,112):=by kernel_rfl
theorem QA(w:World)(cs:Array Value)(hs:cs.size=84):(Instr.buildSlice 36 1 #[(0,.agg cs)]).run aa.prog w=.ok (.slice (some ⟨w.heap.size,0,none⟩) 1 1) (w.alloc (.cells cs 74)):=by
 obtain⟨i0,hi0,hz0,hz1,hz2⟩:=VH aa.Gp;have hu:aa.prog.underlying 36=some (.slice 74):=aa.underlying36;have hf:Instr.fill (λi=>some (i*84,84)) ((Array.range (1*84)).map ((Value.agg eJ).cells[· % (Value.agg eJ).cells.size]!)) [(0,.agg cs)]=some cs:=SH _ cs (by rw[Array.size_map,Array.size_range]) hs;simp[Instr.buildSlice,Wx hu,sizeOf,typeInfo,zeroValue,hi0,hz0,hz1,hf,newRow]
def ay.jP(g:ay)(ks:Nat->ByteArray)(i k gg ca:Nat)(A:Array Value):ay:=
 {g with
  mem:=λl=>if l=k then g.mem k++ [((g.K i (ks k)).1,g.kn i k)] else g.mem l
  gm:=λl=>if l=k then gg else g.gm l
  j9:=λl=>if l=k then ca else g.j9 l
  A:=A}
theorem bS.jP(hI:bS ks g)(A:Array Value)(hi:i<g.nr)(hk:k<3)(hl:(g.mem k).length<30):bS ks (g.jP ks i k gg ca A) where
 cC:=hI.cC
 hlen:=hI.hlen
 eH:=hI.eH
 dq:=hI.dq
 dQ:=hI.dQ
 dc:=hI.dc
 aD:=hI.aD
 hex:=hI.hex
 il:=hI.il
 jH:=λl m hl' hm=>by
  simp only[ay.jP]at hm ⊢;by_cases e:l=k
  ·subst e;rw[AS rfl]at hm;rcases List.mem_append.1 hm with hm|hm
   ·exact hI.jH l m hl' hm
   ·rw[List.mem_singleton.1 hm];exact hI.dc i l hi hk
  ·rw[AI e]at hm;exact hI.jH l m hl' hm
 jb:=λl hl'=>by
  simp only[ay.jP];by_cases e:l=k
  ·subst e;rw[AS rfl,VF,WA];omega
  ·rw[AI e];exact hI.jb l hl'
 eM:=hI.eM
 eV:=hI.eV
 dE:=hI.dE
theorem bk.jP(hN:bk B w bt g)(hF:Fr (λb=>b=bt\/b=g.gm k) w w2)(hk:k<3)(hL:0<(g.mem k).length)(hmp:∀l,l<3->0<(g.mem l).length)(hT:w2.heap[bt]?=some (.cells A 42))(hA:A.size=1939)(eS:A[1922+k]?=some (.slice (some ⟨gg,0,none⟩) ((g.mem k).length+1) ca))(ho:∀q,q≠1922+k->A[q]?=g.A[q]?)(cG:w2.ownsRow B 74 84 (.slice (some ⟨gg,0,none⟩) ((g.mem k).length+1) ca) ((g.mem k).length+1) (ij (g.mem k)++b9 ((g.K i (ks k)).1,g.kn i k)))(hgg:gg=g.gm k\/w.heap.size<=gg):bk B w2 bt (g.jP ks i k gg ca A):=by
 have hgmk:∀l,l<3->∃cur,w.heap[g.gm l]?=some (.cells cur 74 (0,0)):=λl hl=>by
  rcases (hN.cG l hl).2 with⟨h1,_⟩|⟨g',cap,cur,hv,_,hh,_⟩
  ·cases h1
  ·cases hv;exact⟨cur,hh⟩
 obtain⟨curk,hck⟩:=hgmk k hk;have hcell:∀{b:Nat} {C:Array Value} {t:TypeId} {fr:Nat×Nat},w.heap[b]?=some (.cells C t fr)->t≠42->t≠74->¬(b=bt\/b=g.gm k):=λhb h1 h2 h=>by
  rcases h with e|e
  ·rw[e,hN.hT]at hb;cases hb;exact h1 rfl
  ·rw[e,hck]at hb;cases hb;exact h2 rfl
 have hmap:∀{b:Nat} {es:Array MapEntry} {clock:Nat},w.heap[b]?=some (.map es clock)->¬(b=bt\/b=g.gm k):=λhb h=>by
  rcases h with e|e
  ·rw[e,hN.hT]at hb;cases hb
  ·rw[e,hck]at hb;cases hb
 exact {
  hB:=hN.hB
  hT:=hT
  hA:=hA
  h0:=by show A[0]?=_;rw[ho 0 (by omega)];exact hN.h0
  hR:=hF.heap hN.hR (hcell hN.hR (by decide) (by decide))
  iQ:=hN.iQ
  ct:=λj hj=>by
   refine hF.rep (hN.ct j hj) ?_ (λn hn=>?_) (λb cur hb=>hcell hb (by decide) (by decide))
   ·obtain⟨⟨C,hC,_⟩,_⟩:=hN.ct j hj;exact hcell hC (by decide) (by decide)
   ·obtain⟨es,clock,hm⟩:=hN.map hj hn;exact hmap hm
  fe:=hN.fe
  h1:=by show A[1]?=_;rw[ho 1 (by omega)];exact hN.h1
  hw:=hF.ji hN.hw (λb cur hb=>hcell hb (by decide) (by decide))
  bz:=λj l q hj hl hq=>by show A[2+j*240+l*80+q]?=_;rw[ho _ (by omega)];exact hN.bz j l q hj hl hq
  hgo:=λj l q hj hl hq=>by show A[962+j*240+l*80+q]?=_;rw[ho _ (by omega)];exact hN.hgo j l q hj hl hq
  eS:=λl hl=>by
   simp only[ay.jP,ay.mv];by_cases e:l=k
   ·subst e;simp only[IS,VF,WA];exact eS
   ·simp only[AI e];rw[ho _ (by omega)];exact hN.eS l hl
  cG:=λl hl=>by
   simp only[ay.jP,ay.mv];by_cases e:l=k
   ·subst e;simp only[IS,VF,WA,Lw];rw[show ij [((g.K i (ks l)).1,g.kn i l)]=b9 ((g.K i (ks l)).1,g.kn i l) by simp[ij]];exact cG
   ·simp only[AI e];refine hF.row (hN.cG l hl) (λg' o l' c hv h=>?_);cases hv;rcases h with h|h
    ·obtain⟨cur,hc⟩:=hgmk l hl;rw[h,hN.hT]at hc;cases hc
    ·exact e (hN.eQ l k hl hk h)
  eQ:=λl l' hl hl' he=>by
   simp only[ay.jP]at he;by_cases e:l=k
   ·by_cases e':l'=k
    ·rw[e,e']
    ·simp only[AS e,AI e']at he;rcases hgg with h|h
     ·rw[h]at he;rw[e];exact hN.eQ k l' hk hl' he
     ·obtain⟨cur,hc⟩:=hgmk l' hl'
      have:=(Array.getElem?_eq_some_iff.1 hc).1;omega
   ·by_cases e':l'=k
    ·simp only[AI e,AS e']at he;rcases hgg with h|h
     ·rw[h]at he;rw[e'];exact hN.eQ l k hl hk he
     ·obtain⟨cur,hc⟩:=hgmk l hl
      have:=(Array.getElem?_eq_some_iff.1 hc).1;omega
    ·simp only[AI e,AI e']at he;exact hN.eQ l l' hl hl' he
  kV:=λj l hj hl=>by show A[1927+j*3+l]?=_;rw[ho _ (by omega)];exact hN.kV j l hj hl}
def ve:Value->Value->Prop
 |.agg a,.agg b=>a.size=4/\b.size=80
 |_,_=>False
def CJ:Value->Value->Value
 |.agg a,.agg b=>.agg (a++b)
 |_,_=>undef
theorem Ut(a b:Array Value):ve (.agg a) (.agg b)=(a.size=4/\b.size=80):=rfl
theorem EM(a b:Array Value):CJ (.agg a) (.agg b)=.agg (a++b):=rfl
theorem Me(f:Operand->Value)(d:Option Tmp)(x y:Operand)(ty:TypeId)(pos:String)(aft:Array Edge)(gd:Option (Nat×Bool))(w:World)(h:ve (f x) (f y)):
  (execOp f {dst:=d,op:=.build 74 #[(0,x),(1,y)],type:=ty,pos:=pos,after:=aft,guard:=gd}).run aa.prog w=.ok (.value (CJ (f x) (f y))) w:=by
 unfold ve at h;split at h
 ·rename_i a b hx hy;rw[hx,hy,EM];unfold execOp;simp only[List.map_toArray,VY,List.map_nil,hx,hy,VQ,M3 w a b h.1 h.2,We];rfl
 ·exact h.elim
def wC:Value->Prop
 |.agg cs=>cs.size=84
 |_=>False
def Cm:Value->Array Value
 |.agg cs=>cs
 |_=>#[]
theorem Eo(cs:Array Value):wC (.agg cs)=(cs.size=84):=rfl
theorem vT(cs:Array Value):Cm (.agg cs)=cs:=rfl
theorem Dh(d:Option Tmp)(x:Operand)(ty:TypeId)(pos:String)(aft:Array Edge)(gd:Option (Nat×Bool))(a:Act)(w:World)(K:Act->World->Prop)(Q:Exit->Act->World->Prop)(h:wC (a.eval x)):
  Oper.wp aa.prog {dst:=d,op:=.buildSlice 36 1 #[(0,x)],type:=ty,pos:=pos,after:=aft,guard:=gd} a w K Q=K (a.put d (.slice (some ⟨w.heap.size,0,none⟩) 1 1)) (w.alloc (.cells (Cm (a.eval x)) 74)):=by
 unfold wC at h;split at h
 ·rename_i cs hx;rw[hx,vT];unfold Oper.wp execOp;simp only[List.map_toArray,VY,List.map_nil,hx,VQ,QA w cs h,We];rfl
 ·exact h.elim
theorem Tu(c:Ctx)(s:Nat->Bool): #[Value.int .i64 (c 0),.int .i64 (c 1),.int .i64 (c 2),.int .i64 (c 3)]++bits s=(b9 (c,s)).toArray:=by
 apply Array.ext';simp[b9]
end Go.Proofs.YtldmcdeibiclkaaGreatDoorQ
