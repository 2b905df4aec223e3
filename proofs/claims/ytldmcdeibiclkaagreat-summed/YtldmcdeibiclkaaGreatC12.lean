/-
  Toward summed_holds: THE POOL's MACHINE: the starter starts a worker, sends a number, closes the channel; WHATE
-/
import Derived.Test.YtldmcdeibiclkaaGreatC11
set_option linter.unusedVariables false
set_option linter.unusedSimpArgs false
set_option maxRecDepth 100000
set_option maxHeartbeats 20000000
namespace Go.Proofs.YtldmcdeibiclkaaGreat.U
variable {gs:Array Goroutine}{t:Trace}{s:PS}{xs:Nat->Value}{i j cap r:Nat}{es es':Array Event}{g:Goroutine}{bs:List iM}{x z:Value}{q:Nat->Nat}
section
open Go.Conc
open Go.ConcN (upd upd_same upd_ne sumTo sumTo_upd sumTo_congr sumTo_le le_sumTo RelBy)
set_option maxRecDepth 100000
theorem EF(M:Mn)(xs:Nat->Value)(cs:List Frame)(j:Int):dX (gf M xs cs j) (gf M xs cs j).frame=gf M xs cs j:=by kernel_rfl
section
variable {L:au}{T:aO}{Goal:Frame->List Frame->World->Prop}{X:PC L}
theorem vo(O:aH T Goal X){v:World}{sl:Option (Nat×Nat)}(H:PI T Goal X s gs v t){h h1:Goroutine}(h0:gs[0]?=some h)(hmt:s.mt=.go i 0 xs)(e:stepG Pg true h v=.spawn h1 (jV X.p) v #[]){mt':Mt}(hM:bz X h1 mt')(e1:mt'.aY X=0)(e2:mt'.shut=false)(e3:mt'.on X=i+1)(e4:mt'.dr=0)(e5:mt'.deaf=0)(e6:ix mt'=true)(e7:∀k n xs ys,mt'≠.ef k n xs ys)(e8:∀n xs,mt'≠.fin n xs)(e9:∀c,mt'.ag c+22<s.mt.ag s.c):bd T Goal X s gs v sl t 0:=by
 have hn0:=O.n0;obtain⟨a1,a2,a3,a4⟩:=gb H.wg (by rw[hmt];rfl);rw[hmt]at a2;have a2':s.st=(s.c+1)*aV:=a2;have hj:s.j=i:=by rw[H.ac.on,hmt];rfl
 have hsz:=H.gs.size;have hrun:=runT_crowd_spawn (P:=Pg) (sl:=sl) (i:=0) h0 (show stepG Pg (0==0) h v=_ from e);have hz:∀fn pos,MemOp.ofEvents 0 fn pos #[]=#[]:=λfn pos=>by simp[ofEvents_eq]
 rw[hz]at hrun;let s':PS:={s with mt:=mt',j:=s.j+1,ws:=upd s.ws s.j (.load 7),ow:=upd s.ow s.j (λ_=>False)}
 have hw:∀k,k<s.j->s'.ws k=s.ws k:=λk hk=>upd_ne _ _ (by omega);have ho:∀k,k<s.j->s'.ow k=s.ow k:=λk hk=>upd_ne _ _ (by omega);have hwj:s'.ws s.j=.load 7:=upd_same _ _ _;have hoj:s'.ow s.j=λ_=>False:=upd_same _ _ _;have hsum:∀f:Wk->Nat,sumTo (s.j+1) (λk=>f (s'.ws k))=sumTo s.j (λk=>f (s.ws k))+f (.load 7):=λf=>by
  show sumTo s.j (λk=>f (s'.ws k))+f (s'.ws s.j)=_;rw[hwj,sumTo_congr λk hk=>by rw[hw k hk]]
 have hc:s'.c=s.c+1:=hsum Wk.cnt;let x:MemOp:={g:=0,fn:=h.frame.fn,pos:=h.frame.place,act:=.go gs.size}
 let y:MemOp:={g:=gs.size,fn:=(jV X.p).frame.fn,pos:=h.frame.place,act:=.start}
 have hxy:((#[]:Trace).push x).push y=#[x,y]:=rfl;have hrun':runT Pg (crowd gs v sl) 0=(.next (crowd ((gs.setIfInBounds 0 h1).push (jV X.p)) v sl),#[x,y]):=hrun;have hstill:∀k,Deaf (t++#[x,y]) k=Deaf t k:=λk=>kN t k [x,y] (by intro op hop;simp at hop;rcases hop with rfl|rfl<;>exact⟨by simp[x,y],by simp[x,y]⟩);refine⟨s',_,_,_,hrun',⟨?_,?_,?_,?_,?_⟩,.inl ?_⟩
 ·refine⟨by simp[hsz,s'];omega,⟨h1,?_,hM⟩,λk hk=>?_,λk g hk hkn hg=>?_,λk hk=>?_⟩
  ·rw[Array.getElem?_push,By (by rw[Rt];omega),Array.getElem?_setIfInBounds_self_of_lt (by omega)]
  ·rw[hstill];have hk':k<s.j+1:=hk;rcases QO k s.j with hlt|hge
   ·obtain⟨g,hg,hW⟩:=H.gs.work k hlt;refine⟨g,?_,by rw[hw k hlt,ho k hlt];exact hW⟩;rw[Array.getElem?_push,By (by simp;omega),Array.getElem?_setIfInBounds_ne (by omega)];exact hg
   ·obtain rfl:k=s.j:=by omega
    refine⟨jV X.p,by rw[Array.getElem?_push,IN (by simp[hsz])],?_⟩;rw[hwj,hoj];exact⟨(Mx X.p).aN,H.gs.above _ (by omega)⟩
  ·rw[hstill];rw[Array.getElem?_push,By (by simp;omega),Array.getElem?_setIfInBounds_ne (by omega)]at hg;exact H.gs.gY k g hk hkn hg
  ·rw[hstill];simp at hk;exact H.gs.above k (by omega)
 ·exact H.wd.same rfl (by rw[e2,hmt];rfl) (by rw[e1,hmt];rfl) rfl rfl rfl rfl
 ·have hs0:s.mt.aY X=0:=by rw[hmt];rfl
  refine⟨by show s.j+1=mt'.on X;rw[e3,hj],by show mt'.aY X<=_;omega,by show s.rN+s.bD.length=mt'.aY X;rw[e1,H.ac.iX,hs0],λm hm=>?_,?_,H.ac.eC,H.ac.okB,λk hk hp=>?_,λk hk hr=>?_⟩
  ·have:m<mt'.aY X:=hm;omega
  ·have this:sumTo (s.j+1) (λk=>if (s'.ws k).bk.isSome then 1 else 0)=sumTo s.j (λk=>if (s.ws k).bk.isSome then 1 else 0)+0:=hsum (λx=>if x.bk.isSome then 1 else 0);have h2:=H.ac.count;show s.bD.length+sumTo (s.j+1) (λk=>if (s'.ws k).bk.isSome then 1 else 0)+s.bZ.length<=mt'.aY X;omega
  ·have hk':k<s.j+1:=hk;rcases QO k s.j with hlt|hge
   ·rw[hw k hlt]at hp;exact⟨(H.ac.cr k hlt hp).1,e2⟩
   ·obtain rfl:k=s.j:=by omega
    rw[hwj]at hp;cases hp
  ·have hk':k<s.j+1:=hk;rcases QO k s.j with hlt|hge
   ·rw[hw k hlt]at hr
    have:=(H.ac.gone k hlt hr).1;rw[hmt]at this;cases this
   ·obtain rfl:k=s.j:=by omega
    rw[hwj]at hr;simp[Wk.ag]at hr
 ·refine .opn e6 (λk hk=>?_) ?_ a3 (λk n xs ys h=>absurd h (e7 k n xs ys))
  ·have hk':k<s.j+1:=hk;rcases QO k s.j with hlt|hge
   ·rw[hw k hlt];exact a1 k hlt
   ·obtain rfl:k=s.j:=by omega
    rw[hwj];exact .inr (by simp[Wk.ag])
  ·show s.st=(s'.c+mt'.dr)*aV;rw[hc,e4];exact a2'
 ·have hd0:Deaf t 0=0:=by rw[H.tr.d0,hmt];rfl
  have hf:=H.tr.tp.fork (.inl rfl) (k:=gs.size) (by omega) (λhx=>by have:=hx.2;omega) (λb hb=>by obtain⟨i,hi,he,_⟩:=hb;omega) (x:=x) (y:=y) ⟨rfl,rfl⟩ ⟨rfl,rfl⟩ hd0 (H.gs.above _ (AI _));have l1:(λk=>(k=0\/ec X s k)\/k=gs.size)=(λk=>k=0\/ec X s' k):=by
   funext k;apply propext;show ((k=0\/(X.n0<=k/\k<X.n0+s.j))\/k=gs.size)↔(k=0\/(X.n0<=k/\k<X.n0+(s.j+1)));omega
  have l2:(λk=>ec X s k\/k=gs.size)=ec X s':=by
   funext k;apply propext;show ((X.n0<=k/\k<X.n0+s.j)\/k=gs.size)↔(X.n0<=k/\k<X.n0+(s.j+1));omega
  rw[l1,l2]at hf;have hnt:∀op∈(#[x,y]:Trace),op.act.touch?=none:=λop hop=>by simp at hop;rcases hop with rfl|rfl<;>rfl
  refine⟨hf.grow (AI _) (λk b=>?_) (λb hb=>.inl hb) (λb hb=>.inl hb) (λb hb=>hb),λk b hk hb=>?_,λk k' b hk hk' hb hb'=>?_,λk hk hr=>?_,H.tr.norel.app λop hop=>?_,by rw[hstill,hd0];exact e5.symm,λn xs hx=>absurd hx (e8 n xs)⟩
  ·rintro⟨k',hk',rfl,hb⟩;have hk2:k'<s.j+1:=hk';rcases QO k' s.j with hlt|hge
   ·rw[ho k' hlt]at hb;exact .inl ⟨k',hlt,rfl,hb⟩
   ·obtain rfl:k'=s.j:=by omega
    rw[hoj]at hb;exact hb.elim
  ·have hk2:k<s.j+1:=hk;rcases QO k s.j with hlt|hge
   ·rw[ho k hlt]at hb;exact H.tr.own k b hlt hb
   ·obtain rfl:k=s.j:=by omega
    rw[hoj]at hb;exact hb.elim
  ·have hk2:k<s.j+1:=hk;have hk3:k'<s.j+1:=hk';rcases QO k s.j with hlt|hge
   ·rcases QO k' s.j with hlt'|hge'
    ·rw[ho k hlt]at hb;rw[ho k' hlt']at hb';exact H.tr.apart k k' b hlt hlt' hb hb'
    ·obtain rfl:k'=s.j:=by omega
     rw[hoj]at hb';exact hb'.elim
   ·obtain rfl:k=s.j:=by omega
    rw[hoj]at hb;exact hb.elim
  ·have hk2:k<s.j+1:=hk;rcases QO k s.j with hlt|hge
   ·rw[hw k hlt]at hr;obtain⟨r,hrr⟩:=H.tr.rel k hlt hr;exact⟨r,RelBy.still hrr hnt⟩
   ·obtain rfl:k=s.j:=by omega
    rw[hwj]at hr;cases hr
  ·simp at hop;rcases hop with rfl|rfl<;>simp[x,y]
 ·have h1:=hsum Wk.ag;have h2:=e9 s'.c;show mt'.ag s'.c+sumTo (s.j+1) (λk=>(s'.ws k).ag)+12*s'.c+60*(X.E.n-s.rN)<s.mt.ag s.c+sumTo s.j (λk=>(s.ws k).ag)+12*s.c+60*(X.E.n-s.rN);simp only[Wk.ag]at h1 ⊢;omega
theorem Gd(O:aH T Goal X){v:World}{sl:Option (Nat×Nat)}(H:PI T Goal X s gs v t){h:Goroutine}(h0:gs[0]?=some h)(hm:bz X h s.mt)(hmt:s.mt=.go i 0 xs):bd T Goal X s gs v sl t 0:=by
 rw[hmt]at hm;obtain⟨hgl,hi⟩:=hm;cases hgl;obtain⟨e,xs',hg⟩:=FP O xs hi;have hnW:=O.nW;rcases QO (i+1) X.nW with hlt|hge
 ·refine vo O H h0 hmt (e v) (mt':=.cW (i+1) 31 xs') ⟨hg.trans ((Cb O xs' (i:=i+1) (by omega)).1 hlt),hlt⟩ rfl rfl rfl rfl rfl rfl (λ_ _ _ _ h=>by cases h) (λ_ _ h=>by cases h) (λc=>?_);rw[hmt];simp only[Mt.ag];omega
 ·have hin:i+1=X.nW:=by omega
  obtain⟨xs2,hg2⟩:=(Cb O xs' (i:=i+1) (by omega)).2 hin;refine vo O H h0 hmt (e v) (mt':=.ld 0 37 xs2) ⟨hg.trans hg2,by have:=O.nn;omega⟩ rfl rfl hin.symm rfl rfl rfl (λ_ _ _ _ h=>by cases h) (λ_ _ h=>by cases h) (λc=>?_);rw[hmt];simp only[Mt.ag];omega
theorem Gs.wQ{s':PS}{v v1:World}(O:aH T Goal X)(H:Gs T Goal X s gs v t){h1:Goroutine}(hM:bz X h1 s'.mt)(e1:s'.j=s.j)(e2:s'.ws=s.ws)(e3:s'.ow=s.ow)(e5:s'.q=s.q){u:List MemOp}(h3:∀op∈u,mR op.act)(hs:v.heap.size<=v1.heap.size)(ho:∀b,((∃r,X.E.ρ r b)\/∃i,i<s.j/\s.ow i b)->v1.heap[b]?=v.heap[b]?):Gs T Goal X s' (gs.setIfInBounds 0 h1) v1 (t++u.toArray):=by
 have hn0:=O.n0;have hdf:∀i,Deaf (t++u.toArray) i=Deaf t i:=λi=>kN t i u h3;refine⟨by simp[H.size,e1],⟨h1,by rw[Array.getElem?_setIfInBounds_self_of_lt (by rw[H.size];omega)],hM⟩,λi hi=>?_,λi x hi hn hg=>?_,λi hi=>?_⟩
 ·rw[e1]at hi;rw[hdf,e2,e3];obtain⟨x,hx,hw⟩:=H.work i hi;refine⟨x,by rw[Array.getElem?_setIfInBounds_ne (by omega)];exact hx,?_⟩;exact hw.js hs λb hb=>ho b (hb.imp id λx=>⟨i,hi,x⟩)
 ·rw[Array.getElem?_setIfInBounds_ne (by omega)]at hg;rw[hdf,e5];exact H.gY i x hi hn hg
 ·rw[hdf];exact H.above i (by simpa using hi)
theorem OB(O:aH T Goal X)(xs:Nat->Value)(hj:j<X.E.n): ∃mt',bz X (kM X.M xs X.ds j) mt'/\mt'.aY X=j+1/\mt'.shut=false/\mt'.on X=X.nW/\mt'.dr=0/\mt'.deaf=0/\ix mt'=true/\(∀k n xs ys,mt'≠.ef k n xs ys)/\(∀n xs,mt'≠.fin n xs)/\∀c c' n xs,mt'.ag c<(Mt.sd j n xs).ag c':=by
 have hn:=O.nn;have h1:=(EI X.M xs X.ds j).aN;rw[Kg,wrap_small (by omega) (by omega)]at h1;have hl:=Ba O (ko (az Pg true 9 (kM X.M xs X.ds j))) (j:=j+1) (by omega);rcases QO (j+1) X.E.n with hlt|hge
 ·refine⟨.ld (j+1) 22 _,⟨h1.trans (hl.1 hlt),hlt⟩,rfl,rfl,rfl,rfl,rfl,rfl,(λ_ _ _ _ h=>by cases h),(λ_ _ h=>by cases h),λc c' n xs=>?_⟩;simp only[Mt.ag];omega
 ·have he:j+1=X.E.n:=by omega
  refine⟨.lc 16 _,h1.trans (hl.2 he),he.symm,rfl,rfl,rfl,rfl,rfl,(λ_ _ _ _ h=>by cases h),(λ_ _ h=>by cases h),λc c' n xs=>?_⟩;simp only[Mt.ag];omega
theorem Gj(O:aH T Goal X){v:World}{sl:Option (Nat×Nat)}(H:PI T Goal X s gs v t){h:Goroutine}(h0:gs[0]?=some h)(hm:bz X h s.mt)(hmt:s.mt=.sd j 0 xs):bd T Goal X s gs v sl t 0:=by
 rw[hmt]at hm;obtain⟨hgl,hj⟩:=hm;cases hgl;have hn0:=O.n0;have b1:=O.bT;have b2:=O.cN;have b3:=O.bN;have b4:=O.cB;have b5:=O.bB;have b6:=O.wg;obtain⟨a1,a2,a3,a4⟩:=gb H.wg (by rw[hmt];rfl);rw[hmt]at a2;have a2':s.st=s.c*aV:=a2;have e:stepG Pg (0==0) (gf X.M xs X.ds j) v=.comm (gf X.M xs X.ds j) #[scase X.M.cN (X.num j) (.tuple #[])] true .send v #[]:=by
  have hc:=aE.comm (vY X.M xs X.ds j) (NK X.M xs X.ds j) (w:=v) (w':=v) (es:=#[]) ⟨rfl,rfl⟩;rw[dB,EF]at hc;unfold qP at hc;rw[O.first]at hc;exact hc
 have hz:∀fn pos,MemOp.ofEvents 0 fn pos #[]=#[]:=λfn pos=>by simp[ofEvents_eq]
 have hcN:=H.wd.cN;have hsh:s.mt.shut=false:=by rw[hmt];rfl
 have hst:s.mt.aY X=j:=by rw[hmt];rfl
 rw[hsh,hst]at hcN;have hcl:X.M.cN<v.heap.size:=by have:=H.wd.size;omega
 have hgot:=H.ac.iX;rw[hst]at hgot;have hcount:=H.ac.count;rw[hst]at hcount;have hon:s.j=X.nW:=by rw[H.ac.on,hmt];rfl
 obtain⟨mt',hM',f1,f2,f3,f4,f5,f6,f7,f8,f9⟩:=OB O xs hj;have hown:∀i b,i<s.j->s.ow i b->b≠X.M.cN:=λi b hi hb h=>by have:=(H.tr.own i b hi hb).1;omega
 have hsent:(gf X.M xs X.ds j).finishComm Pg #[scase X.M.cN (X.num j) (.tuple #[])] .send 0 undef false=kM X.M xs X.ds j:=by
  unfold kM qP;rw[O.first];rfl
 by_cases hp:partners (gs.setIfInBounds 0 ph) X.M.cN false= []
 ·
  have hroom:(s.bD.map X.num).toArray.size<X.E.n:=by simp;omega
  have hrun:=crowd_send_room (P:=Pg) (sl:=sl) h0 e hcN hroom hp;rw[hz,Rn,hsent]at hrun;have ep:(s.bD.map X.num).toArray.push (X.num j)=((s.bD++ [j]).map X.num).toArray:=by simp
  rw[ep]at hrun;obtain⟨c1,c2,c3,c4,c5,c6⟩:=oE v X.M.cN X.E.n ((s.bD++ [j]).map X.num).toArray false (j+1) s.rN false hcl;let s':PS:={s with mt:=mt',bD:=s.bD++ [j]}
  refine⟨s',_,_,_,hrun,⟨?_,?_,?_,?_,?_⟩,.inl ?_⟩
  ·refine H.gs.wQ O (s':=s') hM' rfl rfl rfl rfl (u:=[_,_]) ?_ (by rw[c1];exact AI _) ?_
   ·intro op hop;simp at hop;rcases hop with rfl|rfl<;>exact⟨by simp,by simp⟩
   ·rintro b (⟨r,hr⟩|⟨m,hm,hb'⟩)
    ·exact c3 b (by have:=(O.K.bC r b hr).2;omega)
    ·exact c3 b (hown m b hm hb')
  ·refine⟨⟨by rw[c1];exact H.wd.old.1,λb hb'=>by rw[c3 b (by omega)];exact H.wd.old.2 b hb'⟩,by rw[c1];exact H.wd.size,?_,?_,?_,?_,?_,?_,H.wd.tape,H.wd.os,H.wd.output⟩
   ·rw[c3 _ (by omega)];exact H.wd.bT
   ·rw[c3 _ (by omega)];exact H.wd.bN
   ·rw[c3 _ (by omega)];exact H.wd.bB
   ·rw[c2];show _=some (Obj.chan X.E.n ((s.bD++ [j]).map X.num).toArray mt'.shut (mt'.aY X) s.rN false);rw[f1,f2]
   ·obtain⟨sB,hB⟩:=H.wd.cB;exact⟨sB,by rw[c3 _ (by omega)];exact hB⟩
   ·rw[c3 _ (by omega)];exact H.wd.wg
  ·refine⟨by show s.j=mt'.on X;rw[f3,hon],by show mt'.aY X<=_;omega,by show s.rN+(s.bD++ [j]).length=mt'.aY X;simp;omega,λm hm=>?_,?_,λm hm=>?_,H.ac.okB,λm hm hpk=>?_,λm hm hr=>?_⟩
   ·have hm':m<mt'.aY X:=hm;rcases QO m j with hlt|hge
    ·rcases H.ac.cover m (by omega) with h|h|h
     ·exact .inl (by show m∈s.bD++ [j];simp[h])
     ·exact .inr (.inl h)
     ·exact .inr (.inr h)
    ·exact .inl (by show m∈s.bD++ [j];simp;omega)
   ·show (s.bD++ [j]).length+sumTo s.j (λk=>if (s.ws k).bk.isSome then 1 else 0)+s.bZ.length<=mt'.aY X;simp only[Q2,QH,QY];omega
   ·have hm':m∈s.bD++ [j]:=hm;simp at hm';rcases hm' with h|rfl
    ·exact H.ac.eC m h
    ·exact hj
   ·
    exfalso;obtain⟨g,hg,hW⟩:=H.gs.work m hm;rcases hW.status with⟨hx,_⟩|⟨ys,hx,rfl⟩
    ·rw[show (s.ws m).parked=true from hpk]at hx;cases hx
    ·have:(X.n0+m,0)∈partners (gs.setIfInBounds 0 ph) X.M.cN false:=by
      refine mem_partners.2 ⟨_,by rw[Array.getElem?_setIfInBounds_ne (by omega)];exact hg,?_⟩;unfold gv;rw[o7,offersAt_parked_recv];simp
     rw[hp]at this;cases this
   ·have:=(H.ac.gone m hm hr).1;rw[hsh]at this;cases this
  ·refine .opn f6 a1 ?_ a3 (λk n xs ys h=>absurd h (f7 k n xs ys));show s.st=(s.c+mt'.dr)*aV;rw[f4];exact a2'
  ·refine H.tr.still (s':=s') rfl rfl (λm hm hrl=>hrl) (by show mt'.deaf=_;rw[f5,hmt];rfl) c1 (λn xs h=>f8 n xs h) (u:=[_,_]) ?_ ?_ ?_ ?_
   ·intro op hop;simp at hop;rcases hop with rfl|rfl<;>rfl
   ·intro op hop;simp at hop;rcases hop with rfl|rfl<;>exact hcl
   ·intro op hop;simp at hop;rcases hop with rfl|rfl<;>exact⟨by simp,by simp⟩
   ·intro op hop;simp at hop;rcases hop with rfl|rfl<;>simp
  ·have:=f9 s.c s.c 0 xs;rw[<-hmt]at this;show mt'.ag s.c+sumTo s.j (λm=>(s.ws m).ag)+12*s.c+60*(X.E.n-s.rN)<s.mt.ag s.c+sumTo s.j (λm=>(s.ws m).ag)+12*s.c+60*(X.E.n-s.rN);omega
 ·
  have hall:∀m k,(m,k)∈partners (gs.setIfInBounds 0 ph) X.M.cN false->k=0/\m≠0/\∃gj zj shj,gs[m]?=some (parked gj #[rcase X.M.cN zj] shj):=by
   intro m k hmk;obtain⟨g,hg,ho⟩:=mem_partners.1 hmk;rcases getElem?_stand gs 0 m g hg with⟨_,rfl⟩|⟨hm0,hg⟩
   ·cases ho
   ·rcases tY O H.gs hg with⟨k',ys,_,_,_,rfl⟩|h'
    ·unfold gv at ho hg;rw[o7]at ho hg;rw[offersAt_parked_recv,IN rfl]at ho;exact⟨by simpa using ho,hm0,_,_,_,hg⟩
    ·rw[h']at ho;cases ho
  obtain⟨m,gj,zj,shj,d,hm0,hgm,hrun⟩:=crowd_send_meets_some (P:=Pg) (sl:=sl) h0 e hcN hp hall;obtain⟨k,ys,hk,rfl,hσ,hgk⟩: ∃k ys,k<s.j/\m=X.n0+k/\s.ws k=.cr ys/\parked gj #[rcase X.M.cN zj] shj=gv X ys:=by
   rcases tY O H.gs hgm with h|h'
   ·exact h
   ·have:=h' X.M.cN false;rw[offersAt_parked_recv,IN rfl]at this;cases this
  have hoff:=congrArg Goroutine.offers hgk;have hfc:gj.finishComm Pg #[rcase X.M.cN zj] shj 0 (X.num j) true=(fc X.p ys).finishComm Pg #[rcase X.M.cN (.int .i64 0)] (.recv true) 0 (X.num j) true:=by
   have hoff':some ((#[rcase X.M.cN zj]:Array CommCase),shj)=some ((#[rcase X.M.cN (.int .i64 0)]:Array CommCase),CommShape.recv true):=hoff;simp only[QA,QM]at hoff';rw[<-finishComm_parked Pg gj _ #[rcase X.M.cN zj] _ shj,hgk,hoff'.1,hoff'.2];unfold gv;exact finishComm_parked Pg (fc X.p ys) _ _ _ _ _ _ _
  obtain⟨hbN,_⟩:=H.ac.cr k hk (by rw[hσ];rfl);rw[hz,Rn,hsent,hfc,hbN]at hrun;have hcl':X.M.cN<(v.at d).heap.size:=hcl;obtain⟨c1,c2,c3,c4,c5,c6⟩:=oE (v.at d) X.M.cN X.E.n (([]:List Nat).map X.num).toArray false (j+1) (s.rN+1) false hcl';have k1:(v.at d).heap=v.heap:=rfl;rw[k1]at c1 c3;have hr:(s.ws k).ag=8/\(s.ws k).bk=none/\(s.ws k).cnt=1:=by rw[hσ];exact⟨rfl,rfl,rfl⟩
  let σ:Wk:=.draw 11 j (fZ ys (IntKind.i64.wrap (X.E.first+j)))
  let s':PS:={s with mt:=mt',ws:=upd s.ws k σ,rN:=s.rN+1}
  let s1:PS:={s with ws:=upd s.ws k σ,rN:=s.rN+1}
  have hsw:∀m,m≠k->upd s.ws k σ m=s.ws m:=λm hm=>upd_ne _ _ hm;have hsk:upd s.ws k σ k=σ:=upd_same _ _ _;have hrs:∀f:Wk->Nat,sumTo s.j (λm=>f (upd s.ws k σ m))+f (s.ws k)=sumTo s.j (λm=>f (s.ws m))+f σ:=λf=>sumTo_upd s.ws σ f hk;have hst8:∀b,((∃r,X.E.ρ r b)\/∃i,i<s.j/\s.ow i b)->((v.at d).setChan X.M.cN X.E.n (([]:List Nat).map X.num).toArray false (j+1) (s.rN+1) false).heap[b]?=v.heap[b]? :=by
   rintro b (⟨r,hr⟩|⟨m,hm,hb'⟩)
   ·exact c3 b (by have:=(O.K.bC r b hr).2;omega)
   ·exact c3 b (hown m b hm hb')
  refine⟨s',_,_,_,hrun,⟨?_,?_,?_,?_,?_⟩,.inl ?_⟩
  ·have hg1:=H.gs.comm O hk (s':=s1) (g1:=(fc X.p ys).finishComm Pg #[rcase X.M.cN (.int .i64 0)] (.recv true) 0 (X.num j) true) rfl hsw rfl rfl rfl (u:=[{g:=0,fn:=(gf X.M xs X.ds j).frame.fn,pos:=(gf X.M xs X.ds j).frame.place,act:=.send X.M.cN j},{g:=X.n0+k,fn:=gj.frame.fn,pos:=gj.frame.place,act:=.recv X.M.cN s.rN X.E.n},{g:=0,fn:=(gf X.M xs X.ds j).frame.fn,pos:=(gf X.M xs X.ds j).frame.place,act:=.sendDone X.M.cN j},{g:=X.n0+k,fn:=gj.frame.fn,pos:=gj.frame.place,act:=.recvDone X.M.cN s.rN}])
    (v1:=(v.at d).setChan X.M.cN X.E.n (([]:List Nat).map X.num).toArray false (j+1) (s.rN+1) false) ?_ ?_ (by rw[c1];exact AI _) hst8
   ·have hg2:=hg1.wQ O (s':=s') (h1:=kM X.M xs X.ds j) hM' rfl rfl rfl rfl (u:=[]) (λop hop=>by cases hop) (AI _) (λ_ _=>rfl);simpa using hg2
   ·intro op hop;simp at hop;rcases hop with rfl|rfl|rfl|rfl<;>exact⟨by simp,by simp⟩
   ·show fj T Goal X (s.ow k) _ _ _ (upd s.ws k σ k);rw[hsk];have hd:Deaf t (X.n0+k)=0:=by
     obtain⟨g,hg,hW⟩:=H.gs.work k hk;rw[hσ]at hW;exact hW.2
    refine⟨?_,hd,hj,rfl⟩;have hgd:=(AW X.p ys (IntKind.i64.wrap (X.E.first+j))).aN;rw[yA]at hgd;exact hgd
  ·refine⟨⟨by rw[c1];exact H.wd.old.1,λb hb'=>by rw[c3 b (by omega)];exact H.wd.old.2 b hb'⟩,by rw[c1];exact H.wd.size,?_,?_,?_,?_,?_,?_,H.wd.tape,H.wd.os,H.wd.output⟩
   ·rw[c3 _ (by omega)];exact H.wd.bT
   ·rw[c3 _ (by omega)];exact H.wd.bN
   ·rw[c3 _ (by omega)];exact H.wd.bB
   ·rw[c2];show _=some (Obj.chan X.E.n (s.bD.map X.num).toArray mt'.shut (mt'.aY X) (s.rN+1) false);rw[f1,f2,hbN]
   ·obtain⟨sB,hB⟩:=H.wd.cB;exact⟨sB,by rw[c3 _ (by omega)];exact hB⟩
   ·rw[c3 _ (by omega)];exact H.wd.wg
  ·rw[hbN]at hgot hcount;simp only[QY]at hgot hcount;refine⟨by show s.j=mt'.on X;rw[f3,hon],by show mt'.aY X<=_;omega,by show s.rN+1+s.bD.length=mt'.aY X;rw[hbN,f1];simp;omega,λi hi=>?_,?_,H.ac.eC,H.ac.okB,λi hi hpk=>?_,λi hi hr=>?_⟩
   ·have hi':i<mt'.aY X:=hi;rcases QO i j with hlt|hge
    ·rcases H.ac.cover i (by omega) with h|h|⟨k',h1,h2⟩
     ·exact .inl h
     ·exact .inr (.inl h)
     ·refine .inr (.inr ⟨k',h1,?_⟩);have:k'≠k:=λe=>by rw[e,hr.2.1]at h2;cases h2
      show (upd s.ws k σ k').bk=some i;rw[hsw k' this];exact h2
    ·obtain rfl:i=j:=by omega
     exact .inr (.inr ⟨k,hk,by show (upd s.ws k σ k).bk=some i;rw[hsk];rfl⟩)
   ·have:=hrs (λx=>if x.bk.isSome then 1 else 0);rw[hr.2.1]at this;have this:sumTo s.j (λm=>if (upd s.ws k σ m).bk.isSome then 1 else 0)+0=sumTo s.j (λm=>if (s.ws m).bk.isSome then 1 else 0)+1:=this;show s.bD.length+sumTo s.j (λm=>if (upd s.ws k σ m).bk.isSome then 1 else 0)+s.bZ.length<=mt'.aY X;rw[hbN,f1];simp only[QY];omega
   ·have hpk':(upd s.ws k σ i).parked=true:=hpk;by_cases hik:i=k
    ·subst hik;rw[hsk]at hpk';cases hpk'
    ·rw[hsw i hik]at hpk';exact⟨(H.ac.cr i hi hpk').1,f2⟩
   ·have hr':(upd s.ws k σ i).ag<=7:=hr;by_cases hik:i=k
    ·subst hik;rw[hsk]at hr';simp[σ,Wk.ag]at hr'
    ·rw[hsw i hik]at hr'
     have:=(H.ac.gone i hi hr').1;rw[hsh]at this;cases this
  ·have hcc:s'.c=s.c:=by
    have:=hrs Wk.cnt;rw[hr.2.2]at this;have this:sumTo s.j (λm=>(upd s.ws k σ m).cnt)+1=sumTo s.j (λm=>(s.ws m).cnt)+1:=this;show sumTo s.j (λm=>(upd s.ws k σ m).cnt)=sumTo s.j (λm=>(s.ws m).cnt);omega
   refine .opn f6 (λi hi=>?_) ?_ a3 (λk n xs ys h=>absurd h (f7 k n xs ys))
   ·show (upd s.ws k σ i).ag=0\/4<=(upd s.ws k σ i).ag;by_cases hik:i=k
    ·subst hik;rw[hsk];exact .inr (by simp[σ,Wk.ag])
    ·rw[hsw i hik];exact a1 i hi
   ·show s.st=(s'.c+mt'.dr)*aV;rw[f4,hcc];exact a2'
  ·refine H.tr.still (s':=s') rfl rfl (λi hi hrl=>?_) (by show mt'.deaf=_;rw[f5,hmt];rfl) c1 (λn xs h=>f8 n xs h) (u:=[_,_,_,_]) ?_ ?_ ?_ ?_
   ·have hrl':(upd s.ws k σ i).rel=true:=hrl;by_cases hik:i=k
    ·subst hik;rw[hsk]at hrl';cases hrl'
    ·rw[hsw i hik]at hrl';exact hrl'
   ·intro op hop;simp at hop;rcases hop with rfl|rfl|rfl|rfl<;>rfl
   ·intro op hop;simp at hop;rcases hop with rfl|rfl|rfl|rfl<;>exact hcl
   ·intro op hop;simp at hop;rcases hop with rfl|rfl|rfl|rfl<;>exact⟨by simp,by simp⟩
   ·intro op hop;simp at hop;rcases hop with rfl|rfl|rfl|rfl<;>simp
  ·have hcc:s'.c=s.c:=by
    have:=hrs Wk.cnt;rw[hr.2.2]at this;have this:sumTo s.j (λm=>(upd s.ws k σ m).cnt)+1=sumTo s.j (λm=>(s.ws m).cnt)+1:=this;show sumTo s.j (λm=>(upd s.ws k σ m).cnt)=sumTo s.j (λm=>(s.ws m).cnt);omega
   have h1:=hrs Wk.ag;have h2:=f9 s.c s.c 0 xs;rw[<-hmt]at h2;rw[hr.1]at h1;rw[hbN]at hgot;simp only[QY]at hgot;show mt'.ag s'.c+sumTo s.j (λm=>(upd s.ws k σ m).ag)+12*s'.c+60*(X.E.n-(s.rN+1))<s.mt.ag s.c+sumTo s.j (λm=>(s.ws m).ag)+12*s.c+60*(X.E.n-s.rN);rw[hcc];have hσr:σ.ag=60:=rfl;rw[hσr]at h1;omega
end
end
section
open Go.Conc
open Go.ConcN (upd upd_same upd_ne sumTo sumTo_upd sumTo_congr sumTo_le le_sumTo RelBy)
section
variable {L:au}{T:aO}{Goal:Frame->List Frame->World->Prop}{X:PC L}
def gS:Wk->Wk
 |.cr xs=>.woken xs
 |σ=>σ
theorem kF(σ:Wk):(gS σ).cnt=σ.cnt/\(gS σ).bk=σ.bk/\(gS σ).rel=σ.rel/\(gS σ).parked=false/\(gS σ).ag<=σ.ag+1/\((gS σ).ag<=7->σ.ag<=7)/\(σ.ag=0\/4<=σ.ag->(gS σ).ag=0\/4<=(gS σ).ag):=by
 cases σ<;>simp[gS,Wk.cnt,Wk.bk,Wk.rel,Wk.parked,Wk.ag]
theorem wS{f g:Nat->Nat}:∀{j:Nat},(∀k,k<j->f k<=g k+1)->sumTo j f<=sumTo j g+j
 |0,_=>AI _
 |j+1,h=>by
  have h1:=wS (f:=f) (g:=g) (j:=j) λk hk=>h k (by omega);have h2:=h j (by omega);simp only[sumTo];omega
theorem Pt(O:aH T Goal X){v:World}{sl:Option (Nat×Nat)}(H:PI T Goal X s gs v t){h:Goroutine}(h0:gs[0]?=some h)(hm:bz X h s.mt)(hmt:s.mt=.cl xs):bd T Goal X s gs v sl t 0:=by
 rw[hmt]at hm;have hgl:h=_:=hm;subst hgl;have hn0:=O.n0;have b1:=O.bT;have b2:=O.cN;have b3:=O.bN;have b4:=O.cB;have b5:=O.bB;have b6:=O.wg;obtain⟨a1,a2,a3,a4⟩:=gb H.wg (by rw[hmt];rfl);rw[hmt]at a2;have a2':s.st=s.c*aV:=a2;have hcN:=H.wd.cN;have hsh:s.mt.shut=false:=by rw[hmt];rfl
 have hst:s.mt.aY X=X.E.n:=by rw[hmt];rfl
 rw[hsh,hst]at hcN;have hcl:X.M.cN<v.heap.size:=by have:=H.wd.size;omega
 have hon:s.j=X.nW:=by rw[H.ac.on,hmt];rfl
 have hnW:=O.nW;let v1:World:={v with heap:=v.heap.setIfInBounds X.M.cN (.chan X.E.n (s.bD.map X.num).toArray true X.E.n s.rN false)}
 have c1:v1.heap.size=v.heap.size:=by simp[v1]
 have c2:v1.heap[X.M.cN]?=some (.chan X.E.n (s.bD.map X.num).toArray true X.E.n s.rN false):=by simp[v1,hcl]
 have c3:∀b,b≠X.M.cN->v1.heap[b]?=v.heap[b]? :=λb hb=>by simp[v1,Array.getElem?_setIfInBounds_ne (QK hb)]
 have e:=aE.value (wV X.M xs X.ds X.E.n) (IK X.M xs X.ds X.E.n X.E.n (s.bD.map X.num).toArray X.E.n s.rN false) (w:=v) (w':=v1) (es:=#[⟨.obj X.M.cN,false,true⟩,⟨.obj X.M.cN,true,true⟩]) ⟨hcN,rfl,⟨_,hcN,rfl⟩,rfl,rfl⟩;rw[L4,yE]at e;have hrun:=runT_crowd_go (P:=Pg) (sl:=sl) (i:=0) h0 (show stepG Pg (0==0) (gK X.M xs X.ds X.E.n) v=_ from e);have hown:∀i b,i<s.j->s.ow i b->b≠X.M.cN:=λi b hi hb h=>by have:=(H.tr.own i b hi hb).1;omega
 let s':PS:={s with mt:=.wd 7 xs,ws:=λk=>gS (s.ws k)}
 have hw:∀k,s'.ws k=gS (s.ws k):=λ_=>rfl;have hc:s'.c=s.c:=sumTo_congr λk _=>(kF (s.ws k)).1;have hsz:=H.gs.size;have hM':bz X (dX (gK X.M xs X.ds X.E.n) ((gK X.M xs X.ds X.E.n).frame.finish unit)) (.wd 7 xs):=by
  have h1:=(K4 X.M xs X.ds X.E.n).aN;rw[DG]at h1;exact h1.trans (Ls _ _ _).aN
 have hdf:∀i,i≠0->Deaf (t++MemOp.ofEvents 0 (gK X.M xs X.ds X.E.n).frame.fn (gK X.M xs X.ds X.E.n).frame.place #[⟨.obj X.M.cN,false,true⟩,⟨.obj X.M.cN,true,true⟩]) i=Deaf t i:=λi hi=>Deaf_other t (QK hi) _ λop hop=>ofEvents_g hop;refine⟨s',_,v1,_,hrun,⟨?_,?_,?_,?_,?_⟩,.inl ?_⟩
 ·refine⟨by simp[hsz,s'],⟨_,by rw[Array.getElem?_setIfInBounds_self_of_lt (by simp;omega)],hM'⟩,λk hk=>?_,λk g hk hkn hg=>?_,λk hk=>?_⟩
  ·rw[hdf _ (by omega),hw];obtain⟨g,hg,hW⟩:=H.gs.work k hk;have hW1:=hW.js (v2:=v1) (by rw[c1];exact AI _) (by
    rintro b (⟨r,hr⟩|hb)
    ·exact c3 b (by have:=(O.K.bC r b hr).2;omega)
    ·exact c3 b (hown k b hk hb))
   rcases hW.status with⟨hp,_⟩|⟨ys,hx,rfl⟩
   ·refine⟨g,?_,?_⟩
    ·rw[Array.getElem?_setIfInBounds_ne (by omega),Array.getElem?_map,hg];simp only[Q7];rw[hW.woken _ _ (λh=>by rw[hp]at h;cases h)]
    ·have:gS (s.ws k)=s.ws k:=by cases hσ:s.ws k<;>first|rfl|(rw[hσ]at hp;cases hp)
     rw[this];exact hW1
   ·refine⟨{gv X ys with status:=.running},?_,?_⟩
    ·rw[Array.getElem?_setIfInBounds_ne (by omega),Array.getElem?_map,hg];simp only[Q7,QA];unfold Go.Conc.woken;rw[JX,IN (by rfl)];unfold gv;rw[o7];exact again_recv_closed c2
    ·rw[hx]at hW ⊢;exact⟨rfl,hW.2⟩
  ·rw[hdf _ (by omega)];rw[Array.getElem?_setIfInBounds_ne (by omega),Array.getElem?_map]at hg;obtain⟨y,hy,rfl⟩:=Rp.1 hg;have hq:=H.gs.gY k y hk hkn hy;rw[woken_quitsD hq];exact hq
  ·simp at hk;rw[hdf k (by omega)];exact H.gs.above k hk
 ·refine⟨⟨by rw[c1];exact H.wd.old.1,λb hb'=>by rw[c3 b (by omega)];exact H.wd.old.2 b hb'⟩,by rw[c1];exact H.wd.size,?_,?_,?_,c2,?_,?_,H.wd.tape,H.wd.os,H.wd.output⟩
  ·rw[c3 _ (by omega)];exact H.wd.bT
  ·rw[c3 _ (by omega)];exact H.wd.bN
  ·rw[c3 _ (by omega)];exact H.wd.bB
  ·obtain⟨sB,hB⟩:=H.wd.cB;exact⟨sB,by rw[c3 _ (by omega)];exact hB⟩
  ·rw[c3 _ (by omega)];exact H.wd.wg
 ·have hgot:=H.ac.iX;have hcount:=H.ac.count;rw[hst]at hgot hcount;refine⟨hon,AI _,hgot,λm hm=>?_,?_,H.ac.eC,H.ac.okB,λk hk hp=>?_,λk hk hr=>?_⟩
  ·rcases H.ac.cover m (by rw[hst];exact hm) with h|h|⟨k',h1,h2⟩
   ·exact .inl h
   ·exact .inr (.inl h)
   ·exact .inr (.inr ⟨k',h1,by rw[hw,(kF _).2.1];exact h2⟩)
  ·show s.bD.length+sumTo s.j (λk=>if (s'.ws k).bk.isSome then 1 else 0)+s.bZ.length<=X.E.n;rw[sumTo_congr (g:=λk=>if (s.ws k).bk.isSome then 1 else 0) λk _=>by rw[hw,(kF _).2.1]];exact hcount
  ·rw[hw,(kF _).2.2.2.1]at hp;cases hp
  ·rw[hw]at hr
   have:=(H.ac.gone k hk ((kF _).2.2.2.2.2.1 hr)).1;rw[hsh]at this;cases this
 ·refine .opn rfl (λk hk=>?_) ?_ a3 (λk n xs ys h=>by cases h)
  ·rw[hw];exact (kF _).2.2.2.2.2.2 (a1 k hk)
  ·show s.st=(s'.c+0)*aV;rw[hc];exact a2'
 ·refine H.tr.step O (s':=s') (.inl rfl) rfl (by rw[c1];exact AI _) (λi b hi hb=>.inl hb) H.wd.size (λe he a ha=>?_) (λe he=>?_) (λk hk hr=>?_) (λe he=>?_) (by simp only[QD];rw[H.tr.d0,hmt];rfl) (λn xs h=>by cases h)
  ·simp at he;rcases he with rfl|rfl
   ·simp only[MemAct.ofEvent,MemAct.touch?,QA]at ha;subst ha;refine⟨rfl,λb hb=>?_⟩;simp only[blk,QA]at hb;subst hb;exact .inr (.inr ⟨.inr (.inl rfl),by simp,by simp⟩)
   ·simp[MemAct.ofEvent,MemAct.touch?]at ha
  ·simp at he;rw[c1];rcases he with rfl|rfl<;>exact hcl
  ·rw[hw,(kF _).2.2.1]at hr;exact um H.tr (λop hop=>ofEvents_g hop) hk (by omega) hr
  ·simp at he;rcases he with rfl|rfl<;>simp
 ·have h1:=wS (f:=λk=>(s'.ws k).ag) (g:=λk=>(s.ws k).ag) (j:=s.j) λk _=>(kF (s.ws k)).2.2.2.2.1;show (Mt.wd 7 xs).ag s'.c+sumTo s.j (λk=>(s'.ws k).ag)+12*s'.c+60*(X.E.n-s.rN)<s.mt.ag s.c+sumTo s.j (λk=>(s.ws k).ag)+12*s.c+60*(X.E.n-s.rN);rw[hc,hmt];simp only[Mt.ag];omega
theorem OP(O:aH T Goal X){v:World}{sl:Option (Nat×Nat)}(H:PI T Goal X s gs v t)(hfin:∀n xs,s.mt=.fin n xs->False){h:Goroutine}(h0:gs[0]?=some h)(hrun:h.status=.running):bd T Goal X s gs v sl t 0:=by
 obtain⟨h',h0',hm⟩:=H.gs.main;rw[h0]at h0';cases h0';cases hmt:s.mt with
 |cW i n xs=>
  cases n with
  |zero=>exact GZ O H h0 hm hmt
  |succ n=>
   rw[hmt]at hm;rcases hm.1.cF with⟨hx,_⟩|⟨m,g1,hx,hst,hgl⟩
   ·cases hx
   ·cases hx;exact eG O H h0 hst (mt':=.cW i n xs) ⟨hgl,hm.2⟩ (by rw[hmt];exact⟨λ_=>rfl,rfl,rfl,rfl,rfl,rfl,rfl,rfl,rfl,(λ_ _ _ _ hx=>by cases hx),(λ_ _ hx=>by cases hx)⟩) (by rw[hmt];rfl)
 |add i n xs=>
  cases n with
  |zero=>exact Db O H h0 hm hmt
  |succ n=>
   rw[hmt]at hm;rcases hm.1.cF with⟨hx,_⟩|⟨m,g1,hx,hst,hgl⟩
   ·cases hx
   ·cases hx;exact eG O H h0 hst (mt':=.add i n xs) ⟨hgl,hm.2⟩ (by rw[hmt];exact⟨λ_=>rfl,rfl,rfl,rfl,rfl,rfl,rfl,rfl,rfl,(λ_ _ _ _ hx=>by cases hx),(λ_ _ hx=>by cases hx)⟩) (by rw[hmt];rfl)
 |cv i n xs=>
  cases n with
  |zero=>exact FK O H h0 hm hmt
  |succ n=>
   rw[hmt]at hm;rcases hm.1.cF with⟨hx,_⟩|⟨m,g1,hx,hst,hgl⟩
   ·cases hx
   ·cases hx;exact eG O H h0 hst (mt':=.cv i n xs) ⟨hgl,hm.2⟩ (by rw[hmt];exact⟨λ_=>rfl,rfl,rfl,rfl,rfl,rfl,rfl,rfl,rfl,(λ_ _ _ _ hx=>by cases hx),(λ_ _ hx=>by cases hx)⟩) (by rw[hmt];rfl)
 |rd i xs=>exact E0 O H h0 hm hmt
 |en1 i n xs=>
  cases n with
  |zero=>exact NO O H h0 hm hmt
  |succ n=>
   rw[hmt]at hm;rcases hm.1.cF with⟨hx,_⟩|⟨m,g1,hx,hst,hgl⟩
   ·cases hx
   ·cases hx;exact eG O H h0 hst (mt':=.en1 i n xs) ⟨hgl,hm.2⟩ (by rw[hmt];exact⟨λ_=>rfl,rfl,rfl,rfl,rfl,rfl,rfl,rfl,rfl,(λ_ _ _ _ hx=>by cases hx),(λ_ _ hx=>by cases hx)⟩) (by rw[hmt];rfl)
 |en i n k xs=>
  cases n with
  |zero=>exact Gv O H h0 hm hmt
  |succ n=>
   rw[hmt]at hm;rcases hm.1.cF with⟨hx,_⟩|⟨m,g1,hx,hst,hgl⟩
   ·cases hx
   ·cases hx;exact eG O H h0 hst (mt':=.en i n k xs) ⟨hgl,hm.2⟩ (by rw[hmt];exact⟨λ_=>rfl,rfl,rfl,rfl,rfl,rfl,rfl,rfl,rfl,(λ_ _ _ _ hx=>by cases hx),(λ_ _ hx=>by cases hx)⟩) (by rw[hmt];rfl)
 |go i n xs=>
  cases n with
  |zero=>exact Gd O H h0 hm hmt
  |succ n=>
   rw[hmt]at hm;rcases hm.1.cF with⟨hx,_⟩|⟨m,g1,hx,hst,hgl⟩
   ·cases hx
   ·cases hx;exact eG O H h0 hst (mt':=.go i n xs) ⟨hgl,hm.2⟩ (by rw[hmt];exact⟨λ_=>rfl,rfl,rfl,rfl,rfl,rfl,rfl,rfl,rfl,(λ_ _ _ _ hx=>by cases hx),(λ_ _ hx=>by cases hx)⟩) (by rw[hmt];rfl)
 |ld j n xs=>
  cases n with
  |zero=>exact FT O H h0 hm hmt
  |succ n=>
   rw[hmt]at hm;rcases hm.1.cF with⟨hx,_⟩|⟨m,g1,hx,hst,hgl⟩
   ·cases hx
   ·cases hx;exact eG O H h0 hst (mt':=.ld j n xs) ⟨hgl,hm.2⟩ (by rw[hmt];exact⟨λ_=>rfl,rfl,rfl,rfl,rfl,rfl,rfl,rfl,rfl,(λ_ _ _ _ hx=>by cases hx),(λ_ _ hx=>by cases hx)⟩) (by rw[hmt];rfl)
 |sd j n xs=>
  cases n with
  |zero=>exact Gj O H h0 hm hmt
  |succ n=>
   rw[hmt]at hm;rcases hm.1.cF with⟨hx,_⟩|⟨m,g1,hx,hst,hgl⟩
   ·cases hx
   ·cases hx;exact eG O H h0 hst (mt':=.sd j n xs) ⟨hgl,hm.2⟩ (by rw[hmt];exact⟨λ_=>rfl,rfl,rfl,rfl,rfl,rfl,rfl,rfl,rfl,(λ_ _ _ _ hx=>by cases hx),(λ_ _ hx=>by cases hx)⟩) (by rw[hmt];rfl)
 |lc n xs=>
  cases n with
  |zero=>exact Nw O H h0 hm hmt
  |succ n=>
   rw[hmt]at hm;rcases aA.cF hm with⟨hx,_⟩|⟨m,g1,hx,hst,hgl⟩
   ·cases hx
   ·cases hx;exact eG O H h0 hst (mt':=.lc n xs) hgl (by rw[hmt];exact⟨λ_=>rfl,rfl,rfl,rfl,rfl,rfl,rfl,rfl,rfl,(λ_ _ _ _ hx=>by cases hx),(λ_ _ hx=>by cases hx)⟩) (by rw[hmt];rfl)
 |cl xs=>exact Pt O H h0 hm hmt
 |wd n xs=>
  cases n with
  |zero=>exact MD O H h0 hm hmt
  |succ n=>
   rw[hmt]at hm;rcases aA.cF hm with⟨hx,_⟩|⟨m,g1,hx,hst,hgl⟩
   ·cases hx
   ·cases hx;exact eG O H h0 hst (mt':=.wd n xs) hgl (by rw[hmt];exact⟨λ_=>rfl,rfl,rfl,rfl,rfl,rfl,rfl,rfl,rfl,(λ_ _ _ _ hx=>by cases hx),(λ_ _ hx=>by cases hx)⟩) (by rw[hmt];rfl)
 |wl n xs ys=>
  cases n with
  |zero=>exact DW O H h0 hm hmt
  |succ n=>
   rw[hmt]at hm;rcases aA.cF hm with⟨hx,_⟩|⟨m,g1,hx,hst,hgl⟩
   ·cases hx
   ·cases hx;exact eG O H h0 hst (mt':=.wl n xs ys) hgl (by rw[hmt];exact⟨λ_=>rfl,rfl,rfl,rfl,rfl,rfl,rfl,rfl,rfl,(λ_ _ _ _ hx=>by cases hx),(λ_ _ hx=>by cases hx)⟩) (by rw[hmt];rfl)
 |zen n xs ys=>
  cases n with
  |zero=>exact DI O H h0 hm hmt
  |succ n=>
   rw[hmt]at hm;rcases aA.cF hm with⟨hx,_⟩|⟨m,g1,hx,hst,hgl⟩
   ·cases hx
   ·cases hx;exact eG O H h0 hst (mt':=.zen n xs ys) hgl (by rw[hmt];exact⟨λ_=>rfl,rfl,rfl,rfl,rfl,rfl,rfl,rfl,rfl,(λ_ _ _ _ hx=>by cases hx),(λ_ _ hx=>by cases hx)⟩) (by rw[hmt];rfl)
 |zc n xs ys=>
  cases n with
  |zero=>exact G4 O H h0 hm hmt
  |succ n=>
   rw[hmt]at hm;rcases aA.cF hm with⟨hx,_⟩|⟨m,g1,hx,hst,hgl⟩
   ·cases hx
   ·cases hx;exact eG O H h0 hst (mt':=.zc n xs ys) hgl (by rw[hmt];exact⟨λ_=>rfl,rfl,rfl,rfl,rfl,rfl,rfl,rfl,rfl,(λ_ _ _ _ hx=>by cases hx),(λ_ _ hx=>by cases hx)⟩) (by rw[hmt];rfl)
 |za xs ys=>exact Qf O H h0 hm hmt
 |ef k n xs ys=>
  cases n with
  |zero=>exact Pc O H h0 hm hmt
  |succ n=>
   rw[hmt]at hm;rcases hm.1.cF with⟨hx,_⟩|⟨m,g1,hx,hst,hgl⟩
   ·cases hx
   ·cases hx;exact eG O H h0 hst (mt':=.ef k n xs ys) ⟨hgl,hm.2⟩ (by rw[hmt];exact⟨λ_=>rfl,rfl,rfl,rfl,rfl,rfl,rfl,rfl,rfl,(λ_ _ _ _ hx=>by cases hx;exact⟨_,rfl⟩),(λ_ _ hx=>by cases hx)⟩) (by rw[hmt];rfl)
 |hcv k n xs ys=>
  cases n with
  |zero=>exact DZ O H h0 hm hmt
  |succ n=>
   rw[hmt]at hm;rcases hm.1.cF with⟨hx,_⟩|⟨m,g1,hx,hst,hgl⟩
   ·cases hx
   ·cases hx;exact eG O H h0 hst (mt':=.hcv k n xs ys) ⟨hgl,hm.2⟩ (by rw[hmt];exact⟨λ_=>rfl,rfl,rfl,rfl,rfl,rfl,rfl,rfl,rfl,(λ_ _ _ _ hx=>by cases hx),(λ_ _ hx=>by cases hx)⟩) (by rw[hmt];rfl)
 |hwr k xs ys=>exact E3 O H h0 hm hmt
 |dh n xs ys=>
  cases n with
  |zero=>exact Dq O H h0 hm hmt
  |succ n=>
   rw[hmt]at hm;rcases aA.cF hm with⟨hx,_⟩|⟨m,g1,hx,hst,hgl⟩
   ·cases hx
   ·cases hx;exact eG O H h0 hst (mt':=.dh n xs ys) hgl (by rw[hmt];exact⟨λ_=>rfl,rfl,rfl,rfl,rfl,rfl,rfl,rfl,rfl,(λ_ _ _ _ hx=>by cases hx),(λ_ _ hx=>by cases hx)⟩) (by rw[hmt];rfl)
 |blk xs ys=>
  rw[hmt]at hm;have:h=_:=hm;rw[this]at hrun;cases hrun
 |l2 n xs ys=>
  cases n with
  |zero=>exact Ky O H h0 hm hmt
  |succ n=>
   rw[hmt]at hm;rcases aA.cF hm with⟨hx,_⟩|⟨m,g1,hx,hst,hgl⟩
   ·cases hx
   ·cases hx;exact eG O H h0 hst (mt':=.l2 n xs ys) hgl (by rw[hmt];exact⟨λ_=>rfl,rfl,rfl,rfl,rfl,rfl,rfl,rfl,rfl,(λ_ _ _ _ hx=>by cases hx),(λ_ _ hx=>by cases hx)⟩) (by rw[hmt];rfl)
 |en2 n xs ys=>
  cases n with
  |zero=>exact LF O H h0 hm hmt
  |succ n=>
   rw[hmt]at hm;rcases aA.cF hm with⟨hx,_⟩|⟨m,g1,hx,hst,hgl⟩
   ·cases hx
   ·cases hx;exact eG O H h0 hst (mt':=.en2 n xs ys) hgl (by rw[hmt];exact⟨λ_=>rfl,rfl,rfl,rfl,rfl,rfl,rfl,rfl,rfl,(λ_ _ _ _ hx=>by cases hx),(λ_ _ hx=>by cases hx)⟩) (by rw[hmt];rfl)
 |ac n xs ys=>
  cases n with
  |zero=>exact Lp O H h0 hm hmt
  |succ n=>
   rw[hmt]at hm;rcases aA.cF hm with⟨hx,_⟩|⟨m,g1,hx,hst,hgl⟩
   ·cases hx
   ·cases hx;exact eG O H h0 hst (mt':=.ac n xs ys) hgl (by rw[hmt];exact⟨λ_=>rfl,rfl,rfl,rfl,rfl,rfl,rfl,rfl,rfl,(λ_ _ _ _ hx=>by cases hx),(λ_ _ hx=>by cases hx)⟩) (by rw[hmt];rfl)
 |aq xs ys=>exact NV O H h0 hm hmt
 |fin n xs=>exact (hfin n xs hmt).elim
theorem G6(O:aH T Goal X){v:World}{sl:Option (Nat×Nat)}(H:PI T Goal X s gs v t)(hfin:∀n xs,s.mt=.fin n xs->False)(hi:gs[i]?=some g)(hg:g.status=.running):bd T Goal X s gs v sl t i:=by
 have hlt:=(Array.getElem?_eq_some_iff.1 hi).1;rw[H.gs.size]at hlt;rcases RI i with rfl|hpos
 ·exact OP O H hfin hi hg
 ·rcases QO i X.n0 with h|h
  ·exact Ev O H hfin hpos h hi hg
  ·obtain⟨k,rfl⟩: ∃k,i=X.n0+k:=⟨i-X.n0,by omega⟩
   exact Ep O H hfin (by omega) hi hg
theorem fj.runs{ow:Nat->Prop}{d:Nat}{v:World}{σ:Wk}(h:fj T Goal X ow d g v σ)(hp:σ.parked=false)(hr:σ.ag≠0):g.status=.running:=by
 cases σ with
 |load n=>exact h.1.run (sn _).2.1
 |recv n xs=>exact h.1.run (sC _ _).2.1
 |cr xs=>cases hp
 |woken xs=>rw[h.1]
 |draw n i xs=>exact h.1.run (vm _ _)
 |ops i l xs=>rw[h.1];exact yT _ _ _
 |text i l xs s=>obtain⟨_,_,Y,_,h4⟩:=h;exact h4.running
 |gZ i l xs s=>obtain⟨_,_,Y,_,h4⟩:=h;exact h4.running
 |conv n xs=>exact h.1.run (tz _ _).2.1
 |lH xs=>rw[h.1];exact vd _ _
 |cW n xs=>exact h.1.run (Bs _ _)
 |add n xs=>exact h.1.run (tX _ _).2.1
 |fa n xs=>exact h.1.run (ua _ _ _).2.1
 |bX n xs=>exact h.1.run (uv _ _ _).2.1
 |eQ n xs=>exact h.1.run (q9 _ _ _).2.1
 |quit q=>exact absurd rfl hr
theorem BP{f:Nat->Nat}:∀{j:Nat},1<=sumTo j f->∃k,k<j/\1<=f k
 |0,h=>absurd h (by simp[sumTo])
 |j+1,h=>by
  simp only[sumTo]at h;by_cases hj:1<=f j
  ·exact⟨j,by omega,hj⟩
  ·obtain⟨k,hk,h1⟩:=BP (f:=f) (j:=j) (by omega);exact⟨k,by omega,h1⟩
theorem FJ(O:aH T Goal X){v:World}(H:PI T Goal X s gs v t): ∃(i:Nat) (g:Goroutine),gs[i]?=some g/\g.status=.running:=by
 obtain⟨h,h0,hm⟩:=H.gs.main;rcases hm.status O with⟨_,hr⟩|⟨xs,ys,hmt,_⟩
 ·exact⟨0,h,h0,hr⟩
 ·have key:∀k,k<s.j->(s.ws k).ag≠0->∃(i:Nat) (g:Goroutine),gs[i]?=some g/\g.status=.running:=by
   intro k hk hr;obtain⟨g,hg,hW⟩:=H.gs.work k hk;refine⟨_,g,hg,hW.runs ?_ hr⟩;cases hp:(s.ws k).parked with
   |false=>rfl
   |true=>
    have:=(H.ac.cr k hk hp).2;rw[hmt]at this;cases this
  cases H.wg with
  |opn a1 a2 a3 a4 a5=>rw[hmt]at a1;cases a1
  |cR a1 a2 a3 a4 a5=>
   obtain⟨k,hk,h1⟩:=BP (f:=λk=>(s.ws k).cnt) a3;have h2:=Wk.uz (s.ws k);have h3:=(Wk.ud (s.ws k)).1 (by omega);exact key k hk (by omega)
  |last q a1 a2 a3 a4 a5 a6 a7=>exact key q a2 (by omega)
  |dZ a1 a2 a3 a4 a5=>rw[hmt]at a2;cases a2
  |done a1 a2 a3 a4 a5=>rw[hmt]at a2;cases a2
theorem Cj(O:aH T Goal X){v:World}(H:PI T Goal X s gs v t):∀g∈gs,awake g:=by
 intro g hg;obtain⟨i,hi,rfl⟩:=Array.mem_iff_getElem.1 hg;have hgi:gs[i]?=some gs[i]:=Array.getElem?_eq_getElem hi;rw[H.gs.size]at hi;have use:∀{st:GoStatus},gs[i].status=st->(∀t,st≠.sleeping t)->awake gs[i]:=λh1 h2 t=>by rw[h1];exact h2 t
 rcases RI i with rfl|hpos
 ·obtain⟨h,h0,hm⟩:=H.gs.main;rw[hgi]at h0;have h0:=Q0 h0;rcases hm.status O with⟨_,hr⟩|⟨xs,ys,_,hr⟩
  ·exact use (h0▸hr) (λt=>by simp)
  ·exact use (st:=.blocked) (by rw[h0,hr]) (λt=>by simp)
 ·rcases QO i X.n0 with h|h
  ·rcases (H.gs.gY i _ hpos h hgi).status with hr|hr
   ·exact use hr (λt=>by simp)
   ·exact use hr (λt=>by simp)
  ·obtain⟨k,rfl⟩: ∃k,i=X.n0+k:=⟨i-X.n0,by omega⟩
   obtain⟨g,hg,hW⟩:=H.gs.work k (by omega);rw[hgi]at hg;have hg:=Q0 hg;rcases hW.status with⟨_,hr|hr⟩|⟨ys,_,hr⟩
   ·exact use (hg▸hr) (λt=>by simp)
   ·exact use (hg▸hr) (λt=>by simp)
   ·exact use (st:=.blocked) (by rw[hg,hr];rfl) (λt=>by simp)
theorem PI.acc{v:World}(H:PI T Goal X s gs v t):Acc (kp (ky Qg Goal) 4) s.hE:=by
 refine rf 4 _ λk _ x hx=>?_;unfold PS.hE at hx;split at hx
 ·rename_i hk;obtain⟨g,hg,hW⟩:=H.gs.work k hk;cases hσ:s.ws k<;>rw[hσ]at hx hW<;>simp only[Wk.tree,QA,reduceCtorEq]at hx
  ·subst hx;obtain⟨_,_,Y,_,h4⟩:=hW;exact h4.acc
  ·subst hx;obtain⟨_,_,Y,_,h4⟩:=hW;exact h4.acc
 ·cases hx
def sT(T:aO)(Goal:Frame->List Frame->World->Prop)(X:PC L)(gs:Array Goroutine)(v:World)(sl:Option (Nat×Nat))(t:Trace):Prop:=
 ∃N s' gs' v' sl' t',runNT Pg N (crowd gs v sl) t=(.next (crowd gs' v' sl'),t')/\PI T Goal X s' gs' v' t'/\∃n xs,s'.mt=.fin n xs
theorem Di(O:aH T Goal X):∀(φ:Nat) (s:PS) (gs:Array Goroutine) (v:World) (sl:Option (Nat×Nat)) (t:Trace),PI T Goal X s gs v t->s.phi X=φ->sT T Goal X gs v sl t:=by
 intro φ;induction φ using Nat.strongRecOn with
 |_ φ ihφ=>
  have key:∀κ,Acc (kp (ky Qg Goal) 4) κ->∀(ε:Nat) (s:PS) (gs:Array Goroutine) (v:World) (sl:Option (Nat×Nat)) (t:Trace),PI T Goal X s gs v t->s.phi X=φ->s.hE=κ->s.pz X=ε->sT T Goal X gs v sl t:=by
   intro κ ha;induction ha with
   |intro κ _ ihκ=>
    intro ε;induction ε using Nat.strongRecOn with
    |_ ε ihε=>
     intro s gs v sl t H hφ hκ hε;by_cases hf: ∃n xs,s.mt=.fin n xs
     ·exact⟨0,s,gs,v,sl,t,rfl,H,hf⟩
     ·obtain⟨i,g,d,sl',hi,hg,hpick⟩:=crowd_pick (P:=Pg) (w:=v) (sl:=sl) (Cj O H) (FJ O H);obtain⟨s',gs',v',ops,hr,H',hd⟩:=G6 (sl:=sl') O (H.at d) (λn xs h=>hf ⟨n,xs,h⟩) hi hg;have hw:sT T Goal X gs' v' sl' (t++ops):=by
       rcases hd with hd|⟨hd,hk⟩|⟨hd,hk,he⟩
       ·exact ihφ _ (hφ▸hd) s' gs' v' sl' _ H' rfl
       ·exact ihκ _ (hκ▸hk) _ s' gs' v' sl' _ H' (hd.trans hφ) rfl rfl
       ·exact ihε _ (hε▸he) s' gs' v' sl' _ H' (hd.trans hφ) (hk.trans hκ) rfl
      obtain⟨N,s2,gs2,v2,sl2,t2,r1,r2,r3⟩:=hw;refine⟨N+1,s2,gs2,v2,sl2,t2,?_,r2,r3⟩;simp only[runNT,hpick,hr];exact r1
  intro s gs v sl t H hφ;exact key s.hE H.acc (s.pz X) s gs v sl t H hφ rfl rfl
end
end
section
open Go.Conc
open Go.ConcN (upd upd_same upd_ne sumTo sumTo_upd sumTo_congr sumTo_le le_sumTo RelBy)
structure Kept(Θ:Nat->Trace->Prop)(Ok:Nat->Event->Prop)(c0:Nat):Prop where
 own:∀(B B':Nat) (t:Trace) (fn:FuncId) (pos:String) (es:Array Event),Θ B t->B<=B'->(∀e∈es,Ok B' e)->Θ B' (t++MemOp.ofEvents 0 fn pos es)
 mute:∀(B i:Nat) (t:Trace) (fn:FuncId) (pos:String) (es:Array Event),0<i->Θ B t->(∀e∈es,e.mute=true)->Θ B (t++MemOp.ofEvents i fn pos es)
 recv:∀(B:Nat) (t:Trace) (fn:FuncId) (pos:String) (l:List MemAct),c0<B->Θ B t->(∀a∈l,(∃r cap,a=.recv c0 r cap)\/(∃r,a=.recvDone c0 r)\/a=.recvClosed c0)->Θ B (t++(l.map λa=>({g:=0,fn,pos,act:=a}:MemOp)).toArray)
section
variable (Θ:Nat->Trace->Prop) (n:Nat)
structure nI(h:Goroutine)(v:World)(gs:Array Goroutine)(u:World)(t:Trace)(q:Nat->Nat):Prop where
 main:gs[0]?=some h
 world: ∃d,u=v.at d
 fq:Leavers Pg t gs q
 trace:Θ v.heap.size t
 size:gs.size=n
def aS(h:Goroutine)(v:World)(h':Goroutine)(v':World):Prop:=
 ∀gs u sl t q,nI Θ n h v gs u t q->∃N gs' u' sl' t' q',runNT Pg N (crowd gs u sl) t=(.next (crowd gs' u' sl'),t')/\nI Θ n h' v' gs' u' t' q'
end
section
variable {Θ:Nat->Trace->Prop}{Ok:Nat->Event->Prop}{n c0:Nat}{h h1 h2:Goroutine}{v v1 v2:World}
theorem aS.refl(h:Goroutine)(v:World):aS Θ n h v h v:=λgs u sl t q H=>⟨0,gs,u,sl,t,q,rfl,H⟩
theorem aS.trans(a:aS Θ n h v h1 v1)(b:aS Θ n h1 v1 h2 v2):aS Θ n h v h2 v2:=by
 intro gs u sl t q H;obtain⟨N,gs1,u1,sl1,t1,q1,r1,H1⟩:=a gs u sl t q H;obtain⟨K,gs2,u2,sl2,t2,q2,r2,H2⟩:=b gs1 u1 sl1 t1 q1 H1;exact⟨N+K,gs2,u2,sl2,t2,q2,by rw[runNT_add,r1];exact r2,H2⟩
theorem aS.one(K:Kept Θ Ok c0)(hs:h.status=.running)(hstep:∀(gs:Array Goroutine) (d:Nat) (sl:Option (Nat×Nat)) (t:Trace) (q:Nat->Nat),gs.size=n->gs[0]?=some h->Leavers Pg t gs q->Θ v.heap.size t->∃gs' d' ops,runT Pg (crowd gs (v.at d) sl) 0=(.next (crowd gs' (v1.at d') sl),ops)/\gs'[0]?=some h1/\gs'.size=gs.size/\Leavers Pg (t++ops) gs' q/\Θ v1.heap.size (t++ops)):aS Θ n h v h1 v1:=by
 have key:∀(M:Nat) gs u sl t q,sumTo gs.size q<=M->nI Θ n h v gs u t q->∃N gs' u' sl' t' q',runNT Pg N (crowd gs u sl) t=(.next (crowd gs' u' sl'),t')/\nI Θ n h1 v1 gs' u' t' q':=by
  intro M;induction M with
  |zero=>
   intro gs u sl t q hM H;obtain⟨du,rfl⟩:=H.world;obtain⟨i,g,d,sl',hi,hg,hpick⟩:=crowd_pick (P:=Pg) (w:=v.at du) (sl:=sl) (ti H.fq H.main hs) ⟨0,h,H.main,hs⟩;rcases RI i with rfl|hpos
   ·obtain⟨gs',d',ops,hr,h0',hsz,hL,hT⟩:=hstep gs d sl' t q H.size H.main H.fq H.trace;exact⟨1,gs',v1.at d',sl',t++ops,q,by simp only[runNT,hpick];rw[show (v.at du).at d=v.at d from rfl,hr],⟨h0',⟨d',rfl⟩,hL,hT,by rw[hsz];exact H.size⟩⟩
   ·obtain⟨gs',k,es,hr,hs',h0',hL',hmute,hsum⟩:=uP H.fq H.main hs hi hpos hg ((v.at du).at d) sl';omega
  |succ M ih=>
   intro gs u sl t q hM H;obtain⟨du,rfl⟩:=H.world;obtain⟨i,g,d,sl',hi,hg,hpick⟩:=crowd_pick (P:=Pg) (w:=v.at du) (sl:=sl) (ti H.fq H.main hs) ⟨0,h,H.main,hs⟩;rcases RI i with rfl|hpos
   ·obtain⟨gs',d',ops,hr,h0',hsz,hL,hT⟩:=hstep gs d sl' t q H.size H.main H.fq H.trace;exact⟨1,gs',v1.at d',sl',t++ops,q,by simp only[runNT,hpick];rw[show (v.at du).at d=v.at d from rfl,hr],⟨h0',⟨d',rfl⟩,hL,hT,by rw[hsz];exact H.size⟩⟩
   ·obtain⟨gs',k,es,hr,hs',h0',hL',hmute,hsum⟩:=uP H.fq H.main hs hi hpos hg ((v.at du).at d) sl';obtain⟨N,gs2,u2,sl2,t2,q2,r1,H2⟩:=ih gs' ((v.at du).at d) sl' _ (upd q i k) (by rw[hs'];omega) ⟨h0',⟨d,rfl⟩,hL',K.mute _ i t _ _ es hpos H.trace hmute,by rw[hs'];exact H.size⟩;exact⟨N+1,gs2,u2,sl2,t2,q2,by simp only[runNT,hpick,hr];exact r1,H2⟩
 exact λgs u sl t q H=>key _ gs u sl t q (AI _) H
theorem aS.go(K:Kept Θ Ok c0)(hn:0<n)(hs:h.status=.running)(e:∀d,stepG Pg true h (v.at d)=.go h1 (v1.at d) es)(hv:v.heap.size<=v1.heap.size)(hes:∀e∈es,Ok v1.heap.size e):aS Θ n h v h1 v1:=by
 refine aS.one K hs λgs d sl t q hsz h0 hL hT=>?_;have hr:=runT_crowd_go (P:=Pg) (sl:=sl) (i:=0) h0 (show stepG Pg (0==0) h (v.at d)=_ from e d);have h0s:0<gs.size:=by omega
 exact⟨_,d,_,hr,Array.getElem?_setIfInBounds_self_of_lt (by simpa using h0s),by simp,yw hL (by omega),K.own _ _ _ _ _ _ hT hv hes⟩
theorem aS.aN(K:Kept Θ Ok c0)(hn:0<n){m:Nat}(hg:aA Pg true m h h1):aS Θ n h v h1 v:=by
 induction hg with
 |refl g=>exact .refl _ _
 |@step m g g1 g2 h1 h2 _ ih=>exact (aS.go K hn h1 (λd=>h2 _) (AI _) (λe he=>by simp at he)).trans ih
theorem aS.op(K:Kept Θ Ok c0)(hn:0<n)(ha:aE Pg true h){ds:List jL}(hf:feed Pg (aQ h) bs=some (ds,.inl (.value x)))(hm:∀d,eW ds bs (v.at d) #[] (v1.at d) es)(hv:v.heap.size<=v1.heap.size)(hse:seen Pg h.frame.fn es=es')(hes:∀e∈es',Ok v1.heap.size e):aS Θ n h v (fin h x) v1:=by
 refine aS.go K hn ha.2.1 (es:=es') (λd=>?_) hv hes;rw[<-hse];exact aE.value ha hf (hm d)
theorem aS.skip(K:Kept Θ Ok c0)(hn:0<n)(ha:aE Pg true h){ds:List jL}(hf:feed Pg (aQ h) bs=some (ds,.inl .skip))(hm:∀d,eW ds bs (v.at d) #[] (v1.at d) es)(hv:v.heap.size<=v1.heap.size)(hse:seen Pg h.frame.fn es=es')(hes:∀e∈es',Ok v1.heap.size e):aS Θ n h v (fin h undef) v1:=by
 refine aS.go K hn ha.2.1 (es:=es') (λd=>?_) hv hes;rw[<-hse];exact aE.skip ha hf (hm d)
theorem Ca{a':Goroutine}{l:List MemOp}(hL:Leavers Pg t gs q)(hl:∀op∈l,mR op.act):Leavers Pg (t++l.toArray) (gs.setIfInBounds 0 a') q:=by
 refine⟨λj x hj hx=>?_,λj hj=>?_⟩
 ·rw[Array.getElem?_setIfInBounds_ne (by omega)]at hx;rw[kN t j l hl];exact hL.old j x hj hx
 ·rw[kN t j l hl];exact hL.above j (by simpa using hj)
theorem Bo(hL:Leavers Pg t gs q)(r:Nat)(b:Bool):partners (gs.setIfInBounds 0 ph) r b= []:=by
 refine partners_nil λj g hg=>?_;rcases getElem?_stand gs 0 j g hg with⟨_,rfl⟩|⟨hj,hg⟩
 ·rfl
 ·have:=(hL.old j g (by omega) hg).status;exact offersAt_of_not_blocked (by rcases this with h|h<;>rw[h]<;>simp) r b
theorem aS.recv(K:Kept Θ Ok c0)(hn:0<n)(hs:h.status=.running)(e:∀d,stepG Pg true h (v.at d)=.comm h #[rcase c0 z] true (.recv true) (v.at d) #[]){l:List Value}{cl:Bool}{s:Nat}(hc:v.heap[c0]?=some (.chan cap (x::l).toArray cl s r false)):
  aS Θ n h v (h.finishComm Pg #[rcase c0 z] (.recv true) 0 x true) (v.setChan c0 cap l.toArray cl s (r+1) false):=by
 have hlt:c0<v.heap.size:=(Array.getElem?_eq_some_iff.1 hc).1;refine aS.one K hs λgs d sl t q hsz h0 hL hT=>?_;have hrun:=crowd_recv_buf (P:=Pg) (sl:=sl) (i:=0) h0 (show stepG Pg (0==0) h (v.at d)=_ from e d) (show (v.at d).heap[c0]?=_ from hc) (by simp) (Bo hL c0 true);have ex:(x::l).toArray.extract 1 (x::l).toArray.size=l.toArray:=by simp[RY]
 have eg:(x::l).toArray.getD 0 undef=x:=by simp
 have hz:∀fn pos,MemOp.ofEvents 0 fn pos #[]=#[]:=λfn pos=>by simp[ofEvents_eq]
 rw[ex,eg,hz,Rn]at hrun;have h0s:0<gs.size:=by omega
 refine⟨_,d,_,hrun,Array.getElem?_setIfInBounds_self_of_lt h0s,by simp,Ca hL (l:=[_,_]) ?_,?_⟩
 ·intro op hop;simp at hop;rcases hop with rfl|rfl<;>exact⟨by simp,by simp⟩
 ·have:=K.recv v.heap.size t h.frame.fn h.frame.place [.recv c0 r cap,.recvDone c0 r] hlt hT (λa ha=>by simp at ha;rcases ha with rfl|rfl;exact .inl ⟨_,_,rfl⟩;exact .inr (.inl ⟨_,rfl⟩));rw[show (v.setChan c0 cap l.toArray cl s (r+1) false).heap.size=v.heap.size by simp[World.setChan]];exact this
theorem aS.L8(K:Kept Θ Ok c0)(hn:0<n)(hs:h.status=.running)(e:∀d,stepG Pg true h (v.at d)=.comm h #[rcase c0 z] true (.recv true) (v.at d) #[]){s:Nat}(hc:v.heap[c0]?=some (.chan cap #[] true s r false)):
  aS Θ n h v (h.finishComm Pg #[rcase c0 z] (.recv true) 0 z false) v:=by
 have hlt:c0<v.heap.size:=(Array.getElem?_eq_some_iff.1 hc).1;refine aS.one K hs λgs d sl t q hsz h0 hL hT=>?_;have hrun:=crowd_recv_closed (P:=Pg) (sl:=sl) (i:=0) h0 (show stepG Pg (0==0) h (v.at d)=_ from e d) (show (v.at d).heap[c0]?=_ from hc) (Bo hL c0 true);have hz:∀fn pos,MemOp.ofEvents 0 fn pos #[]=#[]:=λfn pos=>by simp[ofEvents_eq]
 rw[hz,Rn]at hrun;have h0s:0<gs.size:=by omega
 refine⟨_,d,_,hrun,Array.getElem?_setIfInBounds_self_of_lt h0s,by simp,Ca hL (l:=[_]) ?_,?_⟩
 ·intro op hop;simp at hop;subst hop;exact⟨by simp,by simp⟩
 ·exact K.recv v.heap.size t h.frame.fn h.frame.place [.recvClosed c0] hlt hT (λa ha=>by simp at ha;subst ha;exact .inr (.inr rfl))
end
end
end Go.Proofs.YtldmcdeibiclkaaGreat.U
