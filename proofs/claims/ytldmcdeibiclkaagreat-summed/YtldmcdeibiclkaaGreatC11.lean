/-
  Toward summed_holds: THE POOL's MACHINE: a worker sends a digest; WHATEVER a worker does; a leaver slips.
-/
import Derived.Test.YtldmcdeibiclkaaGreatC10
set_option linter.unusedVariables false
set_option linter.unusedSimpArgs false
set_option maxRecDepth 100000
set_option maxHeartbeats 20000000
namespace Go.Proofs.YtldmcdeibiclkaaGreat.U
variable {xs:Nat->Value}{i j:Nat}{s':PS}{h1 g:Goroutine}{es:Array Event}{mt':Mt}{v1:World}
section
open Go.Conc
open Go.ConcN (upd upd_same upd_ne sumTo sumTo_upd sumTo_congr sumTo_le le_sumTo RelBy)
section
variable {L:au}{T:aO}{Goal:Frame->List Frame->World->Prop}{X:PC L}
theorem Wg.copy{s:PS}(H:Wg s)(e1:s'.mt=s.mt)(e2:s'.j=s.j)(e3:s'.ws=s.ws)(e4:s'.st=s.st)(e5:s'.sm=s.sm):Wg s':=by
 have hc:s'.c=s.c:=by unfold PS.c;rw[e2,e3]
 cases H with
 |opn a1 a2 a3 a4 a5=>exact .opn (by rw[e1];exact a1) (λk hk=>by rw[e3];exact a2 k (e2▸hk)) (by rw[e4,hc,e1];exact a3) (e5.trans a4) (λk n xs ys h=>by rw[hc];exact a5 k n xs ys (e1▸h))
 |cR a1 a2 a3 a4 a5=>exact .cR (by rw[e1];exact a1) (λk hk=>by rw[e3];exact a2 k (e2▸hk)) (by rw[hc];exact a3) (by rw[e4,hc];exact a4) (e5.trans a5)
 |last q a1 a2 a3 a4 a5 a6 a7=>exact .last q (by rw[e1];exact a1) (by rw[e2];exact a2) (by rw[e3];exact a3) (by rw[e3];exact a4) (λi hi hq=>by rw[e3];exact a5 i (e2▸hi) hq) (by rw[e4,e3];exact a6) (e5.trans a7)
 |dZ a1 a2 a3 a4 a5=>exact .dZ (by rw[e1];exact a1) (by rw[e1];exact a2) (λk hk=>by rw[e3];exact a3 k (e2▸hk)) (e4.trans a4) (e5.trans a5)
 |done a1 a2 a3 a4 a5=>exact .done (by rw[e1];exact a1) (by rw[e1];exact a2) (λk hk=>by rw[e3];exact a3 k (e2▸hk)) (e4.trans a4) (e5.trans a5)
theorem Dn(O:aH T Goal X){s:PS}{gs:Array Goroutine}{v:World}{sl:Option (Nat×Nat)}{t:Trace}(H:PI T Goal X s gs v t)(hfin:∀n xs,s.mt=.fin n xs->False){k:Nat}(hk:k<s.j){l:List Nat}(hσ:s.ws k=.ops i (7::l) xs):bd T Goal X s gs v sl t (X.n0+k):=by
 obtain⟨g,hg,hW⟩:=H.gs.work k hk;rw[hσ]at hW;obtain⟨rfl,hd,_,ho⟩:=hW;obtain⟨hh,_⟩:=mr ho.gB;simp only[kz,List.isEmpty_iff]at hh;subst hh;have hn0:=O.n0;have e2:=O.cN;have e6:=O.wg;have e4:=O.cB;have e1:=O.bT;have e3:=O.bN;have e5:=O.bB;have hne0:(X.n0+k==0)=false:=by simp;omega
 have x9:xs 9=.chan (some X.M.cB):=ho.d0 (by decide);have x15:xs 15=X.eP i:=ho.d6 (by decide);have hr:(s.ws k).ag=23/\(s.ws k).bk=some i/\(s.ws k).cnt=1:=by rw[hσ];exact⟨rfl,rfl,rfl⟩
 have e:stepG Pg (X.n0+k==0) (aX X.p xs [7]) v=.comm (aX X.p xs [7]) #[scase X.M.cB (X.eP i) (.tuple #[])] true .send v #[]:=by
  have hc:=aE.comm (EH X.p xs []) (M9 X.p xs []) (w:=v) (w':=v) (es:=#[]) ⟨rfl,rfl⟩;rw[dB,Dw,x9,x15]at hc;rw[hne0];exact hc
 have hz:∀fn pos,MemOp.ofEvents (X.n0+k) fn pos #[]=#[]:=λfn pos=>by simp[ofEvents_eq]
 obtain⟨sB,hcB⟩:=H.wd.cB;have hcl:X.M.cB<v.heap.size:=by have:=H.wd.size;omega
 have hjs:=yk hk (.recv 5 xs);have hcount:=H.ac.count;have hsent:=H.ac.aY;rw[hr.2.1]at hjs;have hjs':sumTo s.j (λm=>if ((upd s.ws k (.recv 5 xs)) m).bk.isSome then 1 else 0)+1=sumTo s.j (λm=>if (s.ws m).bk.isSome then 1 else 0)+0:=hjs;have hroom:(s.bZ.map X.eP).toArray.size<X.E.n:=by simp;omega
 have hrun:=crowd_send_room (P:=Pg) (sl:=sl) hg e hcB hroom (zC O H.gs (X.n0+k) X.M.cB false (.inr (by omega)));rw[hz,Rn,Gn]at hrun;have ep:(s.bZ.map X.eP).toArray.push (X.eP i)=((s.bZ++ [i]).map X.eP).toArray:=by simp
 rw[ep]at hrun;obtain⟨c1,c2,c3,c4,c5,c6⟩:=oE v X.M.cB X.E.n ((s.bZ++ [i]).map X.eP).toArray false (sB+1) 0 false hcl;have hown:∀i b,i<s.j->s.ow i b->b≠X.M.cB:=λi b hi hb h=>by have:=(H.tr.own i b hi hb).1;omega
 let s':PS:={s with ws:=upd s.ws k (.recv 5 xs),bZ:=s.bZ++ [i]}
 have hsw:∀m,m≠k->s'.ws m=s.ws m:=λm hm=>upd_ne _ _ hm;have hsk:s'.ws k=.recv 5 xs:=upd_same _ _ _;refine⟨s',_,_,_,hrun,⟨?_,?_,?_,?_,?_⟩,.inl ?_⟩
 ·refine H.gs.comm O hk (s':=s') rfl hsw rfl rfl rfl (u:=[_,_]) ?_ ?_ (by rw[c1];exact AI _) ?_
  ·intro op hop;simp at hop;rcases hop with rfl|rfl<;>exact⟨by simp,by simp⟩
  ·rw[hsk];refine⟨?_,hd⟩;have hgd:=(Kj X.p xs).aN;rw[F8]at hgd;exact hgd
  ·rintro b (⟨r,hr⟩|⟨m,hm,hb'⟩)
   ·exact c3 b (by have:=(O.K.bC r b hr).2;omega)
   ·exact c3 b (hown m b hm hb')
 ·refine⟨⟨by rw[c1];exact H.wd.old.1,λb hb'=>by rw[c3 b (by omega)];exact H.wd.old.2 b hb'⟩,by rw[c1];exact H.wd.size,?_,?_,?_,?_,⟨sB+1,c2⟩,?_,H.wd.tape,H.wd.os,H.wd.output⟩
  ·rw[c3 _ (by omega)];exact H.wd.bT
  ·rw[c3 _ (by omega)];exact H.wd.bN
  ·rw[c3 _ (by omega)];exact H.wd.bB
  ·rw[c3 _ (by omega)];exact H.wd.cN
  ·rw[c3 _ (by omega)];exact H.wd.wg
 ·refine⟨H.ac.on,H.ac.aY,H.ac.iX,λm hm=>?_,?_,H.ac.eC,λm hm=>?_,λm hm hp=>?_,λm hm hrk=>?_⟩
  ·rcases H.ac.cover m hm with h|h|⟨k',h1,h2⟩
   ·exact .inl h
   ·exact .inr (.inl (by show m∈s.bZ++ [i];simp[h]))
   ·by_cases hkk:k'=k
    ·subst hkk;rw[hr.2.1]at h2;cases h2;exact .inr (.inl (by show i∈s.bZ++ [i];simp))
    ·exact .inr (.inr ⟨k',h1,by rw[hsw k' hkk];exact h2⟩)
  ·show s.bD.length+sumTo s.j (λm=>if ((upd s.ws k (.recv 5 xs)) m).bk.isSome then 1 else 0)+(s.bZ++ [i]).length<=s.mt.aY X;simp only[Q2,QH,QY];omega
  ·have hm':m∈s.bZ++ [i]:=hm;simp at hm';rcases hm' with h|rfl
   ·exact H.ac.okB m h
   ·exact ho.lt
  ·by_cases hmk:m=k
   ·subst hmk;rw[hsk]at hp;cases hp
   ·rw[hsw m hmk]at hp;exact H.ac.cr m hm hp
  ·by_cases hmk:m=k
   ·subst hmk;rw[hsk]at hrk;simp[Wk.ag]at hrk
   ·rw[hsw m hmk]at hrk;exact H.ac.gone m hm hrk
 ·have:=H.wg.ft X hk (σ:=.recv 5 xs) (s.ow k) (by omega) (by simp[Wk.ag]) (by rw[hr.2.2];rfl) s.mt (.inl rfl);exact this.copy rfl rfl rfl rfl rfl
 ·refine H.tr.still (s':=s') rfl rfl (λm hm hrl=>?_) rfl c1 (λn xs h=>hfin n xs h) (u:=[_,_]) ?_ ?_ ?_ ?_
  ·by_cases hmk:m=k
   ·subst hmk;rw[hsk]at hrl;cases hrl
   ·rw[hsw m hmk]at hrl;exact hrl
  ·intro op hop;simp at hop;rcases hop with rfl|rfl<;>rfl
  ·intro op hop;simp at hop;rcases hop with rfl|rfl<;>exact hcl
  ·intro op hop;simp at hop;rcases hop with rfl|rfl<;>exact⟨by simp,by simp⟩
  ·intro op hop;simp at hop;rcases hop with rfl|rfl<;>simp
 ·have h1:=sumTo_upd s.ws (.recv 5 xs) Wk.ag hk;have h2:=sumTo_upd s.ws (.recv 5 xs) Wk.cnt hk;have h1':sumTo s.j (λm=>((upd s.ws k (.recv 5 xs)) m).ag)+(s.ws k).ag=sumTo s.j (λm=>(s.ws m).ag)+9:=h1;have h2':sumTo s.j (λm=>((upd s.ws k (.recv 5 xs)) m).cnt)+(s.ws k).cnt=sumTo s.j (λm=>(s.ws m).cnt)+1:=h2;have h3:s'.c=s.c:=by show sumTo s.j (λm=>((upd s.ws k (.recv 5 xs)) m).cnt)=_;unfold PS.c;omega
  show s.mt.ag s'.c+sumTo s.j (λm=>((upd s.ws k (.recv 5 xs)) m).ag)+12*s'.c+60*(X.E.n-s.rN)<s.mt.ag s.c+sumTo s.j (λm=>(s.ws m).ag)+12*s.c+60*(X.E.n-s.rN);rw[h3];omega
theorem Ep(O:aH T Goal X){s:PS}{gs:Array Goroutine}{v:World}{sl:Option (Nat×Nat)}{t:Trace}(H:PI T Goal X s gs v t)(hfin:∀n xs,s.mt=.fin n xs->False){k:Nat}(hk:k<s.j)(hg:gs[X.n0+k]?=some g)(hrun:g.status=.running):bd T Goal X s gs v sl t (X.n0+k):=by
 obtain⟨g',hg',hW⟩:=H.gs.work k hk;rw[hg]at hg';cases hg';cases hσ:s.ws k with
 |load n=>
  cases n with
  |zero=>exact KC O H hfin hk hσ
  |succ n=>
   rw[hσ]at hW;rcases hW.1.cF with⟨h,_⟩|⟨m,g1,h,hst,hgl⟩
   ·cases h
   ·cases h;exact jh O H hfin hk hg hst (σ:=.load n) (by rw[hσ];exact⟨rfl,rfl,rfl,rfl,rfl,rfl⟩) (by rw[hσ];rfl) ⟨hgl,hW.2⟩
 |recv n xs=>
  cases n with
  |zero=>exact xR O H hfin hk (.inl hσ)
  |succ n=>
   rw[hσ]at hW;rcases hW.1.cF with⟨h,_⟩|⟨m,g1,h,hst,hgl⟩
   ·cases h
   ·cases h;exact jh O H hfin hk hg hst (σ:=.recv n xs) (by rw[hσ];exact⟨rfl,rfl,rfl,rfl,rfl,rfl⟩) (by rw[hσ];rfl) ⟨hgl,hW.2⟩
 |cr xs=>rw[hσ]at hW;rw[hW.1]at hrun;cases hrun
 |woken xs=>exact xR O H hfin hk (.inr hσ)
 |draw n i xs=>
  cases n with
  |zero=>exact N8 O H hfin hk hσ
  |succ n=>
   rw[hσ]at hW;rcases hW.1.cF with⟨h,_⟩|⟨m,g1,h,hst,hgl⟩
   ·cases h
   ·cases h;exact jh O H hfin hk hg hst (σ:=.draw n i xs) (by rw[hσ];exact⟨rfl,rfl,rfl,rfl,rfl,rfl⟩) (by rw[hσ];rfl) ⟨hgl,hW.2⟩
 |ops i l xs=>
  cases l with
  |nil=>rw[hσ]at hW;exact absurd rfl hW.2.2.1
  |cons j l=>
   rw[hσ]at hW;have hh:=(mr hW.2.2.2.gB).1;match j,hh with
   |0,_=>exact nR O H hfin hk hσ (.inl rfl)
   |1,_=>exact nR O H hfin hk hσ (.inr (.inl rfl))
   |2,_=>exact nR O H hfin hk hσ (.inr (.inr (.inl rfl)))
   |3,_=>exact nR O H hfin hk hσ (.inr (.inr (.inr (.inl rfl))))
   |4,_=>exact vK O H hfin hk hσ (.inl rfl)
   |5,_=>exact vK O H hfin hk hσ (.inr rfl)
   |6,_=>exact nR O H hfin hk hσ (.inr (.inr (.inr (.inr rfl))))
   |7,_=>exact Dn O H hfin hk hσ
 |text i l xs x=>exact Au O H hfin hk (.inl hσ)
 |gZ i l xs x=>exact Au O H hfin hk (.inr hσ)
 |conv n xs=>
  cases n with
  |zero=>exact KF O H hfin hk hσ
  |succ n=>
   rw[hσ]at hW;rcases hW.1.cF with⟨h,_⟩|⟨m,g1,h,hst,hgl⟩
   ·cases h
   ·cases h;exact jh O H hfin hk hg hst (σ:=.conv n xs) (by rw[hσ];exact⟨rfl,rfl,rfl,rfl,rfl,rfl⟩) (by rw[hσ];rfl) ⟨hgl,hW.2⟩
 |lH xs=>exact GX O H hfin hk hσ
 |cW n xs=>
  cases n with
  |zero=>exact Pw O H hfin hk hσ
  |succ n=>
   rw[hσ]at hW;rcases hW.1.cF with⟨h,_⟩|⟨m,g1,h,hst,hgl⟩
   ·cases h
   ·cases h;exact jh O H hfin hk hg hst (σ:=.cW n xs) (by rw[hσ];exact⟨rfl,rfl,rfl,rfl,rfl,rfl⟩) (by rw[hσ];rfl) ⟨hgl,hW.2⟩
 |add n xs=>
  cases n with
  |zero=>exact Oh O H hfin hk hσ
  |succ n=>
   rw[hσ]at hW;rcases hW.1.cF with⟨h,_⟩|⟨m,g1,h,hst,hgl⟩
   ·cases h
   ·cases h;exact jh O H hfin hk hg hst (σ:=.add n xs) (by rw[hσ];exact⟨rfl,rfl,rfl,rfl,rfl,rfl⟩) (by rw[hσ];rfl) ⟨hgl,hW.2⟩
 |fa n xs=>
  cases n with
  |zero=>exact Pn O H hfin hk hσ
  |succ n=>
   rw[hσ]at hW;rcases hW.1.cF with⟨h,_⟩|⟨m,g1,h,hst,hgl⟩
   ·cases h
   ·cases h;exact jh O H hfin hk hg hst (σ:=.fa n xs) (by rw[hσ];exact⟨rfl,rfl,rfl,rfl,rfl,rfl⟩) (by rw[hσ];rfl) ⟨hgl,hW.2⟩
 |bX n xs=>
  cases n with
  |zero=>exact KZ O H hfin hk hσ
  |succ n=>
   rw[hσ]at hW;rcases hW.1.cF with⟨h,_⟩|⟨m,g1,h,hst,hgl⟩
   ·cases h
   ·cases h;exact jh O H hfin hk hg hst (σ:=.bX n xs) (by rw[hσ];exact⟨rfl,rfl,rfl,rfl,rfl,rfl⟩) (by rw[hσ];rfl) ⟨hgl,hW.2⟩
 |eQ n xs=>
  cases n with
  |zero=>exact H0 O H hfin hk hσ
  |succ n=>
   rw[hσ]at hW;rcases hW.1.cF with⟨h,_⟩|⟨m,g1,h,hst,hgl⟩
   ·cases h
   ·cases h;exact jh O H hfin hk hg hst (σ:=.eQ n xs) (by rw[hσ];exact⟨rfl,rfl,rfl,rfl,rfl,rfl⟩) (by rw[hσ];rfl) ⟨hgl,hW.2⟩
 |quit q=>exact Nc O H hfin hk hσ hg hrun
theorem Ev(O:aH T Goal X){s:PS}{gs:Array Goroutine}{v:World}{sl:Option (Nat×Nat)}{t:Trace}(H:PI T Goal X s gs v t)(hfin:∀n xs,s.mt=.fin n xs->False)(hi:0<i)(hin:i<X.n0)(hg:gs[i]?=some g)(hrun:g.status=.running):bd T Goal X s gs v sl t i:=by
 have hq:=H.gs.gY i g hi hin hg;cases hqi:s.q i with
 |zero=>rw[hqi]at hq;rw[hq.1]at hrun;cases hrun
 |succ q=>
  rw[hqi]at hq;rcases hq with⟨hf,_⟩|⟨_,g1,es,hm,hst,hq⟩
  ·rw[hf]at hrun;cases hrun
  have hne0:(i==0)=false:=by simp;omega
  have hrunT:=runT_crowd_go (P:=Pg) (sl:=sl) (i:=i) hg (by rw[hne0];exact hst v);obtain⟨h,h0,hM⟩:=H.gs.main;obtain⟨mt',hM',hml,_⟩:=hM.woken O g g1 v;have hfacts:=ga.facts (X:=X) hml;have hlt:i<gs.size:=(Array.getElem?_eq_some_iff.1 hg).1;have hdf:∀j,j≠i->Deaf (t++MemOp.ofEvents i g.frame.fn g.frame.place es) j=Deaf t j:=λj hj=>Deaf_other t (QK hj) _ λop hop=>ofEvents_g hop;have htn:∀op∈MemOp.ofEvents i g.frame.fn g.frame.place es,op.act.touch?=none:=λop hop=>by obtain⟨e,he,rfl⟩:=Go.Conc.mem_ofEvents hop;exact touch_mute (hm e he)
  let s':PS:={s with mt:=mt',q:=upd s.q i q}
  have hsum:sumTo X.n0 (upd s.q i q)+(q+1)=sumTo X.n0 s.q+q:=by
   have:=sumTo_upd s.q q id hin;simpa[hqi] using this
  refine⟨s',_,v,_,hrunT,⟨?_,H.wd.same rfl hfacts.2.2.2.1 hfacts.2.1 rfl rfl rfl rfl,?_,?_,?_⟩,.inr (.inr ⟨?_,rfl,?_⟩)⟩
  ·refine⟨by simp[H.gs.size,s'],⟨_,by rw[Array.getElem?_setIfInBounds_ne (by omega),Array.getElem?_map,h0];rfl,hM'⟩,λk hk=>?_,λj x hj hjn hx=>?_,λj hj=>?_⟩
   ·obtain⟨x,hx,hw⟩:=H.gs.work k hk;refine⟨x,?_,by rw[hdf _ (by omega)];exact hw⟩;rw[Array.getElem?_setIfInBounds_ne (by omega),Array.getElem?_map,hx];simp only[Q7];rw[hw.woken g g1 (λhp=>?_)];have hcn:=H.wd.cN;rw[(H.ac.cr k hk hp).2]at hcn;exact⟨_,_,_,_,_,hcn⟩
   ·by_cases hji:i=j
    ·subst hji;rw[Array.getElem?_setIfInBounds_self_of_lt (by simpa using hlt)]at hx;obtain rfl:=Q0 hx;show QuitsD Pg (upd s.q i q i) _ g1;rw[upd_same,Deaf_own];exact hq
    ·rw[Array.getElem?_setIfInBounds_ne hji,Array.getElem?_map]at hx;obtain⟨y,hy,rfl⟩:=Rp.1 hx;have hqj:=H.gs.gY j y hj hjn hy;show QuitsD Pg (upd s.q i q j) _ _;rw[woken_quitsD hqj,upd_ne _ _ (QK hji),hdf _ (QK hji)];exact hqj
   ·simp only[Rt,Array.size_map]at hj;rw[hdf j (by omega)];exact H.gs.above j hj
  ·exact⟨H.ac.on.trans hfacts.2.2.1.symm,hfacts.2.1▸H.ac.aY,H.ac.iX.trans hfacts.2.1.symm,λm hm=>H.ac.cover m (hfacts.2.1▸hm),by show _<=mt'.aY X;rw[hfacts.2.1];exact H.ac.count,H.ac.eC,H.ac.okB,λm hm hp=>⟨(H.ac.cr m hm hp).1,hfacts.2.2.2.1.trans (H.ac.cr m hm hp).2⟩,λm hm hr=>⟨hfacts.2.2.2.1.trans (H.ac.gone m hm hr).1,(H.ac.gone m hm hr).2⟩⟩
  ·obtain⟨_,_,_,_,f5,_,f7,f8,f9,_,f11,_⟩:=hfacts;cases H.wg with
   |opn a1 a2 a3 a4 a5=>exact .opn (f7.trans a1) a2 (by show s.st=(s.c+mt'.dr)*aV;rw[f5];exact a3) a4 (λk n xs ys h=>a5 k n xs ys (f11 k n xs ys h))
   |cR a1 a2 a3 a4 a5=>exact .cR (f8.trans a1) a2 a3 a4 a5
   |last q a1 a2 a3 a4 a5 a6 a7=>exact .last q (f8.trans a1) a2 a3 a4 a5 a6 a7
   |dZ a1 a2 a3 a4 a5=>exact .dZ (f8.trans a1) (f9 a2) a3 a4 a5
   |done a1 a2 a3 a4 a5=>exact .done (f7.trans a1) (f8.trans a2) a3 a4 a5
  ·refine⟨?_,H.tr.own,H.tr.apart,λk hk hr=>?_,?_,?_,λn xs h=>(hfin n xs (hfacts.2.2.2.2.2.2.2.2.2.2.2 n xs h)).elim⟩
   ·exact H.tr.tp.mute (k:=i) (λop hop=>ofEvents_g hop) htn (λop hop=>by obtain⟨e,he,rfl⟩:=Go.Conc.mem_ofEvents hop;exact low_mute (hm e he) _)
   ·obtain⟨r,hr⟩:=H.tr.rel k hk hr;exact⟨r,RelBy.still hr htn⟩
   ·refine H.tr.norel.app λop hop=>?_;obtain⟨e,he,rfl⟩:=Go.Conc.mem_ofEvents hop
    have:=hm e he;obtain⟨loc,wr,sy⟩:=e;cases loc with
    |mark m=>cases m<;>simp_all[Event.mute,MemAct.ofEvent]
    |_=>simp[Event.mute]at this
   ·rw[hdf 0 (by omega),H.tr.d0];exact hfacts.2.2.2.2.2.1.symm
  ·show mt'.ag s.c+sumTo s.j (λk=>(s.ws k).ag)+12*s.c+60*(X.E.n-s.rN)=s.mt.ag s.c+sumTo s.j (λk=>(s.ws k).ag)+12*s.c+60*(X.E.n-s.rN);rw[hfacts.1]
  ·show mt'.idle+2*sumTo s.j (λk=>(s.ws k).idle)+2*sumTo X.n0 (upd s.q i q)<s.mt.idle+2*sumTo s.j (λk=>(s.ws k).idle)+2*sumTo X.n0 s.q
   have:=hfacts.2.2.2.2.2.2.2.2.2.1;omega
end
end
section
open Go.Conc
open Go.ConcN (upd upd_same upd_ne sumTo sumTo_upd sumTo_congr sumTo_le le_sumTo RelBy)
section
variable {L:au}{T:aO}{Goal:Frame->List Frame->World->Prop}{X:PC L}
theorem xo(O:aH T Goal X)(xs:Nat->Value)(hi:i<X.nW):aA Pg true 22 (fW X.M xs X.ds X.nW i) (jy (X.mc i xs) X.ds X.M.wg):=
 (CB X.M xs X.ds ⟨O.nW,hi⟩).trans (Md _ _ _).aN
theorem Ae(O:aH T Goal X)(xs:Nat->Value)(hi:i<X.nW):aA Pg true 3 (jY (X.mc i xs) X.ds) (iC X.M xs X.ds X.nW i):=It X.M xs X.ds ⟨O.nW,hi⟩
theorem FP(O:aH T Goal X)(xs:Nat->Value)(hi:i<X.nW):(∀w,stepG Pg true (iC X.M xs X.ds X.nW i) w=.spawn (fin (iC X.M xs X.ds X.nW i) unit) (jV X.p) w #[])/\∃xs',aA Pg true 9 (fin (iC X.M xs X.ds X.nW i) unit) (fW X.M xs' X.ds X.nW ((i+1:Nat):Int)):=
 ⟨M0 X.M xs X.ds ⟨O.nW,hi⟩,F2 X.M xs X.ds ⟨O.nW,hi⟩⟩
theorem Ba(O:aH T Goal X)(xs:Nat->Value)(hj:j<=X.E.n):(j<X.E.n->aA Pg true 13 (jS X.M xs X.ds j) (kJ X.M xs X.ds j))/\(j=X.E.n->aA Pg true 7 (jS X.M xs X.ds j) (mU X.M xs X.ds X.E.n)):=by
 have _:=hj;have h1:=(Hi X.M xs X.ds j).aN;rw[Er,O.count]at h1;constructor
 ·intro h;rw[show decide ((j:Int)<(X.E.n:Int))=true by simp;omega]at h1;exact h1.trans (Dv X.M xs X.ds j).aN
 ·intro h;subst h;rw[show decide ((X.E.n:Int)<(X.E.n:Int))=false by simp]at h1;exact h1.trans (Lr X.M xs X.ds X.E.n).aN
theorem Cb(O:aH T Goal X)(xs:Nat->Value)(hi:i<=X.nW):(i<X.nW->aA Pg true 22 (fW X.M xs X.ds X.nW i) (jy (X.mc i xs) X.ds X.M.wg))/\(i=X.nW->∃xs',aA Pg true 28 (fW X.M xs X.ds X.nW i) (kJ X.M xs' X.ds (0:Nat))):=by
 have _:=hi;refine⟨λh=>xo O xs h,λh=>?_⟩;subst h;have hn:0<X.E.n:=by have:=O.nn;omega
 have key: ∃xs',aA Pg true 15 (fW X.M xs X.ds X.nW X.nW) (jS X.M xs' X.ds (0:Nat)):=by
  rcases O.nW with h|h<;>rw[h]
  ·have:=(J8 X.M xs X.ds).aN;rw[MF]at this;exact⟨_,this⟩
  ·have:=(PH X.M xs X.ds).aN;rw[LL]at this;exact⟨_,this⟩
 obtain⟨xs',h1⟩:=key;exact⟨xs',h1.trans ((Ba O xs' (QQ _)).1 hn)⟩
theorem yr(O:aH T Goal X){s:PS}{gs:Array Goroutine}{v:World}{sl:Option (Nat×Nat)}{t:Trace}(H:PI T Goal X s gs v t){h:Goroutine}(h0:gs[0]?=some h)(e:stepG Pg true h v=.go h1 v1 es)(hM:bz X h1 s'.mt)(e1:s'.j=s.j)(e2:s'.ws=s.ws)(e3:s'.ow=s.ow)(e4:s'.q=s.q)(e5:s'.bD=s.bD)(e6:s'.rN=s.rN)(e7:s'.bZ=s.bZ)(e8:s'.mt.aY X=s.mt.aY X)(e9:s'.mt.shut=s.mt.shut)(e10:s'.mt.on X=s.mt.on X)(hs:v1.heap.size=v.heap.size)(hoth:∀b,b≠X.M.wg->v1.heap[b]?=v.heap[b]?)(hwgb:v1.heap[X.M.wg]?=some (.cells #[.int .u64 s'.st,.int .u32 s'.sm] 206))(ht:v1.tape=v.tape/\v1.os=v.os/\v1.output=v.output)(hwg:Wg s')(hev:∀e∈es,∀a,(MemAct.ofEvent e).touch?=some a->a.loc.isMemory=true/\kC (fP X s') 0 a)(hlow:∀e∈es,(MemAct.ofEvent e).low v.heap.size)(hnr:∀e∈es,e.loc≠.mark (.release (bf X)))(hd:deafBehind s.mt.deaf es=s'.mt.deaf)(hacq:∀n xs,s'.mt=.fin n xs->∃q,(t++MemOp.ofEvents 0 h.frame.fn h.frame.place es).act? q=some (.mark (.acquire (bf X)))/\(t++MemOp.ofEvents 0 h.frame.fn h.frame.place es).g? q=some 0/\(t++MemOp.ofEvents 0 h.frame.fn h.frame.place es).heard q/\∀k,k<s.j->∃r,RelBy (bf X) (t++MemOp.ofEvents 0 h.frame.fn h.frame.place es) (X.n0+k) r/\r<q)(hdec:ma Goal X s' s):bd T Goal X s gs v sl t 0:=by
 have hn0:=O.n0;have b1:=O.bT;have b2:=O.cN;have b3:=O.bN;have b4:=O.cB;have b5:=O.bB;have b6:=O.wg;have hrun:=runT_crowd_go (P:=Pg) (sl:=sl) (i:=0) h0 (show stepG Pg (0==0) h v=_ from e);refine⟨s',_,v1,_,hrun,⟨?_,?_,?_,hwg,?_⟩,hdec⟩
 ·refine H.gs.Dj O hM (by rw[hs];exact AI _) ?_ ?_ e1 e2 e3 e4 _ _
  ·rintro b (⟨r,hr⟩|⟨k,hk,hb⟩)
   ·exact hoth b (by have:=(O.K.bC r b hr).2;omega)
   ·exact hoth b (by have:=(H.tr.own k b hk hb).1;omega)
  ·intro i hi hp;have hcn:=H.wd.cN;rw[(H.ac.cr i hi hp).2,<-hoth _ (by omega)]at hcn;exact⟨_,_,_,_,_,hcn⟩
 ·refine⟨⟨by rw[hs];exact H.wd.old.1,λb hb=>by rw[hoth b (by omega)];exact H.wd.old.2 b hb⟩,by rw[hs];exact H.wd.size,?_,?_,?_,?_,?_,hwgb,ht.1.trans H.wd.tape,ht.2.1.trans H.wd.os,ht.2.2.trans H.wd.output⟩
  ·rw[hoth _ (by omega)];exact H.wd.bT
  ·rw[hoth _ (by omega)];exact H.wd.bN
  ·rw[hoth _ (by omega)];exact H.wd.bB
  ·rw[hoth _ (by omega),e5,e6,e8,e9];exact H.wd.cN
  ·obtain⟨sB,h⟩:=H.wd.cB;exact⟨sB,by rw[hoth _ (by omega),e7];exact h⟩
 ·refine⟨e1.trans (H.ac.on.trans e10.symm),e8▸H.ac.aY,by rw[e5,e6,e8];exact H.ac.iX,λm hm=>?_,?_,by rw[e5];exact H.ac.eC,by rw[e7];exact H.ac.okB,λm hm hp=>?_,λm hm hr=>?_⟩
  ·rw[e5,e7,e1,e2];exact H.ac.cover m (e8▸hm)
  ·rw[e5,e7,e8,e1,e2];exact H.ac.count
  ·rw[e2]at hp;rw[e5,e9];exact H.ac.cr m (e1▸hm) hp
  ·rw[e2]at hr;rw[e5,e9];exact H.ac.gone m (e1▸hm) hr
 ·refine H.tr.step O (s':=s') (.inl rfl) e1 (by rw[hs];exact AI _) (λi b hi hb=>.inl (by rw[<-e3];exact hb)) H.wd.size hev (λe he=>by rw[hs];exact hlow e he) (λk hk hr=>?_) hnr (by simp only[QD];rw[H.tr.d0];exact hd) hacq;rw[e2]at hr;exact um H.tr (λop hop=>ofEvents_g hop) hk (by omega) hr
structure AZ(X:PC L)(mt mt':Mt):Prop where
 ag:∀c,mt'.ag c=mt.ag c
 aY:mt'.aY X=mt.aY X
 on:mt'.on X=mt.on X
 shut:mt'.shut=mt.shut
 dr:mt'.dr=mt.dr
 deaf:mt'.deaf=mt.deaf
 opn:ix mt'=ix mt
 cR:gP mt'=gP mt
 blk:jB mt'=jB mt
 ef:∀k n xs ys,mt'=.ef k n xs ys->∃n',mt=.ef k n' xs ys
 KO:∀n xs,mt'≠.fin n xs
theorem Wg.Gr{s:PS}(H:Wg s)(hm:AZ X s.mt mt'):Wg {s with mt:=mt'}:=by
 cases H with
 |opn a1 a2 a3 a4 a5=>exact .opn (hm.opn.trans a1) a2 (by show s.st=(s.c+mt'.dr)*aV;rw[hm.dr];exact a3) a4 (λk n xs ys h=>by obtain⟨n',h'⟩:=hm.ef k n xs ys h;exact a5 k n' xs ys h')
 |cR a1 a2 a3 a4 a5=>exact .cR (hm.cR.trans a1) a2 a3 a4 a5
 |last q a1 a2 a3 a4 a5 a6 a7=>exact .last q (hm.cR.trans a1) a2 a3 a4 a5 a6 a7
 |dZ a1 a2 a3 a4 a5=>exact .dZ (hm.cR.trans a1) (hm.blk.trans a2) a3 a4 a5
 |done a1 a2 a3 a4 a5=>exact .done (hm.opn.trans a1) (hm.cR.trans a2) a3 a4 a5
theorem eG(O:aH T Goal X){s:PS}{gs:Array Goroutine}{v:World}{sl:Option (Nat×Nat)}{t:Trace}(H:PI T Goal X s gs v t){h:Goroutine}(h0:gs[0]?=some h)(e:∀w,stepG Pg true h w=.go h1 w #[])(hM:bz X h1 mt')(hm:AZ X s.mt mt')(hi:mt'.idle+1=s.mt.idle):bd T Goal X s gs v sl t 0:=by
 refine yr O H (s':={s with mt:=mt'}) h0 (e v) hM rfl rfl rfl rfl rfl rfl rfl hm.aY hm.shut hm.on rfl (λ_ _=>rfl) H.wd.wg ⟨rfl,rfl,rfl⟩ (H.wg.Gr hm) (λe he=>by simp at he) (λe he=>by simp at he) (λe he=>by simp at he) hm.deaf.symm (λn xs h=>absurd h (hm.KO n xs)) (.inr (.inr ⟨?_,rfl,?_⟩))
 ·show mt'.ag s.c+sumTo s.j (λk=>(s.ws k).ag)+12*s.c+60*(X.E.n-s.rN)=s.mt.ag s.c+sumTo s.j (λk=>(s.ws k).ag)+12*s.c+60*(X.E.n-s.rN);rw[hm.ag]
 ·show mt'.idle+2*sumTo s.j (λk=>(s.ws k).idle)+2*sumTo X.n0 s.q<s.mt.idle+2*sumTo s.j (λk=>(s.ws k).idle)+2*sumTo X.n0 s.q;omega
theorem Kf{s:PS}(e1:s'.j=s.j)(e2:s'.ws=s.ws)(e6:s'.rN=s.rN)(h:s'.mt.ag s.c<s.mt.ag s.c):ma Goal X s' s:=by
 refine .inl ?_;have hc:s'.c=s.c:=by unfold PS.c;rw[e1,e2]
 unfold PS.phi;rw[hc,e1,e2,e6];omega
end
end
section
open Go.Conc
open Go.ConcN (upd upd_same upd_ne sumTo sumTo_upd sumTo_congr sumTo_le le_sumTo RelBy)
theorem Ol{c:Nat}(h:c<=3):more (c*aV:Nat)=((c+1)*aV:Nat):=by
 rcases (show c=0\/c=1\/c=2\/c=3 by omega) with rfl|rfl|rfl|rfl<;>kernel_rfl
section
variable (c:Frame) (cs:List Frame) (wg:Nat) (ys:Nat->Value){k:Nat}
theorem LK(h:2<=k/\k<=4):aT Pg true 87 (pV c cs wg (k*aV:Nat)):=by
 rcases (show k=2\/k=3\/k=4 by omega) with rfl|rfl|rfl<;>(intro w;kernel_rfl)
theorem KD(h:2<=k/\k<=4)(w:World):stepG Pg true (o5 c cs wg (k*aV:Nat)) w=.go (pn (o5 c cs wg (k*aV:Nat))) w #[aL .enable]:=by
 rcases (show k=2\/k=3\/k=4 by omega) with rfl|rfl|rfl<;>kernel_rfl
theorem DH(h:2<=k/\k<=4):aA Pg true 1 (pn (o5 c cs wg (k*aV:Nat))) (jY c cs):=by
 rcases (show k=2\/k=3\/k=4 by omega) with rfl|rfl|rfl<;>exact aA.one (by kernel_rfl) λw=>by kernel_rfl
theorem F9(h:1<=k/\k<=4):aT Pg true 48 (qg c cs wg ys (k*aV:Nat)):=by
 rcases (show k=1\/k=2\/k=3\/k=4 by omega) with rfl|rfl|rfl|rfl<;>(intro w;kernel_rfl)
theorem yC(h:1<=k/\k<=4):(lL c cs wg ys (k*aV:Nat)).frame.fn=171:=by
 rcases (show k=1\/k=2\/k=3\/k=4 by omega) with rfl|rfl|rfl|rfl<;>kernel_rfl
theorem Fi(h:1<=k/\k<=4):feed Pg (aQ (lL c cs wg ys (k*aV:Nat))) [ic,.fz false,.val (.int .u64 (k*aV:Nat))]=some ([.mk (.extern 192),.shp wg,.fz ⟨wg,0,none⟩,.ld .atomic ⟨wg,0,none⟩,.st .atomic ⟨wg,0,none⟩ (.int .u64 (k*aV+1:Nat))],.inl (.value (.bool true))):=by
 rcases (show k=1\/k=2\/k=3\/k=4 by omega) with rfl|rfl|rfl|rfl<;>kernel_rfl
theorem Dy{d:Nat}(h:1<=k/\k<=4)(hd:d<k):feed Pg (aQ (lL c cs wg ys (k*aV:Nat))) [ic,.fz false,.val (.int .u64 (d*aV:Nat))]=some ([.mk (.extern 192),.shp wg,.fz ⟨wg,0,none⟩,.ld .atomic ⟨wg,0,none⟩],.inl (.value (.bool false))):=by
 rcases (show (k=1/\d=0)\/(k=2/\d=0)\/(k=2/\d=1)\/(k=3/\d=0)\/(k=3/\d=1)\/(k=3/\d=2)\/(k=4/\d=0)\/(k=4/\d=1)\/(k=4/\d=2)\/(k=4/\d=3) by omega) with⟨rfl,rfl⟩|⟨rfl,rfl⟩|⟨rfl,rfl⟩|⟨rfl,rfl⟩|⟨rfl,rfl⟩|⟨rfl,rfl⟩|⟨rfl,rfl⟩|⟨rfl,rfl⟩|⟨rfl,rfl⟩|⟨rfl,rfl⟩<;>kernel_rfl
theorem Ll(h:1<=k/\k<=4): ∃ys',aA Pg true (9+16) (AJ c cs wg ys (k*aV:Nat)) (nF c cs wg ys'):=by
 refine⟨rn (az Pg true 9 (AJ c cs wg ys (k*aV:Nat))),?_⟩;rcases (show k=1\/k=2\/k=3\/k=4 by omega) with rfl|rfl|rfl|rfl<;>exact (nB (λw=>by kernel_rfl) (by kernel_rfl)).trans (xE _ _ _ _).aN
theorem Nb(h:1<=k/\k<=4):aT Pg true 19 (yX c cs wg ys (k*aV:Nat)):=by
 rcases (show k=1\/k=2\/k=3\/k=4 by omega) with rfl|rfl|rfl|rfl<;>(intro w;kernel_rfl)
theorem Jd(h:1<=k/\k<=4):feed Pg (aQ (qw c cs wg ys (k*aV:Nat))) [ic,ic]=some ([.shp wg,.shp wg],.inl (.value (iZ wg))):=by
 rcases (show k=1\/k=2\/k=3\/k=4 by omega) with rfl|rfl|rfl|rfl<;>kernel_rfl
theorem CX(h:1<=k/\k<=4)(w:World):stepG Pg true (nJ c cs wg ys (k*aV:Nat)) w=.go (fin (nJ c cs wg ys (k*aV:Nat)) unit) w #[aL (.write ⟨wg,1,none⟩)]:=by
 rcases (show k=1\/k=2\/k=3\/k=4 by omega) with rfl|rfl|rfl|rfl<;>kernel_rfl
theorem Nv(h:1<=k/\k<=4): ∃ys',aA Pg true 23 (fin (nJ c cs wg ys (k*aV:Nat)) unit) (ig c cs wg ys'):=by
 refine⟨rn (az Pg true 23 (fin (nJ c cs wg ys (k*aV:Nat)) unit)),?_⟩;rcases (show k=1\/k=2\/k=3\/k=4 by omega) with rfl|rfl|rfl|rfl<;>exact (nB (λw=>by kernel_rfl) (by kernel_rfl))
end
section
variable {L:au}{T:aO}{Goal:Frame->List Frame->World->Prop}{X:PC L}
def mV(X:PC L)(e:Event):Prop:=(∃o wr,e=⟨.cell ⟨X.M.wg,o,none⟩,wr,true⟩)\/e=aL .disable\/e=aL .enable\/(∃o,e=aL (.read ⟨X.M.wg,o,none⟩))\/(∃o,e=aL (.write ⟨X.M.wg,o,none⟩))\/e=aL (.acquire (bf X))\/e=⟨.cell ⟨X.M.bN,0,none⟩,false,false⟩
theorem ET(O:aH T Goal X){B:Nat}(hB:X.M.wg<B)(h:∀e∈es,mV X e):
  (∀e∈es,∀a,(MemAct.ofEvent e).touch?=some a->a.loc.isMemory=true/\kC (fP X s') 0 a)/\(∀e∈es,(MemAct.ofEvent e).low B)/\∀e∈es,e.loc≠.mark (.release (bf X)):=by
 have b3:=O.bN;have b6:=O.wg;refine⟨λe he a ha=>?_,λe he=>?_,λe he=>?_⟩
 ·rcases h e he with⟨o,wr,rfl⟩|rfl|rfl|⟨o,rfl⟩|⟨o,rfl⟩|rfl|rfl
  ·simp only[MemAct.ofEvent,MemAct.touch?,QA]at ha;subst ha;refine⟨rfl,λb hb=>?_⟩;simp only[blk,QA]at hb;subst hb;exact .inr (.inr ⟨.inl rfl,by simp,by simp⟩)
  ·simp[aL,MemAct.ofEvent,MemAct.touch?]at ha
  ·simp[aL,MemAct.ofEvent,MemAct.touch?]at ha
  ·simp only[aL,MemAct.ofEvent,MemAct.touch?,QA]at ha;subst ha;refine⟨rfl,λb hb=>?_⟩;simp only[blk,QA]at hb;subst hb;exact .inr (.inr ⟨.inl rfl,by simp,λ_=>rfl⟩)
  ·simp only[aL,MemAct.ofEvent,MemAct.touch?,QA]at ha;subst ha;refine⟨rfl,λb hb=>?_⟩;simp only[blk,QA]at hb;subst hb;exact .inr (.inr ⟨.inl rfl,by simp,λ_=>rfl⟩)
  ·simp[aL,MemAct.ofEvent,MemAct.touch?]at ha
  ·exact rI O s' 0 X.M.bN (.inr (.inl rfl)) _ (by simp) a ha
 ·rcases h e he with⟨o,wr,rfl⟩|rfl|rfl|⟨o,rfl⟩|⟨o,rfl⟩|rfl|rfl
  ·exact kY hB _ _
  ·trivial
  ·trivial
  ·exact hB
  ·exact hB
  ·exact hB
  ·exact kY (show X.M.bN<B by omega) _ _
 ·rcases h e he with⟨o,wr,rfl⟩|rfl|rfl|⟨o,rfl⟩|⟨o,rfl⟩|rfl|rfl<;>simp[aL]
theorem dc(O:aH T Goal X){s:PS}{gs:Array Goroutine}{v:World}{sl:Option (Nat×Nat)}{t:Trace}(H:PI T Goal X s gs v t){h:Goroutine}(h0:gs[0]?=some h)(e:stepG Pg true h v=.go h1 v1 es)(mt':Mt)(st sm:Nat)(hM:bz X h1 mt')(same:mt'.aY X=s.mt.aY X/\mt'.shut=s.mt.shut/\mt'.on X=s.mt.on X)(hv:(v1=v/\st=s.st/\sm=s.sm)\/(v1=v.setCell ⟨X.M.wg,0,none⟩ (.int .u64 st)/\sm=s.sm)\/(v1=v.setCell ⟨X.M.wg,1,none⟩ (.int .u32 sm)/\st=s.st))(hwg:Wg {s with mt:=mt',st:=st,sm:=sm})(hes:∀e∈es,mV X e)(hd:deafBehind s.mt.deaf es=mt'.deaf)(hacq:(∀n xs,mt'≠.fin n xs)\/(nt s/\s.mt.deaf=0/\es=#[aL (.acquire (bf X))]))(hdec:mt'.ag s.c<s.mt.ag s.c\/(mt'.ag s.c=s.mt.ag s.c/\mt'.idle<s.mt.idle)):bd T Goal X s gs v sl t 0:=by
 obtain⟨p1,p2,p3⟩:=ET O (s':={s with mt:=mt',st:=st,sm:=sm}) H.wd.size hes;have hw:v1.heap.size=v.heap.size/\(∀b,b≠X.M.wg->v1.heap[b]?=v.heap[b]?)/\v1.heap[X.M.wg]?=some (.cells #[.int .u64 st,.int .u32 sm] 206)/\(v1.tape=v.tape/\v1.os=v.os/\v1.output=v.output):=by
  rcases hv with⟨rfl,rfl,rfl⟩|⟨rfl,rfl⟩|⟨rfl,rfl⟩
  ·exact⟨rfl,λ_ _=>rfl,H.wd.wg,rfl,rfl,rfl⟩
  ·exact⟨(iP v X.M.wg 0 _).1,(iP v X.M.wg 0 _).2,H.wd.re st,rfl,rfl,rfl⟩
  ·exact⟨(iP v X.M.wg 1 _).1,(iP v X.M.wg 1 _).2,H.wd.uX sm,rfl,rfl,rfl⟩
 refine yr O H (s':={s with mt:=mt',st:=st,sm:=sm}) h0 e hM rfl rfl rfl rfl rfl rfl rfl same.1 same.2.1 same.2.2 hw.1 hw.2.1 hw.2.2.1 hw.2.2.2 hwg p1 p2 p3 hd (λn xs hf=>?_) ?_
 ·rcases hacq with hn|⟨ha,hdf,rfl⟩
  ·exact absurd hf (hn n xs)
  ·have eo:MemOp.ofEvents 0 h.frame.fn h.frame.place #[aL (.acquire (bf X))]=#[{g:=0,fn:=h.frame.fn,pos:=h.frame.place,act:=.mark (.acquire (bf X))}]:=by simp[ofEvents_eq,aL,MemAct.ofEvent]
   rw[eo];refine⟨t.size,by simp[Trace.act?],by simp[Trace.g?],⟨0,by simp[Trace.g?],by rw[deaf_old (AI _)];exact H.tr.d0.trans hdf⟩,λk hk=>?_⟩;obtain⟨r,hr⟩:=H.tr.rel k hk (by
    have:=ha k hk;cases hσ:s.ws k<;>rw[hσ]at this<;>simp[Wk.ag]at this<;>rfl)
   have hlt:r<t.size:=by
    have:=hr.g;unfold Trace.g? at this;obtain⟨z,hz,_⟩:=Rp.1 this;exact lt_size_of_getElem? hz
   exact⟨r,RelBy.still hr λop hop=>by simp at hop;rw[hop];rfl,hlt⟩
 ·rcases hdec with h|⟨h,h'⟩
  ·exact Kf rfl rfl rfl h
  ·refine .inr (.inr ⟨?_,rfl,?_⟩)
   ·show mt'.ag s.c+sumTo s.j (λk=>(s.ws k).ag)+12*s.c+60*(X.E.n-s.rN)=s.mt.ag s.c+sumTo s.j (λk=>(s.ws k).ag)+12*s.c+60*(X.E.n-s.rN);rw[h]
   ·show mt'.idle+2*sumTo s.j (λk=>(s.ws k).idle)+2*sumTo X.n0 s.q<s.mt.idle+2*sumTo s.j (λk=>(s.ws k).idle)+2*sumTo X.n0 s.q;omega
end
end
section
open Go.Conc
open Go.ConcN (upd upd_same upd_ne sumTo sumTo_upd sumTo_congr sumTo_le le_sumTo RelBy)
section
variable {L:au}{T:aO}{Goal:Frame->List Frame->World->Prop}{X:PC L}
theorem Wd.A8{s:PS}{v:World}(H:Wd X s v):v.cell? ⟨X.M.bN,0,none⟩=some (.chan (some X.M.cN)):=by simp[World.cell?,H.bN]
theorem xQ{mt:Mt}(h:ix mt=true):gP mt=false:=by cases mt<;>first|rfl|cases h
theorem gb{s:PS}(H:Wg s)(h:ix s.mt=true):mx s/\s.st=(s.c+s.mt.dr)*aV/\s.sm=0/\∀k n xs ys,s.mt=.ef k n xs ys->s.c<=k:=by
 have hr:=xQ h;cases H with
 |opn a1 a2 a3 a4 a5=>exact⟨a2,a3,a4,a5⟩
 |cR a1 a2 a3 a4 a5=>rw[hr]at a1;cases a1
 |last q a1 a2 a3 a4 a5 a6 a7=>rw[hr]at a1;cases a1
 |dZ a1 a2 a3 a4 a5=>rw[hr]at a1;cases a1
 |done a1 a2 a3 a4 a5=>rw[h]at a1;cases a1
theorem j2{s:PS}(H:Wg s)(h:ix s.mt=false)(h':gP s.mt=false):nt s/\s.st=0/\s.sm=0:=by
 cases H with
 |opn a1 a2 a3 a4 a5=>rw[h]at a1;cases a1
 |cR a1 a2 a3 a4 a5=>rw[h']at a1;cases a1
 |last q a1 a2 a3 a4 a5 a6 a7=>rw[h']at a1;cases a1
 |dZ a1 a2 a3 a4 a5=>rw[h']at a1;cases a1
 |done a1 a2 a3 a4 a5=>exact⟨a3,a4,a5⟩
theorem Wg.sF{s:PS}(H:Wg s)(h:gP s.mt=true)(h':gP mt'=true)(hb:s.sm=1->jB mt'=false):Wg {s with mt:=mt',st:=s.st,sm:=s.sm}:=by
 cases H with
 |opn a1 a2 a3 a4 a5=>rw[xQ a1]at h;cases h
 |cR a1 a2 a3 a4 a5=>exact .cR h' a2 a3 a4 a5
 |last q a1 a2 a3 a4 a5 a6 a7=>exact .last q h' a2 a3 a4 a5 a6 a7
 |dZ a1 a2 a3 a4 a5=>exact .dZ h' (hb a5) a3 a4 a5
 |done a1 a2 a3 a4 a5=>rw[h]at a2;cases a2
theorem D4{s:PS}(h1:mx s)(h0:s.c=0):nt s:=λk hk=>by
 rcases h1 k hk with h|h
 ·exact h
 ·have:=(Wk.ud (s.ws k)).2 h;have hle:(s.ws k).cnt<=s.c:=le_sumTo (f:=λi=>(s.ws i).cnt) hk;omega
section
variable {s:PS}{gs:Array Goroutine}{v:World}{sl:Option (Nat×Nat)}{t:Trace}{h:Goroutine}
theorem GZ(O:aH T Goal X)(H:PI T Goal X s gs v t)(h0:gs[0]?=some h)(hm:bz X h s.mt)(hmt:s.mt=.cW i 0 xs):bd T Goal X s gs v sl t 0:=by
 rw[hmt]at hm;obtain⟨hgl,hi⟩:=hm;cases hgl;obtain⟨a1,a2,a3,a4⟩:=gb H.wg (by rw[hmt];rfl);rw[hmt]at a2;exact dc O H h0 (Dh _ _ _ v) (.add i 34 xs) s.st s.sm ⟨E5 _ _ _,hi⟩ (by rw[hmt];exact⟨rfl,rfl,rfl⟩) (.inl ⟨rfl,rfl,rfl⟩) (.opn rfl a1 a2 a3 (λk n xs ys h=>by cases h)) (λe he=>by simp at he;exact .inr (.inl he)) (by rw[hmt];rfl) (.inl (λn xs h=>by cases h)) (.inl (by rw[hmt];simp[Mt.ag]))
theorem Db(O:aH T Goal X)(H:PI T Goal X s gs v t)(h0:gs[0]?=some h)(hm:bz X h s.mt)(hmt:s.mt=.add i 0 xs):bd T Goal X s gs v sl t 0:=by
 rw[hmt]at hm;obtain⟨hgl,hi⟩:=hm;cases hgl;obtain⟨a1,a2,a3,a4⟩:=gb H.wg (by rw[hmt];rfl);rw[hmt]at a2;have hcj:s.c<=1*s.j:=sumTo_le λi _=>Wk.uz _;have hj:s.j=i:=by rw[H.ac.on,hmt];rfl
 have hnW:=O.nW;have a2':s.st=s.c*aV:=a2;have hst:more s.st=((s.c+1)*aV:Nat):=by rw[a2'];exact Ol (by omega)
 have e:=aE.value (Am (X.mc i xs) X.ds X.M.wg) (P2 _ _ _ s.st) (w:=v) (w':=v.setCell ⟨X.M.wg,0,none⟩ (.int .u64 (more s.st))) (es:=#[aL (.extern 189),⟨.cell (bf X),false,true⟩,⟨.cell (bf X),true,true⟩])
   ⟨H.wd.cell0,by simp,by simp,⟨_,H.wd.cell0⟩,H.wd.frozen 0,rfl,rfl⟩
 rw[DJ,hst]at e;have hes:∀e∈(#[⟨.cell (bf X),false,true⟩,⟨.cell (bf X),true,true⟩]:Array Event),mV X e:=λe he=>by simp at he;rcases he with rfl|rfl<;>exact .inl ⟨0,_,rfl⟩
 by_cases hc:s.c=0
 ·refine dc O H h0 e (.cv i 52 xs) ((s.c+1)*aV) s.sm ⟨?_,hi⟩ (by rw[hmt];exact⟨rfl,rfl,rfl⟩) (.inr (.inl ⟨rfl,rfl⟩)) (.opn rfl a1 rfl a3 (λk n xs ys h=>by cases h)) hes (by rw[hmt];rfl) (.inl (λn xs h=>by cases h)) (.inl (by rw[hmt];simp[Mt.ag]))
  have:=(Gk (X.mc i xs) X.ds X.M.wg).aN;rw[hc];exact this
 ·refine dc O H h0 e (.en i 87 (s.c+1) xs) ((s.c+1)*aV) s.sm ⟨(LK (X.mc i xs) X.ds X.M.wg ⟨by omega,by omega⟩).aN,hi,by omega,by omega⟩ (by rw[hmt];exact⟨rfl,rfl,rfl⟩) (.inr (.inl ⟨rfl,rfl⟩)) (.opn rfl a1 rfl a3 (λk n xs ys h=>by cases h)) hes (by rw[hmt];rfl) (.inl (λn xs h=>by cases h)) (.inl (by rw[hmt];simp[Mt.ag]))
theorem FK(O:aH T Goal X)(H:PI T Goal X s gs v t)(h0:gs[0]?=some h)(hm:bz X h s.mt)(hmt:s.mt=.cv i 0 xs):bd T Goal X s gs v sl t 0:=by
 rw[hmt]at hm;obtain⟨hgl,hi⟩:=hm;cases hgl;obtain⟨a1,a2,a3,a4⟩:=gb H.wg (by rw[hmt];rfl);rw[hmt]at a2;have e:=aE.value (As (X.mc i xs) X.ds X.M.wg) (II _ _ _) (w:=v) (w':=v) (es:=#[]) ⟨H.wd.shape,H.wd.shape,rfl,rfl⟩;rw[dB]at e;exact dc O H h0 e (.rd i xs) s.st s.sm ⟨rfl,hi⟩ (by rw[hmt];exact⟨rfl,rfl,rfl⟩) (.inl ⟨rfl,rfl,rfl⟩) (.opn rfl a1 a2 a3 (λk n xs ys h=>by cases h)) (λe he=>by simp at he) (by rw[hmt];rfl) (.inl (λn xs h=>by cases h)) (.inl (by rw[hmt];simp[Mt.ag]))
theorem E0(O:aH T Goal X)(H:PI T Goal X s gs v t)(h0:gs[0]?=some h)(hm:bz X h s.mt)(hmt:s.mt=.rd i xs):bd T Goal X s gs v sl t 0:=by
 rw[hmt]at hm;obtain⟨rfl,hi⟩:=hm;obtain⟨a1,a2,a3,a4⟩:=gb H.wg (by rw[hmt];rfl);rw[hmt]at a2;exact dc O H h0 (Kr _ _ _ v) (.en1 i 39 xs) s.st s.sm ⟨(Pq _ _ _).aN,hi⟩ (by rw[hmt];exact⟨rfl,rfl,rfl⟩) (.inl ⟨rfl,rfl,rfl⟩) (.opn rfl a1 a2 a3 (λk n xs ys h=>by cases h)) (λe he=>by simp at he;exact .inr (.inr (.inr (.inl ⟨1,he⟩)))) (by rw[hmt];rfl) (.inl (λn xs h=>by cases h)) (.inl (by rw[hmt];simp[Mt.ag]))
theorem NO(O:aH T Goal X)(H:PI T Goal X s gs v t)(h0:gs[0]?=some h)(hm:bz X h s.mt)(hmt:s.mt=.en1 i 0 xs):bd T Goal X s gs v sl t 0:=by
 rw[hmt]at hm;obtain⟨hgl,hi⟩:=hm;cases hgl;obtain⟨a1,a2,a3,a4⟩:=gb H.wg (by rw[hmt];rfl);rw[hmt]at a2;exact dc O H h0 (C8 _ _ _ v) (.go i 4 xs) s.st s.sm ⟨(CJ _ _ _).trans (Ae O xs hi),hi⟩ (by rw[hmt];exact⟨rfl,rfl,rfl⟩) (.inl ⟨rfl,rfl,rfl⟩) (.opn rfl a1 a2 a3 (λk n xs ys h=>by cases h)) (λe he=>by simp at he;exact .inr (.inr (.inl he))) (by rw[hmt];rfl) (.inl (λn xs h=>by cases h)) (.inl (by rw[hmt];simp[Mt.ag]))
theorem Gv(O:aH T Goal X)(H:PI T Goal X s gs v t)(h0:gs[0]?=some h)(hm:bz X h s.mt){k:Nat}(hmt:s.mt=.en i 0 k xs):bd T Goal X s gs v sl t 0:=by
 rw[hmt]at hm;obtain⟨hgl,hi,hk⟩:=hm;cases hgl;obtain⟨a1,a2,a3,a4⟩:=gb H.wg (by rw[hmt];rfl);rw[hmt]at a2;exact dc O H h0 (KD _ _ _ hk v) (.go i 4 xs) s.st s.sm ⟨(DH _ _ _ hk).trans (Ae O xs hi),hi⟩ (by rw[hmt];exact⟨rfl,rfl,rfl⟩) (.inl ⟨rfl,rfl,rfl⟩) (.opn rfl a1 a2 a3 (λk n xs ys h=>by cases h)) (λe he=>by simp at he;exact .inr (.inr (.inl he))) (by rw[hmt];rfl) (.inl (λn xs h=>by cases h)) (.inl (by rw[hmt];simp[Mt.ag]))
theorem FT(O:aH T Goal X)(H:PI T Goal X s gs v t)(h0:gs[0]?=some h)(hm:bz X h s.mt)(hmt:s.mt=.ld j 0 xs):bd T Goal X s gs v sl t 0:=by
 rw[hmt]at hm;obtain⟨hgl,hi⟩:=hm;cases hgl;obtain⟨a1,a2,a3,a4⟩:=gb H.wg (by rw[hmt];rfl);rw[hmt]at a2;have e:=aE.value (A4 X.M xs X.ds j) (MS X.M xs X.ds j (.chan (some X.M.cN))) (w:=v) (w':=v) (es:=#[⟨.cell ⟨X.M.bN,0,none⟩,false,false⟩]) ⟨H.wd.A8,rfl,rfl⟩;rw[I2,pq]at e;exact dc O H h0 e (.sd j 3 xs) s.st s.sm ⟨(PE _ _ _ _).aN,hi⟩ (by rw[hmt];exact⟨rfl,rfl,rfl⟩) (.inl ⟨rfl,rfl,rfl⟩) (.opn rfl a1 a2 a3 (λk n xs ys h=>by cases h)) (λe he=>by simp at he;exact .inr (.inr (.inr (.inr (.inr (.inr he)))))) (by rw[hmt];rfl) (.inl (λn xs h=>by cases h)) (.inl (by rw[hmt];simp[Mt.ag]))
theorem Nw(O:aH T Goal X)(H:PI T Goal X s gs v t)(h0:gs[0]?=some h)(hm:bz X h s.mt)(hmt:s.mt=.lc 0 xs):bd T Goal X s gs v sl t 0:=by
 rw[hmt]at hm;have hgl:aA Pg true 0 h _:=hm;cases hgl;obtain⟨a1,a2,a3,a4⟩:=gb H.wg (by rw[hmt];rfl);rw[hmt]at a2;have e:=aE.value (wH X.M xs X.ds X.E.n) (D6 X.M xs X.ds X.E.n (.chan (some X.M.cN))) (w:=v) (w':=v) (es:=#[⟨.cell ⟨X.M.bN,0,none⟩,false,false⟩]) ⟨H.wd.A8,rfl,rfl⟩;rw[Js,pq]at e;exact dc O H h0 e (.cl xs) s.st s.sm rfl (by rw[hmt];exact⟨rfl,rfl,rfl⟩) (.inl ⟨rfl,rfl,rfl⟩) (.opn rfl a1 a2 a3 (λk n xs ys h=>by cases h)) (λe he=>by simp at he;exact .inr (.inr (.inr (.inr (.inr (.inr he)))))) (by rw[hmt];rfl) (.inl (λn xs h=>by cases h)) (.inl (by rw[hmt];simp[Mt.ag]))
theorem MD(O:aH T Goal X)(H:PI T Goal X s gs v t)(h0:gs[0]?=some h)(hm:bz X h s.mt)(hmt:s.mt=.wd 0 xs):bd T Goal X s gs v sl t 0:=by
 rw[hmt]at hm;have hgl:aA Pg true 0 h _:=hm;cases hgl;obtain⟨a1,a2,a3,a4⟩:=gb H.wg (by rw[hmt];rfl);rw[hmt]at a2;have h1:=(F3 (X.wc xs) X.ds X.M.wg).aN;rw[Ia]at h1;exact dc O H h0 (Jr _ _ _ v) (.wl 19 xs _) s.st s.sm (h1.trans (xE _ _ _ _).aN) (by rw[hmt];exact⟨rfl,rfl,rfl⟩) (.inl ⟨rfl,rfl,rfl⟩) (.opn rfl a1 a2 a3 (λk n xs ys h=>by cases h)) (λe he=>by simp at he;exact .inr (.inl he)) (by rw[hmt];rfl) (.inl (λn xs h=>by cases h)) (.inl (by rw[hmt];simp[Mt.ag]))
theorem DW(O:aH T Goal X)(H:PI T Goal X s gs v t)(h0:gs[0]?=some h)(hm:bz X h s.mt){ys:Nat->Value}(hmt:s.mt=.wl 0 xs ys):bd T Goal X s gs v sl t 0:=by
 rw[hmt]at hm;have hgl:aA Pg true 0 h _:=hm;cases hgl;obtain⟨a1,a2,a3,a4⟩:=gb H.wg (by rw[hmt];rfl);rw[hmt]at a2;have a2':s.st=s.c*aV:=a2;have hcb:=xq O H;have e:=aE.value (zN (X.wc xs) X.ds X.M.wg ys) (Co _ _ _ _ s.st) (w:=v) (w':=v) (es:=#[aL (.extern 190),⟨.cell (bf X),false,true⟩]) ⟨H.wd.cell0,rfl,rfl⟩;rw[Jc]at e;have hes:∀e∈(#[⟨.cell (bf X),false,true⟩]:Array Event),mV X e:=λe he=>by simp at he;subst he;exact .inl ⟨0,_,rfl⟩
 by_cases hc:s.c=0
 ·refine dc O H h0 e (.zen 31 xs ys) s.st s.sm ?_ (by rw[hmt];exact⟨rfl,rfl,rfl⟩) (.inl ⟨rfl,rfl,rfl⟩) (.done rfl rfl (D4 a1 hc) (by show s.st=0;rw[a2',hc];rfl) a3) hes (by rw[hmt];rfl) (.inl (λn xs h=>by cases h)) (.inl (by rw[hmt];simp[Mt.ag]))
  have:=(PF (X.wc xs) X.ds X.M.wg ys).aN;rw[a2',hc];exact this
 ·refine dc O H h0 e (.ef s.c 48 xs ys) s.st s.sm ⟨?_,by omega,by omega⟩ (by rw[hmt];exact⟨rfl,rfl,rfl⟩) (.inl ⟨rfl,rfl,rfl⟩) (.opn rfl a1 a2' a3 (λk n xs ys h=>by cases h;exact AI _)) hes (by rw[hmt];rfl) (.inl (λn xs h=>by cases h)) (.inl (by rw[hmt];simp[Mt.ag]));rw[a2'];exact (F9 (X.wc xs) X.ds X.M.wg ys ⟨by omega,by omega⟩).aN
theorem DI(O:aH T Goal X)(H:PI T Goal X s gs v t)(h0:gs[0]?=some h)(hm:bz X h s.mt){ys:Nat->Value}(hmt:s.mt=.zen 0 xs ys):bd T Goal X s gs v sl t 0:=by
 rw[hmt]at hm;have hgl:aA Pg true 0 h _:=hm;cases hgl;obtain⟨a1,a2,a3⟩:=j2 H.wg (by rw[hmt];rfl) (by rw[hmt];rfl);exact dc O H h0 (Ix _ _ _ _ v) (.zc 3 xs ys) s.st s.sm (Cg _ _ _ _).aN (by rw[hmt];exact⟨rfl,rfl,rfl⟩) (.inl ⟨rfl,rfl,rfl⟩) (.done rfl rfl a1 a2 a3) (λe he=>by simp at he;exact .inr (.inr (.inl he))) (by rw[hmt];rfl) (.inl (λn xs h=>by cases h)) (.inl (by rw[hmt];simp[Mt.ag]))
theorem G4(O:aH T Goal X)(H:PI T Goal X s gs v t)(h0:gs[0]?=some h)(hm:bz X h s.mt){ys:Nat->Value}(hmt:s.mt=.zc 0 xs ys):bd T Goal X s gs v sl t 0:=by
 rw[hmt]at hm;have hgl:aA Pg true 0 h _:=hm;cases hgl;obtain⟨a1,a2,a3⟩:=j2 H.wg (by rw[hmt];rfl) (by rw[hmt];rfl);have e:=aE.value (vt (X.wc xs) X.ds X.M.wg ys) (Cs _ _ _ _) (w:=v) (w':=v) (es:=#[]) ⟨H.wd.shape,H.wd.shape,rfl,rfl⟩;rw[dB]at e;exact dc O H h0 e (.za xs ys) s.st s.sm rfl (by rw[hmt];exact⟨rfl,rfl,rfl⟩) (.inl ⟨rfl,rfl,rfl⟩) (.done rfl rfl a1 a2 a3) (λe he=>by simp at he) (by rw[hmt];rfl) (.inl (λn xs h=>by cases h)) (.inl (by rw[hmt];simp[Mt.ag]))
theorem Qf(O:aH T Goal X)(H:PI T Goal X s gs v t)(h0:gs[0]?=some h)(hm:bz X h s.mt){ys:Nat->Value}(hmt:s.mt=.za xs ys):bd T Goal X s gs v sl t 0:=by
 rw[hmt]at hm;have hgl:h=_:=hm;subst hgl;obtain⟨a1,a2,a3⟩:=j2 H.wg (by rw[hmt];rfl) (by rw[hmt];rfl);have h1:=(Oj (X.wc xs) X.ds X.M.wg ys).aN;rw[Oy]at h1;exact dc O H h0 (Lv _ _ _ _ v) (.fin 23 xs) s.st s.sm (h1.trans (xI X.M xs X.ds X.E.n).aN) (by rw[hmt];exact⟨rfl,rfl,rfl⟩) (.inl ⟨rfl,rfl,rfl⟩) (.done rfl rfl a1 a2 a3) (λe he=>by simp at he;exact .inr (.inr (.inr (.inr (.inr (.inl he)))))) (by rw[hmt];rfl) (.inr ⟨a1,by rw[hmt];rfl,rfl⟩) (.inl (by rw[hmt];simp[Mt.ag]))
theorem Pc(O:aH T Goal X)(H:PI T Goal X s gs v t)(h0:gs[0]?=some h)(hm:bz X h s.mt){k:Nat}{ys:Nat->Value}(hmt:s.mt=.ef k 0 xs ys):bd T Goal X s gs v sl t 0:=by
 rw[hmt]at hm;obtain⟨hgl,hk⟩:=hm;cases hgl;obtain⟨a1,a2,a3,a4⟩:=gb H.wg (by rw[hmt];rfl);rw[hmt]at a2;have a2':s.st=s.c*aV:=a2;have hck:=a4 _ _ _ _ hmt;by_cases hc:s.c=k
 ·subst hc;have hc0:=H.wd.cell0;rw[a2']at hc0;have e:=aE.value (ux (X.wc xs) X.ds X.M.wg ys hk) (Fi _ _ _ _ hk) (w:=v) (w':=v.setCell ⟨X.M.wg,0,none⟩ (.int .u64 (s.c*aV+1:Nat))) (es:=#[aL (.extern 192),⟨.cell (bf X),false,true⟩,⟨.cell (bf X),true,true⟩])
   ⟨H.wd.shape,H.wd.frozen 0,hc0,by simp,by simp,⟨_,H.wd.cell0⟩,H.wd.frozen 0,rfl,rfl⟩
  rw[yC _ _ _ _ hk,(AE _).1]at e;have hes:∀e∈(#[⟨.cell (bf X),false,true⟩,⟨.cell (bf X),true,true⟩]:Array Event),mV X e:=λe he=>by simp at he;rcases he with rfl|rfl<;>exact .inl ⟨0,_,rfl⟩
  exact dc O H h0 e (.hcv s.c 19 xs ys) (s.c*aV+1) s.sm ⟨(Nb (X.wc xs) X.ds X.M.wg ys hk).aN,hk⟩ (by rw[hmt];exact⟨rfl,rfl,rfl⟩) (.inr (.inl ⟨rfl,rfl⟩)) (.cR rfl a1 hk.1 rfl a3) hes (by rw[hmt];rfl) (.inl (λn xs h=>by cases h)) (.inl (by rw[hmt];simp[Mt.ag]))
 ·have hc0:=H.wd.cell0;rw[a2']at hc0;have e:=aE.value (ux (X.wc xs) X.ds X.M.wg ys hk) (Dy _ _ _ _ hk (d:=s.c) (by omega)) (w:=v) (w':=v) (es:=#[aL (.extern 192),⟨.cell (bf X),false,true⟩])
   ⟨H.wd.shape,H.wd.frozen 0,hc0,rfl,rfl⟩
  rw[yC _ _ _ _ hk,(AE _).2]at e;have hes:∀e∈(#[⟨.cell (bf X),false,true⟩]:Array Event),mV X e:=λe he=>by simp at he;subst he;exact .inl ⟨0,_,rfl⟩
  obtain⟨ys',hg⟩:=Ll (X.wc xs) X.ds X.M.wg ys hk;exact dc O H h0 e (.wl 25 xs ys') s.st s.sm hg (by rw[hmt];exact⟨rfl,rfl,rfl⟩) (.inl ⟨rfl,rfl,rfl⟩) (.opn rfl a1 a2' a3 (λk n xs ys h=>by cases h)) hes (by rw[hmt];rfl) (.inl (λn xs h=>by cases h)) (.inl (by rw[hmt];simp[Mt.ag,QK hc]))
theorem DZ(O:aH T Goal X)(H:PI T Goal X s gs v t)(h0:gs[0]?=some h)(hm:bz X h s.mt){k:Nat}{ys:Nat->Value}(hmt:s.mt=.hcv k 0 xs ys):bd T Goal X s gs v sl t 0:=by
 rw[hmt]at hm;obtain⟨hgl,hk⟩:=hm;cases hgl;have e:=aE.value (AK (X.wc xs) X.ds X.M.wg ys hk) (Jd _ _ _ _ hk) (w:=v) (w':=v) (es:=#[]) ⟨H.wd.shape,H.wd.shape,rfl,rfl⟩;rw[dB]at e;exact dc O H h0 e (.hwr k xs ys) s.st s.sm ⟨rfl,hk⟩ (by rw[hmt];exact⟨rfl,rfl,rfl⟩) (.inl ⟨rfl,rfl,rfl⟩) (H.wg.sF (by rw[hmt];rfl) rfl (λ_=>rfl)) (λe he=>by simp at he) (by rw[hmt];rfl) (.inl (λn xs h=>by cases h)) (.inl (by rw[hmt];simp[Mt.ag]))
theorem E3(O:aH T Goal X)(H:PI T Goal X s gs v t)(h0:gs[0]?=some h)(hm:bz X h s.mt){k:Nat}{ys:Nat->Value}(hmt:s.mt=.hwr k xs ys):bd T Goal X s gs v sl t 0:=by
 rw[hmt]at hm;obtain⟨rfl,hk⟩:=hm;obtain⟨ys',hg⟩:=Nv (X.wc xs) X.ds X.M.wg ys hk;exact dc O H h0 (CX _ _ _ _ hk v) (.dh 23 xs ys') s.st s.sm hg (by rw[hmt];exact⟨rfl,rfl,rfl⟩) (.inl ⟨rfl,rfl,rfl⟩) (H.wg.sF (by rw[hmt];rfl) rfl (λ_=>rfl)) (λe he=>by simp at he;exact .inr (.inr (.inr (.inr (.inl ⟨1,he⟩))))) (by rw[hmt];rfl) (.inl (λn xs h=>by cases h)) (.inl (by rw[hmt];simp[Mt.ag]))
theorem Dq(O:aH T Goal X)(H:PI T Goal X s gs v t)(h0:gs[0]?=some h)(hm:bz X h s.mt){ys:Nat->Value}(hmt:s.mt=.dh 0 xs ys):bd T Goal X s gs v sl t 0:=by
 rw[hmt]at hm;have hgl:aA Pg true 0 h _:=hm;cases hgl;have hsm:s.sm=0\/(s.sm=1/\nt s/\s.st=0):=by
  cases H.wg with
  |opn a1 a2 a3 a4 a5=>exact .inl a4
  |cR a1 a2 a3 a4 a5=>exact .inl a5
  |last q a1 a2 a3 a4 a5 a6 a7=>exact .inl a7
  |dZ a1 a2 a3 a4 a5=>exact .inr ⟨a5,a3,a4⟩
  |done a1 a2 a3 a4 a5=>exact .inl a5
 have hc1:=H.wd.uU;have hfn:(ig (X.wc xs) X.ds X.M.wg ys).frame.fn=130:=rfl;rcases hsm with hsm|⟨hsm,hq,hst⟩
 ·rw[hsm]at hc1;have e:=aE.blocked (sN (X.wc xs) X.ds X.M.wg ys) (Dz _ _ _ _) (w:=v) (w':=v) (es:=#[aL (.extern 173),aL .disable,⟨.cell ⟨X.M.wg,1,none⟩,false,true⟩]) ⟨hc1,rfl,rfl⟩;rw[dB]at e;exact dc O H h0 e (.blk xs ys) s.st s.sm rfl (by rw[hmt];exact⟨rfl,rfl,rfl⟩) (.inl ⟨rfl,rfl,rfl⟩) (H.wg.sF (by rw[hmt];rfl) rfl (λh=>by rw[hsm]at h;cases h)) (λe he=>by simp at he) (by rw[hmt];rfl) (.inl (λn xs h=>by cases h)) (.inr (by rw[hmt];exact⟨rfl,by simp[Mt.idle]⟩))
 ·rw[hsm]at hc1;have e:=aE.value (sN (X.wc xs) X.ds X.M.wg ys) (F1 _ _ _ _) (w:=v) (w':=v.setCell ⟨X.M.wg,1,none⟩ (.int .u32 (0:Nat))) (es:=#[aL (.extern 173),aL .disable,⟨.cell ⟨X.M.wg,1,none⟩,false,true⟩,⟨.cell ⟨X.M.wg,1,none⟩,true,true⟩,aL .enable]) ⟨hc1,by simp,by simp,⟨_,hc1⟩,H.wd.frozen 1,rfl,rfl⟩;rw[hfn,(Ex _).1]at e;exact dc O H h0 e (.l2 16 xs ys) s.st 0 (Me _ _ _ _).aN (by rw[hmt];exact⟨rfl,rfl,rfl⟩) (.inr (.inr ⟨rfl,rfl⟩)) (.done rfl rfl hq hst rfl) (λe he=>by
   simp at he;rcases he with rfl|rfl|rfl|rfl
   ·exact .inr (.inl rfl)
   ·exact .inl ⟨1,_,rfl⟩
   ·exact .inl ⟨1,_,rfl⟩
   ·exact .inr (.inr (.inl rfl))) (by rw[hmt];rfl) (.inl (λn xs h=>by cases h)) (.inl (by rw[hmt];simp[Mt.ag]))
theorem Ky(O:aH T Goal X)(H:PI T Goal X s gs v t)(h0:gs[0]?=some h)(hm:bz X h s.mt){ys:Nat->Value}(hmt:s.mt=.l2 0 xs ys):bd T Goal X s gs v sl t 0:=by
 rw[hmt]at hm;have hgl:aA Pg true 0 h _:=hm;cases hgl;obtain⟨a1,a2,a3⟩:=j2 H.wg (by rw[hmt];rfl) (by rw[hmt];rfl);have hc0:=H.wd.cell0;rw[a2]at hc0;have e:=aE.value (AX (X.wc xs) X.ds X.M.wg ys) (G8 _ _ _ _) (w:=v) (w':=v) (es:=#[aL (.extern 190),⟨.cell (bf X),false,true⟩]) ⟨hc0,rfl,rfl⟩;rw[MJ]at e;exact dc O H h0 e (.en2 11 xs ys) s.st s.sm (Iy _ _ _ _).aN (by rw[hmt];exact⟨rfl,rfl,rfl⟩) (.inl ⟨rfl,rfl,rfl⟩) (.done rfl rfl a1 a2 a3) (λe he=>by simp at he;subst he;exact .inl ⟨0,_,rfl⟩) (by rw[hmt];rfl) (.inl (λn xs h=>by cases h)) (.inl (by rw[hmt];simp[Mt.ag]))
theorem LF(O:aH T Goal X)(H:PI T Goal X s gs v t)(h0:gs[0]?=some h)(hm:bz X h s.mt){ys:Nat->Value}(hmt:s.mt=.en2 0 xs ys):bd T Goal X s gs v sl t 0:=by
 rw[hmt]at hm;have hgl:aA Pg true 0 h _:=hm;cases hgl;obtain⟨a1,a2,a3⟩:=j2 H.wg (by rw[hmt];rfl) (by rw[hmt];rfl);exact dc O H h0 (Jq _ _ _ _ v) (.ac 3 xs ys) s.st s.sm (EK _ _ _ _).aN (by rw[hmt];exact⟨rfl,rfl,rfl⟩) (.inl ⟨rfl,rfl,rfl⟩) (.done rfl rfl a1 a2 a3) (λe he=>by simp at he;exact .inr (.inr (.inl he))) (by rw[hmt];rfl) (.inl (λn xs h=>by cases h)) (.inl (by rw[hmt];simp[Mt.ag]))
theorem Lp(O:aH T Goal X)(H:PI T Goal X s gs v t)(h0:gs[0]?=some h)(hm:bz X h s.mt){ys:Nat->Value}(hmt:s.mt=.ac 0 xs ys):bd T Goal X s gs v sl t 0:=by
 rw[hmt]at hm;have hgl:aA Pg true 0 h _:=hm;cases hgl;obtain⟨a1,a2,a3⟩:=j2 H.wg (by rw[hmt];rfl) (by rw[hmt];rfl);have e:=aE.value (zP (X.wc xs) X.ds X.M.wg ys) (MT _ _ _ _) (w:=v) (w':=v) (es:=#[]) ⟨H.wd.shape,H.wd.shape,rfl,rfl⟩;rw[dB]at e;exact dc O H h0 e (.aq xs ys) s.st s.sm rfl (by rw[hmt];exact⟨rfl,rfl,rfl⟩) (.inl ⟨rfl,rfl,rfl⟩) (.done rfl rfl a1 a2 a3) (λe he=>by simp at he) (by rw[hmt];rfl) (.inl (λn xs h=>by cases h)) (.inl (by rw[hmt];simp[Mt.ag]))
theorem NV(O:aH T Goal X)(H:PI T Goal X s gs v t)(h0:gs[0]?=some h)(hm:bz X h s.mt){ys:Nat->Value}(hmt:s.mt=.aq xs ys):bd T Goal X s gs v sl t 0:=by
 rw[hmt]at hm;have hgl:h=_:=hm;subst hgl;obtain⟨a1,a2,a3⟩:=j2 H.wg (by rw[hmt];rfl) (by rw[hmt];rfl);have h1:=(Lk (X.wc xs) X.ds X.M.wg ys).aN;rw[LR]at h1;exact dc O H h0 (Pr _ _ _ _ v) (.fin 13 xs) s.st s.sm (h1.trans (xI X.M xs X.ds X.E.n).aN) (by rw[hmt];exact⟨rfl,rfl,rfl⟩) (.inl ⟨rfl,rfl,rfl⟩) (.done rfl rfl a1 a2 a3) (λe he=>by simp at he;exact .inr (.inr (.inr (.inr (.inr (.inl he)))))) (by rw[hmt];rfl) (.inr ⟨a1,by rw[hmt];rfl,rfl⟩) (.inl (by rw[hmt];simp[Mt.ag]))
end
end
end
end Go.Proofs.YtldmcdeibiclkaaGreat.U
