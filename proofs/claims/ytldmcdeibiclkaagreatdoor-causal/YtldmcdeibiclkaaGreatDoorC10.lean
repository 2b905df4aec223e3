/-
  Toward causal_holds: THE POOL's MACHINE: a worker from its start to its calls.
-/
import Derived.Test.YtldmcdeibiclkaaGreatDoorC09
set_option linter.unusedVariables false
set_option linter.unusedSimpArgs false
set_option maxRecDepth 100000
set_option maxHeartbeats 20000000
namespace Go.Proofs.YtldmcdeibiclkaaGreatDoor.U
section
open Go.Conc
open Go.ConcN (upd upd_same upd_ne sumTo sumTo_upd sumTo_congr RelBy)
section
variable {L:aB} {T:aT} {Goal:Frame->List Frame->World->Prop} {X:PC L}
theorem Ac.wk{s:PS}(H:Ac X s){k:Nat}{σ:Wk}(ow:Nat->Prop)(hj:σ.bJ=(s.ws k).bJ)(hp:σ.parked=true->s.bZ= []/\s.mt.shut=false)(hg:σ.ah<=7->s.mt.shut=true/\s.bZ= []):∀mt',jh s.mt mt'->Ac X (s.wk mt' k σ ow):=by
 intro mt' hm
 obtain⟨_,f2,f3,f4,_⟩:=hm.facts (X:=X)
 have hws:∀i,((s.wk mt' k σ ow).ws i).bJ=(s.ws i).bJ:=λi=>by
  by_cases hi:i=k
  ·subst hi;rw[(s.fc mt' i σ ow).1];exact hj
  ·rw[(s.gW mt' σ ow hi).1]
 refine⟨H.on.trans f3.symm,f2 ▸ H.bu,(H.kQ).trans f2.symm,λi hi=>?_,?_,H.ew,H.okB,λi hi hpp=>?_,λi hi hr=>?_⟩
 ·rcases H.cover i (f2 ▸ hi) with h|h|⟨k',h1,h2⟩
  ·exact .inl h
  ·exact .inr (.inl h)
  ·exact .inr (.inr ⟨k',h1,(hws k').trans h2⟩)
 ·have e:sumTo s.j (λi=>if ((s.wk mt' k σ ow).ws i).bJ.isSome then 1 else 0)=sumTo s.j (λi=>if (s.ws i).bJ.isSome then 1 else 0):=sumTo_congr λi _=>by rw[hws i]
  show s.bZ.length+sumTo s.j (λi=>if ((s.wk mt' k σ ow).ws i).bJ.isSome then 1 else 0)+s.cX.length<=mt'.bu X
  rw[e,f2]
  exact H.count
 ·by_cases hik:i=k
  ·subst hik
   rw[(s.fc mt' i σ ow).1] at hpp
   exact⟨(hp hpp).1,f4.trans (hp hpp).2⟩
  ·rw[(s.gW mt' σ ow hik).1] at hpp
   have:=H.dh i hi hpp
   exact⟨this.1,f4.trans this.2⟩
 ·by_cases hik:i=k
  ·subst hik
   rw[(s.fc mt' i σ ow).1] at hr
   exact⟨f4.trans (hg hr).1,(hg hr).2⟩
  ·rw[(s.gW mt' σ ow hik).1] at hr
   have:=H.gone i hi hr
   exact⟨f4.trans this.1,this.2⟩
theorem Wg.ie(X:PC L){s:PS}(H:Wg s){k:Nat}(hk:k< s.j){σ:Wk}(ow:Nat->Prop)(h1:4<=(s.ws k).ah)(h2:4<=σ.ah)(hc:σ.cnt=(s.ws k).cnt):∀mt',jh s.mt mt'->Wg {s.wk mt' k σ ow with st:=s.st,sm:=s.sm}:=by
 intro mt' hm
 obtain⟨_,_,_,_,f5,_,f7,f8,f9,_,f11,_⟩:=hm.facts (X:=X)
 have hcc:(s.wk mt' k σ ow).c=s.c:=by have:=s.ny mt' hk σ ow;omega
 have hr:∀i,ql s->i< s.j->((s.wk mt' k σ ow).ws i).ah=0\/4<=((s.wk mt' k σ ow).ws i).ah:=λi hn hi=>by
  by_cases hik:i=k
  ·subst hik;rw[(s.fc mt' i σ ow).1];exact .inr h2
  ·rw[(s.gW mt' σ ow hik).1];exact hn i hi
 cases H with
 |opn a1 a2 a3 a4 a5=>exact .opn (f7.trans a1) (λi hi=>hr i a2 hi) (by show s.st=((s.wk mt' k σ ow).c+mt'.eA)*aM;rw[hcc,f5];exact a3) a4 (λq n xs ys e=>by show (s.wk mt' k σ ow).c<=q;rw[hcc];exact a5 q n xs ys (f11 q n xs ys e))
 |dK a1 a2 a3 a4 a5=>exact .dK (f8.trans a1) (λi hi=>hr i a2 hi) (by show 1<=(s.wk mt' k σ ow).c;rw[hcc];exact a3) (by show s.st=(s.wk mt' k σ ow).c*aM+1;rw[hcc];exact a4) a5
 |last q a1 a2 a3 a4 a5 a6 a7=>
  by_cases hq:k=q
  ·subst hq;omega
  ·have:=a5 k hk hq;omega
 |fC a1 a2 a3 a4 a5=>have:=a3 k hk;omega
 |done a1 a2 a3 a4 a5=>have:=a3 k hk;omega
theorem uZ(O:aP T Goal X)(s':PS)(g b:Nat)(hb:b=X.M.bT\/b=X.M.bN\/b=X.M.bB):∀e∈(#[⟨.cell ⟨b,0,none⟩,false,false⟩]:Array Event),∀a,(MemAct.ofEvent e).touch? =some a->a.loc.isMemory=true/\mA (iB X s') g a:=by
 have _:=O
 intro e he a ha
 simp at he
 subst he
 simp only[MemAct.ofEvent,MemAct.touch?,X2] at ha
 subst ha
 refine⟨rfl,λc hc=>?_⟩
 simp only[blk,X2] at hc
 subst hc
 exact .inr (.inl ⟨.inr hb,rfl,rfl⟩)
theorem oN{B:Nat}{a:Addr}(h:a.block< B)(wr sy:Bool):(MemAct.ofEvent ⟨.cell a,wr,sy⟩).low B:=by
 simp only[MemAct.ofEvent,MemAct.low,Loc.low]
 exact h
theorem D8(p:Pl)(xs:Nat->Value)(l:List Nat):(bj p xs l).frame.fn=89:=by kernel_rfl
theorem Cb(b:Nat):seen Pg 89 #[⟨.cell ⟨b,0,none⟩,false,false⟩]=#[⟨.cell ⟨b,0,none⟩,false,false⟩]:=by kernel_rfl
theorem UF(O:aP T Goal X){s:PS}{gs:Array Goroutine}{v:World}{sl:Option (Nat×Nat)}{t:Trace}(H:PI T Goal X s gs v t)(hfin:∀n xs,s.mt= .fin n xs->False){k:Nat}(hk:k< s.j)(hσ:s.ws k= .load 0):bA T Goal X s gs v sl t (X.n0+k):=by
 obtain⟨g,hg,hW⟩:=H.gs.work k hk
 rw[hσ] at hW
 obtain⟨hgl,hd⟩:=hW
 cases hgl
 have e6:=O.wg;have e3:=O.bN
 have hc:v.cell? ⟨X.M.bN,0,none⟩=some (.chan (some X.M.cN)):=by simp[World.cell?,H.wd.bN]
 have e:=aI.value (wH X.p) (PQ X.p (.chan (some X.M.cN))) (w:=v) (w':=v) (es:=#[⟨.cell ⟨X.M.bN,0,none⟩,false,false⟩]) ⟨hc,rfl,rfl⟩
 rw[Lj] at e
 have hr:(s.ws k).ah=10:=by rw[hσ];rfl
 refine fx O H hk hg e (.recv 5 λ_=>undef) (s.ow k) s.st s.sm ⟨?_,hd⟩ (AI _) (λ_ _ _ _=>rfl) (λb hb=> .inl hb) H.wd.wg ⟨rfl,rfl,rfl⟩
  (H.ac.wk _ (by rw[hσ];rfl) (λh=>by cases h) (λh=>by simp[Wk.ah] at h)) (λmt' hm _=>H.wg.ie X hk _ (by omega) (by simp[Wk.ah]) (by rw[hσ];rfl) mt' hm)
  (uZ O _ _ _ (.inr (.inl rfl))) (λe he=>by simp at he;subst he;exact oN (show X.M.bN< v.heap.size by have:=H.wd.size;omega) _ _) (λh=>by cases h) (λe he=>by simp at he;subst he;simp) hfin (λmt' hm=>iQ hk (by rw[hσ];simp[Wk.ah]) (by rw[hσ];rfl) mt' hm _ _ _)
 have:=(GL X.p).aD
 rw[UK] at this
 exact this
theorem Uh(O:aP T Goal X){s:PS}{gs:Array Goroutine}{v:World}{sl:Option (Nat×Nat)}{t:Trace}(H:PI T Goal X s gs v t)(hfin:∀n xs,s.mt= .fin n xs->False){k:Nat}(hk:k< s.j){i:Nat}{xs:Nat->Value}(hσ:s.ws k= .draw 0 i xs):bA T Goal X s gs v sl t (X.n0+k):=by
 obtain⟨g,hg,hW⟩:=H.gs.work k hk
 rw[hσ] at hW
 obtain⟨hgl,hd,hi,h4⟩:=hW
 cases hgl
 have hw:=IA (v.tape v.drawn (.order 89 4))
 have e:=WY X.p xs v
 generalize Region.schedule true lL (v.tape v.drawn (.order 89 4))=l at hw e
 simp only[whole,IT,Yt,YY] at hw
 obtain⟨⟨dB,hall⟩,hlen⟩:=hw
 have hc:∀j,j< 8->l.contains j=false->False:=λj hj h=>by
  have:=hall j (YV.2 hj)
  rw[h] at this;cases this
 have hr:(s.ws k).ah=60:=by rw[hσ];rfl
 refine fx O H hk hg e (.ops i l xs) (s.ow k) s.st s.sm ⟨rfl,hd,?_,dB,hi,h4,λh=>(hc 0 (by omega) h).elim,λh=>(hc 1 (by omega) h).elim,λh=>(hc 2 (by omega) h).elim,λh=>(hc 3 (by omega) h).elim,λh=>(hc 4 (by omega) h).elim,λh=>(hc 5 (by omega) h).elim,λh=>(hc 6 (by omega) h).elim⟩ (AI _) (λ_ _ _ _=>rfl) (λb hb=> .inl hb) H.wd.wg ⟨rfl,rfl,rfl⟩
  (H.ac.wk _ (by rw[hσ];rfl) (λh=>by cases h) (λh=>by simp[Wk.ah] at h;omega)) (λmt' hm _=>H.wg.ie X hk _ (by omega) (by simp only[Wk.ah];omega) (by rw[hσ];rfl) mt' hm)
  (λe he=>by simp at he) (λe he=>by simp at he) (λh=>by cases h) (λe he=>by simp at he) hfin (λmt' hm=>iQ hk (by rw[hσ];simp only[Wk.ah];omega) (by rw[hσ];rfl) mt' hm _ _ _)
 rintro rfl
 simp at hlen
theorem bD{j m:Nat}(l:List Nat)(h:m≠j):(j::l).contains m=l.contains m:=by
 simp only[List.contains_cons]
 have:(m==j)=false:=by simp[h]
 rw[this,Bool.false_or]
theorem qv{j:Nat}{l:List Nat}(h:jq (j::l)=true):mu j l=true/\jq l=true:=by
 simpa[jq] using h
theorem nU{l:List Nat}{m:Nat}(h:l.contains m=true):l≠[]:=by rintro rfl;simp at h
theorem qH(O:aP T Goal X){s:PS}{gs:Array Goroutine}{v:World}{sl:Option (Nat×Nat)}{t:Trace}(H:PI T Goal X s gs v t)(hfin:∀n xs,s.mt= .fin n xs->False){k:Nat}(hk:k< s.j){i j:Nat}{l:List Nat}{xs xs':Nat->Value}(hσ:s.ws k= .ops i (j::l) xs){es:Array Event}(e:stepG Pg false (bj X.p xs (j::l)) v= .go (bj X.p xs' l) v es)(hes:es=#[]\/∃b,(b=X.M.bT\/b=X.M.bN\/b=X.M.bB)/\es=#[⟨.cell ⟨b,0,none⟩,false,false⟩])(hne:l≠[])(ho:uO Goal X i l xs'):bA T Goal X s gs v sl t (X.n0+k):=by
 obtain⟨g,hg,hW⟩:=H.gs.work k hk
 rw[hσ] at hW
 obtain⟨rfl,hd,_,_⟩:=hW
 have e6:=O.wg;have e3:=O.bN;have e1:=O.bT;have e5:=O.bB
 have hr:(s.ws k).ah=21+2*(l.length+1):=by rw[hσ];rfl
 have hdf:deafBehind (Deaf t (X.n0+k)) es=0:=by
  rcases hes with rfl|⟨b,_,rfl⟩
  ·exact hd
  ·exact hd
 refine fx O H hk hg e (.ops i l xs') (s.ow k) s.st s.sm ⟨rfl,hdf,hne,ho⟩ (AI _) (λ_ _ _ _=>rfl) (λb hb=> .inl hb) H.wd.wg ⟨rfl,rfl,rfl⟩
  (H.ac.wk _ (by rw[hσ];rfl) (λh=>by cases h) (λh=>by simp only[Wk.ah] at h;omega)) (λmt' hm _=>H.wg.ie X hk _ (by omega) (by simp only[Wk.ah];omega) (by rw[hσ];rfl) mt' hm) ?_ ?_ (λh=>by cases h) ?_ hfin (λmt' hm=>iQ hk (by rw[hσ];simp only[Wk.ah,Ys];omega) (by rw[hσ];rfl) mt' hm _ _ _)
 ·rcases hes with rfl|⟨b,hb,rfl⟩
  ·intro e he;simp at he
  ·exact uZ O _ _ b hb
 ·rcases hes with rfl|⟨b,hb,rfl⟩
  ·intro e he;simp at he
  ·intro e he;simp at he;subst he;exact oN (show b< v.heap.size by have:=H.wd.size;omega) _ _
 ·rcases hes with rfl|⟨b,hb,rfl⟩
  ·intro e he;simp at he
  ·intro e he;simp at he;subst he;simp
theorem rf(O:aP T Goal X){s:PS}{gs:Array Goroutine}{v:World}{sl:Option (Nat×Nat)}{t:Trace}(H:PI T Goal X s gs v t)(hfin:∀n xs,s.mt= .fin n xs->False){k:Nat}(hk:k< s.j){i j:Nat}{l:List Nat}{xs:Nat->Value}(hσ:s.ws k= .ops i (j::l) xs)(hj:j=0\/j=1\/j=2\/j=3\/j=6):bA T Goal X s gs v sl t (X.n0+k):=by
 obtain⟨g,hg,hW⟩:=H.gs.work k hk
 rw[hσ] at hW
 obtain⟨_,_,_,ho⟩:=hW
 obtain⟨hh,hgd⟩:=qv ho.jq
 rcases hj with rfl|rfl|rfl|rfl|rfl
 ·have hne:l≠[]:=nU (m:=7) hh
  have hc:v.cell? ⟨X.M.bB,0,none⟩=some (.chan (some X.M.cB)):=by simp[World.cell?,H.wd.bB]
  have e:=aI.value (VX X.p xs l) (RV X.p xs l (.chan (some X.M.cB))) (w:=v) (w':=v) (es:=#[⟨.cell ⟨X.M.bB,0,none⟩,false,false⟩]) ⟨hc,rfl,rfl⟩
  rw[KI,D8,Cb] at e
  refine qH O H hfin hk hσ e (.inr ⟨_,.inr (.inr rfl),rfl⟩) hne ⟨hgd,ho.lt,ho.x4,λ_=>rfl,λh=>ho.d1 (by rw[bD _ (by omega)];exact h),λh=>ho.d2 (by rw[bD _ (by omega)];exact h),λh=>ho.d3 (by rw[bD _ (by omega)];exact h),λh h5=>ho.d4 (by rw[bD _ (by omega)];exact h) (by rw[bD _ (by omega)];exact h5),λh=>ho.d5 (by rw[bD _ (by omega)];exact h),λh=>ho.d6 (by rw[bD _ (by omega)];exact h)⟩
 ·have hne:l≠[]:=nU (m:=6) hh
  have e:=(U0 X.p xs l).step.2.1 v
  rw[WL] at e
  refine qH O H hfin hk hσ e (.inl rfl) hne ⟨hgd,ho.lt,ho.x4,λh=>ho.d0 (by rw[bD _ (by omega)];exact h),λ_=>ho.x4,λh=>ho.d2 (by rw[bD _ (by omega)];exact h),λh=>ho.d3 (by rw[bD _ (by omega)];exact h),λh h5=>ho.d4 (by rw[bD _ (by omega)];exact h) (by rw[bD _ (by omega)];exact h5),λh=>ho.d5 (by rw[bD _ (by omega)];exact h),λh=>ho.d6 (by rw[bD _ (by omega)];exact h)⟩
 ·have hne:l≠[]:=nU (m:=4) hh
  have hc:v.cell? ⟨X.M.bT,0,none⟩=some X.M.ix:=by simp[World.cell?,H.wd.bT]
  have e:=aI.value (VJ X.p xs l) (Uu X.p xs l X.M.ix) (w:=v) (w':=v) (es:=#[⟨.cell ⟨X.M.bT,0,none⟩,false,false⟩]) ⟨hc,rfl,rfl⟩
  rw[TW,D8,Cb] at e
  refine qH O H hfin hk hσ e (.inr ⟨_,.inl rfl,rfl⟩) hne ⟨hgd,ho.lt,ho.x4,λh=>ho.d0 (by rw[bD _ (by omega)];exact h),λh=>ho.d1 (by rw[bD _ (by omega)];exact h),λ_=>O.ix,λh=>ho.d3 (by rw[bD _ (by omega)];exact h),λh h5=>ho.d4 (by rw[bD _ (by omega)];exact h) (by rw[bD _ (by omega)];exact h5),λh=>ho.d5 (by rw[bD _ (by omega)];exact h),λh=>ho.d6 (by rw[bD _ (by omega)];exact h)⟩
 ·have hne:l≠[]:=nU (m:=4) hh
  have e:=(Vs X.p xs l).step.2.1 v
  rw[LW] at e
  refine qH O H hfin hk hσ e (.inl rfl) hne ⟨hgd,ho.lt,ho.x4,λh=>ho.d0 (by rw[bD _ (by omega)];exact h),λh=>ho.d1 (by rw[bD _ (by omega)];exact h),λh=>ho.d2 (by rw[bD _ (by omega)];exact h),λ_=>ho.x4,λh h5=>ho.d4 (by rw[bD _ (by omega)];exact h) (by rw[bD _ (by omega)];exact h5),λh=>ho.d5 (by rw[bD _ (by omega)];exact h),λh=>ho.d6 (by rw[bD _ (by omega)];exact h)⟩
 ·simp only[mu,IT,YZ] at hh
  have hne:l≠[]:=nU (m:=7) hh.2
  have x10:xs 10=X.num i:=ho.d1 (by rw[bD _ (by omega)];exact hh.1.1)
  have x14:xs 14= .int .u64 (X.a i):=ho.d5 (by rw[bD _ (by omega)];exact hh.1.2)
  have hxs:upd (upd xs 10 (X.num i)) 14 (.int .u64 (X.a i))=xs:=by
   rw[←x10,kE,←x14,kE]
  have e:=(M9 X.p xs l (IntKind.i64.wrap (X.E.first+i)) (X.a i)).step.2.1 v
  rw[Uy] at e
  change stepG Pg false (bj X.p (upd (upd xs 10 (X.num i)) 14 (.int .u64 (X.a i))) (6::l)) v= .go (bj X.p (upd (upd (upd xs 10 (X.num i)) 14 (.int .u64 (X.a i))) 15 (X.fY i)) l) v #[] at e
  rw[hxs] at e
  refine qH O H hfin hk hσ e (.inl rfl) hne ⟨hgd,ho.lt,ho.x4,λh=>ho.d0 (by rw[bD _ (by omega)];exact h),λh=>ho.d1 (by rw[bD _ (by omega)];exact h),λh=>ho.d2 (by rw[bD _ (by omega)];exact h),λh=>ho.d3 (by rw[bD _ (by omega)];exact h),λh h5=>ho.d4 (by rw[bD _ (by omega)];exact h) (by rw[bD _ (by omega)];exact h5),λh=>ho.d5 (by rw[bD _ (by omega)];exact h),λ_=>rfl⟩
end
end
section
open Go.Conc
open Go.ConcN (upd upd_same upd_ne sumTo sumTo_upd sumTo_congr RelBy)
section
variable {L:aB} {T:aT} {Goal:Frame->List Frame->World->Prop} {X:PC L}
theorem uz{Rg Wg:Nat->Prop}{es:Array Event}(h:∀e∈es,kz Rg Wg e)(d:Nat):deafBehind d es=d:=deafBehind_still (λe he=>by
 rcases h e he with ⟨a,wr,rfl,_⟩|⟨r,wr,rfl,_⟩|rfl<;>exact⟨by simp,by simp⟩) d
theorem uj(O:aP T Goal X){s':PS}{k:Nat}(hk:k< s'.j){ow:Nat->Prop}(how:s'.ow k=ow){v1:World}(hlow:∀b,ow b->b< v1.heap.size)(hv:X.E.v0.heap.size<=v1.heap.size){es:Array Event}(h:∀e∈es,kz (λt=>(∃r,X.E.ρ r t)\/ow t) ow e):
  (∀e∈es,∀a,(MemAct.ofEvent e).touch? =some a->a.loc.isMemory=true/\mA (iB X s') (X.n0+k) a)/\(∀e∈es,(MemAct.ofEvent e).low v1.heap.size)/\∀e∈es,e.loc≠.mark (.release (bC X)):=by
 have ro:∀b,(∃r,X.E.ρ r b)->(iB X s').ro b:=λb ⟨r,hr⟩=> .inl ⟨(O.K.cf r b hr).2,O.AG r b hr⟩
 have own:∀b,ow b->(iB X s').ow (X.n0+k) b:=λb hb=>⟨k,hk,rfl,by rw[how];exact hb⟩
 have low:∀b,(∃r,X.E.ρ r b)\/ow b->b< v1.heap.size:=λb hb=>hb.elim (λ⟨r,hr⟩=>X4 (O.K.cf r b hr).2 hv) (hlow b)
 refine⟨λe he a ha=>?_,λe he=>?_,λe he=>?_⟩
 ·rcases h e he with ⟨c,wr,rfl,h1,h2⟩|⟨r,wr,rfl,h1,h2⟩|rfl
  ·simp only[MemAct.ofEvent,MemAct.touch?,X2] at ha
   subst ha
   refine⟨rfl,λb hb=>?_⟩
   simp only[blk,X2] at hb
   subst hb
   cases wr with
   |true=>exact .inl ⟨own _ (h2 rfl),rfl⟩
   |false=>
    rcases h1 with h1|h1
    ·exact .inr (.inl ⟨ro _ h1,rfl,rfl⟩)
    ·exact .inl ⟨own _ h1,rfl⟩
  ·simp only[MemAct.ofEvent,MemAct.touch?,X2] at ha
   subst ha
   refine⟨rfl,λb hb=>?_⟩
   simp only[blk,X2] at hb
   subst hb
   cases wr with
   |true=>exact .inl ⟨own _ (h2 rfl),rfl⟩
   |false=>
    rcases h1 with h1|h1
    ·exact .inr (.inl ⟨ro _ h1,rfl,rfl⟩)
    ·exact .inl ⟨own _ h1,rfl⟩
  ·simp[MemAct.ofEvent,MemAct.touch?] at ha
 ·rcases h e he with ⟨c,wr,rfl,h1,_⟩|⟨r,wr,rfl,h1,_⟩|rfl
  ·exact oN (low _ h1) _ _
  ·simp only[MemAct.ofEvent,MemAct.low,Loc.low];exact low _ h1
  ·trivial
 ·rcases h e he with ⟨c,wr,rfl,_⟩|⟨r,wr,rfl,_⟩|rfl<;>simp
theorem Ea(O:aP T Goal X){s:PS}{gs:Array Goroutine}{v:World}{sl:Option (Nat×Nat)}{t:Trace}(H:PI T Goal X s gs v t)(hfin:∀n xs,s.mt= .fin n xs->False){k:Nat}(hk:k< s.j){i j:Nat}{l:List Nat}{xs:Nat->Value}(hσ:s.ws k= .ops i (j::l) xs)(hj:j=4\/j=5):bA T Goal X s gs v sl t (X.n0+k):=by
 obtain⟨g,hg,hW⟩:=H.gs.work k hk
 rw[hσ] at hW
 obtain⟨rfl,hd,_,ho⟩:=hW
 obtain⟨hh,hgd⟩:=qv ho.jq
 have hr:(s.ws k).ah=21+2*(l.length+1):=by rw[hσ];rfl
 rcases hj with rfl|rfl
 ·simp only[mu,IT,YZ] at hh
  obtain⟨Y,st,g1,e,h7,hC⟩:=TH O.A O.K (O.mJ i ho.lt) X.p l (ho.d2 (by rw[bD _ (by omega)];exact hh.1.1)) (ho.d3 (by rw[bD _ (by omega)];exact hh.1.2)) H.wd.old
  exact fx O H hk hg e (.text i l xs st) (s.ow k) s.st s.sm ⟨hd,ho,Y,h7,hC.low _ λ_ h=>h.elim⟩ (AI _) (λ_ _ _ _=>rfl) (λb hb=> .inl hb) H.wd.wg ⟨rfl,rfl,rfl⟩
   (H.ac.wk _ (by rw[hσ];rfl) (λh=>by cases h) (λh=>by simp only[Wk.ah] at h;omega)) (λmt' hm _=>H.wg.ie X hk _ (by omega) (by simp only[Wk.ah];omega) (by rw[hσ];rfl) mt' hm) (λe he=>by simp at he) (λe he=>by simp at he) (λh=>by cases h) (λe he=>by simp at he) hfin (λmt' hm=>iQ hk (by rw[hσ];simp only[Wk.ah,Ys];omega) (by rw[hσ];rfl) mt' hm _ _ _)
 ·simp only[mu,IT,YZ] at hh
  obtain⟨t',h13,hm⟩:=ho.d4 (by rw[bD _ (by omega)];exact hh.1) (by simp)
  obtain⟨Y,st,g1,e,h7,hC⟩:=OS O.A O.K hm X.p l h13 H.wd.old
  exact fx O H hk hg e (.jG i l xs st) (s.ow k) s.st s.sm ⟨hd,ho,Y,h7,hC.low _ λ_ h=>h.elim⟩ (AI _) (λ_ _ _ _=>rfl) (λb hb=> .inl hb) H.wd.wg ⟨rfl,rfl,rfl⟩
   (H.ac.wk _ (by rw[hσ];rfl) (λh=>by cases h) (λh=>by simp only[Wk.ah] at h;omega)) (λmt' hm _=>H.wg.ie X hk _ (by omega) (by simp only[Wk.ah];omega) (by rw[hσ];rfl) mt' hm) (λe he=>by simp at he) (λe he=>by simp at he) (λh=>by cases h) (λe he=>by simp at he) hfin (λmt' hm=>iQ hk (by rw[hσ];simp only[Wk.ah,Ys];omega) (by rw[hσ];rfl) mt' hm _ _ _)
theorem Be{s:PS}{k:Nat}(hk:k< s.j)(h4:s.j<=4){σ:Wk}{x x':jC}(hr:σ.ah=(s.ws k).ah)(hc:σ.cnt=(s.ws k).cnt)(ht:(s.ws k).tree=some x)(ht':σ.tree=some x')(hn:nI Qg Goal x' x)(mt':Mt)(hm:jh s.mt mt')(ow:Nat->Prop)(st sm:Nat):o7 Goal X {s.wk mt' k σ ow with st:=st,sm:=sm} s:=by
 have h1:=s.nT mt' hk σ ow Wk.ah
 have h2:=s.ny mt' hk σ ow
 have h3:(s.wk mt' k σ ow).c=s.c:=by omega
 have h5:=(hm.facts (X:=X)).1 s.c
 refine .inr (.inl ⟨?_,k,by omega,x,x',?_,?_,hn,λi hi=>?_⟩)
 ·show mt'.ah (s.wk mt' k σ ow).c+sumTo s.j (λi=>((s.wk mt' k σ ow).ws i).ah)+12*(s.wk mt' k σ ow).c+60*(X.E.n - s.rN)=s.mt.ah s.c+sumTo s.j (λi=>(s.ws i).ah)+12*s.c+60*(X.E.n - s.rN)
  rw[h3]
  omega
 ·simp[PS.kg,hk,ht]
 ·show (if k< s.j then ((s.wk mt' k σ ow).ws k).tree else none)=some x'
  rw[(s.fc mt' k σ ow).1]
  simp[hk,ht']
 ·show (if i< s.j then ((s.wk mt' k σ ow).ws i).tree else none)=if i< s.j then (s.ws i).tree else none
  rw[(s.gW mt' σ ow hi).1]
theorem zH(O:aP T Goal X){s:PS}(H:Ac X s){gs:Array Goroutine}{v:World}{t:Trace}(G:Gs T Goal X s gs v t):s.j<=4:=by
 have h1:=O.nw
 have h2:=H.on
 obtain⟨h,_,hM⟩:=G.main
 cases hmt:s.mt<;>rw[hmt] at h2 hM<;>simp only[Mt.on] at h2<;>simp only[bY] at hM<;>omega
theorem Ct(O:aP T Goal X){s:PS}{gs:Array Goroutine}{v:World}{sl:Option (Nat×Nat)}{t:Trace}(H:PI T Goal X s gs v t)(hfin:∀n xs,s.mt= .fin n xs->False){k:Nat}(hk:k< s.j){i:Nat}{l:List Nat}{xs:Nat->Value}{x:jC}(hσ:s.ws k= .text i l xs x\/s.ws k= .jG i l xs x):bA T Goal X s gs v sl t (X.n0+k):=by
 obtain⟨g,hg,hW⟩:=H.gs.work k hk
 have h4:=zH O H.ac H.gs
 have e6:=O.wg
 have hold:=H.wd.old.1
 have hwg0: ¬ s.ow k X.M.wg:=λh=>by have:=(H.tr.own k _ hk h).1;omega
 rcases hσ with hσ|hσ
 ·rw[hσ] at hW
  obtain⟨hd,ho,Y,h7,hC⟩:=hW
  have hr:(s.ws k).ah=22+2*l.length:=by rw[hσ];rfl
  rcases hC.step O.A with ⟨g1,v1,fs,x1,e,hC1,hn,hD⟩|⟨xv,y,fs,w1,e,hsafe,hkeep,hstr,_,hev⟩
  ·have hevs:=uj O (s':=s.wk s.mt k (.text i l xs x1) λb=>s.ow k b\/(v.heap.size<=b/\b< v1.heap.size)) hk (s.fc s.mt k _ _).2 (v1:=v1) (λb hb=>hb.elim (λh=>X4 (H.tr.own k b hk h).2 hD.grow) (·.2)) (X0 hold hD.grow) hD.oI
   exact fx O H hk hg e (.text i l xs x1) _ s.st s.sm ⟨by rw[uz hD.oI];exact hd,ho,Y,h7,hC1⟩ hD.grow (λb hb hno _=>hD.gh b hb hno) (λb hb=>hb) (by rw[hD.gh _ H.wd.size hwg0];exact H.wd.wg) ⟨hD.tape,hD.os,hD.output⟩
    (H.ac.wk _ (by rw[hσ];rfl) (λh=>by cases h) (λh=>by simp only[Wk.ah] at h;omega)) (λmt' hm _=>H.wg.ie X hk _ (by omega) (by simp only[Wk.ah];omega) (by rw[hσ];rfl) mt' hm) hevs.1 hevs.2.1 (λh=>by cases h) hevs.2.2 hfin (λmt' hm=>Be hk h4 (by rw[hσ];rfl) (by rw[hσ];rfl) (by rw[hσ];rfl) rfl hn mt' hm _ _ _)
  ·obtain⟨t',rfl,hmid⟩:=P6 O.A h7 hsafe hkeep
   obtain rfl:=hstr t' rfl
   have hevs:=uj O (s':=s.wk s.mt k (.ops i l (upd xs 13 (.string t'))) (s.ow k)) hk (s.fc s.mt k _ _).2 (v1:=v) (λb hb=>(H.tr.own k b hk hb).2) hold hev
   obtain⟨hh,hgd⟩:=qv ho.jq
   simp only[mu,IT,YZ] at hh
   have hne:l≠[]:=nU (m:=5) hh.2
   have e':stepG Pg false g v= .go (bj X.p (upd xs 13 (.string t')) l) v fs:=by rw[←Tx];exact e
   exact fx O H hk hg e' (.ops i l (upd xs 13 (.string t'))) (s.ow k) s.st s.sm ⟨rfl,by rw[uz hev];exact hd,hne,hgd,ho.lt,ho.x4,λh=>ho.d0 (by rw[bD _ (by omega)];exact h),λh=>ho.d1 (by rw[bD _ (by omega)];exact h),λh=>ho.d2 (by rw[bD _ (by omega)];exact h),λh=>ho.d3 (by rw[bD _ (by omega)];exact h),λ_ _=>⟨t',rfl,hmid⟩,λh=>(by rw[hh.2] at h;cases h),λh=>ho.d6 (by rw[bD _ (by omega)];exact h)⟩ (AI _) (λ_ _ _ _=>rfl) (λb hb=> .inl hb) H.wd.wg ⟨rfl,rfl,rfl⟩
    (H.ac.wk _ (by rw[hσ];rfl) (λh=>by cases h) (λh=>by simp only[Wk.ah] at h;omega)) (λmt' hm _=>H.wg.ie X hk _ (by omega) (by simp only[Wk.ah];omega) (by rw[hσ];rfl) mt' hm) hevs.1 hevs.2.1 (λh=>by cases h) hevs.2.2 hfin (λmt' hm=>iQ hk (by rw[hσ];simp only[Wk.ah];omega) (by rw[hσ];rfl) mt' hm _ _ _)
 ·rw[hσ] at hW
  obtain⟨hd,ho,Y,h7,hC⟩:=hW
  have hr:(s.ws k).ah=22+2*l.length:=by rw[hσ];rfl
  rcases hC.step O.A with ⟨g1,v1,fs,x1,e,hC1,hn,hD⟩|⟨xv,y,fs,w1,e,hsafe,hkeep,_,hint,hev⟩
  ·have hevs:=uj O (s':=s.wk s.mt k (.jG i l xs x1) λb=>s.ow k b\/(v.heap.size<=b/\b< v1.heap.size)) hk (s.fc s.mt k _ _).2 (v1:=v1) (λb hb=>hb.elim (λh=>X4 (H.tr.own k b hk h).2 hD.grow) (·.2)) (X0 hold hD.grow) hD.oI
   exact fx O H hk hg e (.jG i l xs x1) _ s.st s.sm ⟨by rw[uz hD.oI];exact hd,ho,Y,h7,hC1⟩ hD.grow (λb hb hno _=>hD.gh b hb hno) (λb hb=>hb) (by rw[hD.gh _ H.wd.size hwg0];exact H.wd.wg) ⟨hD.tape,hD.os,hD.output⟩
    (H.ac.wk _ (by rw[hσ];rfl) (λh=>by cases h) (λh=>by simp only[Wk.ah] at h;omega)) (λmt' hm _=>H.wg.ie X hk _ (by omega) (by simp only[Wk.ah];omega) (by rw[hσ];rfl) mt' hm) hevs.1 hevs.2.1 (λh=>by cases h) hevs.2.2 hfin (λmt' hm=>Be hk h4 (by rw[hσ];rfl) (by rw[hσ];rfl) (by rw[hσ];rfl) rfl hn mt' hm _ _ _)
  ·obtain rfl:=MX O.A h7 hsafe
   obtain rfl:=hint (X.a i) rfl
   have hevs:=uj O (s':=s.wk s.mt k (.ops i l (upd xs 14 (.int .u64 (X.a i)))) (s.ow k)) hk (s.fc s.mt k _ _).2 (v1:=v) (λb hb=>(H.tr.own k b hk hb).2) hold hev
   obtain⟨hh,hgd⟩:=qv ho.jq
   simp only[mu,IT,YZ] at hh
   have hne:l≠[]:=nU (m:=6) hh.2
   have e':stepG Pg false g v= .go (bj X.p (upd xs 14 (.int .u64 (X.a i))) l) v fs:=by rw[←ME];exact e
   exact fx O H hk hg e' (.ops i l (upd xs 14 (.int .u64 (X.a i)))) (s.ow k) s.st s.sm ⟨rfl,by rw[uz hev];exact hd,hne,hgd,ho.lt,ho.x4,λh=>ho.d0 (by rw[bD _ (by omega)];exact h),λh=>ho.d1 (by rw[bD _ (by omega)];exact h),λh=>ho.d2 (by rw[bD _ (by omega)];exact h),λh=>ho.d3 (by rw[bD _ (by omega)];exact h),λh h5=>ho.d4 (by rw[bD _ (by omega)];exact h) (by simp),λ_=>rfl,λh=>ho.d6 (by rw[bD _ (by omega)];exact h)⟩ (AI _) (λ_ _ _ _=>rfl) (λb hb=> .inl hb) H.wd.wg ⟨rfl,rfl,rfl⟩
    (H.ac.wk _ (by rw[hσ];rfl) (λh=>by cases h) (λh=>by simp only[Wk.ah] at h;omega)) (λmt' hm _=>H.wg.ie X hk _ (by omega) (by simp only[Wk.ah];omega) (by rw[hσ];rfl) mt' hm) hevs.1 hevs.2.1 (λh=>by cases h) hevs.2.2 hfin (λmt' hm=>iQ hk (by rw[hσ];simp only[Wk.ah];omega) (by rw[hσ];rfl) mt' hm _ _ _)
end
end
section
open Go.Conc
open Go.ConcN (upd upd_same upd_ne sumTo sumTo_upd sumTo_congr le_sumTo RelBy)
section
variable {L:aB} {T:aT} {Goal:Frame->List Frame->World->Prop} {X:PC L}
theorem Wd.shape{s:PS}{v:World}(H:Wd X s v):v.shape? X.M.wg=some (188,2):=by simp[World.shape?,H.wg]
theorem Wd.cell0{s:PS}{v:World}(H:Wd X s v):v.cell? ⟨X.M.wg,0,none⟩=some (.int .u64 s.st):=by simp[World.cell?,H.wg]
theorem Wd.AW{s:PS}{v:World}(H:Wd X s v):v.cell? ⟨X.M.wg,1,none⟩=some (.int .u32 s.sm):=by simp[World.cell?,H.wg]
theorem Wd.frozen{s:PS}{v:World}(H:Wd X s v)(o:Nat):v.frozen? ⟨X.M.wg,o,none⟩=false:=by simp[World.frozen?,H.wg]
theorem Wd.xx{s:PS}{v:World}(H:Wd X s v)(st:Nat):(v.setCell ⟨X.M.wg,0,none⟩ (.int .u64 st)).heap[X.M.wg]? =some (.cells #[.int .u64 st,.int .u32 s.sm] 188):=by simp[World.setCell,Yz,H.wg]
theorem Wd.Ci{s:PS}{v:World}(H:Wd X s v)(sm:Nat):(v.setCell ⟨X.M.wg,1,none⟩ (.int .u32 sm)).heap[X.M.wg]? =some (.cells #[.int .u64 s.st,.int .u32 sm] 188):=by simp[World.setCell,Yz,H.wg]
theorem lr(v:World)(b o:Nat)(x:Value):(v.setCell ⟨b,o,none⟩ x).heap.size=v.heap.size/\∀c,c≠b->(v.setCell ⟨b,o,none⟩ x).heap[c]? =v.heap[c]? :=
 ⟨by simp[World.setCell],λc hc=>by simp[World.setCell,Yz,Ne.symm hc]⟩
theorem pG{s':PS}{g B:Nat}(hB:X.M.wg< B){es:Array Event}(h:∀e∈es,(∃o wr,e=⟨.cell ⟨X.M.wg,o,none⟩,wr,true⟩)\/e=aN .disable\/e=aN .enable\/e=aN (.releaseMerge (bC X))):
  (∀e∈es,∀a,(MemAct.ofEvent e).touch? =some a->a.loc.isMemory=true/\mA (iB X s') g a)/\(∀e∈es,(MemAct.ofEvent e).low B)/\∀e∈es,e.loc≠.mark (.release (bC X)):=by
 refine⟨λe he a ha=>?_,λe he=>?_,λe he=>?_⟩
 ·rcases h e he with ⟨o,wr,rfl⟩|rfl|rfl|rfl
  ·simp only[MemAct.ofEvent,MemAct.touch?,X2] at ha
   subst ha
   refine⟨rfl,λb hb=>?_⟩
   simp only[blk,X2] at hb
   subst hb
   exact .inr (.inr ⟨.inl rfl,by simp,by simp⟩)
  ·simp[aN,MemAct.ofEvent,MemAct.touch?] at ha
  ·simp[aN,MemAct.ofEvent,MemAct.touch?] at ha
  ·simp[aN,MemAct.ofEvent,MemAct.touch?] at ha
 ·rcases h e he with ⟨o,wr,rfl⟩|rfl|rfl|rfl
  ·exact oN hB _ _
  ·trivial
  ·trivial
  ·exact hB
 ·rcases h e he with ⟨o,wr,rfl⟩|rfl|rfl|rfl<;>simp[aN]
theorem Ww{a:Addr}{t:Trace}{k:Nat}(hd:Deaf t k=0)(fn:FuncId)(pos:String): ∃r,RelBy a (t++MemOp.ofEvents k fn pos #[aN (.releaseMerge a)]) k r:=by
 have e:MemOp.ofEvents k fn pos #[aN (.releaseMerge a)]=#[{g:=k,fn,pos,act:= .mark (.releaseMerge a)}]:=by simp[ofEvents_eq,aN,MemAct.ofEvent]
 rw[e]
 have hx:(t++#[({g:=k,fn,pos,act:= .mark (.releaseMerge a)}:MemOp)])[t.size]? =some {g:=k,fn,pos,act:= .mark (.releaseMerge a)}:=by rw[Array.getElem?_append_right (AI _)];simp
 refine⟨t.size,by simp[Trace.act?,hx],by simp[Trace.g?,hx],⟨k,by simp[Trace.g?,hx],by rw[deaf_old (AI _)];exact hd⟩,λi hi hg=>?_⟩
 have:(t++#[({g:=k,fn,pos,act:= .mark (.releaseMerge a)}:MemOp)]).g? i=none:=by simp[Trace.g?];omega
 rw[this] at hg
 cases hg
theorem Qw(O:aP T Goal X){s:PS}{gs:Array Goroutine}{v:World}{sl:Option (Nat×Nat)}{t:Trace}(H:PI T Goal X s gs v t)(hfin:∀n xs,s.mt= .fin n xs->False){k:Nat}(hk:k< s.j){xs:Nat->Value}(hσ:s.ws k= .conv 0 xs):bA T Goal X s gs v sl t (X.n0+k):=by
 obtain⟨g,hg,hW⟩:=H.gs.work k hk
 rw[hσ] at hW
 obtain⟨hgl,hd⟩:=hW
 cases hgl
 have e:=aI.value (yr (cD X.p xs::fN X.p xs) X.M.wg) (UO _ _) (w:=v) (w':=v) (es:=#[]) ⟨H.wd.shape,H.wd.shape,rfl,rfl⟩
 rw[eH] at e
 have hr:(s.ws k).ah=7:=by rw[hσ];rfl
 exact fx O H hk hg e (.oT xs) (s.ow k) s.st s.sm ⟨rfl,hd⟩ (AI _) (λ_ _ _ _=>rfl) (λb hb=> .inl hb) H.wd.wg ⟨rfl,rfl,rfl⟩
  (H.ac.wk _ (by rw[hσ];rfl) (λh=>by cases h) (λ_=>H.ac.gone k hk (by omega))) (λmt' hm _=>H.wg.ie X hk _ (by omega) (by simp[Wk.ah]) (by rw[hσ];rfl) mt' hm) (λe he=>by simp at he) (λe he=>by simp at he) (λh=>by cases h) (λe he=>by simp at he) hfin (λmt' hm=>iQ hk (by rw[hσ];simp[Wk.ah]) (by rw[hσ];rfl) mt' hm _ _ _)
theorem LJ(O:aP T Goal X){s:PS}{gs:Array Goroutine}{v:World}{sl:Option (Nat×Nat)}{t:Trace}(H:PI T Goal X s gs v t)(hfin:∀n xs,s.mt= .fin n xs->False){k:Nat}(hk:k< s.j){xs:Nat->Value}(hσ:s.ws k= .oT xs):bA T Goal X s gs v sl t (X.n0+k):=by
 obtain⟨g,hg,hW⟩:=H.gs.work k hk
 rw[hσ] at hW
 obtain⟨rfl,hd⟩:=hW
 have e:=UJ (cD X.p xs::fN X.p xs) X.M.wg v
 have hr:(s.ws k).ah=6:=by rw[hσ];rfl
 have hev:=pG (X:=X) (s':=s.wk s.mt k (.ef 3 xs) (s.ow k)) (g:=X.n0+k) H.wd.size (es:=#[aN (.releaseMerge (bC X))]) (λe he=>by simp at he;exact .inr (.inr (.inr he)))
 exact fx O H hk hg e (.ef 3 xs) (s.ow k) s.st s.sm ⟨(NX _ _).aD,hd⟩ (AI _) (λ_ _ _ _=>rfl) (λb hb=> .inl hb) H.wd.wg ⟨rfl,rfl,rfl⟩
  (H.ac.wk _ (by rw[hσ];rfl) (λh=>by cases h) (λ_=>H.ac.gone k hk (by omega))) (λmt' hm _=>H.wg.ie X hk _ (by omega) (by simp[Wk.ah]) (by rw[hσ];rfl) mt' hm) hev.1 hev.2.1 (λ_=>Ww hd _ _) hev.2.2 hfin (λmt' hm=>iQ hk (by rw[hσ];simp[Wk.ah]) (by rw[hσ];rfl) mt' hm _ _ _)
theorem I6(O:aP T Goal X){s:PS}{gs:Array Goroutine}{v:World}{sl:Option (Nat×Nat)}{t:Trace}(H:PI T Goal X s gs v t)(hfin:∀n xs,s.mt= .fin n xs->False){k:Nat}(hk:k< s.j){xs:Nat->Value}(hσ:s.ws k= .ef 0 xs):bA T Goal X s gs v sl t (X.n0+k):=by
 obtain⟨g,hg,hW⟩:=H.gs.work k hk
 rw[hσ] at hW
 obtain⟨hgl,hd⟩:=hW
 cases hgl
 have e:=LI (cD X.p xs::fN X.p xs) X.M.wg v
 have hr:(s.ws k).ah=5:=by rw[hσ];rfl
 have hev:=pG (X:=X) (s':=s.wk s.mt k (.add 34 xs) (s.ow k)) (g:=X.n0+k) H.wd.size (es:=#[aN .disable]) (λe he=>by simp at he;exact .inr (.inl he))
 obtain⟨r,hrel⟩:=H.tr.rel k hk (by rw[hσ];rfl)
 exact fx O H hk hg e (.add 34 xs) (s.ow k) s.st s.sm ⟨Pn _ _,by rw[hd];rfl⟩ (AI _) (λ_ _ _ _=>rfl) (λb hb=> .inl hb) H.wd.wg ⟨rfl,rfl,rfl⟩
  (H.ac.wk _ (by rw[hσ];rfl) (λh=>by cases h) (λ_=>H.ac.gone k hk (by omega))) (λmt' hm _=>H.wg.ie X hk _ (by omega) (by simp[Wk.ah]) (by rw[hσ];rfl) mt' hm) hev.1 hev.2.1 (λ_=>⟨r,RelBy.still hrel λop ag=>by obtain⟨e,he,rfl⟩:=Go.Conc.mem_ofEvents ag;simp at he;subst he;rfl⟩) hev.2.2 hfin (λmt' hm=>iQ hk (by rw[hσ];simp[Wk.ah]) (by rw[hσ];rfl) mt' hm _ _ _)
theorem M8(O:aP T Goal X){s:PS}{gs:Array Goroutine}{v:World}{sl:Option (Nat×Nat)}{t:Trace}(H:PI T Goal X s gs v t)(hfin:∀n xs,s.mt= .fin n xs->False){k:Nat}(hk:k< s.j){q:Nat}(hσ:s.ws k= .quit q){g:Goroutine}(hg:gs[X.n0+k]? =some g)(hrun:g.status= .running):bA T Goal X s gs v sl t (X.n0+k):=by
 obtain⟨g',hg',hW⟩:=H.gs.work k hk
 rw[hg] at hg'
 cases hg'
 rw[hσ] at hW
 cases q with
 |zero=>rw[hW.1] at hrun;cases hrun
 |succ q=>
  rcases hW with ⟨hf,_⟩|⟨_,g1,es,hm,hst,hq⟩
  ·rw[hf] at hrun;cases hrun
  have hl:tB (s.ws k) (.quit q):=by rw[hσ];exact⟨rfl,rfl,rfl,rfl,rfl,rfl⟩
  obtain⟨r,hrel⟩:=H.tr.rel k hk (by rw[hσ];rfl)
  refine fx O H hk hg (hst v) (.quit q) (s.ow k) s.st s.sm hq (AI _) (λ_ _ _ _=>rfl) (λb hb=> .inl hb) H.wd.wg ⟨rfl,rfl,rfl⟩ (λmt' hm=>H.ac.qK hm hl _) (λmt' hm _=>H.wg.qK X hm hk hl _) (λe he a ha=>by rw[touch_mute (hm e he)] at ha;cases ha) (λe he=>low_mute (hm e he) _) (λ_=>⟨r,RelBy.still hrel λop ag=>by obtain⟨e,he,rfl⟩:=Go.Conc.mem_ofEvents ag;exact touch_mute (hm e he)⟩) (λe he h=>?_) hfin (λmt' hm=>?_)
  ·have:=hm e he
   obtain⟨loc,wr,sy⟩:=e
   simp only at h
   subst h
   simp[Event.mute] at this
  ·have h1:=s.nT mt' hk (.quit q) (s.ow k) Wk.ah
   have h2:=s.ny mt' hk (.quit q) (s.ow k)
   have h5:=s.nT mt' hk (.quit q) (s.ow k) Wk.idle
   rw[hl.ah] at h1
   rw[hl.cnt] at h2
   have hid:(s.ws k).idle=q+1:=by rw[hσ];rfl
   have hid':(Wk.quit q).idle=q:=rfl
   have hf:=hm.facts (X:=X)
   have h3:(s.wk mt' k (.quit q) (s.ow k)).c=s.c:=by omega
   refine .inr (.inr ⟨?_,s.AD mt' (.quit q) (s.ow k) hl.tree,?_⟩)
   ·show mt'.ah (s.wk mt' k (.quit q) (s.ow k)).c+sumTo s.j (λi=>((s.wk mt' k (.quit q) (s.ow k)).ws i).ah)+12*(s.wk mt' k (.quit q) (s.ow k)).c+60*(X.E.n - s.rN)=s.mt.ah s.c+sumTo s.j (λi=>(s.ws i).ah)+12*s.c+60*(X.E.n - s.rN)
    rw[h3,hf.1 s.c]
    omega
   ·show mt'.idle+2*sumTo s.j (λi=>((s.wk mt' k (.quit q) (s.ow k)).ws i).idle)+2*sumTo X.n0 s.q< s.mt.idle+2*sumTo s.j (λi=>(s.ws i).idle)+2*sumTo X.n0 s.q
    have:=hf.2.2.2.2.2.2.2.2.2.1
    omega
end
end
section
open Go.Conc
open Go.ConcN (upd upd_same upd_ne sumTo sumTo_upd sumTo_congr sumTo_le le_sumTo RelBy)
theorem Tj:less 4294967296=0:=by kernel_rfl
theorem Ot:less 8589934592=4294967296:=by kernel_rfl
theorem LR:less 12884901888=8589934592:=by kernel_rfl
theorem S0:less 17179869184=12884901888:=by kernel_rfl
theorem Oa:less 4294967297=1:=by kernel_rfl
theorem PM:less 8589934593=4294967297:=by kernel_rfl
theorem VK:less 12884901889=8589934593:=by kernel_rfl
theorem VB:less 17179869185=12884901889:=by kernel_rfl
theorem NT(p:Pl)(xs:Nat->Value)(wg:Nat){N:Nat}(h:N<=3):less ((N+1)*aM:Nat)=(N*aM:Nat)/\QuitsD Pg 94 1 (fh (cD p xs::fN p xs) wg (N*aM:Nat)):=by
 rcases (show N=0\/N=1\/N=2\/N=3 by omega) with rfl|rfl|rfl|rfl
 ·exact⟨Tj,Ir _ _ wg (my p xs)⟩
 ·exact⟨Ot,Jm _ _ wg (my p xs)⟩
 ·exact⟨LR,Qk _ _ wg (my p xs)⟩
 ·exact⟨S0,JZ _ _ wg (my p xs)⟩
theorem VO(p:Pl)(xs:Nat->Value)(wg:Nat){N:Nat}(h1:1<=N)(h:N<=3):less ((N+1)*aM+1:Nat)=(N*aM+1:Nat)/\QuitsD Pg 94 1 (fh (cD p xs::fN p xs) wg (N*aM+1:Nat)):=by
 rcases (show N=1\/N=2\/N=3 by omega) with rfl|rfl|rfl
 ·exact⟨PM,PK _ _ wg (my p xs)⟩
 ·exact⟨VK,O8 _ _ wg (my p xs)⟩
 ·exact⟨VB,Vz _ _ wg (my p xs)⟩
section
variable {L:aB} {T:aT} {Goal:Frame->List Frame->World->Prop} {X:PC L}
theorem Wk.vV(σ:Wk):σ.cnt<=1:=by cases σ<;>simp[Wk.cnt]
theorem Wk.vA(σ:Wk):(σ.cnt=1↔4<=σ.ah):=by cases σ<;>simp[Wk.cnt,Wk.ah]<;>omega
theorem Mt.TG(mt:Mt)(c c':Nat):mt.ah c'<=mt.ah c+11:=by
 cases mt<;>simp only[Mt.ah]<;>(try omega)
 split<;>split<;>omega
theorem BS(O:aP T Goal X){s:PS}{gs:Array Goroutine}{v:World}{t:Trace}(H:PI T Goal X s gs v t):s.c+s.mt.eA<=4:=by
 have h1:s.c<=1*s.j:=sumTo_le λi _=>Wk.vV _
 have h2:=zH O H.ac H.gs
 have h3:=H.ac.on
 have h4:=O.nw
 obtain⟨h,_,hM⟩:=H.gs.main
 cases hmt:s.mt<;>rw[hmt] at h3 hM<;>simp only[Mt.on,bY,Mt.eA] at h3 hM ⊢ <;>omega
theorem zq{f:Nat->Nat}:∀{j k:Nat},k< j->sumTo j f=f k->∀i,i< j->i≠k->f i=0
 |j+1,k,hk,h,i,hi,hne=>by
  simp only[sumTo] at h
  rcases Yw k j with hkj|hkj
  ·have h1:=le_sumTo (f:=f) hkj
   rcases Yw i j with hij|hij
   ·exact zq hkj (by omega) i hij hne
   ·obtain rfl:i=j:=by omega
    omega
  ·obtain rfl:k=j:=by omega
   have h2:=le_sumTo (f:=f) (show i< k by omega)
   omega
theorem VV(d:Nat)(a:Addr):deafBehind d #[⟨.cell a,false,true⟩,⟨.cell a,true,true⟩]=d:=rfl
theorem Sx(O:aP T Goal X){s:PS}{gs:Array Goroutine}{v:World}{sl:Option (Nat×Nat)}{t:Trace}(H:PI T Goal X s gs v t)(hfin:∀n xs,s.mt= .fin n xs->False){k:Nat}(hk:k< s.j){xs:Nat->Value}(hσ:s.ws k= .add 0 xs):bA T Goal X s gs v sl t (X.n0+k):=by
 obtain⟨g,hg,hW⟩:=H.gs.work k hk
 rw[hσ] at hW
 obtain⟨hgl,hd⟩:=hW
 cases hgl
 have hr:(s.ws k).ah=4:=by rw[hσ];rfl
 have hcn:(s.ws k).cnt=1:=by rw[hσ];rfl
 have hc1:1<=s.c:=by have:=le_sumTo (f:=λi=>(s.ws i).cnt) hk;unfold PS.c;omega
 have hcb:=BS O H
 have im:=H.ac.gone k hk (by omega)
 obtain⟨r,hrel⟩:=H.tr.rel k hk (by rw[hσ];rfl)
 have hwg0: ¬ s.ow k X.M.wg:=λh=>by have:=(H.tr.own k _ hk h).1;omega
 have so:=lr v X.M.wg 0
 have key:∀(st':Nat) (σ:Wk),less s.st=st'->σ.cnt=0->σ.bJ=none->σ.parked=false->σ.rel=true->σ.ah<=3->gK T Goal X (s.ow k) 1 (fh (cD X.p xs::fN X.p xs) X.M.wg st') (v.setCell ⟨X.M.wg,0,none⟩ (.int .u64 st')) σ->
   (∀mt',jh s.mt mt'->Wg {s.wk mt' k σ (s.ow k) with st:=st',sm:=s.sm})->bA T Goal X s gs v sl t (X.n0+k):=by
  intro st' σ hst h1 h2 h3 h4 h5 hWA hWg
  have e:=aI.value (yy (cD X.p xs::fN X.p xs) X.M.wg) (Jw _ _ s.st) (w:=v) (w':=v.setCell ⟨X.M.wg,0,none⟩ (.int .u64 (less s.st))) (es:=#[aN (.extern 148),⟨.cell (bC X),false,true⟩,⟨.cell (bC X),true,true⟩])
   ⟨H.wd.cell0,by simp,by simp,⟨_,H.wd.cell0⟩,H.wd.frozen 0,rfl,rfl⟩
  rw[NL,hst] at e
  have hev:=pG (X:=X) (s':=s.wk s.mt k σ (s.ow k)) (g:=X.n0+k) (B:=(v.setCell ⟨X.M.wg,0,none⟩ (.int .u64 st')).heap.size) (by rw[(so _).1];exact H.wd.size) (es:=#[⟨.cell (bC X),false,true⟩,⟨.cell (bC X),true,true⟩]) (λe he=>by simp at he;rcases he with rfl|rfl<;>exact .inl ⟨0,_,rfl⟩)
  refine fx O H hk hg e σ (s.ow k) st' s.sm (by rw[VV,hd];exact hWA) (by rw[(so _).1];exact AI _) (λb _ _ hb=>(so _).2 b hb) (λb hb=> .inl hb) (H.wd.xx st') ⟨rfl,rfl,rfl⟩ (H.ac.wk _ (by rw[hσ];exact h2) (λh=>by rw[h3] at h;cases h) (λ_=>im)) (λmt' hm _=>hWg mt' hm) hev.1 hev.2.1 (λ_=>⟨r,?_⟩) hev.2.2 hfin (λmt' hm=> .inl ?_)
  ·refine RelBy.appOwn hrel _ _ _ λj e he=> .inr ⟨?_,?_⟩
   ·have:e∈(#[⟨.cell (bC X),false,true⟩,⟨.cell (bC X),true,true⟩]:Array Event):=Y0 he
    simp at this
    rcases this with rfl|rfl<;>exact⟨_,_,rfl⟩
   ·rw[hd]
    have:j=0\/j=1:=by
     have:=(IN.1 he).1
     simp at this
     omega
    rcases this with rfl|rfl<;>simp[deafBehind]
  ·have a1:=s.nT mt' hk σ (s.ow k) Wk.ah
   have a2:=s.ny mt' hk σ (s.ow k)
   have a3:=(hm.facts (X:=X)).1 s.c
   have a4:=mt'.TG s.c (s.wk mt' k σ (s.ow k)).c
   show mt'.ah (s.wk mt' k σ (s.ow k)).c+sumTo s.j (λi=>((s.wk mt' k σ (s.ow k)).ws i).ah)+12*(s.wk mt' k σ (s.ow k)).c+60*(X.E.n - s.rN)< s.mt.ah s.c+sumTo s.j (λi=>(s.ws i).ah)+12*s.c+60*(X.E.n - s.rN)
   omega
 have hcc:∀mt' σ,σ.cnt=0->(s.wk mt' k σ (s.ow k)).c+1=s.c:=λmt' σ h=>by have:=s.ny mt' hk σ (s.ow k);omega
 have hnl:∀mt' σ,σ.ah=0->ql s->∀i,i< s.j->((s.wk mt' k σ (s.ow k)).ws i).ah=0\/4<=((s.wk mt' k σ (s.ow k)).ws i).ah:=λmt' σ h0 hn i hi=>by
  by_cases hik:i=k
  ·subst hik;rw[(s.fc mt' i σ (s.ow i)).1];exact .inl h0
  ·rw[(s.gW mt' σ (s.ow k) hik).1];exact hn i hi
 cases hwg:H.wg with
 |opn a1 a2 a3 a4 a5=>
  have hl:=NT X.p xs X.M.wg (N:=s.c+s.mt.eA - 1) (by omega)
  rw[show s.c+s.mt.eA - 1+1=s.c+s.mt.eA by omega,←a3] at hl
  refine key _ (.quit 94) hl.1 rfl rfl rfl rfl (by simp[Wk.ah]) hl.2 λmt' hm=>?_
  obtain⟨_,_,_,_,f5,_,f7,f8,f9,_,f11,_⟩:=hm.facts (X:=X)
  have:=hcc mt' (.quit 94) rfl
  refine .opn (f7.trans a1) (hnl mt' _ rfl a2) ?_ a4 (λq n xs ys e=>?_)
  ·show (s.c+s.mt.eA - 1)*aM=((s.wk mt' k (.quit 94) (s.ow k)).c+mt'.eA)*aM
   rw[f5]
   congr 1
   omega
  ·show (s.wk mt' k (.quit 94) (s.ow k)).c<=q
   have:=a5 q n xs ys (f11 q n xs ys e)
   omega
 |dK a1 a2 a3 a4 a5=>
  by_cases h1:s.c=1
  ·refine key 1 (.gT 103 xs) (by rw[a4,h1];exact Oa) rfl rfl rfl rfl (by simp[Wk.ah]) ⟨(MY _ _ _).aD,rfl⟩ λmt' hm=>?_
   obtain⟨_,_,_,_,f5,_,f7,f8,f9,_,f11,_⟩:=hm.facts (X:=X)
   have hself:=(s.fc mt' k (.gT 103 xs) (s.ow k)).1
   refine .last k (f8.trans a1) hk ?_ ?_ (λi hi hik=>?_) ?_ a5
   ·show 1<=((s.wk mt' k (.gT 103 xs) (s.ow k)).ws k).ah;rw[hself];simp[Wk.ah]
   ·show ((s.wk mt' k (.gT 103 xs) (s.ow k)).ws k).ah<=3;rw[hself];simp[Wk.ah]
   ·show ((s.wk mt' k (.gT 103 xs) (s.ow k)).ws i).ah=0
    rw[(s.gW mt' (.gT 103 xs) (s.ow k) hik).1]
    have hz:=zq (f:=λi=>(s.ws i).cnt) hk (by show s.c=(s.ws k).cnt;omega) i hi hik
    rcases a2 i hi with h|h
    ·exact h
    ·have:=(Wk.vA (s.ws i)).2 h;omega
   ·show (1:Nat)=if ((s.wk mt' k (.gT 103 xs) (s.ow k)).ws k).ah=1 then 0 else 1
    rw[hself];simp[Wk.ah]
  ·have hl:=VO X.p xs X.M.wg (N:=s.c - 1) (by omega) (by omega)
   rw[show s.c - 1+1=s.c by omega,←a4] at hl
   refine key _ (.quit 94) hl.1 rfl rfl rfl rfl (by simp[Wk.ah]) hl.2 λmt' hm=>?_
   obtain⟨_,_,_,_,f5,_,f7,f8,f9,_,f11,_⟩:=hm.facts (X:=X)
   have:=hcc mt' (.quit 94) rfl
   refine .dK (f8.trans a1) (hnl mt' _ rfl a2) (by show 1<=(s.wk mt' k (.quit 94) (s.ow k)).c;omega) ?_ a5
   show (s.c - 1)*aM+1=(s.wk mt' k (.quit 94) (s.ow k)).c*aM+1
   congr 2
   omega
 |last q a1 a2 a3 a4 a5 a6 a7=>
  by_cases hq:k=q
  ·subst hq;omega
  ·have:=a5 k hk hq;omega
 |fC a1 a2 a3 a4 a5=>have:=a3 k hk;omega
 |done a1 a2 a3 a4 a5=>have:=a3 k hk;omega
theorem uX{s:PS}(H:Wg s){k:Nat}(hk:k< s.j)(h1:1<=(s.ws k).ah)(h3:(s.ws k).ah<=3):jA s.mt=true/\(∀i,i< s.j->i≠k->(s.ws i).ah=0)/\s.st=(if (s.ws k).ah=1 then 0 else 1)/\s.sm=0:=by
 cases H with
 |opn a1 a2 a3 a4 a5=>have:=a2 k hk;omega
 |dK a1 a2 a3 a4 a5=>have:=a2 k hk;omega
 |last q a1 a2 a3 a4 a5 a6 a7=>
  by_cases hq:k=q
  ·subst hq;exact⟨a1,a5,a6,a7⟩
  ·have:=a5 k hk hq;omega
 |fC a1 a2 a3 a4 a5=>have:=a3 k hk;omega
 |done a1 a2 a3 a4 a5=>have:=a3 k hk;omega
theorem OH(O:aP T Goal X){s:PS}{gs:Array Goroutine}{v:World}{sl:Option (Nat×Nat)}{t:Trace}(H:PI T Goal X s gs v t)(hfin:∀n xs,s.mt= .fin n xs->False){k:Nat}(hk:k< s.j){xs:Nat->Value}(hσ:s.ws k= .gT 0 xs):bA T Goal X s gs v sl t (X.n0+k):=by
 obtain⟨g,hg,hW⟩:=H.gs.work k hk
 rw[hσ] at hW
 obtain⟨hgl,hd⟩:=hW
 cases hgl
 have hr:(s.ws k).ah=3:=by rw[hσ];rfl
 obtain⟨l1,l2,l3,l4⟩:=uX H.wg hk (by omega) (by omega)
 rw[hr] at l3
 have hst:s.st=1:=by simpa using l3
 have hc:=H.wd.cell0
 rw[hst] at hc
 have e:=aI.value (xl (cD X.p xs) (fN X.p xs) X.M.wg) (G6 _ _ _) (w:=v) (w':=v) (es:=#[aN (.extern 149),⟨.cell (bC X),false,true⟩]) ⟨hc,rfl,rfl⟩
 rw[VL] at e
 have hev:=pG (X:=X) (s':=s.wk s.mt k (.gH 20 xs) (s.ow k)) (g:=X.n0+k) H.wd.size (es:=#[⟨.cell (bC X),false,true⟩]) (λe he=>by simp at he;subst he;exact .inl ⟨0,_,rfl⟩)
 obtain⟨r,hrel⟩:=H.tr.rel k hk (by rw[hσ];rfl)
 refine fx O H hk hg e (.gH 20 xs) (s.ow k) s.st s.sm ⟨(Im _ _ _).aD,by rw[show deafBehind (Deaf t (X.n0+k)) _=Deaf t (X.n0+k) from rfl];exact hd⟩ (AI _) (λ_ _ _ _=>rfl) (λb hb=> .inl hb) H.wd.wg ⟨rfl,rfl,rfl⟩ (H.ac.wk _ (by rw[hσ];rfl) (λh=>by cases h) (λ_=>H.ac.gone k hk (by omega))) (λmt' hm _=>?_) hev.1 hev.2.1 (λ_=>⟨r,?_⟩) hev.2.2 hfin (λmt' hm=>iQ hk (by rw[hσ];simp[Wk.ah]) (by rw[hσ];rfl) mt' hm _ _ _)
 ·have f8:=(hm.facts (X:=X)).2.2.2.2.2.2.2.1
  have hself:=(s.fc mt' k (.gH 20 xs) (s.ow k)).1
  refine .last k (f8.trans l1) hk ?_ ?_ (λi hi hik=>?_) ?_ l4
  ·show 1<=((s.wk mt' k (.gH 20 xs) (s.ow k)).ws k).ah;rw[hself];simp[Wk.ah]
  ·show ((s.wk mt' k (.gH 20 xs) (s.ow k)).ws k).ah<=3;rw[hself];simp[Wk.ah]
  ·show ((s.wk mt' k (.gH 20 xs) (s.ow k)).ws i).ah=0
   rw[(s.gW mt' (.gH 20 xs) (s.ow k) hik).1];exact l2 i hi hik
  ·show s.st=if ((s.wk mt' k (.gH 20 xs) (s.ow k)).ws k).ah=1 then 0 else 1
   rw[hself,hst];simp[Wk.ah]
 ·refine RelBy.appOwn hrel _ _ _ λj e he=> .inr ⟨?_,?_⟩
  ·have:e∈(#[⟨.cell (bC X),false,true⟩]:Array Event):=Y0 he
   simp at this
   subst this;exact⟨_,_,rfl⟩
  ·rw[hd]
   have:j=0:=by
    have:=(IN.1 he).1
    simp at this
    omega
   subst this;simp[deafBehind]
theorem WQ(O:aP T Goal X){s:PS}{gs:Array Goroutine}{v:World}{sl:Option (Nat×Nat)}{t:Trace}(H:PI T Goal X s gs v t)(hfin:∀n xs,s.mt= .fin n xs->False){k:Nat}(hk:k< s.j){xs:Nat->Value}(hσ:s.ws k= .gH 0 xs):bA T Goal X s gs v sl t (X.n0+k):=by
 obtain⟨g,hg,hW⟩:=H.gs.work k hk
 rw[hσ] at hW
 obtain⟨hgl,hd⟩:=hW
 cases hgl
 have hr:(s.ws k).ah=2:=by rw[hσ];rfl
 obtain⟨l1,l2,l3,l4⟩:=uX H.wg hk (by omega) (by omega)
 have so:=lr v X.M.wg 0
 have e:=aI.value (yc (cD X.p xs) (fN X.p xs) X.M.wg) (Ky _ _ _) (w:=v) (w':=v.setCell ⟨X.M.wg,0,none⟩ (.int .u64 0)) (es:=#[aN (.extern 150),⟨.cell (bC X),true,true⟩]) ⟨by simp,by simp,⟨_,H.wd.cell0⟩,H.wd.frozen 0,rfl,rfl⟩
 rw[Jh] at e
 have hev:=pG (X:=X) (s':=s.wk s.mt k (.gf 27 xs) (s.ow k)) (g:=X.n0+k) (B:=(v.setCell ⟨X.M.wg,0,none⟩ (.int .u64 0)).heap.size) (by rw[(so _).1];exact H.wd.size) (es:=#[⟨.cell (bC X),true,true⟩]) (λe he=>by simp at he;subst he;exact .inl ⟨0,_,rfl⟩)
 obtain⟨r,hrel⟩:=H.tr.rel k hk (by rw[hσ];rfl)
 refine fx O H hk hg e (.gf 27 xs) (s.ow k) 0 s.sm ⟨(R3 _ _ _).aD,by rw[show deafBehind (Deaf t (X.n0+k)) _=Deaf t (X.n0+k) from rfl];exact hd⟩ (by rw[(so _).1];exact AI _) (λb _ _ hb=>(so _).2 b hb) (λb hb=> .inl hb) (H.wd.xx 0) ⟨rfl,rfl,rfl⟩ (H.ac.wk _ (by rw[hσ];rfl) (λh=>by cases h) (λ_=>H.ac.gone k hk (by omega))) (λmt' hm _=>?_) hev.1 hev.2.1 (λ_=>⟨r,?_⟩) hev.2.2 hfin (λmt' hm=>iQ hk (by rw[hσ];simp[Wk.ah]) (by rw[hσ];rfl) mt' hm _ _ _)
 ·have f8:=(hm.facts (X:=X)).2.2.2.2.2.2.2.1
  have hself:=(s.fc mt' k (.gf 27 xs) (s.ow k)).1
  refine .last k (f8.trans l1) hk ?_ ?_ (λi hi hik=>?_) ?_ l4
  ·show 1<=((s.wk mt' k (.gf 27 xs) (s.ow k)).ws k).ah;rw[hself];simp[Wk.ah]
  ·show ((s.wk mt' k (.gf 27 xs) (s.ow k)).ws k).ah<=3;rw[hself];simp[Wk.ah]
  ·show ((s.wk mt' k (.gf 27 xs) (s.ow k)).ws i).ah=0
   rw[(s.gW mt' (.gf 27 xs) (s.ow k) hik).1];exact l2 i hi hik
  ·show (0:Nat)=if ((s.wk mt' k (.gf 27 xs) (s.ow k)).ws k).ah=1 then 0 else 1
   rw[hself];simp[Wk.ah]
 ·refine RelBy.appOwn hrel _ _ _ λj e he=> .inr ⟨?_,?_⟩
  ·have:e∈(#[⟨.cell (bC X),true,true⟩]:Array Event):=Y0 he
   simp at this
   subst this;exact⟨_,_,rfl⟩
  ·rw[hd]
   have:j=0:=by
    have:=(IN.1 he).1
    simp at this
    omega
   subst this;simp[deafBehind]
theorem Ry(O:aP T Goal X){s:PS}{gs:Array Goroutine}{v:World}{sl:Option (Nat×Nat)}{t:Trace}(H:PI T Goal X s gs v t)(hfin:∀n xs,s.mt= .fin n xs->False){k:Nat}(hk:k< s.j){xs:Nat->Value}(hσ:s.ws k= .gf 0 xs):bA T Goal X s gs v sl t (X.n0+k):=by
 obtain⟨g,hg,hW⟩:=H.gs.work k hk
 rw[hσ] at hW
 obtain⟨hgl,hd⟩:=hW
 cases hgl
 have hr:(s.ws k).ah=1:=by rw[hσ];rfl
 obtain⟨l1,l2,l3,l4⟩:=uX H.wg hk (by omega) (by omega)
 rw[hr] at l3
 have hst:s.st=0:=by simpa using l3
 have so:=lr v X.M.wg 1
 have hc:=H.wd.AW
 rw[l4] at hc
 have e:=aI.value (xJ (cD X.p xs) (fN X.p xs) X.M.wg) (MQ _ _ _) (w:=v) (w':=v.setCell ⟨X.M.wg,1,none⟩ (.int .u32 1)) (es:=#[aN (.extern 130),aN .disable,⟨.cell ⟨X.M.wg,1,none⟩,false,true⟩,⟨.cell ⟨X.M.wg,1,none⟩,true,true⟩,aN .enable]) ⟨hc,by simp,by simp,⟨_,hc⟩,H.wd.frozen 1,rfl,rfl⟩
 rw[NG] at e
 have hev:=pG (X:=X) (s':=s.wk s.mt k (.quit 24) (s.ow k)) (g:=X.n0+k) (B:=(v.setCell ⟨X.M.wg,1,none⟩ (.int .u32 1)).heap.size) (by rw[(so _).1];exact H.wd.size) (es:=#[aN .disable,⟨.cell ⟨X.M.wg,1,none⟩,false,true⟩,⟨.cell ⟨X.M.wg,1,none⟩,true,true⟩,aN .enable]) (λe he=>by
  simp at he
  rcases he with rfl|rfl|rfl|rfl
  ·exact .inr (.inl rfl)
  ·exact .inl ⟨1,_,rfl⟩
  ·exact .inl ⟨1,_,rfl⟩
  ·exact .inr (.inr (.inl rfl)))
 obtain⟨r,hrel⟩:=H.tr.rel k hk (by rw[hσ];rfl)
 refine fx O H hk hg e (.quit 24) (s.ow k) s.st 1 (by rw[hd];exact Tq _ _ _ (my X.p xs)) (by rw[(so _).1];exact AI _) (λb _ _ hb=>(so _).2 b hb) (λb hb=> .inl hb) (H.wd.Ci 1) ⟨rfl,rfl,rfl⟩ (H.ac.wk _ (by rw[hσ];rfl) (λh=>by cases h) (λ_=>H.ac.gone k hk (by omega))) (λmt' hm hb=>?_) hev.1 hev.2.1 (λ_=>⟨r,?_⟩) hev.2.2 hfin (λmt' hm=>iQ hk (by rw[hσ];simp[Wk.ah]) (by rw[hσ];rfl) mt' hm _ _ _)
 ·have f8:=(hm.facts (X:=X)).2.2.2.2.2.2.2.1
  refine .fC (f8.trans l1) (hb (Qv _ _ _) rfl) (λi hi=>?_) hst rfl
  show ((s.wk mt' k (.quit 24) (s.ow k)).ws i).ah=0
  by_cases hik:i=k
  ·subst hik;rw[(s.fc mt' i (.quit 24) (s.ow i)).1];rfl
  ·rw[(s.gW mt' (.quit 24) (s.ow k) hik).1];exact l2 i hi hik
 ·refine RelBy.appOwn hrel _ _ _ λj e he=>?_
  have hj:j=0\/j=1\/j=2\/j=3:=by
   have:=(IN.1 he).1
   simp at this
   omega
  rw[hd]
  rcases hj with rfl|rfl|rfl|rfl
  ·simp at he;subst he;exact .inl rfl
  ·simp at he;subst he;exact .inr ⟨⟨_,_,rfl⟩,by simp[deafBehind,aN]⟩
  ·simp at he;subst he;exact .inr ⟨⟨_,_,rfl⟩,by simp[deafBehind,aN]⟩
  ·simp at he;subst he;exact .inl rfl
end
end
end Go.Proofs.YtldmcdeibiclkaaGreatDoor.U
