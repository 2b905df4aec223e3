/-
  Toward settled_holds: THE POOL's MACHINE: a worker in its calls.
-/
import Derived.Test.YtldmcdeibiclkaaGreatDoorC09
set_option linter.unusedVariables false
set_option linter.unusedSimpArgs false
set_option maxRecDepth 100000
set_option maxHeartbeats 20000000
namespace Go.Proofs.YtldmcdeibiclkaaGreatDoor.U
variable {s s':PS}{v v1:World}{t:Trace}{k i j N:Nat}{gs:Array Goroutine}{sl:Option (Nat×Nat)}{xs:Nat->Value}{es:Array Event}{l:List Nat}{x:jE}{g:Goroutine}
section
open Go.Conc
open Go.ConcN (upd upd_same upd_ne sumTo sumTo_upd sumTo_congr RelBy)
section
variable {L:aA} {T:aN} {Goal:Frame->List Frame->World->Prop} {X:PC L}
theorem uh{Rg Wg:Nat->Prop}(h:∀e∈es,kK Rg Wg e)(d:Nat):deafBehind d es=d:=deafBehind_still (λe he=>by
 rcases h e he with ⟨a,wr,rfl,_⟩|⟨r,wr,rfl,_⟩|rfl<;>exact⟨by simp,by simp⟩) d
theorem uq(O:aL T Goal X)(hk:k< s'.j){ow:Nat->Prop}(how:s'.ow k=ow)(hlow:∀b,ow b->b< v1.heap.size)(hv:X.E.v0.heap.size<=v1.heap.size)(h:∀e∈es,kK (λt=>(∃r,X.E.ρ r t)\/ow t) ow e):
  (∀e∈es,∀a,(MemAct.ofEvent e).touch? =some a->a.loc.isMemory=true/\mL (iG X s') (X.n0+k) a)/\(∀e∈es,(MemAct.ofEvent e).low v1.heap.size)/\∀e∈es,e.loc≠.mark (.release (bH X)):=by
 have ro:∀b,(∃r,X.E.ρ r b)->(iG X s').ro b:=λb ⟨r,hr⟩=> .inl ⟨(O.K.cy r b hr).2,O.DU r b hr⟩;have own:∀b,ow b->(iG X s').ow (X.n0+k) b:=λb hb=>⟨k,hk,rfl,by rw[how];exact hb⟩
 have low:∀b,(∃r,X.E.ρ r b)\/ow b->b< v1.heap.size:=λb hb=>hb.elim (λ⟨r,hr⟩=>Xc (O.K.cy r b hr).2 hv) (hlow b);refine⟨λe he a ha=>?_,λe he=>?_,λe he=>?_⟩
 ·rcases h e he with ⟨c,wr,rfl,h1,h2⟩|⟨r,wr,rfl,h1,h2⟩|rfl
  ·simp only[MemAct.ofEvent,MemAct.touch?,Xa] at ha;subst ha;refine⟨rfl,λb hb=>?_⟩;simp only[blk,Xa] at hb;subst hb;cases wr with
   |true=>exact .inl ⟨own _ (h2 rfl),rfl⟩
   |false=>
    rcases h1 with h1|h1
    ·exact .inr (.inl ⟨ro _ h1,rfl,rfl⟩)
    ·exact .inl ⟨own _ h1,rfl⟩
  ·simp only[MemAct.ofEvent,MemAct.touch?,Xa] at ha;subst ha;refine⟨rfl,λb hb=>?_⟩;simp only[blk,Xa] at hb;subst hb;cases wr with
   |true=>exact .inl ⟨own _ (h2 rfl),rfl⟩
   |false=>
    rcases h1 with h1|h1
    ·exact .inr (.inl ⟨ro _ h1,rfl,rfl⟩)
    ·exact .inl ⟨own _ h1,rfl⟩
  ·simp[MemAct.ofEvent,MemAct.touch?] at ha
 ·rcases h e he with ⟨c,wr,rfl,h1,_⟩|⟨r,wr,rfl,h1,_⟩|rfl
  ·exact od (low _ h1) _ _
  ·simp only[MemAct.ofEvent,MemAct.low,Loc.low];exact low _ h1
  ·trivial
 ·rcases h e he with ⟨c,wr,rfl,_⟩|⟨r,wr,rfl,_⟩|rfl<;>simp
theorem EG(O:aL T Goal X)(H:PI T Goal X s gs v t)(hfin:∀n xs,s.mt= .fin n xs->False)(hk:k< s.j)(hσ:s.ws k= .ops i (j::l) xs)(hj:j=4\/j=5):bK T Goal X s gs v sl t (X.n0+k):=by
 obtain⟨g,hg,hW⟩:=H.gs.work k hk;rw[hσ] at hW;obtain⟨rfl,hd,_,ho⟩:=hW;obtain⟨hh,hgd⟩:=qH ho.jw;have hr:(s.ws k).ah=21+2*(l.length+1):=by rw[hσ];rfl
 rcases hj with rfl|rfl
 ·simp only[nP,IN,Bool.not_eq_true'] at hh;obtain⟨Y,st,g1,e,h7,hC⟩:=Qi O.A O.K (O.nK i ho.lt) X.p l (ho.d2 (by rw[bI _ (by omega)];exact hh.1.1)) (ho.d3 (by rw[bI _ (by omega)];exact hh.1.2)) H.wd.old;exact fE O H hk hg e (.text i l xs st) (s.ow k) s.st s.sm ⟨hd,ho,Y,h7,hC.low _ λ_ h=>h.elim⟩ (iR _) (λ_ _ _ _=>rfl) (λb hb=> .inl hb) H.wd.wg ⟨rfl,rfl,rfl⟩
   (H.ac.wk _ (by rw[hσ];rfl) (λh=>by cases h) (λh=>by simp only[Wk.ah] at h;omega)) (λmt' hm _=>H.wg.im X hk _ (by omega) (by simp only[Wk.ah];omega) (by rw[hσ];rfl) mt' hm) (λe he=>by simp at he) (λe he=>by simp at he) (λh=>by cases h) (λe he=>by simp at he) hfin (λmt' hm=>iJ hk (by rw[hσ];simp only[Wk.ah,Xp];omega) (by rw[hσ];rfl) mt' hm _ _ _)
 ·simp only[nP,IN,Bool.not_eq_true'] at hh;obtain⟨t',h13,hm⟩:=ho.d4 (by rw[bI _ (by omega)];exact hh.1) (by simp);obtain⟨Y,st,g1,e,h7,hC⟩:=K8 O.A O.K hm X.p l h13 H.wd.old;exact fE O H hk hg e (.jK i l xs st) (s.ow k) s.st s.sm ⟨hd,ho,Y,h7,hC.low _ λ_ h=>h.elim⟩ (iR _) (λ_ _ _ _=>rfl) (λb hb=> .inl hb) H.wd.wg ⟨rfl,rfl,rfl⟩
   (H.ac.wk _ (by rw[hσ];rfl) (λh=>by cases h) (λh=>by simp only[Wk.ah] at h;omega)) (λmt' hm _=>H.wg.im X hk _ (by omega) (by simp only[Wk.ah];omega) (by rw[hσ];rfl) mt' hm) (λe he=>by simp at he) (λe he=>by simp at he) (λh=>by cases h) (λe he=>by simp at he) hfin (λmt' hm=>iJ hk (by rw[hσ];simp only[Wk.ah,Xp];omega) (by rw[hσ];rfl) mt' hm _ _ _)
theorem B8(hk:k< s.j)(h4:s.j<=4){σ:Wk}{x':jE}(hr:σ.ah=(s.ws k).ah)(hc:σ.cnt=(s.ws k).cnt)(ht:(s.ws k).tree=some x)(ht':σ.tree=some x')(hn:ny Qg Goal x' x)(mt':Mt)(hm:jf s.mt mt')(ow:Nat->Prop)(st sm:Nat):pf Goal X {s.wk mt' k σ ow with st:=st,sm:=sm} s:=by
 have h1:=s.oY mt' hk σ ow Wk.ah;have h2:=s.mI mt' hk σ ow;have h3:(s.wk mt' k σ ow).c=s.c:=by omega
 have h5:=(hm.facts (X:=X)).1 s.c;refine .inr (.inl ⟨?_,k,by omega,x,x',?_,?_,hn,λi hi=>?_⟩)
 ·show mt'.ah (s.wk mt' k σ ow).c+sumTo s.j (λi=>((s.wk mt' k σ ow).ws i).ah)+12*(s.wk mt' k σ ow).c+60*(X.E.n - s.rN)=s.mt.ah s.c+sumTo s.j (λi=>(s.ws i).ah)+12*s.c+60*(X.E.n - s.rN);rw[h3];omega
 ·simp[PS.jL,hk,ht]
 ·show (if k< s.j then ((s.wk mt' k σ ow).ws k).tree else none)=some x';rw[(s.fy mt' k σ ow).1];simp[hk,ht']
 ·show (if i< s.j then ((s.wk mt' k σ ow).ws i).tree else none)=if i< s.j then (s.ws i).tree else none
  rw[(s.hZ mt' σ ow hi).1]
theorem Hl(O:aL T Goal X)(H:Ac X s)(G:Gs T Goal X s gs v t):s.j<=4:=by
 have h1:=O.nw;have h2:=H.on;obtain⟨h,_,hM⟩:=G.main;cases hmt:s.mt<;>rw[hmt] at h2 hM<;>simp only[Mt.on] at h2<;>simp only[cu] at hM<;>omega
theorem EL(O:aL T Goal X)(H:PI T Goal X s gs v t)(hfin:∀n xs,s.mt= .fin n xs->False)(hk:k< s.j)(hσ:s.ws k= .text i l xs x\/s.ws k= .jK i l xs x):bK T Goal X s gs v sl t (X.n0+k):=by
 obtain⟨g,hg,hW⟩:=H.gs.work k hk;have h4:=Hl O H.ac H.gs;have e6:=O.wg;have hold:=H.wd.old.1;have hwg0: ¬ s.ow k X.M.wg:=λh=>by have:=(H.tr.own k _ hk h).1;omega
 rcases hσ with hσ|hσ
 ·rw[hσ] at hW;obtain⟨hd,ho,Y,h7,hC⟩:=hW;have hr:(s.ws k).ah=22+2*l.length:=by rw[hσ];rfl
  rcases hC.step O.A with ⟨g1,v1,fs,x1,e,hC1,hn,hD⟩|⟨xv,y,fs,w1,e,hsafe,hkeep,hstr,_,hev⟩
  ·have hevs:=uq O (s':=s.wk s.mt k (.text i l xs x1) λb=>s.ow k b\/(v.heap.size<=b/\b< v1.heap.size)) hk (s.fy s.mt k _ _).2 (v1:=v1) (λb hb=>hb.elim (λh=>Xc (H.tr.own k b hk h).2 hD.grow) (·.2)) (Xb hold hD.grow) hD.oQ;exact fE O H hk hg e (.text i l xs x1) _ s.st s.sm ⟨by rw[uh hD.oQ];exact hd,ho,Y,h7,hC1⟩ hD.grow (λb hb hno _=>hD.gf b hb hno) (λb hb=>hb) (by rw[hD.gf _ H.wd.size hwg0];exact H.wd.wg) ⟨hD.tape,hD.os,hD.output⟩
    (H.ac.wk _ (by rw[hσ];rfl) (λh=>by cases h) (λh=>by simp only[Wk.ah] at h;omega)) (λmt' hm _=>H.wg.im X hk _ (by omega) (by simp only[Wk.ah];omega) (by rw[hσ];rfl) mt' hm) hevs.1 hevs.2.1 (λh=>by cases h) hevs.2.2 hfin (λmt' hm=>B8 hk h4 (by rw[hσ];rfl) (by rw[hσ];rfl) (by rw[hσ];rfl) rfl hn mt' hm _ _ _)
  ·obtain⟨t',rfl,hmid⟩:=S3 O.A h7 hsafe hkeep;obtain rfl:=hstr t' rfl;have hevs:=uq O (s':=s.wk s.mt k (.ops i l (upd xs 13 (.string t'))) (s.ow k)) hk (s.fy s.mt k _ _).2 (v1:=v) (λb hb=>(H.tr.own k b hk hb).2) hold hev;obtain⟨hh,hgd⟩:=qH ho.jw;simp only[nP,IN,Bool.not_eq_true'] at hh;have hne:l≠[]:=oZ (m:=5) hh.2;have e':stepG Pg false g v= .go (bu X.p (upd xs 13 (.string t')) l) v fs:=by rw[←QW];exact e
   exact fE O H hk hg e' (.ops i l (upd xs 13 (.string t'))) (s.ow k) s.st s.sm ⟨rfl,by rw[uh hev];exact hd,hne,hgd,ho.lt,ho.x4,λh=>ho.d0 (by rw[bI _ (by omega)];exact h),λh=>ho.d1 (by rw[bI _ (by omega)];exact h),λh=>ho.d2 (by rw[bI _ (by omega)];exact h),λh=>ho.d3 (by rw[bI _ (by omega)];exact h),λ_ _=>⟨t',rfl,hmid⟩,λh=>(by rw[hh.2] at h;cases h),λh=>ho.d6 (by rw[bI _ (by omega)];exact h)⟩ (iR _) (λ_ _ _ _=>rfl) (λb hb=> .inl hb) H.wd.wg ⟨rfl,rfl,rfl⟩
    (H.ac.wk _ (by rw[hσ];rfl) (λh=>by cases h) (λh=>by simp only[Wk.ah] at h;omega)) (λmt' hm _=>H.wg.im X hk _ (by omega) (by simp only[Wk.ah];omega) (by rw[hσ];rfl) mt' hm) hevs.1 hevs.2.1 (λh=>by cases h) hevs.2.2 hfin (λmt' hm=>iJ hk (by rw[hσ];simp only[Wk.ah];omega) (by rw[hσ];rfl) mt' hm _ _ _)
 ·rw[hσ] at hW;obtain⟨hd,ho,Y,h7,hC⟩:=hW;have hr:(s.ws k).ah=22+2*l.length:=by rw[hσ];rfl
  rcases hC.step O.A with ⟨g1,v1,fs,x1,e,hC1,hn,hD⟩|⟨xv,y,fs,w1,e,hsafe,hkeep,_,hint,hev⟩
  ·have hevs:=uq O (s':=s.wk s.mt k (.jK i l xs x1) λb=>s.ow k b\/(v.heap.size<=b/\b< v1.heap.size)) hk (s.fy s.mt k _ _).2 (v1:=v1) (λb hb=>hb.elim (λh=>Xc (H.tr.own k b hk h).2 hD.grow) (·.2)) (Xb hold hD.grow) hD.oQ;exact fE O H hk hg e (.jK i l xs x1) _ s.st s.sm ⟨by rw[uh hD.oQ];exact hd,ho,Y,h7,hC1⟩ hD.grow (λb hb hno _=>hD.gf b hb hno) (λb hb=>hb) (by rw[hD.gf _ H.wd.size hwg0];exact H.wd.wg) ⟨hD.tape,hD.os,hD.output⟩
    (H.ac.wk _ (by rw[hσ];rfl) (λh=>by cases h) (λh=>by simp only[Wk.ah] at h;omega)) (λmt' hm _=>H.wg.im X hk _ (by omega) (by simp only[Wk.ah];omega) (by rw[hσ];rfl) mt' hm) hevs.1 hevs.2.1 (λh=>by cases h) hevs.2.2 hfin (λmt' hm=>B8 hk h4 (by rw[hσ];rfl) (by rw[hσ];rfl) (by rw[hσ];rfl) rfl hn mt' hm _ _ _)
  ·obtain rfl:=NH O.A h7 hsafe;obtain rfl:=hint (X.a i) rfl;have hevs:=uq O (s':=s.wk s.mt k (.ops i l (upd xs 14 (.int .u64 (X.a i)))) (s.ow k)) hk (s.fy s.mt k _ _).2 (v1:=v) (λb hb=>(H.tr.own k b hk hb).2) hold hev;obtain⟨hh,hgd⟩:=qH ho.jw;simp only[nP,IN,Bool.not_eq_true'] at hh;have hne:l≠[]:=oZ (m:=6) hh.2;have e':stepG Pg false g v= .go (bu X.p (upd xs 14 (.int .u64 (X.a i))) l) v fs:=by rw[←N9];exact e
   exact fE O H hk hg e' (.ops i l (upd xs 14 (.int .u64 (X.a i)))) (s.ow k) s.st s.sm ⟨rfl,by rw[uh hev];exact hd,hne,hgd,ho.lt,ho.x4,λh=>ho.d0 (by rw[bI _ (by omega)];exact h),λh=>ho.d1 (by rw[bI _ (by omega)];exact h),λh=>ho.d2 (by rw[bI _ (by omega)];exact h),λh=>ho.d3 (by rw[bI _ (by omega)];exact h),λh h5=>ho.d4 (by rw[bI _ (by omega)];exact h) (by simp),λ_=>rfl,λh=>ho.d6 (by rw[bI _ (by omega)];exact h)⟩ (iR _) (λ_ _ _ _=>rfl) (λb hb=> .inl hb) H.wd.wg ⟨rfl,rfl,rfl⟩
    (H.ac.wk _ (by rw[hσ];rfl) (λh=>by cases h) (λh=>by simp only[Wk.ah] at h;omega)) (λmt' hm _=>H.wg.im X hk _ (by omega) (by simp only[Wk.ah];omega) (by rw[hσ];rfl) mt' hm) hevs.1 hevs.2.1 (λh=>by cases h) hevs.2.2 hfin (λmt' hm=>iJ hk (by rw[hσ];simp only[Wk.ah];omega) (by rw[hσ];rfl) mt' hm _ _ _)
end
end
section
open Go.Conc
open Go.ConcN (upd upd_same upd_ne sumTo sumTo_upd sumTo_congr le_sumTo RelBy)
section
variable {L:aA} {T:aN} {Goal:Frame->List Frame->World->Prop} {X:PC L}
theorem Wd.shape{s:PS}{v:World}(H:Wd X s v):v.shape? X.M.wg=some (188,2):=by simp[World.shape?,H.wg]
theorem Wd.cell0(H:Wd X s v):v.cell? ⟨X.M.wg,0,none⟩=some (.int .u64 s.st):=by simp[World.cell?,H.wg]
theorem Wd.Db(H:Wd X s v):v.cell? ⟨X.M.wg,1,none⟩=some (.int .u32 s.sm):=by simp[World.cell?,H.wg]
theorem Wd.frozen{s:PS}{v:World}(H:Wd X s v)(o:Nat):v.frozen? ⟨X.M.wg,o,none⟩=false:=by simp[World.frozen?,H.wg]
theorem Wd.zH(H:Wd X s v)(st:Nat):(v.setCell ⟨X.M.wg,0,none⟩ (.int .u64 st)).heap[X.M.wg]? =some (.cells #[.int .u64 st,.int .u32 s.sm] 188):=by simp[World.setCell,Array.getElem?_modify,H.wg]
theorem Wd.Au(H:Wd X s v)(sm:Nat):(v.setCell ⟨X.M.wg,1,none⟩ (.int .u32 sm)).heap[X.M.wg]? =some (.cells #[.int .u64 s.st,.int .u32 sm] 188):=by simp[World.setCell,Array.getElem?_modify,H.wg]
theorem lx(v:World)(b o:Nat)(x:Value):(v.setCell ⟨b,o,none⟩ x).heap.size=v.heap.size/\∀c,c≠b->(v.setCell ⟨b,o,none⟩ x).heap[c]? =v.heap[c]? :=
 ⟨by simp[World.setCell],λc hc=>by simp[World.setCell,Array.getElem?_modify,Xl hc]⟩
theorem pJ{g B:Nat}(hB:X.M.wg< B)(h:∀e∈es,(∃o wr,e=⟨.cell ⟨X.M.wg,o,none⟩,wr,true⟩)\/e=aM .disable\/e=aM .enable\/e=aM (.releaseMerge (bH X))):
  (∀e∈es,∀a,(MemAct.ofEvent e).touch? =some a->a.loc.isMemory=true/\mL (iG X s') g a)/\(∀e∈es,(MemAct.ofEvent e).low B)/\∀e∈es,e.loc≠.mark (.release (bH X)):=by
 refine⟨λe he a ha=>?_,λe he=>?_,λe he=>?_⟩
 ·rcases h e he with ⟨o,wr,rfl⟩|rfl|rfl|rfl
  ·simp only[MemAct.ofEvent,MemAct.touch?,Xa] at ha;subst ha;refine⟨rfl,λb hb=>?_⟩;simp only[blk,Xa] at hb;subst hb;exact .inr (.inr ⟨.inl rfl,by simp,by simp⟩)
  ·simp[aM,MemAct.ofEvent,MemAct.touch?] at ha
  ·simp[aM,MemAct.ofEvent,MemAct.touch?] at ha
  ·simp[aM,MemAct.ofEvent,MemAct.touch?] at ha
 ·rcases h e he with ⟨o,wr,rfl⟩|rfl|rfl|rfl
  ·exact od hB _ _
  ·trivial
  ·trivial
  ·exact hB
 ·rcases h e he with ⟨o,wr,rfl⟩|rfl|rfl|rfl<;>simp[aM]
theorem Wl{a:Addr}(hd:Deaf t k=0)(fn:FuncId)(pos:String): ∃r,RelBy a (t++MemOp.ofEvents k fn pos #[aM (.releaseMerge a)]) k r:=by
 have e:MemOp.ofEvents k fn pos #[aM (.releaseMerge a)]=#[{g:=k,fn,pos,act:= .mark (.releaseMerge a)}]:=by simp[ofEvents_eq,aM,MemAct.ofEvent]
 rw[e];have hx:(t++#[({g:=k,fn,pos,act:= .mark (.releaseMerge a)}:MemOp)])[t.size]? =some {g:=k,fn,pos,act:= .mark (.releaseMerge a)}:=by rw[Array.getElem?_append_right (iR _)];simp
 refine⟨t.size,by simp[Trace.act?,hx],by simp[Trace.g?,hx],⟨k,by simp[Trace.g?,hx],by rw[deaf_old (iR _)];exact hd⟩,λi hi hg=>?_⟩;have:(t++#[({g:=k,fn,pos,act:= .mark (.releaseMerge a)}:MemOp)]).g? i=none:=by simp[Trace.g?];omega
 rw[this] at hg;cases hg
theorem NX(O:aL T Goal X)(H:PI T Goal X s gs v t)(hfin:∀n xs,s.mt= .fin n xs->False)(hk:k< s.j)(hσ:s.ws k= .conv 0 xs):bK T Goal X s gs v sl t (X.n0+k):=by
 obtain⟨g,hg,hW⟩:=H.gs.work k hk;rw[hσ] at hW;obtain⟨hgl,hd⟩:=hW;cases hgl;have e:=aI.value (wV (cD X.p xs::fU X.p xs) X.M.wg) (Ib _ _) (w:=v) (w':=v) (es:=#[]) ⟨H.wd.shape,H.wd.shape,rfl,rfl⟩;rw[eS] at e;have hr:(s.ws k).ah=7:=by rw[hσ];rfl
 exact fE O H hk hg e (.ot xs) (s.ow k) s.st s.sm ⟨rfl,hd⟩ (iR _) (λ_ _ _ _=>rfl) (λb hb=> .inl hb) H.wd.wg ⟨rfl,rfl,rfl⟩
  (H.ac.wk _ (by rw[hσ];rfl) (λh=>by cases h) (λ_=>H.ac.gone k hk (by omega))) (λmt' hm _=>H.wg.im X hk _ (by omega) (by simp[Wk.ah]) (by rw[hσ];rfl) mt' hm) (λe he=>by simp at he) (λe he=>by simp at he) (λh=>by cases h) (λe he=>by simp at he) hfin (λmt' hm=>iJ hk (by rw[hσ];simp[Wk.ah]) (by rw[hσ];rfl) mt' hm _ _ _)
theorem Mg(O:aL T Goal X)(H:PI T Goal X s gs v t)(hfin:∀n xs,s.mt= .fin n xs->False)(hk:k< s.j)(hσ:s.ws k= .ot xs):bK T Goal X s gs v sl t (X.n0+k):=by
 obtain⟨g,hg,hW⟩:=H.gs.work k hk;rw[hσ] at hW;obtain⟨rfl,hd⟩:=hW;have e:=Wn (cD X.p xs::fU X.p xs) X.M.wg v;have hr:(s.ws k).ah=6:=by rw[hσ];rfl
 have hev:=pJ (X:=X) (s':=s.wk s.mt k (.eA 3 xs) (s.ow k)) (g:=X.n0+k) H.wd.size (es:=#[aM (.releaseMerge (bH X))]) (λe he=>by simp at he;exact .inr (.inr (.inr he)));exact fE O H hk hg e (.eA 3 xs) (s.ow k) s.st s.sm ⟨(O0 _ _).aO,hd⟩ (iR _) (λ_ _ _ _=>rfl) (λb hb=> .inl hb) H.wd.wg ⟨rfl,rfl,rfl⟩
  (H.ac.wk _ (by rw[hσ];rfl) (λh=>by cases h) (λ_=>H.ac.gone k hk (by omega))) (λmt' hm _=>H.wg.im X hk _ (by omega) (by simp[Wk.ah]) (by rw[hσ];rfl) mt' hm) hev.1 hev.2.1 (λ_=>Wl hd _ _) hev.2.2 hfin (λmt' hm=>iJ hk (by rw[hσ];simp[Wk.ah]) (by rw[hσ];rfl) mt' hm _ _ _)
theorem Np(O:aL T Goal X)(H:PI T Goal X s gs v t)(hfin:∀n xs,s.mt= .fin n xs->False)(hk:k< s.j)(hσ:s.ws k= .eA 0 xs):bK T Goal X s gs v sl t (X.n0+k):=by
 obtain⟨g,hg,hW⟩:=H.gs.work k hk;rw[hσ] at hW;obtain⟨hgl,hd⟩:=hW;cases hgl;have e:=Ik (cD X.p xs::fU X.p xs) X.M.wg v;have hr:(s.ws k).ah=5:=by rw[hσ];rfl
 have hev:=pJ (X:=X) (s':=s.wk s.mt k (.add 34 xs) (s.ow k)) (g:=X.n0+k) H.wd.size (es:=#[aM .disable]) (λe he=>by simp at he;exact .inr (.inl he));obtain⟨r,hrel⟩:=H.tr.rel k hk (by rw[hσ];rfl);exact fE O H hk hg e (.add 34 xs) (s.ow k) s.st s.sm ⟨RL _ _,by rw[hd];rfl⟩ (iR _) (λ_ _ _ _=>rfl) (λb hb=> .inl hb) H.wd.wg ⟨rfl,rfl,rfl⟩
  (H.ac.wk _ (by rw[hσ];rfl) (λh=>by cases h) (λ_=>H.ac.gone k hk (by omega))) (λmt' hm _=>H.wg.im X hk _ (by omega) (by simp[Wk.ah]) (by rw[hσ];rfl) mt' hm) hev.1 hev.2.1 (λ_=>⟨r,RelBy.still hrel λop ag=>by obtain⟨e,he,rfl⟩:=Go.Conc.mem_ofEvents ag;simp at he;subst he;rfl⟩) hev.2.2 hfin (λmt' hm=>iJ hk (by rw[hσ];simp[Wk.ah]) (by rw[hσ];rfl) mt' hm _ _ _)
theorem QT(O:aL T Goal X)(H:PI T Goal X s gs v t)(hfin:∀n xs,s.mt= .fin n xs->False)(hk:k< s.j){q:Nat}(hσ:s.ws k= .quit q)(hg:gs[X.n0+k]? =some g)(hrun:g.status= .running):bK T Goal X s gs v sl t (X.n0+k):=by
 obtain⟨g',hg',hW⟩:=H.gs.work k hk;rw[hg] at hg';cases hg';rw[hσ] at hW;cases q with
 |zero=>rw[hW.1] at hrun;cases hrun
 |succ q=>
  rcases hW with ⟨hf,_⟩|⟨_,g1,es,hm,hst,hq⟩
  ·rw[hf] at hrun;cases hrun
  have hl:tG (s.ws k) (.quit q):=by rw[hσ];exact⟨rfl,rfl,rfl,rfl,rfl,rfl⟩
  obtain⟨r,hrel⟩:=H.tr.rel k hk (by rw[hσ];rfl);refine fE O H hk hg (hst v) (.quit q) (s.ow k) s.st s.sm hq (iR _) (λ_ _ _ _=>rfl) (λb hb=> .inl hb) H.wd.wg ⟨rfl,rfl,rfl⟩ (λmt' hm=>H.ac.rF hm hl _) (λmt' hm _=>H.wg.rF X hm hk hl _) (λe he a ha=>by rw[touch_mute (hm e he)] at ha;cases ha) (λe he=>low_mute (hm e he) _) (λ_=>⟨r,RelBy.still hrel λop ag=>by obtain⟨e,he,rfl⟩:=Go.Conc.mem_ofEvents ag;exact touch_mute (hm e he)⟩) (λe he h=>?_) hfin (λmt' hm=>?_)
  ·have:=hm e he;obtain⟨loc,wr,sy⟩:=e;simp only at h;subst h;simp[Event.mute] at this
  ·have h1:=s.oY mt' hk (.quit q) (s.ow k) Wk.ah;have h2:=s.mI mt' hk (.quit q) (s.ow k);have h5:=s.oY mt' hk (.quit q) (s.ow k) Wk.idle;rw[hl.ah] at h1;rw[hl.cnt] at h2;have hid:(s.ws k).idle=q+1:=by rw[hσ];rfl
   have hid':(Wk.quit q).idle=q:=rfl;have hf:=hm.facts (X:=X);have h3:(s.wk mt' k (.quit q) (s.ow k)).c=s.c:=by omega
   refine .inr (.inr ⟨?_,s.GF mt' (.quit q) (s.ow k) hl.tree,?_⟩)
   ·show mt'.ah (s.wk mt' k (.quit q) (s.ow k)).c+sumTo s.j (λi=>((s.wk mt' k (.quit q) (s.ow k)).ws i).ah)+12*(s.wk mt' k (.quit q) (s.ow k)).c+60*(X.E.n - s.rN)=s.mt.ah s.c+sumTo s.j (λi=>(s.ws i).ah)+12*s.c+60*(X.E.n - s.rN);rw[h3,hf.1 s.c];omega
   ·show mt'.idle+2*sumTo s.j (λi=>((s.wk mt' k (.quit q) (s.ow k)).ws i).idle)+2*sumTo X.n0 s.q< s.mt.idle+2*sumTo s.j (λi=>(s.ws i).idle)+2*sumTo X.n0 s.q
    have:=hf.2.2.2.2.2.2.2.2.2.1;omega
end
end
section
open Go.Conc
open Go.ConcN (upd upd_same upd_ne sumTo sumTo_upd sumTo_congr sumTo_le le_sumTo RelBy)
theorem Ky(p:Pl)(xs:Nat->Value)(wg:Nat)(h:N<=3):less ((N+1)*bk:Nat)=(N*bk:Nat)/\QuitsD Pg 94 1 (mK (cD p xs::fU p xs) wg (N*bk:Nat)):=by
 rcases (show N=0\/N=1\/N=2\/N=3 by omega) with rfl|rfl|rfl|rfl<;>exact⟨by kernel_rfl,Ce _ _ wg (λw=>by kernel_rfl) (by kernel_rfl) (λw=>by kernel_rfl) (by kernel_rfl) (λw=>by kernel_rfl) (xQ p xs)⟩
theorem MO(p:Pl)(xs:Nat->Value)(wg:Nat)(h1:1<=N)(h:N<=3):less ((N+1)*bk+1:Nat)=(N*bk+1:Nat)/\QuitsD Pg 94 1 (mK (cD p xs::fU p xs) wg (N*bk+1:Nat)):=by
 rcases (show N=1\/N=2\/N=3 by omega) with rfl|rfl|rfl<;>exact⟨by kernel_rfl,Ce _ _ wg (λw=>by kernel_rfl) (by kernel_rfl) (λw=>by kernel_rfl) (by kernel_rfl) (λw=>by kernel_rfl) (xQ p xs)⟩
section
variable {L:aA} {T:aN} {Goal:Frame->List Frame->World->Prop} {X:PC L}
theorem Wk.wm(σ:Wk):σ.cnt<=1:=by cases σ<;>simp[Wk.cnt]
theorem Wk.yW(σ:Wk):(σ.cnt=1↔4<=σ.ah):=by cases σ<;>simp[Wk.cnt,Wk.ah]<;>omega
theorem Mt.Sc(mt:Mt)(c c':Nat):mt.ah c'<=mt.ah c+11:=by
 cases mt<;>simp only[Mt.ah]<;>(try omega);split<;>split<;>omega
theorem FT(O:aL T Goal X)(H:PI T Goal X s gs v t):s.c+s.mt.eL<=4:=by
 have h1:s.c<=1*s.j:=sumTo_le λi _=>Wk.wm _;have h2:=Hl O H.ac H.gs;have h3:=H.ac.on;have h4:=O.nw;obtain⟨h,_,hM⟩:=H.gs.main;cases hmt:s.mt<;>rw[hmt] at h3 hM<;>simp only[Mt.on,cu,Mt.eL] at h3 hM ⊢ <;>omega
theorem Fb{f:Nat->Nat}:∀{j k:Nat},k< j->sumTo j f=f k->∀i,i< j->i≠k->f i=0
 |j+1,k,hk,h,i,hi,hne=>by
  simp only[sumTo] at h;rcases Xy k j with hkj|hkj
  ·have h1:=le_sumTo (f:=f) hkj;rcases Xy i j with hij|hij
   ·exact Fb hkj (by omega) i hij hne
   ·obtain rfl:i=j:=by omega
    omega
  ·obtain rfl:k=j:=by omega
   have h2:=le_sumTo (f:=f) (show i< k by omega);omega
theorem Lu(d:Nat)(a:Addr):deafBehind d #[⟨.cell a,false,true⟩,⟨.cell a,true,true⟩]=d:=rfl
theorem Vi(O:aL T Goal X)(H:PI T Goal X s gs v t)(hfin:∀n xs,s.mt= .fin n xs->False)(hk:k< s.j)(hσ:s.ws k= .add 0 xs):bK T Goal X s gs v sl t (X.n0+k):=by
 obtain⟨g,hg,hW⟩:=H.gs.work k hk;rw[hσ] at hW;obtain⟨hgl,hd⟩:=hW;cases hgl;have hr:(s.ws k).ah=4:=by rw[hσ];rfl
 have hcn:(s.ws k).cnt=1:=by rw[hσ];rfl
 have hc1:1<=s.c:=by have:=le_sumTo (f:=λi=>(s.ws i).cnt) hk;unfold PS.c;omega
 have hcb:=FT O H;have iC:=H.ac.gone k hk (by omega);obtain⟨r,hrel⟩:=H.tr.rel k hk (by rw[hσ];rfl);have hwg0: ¬ s.ow k X.M.wg:=λh=>by have:=(H.tr.own k _ hk h).1;omega
 have so:=lx v X.M.wg 0;have key:∀(st':Nat) (σ:Wk),less s.st=st'->σ.cnt=0->σ.bQ=none->σ.parked=false->σ.rel=true->σ.ah<=3->gR T Goal X (s.ow k) 1 (mK (cD X.p xs::fU X.p xs) X.M.wg st') (v.setCell ⟨X.M.wg,0,none⟩ (.int .u64 st')) σ->
   (∀mt',jf s.mt mt'->Wg {s.wk mt' k σ (s.ow k) with st:=st',sm:=s.sm})->bK T Goal X s gs v sl t (X.n0+k):=by
  intro st' σ hst h1 h2 h3 h4 h5 hWA hWg;have e:=aI.value (zm (cD X.p xs::fU X.p xs) X.M.wg) (LH _ _ s.st) (w:=v) (w':=v.setCell ⟨X.M.wg,0,none⟩ (.int .u64 (less s.st))) (es:=#[aM (.extern 148),⟨.cell (bH X),false,true⟩,⟨.cell (bH X),true,true⟩])
   ⟨H.wd.cell0,by simp,by simp,⟨_,H.wd.cell0⟩,H.wd.frozen 0,rfl,rfl⟩
  rw[LX,hst] at e;have hev:=pJ (X:=X) (s':=s.wk s.mt k σ (s.ow k)) (g:=X.n0+k) (B:=(v.setCell ⟨X.M.wg,0,none⟩ (.int .u64 st')).heap.size) (by rw[(so _).1];exact H.wd.size) (es:=#[⟨.cell (bH X),false,true⟩,⟨.cell (bH X),true,true⟩]) (λe he=>by simp at he;rcases he with rfl|rfl<;>exact .inl ⟨0,_,rfl⟩);refine fE O H hk hg e σ (s.ow k) st' s.sm (by rw[Lu,hd];exact hWA) (by rw[(so _).1];exact iR _) (λb _ _ hb=>(so _).2 b hb) (λb hb=> .inl hb) (H.wd.zH st') ⟨rfl,rfl,rfl⟩ (H.ac.wk _ (by rw[hσ];exact h2) (λh=>by rw[h3] at h;cases h) (λ_=>iC)) (λmt' hm _=>hWg mt' hm) hev.1 hev.2.1 (λ_=>⟨r,?_⟩) hev.2.2 hfin (λmt' hm=> .inl ?_)
  ·refine RelBy.appOwn hrel _ _ _ λj e he=> .inr ⟨?_,?_⟩
   ·have:e∈(#[⟨.cell (bH X),false,true⟩,⟨.cell (bH X),true,true⟩]:Array Event):=Array.mem_of_getElem? he;simp at this;rcases this with rfl|rfl<;>exact⟨_,_,rfl⟩
   ·rw[hd];have:j=0\/j=1:=by
     have:=(Array.getElem?_eq_some_iff.1 he).1;simp at this;omega
    rcases this with rfl|rfl<;>simp[deafBehind]
  ·have a1:=s.oY mt' hk σ (s.ow k) Wk.ah;have a2:=s.mI mt' hk σ (s.ow k);have a3:=(hm.facts (X:=X)).1 s.c;have a4:=mt'.Sc s.c (s.wk mt' k σ (s.ow k)).c;show mt'.ah (s.wk mt' k σ (s.ow k)).c+sumTo s.j (λi=>((s.wk mt' k σ (s.ow k)).ws i).ah)+12*(s.wk mt' k σ (s.ow k)).c+60*(X.E.n - s.rN)< s.mt.ah s.c+sumTo s.j (λi=>(s.ws i).ah)+12*s.c+60*(X.E.n - s.rN);omega
 have hcc:∀mt' σ,σ.cnt=0->(s.wk mt' k σ (s.ow k)).c+1=s.c:=λmt' σ h=>by have:=s.mI mt' hk σ (s.ow k);omega
 have hnl:∀mt' σ,σ.ah=0->qd s->∀i,i< s.j->((s.wk mt' k σ (s.ow k)).ws i).ah=0\/4<=((s.wk mt' k σ (s.ow k)).ws i).ah:=λmt' σ h0 hn i hi=>by
  by_cases hik:i=k
  ·subst hik;rw[(s.fy mt' i σ (s.ow i)).1];exact .inl h0
  ·rw[(s.hZ mt' σ (s.ow k) hik).1];exact hn i hi
 cases hwg:H.wg with
 |opn a1 a2 a3 a4 a5=>
  have hl:=Ky X.p xs X.M.wg (N:=s.c+s.mt.eL - 1) (by omega);rw[show s.c+s.mt.eL - 1+1=s.c+s.mt.eL by omega,←a3] at hl;refine key _ (.quit 94) hl.1 rfl rfl rfl rfl (by simp[Wk.ah]) hl.2 λmt' hm=>?_;obtain⟨_,_,_,_,f5,_,f7,f8,f9,_,f11,_⟩:=hm.facts (X:=X)
  have:=hcc mt' (.quit 94) rfl;refine .opn (f7.trans a1) (hnl mt' _ rfl a2) ?_ a4 (λq n xs ys e=>?_)
  ·show (s.c+s.mt.eL - 1)*bk=((s.wk mt' k (.quit 94) (s.ow k)).c+mt'.eL)*bk;rw[f5];congr 1;omega
  ·show (s.wk mt' k (.quit 94) (s.ow k)).c<=q
   have:=a5 q n xs ys (f11 q n xs ys e);omega
 |dT a1 a2 a3 a4 a5=>
  by_cases h1:s.c=1
  ·refine key 1 (.gW 103 xs) (by rw[a4,h1];kernel_rfl) rfl rfl rfl rfl (by simp[Wk.ah]) ⟨(Ie _ _ _).aO,rfl⟩ λmt' hm=>?_;obtain⟨_,_,_,_,f5,_,f7,f8,f9,_,f11,_⟩:=hm.facts (X:=X);have hself:=(s.fy mt' k (.gW 103 xs) (s.ow k)).1;refine .last k (f8.trans a1) hk ?_ ?_ (λi hi hik=>?_) ?_ a5
   ·show 1<=((s.wk mt' k (.gW 103 xs) (s.ow k)).ws k).ah;rw[hself];simp[Wk.ah]
   ·show ((s.wk mt' k (.gW 103 xs) (s.ow k)).ws k).ah<=3;rw[hself];simp[Wk.ah]
   ·show ((s.wk mt' k (.gW 103 xs) (s.ow k)).ws i).ah=0;rw[(s.hZ mt' (.gW 103 xs) (s.ow k) hik).1];have hz:=Fb (f:=λi=>(s.ws i).cnt) hk (by show s.c=(s.ws k).cnt;omega) i hi hik;rcases a2 i hi with h|h
    ·exact h
    ·have:=(Wk.yW (s.ws i)).2 h;omega
   ·show (1:Nat)=if ((s.wk mt' k (.gW 103 xs) (s.ow k)).ws k).ah=1 then 0 else 1
    rw[hself];simp[Wk.ah]
  ·have hl:=MO X.p xs X.M.wg (N:=s.c - 1) (by omega) (by omega);rw[show s.c - 1+1=s.c by omega,←a4] at hl;refine key _ (.quit 94) hl.1 rfl rfl rfl rfl (by simp[Wk.ah]) hl.2 λmt' hm=>?_;obtain⟨_,_,_,_,f5,_,f7,f8,f9,_,f11,_⟩:=hm.facts (X:=X)
   have:=hcc mt' (.quit 94) rfl;refine .dT (f8.trans a1) (hnl mt' _ rfl a2) (by show 1<=(s.wk mt' k (.quit 94) (s.ow k)).c;omega) ?_ a5;show (s.c - 1)*bk+1=(s.wk mt' k (.quit 94) (s.ow k)).c*bk+1;congr 2;omega
 |last q a1 a2 a3 a4 a5 a6 a7=>
  by_cases hq:k=q
  ·subst hq;omega
  ·have:=a5 k hk hq;omega
 |fB a1 a2 a3 a4 a5=>have:=a3 k hk;omega
 |done a1 a2 a3 a4 a5=>have:=a3 k hk;omega
theorem xI(H:Wg s)(hk:k< s.j)(h1:1<=(s.ws k).ah)(h3:(s.ws k).ah<=3):jx s.mt=true/\(∀i,i< s.j->i≠k->(s.ws i).ah=0)/\s.st=(if (s.ws k).ah=1 then 0 else 1)/\s.sm=0:=by
 cases H with
 |opn a1 a2 a3 a4 a5=>have:=a2 k hk;omega
 |dT a1 a2 a3 a4 a5=>have:=a2 k hk;omega
 |last q a1 a2 a3 a4 a5 a6 a7=>
  by_cases hq:k=q
  ·subst hq;exact⟨a1,a5,a6,a7⟩
  ·have:=a5 k hk hq;omega
 |fB a1 a2 a3 a4 a5=>have:=a3 k hk;omega
 |done a1 a2 a3 a4 a5=>have:=a3 k hk;omega
theorem I3(O:aL T Goal X)(H:PI T Goal X s gs v t)(hfin:∀n xs,s.mt= .fin n xs->False)(hk:k< s.j)(hσ:s.ws k= .gW 0 xs):bK T Goal X s gs v sl t (X.n0+k):=by
 obtain⟨g,hg,hW⟩:=H.gs.work k hk;rw[hσ] at hW;obtain⟨hgl,hd⟩:=hW;cases hgl;have hr:(s.ws k).ah=3:=by rw[hσ];rfl
 obtain⟨l1,l2,l3,l4⟩:=xI H.wg hk (by omega) (by omega);rw[hr] at l3;have hst:s.st=1:=by simpa using l3
 have hc:=H.wd.cell0;rw[hst] at hc;have e:=aI.value (xD (cD X.p xs) (fU X.p xs) X.M.wg) (Ru _ _ _) (w:=v) (w':=v) (es:=#[aM (.extern 149),⟨.cell (bH X),false,true⟩]) ⟨hc,rfl,rfl⟩;rw[Ia] at e;have hev:=pJ (X:=X) (s':=s.wk s.mt k (.gK 20 xs) (s.ow k)) (g:=X.n0+k) H.wd.size (es:=#[⟨.cell (bH X),false,true⟩]) (λe he=>by simp at he;subst he;exact .inl ⟨0,_,rfl⟩);obtain⟨r,hrel⟩:=H.tr.rel k hk (by rw[hσ];rfl);refine fE O H hk hg e (.gK 20 xs) (s.ow k) s.st s.sm ⟨(VX _ _ _).aO,by rw[show deafBehind (Deaf t (X.n0+k)) _=Deaf t (X.n0+k) from rfl];exact hd⟩ (iR _) (λ_ _ _ _=>rfl) (λb hb=> .inl hb) H.wd.wg ⟨rfl,rfl,rfl⟩ (H.ac.wk _ (by rw[hσ];rfl) (λh=>by cases h) (λ_=>H.ac.gone k hk (by omega))) (λmt' hm _=>?_) hev.1 hev.2.1 (λ_=>⟨r,?_⟩) hev.2.2 hfin (λmt' hm=>iJ hk (by rw[hσ];simp[Wk.ah]) (by rw[hσ];rfl) mt' hm _ _ _)
 ·have f8:=(hm.facts (X:=X)).2.2.2.2.2.2.2.1;have hself:=(s.fy mt' k (.gK 20 xs) (s.ow k)).1;refine .last k (f8.trans l1) hk ?_ ?_ (λi hi hik=>?_) ?_ l4
  ·show 1<=((s.wk mt' k (.gK 20 xs) (s.ow k)).ws k).ah;rw[hself];simp[Wk.ah]
  ·show ((s.wk mt' k (.gK 20 xs) (s.ow k)).ws k).ah<=3;rw[hself];simp[Wk.ah]
  ·show ((s.wk mt' k (.gK 20 xs) (s.ow k)).ws i).ah=0;rw[(s.hZ mt' (.gK 20 xs) (s.ow k) hik).1];exact l2 i hi hik
  ·show s.st=if ((s.wk mt' k (.gK 20 xs) (s.ow k)).ws k).ah=1 then 0 else 1
   rw[hself,hst];simp[Wk.ah]
 ·refine RelBy.appOwn hrel _ _ _ λj e he=> .inr ⟨?_,?_⟩
  ·have:e∈(#[⟨.cell (bH X),false,true⟩]:Array Event):=Array.mem_of_getElem? he;simp at this;subst this;exact⟨_,_,rfl⟩
  ·rw[hd];have:j=0:=by
    have:=(Array.getElem?_eq_some_iff.1 he).1;simp at this;omega
   subst this;simp[deafBehind]
theorem RH(O:aL T Goal X)(H:PI T Goal X s gs v t)(hfin:∀n xs,s.mt= .fin n xs->False)(hk:k< s.j)(hσ:s.ws k= .gK 0 xs):bK T Goal X s gs v sl t (X.n0+k):=by
 obtain⟨g,hg,hW⟩:=H.gs.work k hk;rw[hσ] at hW;obtain⟨hgl,hd⟩:=hW;cases hgl;have hr:(s.ws k).ah=2:=by rw[hσ];rfl
 obtain⟨l1,l2,l3,l4⟩:=xI H.wg hk (by omega) (by omega);have so:=lx v X.M.wg 0;have e:=aI.value (wH (cD X.p xs) (fU X.p xs) X.M.wg) (TC _ _ _) (w:=v) (w':=v.setCell ⟨X.M.wg,0,none⟩ (.int .u64 0)) (es:=#[aM (.extern 150),⟨.cell (bH X),true,true⟩]) ⟨by simp,by simp,⟨_,H.wd.cell0⟩,H.wd.frozen 0,rfl,rfl⟩;rw[Ri] at e;have hev:=pJ (X:=X) (s':=s.wk s.mt k (.gy 27 xs) (s.ow k)) (g:=X.n0+k) (B:=(v.setCell ⟨X.M.wg,0,none⟩ (.int .u64 0)).heap.size) (by rw[(so _).1];exact H.wd.size) (es:=#[⟨.cell (bH X),true,true⟩]) (λe he=>by simp at he;subst he;exact .inl ⟨0,_,rfl⟩);obtain⟨r,hrel⟩:=H.tr.rel k hk (by rw[hσ];rfl);refine fE O H hk hg e (.gy 27 xs) (s.ow k) 0 s.sm ⟨(I9 _ _ _).aO,by rw[show deafBehind (Deaf t (X.n0+k)) _=Deaf t (X.n0+k) from rfl];exact hd⟩ (by rw[(so _).1];exact iR _) (λb _ _ hb=>(so _).2 b hb) (λb hb=> .inl hb) (H.wd.zH 0) ⟨rfl,rfl,rfl⟩ (H.ac.wk _ (by rw[hσ];rfl) (λh=>by cases h) (λ_=>H.ac.gone k hk (by omega))) (λmt' hm _=>?_) hev.1 hev.2.1 (λ_=>⟨r,?_⟩) hev.2.2 hfin (λmt' hm=>iJ hk (by rw[hσ];simp[Wk.ah]) (by rw[hσ];rfl) mt' hm _ _ _)
 ·have f8:=(hm.facts (X:=X)).2.2.2.2.2.2.2.1;have hself:=(s.fy mt' k (.gy 27 xs) (s.ow k)).1;refine .last k (f8.trans l1) hk ?_ ?_ (λi hi hik=>?_) ?_ l4
  ·show 1<=((s.wk mt' k (.gy 27 xs) (s.ow k)).ws k).ah;rw[hself];simp[Wk.ah]
  ·show ((s.wk mt' k (.gy 27 xs) (s.ow k)).ws k).ah<=3;rw[hself];simp[Wk.ah]
  ·show ((s.wk mt' k (.gy 27 xs) (s.ow k)).ws i).ah=0;rw[(s.hZ mt' (.gy 27 xs) (s.ow k) hik).1];exact l2 i hi hik
  ·show (0:Nat)=if ((s.wk mt' k (.gy 27 xs) (s.ow k)).ws k).ah=1 then 0 else 1
   rw[hself];simp[Wk.ah]
 ·refine RelBy.appOwn hrel _ _ _ λj e he=> .inr ⟨?_,?_⟩
  ·have:e∈(#[⟨.cell (bH X),true,true⟩]:Array Event):=Array.mem_of_getElem? he;simp at this;subst this;exact⟨_,_,rfl⟩
  ·rw[hd];have:j=0:=by
    have:=(Array.getElem?_eq_some_iff.1 he).1;simp at this;omega
   subst this;simp[deafBehind]
theorem RP(O:aL T Goal X)(H:PI T Goal X s gs v t)(hfin:∀n xs,s.mt= .fin n xs->False)(hk:k< s.j)(hσ:s.ws k= .gy 0 xs):bK T Goal X s gs v sl t (X.n0+k):=by
 obtain⟨g,hg,hW⟩:=H.gs.work k hk;rw[hσ] at hW;obtain⟨hgl,hd⟩:=hW;cases hgl;have hr:(s.ws k).ah=1:=by rw[hσ];rfl
 obtain⟨l1,l2,l3,l4⟩:=xI H.wg hk (by omega) (by omega);rw[hr] at l3;have hst:s.st=0:=by simpa using l3
 have so:=lx v X.M.wg 1;have hc:=H.wd.Db;rw[l4] at hc;have e:=aI.value (xd (cD X.p xs) (fU X.p xs) X.M.wg) (JA _ _ _) (w:=v) (w':=v.setCell ⟨X.M.wg,1,none⟩ (.int .u32 1)) (es:=#[aM (.extern 130),aM .disable,⟨.cell ⟨X.M.wg,1,none⟩,false,true⟩,⟨.cell ⟨X.M.wg,1,none⟩,true,true⟩,aM .enable]) ⟨hc,by simp,by simp,⟨_,hc⟩,H.wd.frozen 1,rfl,rfl⟩;rw[TE] at e;have hev:=pJ (X:=X) (s':=s.wk s.mt k (.quit 24) (s.ow k)) (g:=X.n0+k) (B:=(v.setCell ⟨X.M.wg,1,none⟩ (.int .u32 1)).heap.size) (by rw[(so _).1];exact H.wd.size) (es:=#[aM .disable,⟨.cell ⟨X.M.wg,1,none⟩,false,true⟩,⟨.cell ⟨X.M.wg,1,none⟩,true,true⟩,aM .enable]) (λe he=>by
  simp at he;rcases he with rfl|rfl|rfl|rfl
  ·exact .inr (.inl rfl)
  ·exact .inl ⟨1,_,rfl⟩
  ·exact .inl ⟨1,_,rfl⟩
  ·exact .inr (.inr (.inl rfl)))
 obtain⟨r,hrel⟩:=H.tr.rel k hk (by rw[hσ];rfl);refine fE O H hk hg e (.quit 24) (s.ow k) s.st 1 (by rw[hd];exact JJ _ _ _ (xQ X.p xs)) (by rw[(so _).1];exact iR _) (λb _ _ hb=>(so _).2 b hb) (λb hb=> .inl hb) (H.wd.Au 1) ⟨rfl,rfl,rfl⟩ (H.ac.wk _ (by rw[hσ];rfl) (λh=>by cases h) (λ_=>H.ac.gone k hk (by omega))) (λmt' hm hb=>?_) hev.1 hev.2.1 (λ_=>⟨r,?_⟩) hev.2.2 hfin (λmt' hm=>iJ hk (by rw[hσ];simp[Wk.ah]) (by rw[hσ];rfl) mt' hm _ _ _)
 ·have f8:=(hm.facts (X:=X)).2.2.2.2.2.2.2.1;refine .fB (f8.trans l1) (hb (VS _ _ _) rfl) (λi hi=>?_) hst rfl;show ((s.wk mt' k (.quit 24) (s.ow k)).ws i).ah=0;by_cases hik:i=k
  ·subst hik;rw[(s.fy mt' i (.quit 24) (s.ow i)).1];rfl
  ·rw[(s.hZ mt' (.quit 24) (s.ow k) hik).1];exact l2 i hi hik
 ·refine RelBy.appOwn hrel _ _ _ λj e he=>?_;have hj:j=0\/j=1\/j=2\/j=3:=by
   have:=(Array.getElem?_eq_some_iff.1 he).1;simp at this;omega
  rw[hd];rcases hj with rfl|rfl|rfl|rfl
  ·simp at he;subst he;exact .inl rfl
  ·simp at he;subst he;exact .inr ⟨⟨_,_,rfl⟩,by simp[deafBehind,aM]⟩
  ·simp at he;subst he;exact .inr ⟨⟨_,_,rfl⟩,by simp[deafBehind,aM]⟩
  ·simp at he;subst he;exact .inl rfl
end
end
section
open Go.Conc
open Go.ConcN (upd upd_same upd_ne sumTo sumTo_upd sumTo_congr sumTo_le le_sumTo RelBy)
set_option maxRecDepth 100000
theorem Lk(p:Pl)(xs:Nat->Value):fH (gV p xs) (gV p xs).frame=gV p xs:=by kernel_rfl
theorem Qj(p:Pl)(xs:Nat->Value):({gV p xs with status:=.running}:Goroutine)=gV p xs:=by kernel_rfl
theorem PZ(p:Pl)(xs:Nat->Value)(l:List Nat):fH (bu p xs l) (bu p xs l).frame=bu p xs l:=by kernel_rfl
theorem Qo(p:Pl)(xs:Nat->Value)(cs:Array CommCase):(bu p xs [7]).finishComm Pg cs .send 0 undef false=bu p xs []:=by kernel_rfl
section
variable {L:aA}{T:aN}{Goal:Frame->List Frame->World->Prop}{X:PC L}
theorem zf(O:aL T Goal X)(H:Gs T Goal X s gs v t)(hg:gs[j]?=some g):(∃k xs,k<s.j/\j=X.n0+k/\s.ws k=.dC xs/\g=jC X xs)\/∀r b,offersAt g r b= []:=by
 have hlt:=(Array.getElem?_eq_some_iff.1 hg).1;rw[H.size]at hlt;rcases Yw j with rfl|hpos
 ·obtain⟨h,h0,hM⟩:=H.main;rw[hg]at h0;cases h0;refine .inr λr b=>?_;rcases hM.status O with⟨_,hs⟩|⟨xs,ys,_,rfl⟩
  ·exact offersAt_of_not_blocked (by rw[hs];simp) r b
  ·rfl
 ·rcases Xy j X.n0 with hj|hj
  ·have:=(H.kj j g hpos hj hg).status;exact .inr λr b=>offersAt_of_not_blocked (by rcases this with h|h<;>rw[h]<;>simp) r b
  ·obtain⟨k,rfl⟩: ∃k,j=X.n0+k:=⟨j-X.n0,by omega⟩
   have hk:k<s.j:=by omega
   obtain⟨g',hg',hW⟩:=H.work k hk;rw[hg]at hg';cases hg';rcases hW.status with⟨_,hs⟩|⟨xs,h1,h2⟩
   ·exact .inr λr b=>offersAt_of_not_blocked (by rcases hs with h|h<;>rw[h]<;>simp) r b
   ·exact .inl ⟨k,xs,hk,rfl,h1,h2⟩
theorem BA(O:aL T Goal X)(H:Gs T Goal X s gs v t)(i r:Nat)(b:Bool)(h:b=true\/r≠X.M.cN):partners (gs.setIfInBounds i ph) r b= []:=by
 refine partners_nil λj g hg=>?_;rcases getElem?_stand gs i j g hg with⟨_,rfl⟩|⟨_,hg⟩
 ·rfl
 ·rcases zf O H hg with⟨k,xs,_,_,_,rfl⟩|h'
  ·unfold jC;rw[re];rcases h with rfl|h
   ·exact offersAt_parked_recv' _ _ _ _ _
   ·cases b with
    |true=>exact offersAt_parked_recv' _ _ _ _ _
    |false=>rw[offersAt_parked_recv,AI (Xl h)]
  ·exact h' r b
theorem Tr.still(H:Tr X s v t)(e1:s'.j=s.j)(e2:s'.ow=s.ow)(e3:∀k,k<s.j->(s'.ws k).rel=true->(s.ws k).rel=true)(e4:s'.mt.deaf=s.mt.deaf)(e5:v1.heap.size=v.heap.size)(e6:∀n xs,s'.mt=.fin n xs->False){u:List MemOp}(h1:∀op∈u,op.act.touch?=none)(h2:∀op∈u,op.act.low v.heap.size)(h3:∀op∈u,pX op.act)(h4:∀op∈u,op.act≠.mark (.release (bH X))):Tr X s' v1 (t++u.toArray):=by
 have hlots:iG X s'=iG X s:=by unfold iG;rw[e1,e2]
 have hwk:fJ X s'=fJ X s:=by funext k;simp only[fJ,e1]
 refine⟨?_,?_,?_,λk hk hr=>?_,H.norel.app (λop ag=>h4 op (by simpa using ag)),by rw[nO t 0 u h3,H.d0,e4],λn xs h=>(e6 n xs h).elim⟩
 ·rw[hlots,hwk,e5];exact H.tp.still u h1 h2
 ·rw[e1,e2,e5];exact H.own
 ·rw[e1,e2];exact H.apart
 ·rw[e1]at hk;obtain⟨r,hr⟩:=H.rel k hk (e3 k hk hr);exact⟨r,RelBy.still hr λop ag=>h1 op (by simpa using ag)⟩
theorem Gs.comm(O:aL T Goal X)(H:Gs T Goal X s gs v t)(hk:k<s.j){g1:Goroutine}(e1:s'.j=s.j)(e2:∀i,i≠k->s'.ws i=s.ws i)(e3:s'.ow=s.ow)(e4:s'.mt=s.mt)(e5:s'.q=s.q){u:List MemOp}(h3:∀op∈u,pX op.act)(hW:gR T Goal X (s.ow k) (Deaf t (X.n0+k)) g1 v1 (s'.ws k))(hs:v.heap.size<=v1.heap.size)(ho:∀b,((∃r,X.E.ρ r b)\/∃i,i<s.j/\s.ow i b)->v1.heap[b]?=v.heap[b]?):Gs T Goal X s' (gs.setIfInBounds (X.n0+k) g1) v1 (t++u.toArray):=by
 have hn0:=O.n0;have hdf:∀i,Deaf (t++u.toArray) i=Deaf t i:=λi=>nO t i u h3;obtain⟨h,h0,hM⟩:=H.main;refine⟨by simp[H.size,e1],⟨h,by rw[Array.getElem?_setIfInBounds_ne (by omega)];exact h0,by rw[e4];exact hM⟩,λi hi=>?_,λi x hi hn hg=>?_,λi hi=>?_⟩
 ·rw[e1]at hi;rw[hdf,e3];by_cases hik:i=k
  ·subst hik;exact⟨g1,by rw[Array.getElem?_setIfInBounds_self_of_lt (by rw[H.size];omega)],hW⟩
  ·obtain⟨x,hx,hw⟩:=H.work i hi;refine⟨x,by rw[Array.getElem?_setIfInBounds_ne (by omega)];exact hx,?_⟩;rw[e2 i hik];exact hw.lH hs λb hb=>ho b (hb.imp id λx=>⟨i,hi,x⟩)
 ·rw[Array.getElem?_setIfInBounds_ne (by omega)]at hg;rw[hdf,e5];exact H.kj i x hi hn hg
 ·rw[hdf];exact H.above i (by simpa using hi)
theorem sN(v:World)(c cap:Nat)(buf:Array Value)(cl:Bool)(s r:Nat)(tm:Bool)(hc:c<v.heap.size):(v.setChan c cap buf cl s r tm).heap.size=v.heap.size/\(v.setChan c cap buf cl s r tm).heap[c]?=some (.chan cap buf cl s r tm)/\(∀b,b≠c->(v.setChan c cap buf cl s r tm).heap[b]?=v.heap[b]?)/\(v.setChan c cap buf cl s r tm).tape=v.tape/\(v.setChan c cap buf cl s r tm).os=v.os/\(v.setChan c cap buf cl s r tm).output=v.output:=by
 refine⟨by simp[World.setChan],by simp[World.setChan,hc],λb hb=>by simp[World.setChan,Array.getElem?_setIfInBounds_ne (Xl hb)],rfl,rfl,rfl⟩
theorem Ei(hk:k<s.j)(σ:Wk):sumTo s.j (λi=>if ((upd s.ws k σ) i).bQ.isSome then 1 else 0)+(if (s.ws k).bQ.isSome then 1 else 0)=sumTo s.j (λi=>if (s.ws i).bQ.isSome then 1 else 0)+(if σ.bQ.isSome then 1 else 0):=
 sumTo_upd s.ws σ (λx=>if x.bQ.isSome then 1 else 0) hk
theorem FZ(O:aL T Goal X)(H:PI T Goal X s gs v t)(hfin:∀n xs,s.mt=.fin n xs->False)(hk:k<s.j)(hσ:s.ws k=.recv 0 xs\/s.ws k=.woken xs):bK T Goal X s gs v sl t (X.n0+k):=by
 obtain⟨g,hg,hW⟩:=H.gs.work k hk;have hn0:=O.n0;have e2:=O.cN;have e6:=O.wg;have e4:=O.cB;have e1:=O.bT;have e3:=O.bN;have e5:=O.bB;have hne0:(X.n0+k==0)=false:=by simp;omega
 have hd:Deaf t (X.n0+k)=0:=by
  rcases hσ with hσ|hσ<;>rw[hσ]at hW<;>exact hW.2
 have hr:(s.ws k).ah=9/\(s.ws k).bQ=none/\(s.ws k).cnt=1/\(s.ws k).tree=none:=by rcases hσ with hσ|hσ<;>rw[hσ]<;>exact⟨rfl,rfl,rfl,rfl⟩
 have e:stepG Pg (X.n0+k==0) g v=.comm (gV X.p xs) #[rcase X.M.cN (.int .i64 0)] true (.recv true) v #[]:=by
  have hc:=aI.comm (yw X.p xs) (IB X.p xs) (w:=v) (w':=v) (es:=#[]) ⟨rfl,rfl⟩;rw[eS,Lk]at hc;rw[hne0];rcases hσ with hσ|hσ
  ·rw[hσ]at hW;have hgl:=hW.1;cases hgl;exact hc
  ·rw[hσ]at hW;rw[hW.1];unfold jC;rw[stepG_tries,Qj];exact hc
 have hz:∀fn pos,MemOp.ofEvents (X.n0+k) fn pos #[]=#[]:=λfn pos=>by simp[ofEvents_eq]
 have hcN:=H.wd.cN;have hcl:X.M.cN<v.heap.size:=by have:=H.wd.size;omega
 have hpt:=BA O H.gs (X.n0+k) X.M.cN true (.inl rfl);have aD:∀i b,i<s.j->s.ow i b->b≠X.M.cN:=λi b hi hb h=>by have:=(H.tr.own i b hi hb).1;omega
 cases hb:s.cC with
 |cons i rest=>
  rw[hb]at hcN;have hrun:=crowd_recv_buf (P:=Pg) (sl:=sl) hg e hcN (by simp) hpt;obtain⟨c1,c2,c3,c4,c5,c6⟩:=sN v X.M.cN X.E.n (rest.map X.num).toArray s.mt.shut (s.mt.bg X) (s.rN+1) false hcl;have ex:((i::rest).map X.num).toArray.extract 1 ((i::rest).map X.num).toArray.size=(rest.map X.num).toArray:=by simp[YA]
  have eg:((i::rest).map X.num).toArray.getD 0 undef=X.num i:=by simp
  rw[ex,eg,hz,Yc]at hrun;have hgot:=H.ac.kO;have hsent:=H.ac.bg;rw[hb]at hgot;simp only[Xp]at hgot;have hin:i<X.E.n:=H.ac.eJ i (by rw[hb];simp);let s':PS:={s with ws:=upd s.ws k (.draw 11 i (iP xs (IntKind.i64.wrap (X.E.first+i)))),cC:=rest,rN:=s.rN+1}
  have hsw:∀m,m≠k->s'.ws m=s.ws m:=λm hm=>upd_ne _ _ hm;have hsk:s'.ws k=.draw 11 i (iP xs (IntKind.i64.wrap (X.E.first+i))):=upd_same _ _ _;refine⟨s',_,_,_,hrun,⟨?_,?_,?_,?_,?_⟩,.inl ?_⟩
  ·refine H.gs.comm O hk (s':=s') rfl hsw rfl rfl rfl (u:=[_,_]) ?_ ?_ (by rw[c1];exact iR _) ?_
   ·intro op ag;simp at ag;rcases ag with rfl|rfl<;>exact⟨by simp,by simp⟩
   ·rw[hsk];refine⟨?_,hd,hin,rfl⟩;have hgd:=(Cf X.p xs (IntKind.i64.wrap (X.E.first+i))).aO;rw[Ho]at hgd;exact hgd
   ·rintro b (⟨r,hr⟩|⟨m,hm,hb'⟩)
    ·exact c3 b (by have:=(O.K.cy r b hr).2;omega)
    ·exact c3 b (aD m b hm hb')
  ·refine⟨⟨by rw[c1];exact H.wd.old.1,λb hb'=>by rw[c3 b (by omega)];exact H.wd.old.2 b hb'⟩,by rw[c1];exact H.wd.size,?_,?_,?_,c2,?_,?_,H.wd.tape,H.wd.os,H.wd.output⟩
   ·rw[c3 _ (by omega)];exact H.wd.bT
   ·rw[c3 _ (by omega)];exact H.wd.bN
   ·rw[c3 _ (by omega)];exact H.wd.bB
   ·obtain⟨sB,h⟩:=H.wd.cB;exact⟨sB,by rw[c3 _ (by omega)];exact h⟩
   ·rw[c3 _ (by omega)];exact H.wd.wg
  ·have hjs:=Ei hk (.draw 11 i (iP xs (IntKind.i64.wrap (X.E.first+i))));have hcount:=H.ac.count;rw[hb]at hcount;simp only[Xp]at hcount;rw[hr.2.1]at hjs;refine⟨H.ac.on,H.ac.bg,by show s.rN+1+rest.length=s.mt.bg X;omega,λm hm=>?_,?_,λm hm=>H.ac.eJ m (by rw[hb];simp[show m∈rest from hm]),H.ac.okB,λm hm hp=>?_,λm hm hrk=>?_⟩
   ·rcases H.ac.cover m hm with h|h|⟨k',h1,h2⟩
    ·rw[hb]at h;rcases YQ.1 h with rfl|h
     ·exact .inr (.inr ⟨k,hk,by rw[hsk];rfl⟩)
     ·exact .inl h
    ·exact .inr (.inl h)
    ·refine .inr (.inr ⟨k',h1,?_⟩);have:k'≠k:=λe=>by rw[e,hr.2.1]at h2;cases h2
     rw[hsw k' this];exact h2
   ·show rest.length+sumTo s.j (λm=>if ((upd s.ws k (.draw 11 i (iP xs (IntKind.i64.wrap (X.E.first+i))))) m).bQ.isSome then 1 else 0)+s.df.length<=s.mt.bg X;have hjs':sumTo s.j (λm=>if ((upd s.ws k (.draw 11 i (iP xs (IntKind.i64.wrap (X.E.first+i))))) m).bQ.isSome then 1 else 0)+0=sumTo s.j (λm=>if (s.ws m).bQ.isSome then 1 else 0)+1:=hjs;omega
   ·by_cases hmk:m=k
    ·subst hmk;rw[hsk]at hp;cases hp
    ·rw[hsw m hmk]at hp
     have:=(H.ac.dC m hm hp).1;rw[hb]at this;cases this
   ·by_cases hmk:m=k
    ·subst hmk;rw[hsk]at hrk;simp[Wk.ah]at hrk
    ·rw[hsw m hmk]at hrk
     have:=(H.ac.gone m hm hrk).2;rw[hb]at this;cases this
  ·have:=H.wg.im X hk (σ:=.draw 11 i (iP xs (IntKind.i64.wrap (X.E.first+i)))) (s.ow k) (by omega) (by simp[Wk.ah]) (by rw[hr.2.2.1];rfl) s.mt (.inl rfl);cases this with
   |opn a1 a2 a3 a4 a5=>exact .opn a1 a2 a3 a4 a5
   |dT a1 a2 a3 a4 a5=>exact .dT a1 a2 a3 a4 a5
   |last q a1 a2 a3 a4 a5 a6 a7=>exact .last q a1 a2 a3 a4 a5 a6 a7
   |fB a1 a2 a3 a4 a5=>exact .fB a1 a2 a3 a4 a5
   |done a1 a2 a3 a4 a5=>exact .done a1 a2 a3 a4 a5
  ·refine H.tr.still (s':=s') rfl rfl (λm hm hrl=>?_) rfl c1 (λn xs h=>hfin n xs h) (u:=[_,_]) ?_ ?_ ?_ ?_
   ·by_cases hmk:m=k
    ·subst hmk;rw[hsk]at hrl;cases hrl
    ·rw[hsw m hmk]at hrl;exact hrl
   ·intro op ag;simp at ag;rcases ag with rfl|rfl<;>rfl
   ·intro op ag;simp at ag;rcases ag with rfl|rfl<;>exact hcl
   ·intro op ag;simp at ag;rcases ag with rfl|rfl<;>exact⟨by simp,by simp⟩
   ·intro op ag;simp at ag;rcases ag with rfl|rfl<;>simp
  ·have h1:=sumTo_upd s.ws (.draw 11 i (iP xs (IntKind.i64.wrap (X.E.first+i)))) Wk.ah hk;have h2:=sumTo_upd s.ws (.draw 11 i (iP xs (IntKind.i64.wrap (X.E.first+i)))) Wk.cnt hk;have h3:s'.c=s.c:=by show sumTo s.j (λm=>((upd s.ws k (.draw 11 i (iP xs (IntKind.i64.wrap (X.E.first+i))))) m).cnt)=_;unfold PS.c;have h2':sumTo s.j (λm=>((upd s.ws k (.draw 11 i (iP xs (IntKind.i64.wrap (X.E.first+i))))) m).cnt)+(s.ws k).cnt=sumTo s.j (λm=>(s.ws m).cnt)+1:=h2;omega
   show s.mt.ah s'.c+sumTo s.j (λm=>((upd s.ws k (.draw 11 i (iP xs (IntKind.i64.wrap (X.E.first+i))))) m).ah)+12*s'.c+60*(X.E.n-(s.rN+1))<s.mt.ah s.c+sumTo s.j (λm=>(s.ws m).ah)+12*s.c+60*(X.E.n-s.rN);rw[h3];have h1':sumTo s.j (λm=>((upd s.ws k (.draw 11 i (iP xs (IntKind.i64.wrap (X.E.first+i))))) m).ah)+(s.ws k).ah=sumTo s.j (λm=>(s.ws m).ah)+60:=h1;have:X.E.n-s.rN=X.E.n-(s.rN+1)+1:=by omega
   have hw9:=hr.1;omega
 |nil=>
  rw[hb]at hcN;simp only[List.map_nil]at hcN;cases hsh:s.mt.shut with
  |true=>
   rw[hsh]at hcN;have hrun:=crowd_recv_closed (P:=Pg) (sl:=sl) hg e hcN hpt;rw[hz,Yc]at hrun;let s':PS:={s with ws:=upd s.ws k (.conv 21 xs)}
   have hsw:∀m,m≠k->s'.ws m=s.ws m:=λm hm=>upd_ne _ _ hm;have hsk:s'.ws k=.conv 21 xs:=upd_same _ _ _;have hwk:s'=s.wk s.mt k (.conv 21 xs) (s.ow k):=by
    show _=({s with mt:=s.mt,ws:=upd s.ws k (.conv 21 xs),ow:=upd s.ow k (s.ow k)}:PS)
    rw[show upd s.ow k (s.ow k)=s.ow from funext λb=>by unfold upd;split<;>simp_all]
   refine⟨s',_,_,_,hrun,⟨?_,H.wd.same rfl rfl rfl rfl rfl rfl rfl,?_,?_,?_⟩,?_⟩
   ·refine H.gs.comm O hk (s':=s') rfl hsw rfl rfl rfl (u:=[_]) ?_ ?_ (iR _) (λ_ _=>rfl)
    ·intro op ag;simp at ag;subst ag;exact⟨by simp,by simp⟩
    ·rw[hsk];refine⟨?_,hd⟩;have h1:=(Lw X.p xs).aO;rw[MP]at h1;exact h1.trans (RU _ _).aO
   ·rw[hwk];exact H.ac.wk _ (by rw[hr.2.1];rfl) (λh=>by cases h) (λ_=>⟨hsh,hb⟩) s.mt (.inl rfl)
   ·rw[hwk];exact H.wg.im X hk _ (by omega) (by simp[Wk.ah]) (by rw[hr.2.2.1];rfl) s.mt (.inl rfl)
   ·refine H.tr.still (s':=s') rfl rfl (λm hm hrl=>?_) rfl rfl (λn xs h=>hfin n xs h) (u:=[_]) ?_ ?_ ?_ ?_
    ·by_cases hmk:m=k
     ·subst hmk;rw[hsk]at hrl;cases hrl
     ·rw[hsw m hmk]at hrl;exact hrl
    ·intro op ag;simp at ag;subst ag;rfl
    ·intro op ag;simp at ag;subst ag;exact hcl
    ·intro op ag;simp at ag;subst ag;exact⟨by simp,by simp⟩
    ·intro op ag;simp at ag;subst ag;simp
   ·rw[hwk];exact iJ hk (by rw[hr.1];simp[Wk.ah]) (by rw[hr.2.2.1];rfl) s.mt (.inl rfl) _ s.st s.sm
  |false=>
   rw[hsh]at hcN;have hrun:=crowd_waits (P:=Pg) (sl:=sl) hg e (λcc hcc=>by simp at hcc;subst hcc;exact ways_recv_none hcN hpt);rw[hz]at hrun;let s':PS:={s with ws:=upd s.ws k (.dC xs)}
   have hsw:∀m,m≠k->s'.ws m=s.ws m:=λm hm=>upd_ne _ _ hm;have hsk:s'.ws k=.dC xs:=upd_same _ _ _;have hwk:s'=s.wk s.mt k (.dC xs) (s.ow k):=by
    show _=({s with mt:=s.mt,ws:=upd s.ws k (.dC xs),ow:=upd s.ow k (s.ow k)}:PS)
    rw[show upd s.ow k (s.ow k)=s.ow from funext λb=>by unfold upd;split<;>simp_all]
   refine⟨s',_,_,_,hrun,⟨?_,H.wd.same rfl rfl rfl rfl rfl rfl rfl,?_,?_,?_⟩,?_⟩
   ·refine H.gs.comm O hk (s':=s') rfl hsw rfl rfl rfl (u:=[]) (λop ag=>by cases ag) ?_ (iR _) (λ_ _=>rfl);rw[hsk];exact⟨rfl,hd⟩
   ·rw[hwk];exact H.ac.wk _ (by rw[hr.2.1];rfl) (λ_=>⟨hb,hsh⟩) (λh=>by simp[Wk.ah]at h) s.mt (.inl rfl)
   ·rw[hwk];exact H.wg.im X hk _ (by omega) (by simp[Wk.ah]) (by rw[hr.2.2.1];rfl) s.mt (.inl rfl)
   ·refine H.tr.still (s':=s') rfl rfl (λm hm hrl=>?_) rfl rfl (λn xs h=>hfin n xs h) (u:=[]) (λop ag=>by cases ag) (λop ag=>by cases ag) (λop ag=>by cases ag) (λop ag=>by cases ag);by_cases hmk:m=k
    ·subst hmk;rw[hsk]at hrl;cases hrl
    ·rw[hsw m hmk]at hrl;exact hrl
   ·rw[hwk];exact iJ hk (by rw[hr.1];simp[Wk.ah]) (by rw[hr.2.2.1];rfl) s.mt (.inl rfl) _ s.st s.sm
end
end
end Go.Proofs.YtldmcdeibiclkaaGreatDoor.U
