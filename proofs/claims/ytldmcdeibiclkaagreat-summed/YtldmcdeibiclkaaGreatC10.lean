/-
  Toward summed_holds: THE POOL's MACHINE: a worker in its calls.
-/
import Derived.Test.YtldmcdeibiclkaaGreatC09
set_option linter.unusedVariables false
set_option linter.unusedSimpArgs false
set_option maxRecDepth 100000
set_option maxHeartbeats 20000000
namespace Go.Proofs.YtldmcdeibiclkaaGreat.U
variable {s s':PS}{v v1:World}{t:Trace}{k i j N:Nat}{gs:Array Goroutine}{xs:Nat->Value}{es:Array Event}{l:List Nat}{x:gw}{g:Goroutine}
section
open Go.Conc
open Go.ConcN (upd upd_same upd_ne sumTo sumTo_upd sumTo_congr RelBy)
section
variable {L:au}{T:aO}{Goal:Frame->List Frame->World->Prop}{X:PC L}
theorem pL{Rg Wg:Nat->Prop}(h:∀e∈es,iy Rg Wg e)(d:Nat):deafBehind d es=d:=deafBehind_still (λe he=>by
 rcases h e he with⟨a,wr,rfl,_⟩|⟨r,wr,rfl,_⟩|rfl<;>exact⟨by simp,by simp⟩) d
theorem pN(O:aH T Goal X)(hk:k<s'.j){ow:Nat->Prop}(how:s'.ow k=ow)(hlow:∀b,ow b->b<v1.heap.size)(hv:X.E.v0.heap.size<=v1.heap.size)(h:∀e∈es,iy (λt=>(∃r,X.E.ρ r t)\/ow t) ow e):
  (∀e∈es,∀a,(MemAct.ofEvent e).touch?=some a->a.loc.isMemory=true/\kC (fP X s') (X.n0+k) a)/\(∀e∈es,(MemAct.ofEvent e).low v1.heap.size)/\∀e∈es,e.loc≠.mark (.release (bf X)):=by
 have ro:∀b,(∃r,X.E.ρ r b)->(fP X s').ro b:=λb ⟨r,hr⟩=>.inl ⟨(O.K.bC r b hr).2,O.vg r b hr⟩;have own:∀b,ow b->(fP X s').ow (X.n0+k) b:=λb hb=>⟨k,hk,rfl,by rw[how];exact hb⟩
 have low:∀b,(∃r,X.E.ρ r b)\/ow b->b<v1.heap.size:=λb hb=>hb.elim (λ⟨r,hr⟩=>QL (O.K.bC r b hr).2 hv) (hlow b);refine⟨λe he a ha=>?_,λe he=>?_,λe he=>?_⟩
 ·rcases h e he with⟨c,wr,rfl,h1,h2⟩|⟨r,wr,rfl,h1,h2⟩|rfl
  ·simp only[MemAct.ofEvent,MemAct.touch?,QA]at ha;subst ha;refine⟨rfl,λb hb=>?_⟩;simp only[blk,QA]at hb;subst hb;cases wr with
   |true=>exact .inl ⟨own _ (h2 rfl),rfl⟩
   |false=>
    rcases h1 with h1|h1
    ·exact .inr (.inl ⟨ro _ h1,rfl,rfl⟩)
    ·exact .inl ⟨own _ h1,rfl⟩
  ·simp only[MemAct.ofEvent,MemAct.touch?,QA]at ha;subst ha;refine⟨rfl,λb hb=>?_⟩;simp only[blk,QA]at hb;subst hb;cases wr with
   |true=>exact .inl ⟨own _ (h2 rfl),rfl⟩
   |false=>
    rcases h1 with h1|h1
    ·exact .inr (.inl ⟨ro _ h1,rfl,rfl⟩)
    ·exact .inl ⟨own _ h1,rfl⟩
  ·simp[MemAct.ofEvent,MemAct.touch?]at ha
 ·rcases h e he with⟨c,wr,rfl,h1,_⟩|⟨r,wr,rfl,h1,_⟩|rfl
  ·exact kY (low _ h1) _ _
  ·simp only[MemAct.ofEvent,MemAct.low,Loc.low];exact low _ h1
  ·trivial
 ·rcases h e he with⟨c,wr,rfl,_⟩|⟨r,wr,rfl,_⟩|rfl<;>simp
theorem vK(O:aH T Goal X){sl:Option (Nat×Nat)}(H:PI T Goal X s gs v t)(hfin:∀n xs,s.mt=.fin n xs->False)(hk:k<s.j)(hσ:s.ws k=.ops i (j::l) xs)(hj:j=4\/j=5):bd T Goal X s gs v sl t (X.n0+k):=by
 obtain⟨g,hg,hW⟩:=H.gs.work k hk;rw[hσ]at hW;obtain⟨rfl,hd,_,ho⟩:=hW;obtain⟨hh,hgd⟩:=mr ho.gB;have hr:(s.ws k).ag=21+2*(l.length+1):=by rw[hσ];rfl
 rcases hj with rfl|rfl
 ·simp only[kz,No,Bool.not_eq_true']at hh;obtain⟨Y,st,g1,e,h7,hC⟩:=FF O.A O.K (O.kh i ho.lt) X.p l (ho.d2 (by rw[bg _ (by omega)];exact hh.1.1)) (ho.d3 (by rw[bg _ (by omega)];exact hh.1.2)) H.wd.old;exact dU O H hk hg e (.text i l xs st) (s.ow k) s.st s.sm ⟨hd,ho,Y,h7,hC.low _ λ_ h=>h.elim⟩ (AI _) (λ_ _ _ _=>rfl) (λb hb=>.inl hb) H.wd.wg ⟨rfl,rfl,rfl⟩
   (H.ac.wk _ (by rw[hσ];rfl) (λh=>by cases h) (λh=>by simp only[Wk.ag]at h;omega)) (λmt' hm _=>H.wg.ft X hk _ (by omega) (by simp only[Wk.ag];omega) (by rw[hσ];rfl) mt' hm) (λe he=>by simp at he) (λe he=>by simp at he) (λh=>by cases h) (λe he=>by simp at he) hfin (λmt' hm=>fR hk (by rw[hσ];simp only[Wk.ag,QH];omega) (by rw[hσ];rfl) mt' hm _ _ _)
 ·simp only[kz,No,Bool.not_eq_true']at hh;obtain⟨t',h13,hm⟩:=ho.d4 (by rw[bg _ (by omega)];exact hh.1) (by simp);obtain⟨Y,st,g1,e,h7,hC⟩:=M3 O.A O.K hm X.p l h13 H.wd.old;exact dU O H hk hg e (.gZ i l xs st) (s.ow k) s.st s.sm ⟨hd,ho,Y,h7,hC.low _ λ_ h=>h.elim⟩ (AI _) (λ_ _ _ _=>rfl) (λb hb=>.inl hb) H.wd.wg ⟨rfl,rfl,rfl⟩
   (H.ac.wk _ (by rw[hσ];rfl) (λh=>by cases h) (λh=>by simp only[Wk.ag]at h;omega)) (λmt' hm _=>H.wg.ft X hk _ (by omega) (by simp only[Wk.ag];omega) (by rw[hσ];rfl) mt' hm) (λe he=>by simp at he) (λe he=>by simp at he) (λh=>by cases h) (λe he=>by simp at he) hfin (λmt' hm=>fR hk (by rw[hσ];simp only[Wk.ag,QH];omega) (by rw[hσ];rfl) mt' hm _ _ _)
theorem Bh(hk:k<s.j)(h4:s.j<=4){σ:Wk}{x':gw}(hr:σ.ag=(s.ws k).ag)(hc:σ.cnt=(s.ws k).cnt)(ht:(s.ws k).tree=some x)(ht':σ.tree=some x')(hn:ky Qg Goal x' x)(mt':Mt)(hm:ga s.mt mt')(ow:Nat->Prop)(st sm:Nat):ma Goal X {s.wk mt' k σ ow with st:=st,sm:=sm} s:=by
 have h1:=s.kX mt' hk σ ow Wk.ag;have h2:=s.ku mt' hk σ ow;have h3:(s.wk mt' k σ ow).c=s.c:=by omega
 have h5:=(hm.facts (X:=X)).1 s.c;refine .inr (.inl ⟨?_,k,by omega,x,x',?_,?_,hn,λi hi=>?_⟩)
 ·show mt'.ag (s.wk mt' k σ ow).c+sumTo s.j (λi=>((s.wk mt' k σ ow).ws i).ag)+12*(s.wk mt' k σ ow).c+60*(X.E.n-s.rN)=s.mt.ag s.c+sumTo s.j (λi=>(s.ws i).ag)+12*s.c+60*(X.E.n-s.rN);rw[h3];omega
 ·simp[PS.hE,hk,ht]
 ·show (if k<s.j then ((s.wk mt' k σ ow).ws k).tree else none)=some x';rw[(s.dP mt' k σ ow).1];simp[hk,ht']
 ·show (if i<s.j then ((s.wk mt' k σ ow).ws i).tree else none)=if i<s.j then (s.ws i).tree else none
  rw[(s.fp mt' σ ow hi).1]
theorem xe(O:aH T Goal X)(H:Ac X s)(G:Gs T Goal X s gs v t):s.j<=4:=by
 have h1:=O.nw;have h2:=H.on;obtain⟨h,_,hM⟩:=G.main;cases hmt:s.mt<;>rw[hmt]at h2 hM<;>simp only[Mt.on]at h2<;>simp only[bz]at hM<;>omega
theorem Au(O:aH T Goal X){sl:Option (Nat×Nat)}(H:PI T Goal X s gs v t)(hfin:∀n xs,s.mt=.fin n xs->False)(hk:k<s.j)(hσ:s.ws k=.text i l xs x\/s.ws k=.gZ i l xs x):bd T Goal X s gs v sl t (X.n0+k):=by
 obtain⟨g,hg,hW⟩:=H.gs.work k hk;have h4:=xe O H.ac H.gs;have e6:=O.wg;have hold:=H.wd.old.1;have hwg0: ¬s.ow k X.M.wg:=λh=>by have:=(H.tr.own k _ hk h).1;omega
 rcases hσ with hσ|hσ
 ·rw[hσ]at hW;obtain⟨hd,ho,Y,h7,hC⟩:=hW;have hr:(s.ws k).ag=22+2*l.length:=by rw[hσ];rfl
  rcases hC.step O.A with⟨g1,v1,fs,x1,e,hC1,hn,hD⟩|⟨xv,y,fs,w1,e,hsafe,hkeep,hstr,_,hev⟩
  ·have hevs:=pN O (s':=s.wk s.mt k (.text i l xs x1) λb=>s.ow k b\/(v.heap.size<=b/\b<v1.heap.size)) hk (s.dP s.mt k _ _).2 (v1:=v1) (λb hb=>hb.elim (λh=>QL (H.tr.own k b hk h).2 hD.grow) (·.2)) (IT hold hD.grow) hD.lu;exact dU O H hk hg e (.text i l xs x1) _ s.st s.sm ⟨by rw[pL hD.lu];exact hd,ho,Y,h7,hC1⟩ hD.grow (λb hb hno _=>hD.eX b hb hno) (λb hb=>hb) (by rw[hD.eX _ H.wd.size hwg0];exact H.wd.wg) ⟨hD.tape,hD.os,hD.output⟩
    (H.ac.wk _ (by rw[hσ];rfl) (λh=>by cases h) (λh=>by simp only[Wk.ag]at h;omega)) (λmt' hm _=>H.wg.ft X hk _ (by omega) (by simp only[Wk.ag];omega) (by rw[hσ];rfl) mt' hm) hevs.1 hevs.2.1 (λh=>by cases h) hevs.2.2 hfin (λmt' hm=>Bh hk h4 (by rw[hσ];rfl) (by rw[hσ];rfl) (by rw[hσ];rfl) rfl hn mt' hm _ _ _)
  ·obtain⟨t',rfl,hmid⟩:=Em O.A h7 hsafe hkeep;obtain rfl:=hstr t' rfl;have hevs:=pN O (s':=s.wk s.mt k (.ops i l (upd xs 13 (.string t'))) (s.ow k)) hk (s.dP s.mt k _ _).2 (v1:=v) (λb hb=>(H.tr.own k b hk hb).2) hold hev;obtain⟨hh,hgd⟩:=mr ho.gB;simp only[kz,No,Bool.not_eq_true']at hh;have hne:l≠[]:=lQ (m:=5) hh.2;have e':stepG Pg false g v=.go (aX X.p (upd xs 13 (.string t')) l) v fs:=by rw[<-IA];exact e
   exact dU O H hk hg e' (.ops i l (upd xs 13 (.string t'))) (s.ow k) s.st s.sm ⟨rfl,by rw[pL hev];exact hd,hne,hgd,ho.lt,ho.x4,λh=>ho.d0 (by rw[bg _ (by omega)];exact h),λh=>ho.d1 (by rw[bg _ (by omega)];exact h),λh=>ho.d2 (by rw[bg _ (by omega)];exact h),λh=>ho.d3 (by rw[bg _ (by omega)];exact h),λ_ _=>⟨t',rfl,hmid⟩,λh=>(by rw[hh.2]at h;cases h),λh=>ho.d6 (by rw[bg _ (by omega)];exact h)⟩ (AI _) (λ_ _ _ _=>rfl) (λb hb=>.inl hb) H.wd.wg ⟨rfl,rfl,rfl⟩
    (H.ac.wk _ (by rw[hσ];rfl) (λh=>by cases h) (λh=>by simp only[Wk.ag]at h;omega)) (λmt' hm _=>H.wg.ft X hk _ (by omega) (by simp only[Wk.ag];omega) (by rw[hσ];rfl) mt' hm) hevs.1 hevs.2.1 (λh=>by cases h) hevs.2.2 hfin (λmt' hm=>fR hk (by rw[hσ];simp only[Wk.ag];omega) (by rw[hσ];rfl) mt' hm _ _ _)
 ·rw[hσ]at hW;obtain⟨hd,ho,Y,h7,hC⟩:=hW;have hr:(s.ws k).ag=22+2*l.length:=by rw[hσ];rfl
  rcases hC.step O.A with⟨g1,v1,fs,x1,e,hC1,hn,hD⟩|⟨xv,y,fs,w1,e,hsafe,hkeep,_,hint,hev⟩
  ·have hevs:=pN O (s':=s.wk s.mt k (.gZ i l xs x1) λb=>s.ow k b\/(v.heap.size<=b/\b<v1.heap.size)) hk (s.dP s.mt k _ _).2 (v1:=v1) (λb hb=>hb.elim (λh=>QL (H.tr.own k b hk h).2 hD.grow) (·.2)) (IT hold hD.grow) hD.lu;exact dU O H hk hg e (.gZ i l xs x1) _ s.st s.sm ⟨by rw[pL hD.lu];exact hd,ho,Y,h7,hC1⟩ hD.grow (λb hb hno _=>hD.eX b hb hno) (λb hb=>hb) (by rw[hD.eX _ H.wd.size hwg0];exact H.wd.wg) ⟨hD.tape,hD.os,hD.output⟩
    (H.ac.wk _ (by rw[hσ];rfl) (λh=>by cases h) (λh=>by simp only[Wk.ag]at h;omega)) (λmt' hm _=>H.wg.ft X hk _ (by omega) (by simp only[Wk.ag];omega) (by rw[hσ];rfl) mt' hm) hevs.1 hevs.2.1 (λh=>by cases h) hevs.2.2 hfin (λmt' hm=>Bh hk h4 (by rw[hσ];rfl) (by rw[hσ];rfl) (by rw[hσ];rfl) rfl hn mt' hm _ _ _)
  ·obtain rfl:=G7 O.A h7 hsafe;obtain rfl:=hint (X.a i) rfl;have hevs:=pN O (s':=s.wk s.mt k (.ops i l (upd xs 14 (.int .u64 (X.a i)))) (s.ow k)) hk (s.dP s.mt k _ _).2 (v1:=v) (λb hb=>(H.tr.own k b hk hb).2) hold hev;obtain⟨hh,hgd⟩:=mr ho.gB;simp only[kz,No,Bool.not_eq_true']at hh;have hne:l≠[]:=lQ (m:=6) hh.2;have e':stepG Pg false g v=.go (aX X.p (upd xs 14 (.int .u64 (X.a i))) l) v fs:=by rw[<-PM];exact e
   exact dU O H hk hg e' (.ops i l (upd xs 14 (.int .u64 (X.a i)))) (s.ow k) s.st s.sm ⟨rfl,by rw[pL hev];exact hd,hne,hgd,ho.lt,ho.x4,λh=>ho.d0 (by rw[bg _ (by omega)];exact h),λh=>ho.d1 (by rw[bg _ (by omega)];exact h),λh=>ho.d2 (by rw[bg _ (by omega)];exact h),λh=>ho.d3 (by rw[bg _ (by omega)];exact h),λh h5=>ho.d4 (by rw[bg _ (by omega)];exact h) (by simp),λ_=>rfl,λh=>ho.d6 (by rw[bg _ (by omega)];exact h)⟩ (AI _) (λ_ _ _ _=>rfl) (λb hb=>.inl hb) H.wd.wg ⟨rfl,rfl,rfl⟩
    (H.ac.wk _ (by rw[hσ];rfl) (λh=>by cases h) (λh=>by simp only[Wk.ag]at h;omega)) (λmt' hm _=>H.wg.ft X hk _ (by omega) (by simp only[Wk.ag];omega) (by rw[hσ];rfl) mt' hm) hevs.1 hevs.2.1 (λh=>by cases h) hevs.2.2 hfin (λmt' hm=>fR hk (by rw[hσ];simp only[Wk.ag];omega) (by rw[hσ];rfl) mt' hm _ _ _)
end
end
section
open Go.Conc
open Go.ConcN (upd upd_same upd_ne sumTo sumTo_upd sumTo_congr le_sumTo RelBy)
section
variable {L:au}{T:aO}{Goal:Frame->List Frame->World->Prop}{X:PC L}
theorem Wd.shape{s:PS}{v:World}(H:Wd X s v):v.shape? X.M.wg=some (206,2):=by simp[World.shape?,H.wg]
theorem Wd.cell0(H:Wd X s v):v.cell? ⟨X.M.wg,0,none⟩=some (.int .u64 s.st):=by simp[World.cell?,H.wg]
theorem Wd.uU(H:Wd X s v):v.cell? ⟨X.M.wg,1,none⟩=some (.int .u32 s.sm):=by simp[World.cell?,H.wg]
theorem Wd.frozen{s:PS}{v:World}(H:Wd X s v)(o:Nat):v.frozen? ⟨X.M.wg,o,none⟩=false:=by simp[World.frozen?,H.wg]
theorem Wd.re(H:Wd X s v)(st:Nat):(v.setCell ⟨X.M.wg,0,none⟩ (.int .u64 st)).heap[X.M.wg]?=some (.cells #[.int .u64 st,.int .u32 s.sm] 206):=by simp[World.setCell,Array.getElem?_modify,H.wg]
theorem Wd.uX(H:Wd X s v)(sm:Nat):(v.setCell ⟨X.M.wg,1,none⟩ (.int .u32 sm)).heap[X.M.wg]?=some (.cells #[.int .u64 s.st,.int .u32 sm] 206):=by simp[World.setCell,Array.getElem?_modify,H.wg]
theorem iP(v:World)(b o:Nat)(x:Value):(v.setCell ⟨b,o,none⟩ x).heap.size=v.heap.size/\∀c,c≠b->(v.setCell ⟨b,o,none⟩ x).heap[c]?=v.heap[c]? :=
 ⟨by simp[World.setCell],λc hc=>by simp[World.setCell,Array.getElem?_modify,QK hc]⟩
theorem mg{g B:Nat}(hB:X.M.wg<B)(h:∀e∈es,(∃o wr,e=⟨.cell ⟨X.M.wg,o,none⟩,wr,true⟩)\/e=aL .disable\/e=aL .enable\/e=aL (.releaseMerge (bf X))):
  (∀e∈es,∀a,(MemAct.ofEvent e).touch?=some a->a.loc.isMemory=true/\kC (fP X s') g a)/\(∀e∈es,(MemAct.ofEvent e).low B)/\∀e∈es,e.loc≠.mark (.release (bf X)):=by
 refine⟨λe he a ha=>?_,λe he=>?_,λe he=>?_⟩
 ·rcases h e he with⟨o,wr,rfl⟩|rfl|rfl|rfl
  ·simp only[MemAct.ofEvent,MemAct.touch?,QA]at ha;subst ha;refine⟨rfl,λb hb=>?_⟩;simp only[blk,QA]at hb;subst hb;exact .inr (.inr ⟨.inl rfl,by simp,by simp⟩)
  ·simp[aL,MemAct.ofEvent,MemAct.touch?]at ha
  ·simp[aL,MemAct.ofEvent,MemAct.touch?]at ha
  ·simp[aL,MemAct.ofEvent,MemAct.touch?]at ha
 ·rcases h e he with⟨o,wr,rfl⟩|rfl|rfl|rfl
  ·exact kY hB _ _
  ·trivial
  ·trivial
  ·exact hB
 ·rcases h e he with⟨o,wr,rfl⟩|rfl|rfl|rfl<;>simp[aL]
theorem Je{a:Addr}(hd:Deaf t k=0)(fn:FuncId)(pos:String): ∃r,RelBy a (t++MemOp.ofEvents k fn pos #[aL (.releaseMerge a)]) k r:=by
 have e:MemOp.ofEvents k fn pos #[aL (.releaseMerge a)]=#[{g:=k,fn,pos,act:=.mark (.releaseMerge a)}]:=by simp[ofEvents_eq,aL,MemAct.ofEvent]
 rw[e];have hx:(t++#[({g:=k,fn,pos,act:=.mark (.releaseMerge a)}:MemOp)])[t.size]?=some {g:=k,fn,pos,act:=.mark (.releaseMerge a)}:=by rw[Array.getElem?_append_right (AI _)];simp
 refine⟨t.size,by simp[Trace.act?,hx],by simp[Trace.g?,hx],⟨k,by simp[Trace.g?,hx],by rw[deaf_old (AI _)];exact hd⟩,λi hi hg=>?_⟩;have:(t++#[({g:=k,fn,pos,act:=.mark (.releaseMerge a)}:MemOp)]).g? i=none:=by simp[Trace.g?];omega
 rw[this]at hg;cases hg
theorem KF(O:aH T Goal X){sl:Option (Nat×Nat)}(H:PI T Goal X s gs v t)(hfin:∀n xs,s.mt=.fin n xs->False)(hk:k<s.j)(hσ:s.ws k=.conv 0 xs):bd T Goal X s gs v sl t (X.n0+k):=by
 obtain⟨g,hg,hW⟩:=H.gs.work k hk;rw[hσ]at hW;obtain⟨hgl,hd⟩:=hW;cases hgl;have e:=aE.value (tz (cD X.p xs::eL X.p xs) X.M.wg) (NZ _ _) (w:=v) (w':=v) (es:=#[]) ⟨H.wd.shape,H.wd.shape,rfl,rfl⟩;rw[dB]at e;have hr:(s.ws k).ag=7:=by rw[hσ];rfl
 exact dU O H hk hg e (.lH xs) (s.ow k) s.st s.sm ⟨rfl,hd⟩ (AI _) (λ_ _ _ _=>rfl) (λb hb=>.inl hb) H.wd.wg ⟨rfl,rfl,rfl⟩
  (H.ac.wk _ (by rw[hσ];rfl) (λh=>by cases h) (λ_=>H.ac.gone k hk (by omega))) (λmt' hm _=>H.wg.ft X hk _ (by omega) (by simp[Wk.ag]) (by rw[hσ];rfl) mt' hm) (λe he=>by simp at he) (λe he=>by simp at he) (λh=>by cases h) (λe he=>by simp at he) hfin (λmt' hm=>fR hk (by rw[hσ];simp[Wk.ag]) (by rw[hσ];rfl) mt' hm _ _ _)
theorem GX(O:aH T Goal X){sl:Option (Nat×Nat)}(H:PI T Goal X s gs v t)(hfin:∀n xs,s.mt=.fin n xs->False)(hk:k<s.j)(hσ:s.ws k=.lH xs):bd T Goal X s gs v sl t (X.n0+k):=by
 obtain⟨g,hg,hW⟩:=H.gs.work k hk;rw[hσ]at hW;obtain⟨rfl,hd⟩:=hW;have e:=OU (cD X.p xs::eL X.p xs) X.M.wg v;have hr:(s.ws k).ag=6:=by rw[hσ];rfl
 have hev:=mg (X:=X) (s':=s.wk s.mt k (.cW 3 xs) (s.ow k)) (g:=X.n0+k) H.wd.size (es:=#[aL (.releaseMerge (bf X))]) (λe he=>by simp at he;exact .inr (.inr (.inr he)));exact dU O H hk hg e (.cW 3 xs) (s.ow k) s.st s.sm ⟨(Cw _ _).aN,hd⟩ (AI _) (λ_ _ _ _=>rfl) (λb hb=>.inl hb) H.wd.wg ⟨rfl,rfl,rfl⟩
  (H.ac.wk _ (by rw[hσ];rfl) (λh=>by cases h) (λ_=>H.ac.gone k hk (by omega))) (λmt' hm _=>H.wg.ft X hk _ (by omega) (by simp[Wk.ag]) (by rw[hσ];rfl) mt' hm) hev.1 hev.2.1 (λ_=>Je hd _ _) hev.2.2 hfin (λmt' hm=>fR hk (by rw[hσ];simp[Wk.ag]) (by rw[hσ];rfl) mt' hm _ _ _)
theorem Pw(O:aH T Goal X){sl:Option (Nat×Nat)}(H:PI T Goal X s gs v t)(hfin:∀n xs,s.mt=.fin n xs->False)(hk:k<s.j)(hσ:s.ws k=.cW 0 xs):bd T Goal X s gs v sl t (X.n0+k):=by
 obtain⟨g,hg,hW⟩:=H.gs.work k hk;rw[hσ]at hW;obtain⟨hgl,hd⟩:=hW;cases hgl;have e:=Eu (cD X.p xs::eL X.p xs) X.M.wg v;have hr:(s.ws k).ag=5:=by rw[hσ];rfl
 have hev:=mg (X:=X) (s':=s.wk s.mt k (.add 34 xs) (s.ow k)) (g:=X.n0+k) H.wd.size (es:=#[aL .disable]) (λe he=>by simp at he;exact .inr (.inl he));obtain⟨r,hrel⟩:=H.tr.rel k hk (by rw[hσ];rfl);exact dU O H hk hg e (.add 34 xs) (s.ow k) s.st s.sm ⟨OQ _ _,by rw[hd];rfl⟩ (AI _) (λ_ _ _ _=>rfl) (λb hb=>.inl hb) H.wd.wg ⟨rfl,rfl,rfl⟩
  (H.ac.wk _ (by rw[hσ];rfl) (λh=>by cases h) (λ_=>H.ac.gone k hk (by omega))) (λmt' hm _=>H.wg.ft X hk _ (by omega) (by simp[Wk.ag]) (by rw[hσ];rfl) mt' hm) hev.1 hev.2.1 (λ_=>⟨r,RelBy.still hrel λop hop=>by obtain⟨e,he,rfl⟩:=Go.Conc.mem_ofEvents hop;simp at he;subst he;rfl⟩) hev.2.2 hfin (λmt' hm=>fR hk (by rw[hσ];simp[Wk.ag]) (by rw[hσ];rfl) mt' hm _ _ _)
theorem Nc(O:aH T Goal X){sl:Option (Nat×Nat)}(H:PI T Goal X s gs v t)(hfin:∀n xs,s.mt=.fin n xs->False)(hk:k<s.j){q:Nat}(hσ:s.ws k=.quit q)(hg:gs[X.n0+k]?=some g)(hrun:g.status=.running):bd T Goal X s gs v sl t (X.n0+k):=by
 obtain⟨g',hg',hW⟩:=H.gs.work k hk;rw[hg]at hg';cases hg';rw[hσ]at hW;cases q with
 |zero=>rw[hW.1]at hrun;cases hrun
 |succ q=>
  rcases hW with⟨hf,_⟩|⟨_,g1,es,hm,hst,hq⟩
  ·rw[hf]at hrun;cases hrun
  have hl:pG (s.ws k) (.quit q):=by rw[hσ];exact⟨rfl,rfl,rfl,rfl,rfl,rfl⟩
  obtain⟨r,hrel⟩:=H.tr.rel k hk (by rw[hσ];rfl);refine dU O H hk hg (hst v) (.quit q) (s.ow k) s.st s.sm hq (AI _) (λ_ _ _ _=>rfl) (λb hb=>.inl hb) H.wd.wg ⟨rfl,rfl,rfl⟩ (λmt' hm=>H.ac.oD hm hl _) (λmt' hm _=>H.wg.oD X hm hk hl _) (λe he a ha=>by rw[touch_mute (hm e he)]at ha;cases ha) (λe he=>low_mute (hm e he) _) (λ_=>⟨r,RelBy.still hrel λop hop=>by obtain⟨e,he,rfl⟩:=Go.Conc.mem_ofEvents hop;exact touch_mute (hm e he)⟩) (λe he h=>?_) hfin (λmt' hm=>?_)
  ·have:=hm e he;obtain⟨loc,wr,sy⟩:=e;simp only at h;subst h;simp[Event.mute]at this
  ·have h1:=s.kX mt' hk (.quit q) (s.ow k) Wk.ag;have h2:=s.ku mt' hk (.quit q) (s.ow k);have h5:=s.kX mt' hk (.quit q) (s.ow k) Wk.idle;rw[hl.ag]at h1;rw[hl.cnt]at h2;have hid:(s.ws k).idle=q+1:=by rw[hσ];rfl
   have hid':(Wk.quit q).idle=q:=rfl;have hf:=hm.facts (X:=X);have h3:(s.wk mt' k (.quit q) (s.ow k)).c=s.c:=by omega
   refine .inr (.inr ⟨?_,s.xK mt' (.quit q) (s.ow k) hl.tree,?_⟩)
   ·show mt'.ag (s.wk mt' k (.quit q) (s.ow k)).c+sumTo s.j (λi=>((s.wk mt' k (.quit q) (s.ow k)).ws i).ag)+12*(s.wk mt' k (.quit q) (s.ow k)).c+60*(X.E.n-s.rN)=s.mt.ag s.c+sumTo s.j (λi=>(s.ws i).ag)+12*s.c+60*(X.E.n-s.rN);rw[h3,hf.1 s.c];omega
   ·show mt'.idle+2*sumTo s.j (λi=>((s.wk mt' k (.quit q) (s.ow k)).ws i).idle)+2*sumTo X.n0 s.q<s.mt.idle+2*sumTo s.j (λi=>(s.ws i).idle)+2*sumTo X.n0 s.q
    have:=hf.2.2.2.2.2.2.2.2.2.1;omega
end
end
section
open Go.Conc
open Go.ConcN (upd upd_same upd_ne sumTo sumTo_upd sumTo_congr sumTo_le le_sumTo RelBy)
theorem I0(p:Pl)(xs:Nat->Value)(wg:Nat)(h:N<=3):less ((N+1)*aV:Nat)=(N*aV:Nat)/\QuitsD Pg 94 1 (j1 (cD p xs::eL p xs) wg (N*aV:Nat)):=by
 rcases (show N=0\/N=1\/N=2\/N=3 by omega) with rfl|rfl|rfl|rfl<;>exact⟨by kernel_rfl,zW _ _ wg (λw=>by kernel_rfl) (by kernel_rfl) (λw=>by kernel_rfl) (by kernel_rfl) (λw=>by kernel_rfl) (uD p xs)⟩
theorem EV(p:Pl)(xs:Nat->Value)(wg:Nat)(h1:1<=N)(h:N<=3):less ((N+1)*aV+1:Nat)=(N*aV+1:Nat)/\QuitsD Pg 94 1 (j1 (cD p xs::eL p xs) wg (N*aV+1:Nat)):=by
 rcases (show N=1\/N=2\/N=3 by omega) with rfl|rfl|rfl<;>exact⟨by kernel_rfl,zW _ _ wg (λw=>by kernel_rfl) (by kernel_rfl) (λw=>by kernel_rfl) (by kernel_rfl) (λw=>by kernel_rfl) (uD p xs)⟩
section
variable {L:au}{T:aO}{Goal:Frame->List Frame->World->Prop}{X:PC L}
theorem Wk.uz(σ:Wk):σ.cnt<=1:=by cases σ<;>simp[Wk.cnt]
theorem Wk.ud(σ:Wk):(σ.cnt=1↔4<=σ.ag):=by cases σ<;>simp[Wk.cnt,Wk.ag]<;>omega
theorem Mt.Ci(mt:Mt)(c c':Nat):mt.ag c'<=mt.ag c+11:=by
 cases mt<;>simp only[Mt.ag]<;>(try omega);split<;>split<;>omega
theorem xq(O:aH T Goal X)(H:PI T Goal X s gs v t):s.c+s.mt.dr<=4:=by
 have h1:s.c<=1*s.j:=sumTo_le λi _=>Wk.uz _;have h2:=xe O H.ac H.gs;have h3:=H.ac.on;have h4:=O.nw;obtain⟨h,_,hM⟩:=H.gs.main;cases hmt:s.mt<;>rw[hmt]at h3 hM<;>simp only[Mt.on,bz,Mt.dr]at h3 hM ⊢ <;>omega
theorem wO{f:Nat->Nat}:∀{j k:Nat},k<j->sumTo j f=f k->∀i,i<j->i≠k->f i=0
 |j+1,k,hk,h,i,hi,hne=>by
  simp only[sumTo]at h;rcases QO k j with hkj|hkj
  ·have h1:=le_sumTo (f:=f) hkj;rcases QO i j with hij|hij
   ·exact wO hkj (by omega) i hij hne
   ·obtain rfl:i=j:=by omega
    omega
  ·obtain rfl:k=j:=by omega
   have h2:=le_sumTo (f:=f) (show i<k by omega);omega
theorem Gm(d:Nat)(a:Addr):deafBehind d #[⟨.cell a,false,true⟩,⟨.cell a,true,true⟩]=d:=rfl
theorem Oh(O:aH T Goal X){sl:Option (Nat×Nat)}(H:PI T Goal X s gs v t)(hfin:∀n xs,s.mt=.fin n xs->False)(hk:k<s.j)(hσ:s.ws k=.add 0 xs):bd T Goal X s gs v sl t (X.n0+k):=by
 obtain⟨g,hg,hW⟩:=H.gs.work k hk;rw[hσ]at hW;obtain⟨hgl,hd⟩:=hW;cases hgl;have hr:(s.ws k).ag=4:=by rw[hσ];rfl
 have hcn:(s.ws k).cnt=1:=by rw[hσ];rfl
 have hc1:1<=s.c:=by have:=le_sumTo (f:=λi=>(s.ws i).cnt) hk;unfold PS.c;omega
 have hcb:=xq O H;have hgone:=H.ac.gone k hk (by omega);obtain⟨r,hrel⟩:=H.tr.rel k hk (by rw[hσ];rfl);have hwg0: ¬s.ow k X.M.wg:=λh=>by have:=(H.tr.own k _ hk h).1;omega
 have so:=iP v X.M.wg 0;have key:∀(st':Nat) (σ:Wk),less s.st=st'->σ.cnt=0->σ.bk=none->σ.parked=false->σ.rel=true->σ.ag<=3->fj T Goal X (s.ow k) 1 (j1 (cD X.p xs::eL X.p xs) X.M.wg st') (v.setCell ⟨X.M.wg,0,none⟩ (.int .u64 st')) σ->
   (∀mt',ga s.mt mt'->Wg {s.wk mt' k σ (s.ow k) with st:=st',sm:=s.sm})->bd T Goal X s gs v sl t (X.n0+k):=by
  intro st' σ hst h1 h2 h3 h4 h5 hWA hWg;have e:=aE.value (tX (cD X.p xs::eL X.p xs) X.M.wg) (Nq _ _ s.st) (w:=v) (w':=v.setCell ⟨X.M.wg,0,none⟩ (.int .u64 (less s.st))) (es:=#[aL (.extern 189),⟨.cell (bf X),false,true⟩,⟨.cell (bf X),true,true⟩])
   ⟨H.wd.cell0,by simp,by simp,⟨_,H.wd.cell0⟩,H.wd.frozen 0,rfl,rfl⟩
  rw[Hq,hst]at e;have hev:=mg (X:=X) (s':=s.wk s.mt k σ (s.ow k)) (g:=X.n0+k) (B:=(v.setCell ⟨X.M.wg,0,none⟩ (.int .u64 st')).heap.size) (by rw[(so _).1];exact H.wd.size) (es:=#[⟨.cell (bf X),false,true⟩,⟨.cell (bf X),true,true⟩]) (λe he=>by simp at he;rcases he with rfl|rfl<;>exact .inl ⟨0,_,rfl⟩);refine dU O H hk hg e σ (s.ow k) st' s.sm (by rw[Gm,hd];exact hWA) (by rw[(so _).1];exact AI _) (λb _ _ hb=>(so _).2 b hb) (λb hb=>.inl hb) (H.wd.re st') ⟨rfl,rfl,rfl⟩ (H.ac.wk _ (by rw[hσ];exact h2) (λh=>by rw[h3]at h;cases h) (λ_=>hgone)) (λmt' hm _=>hWg mt' hm) hev.1 hev.2.1 (λ_=>⟨r,?_⟩) hev.2.2 hfin (λmt' hm=>.inl ?_)
  ·refine RelBy.appOwn hrel _ _ _ λj e he=>.inr ⟨?_,?_⟩
   ·have:e∈(#[⟨.cell (bf X),false,true⟩,⟨.cell (bf X),true,true⟩]:Array Event):=Array.mem_of_getElem? he;simp at this;rcases this with rfl|rfl<;>exact⟨_,_,rfl⟩
   ·rw[hd];have:j=0\/j=1:=by
     have:=(Array.getElem?_eq_some_iff.1 he).1;simp at this;omega
    rcases this with rfl|rfl<;>simp[deafBehind]
  ·have a1:=s.kX mt' hk σ (s.ow k) Wk.ag;have a2:=s.ku mt' hk σ (s.ow k);have a3:=(hm.facts (X:=X)).1 s.c;have a4:=mt'.Ci s.c (s.wk mt' k σ (s.ow k)).c;show mt'.ag (s.wk mt' k σ (s.ow k)).c+sumTo s.j (λi=>((s.wk mt' k σ (s.ow k)).ws i).ag)+12*(s.wk mt' k σ (s.ow k)).c+60*(X.E.n-s.rN)<s.mt.ag s.c+sumTo s.j (λi=>(s.ws i).ag)+12*s.c+60*(X.E.n-s.rN);omega
 have hcc:∀mt' σ,σ.cnt=0->(s.wk mt' k σ (s.ow k)).c+1=s.c:=λmt' σ h=>by have:=s.ku mt' hk σ (s.ow k);omega
 have hnl:∀mt' σ,σ.ag=0->mx s->∀i,i<s.j->((s.wk mt' k σ (s.ow k)).ws i).ag=0\/4<=((s.wk mt' k σ (s.ow k)).ws i).ag:=λmt' σ h0 hn i hi=>by
  by_cases hik:i=k
  ·subst hik;rw[(s.dP mt' i σ (s.ow i)).1];exact .inl h0
  ·rw[(s.fp mt' σ (s.ow k) hik).1];exact hn i hi
 cases hwg:H.wg with
 |opn a1 a2 a3 a4 a5=>
  have hl:=I0 X.p xs X.M.wg (N:=s.c+s.mt.dr-1) (by omega);rw[show s.c+s.mt.dr-1+1=s.c+s.mt.dr by omega,<-a3]at hl;refine key _ (.quit 94) hl.1 rfl rfl rfl rfl (by simp[Wk.ag]) hl.2 λmt' hm=>?_;obtain⟨_,_,_,_,f5,_,f7,f8,f9,_,f11,_⟩:=hm.facts (X:=X)
  have:=hcc mt' (.quit 94) rfl;refine .opn (f7.trans a1) (hnl mt' _ rfl a2) ?_ a4 (λq n xs ys e=>?_)
  ·show (s.c+s.mt.dr-1)*aV=((s.wk mt' k (.quit 94) (s.ow k)).c+mt'.dr)*aV;rw[f5];congr 1;omega
  ·show (s.wk mt' k (.quit 94) (s.ow k)).c<=q
   have:=a5 q n xs ys (f11 q n xs ys e);omega
 |cR a1 a2 a3 a4 a5=>
  by_cases h1:s.c=1
  ·refine key 1 (.fa 103 xs) (by rw[a4,h1];kernel_rfl) rfl rfl rfl rfl (by simp[Wk.ag]) ⟨(IC _ _ _).aN,rfl⟩ λmt' hm=>?_;obtain⟨_,_,_,_,f5,_,f7,f8,f9,_,f11,_⟩:=hm.facts (X:=X);have hself:=(s.dP mt' k (.fa 103 xs) (s.ow k)).1;refine .last k (f8.trans a1) hk ?_ ?_ (λi hi hik=>?_) ?_ a5
   ·show 1<=((s.wk mt' k (.fa 103 xs) (s.ow k)).ws k).ag;rw[hself];simp[Wk.ag]
   ·show ((s.wk mt' k (.fa 103 xs) (s.ow k)).ws k).ag<=3;rw[hself];simp[Wk.ag]
   ·show ((s.wk mt' k (.fa 103 xs) (s.ow k)).ws i).ag=0;rw[(s.fp mt' (.fa 103 xs) (s.ow k) hik).1];have hz:=wO (f:=λi=>(s.ws i).cnt) hk (by show s.c=(s.ws k).cnt;omega) i hi hik;rcases a2 i hi with h|h
    ·exact h
    ·have:=(Wk.ud (s.ws i)).2 h;omega
   ·show (1:Nat)=if ((s.wk mt' k (.fa 103 xs) (s.ow k)).ws k).ag=1 then 0 else 1
    rw[hself];simp[Wk.ag]
  ·have hl:=EV X.p xs X.M.wg (N:=s.c-1) (by omega) (by omega);rw[show s.c-1+1=s.c by omega,<-a4]at hl;refine key _ (.quit 94) hl.1 rfl rfl rfl rfl (by simp[Wk.ag]) hl.2 λmt' hm=>?_;obtain⟨_,_,_,_,f5,_,f7,f8,f9,_,f11,_⟩:=hm.facts (X:=X)
   have:=hcc mt' (.quit 94) rfl;refine .cR (f8.trans a1) (hnl mt' _ rfl a2) (by show 1<=(s.wk mt' k (.quit 94) (s.ow k)).c;omega) ?_ a5;show (s.c-1)*aV+1=(s.wk mt' k (.quit 94) (s.ow k)).c*aV+1;congr 2;omega
 |last q a1 a2 a3 a4 a5 a6 a7=>
  by_cases hq:k=q
  ·subst hq;omega
  ·have:=a5 k hk hq;omega
 |dZ a1 a2 a3 a4 a5=>have:=a3 k hk;omega
 |done a1 a2 a3 a4 a5=>have:=a3 k hk;omega
theorem uL(H:Wg s)(hk:k<s.j)(h1:1<=(s.ws k).ag)(h3:(s.ws k).ag<=3):gP s.mt=true/\(∀i,i<s.j->i≠k->(s.ws i).ag=0)/\s.st=(if (s.ws k).ag=1 then 0 else 1)/\s.sm=0:=by
 cases H with
 |opn a1 a2 a3 a4 a5=>have:=a2 k hk;omega
 |cR a1 a2 a3 a4 a5=>have:=a2 k hk;omega
 |last q a1 a2 a3 a4 a5 a6 a7=>
  by_cases hq:k=q
  ·subst hq;exact⟨a1,a5,a6,a7⟩
  ·have:=a5 k hk hq;omega
 |dZ a1 a2 a3 a4 a5=>have:=a3 k hk;omega
 |done a1 a2 a3 a4 a5=>have:=a3 k hk;omega
theorem Pn(O:aH T Goal X){sl:Option (Nat×Nat)}(H:PI T Goal X s gs v t)(hfin:∀n xs,s.mt=.fin n xs->False)(hk:k<s.j)(hσ:s.ws k=.fa 0 xs):bd T Goal X s gs v sl t (X.n0+k):=by
 obtain⟨g,hg,hW⟩:=H.gs.work k hk;rw[hσ]at hW;obtain⟨hgl,hd⟩:=hW;cases hgl;have hr:(s.ws k).ag=3:=by rw[hσ];rfl
 obtain⟨l1,l2,l3,l4⟩:=uL H.wg hk (by omega) (by omega);rw[hr]at l3;have hst:s.st=1:=by simpa using l3
 have hc:=H.wd.cell0;rw[hst]at hc;have e:=aE.value (ua (cD X.p xs) (eL X.p xs) X.M.wg) (C2 _ _ _) (w:=v) (w':=v) (es:=#[aL (.extern 190),⟨.cell (bf X),false,true⟩]) ⟨hc,rfl,rfl⟩;rw[EM]at e;have hev:=mg (X:=X) (s':=s.wk s.mt k (.bX 20 xs) (s.ow k)) (g:=X.n0+k) H.wd.size (es:=#[⟨.cell (bf X),false,true⟩]) (λe he=>by simp at he;subst he;exact .inl ⟨0,_,rfl⟩);obtain⟨r,hrel⟩:=H.tr.rel k hk (by rw[hσ];rfl);refine dU O H hk hg e (.bX 20 xs) (s.ow k) s.st s.sm ⟨(JK _ _ _).aN,by rw[show deafBehind (Deaf t (X.n0+k)) _=Deaf t (X.n0+k) from rfl];exact hd⟩ (AI _) (λ_ _ _ _=>rfl) (λb hb=>.inl hb) H.wd.wg ⟨rfl,rfl,rfl⟩ (H.ac.wk _ (by rw[hσ];rfl) (λh=>by cases h) (λ_=>H.ac.gone k hk (by omega))) (λmt' hm _=>?_) hev.1 hev.2.1 (λ_=>⟨r,?_⟩) hev.2.2 hfin (λmt' hm=>fR hk (by rw[hσ];simp[Wk.ag]) (by rw[hσ];rfl) mt' hm _ _ _)
 ·have f8:=(hm.facts (X:=X)).2.2.2.2.2.2.2.1;have hself:=(s.dP mt' k (.bX 20 xs) (s.ow k)).1;refine .last k (f8.trans l1) hk ?_ ?_ (λi hi hik=>?_) ?_ l4
  ·show 1<=((s.wk mt' k (.bX 20 xs) (s.ow k)).ws k).ag;rw[hself];simp[Wk.ag]
  ·show ((s.wk mt' k (.bX 20 xs) (s.ow k)).ws k).ag<=3;rw[hself];simp[Wk.ag]
  ·show ((s.wk mt' k (.bX 20 xs) (s.ow k)).ws i).ag=0;rw[(s.fp mt' (.bX 20 xs) (s.ow k) hik).1];exact l2 i hi hik
  ·show s.st=if ((s.wk mt' k (.bX 20 xs) (s.ow k)).ws k).ag=1 then 0 else 1
   rw[hself,hst];simp[Wk.ag]
 ·refine RelBy.appOwn hrel _ _ _ λj e he=>.inr ⟨?_,?_⟩
  ·have:e∈(#[⟨.cell (bf X),false,true⟩]:Array Event):=Array.mem_of_getElem? he;simp at this;subst this;exact⟨_,_,rfl⟩
  ·rw[hd];have:j=0:=by
    have:=(Array.getElem?_eq_some_iff.1 he).1;simp at this;omega
   subst this;simp[deafBehind]
theorem KZ(O:aH T Goal X){sl:Option (Nat×Nat)}(H:PI T Goal X s gs v t)(hfin:∀n xs,s.mt=.fin n xs->False)(hk:k<s.j)(hσ:s.ws k=.bX 0 xs):bd T Goal X s gs v sl t (X.n0+k):=by
 obtain⟨g,hg,hW⟩:=H.gs.work k hk;rw[hσ]at hW;obtain⟨hgl,hd⟩:=hW;cases hgl;have hr:(s.ws k).ag=2:=by rw[hσ];rfl
 obtain⟨l1,l2,l3,l4⟩:=uL H.wg hk (by omega) (by omega);have so:=iP v X.M.wg 0;have e:=aE.value (uv (cD X.p xs) (eL X.p xs) X.M.wg) (Iw _ _ _) (w:=v) (w':=v.setCell ⟨X.M.wg,0,none⟩ (.int .u64 0)) (es:=#[aL (.extern 191),⟨.cell (bf X),true,true⟩]) ⟨by simp,by simp,⟨_,H.wd.cell0⟩,H.wd.frozen 0,rfl,rfl⟩;rw[PN]at e;have hev:=mg (X:=X) (s':=s.wk s.mt k (.eQ 27 xs) (s.ow k)) (g:=X.n0+k) (B:=(v.setCell ⟨X.M.wg,0,none⟩ (.int .u64 0)).heap.size) (by rw[(so _).1];exact H.wd.size) (es:=#[⟨.cell (bf X),true,true⟩]) (λe he=>by simp at he;subst he;exact .inl ⟨0,_,rfl⟩);obtain⟨r,hrel⟩:=H.tr.rel k hk (by rw[hσ];rfl);refine dU O H hk hg e (.eQ 27 xs) (s.ow k) 0 s.sm ⟨(Da _ _ _).aN,by rw[show deafBehind (Deaf t (X.n0+k)) _=Deaf t (X.n0+k) from rfl];exact hd⟩ (by rw[(so _).1];exact AI _) (λb _ _ hb=>(so _).2 b hb) (λb hb=>.inl hb) (H.wd.re 0) ⟨rfl,rfl,rfl⟩ (H.ac.wk _ (by rw[hσ];rfl) (λh=>by cases h) (λ_=>H.ac.gone k hk (by omega))) (λmt' hm _=>?_) hev.1 hev.2.1 (λ_=>⟨r,?_⟩) hev.2.2 hfin (λmt' hm=>fR hk (by rw[hσ];simp[Wk.ag]) (by rw[hσ];rfl) mt' hm _ _ _)
 ·have f8:=(hm.facts (X:=X)).2.2.2.2.2.2.2.1;have hself:=(s.dP mt' k (.eQ 27 xs) (s.ow k)).1;refine .last k (f8.trans l1) hk ?_ ?_ (λi hi hik=>?_) ?_ l4
  ·show 1<=((s.wk mt' k (.eQ 27 xs) (s.ow k)).ws k).ag;rw[hself];simp[Wk.ag]
  ·show ((s.wk mt' k (.eQ 27 xs) (s.ow k)).ws k).ag<=3;rw[hself];simp[Wk.ag]
  ·show ((s.wk mt' k (.eQ 27 xs) (s.ow k)).ws i).ag=0;rw[(s.fp mt' (.eQ 27 xs) (s.ow k) hik).1];exact l2 i hi hik
  ·show (0:Nat)=if ((s.wk mt' k (.eQ 27 xs) (s.ow k)).ws k).ag=1 then 0 else 1
   rw[hself];simp[Wk.ag]
 ·refine RelBy.appOwn hrel _ _ _ λj e he=>.inr ⟨?_,?_⟩
  ·have:e∈(#[⟨.cell (bf X),true,true⟩]:Array Event):=Array.mem_of_getElem? he;simp at this;subst this;exact⟨_,_,rfl⟩
  ·rw[hd];have:j=0:=by
    have:=(Array.getElem?_eq_some_iff.1 he).1;simp at this;omega
   subst this;simp[deafBehind]
theorem H0(O:aH T Goal X){sl:Option (Nat×Nat)}(H:PI T Goal X s gs v t)(hfin:∀n xs,s.mt=.fin n xs->False)(hk:k<s.j)(hσ:s.ws k=.eQ 0 xs):bd T Goal X s gs v sl t (X.n0+k):=by
 obtain⟨g,hg,hW⟩:=H.gs.work k hk;rw[hσ]at hW;obtain⟨hgl,hd⟩:=hW;cases hgl;have hr:(s.ws k).ag=1:=by rw[hσ];rfl
 obtain⟨l1,l2,l3,l4⟩:=uL H.wg hk (by omega) (by omega);rw[hr]at l3;have hst:s.st=0:=by simpa using l3
 have so:=iP v X.M.wg 1;have hc:=H.wd.uU;rw[l4]at hc;have e:=aE.value (q9 (cD X.p xs) (eL X.p xs) X.M.wg) (NB _ _ _) (w:=v) (w':=v.setCell ⟨X.M.wg,1,none⟩ (.int .u32 1)) (es:=#[aL (.extern 168),aL .disable,⟨.cell ⟨X.M.wg,1,none⟩,false,true⟩,⟨.cell ⟨X.M.wg,1,none⟩,true,true⟩,aL .enable]) ⟨hc,by simp,by simp,⟨_,hc⟩,H.wd.frozen 1,rfl,rfl⟩;rw[Hw]at e;have hev:=mg (X:=X) (s':=s.wk s.mt k (.quit 24) (s.ow k)) (g:=X.n0+k) (B:=(v.setCell ⟨X.M.wg,1,none⟩ (.int .u32 1)).heap.size) (by rw[(so _).1];exact H.wd.size) (es:=#[aL .disable,⟨.cell ⟨X.M.wg,1,none⟩,false,true⟩,⟨.cell ⟨X.M.wg,1,none⟩,true,true⟩,aL .enable]) (λe he=>by
  simp at he;rcases he with rfl|rfl|rfl|rfl
  ·exact .inr (.inl rfl)
  ·exact .inl ⟨1,_,rfl⟩
  ·exact .inl ⟨1,_,rfl⟩
  ·exact .inr (.inr (.inl rfl)))
 obtain⟨r,hrel⟩:=H.tr.rel k hk (by rw[hσ];rfl);refine dU O H hk hg e (.quit 24) (s.ow k) s.st 1 (by rw[hd];exact I4 _ _ _ (uD X.p xs)) (by rw[(so _).1];exact AI _) (λb _ _ hb=>(so _).2 b hb) (λb hb=>.inl hb) (H.wd.uX 1) ⟨rfl,rfl,rfl⟩ (H.ac.wk _ (by rw[hσ];rfl) (λh=>by cases h) (λ_=>H.ac.gone k hk (by omega))) (λmt' hm hb=>?_) hev.1 hev.2.1 (λ_=>⟨r,?_⟩) hev.2.2 hfin (λmt' hm=>fR hk (by rw[hσ];simp[Wk.ag]) (by rw[hσ];rfl) mt' hm _ _ _)
 ·have f8:=(hm.facts (X:=X)).2.2.2.2.2.2.2.1;refine .dZ (f8.trans l1) (hb (Oa _ _ _) rfl) (λi hi=>?_) hst rfl;show ((s.wk mt' k (.quit 24) (s.ow k)).ws i).ag=0;by_cases hik:i=k
  ·subst hik;rw[(s.dP mt' i (.quit 24) (s.ow i)).1];rfl
  ·rw[(s.fp mt' (.quit 24) (s.ow k) hik).1];exact l2 i hi hik
 ·refine RelBy.appOwn hrel _ _ _ λj e he=>?_;have hj:j=0\/j=1\/j=2\/j=3:=by
   have:=(Array.getElem?_eq_some_iff.1 he).1;simp at this;omega
  rw[hd];rcases hj with rfl|rfl|rfl|rfl
  ·simp at he;subst he;exact .inl rfl
  ·simp at he;subst he;exact .inr ⟨⟨_,_,rfl⟩,by simp[deafBehind,aL]⟩
  ·simp at he;subst he;exact .inr ⟨⟨_,_,rfl⟩,by simp[deafBehind,aL]⟩
  ·simp at he;subst he;exact .inl rfl
end
end
section
open Go.Conc
open Go.ConcN (upd upd_same upd_ne sumTo sumTo_upd sumTo_congr sumTo_le le_sumTo RelBy)
set_option maxRecDepth 100000
theorem Lq(p:Pl)(xs:Nat->Value):dX (fc p xs) (fc p xs).frame=fc p xs:=by kernel_rfl
theorem Fv(p:Pl)(xs:Nat->Value):({fc p xs with status:=.running}:Goroutine)=fc p xs:=by kernel_rfl
theorem Dw(p:Pl)(xs:Nat->Value)(l:List Nat):dX (aX p xs l) (aX p xs l).frame=aX p xs l:=by kernel_rfl
theorem Gn(p:Pl)(xs:Nat->Value)(cs:Array CommCase):(aX p xs [7]).finishComm Pg cs .send 0 undef false=aX p xs []:=by kernel_rfl
section
variable {L:au}{T:aO}{Goal:Frame->List Frame->World->Prop}{X:PC L}
theorem tY(O:aH T Goal X)(H:Gs T Goal X s gs v t)(hg:gs[j]?=some g):(∃k xs,k<s.j/\j=X.n0+k/\s.ws k=.cr xs/\g=gv X xs)\/∀r b,offersAt g r b= []:=by
 have hlt:=(Array.getElem?_eq_some_iff.1 hg).1;rw[H.size]at hlt;rcases RI j with rfl|hpos
 ·obtain⟨h,h0,hM⟩:=H.main;rw[hg]at h0;cases h0;refine .inr λr b=>?_;rcases hM.status O with⟨_,hs⟩|⟨xs,ys,_,rfl⟩
  ·exact offersAt_of_not_blocked (by rw[hs];simp) r b
  ·rfl
 ·rcases QO j X.n0 with hj|hj
  ·have:=(H.gY j g hpos hj hg).status;exact .inr λr b=>offersAt_of_not_blocked (by rcases this with h|h<;>rw[h]<;>simp) r b
  ·obtain⟨k,rfl⟩: ∃k,j=X.n0+k:=⟨j-X.n0,by omega⟩
   have hk:k<s.j:=by omega
   obtain⟨g',hg',hW⟩:=H.work k hk;rw[hg]at hg';cases hg';rcases hW.status with⟨_,hs⟩|⟨xs,h1,h2⟩
   ·exact .inr λr b=>offersAt_of_not_blocked (by rcases hs with h|h<;>rw[h]<;>simp) r b
   ·exact .inl ⟨k,xs,hk,rfl,h1,h2⟩
theorem zC(O:aH T Goal X)(H:Gs T Goal X s gs v t)(i r:Nat)(b:Bool)(h:b=true\/r≠X.M.cN):partners (gs.setIfInBounds i ph) r b= []:=by
 refine partners_nil λj g hg=>?_;rcases getElem?_stand gs i j g hg with⟨_,rfl⟩|⟨_,hg⟩
 ·rfl
 ·rcases tY O H hg with⟨k,xs,_,_,_,rfl⟩|h'
  ·unfold gv;rw[o7];rcases h with rfl|h
   ·exact offersAt_parked_recv' _ _ _ _ _
   ·cases b with
    |true=>exact offersAt_parked_recv' _ _ _ _ _
    |false=>rw[offersAt_parked_recv,By (QK h)]
  ·exact h' r b
theorem Tr.still(H:Tr X s v t)(e1:s'.j=s.j)(e2:s'.ow=s.ow)(e3:∀k,k<s.j->(s'.ws k).rel=true->(s.ws k).rel=true)(e4:s'.mt.deaf=s.mt.deaf)(e5:v1.heap.size=v.heap.size)(e6:∀n xs,s'.mt=.fin n xs->False){u:List MemOp}(h1:∀op∈u,op.act.touch?=none)(h2:∀op∈u,op.act.low v.heap.size)(h3:∀op∈u,mR op.act)(h4:∀op∈u,op.act≠.mark (.release (bf X))):Tr X s' v1 (t++u.toArray):=by
 have hlots:fP X s'=fP X s:=by unfold fP;rw[e1,e2]
 have hwk:ec X s'=ec X s:=by funext k;simp only[ec,e1]
 refine⟨?_,?_,?_,λk hk hr=>?_,H.norel.app (λop hop=>h4 op (by simpa using hop)),by rw[kN t 0 u h3,H.d0,e4],λn xs h=>(e6 n xs h).elim⟩
 ·rw[hlots,hwk,e5];exact H.tp.still u h1 h2
 ·rw[e1,e2,e5];exact H.own
 ·rw[e1,e2];exact H.apart
 ·rw[e1]at hk;obtain⟨r,hr⟩:=H.rel k hk (e3 k hk hr);exact⟨r,RelBy.still hr λop hop=>h1 op (by simpa using hop)⟩
theorem Gs.comm(O:aH T Goal X)(H:Gs T Goal X s gs v t)(hk:k<s.j){g1:Goroutine}(e1:s'.j=s.j)(e2:∀i,i≠k->s'.ws i=s.ws i)(e3:s'.ow=s.ow)(e4:s'.mt=s.mt)(e5:s'.q=s.q){u:List MemOp}(h3:∀op∈u,mR op.act)(hW:fj T Goal X (s.ow k) (Deaf t (X.n0+k)) g1 v1 (s'.ws k))(hs:v.heap.size<=v1.heap.size)(ho:∀b,((∃r,X.E.ρ r b)\/∃i,i<s.j/\s.ow i b)->v1.heap[b]?=v.heap[b]?):Gs T Goal X s' (gs.setIfInBounds (X.n0+k) g1) v1 (t++u.toArray):=by
 have hn0:=O.n0;have hdf:∀i,Deaf (t++u.toArray) i=Deaf t i:=λi=>kN t i u h3;obtain⟨h,h0,hM⟩:=H.main;refine⟨by simp[H.size,e1],⟨h,by rw[Array.getElem?_setIfInBounds_ne (by omega)];exact h0,by rw[e4];exact hM⟩,λi hi=>?_,λi x hi hn hg=>?_,λi hi=>?_⟩
 ·rw[e1]at hi;rw[hdf,e3];by_cases hik:i=k
  ·subst hik;exact⟨g1,by rw[Array.getElem?_setIfInBounds_self_of_lt (by rw[H.size];omega)],hW⟩
  ·obtain⟨x,hx,hw⟩:=H.work i hi;refine⟨x,by rw[Array.getElem?_setIfInBounds_ne (by omega)];exact hx,?_⟩;rw[e2 i hik];exact hw.js hs λb hb=>ho b (hb.imp id λx=>⟨i,hi,x⟩)
 ·rw[Array.getElem?_setIfInBounds_ne (by omega)]at hg;rw[hdf,e5];exact H.gY i x hi hn hg
 ·rw[hdf];exact H.above i (by simpa using hi)
theorem oE(v:World)(c cap:Nat)(buf:Array Value)(cl:Bool)(s r:Nat)(tm:Bool)(hc:c<v.heap.size):(v.setChan c cap buf cl s r tm).heap.size=v.heap.size/\(v.setChan c cap buf cl s r tm).heap[c]?=some (.chan cap buf cl s r tm)/\(∀b,b≠c->(v.setChan c cap buf cl s r tm).heap[b]?=v.heap[b]?)/\(v.setChan c cap buf cl s r tm).tape=v.tape/\(v.setChan c cap buf cl s r tm).os=v.os/\(v.setChan c cap buf cl s r tm).output=v.output:=by
 refine⟨by simp[World.setChan],by simp[World.setChan,hc],λb hb=>by simp[World.setChan,Array.getElem?_setIfInBounds_ne (QK hb)],rfl,rfl,rfl⟩
theorem yk(hk:k<s.j)(σ:Wk):sumTo s.j (λi=>if ((upd s.ws k σ) i).bk.isSome then 1 else 0)+(if (s.ws k).bk.isSome then 1 else 0)=sumTo s.j (λi=>if (s.ws i).bk.isSome then 1 else 0)+(if σ.bk.isSome then 1 else 0):=
 sumTo_upd s.ws σ (λx=>if x.bk.isSome then 1 else 0) hk
theorem xR(O:aH T Goal X){sl:Option (Nat×Nat)}(H:PI T Goal X s gs v t)(hfin:∀n xs,s.mt=.fin n xs->False)(hk:k<s.j)(hσ:s.ws k=.recv 0 xs\/s.ws k=.woken xs):bd T Goal X s gs v sl t (X.n0+k):=by
 obtain⟨g,hg,hW⟩:=H.gs.work k hk;have hn0:=O.n0;have e2:=O.cN;have e6:=O.wg;have e4:=O.cB;have e1:=O.bT;have e3:=O.bN;have e5:=O.bB;have hne0:(X.n0+k==0)=false:=by simp;omega
 have hd:Deaf t (X.n0+k)=0:=by
  rcases hσ with hσ|hσ<;>rw[hσ]at hW<;>exact hW.2
 have hr:(s.ws k).ag=9/\(s.ws k).bk=none/\(s.ws k).cnt=1/\(s.ws k).tree=none:=by rcases hσ with hσ|hσ<;>rw[hσ]<;>exact⟨rfl,rfl,rfl,rfl⟩
 have e:stepG Pg (X.n0+k==0) g v=.comm (fc X.p xs) #[rcase X.M.cN (.int .i64 0)] true (.recv true) v #[]:=by
  have hc:=aE.comm (sC X.p xs) (EC X.p xs) (w:=v) (w':=v) (es:=#[]) ⟨rfl,rfl⟩;rw[dB,Lq]at hc;rw[hne0];rcases hσ with hσ|hσ
  ·rw[hσ]at hW;have hgl:=hW.1;cases hgl;exact hc
  ·rw[hσ]at hW;rw[hW.1];unfold gv;rw[stepG_tries,Fv];exact hc
 have hz:∀fn pos,MemOp.ofEvents (X.n0+k) fn pos #[]=#[]:=λfn pos=>by simp[ofEvents_eq]
 have hcN:=H.wd.cN;have hcl:X.M.cN<v.heap.size:=by have:=H.wd.size;omega
 have hpt:=zC O H.gs (X.n0+k) X.M.cN true (.inl rfl);have hown:∀i b,i<s.j->s.ow i b->b≠X.M.cN:=λi b hi hb h=>by have:=(H.tr.own i b hi hb).1;omega
 cases hb:s.bD with
 |cons i rest=>
  rw[hb]at hcN;have hrun:=crowd_recv_buf (P:=Pg) (sl:=sl) hg e hcN (by simp) hpt;obtain⟨c1,c2,c3,c4,c5,c6⟩:=oE v X.M.cN X.E.n (rest.map X.num).toArray s.mt.shut (s.mt.aY X) (s.rN+1) false hcl;have ex:((i::rest).map X.num).toArray.extract 1 ((i::rest).map X.num).toArray.size=(rest.map X.num).toArray:=by simp[RY]
  have eg:((i::rest).map X.num).toArray.getD 0 undef=X.num i:=by simp
  rw[ex,eg,hz,Rn]at hrun;have hgot:=H.ac.iX;have hsent:=H.ac.aY;rw[hb]at hgot;simp only[QH]at hgot;have hin:i<X.E.n:=H.ac.eC i (by rw[hb];simp);let s':PS:={s with ws:=upd s.ws k (.draw 11 i (fZ xs (IntKind.i64.wrap (X.E.first+i)))),bD:=rest,rN:=s.rN+1}
  have hsw:∀m,m≠k->s'.ws m=s.ws m:=λm hm=>upd_ne _ _ hm;have hsk:s'.ws k=.draw 11 i (fZ xs (IntKind.i64.wrap (X.E.first+i))):=upd_same _ _ _;refine⟨s',_,_,_,hrun,⟨?_,?_,?_,?_,?_⟩,.inl ?_⟩
  ·refine H.gs.comm O hk (s':=s') rfl hsw rfl rfl rfl (u:=[_,_]) ?_ ?_ (by rw[c1];exact AI _) ?_
   ·intro op hop;simp at hop;rcases hop with rfl|rfl<;>exact⟨by simp,by simp⟩
   ·rw[hsk];refine⟨?_,hd,hin,rfl⟩;have hgd:=(AW X.p xs (IntKind.i64.wrap (X.E.first+i))).aN;rw[yA]at hgd;exact hgd
   ·rintro b (⟨r,hr⟩|⟨m,hm,hb'⟩)
    ·exact c3 b (by have:=(O.K.bC r b hr).2;omega)
    ·exact c3 b (hown m b hm hb')
  ·refine⟨⟨by rw[c1];exact H.wd.old.1,λb hb'=>by rw[c3 b (by omega)];exact H.wd.old.2 b hb'⟩,by rw[c1];exact H.wd.size,?_,?_,?_,c2,?_,?_,H.wd.tape,H.wd.os,H.wd.output⟩
   ·rw[c3 _ (by omega)];exact H.wd.bT
   ·rw[c3 _ (by omega)];exact H.wd.bN
   ·rw[c3 _ (by omega)];exact H.wd.bB
   ·obtain⟨sB,h⟩:=H.wd.cB;exact⟨sB,by rw[c3 _ (by omega)];exact h⟩
   ·rw[c3 _ (by omega)];exact H.wd.wg
  ·have hjs:=yk hk (.draw 11 i (fZ xs (IntKind.i64.wrap (X.E.first+i))));have hcount:=H.ac.count;rw[hb]at hcount;simp only[QH]at hcount;rw[hr.2.1]at hjs;refine⟨H.ac.on,H.ac.aY,by show s.rN+1+rest.length=s.mt.aY X;omega,λm hm=>?_,?_,λm hm=>H.ac.eC m (by rw[hb];simp[show m∈rest from hm]),H.ac.okB,λm hm hp=>?_,λm hm hrk=>?_⟩
   ·rcases H.ac.cover m hm with h|h|⟨k',h1,h2⟩
    ·rw[hb]at h;rcases RP.1 h with rfl|h
     ·exact .inr (.inr ⟨k,hk,by rw[hsk];rfl⟩)
     ·exact .inl h
    ·exact .inr (.inl h)
    ·refine .inr (.inr ⟨k',h1,?_⟩);have:k'≠k:=λe=>by rw[e,hr.2.1]at h2;cases h2
     rw[hsw k' this];exact h2
   ·show rest.length+sumTo s.j (λm=>if ((upd s.ws k (.draw 11 i (fZ xs (IntKind.i64.wrap (X.E.first+i))))) m).bk.isSome then 1 else 0)+s.bZ.length<=s.mt.aY X;have hjs':sumTo s.j (λm=>if ((upd s.ws k (.draw 11 i (fZ xs (IntKind.i64.wrap (X.E.first+i))))) m).bk.isSome then 1 else 0)+0=sumTo s.j (λm=>if (s.ws m).bk.isSome then 1 else 0)+1:=hjs;omega
   ·by_cases hmk:m=k
    ·subst hmk;rw[hsk]at hp;cases hp
    ·rw[hsw m hmk]at hp
     have:=(H.ac.cr m hm hp).1;rw[hb]at this;cases this
   ·by_cases hmk:m=k
    ·subst hmk;rw[hsk]at hrk;simp[Wk.ag]at hrk
    ·rw[hsw m hmk]at hrk
     have:=(H.ac.gone m hm hrk).2;rw[hb]at this;cases this
  ·have:=H.wg.ft X hk (σ:=.draw 11 i (fZ xs (IntKind.i64.wrap (X.E.first+i)))) (s.ow k) (by omega) (by simp[Wk.ag]) (by rw[hr.2.2.1];rfl) s.mt (.inl rfl);cases this with
   |opn a1 a2 a3 a4 a5=>exact .opn a1 a2 a3 a4 a5
   |cR a1 a2 a3 a4 a5=>exact .cR a1 a2 a3 a4 a5
   |last q a1 a2 a3 a4 a5 a6 a7=>exact .last q a1 a2 a3 a4 a5 a6 a7
   |dZ a1 a2 a3 a4 a5=>exact .dZ a1 a2 a3 a4 a5
   |done a1 a2 a3 a4 a5=>exact .done a1 a2 a3 a4 a5
  ·refine H.tr.still (s':=s') rfl rfl (λm hm hrl=>?_) rfl c1 (λn xs h=>hfin n xs h) (u:=[_,_]) ?_ ?_ ?_ ?_
   ·by_cases hmk:m=k
    ·subst hmk;rw[hsk]at hrl;cases hrl
    ·rw[hsw m hmk]at hrl;exact hrl
   ·intro op hop;simp at hop;rcases hop with rfl|rfl<;>rfl
   ·intro op hop;simp at hop;rcases hop with rfl|rfl<;>exact hcl
   ·intro op hop;simp at hop;rcases hop with rfl|rfl<;>exact⟨by simp,by simp⟩
   ·intro op hop;simp at hop;rcases hop with rfl|rfl<;>simp
  ·have h1:=sumTo_upd s.ws (.draw 11 i (fZ xs (IntKind.i64.wrap (X.E.first+i)))) Wk.ag hk;have h2:=sumTo_upd s.ws (.draw 11 i (fZ xs (IntKind.i64.wrap (X.E.first+i)))) Wk.cnt hk;have h3:s'.c=s.c:=by show sumTo s.j (λm=>((upd s.ws k (.draw 11 i (fZ xs (IntKind.i64.wrap (X.E.first+i))))) m).cnt)=_;unfold PS.c;have h2':sumTo s.j (λm=>((upd s.ws k (.draw 11 i (fZ xs (IntKind.i64.wrap (X.E.first+i))))) m).cnt)+(s.ws k).cnt=sumTo s.j (λm=>(s.ws m).cnt)+1:=h2;omega
   show s.mt.ag s'.c+sumTo s.j (λm=>((upd s.ws k (.draw 11 i (fZ xs (IntKind.i64.wrap (X.E.first+i))))) m).ag)+12*s'.c+60*(X.E.n-(s.rN+1))<s.mt.ag s.c+sumTo s.j (λm=>(s.ws m).ag)+12*s.c+60*(X.E.n-s.rN);rw[h3];have h1':sumTo s.j (λm=>((upd s.ws k (.draw 11 i (fZ xs (IntKind.i64.wrap (X.E.first+i))))) m).ag)+(s.ws k).ag=sumTo s.j (λm=>(s.ws m).ag)+60:=h1;have:X.E.n-s.rN=X.E.n-(s.rN+1)+1:=by omega
   have hw9:=hr.1;omega
 |nil=>
  rw[hb]at hcN;simp only[List.map_nil]at hcN;cases hsh:s.mt.shut with
  |true=>
   rw[hsh]at hcN;have hrun:=crowd_recv_closed (P:=Pg) (sl:=sl) hg e hcN hpt;rw[hz,Rn]at hrun;let s':PS:={s with ws:=upd s.ws k (.conv 21 xs)}
   have hsw:∀m,m≠k->s'.ws m=s.ws m:=λm hm=>upd_ne _ _ hm;have hsk:s'.ws k=.conv 21 xs:=upd_same _ _ _;have hwk:s'=s.wk s.mt k (.conv 21 xs) (s.ow k):=by
    show _=({s with mt:=s.mt,ws:=upd s.ws k (.conv 21 xs),ow:=upd s.ow k (s.ow k)}:PS)
    rw[show upd s.ow k (s.ow k)=s.ow from funext λb=>by unfold upd;split<;>simp_all]
   refine⟨s',_,_,_,hrun,⟨?_,H.wd.same rfl rfl rfl rfl rfl rfl rfl,?_,?_,?_⟩,?_⟩
   ·refine H.gs.comm O hk (s':=s') rfl hsw rfl rfl rfl (u:=[_]) ?_ ?_ (AI _) (λ_ _=>rfl)
    ·intro op hop;simp at hop;subst hop;exact⟨by simp,by simp⟩
    ·rw[hsk];refine⟨?_,hd⟩;have h1:=(Pp X.p xs).aN;rw[Cy]at h1;exact h1.trans (KN _ _).aN
   ·rw[hwk];exact H.ac.wk _ (by rw[hr.2.1];rfl) (λh=>by cases h) (λ_=>⟨hsh,hb⟩) s.mt (.inl rfl)
   ·rw[hwk];exact H.wg.ft X hk _ (by omega) (by simp[Wk.ag]) (by rw[hr.2.2.1];rfl) s.mt (.inl rfl)
   ·refine H.tr.still (s':=s') rfl rfl (λm hm hrl=>?_) rfl rfl (λn xs h=>hfin n xs h) (u:=[_]) ?_ ?_ ?_ ?_
    ·by_cases hmk:m=k
     ·subst hmk;rw[hsk]at hrl;cases hrl
     ·rw[hsw m hmk]at hrl;exact hrl
    ·intro op hop;simp at hop;subst hop;rfl
    ·intro op hop;simp at hop;subst hop;exact hcl
    ·intro op hop;simp at hop;subst hop;exact⟨by simp,by simp⟩
    ·intro op hop;simp at hop;subst hop;simp
   ·rw[hwk];exact fR hk (by rw[hr.1];simp[Wk.ag]) (by rw[hr.2.2.1];rfl) s.mt (.inl rfl) _ s.st s.sm
  |false=>
   rw[hsh]at hcN;have hrun:=crowd_waits (P:=Pg) (sl:=sl) hg e (λcc hcc=>by simp at hcc;subst hcc;exact ways_recv_none hcN hpt);rw[hz]at hrun;let s':PS:={s with ws:=upd s.ws k (.cr xs)}
   have hsw:∀m,m≠k->s'.ws m=s.ws m:=λm hm=>upd_ne _ _ hm;have hsk:s'.ws k=.cr xs:=upd_same _ _ _;have hwk:s'=s.wk s.mt k (.cr xs) (s.ow k):=by
    show _=({s with mt:=s.mt,ws:=upd s.ws k (.cr xs),ow:=upd s.ow k (s.ow k)}:PS)
    rw[show upd s.ow k (s.ow k)=s.ow from funext λb=>by unfold upd;split<;>simp_all]
   refine⟨s',_,_,_,hrun,⟨?_,H.wd.same rfl rfl rfl rfl rfl rfl rfl,?_,?_,?_⟩,?_⟩
   ·refine H.gs.comm O hk (s':=s') rfl hsw rfl rfl rfl (u:=[]) (λop hop=>by cases hop) ?_ (AI _) (λ_ _=>rfl);rw[hsk];exact⟨rfl,hd⟩
   ·rw[hwk];exact H.ac.wk _ (by rw[hr.2.1];rfl) (λ_=>⟨hb,hsh⟩) (λh=>by simp[Wk.ag]at h) s.mt (.inl rfl)
   ·rw[hwk];exact H.wg.ft X hk _ (by omega) (by simp[Wk.ag]) (by rw[hr.2.2.1];rfl) s.mt (.inl rfl)
   ·refine H.tr.still (s':=s') rfl rfl (λm hm hrl=>?_) rfl rfl (λn xs h=>hfin n xs h) (u:=[]) (λop hop=>by cases hop) (λop hop=>by cases hop) (λop hop=>by cases hop) (λop hop=>by cases hop);by_cases hmk:m=k
    ·subst hmk;rw[hsk]at hrl;cases hrl
    ·rw[hsw m hmk]at hrl;exact hrl
   ·rw[hwk];exact fR hk (by rw[hr.1];simp[Wk.ag]) (by rw[hr.2.2.1];rfl) s.mt (.inl rfl) _ s.st s.sm
end
end
end Go.Proofs.YtldmcdeibiclkaaGreat.U
