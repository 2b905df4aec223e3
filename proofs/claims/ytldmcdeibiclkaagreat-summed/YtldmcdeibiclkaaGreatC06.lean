/-
  Toward summed_holds: GOROUTINE 0 BESIDE LEAVERS, CARRIED BY THE LONE ONE's TREE, from pool to pool: on whatever
-/
import Derived.Test.YtldmcdeibiclkaaGreatC05
import Derived.Conc.Beside
import Derived.Conc.CrowdTrace
import Derived.Test.YtldmcdeibiclkaaGreatProg
set_option linter.unusedVariables false
set_option linter.unusedSimpArgs false
set_option maxRecDepth 100000
set_option maxHeartbeats 20000000
namespace Go.Proofs.YtldmcdeibiclkaaGreat.U
variable {w v w':World}{es:Array Event}{gs:Array Goroutine}{g1 h:Goroutine}{q:Nat->Nat}{X:Frame->List Frame->World->Prop}{k i b d:Nat}{α:Type}{f:FuncId}
section
open Go.Conc
open Go.ConcN (sumTo upd sumTo_upd upd_ne upd_same)
def gU(Sh:Nat->Prop):Loc->Prop
 |.cell a=>Sh a.block
 |.obj r=>Sh r
 |_=>False
abbrev lg(fr:Frame)(cs:List Frame):Goroutine:={frame:=fr,callers:=cs++ [wall],status:=.running,dying:=none}
section
variable {P:Program}{G:Array Func}{L:au}{T:aO}{D:List Frame}{Sh:Nat->Prop}{τ:ah}
theorem zx{Rg Wg:Nat->Prop}{B:Nat}{e:Event}(h:iy Rg Wg e)(hs:∀s,Rg s->¬Sh s)(hb:∀s,Rg s->s<B):EvL (gU Sh) B e:=by
 rcases h with⟨a,wr,rfl,hr,_⟩|⟨r,wr,rfl,hr,_⟩|rfl
 ·exact evL_cell a wr (hs _ hr) (hb _ hr)
 ·refine⟨λx hx hsx=>?_,by simp,by simp,?_⟩
  ·simp only[MemAct.ofEvent,MemAct.touch?,QA]at hx;subst hx;exact absurd hsx (hs _ hr)
  ·simp only[MemAct.ofEvent,MemAct.low,Loc.low];exact hb _ hr
 ·exact⟨λx hx=>by simp[MemAct.ofEvent,MemAct.touch?]at hx,by simp,by simp,trivial⟩
structure ja(τ τ':ah)(v v':World):Prop where
 grow:v.heap.size<=v'.heap.size
 tape:v'.tape=v.tape
 os:v'.os=v.os
 output:v'.output=v.output
 eX:∀s,s<v.heap.size->(∀r,¬τ.un r s)->v'.heap[s]?=v.heap[s]?
 more:eO τ τ'
 new:∀r s,τ'.un r s->τ.un r s\/(v.heap.size<=s/\s<v'.heap.size)
theorem eO.refl(τ:ah):eO τ τ:=⟨λ_ _ h=>h,λ_ _ h=>h,λ_ _ h=>h,λ_ _ h=>h⟩
theorem eO.trans{a b c:ah}(h:eO a b)(k:eO b c):eO a c:=⟨λ_ _ x=>k.all _ _ (h.all _ _ x),λ_ _ x=>k.own _ _ (h.own _ _ x),λ_ _ x=>k.box _ _ (h.box _ _ x),λ_ _ x=>k.lp _ _ (h.lp _ _ x)⟩
theorem ja.refl(τ:ah)(v:World):ja τ τ v v:=⟨AI _,rfl,rfl,rfl,λ_ _ _=>rfl,.refl τ,λ_ _ h=>.inl h⟩
theorem ja.trans{π π1 π2:ah}{v1 v2:World}(h:ja π π1 v v1)(k:ja π1 π2 v1 v2):ja π π2 v v2:=by
 have g1:=h.grow;have g2:=k.grow;refine⟨IT g1 g2,k.tape.trans h.tape,k.os.trans h.os,k.output.trans h.output,λs hs ha=>?_,h.more.trans k.more,λr s hx=>?_⟩
 ·rw[k.eX s (by omega) (λr hx=>?_),h.eX s hs ha];rcases h.new r s hx with hy|⟨hy,_⟩
  ·exact ha r hy
  ·omega
 ·rcases k.new r s hx with hy|⟨h1,h2⟩
  ·rcases h.new r s hy with hz|⟨h1,h2⟩
   ·exact .inl hz
   ·exact .inr ⟨h1,by omega⟩
  ·exact .inr ⟨by omega,h2⟩
theorem fT.at{B D:List Frame}{g:Goroutine}(hS:fT P G L T τ B D g w h v)(d:Nat):fT P G L T τ B D g w h (v.at d):=⟨hS.g,hS.bi,hS.flat,hS.bC,hS.obj⟩
theorem ti{t:Trace}{a:Goroutine}(hL:Leavers P t gs q)(h0:gs[0]?=some a)(ha:a.status=.running):∀g∈gs,awake g:=by
 intro g hg;obtain⟨i,hi,rfl⟩:=Array.mem_iff_getElem.1 hg;rcases RI i with rfl|hpos
 ·have:gs[0]=a:=by simpa[Array.getElem?_eq_getElem hi] using h0
  rw[this];exact awake_of (.inl ha)
 ·exact awake_of ((hL.old i _ hpos (Array.getElem?_eq_getElem hi)).status.elim .inl λx=>.inr (.inr x))
theorem yw{t:Trace}{a a':Goroutine}{fn:FuncId}{pos:String}(hL:Leavers P t gs q)(hsz:0<gs.size):
  Leavers P (t++MemOp.ofEvents 0 fn pos es) ((gs.map (woken P a a' w')).setIfInBounds 0 a') q:=by
 refine⟨λj x hj hx=>?_,λj hj=>?_⟩
 ·have hne:0≠j:=by omega
  rw[Array.getElem?_setIfInBounds_ne hne,Array.getElem?_map]at hx;obtain⟨y,hy,rfl⟩:=Rp.1 hx;have hq:=hL.old j y hj hy;rw[woken_quitsD hq,Deaf_other t (by omega) _ (λop hop=>by obtain⟨e,_,rfl⟩:=Go.Conc.mem_ofEvents hop;rfl)];exact hq
 ·simp only[Rt,Array.size_map]at hj;rw[Deaf_other t (g':=0) (by omega) _ (λop hop=>by obtain⟨e,_,rfl⟩:=Go.Conc.mem_ofEvents hop;rfl)];exact hL.above j hj
theorem uP{t:Trace}{a:Goroutine}(hL:Leavers P t gs q)(h0:gs[0]?=some a)(ha:a.status=.running){g:Goroutine}(hi:gs[i]?=some g)(hpos:0<i)(hg:g.status=.running)(w:World)(sl:Option (Nat×Nat)):
  ∃gs' k es,runT P (crowd gs w sl) i=(.next (crowd gs' w sl),MemOp.ofEvents i g.frame.fn g.frame.place es)/\gs'.size=gs.size/\gs'[0]?=some a/\Leavers P (t++MemOp.ofEvents i g.frame.fn g.frame.place es) gs' (upd q i k)/\(∀e∈es,e.mute=true)/\sumTo gs.size (upd q i k)+1=sumTo gs.size q:=by
 have hq:=hL.old i g hpos hi;have hi0:(i==0)=false:=by simp;omega
 have hlt:i<gs.size:=(Array.getElem?_eq_some_iff.1 hi).1;cases hqi:q i with
 |zero=>rw[hqi]at hq;rw[hq.1]at hg;cases hg
 |succ k=>
  rw[hqi]at hq;rcases hq with⟨hf,_⟩|⟨_,g',es,hm,hstp,hq'⟩
  ·rw[hf]at hg;cases hg
  have hrunT:=runT_crowd_go (P:=P) (sl:=sl) (i:=i) hi (by rw[hi0];exact hstp w);have hsum:sumTo gs.size (upd q i k)+(k+1)=sumTo gs.size q+k:=by
   have:=sumTo_upd q k id hlt;simpa[hqi] using this
  refine⟨_,k,es,hrunT,by simp,?_,⟨λj x hj hx=>?_,λj hj=>?_⟩,hm,by omega⟩
  ·have hne:i≠0:=by omega
   rw[Array.getElem?_setIfInBounds_ne hne,Array.getElem?_map,h0];simp[woken_run ha]
  ·by_cases hji:i=j
   ·subst hji;rw[Array.getElem?_setIfInBounds_self_of_lt (by simpa using hlt)]at hx;obtain rfl:=Q0 hx;rw[upd_same,Deaf_own];exact hq'
   ·rw[Array.getElem?_setIfInBounds_ne hji,Array.getElem?_map]at hx;obtain⟨y,hy,rfl⟩:=Rp.1 hx;have hqj:=hL.old j y hj hy;rw[woken_quitsD hqj,upd_ne q k (QK hji),Deaf_other t hji _ (λop hop=>by obtain⟨e,_,rfl⟩:=Go.Conc.mem_ofEvents hop;rfl)];exact hqj
  ·rw[Deaf_other t (g':=i) (by simp at hj;omega) _ (λop hop=>by obtain⟨e,_,rfl⟩:=Go.Conc.mem_ofEvents hop;rfl)];exact hL.above j (by simpa using hj)
structure gD(P:Program)(G:Array Func)(L:au)(T:aO)(Sh:Nat->Prop)(D:List Frame)(τ:ah)(fr:Frame)(cs:List Frame)(w:World)(gs:Array Goroutine)(v:World)(t:Trace)(q:Nat->Nat):Prop where
 main: ∃h,gs[0]?=some h/\fT P G L T τ [wall] D (lg fr cs) w h v
 fq:Leavers P t gs q
 jQ:Past (gU Sh) v.heap.size t
 apart:∀r s,τ.un r s->¬Sh s
 old:∀s,Sh s->s<v.heap.size
inductive Below (Q:Program) (Goal:Frame->List Frame->World->Prop):Frame->List Frame->World->Frame->List Frame->World->Prop
 |one {fr cs w fr1 cs1 w1} (t:Nat->Question->Nat) (es:Array Event): ¬Goal fr cs w->stepG Q true (lg fr cs) {w with tape:=t}=.go (lg fr1 cs1) w1 es->Below Q Goal fr cs w fr1 cs1 w1
 |more {fr cs w fr1 cs1 w1 fr2 cs2 w2} (t:Nat->Question->Nat) (es:Array Event): ¬Goal fr cs w->stepG Q true (lg fr cs) {w with tape:=t}=.go (lg fr1 cs1) w1 es->Below Q Goal fr1 cs1 w1 fr2 cs2 w2->Below Q Goal fr cs w fr2 cs2 w2
def Comes(P:Program)(G:Array Func)(L:au)(T:aO)(D:List Frame)(X:Frame->List Frame->World->Prop)(gs:Array Goroutine)(v:World)(sl:Option (Nat×Nat))(t:Trace)(τ:ah):Prop:=
 ∃(N:Nat) (gs':Array Goroutine) (v':World) (sl':Option (Nat×Nat)) (t':Trace) (q':Nat->Nat) (τ':ah) (fr':Frame) (cs':List Frame) (w':World) (Sh':Nat->Prop),
  runNT P N (crowd gs v sl) t=(.next (crowd gs' v' sl'),t')/\gD P G L T Sh' D τ' fr' cs' w' gs' v' t' q'/\X fr' cs' w'/\ja τ τ' v v'
def sG(P:Program)(G:Array Func)(L:au)(T:aO)(D:List Frame)(Goal:Frame->List Frame->World->Prop):Prop:=
 ∀(fr:Frame) (cs:List Frame) (w:World),fr.fn=T.bj->Safe (gp P G) Goal fr cs w->∀(gs:Array Goroutine) (v:World) (sl:Option (Nat×Nat)) (t:Trace) (q:Nat->Nat) (τ:ah) (Sh:Nat->Prop),
  gD P G L T Sh D τ fr cs w gs v t q->Comes P G L T D (Below (gp P G) Goal fr cs w) gs v sl t τ
theorem Comes.trans{Y:Frame->List Frame->World->Prop}{sl:Option (Nat×Nat)}{t:Trace}(h:Comes P G L T D X gs v sl t τ)(k:∀gs' v' sl' t' q' τ' fr' cs' w' Sh',gD P G L T Sh' D τ' fr' cs' w' gs' v' t' q'->X fr' cs' w'->Comes P G L T D Y gs' v' sl' t' τ'):Comes P G L T D Y gs v sl t τ:=by
 obtain⟨N,gs',v',sl',t',q',τ',fr',cs',w',Sh',r1,r2,r3,r4⟩:=h;obtain⟨N2,gs2,v2,sl2,t2,q2,τ2,fr2,cs2,w2,Sh2,s1,s2,s3,s4⟩:=k gs' v' sl' t' q' τ' fr' cs' w' Sh' r2 r3;refine⟨N+N2,gs2,v2,sl2,t2,q2,τ2,fr2,cs2,w2,Sh2,?_,s2,s3,r4.trans s4⟩;rw[runNT_add,r1];exact s1
theorem Bu(S:Stat P G L T){fr:Frame}{cs:List Frame}(hn:fr.fn≠T.bj)(hnl: ¬(fr.mode=.returning/\fr.defers= []/\cs= [])){ff:(Nat->Question->Nat)->Frame}{cc:(Nat->Question->Nat)->List Frame}{uu:(Nat->Question->Nat)->World}{ee:(Nat->Question->Nat)->Array Event}(hst:∀t,stepG (gp P G) true (lg fr cs) {w with tape:=t}=.go (lg (ff t) (cc t)) (uu t) (ee t))(hfi:∀t,fF (lg (ff t) (cc t)))(ih:∀tt (gs:Array Goroutine) (v:World) (sl:Option (Nat×Nat)) (t:Trace) (q:Nat->Nat) (τ:ah) (Sh:Nat->Prop),gD P G L T Sh D τ (ff tt) (cc tt) (uu tt) gs v t q->Comes P G L T D X gs v sl t τ)(gs:Array Goroutine)(v:World)(sl:Option (Nat×Nat))(t:Trace)(q:Nat->Nat)(hb:gD P G L T Sh D τ fr cs w gs v t q)(slip:0<sumTo gs.size q->∀(gs':Array Goroutine) (v':World) (sl':Option (Nat×Nat)) (t':Trace) (q':Nat->Nat),sumTo gs'.size q'<sumTo gs.size q->gD P G L T Sh D τ fr cs w gs' v' t' q'->Comes P G L T D X gs' v' sl' t' τ):
  Comes P G L T D X gs v sl t τ:=by
 obtain⟨h,h0,hS⟩:=hb.main;have hrun:h.status=.running:=hS.g.status.2;have hsz:0<gs.size:=(Array.getElem?_eq_some_iff.1 h0).1;obtain⟨i,g,d,sl',hi,hg,hpick⟩:=crowd_pick (P:=P) (w:=v) (sl:=sl) (ti hb.fq h0 hrun) ⟨0,h,h0,hrun⟩;rcases RI i with rfl|hpos
 ·
  obtain rfl:g=h:=by rw[h0]at hi;exact (Q0 hi).symm
  obtain⟨h1,v1,fs,π1,e,hS1,hD,hgr⟩:=(hS.at d).step S true hn (λx=>hnl ⟨x.1,x.2.1,by simpa using x.2.2⟩) (hst (kv w (v.at d))) (hfi _);have hrunT:=runT_crowd_go (P:=P) (sl:=sl') (i:=0) hi (show stepG P (0==0) g (v.at d)=_ from e);have hgrow:v.heap.size<=v1.heap.size:=hD.grow;have hb1:gD P G L T Sh D π1 (ff (kv w (v.at d))) (cc (kv w (v.at d))) (uu (kv w (v.at d))) ((gs.map (woken P g h1 v1)).setIfInBounds 0 h1) v1 (t++MemOp.ofEvents 0 g.frame.fn g.frame.place fs) q:=by
   refine⟨⟨h1,by simp[hsz],hS1⟩,yw hb.fq hsz,?_,λr s hx=>?_,λs hs=>QL (hb.old s hs) hgrow⟩
   ·refine (hb.jQ.mono hgrow).own λev hev=>zx (hD.lu ev hev) ?_ ?_
    ·rintro s (⟨r,hx⟩|⟨hx,_⟩) hsh
     ·exact hb.apart r s hx hsh
     ·have:=hb.old s hsh;simp only[World.at]at hx;omega
    ·rintro s (⟨r,hx⟩|⟨_,hx⟩)
     ·exact QL ((hS.bC r s hx).2) hgrow
     ·exact hx
   ·rcases hgr.un r s hx with hy|⟨_,_,hy,_⟩
    ·exact hb.apart r s hy
    ·intro hsh
     have:=hb.old s hsh;simp only[World.at]at hy;omega
  obtain⟨N,gs',v',sl'',t',q',τ',fr',cs',w',Sh',r1,r3,r4,r5⟩:=ih _ _ v1 sl' _ q π1 Sh hb1;refine⟨N+1,gs',v',sl'',t',q',τ',fr',cs',w',Sh',?_,r3,r4,?_⟩
  ·simp only[runNT,hpick,hrunT];exact r1
  ·refine ja.trans ⟨hgrow,hD.tape,hD.os,hD.output,λs hs ha=>hD.eX s hs λr hx=>ha r (hS.bi.mine hx),hgr.le,λr s hx=>?_⟩ r5;rcases hgr.un r s hx with hy|⟨_,_,hy,hz⟩
   ·exact .inl hy
   ·exact .inr ⟨hy,hz⟩
 ·
  obtain⟨gs',k,es,hr,hs',h0',hL',hmute,hsum⟩:=uP hb.fq h0 hrun hi hpos hg (v.at d) sl';have hb1:gD P G L T Sh D τ fr cs w gs' (v.at d) (t++MemOp.ofEvents i g.frame.fn g.frame.place es) (upd q i k):=
   ⟨⟨h,h0',hS.at d⟩,hL',hb.jQ.mute (by omega) hmute,hb.apart,hb.old⟩
  obtain⟨N,gs2,v2,sl2,t2,q2,τ2,fr2,cs2,w2,Sh2,r1,r3,r4,r5⟩:=slip (by omega) gs' (v.at d) sl' _ (upd q i k) (by rw[hs'];omega) hb1;refine⟨N+1,gs2,v2,sl2,t2,q2,τ2,fr2,cs2,w2,Sh2,?_,r3,r4,?_⟩
  ·simp only[runNT,hpick,hr];exact r1
  ·exact⟨r5.grow,r5.tape,r5.os,r5.output,r5.eX,r5.more,r5.new⟩
theorem Kx(S:Stat P G L T){Goal:Frame->List Frame->World->Prop}(hpool:sG P G L T D Goal){fr:Frame}{cs:List Frame}(hsafe:Safe (gp P G) Goal fr cs w):
  (∀(gs:Array Goroutine) (v:World) (sl:Option (Nat×Nat)) (t:Trace) (q:Nat->Nat) (τ:ah) (Sh:Nat->Prop),gD P G L T Sh D τ fr cs w gs v t q->Comes P G L T D Goal gs v sl t τ)/\
  ∀fr2 cs2 w2,Below (gp P G) Goal fr cs w fr2 cs2 w2->∀(gs:Array Goroutine) (v:World) (sl:Option (Nat×Nat)) (t:Trace) (q:Nat->Nat) (τ:ah) (Sh:Nat->Prop),gD P G L T Sh D τ fr2 cs2 w2 gs v t q->Comes P G L T D Goal gs v sl t τ:=by
 induction hsafe with
 |goal hg=>
  refine⟨λgs v sl t q τ Sh hb=>⟨0,gs,v,sl,t,q,τ,_,_,_,Sh,rfl,hb,hg,.refl _ _⟩,λfr2 cs2 w2 hb=>?_⟩;cases hb with
  |one t es hn _=>exact absurd hg hn
  |more t es hn _ _=>exact absurd hg hn
 |@step fr cs w ff cc uu ee hng hnl hst hfi hsub ih=>
  have below:∀fr2 cs2 w2,Below (gp P G) Goal fr cs w fr2 cs2 w2->∀(gs:Array Goroutine) (v:World) (sl:Option (Nat×Nat)) (t:Trace) (q:Nat->Nat) (τ:ah) (Sh:Nat->Prop),gD P G L T Sh D τ fr2 cs2 w2 gs v t q->Comes P G L T D Goal gs v sl t τ:=by
   intro fr2 cs2 w2 hb;cases hb with
   |one t es _ e=>
    rw[hst t]at e;simp only[lg,GStep.go.injEq,Goroutine.mk.injEq,Ri,List.append_cancel_right_eq]at e;obtain⟨⟨rfl,rfl⟩,rfl,_⟩:=e;exact (ih t).1
   |more t es _ e hb=>
    rw[hst t]at e;simp only[lg,GStep.go.injEq,Goroutine.mk.injEq,Ri,List.append_cancel_right_eq]at e;obtain⟨⟨rfl,rfl⟩,rfl,_⟩:=e;exact (ih t).2 _ _ _ hb
  refine⟨?_,below⟩;by_cases hp:fr.fn=T.bj
  ·intro gs v sl t q τ Sh hb;exact (hpool fr cs w hp (.step ff cc uu ee hng hnl hst hfi hsub) gs v sl t q τ Sh hb).trans λgs' v' sl' t' q' τ' fr' cs' w' Sh' hb' hx=>below fr' cs' w' hx gs' v' sl' t' q' τ' Sh' hb'
  ·have key:∀(M:Nat) (gs:Array Goroutine) (v:World) (sl:Option (Nat×Nat)) (t:Trace) (q:Nat->Nat) (τ:ah) (Sh:Nat->Prop),sumTo gs.size q<=M->gD P G L T Sh D τ fr cs w gs v t q->Comes P G L T D Goal gs v sl t τ:=by
    have hfi':∀t,fF (lg (ff t) (cc t)):=λt=>⟨(hfi t).status,(hfi t).dying,(hfi t).mode,(hfi t).kind⟩
    intro M;induction M with
    |zero=>
     intro gs v sl t q τ Sh hM hb;exact Bu S hp hnl hst hfi' (λtt=>(ih tt).1) gs v sl t q hb (λhx=>absurd hx (by omega))
    |succ M ihM=>
     intro gs v sl t q τ Sh hM hb;exact Bu S hp hnl hst hfi' (λtt=>(ih tt).1) gs v sl t q hb (λ_ gs' v' sl' t' q' hsum hb'=>ihM gs' v' sl' t' q' τ Sh (by omega) hb')
   exact λgs v sl t q τ Sh hb=>key _ gs v sl t q τ Sh (AI _) hb
end
end
section
open Go.Conc
open Go.ConcN (RelBy fork_knows)
def blk:Loc->Option Nat
 |.cell a=>some a.block
 |.obj r=>some r
 |_=>none
structure lX where
 ro:Nat->Prop
 ow:Nat->Nat->Prop
 qu:Nat->Prop
structure td(Λ:lX):Prop where
 own:∀k k' b,Λ.ow k b->Λ.ow k' b->k=k'
 ro:∀k b,Λ.ow k b->¬Λ.ro b
 qu:∀k b,Λ.ow k b->¬Λ.qu b
 Ag:∀b,Λ.ro b->¬Λ.qu b
def kC(Λ:lX)(k:Nat)(a:Touch):Prop:=∀b,blk a.loc=some b->
 (Λ.ow k b/\a.kind=.plain)\/(Λ.ro b/\a.write=false/\a.kind=.plain)\/(Λ.qu b/\a.kind≠.plain/\(a.kind=.said->k=0))
structure TP(Λ:lX)(Sh live Wk:Nat->Prop)(B:Nat)(t:Trace):Prop where
 clean:∀said,¬Race said t
 iU:∀k,live k->∀i a,touchAt t i=some a->∀b,blk a.loc=some b->(Λ.ow k b\/(Λ.ro b/\a.write=true))->Knows t k i
 quiet:∀(i:Nat) (op:MemOp),t[i]?=some op->∀a,op.act.touch?=some a->∀b,blk a.loc=some b->Λ.qu b->a.kind≠.plain/\(a.kind=.said->op.g=0)
 low:∀op∈t,op.act.low B
 over:∀i g,t.g? i=some g->g≠0->¬Wk g->t.counts i->∃j,t.g? j=some 0/\HappensBefore t i j
 known:∀i a,touchAt t i=some a->a.loc.isMemory=true->Knows t 0 i\/(gU Sh a.loc/\a.kind=.atomic)\/∃k,Wk k/\t.g? i=some k
 atom:∀i k a,Wk k->t.g? i=some k->touchAt t i=some a->a.loc.isMemory=true->a.kind≠.plain->Knows t 0 i\/∃b,blk a.loc=some b/\(Λ.qu b\/Sh b)
section
variable {Λ Λ':lX}{Sh live Wk:Nat->Prop}{B:Nat}{t u:Trace}
theorem zg{l:Loc}(h:l.isMemory=true): ∃b,blk l=some b:=by
 cases l<;>first|exact⟨_,rfl⟩|cases h
theorem TP.app(hΛ:td Λ)(h:TP Λ Sh live Wk B t)(hk:live k)(hw:k=0\/Wk k)(hu:∀op∈u,op.g=k)(hok:∀op∈u,∀a,op.act.touch?=some a->a.loc.isMemory=true/\kC Λ k a)(hl:∀op∈u,op.act.low B):TP Λ Sh live Wk B (t++u):=by
 refine⟨λsaid=>noRace_append (h.clean said) hu λi a ha op hop b hb hc=>?_,λk' hk' i a ha b hb hxx=>?_,λi op hi a ha b hb hq=>?_,seen_app h.low hl,λi g hg h0 hn hc=>?_,λi a ha hm=>?_,λi k' a hk' hg ha hmm hkd=>?_⟩
 ·
  obtain⟨hmem,hT⟩:=hok op hop b hb;obtain⟨bb,hbb⟩:=zg hmem;have hab:blk a.loc=some bb:=by rw[hc.1];exact hbb
  rcases hT bb hbb with⟨ho,_⟩|⟨hr,hwf,_⟩|⟨hq,hpl,hsd⟩
  ·exact h.iU k hk i a ha bb hab (.inl ho)
  ·exact h.iU k hk i a ha bb hab (.inr ⟨hr,(hc.2.2.1.resolve_right (by simp[hwf]))⟩)
  ·obtain⟨x,hx,hxa⟩:=touch_of ha;obtain⟨q1,q2⟩:=h.quiet i x hx a hxa bb hab hq;rcases hc.2.2.2 with y|y|⟨_,y,z⟩
   ·exact absurd y q1
   ·exact absurd y hpl
   ·have:=knows_own hx;rw[q2 y]at this;rw[hsd z];exact this
 ·obtain⟨x,hx,hxa⟩:=touch_of ha;rcases getElem?_append_cases hx with⟨_,hx'⟩|⟨_,hxu⟩
  ·exact (h.iU k' hk' i a (by rw[touchAt_of hx'];exact hxa) b hb hxx).app u
  ·obtain⟨_,hT⟩:=hok x hxu a hxa;have hkk:k=k':=by
    rcases hT b hb with⟨ho,_⟩|⟨hr,hwf,_⟩|⟨hq,_⟩<;>rcases hxx with hxx|⟨hxx,hw'⟩
    ·exact hΛ.own _ _ _ ho hxx
    ·exact absurd hxx (hΛ.ro _ _ ho)
    ·exact absurd hr (hΛ.ro _ _ hxx)
    ·rw[hwf]at hw';cases hw'
    ·exact absurd hq (hΛ.qu _ _ hxx)
    ·exact absurd hq (hΛ.Ag _ hxx)
   have:=knows_own hx;rw[hu x hxu,hkk]at this;exact this
 ·rcases getElem?_append_cases hi with⟨_,hi'⟩|⟨_,hiu⟩
  ·exact h.quiet i op hi' a ha b hb hq
  ·obtain⟨_,hT⟩:=hok op hiu a ha;rcases hT b hb with⟨ho,_⟩|⟨hr,_⟩|⟨_,h1,h2⟩
   ·exact absurd hq (hΛ.qu _ _ ho)
   ·exact absurd hq (hΛ.Ag _ hr)
   ·exact⟨h1,λe=>(hu op hiu).trans (h2 e)⟩
 ·obtain⟨x,hx,hm⟩:=hc;obtain⟨op,hop,hox⟩:=touch_of hx;rcases getElem?_append_cases hop with⟨hi,hop'⟩|⟨_,hopu⟩
  ·obtain⟨j,hj,hb⟩:=h.over i g (by rw[<-g?_old (u:=u) hi];exact hg) h0 hn ((counts_old hi).1 ⟨x,hx,hm⟩);have hjl:j<t.size:=by
    unfold Trace.g? at hj;obtain⟨z,hz,_⟩:=Rp.1 hj;exact lt_size_of_getElem? hz
   exact⟨j,by rw[g?_old hjl];exact hj,hb_app u hb⟩
  ·have:g=k:=by
    have e:(t++u).g? i=some op.g:=by simp[Trace.g?,hop]
    rw[hg]at e;rw[Q0 e,hu op hopu]
   subst this;rcases hw with hw|hw
   ·exact absurd hw h0
   ·exact absurd hw hn
 ·obtain⟨x,hx,hxa⟩:=touch_of ha;rcases getElem?_append_cases hx with⟨hi,hx'⟩|⟨_,hxu⟩
  ·refine (h.known i a (by rw[touchAt_of hx'];exact hxa) hm).imp (·.app u) (Or.imp id λ⟨k',h1,h2⟩=>⟨k',h1,by rw[g?_old hi];exact h2⟩)
  ·rcases hw with rfl|hw
   ·have:=knows_own hx;rw[hu x hxu]at this;exact .inl this
   ·exact .inr (.inr ⟨k,hw,by simp[Trace.g?,hx,hu x hxu]⟩)
 ·obtain⟨x,hx,hxa⟩:=touch_of ha;rcases getElem?_append_cases hx with⟨hi,hx'⟩|⟨_,hxu⟩
  ·exact (h.atom i k' a hk' (by rw[<-g?_old (u:=u) hi];exact hg) (by rw[touchAt_of hx'];exact hxa) hmm hkd).imp (·.app u) id
  ·obtain⟨hmem,hT⟩:=hok x hxu a hxa;obtain⟨b,hb⟩:=zg hmem;rcases hT b hb with⟨_,e⟩|⟨_,_,e⟩|⟨hq,_⟩
   ·exact absurd e hkd
   ·exact absurd e hkd
   ·exact .inr ⟨b,hb,.inl hq⟩
theorem TP.mute(h:TP Λ Sh live Wk B t)(hu:∀op∈u,op.g=k)(hn:∀op∈u,op.act.touch?=none)(hl:∀op∈u,op.act.low B):TP Λ Sh live Wk B (t++u):=by
 have old:∀{i:Nat} {a:Touch},touchAt (t++u) i=some a->i<t.size/\touchAt t i=some a:=by
  intro i a ha;obtain⟨z,hz,hza⟩:=touch_of ha;rcases getElem?_append_cases hz with⟨hi,hz'⟩|⟨_,hzu⟩
  ·exact⟨hi,by rw[touchAt_of hz'];exact hza⟩
  ·rw[hn z hzu]at hza;cases hza
 refine⟨λsaid=>noRace_append (h.clean said) hu λi a ha op hop b hb hc=>(by rw[hn op hop]at hb;cases hb),λk' hk' i a ha b hb hx=>(h.iU k' hk' i a (old ha).2 b hb hx).app u,λi op hi a ha b hb hq=>?_,seen_app h.low hl,λi g hg h0 hnw hc=>?_,λi a ha hm=>?_,λi k' a hk' hg ha hmm hkd=>?_⟩
 ·rcases getElem?_append_cases hi with⟨_,hi'⟩|⟨_,hiu⟩
  ·exact h.quiet i op hi' a ha b hb hq
  ·rw[hn op hiu]at ha;cases ha
 ·obtain⟨x,hx,hm⟩:=hc;obtain⟨hi,hx'⟩:=old hx;obtain⟨j,hj,hb⟩:=h.over i g (by rw[<-g?_old (u:=u) hi];exact hg) h0 hnw ((counts_old hi).1 ⟨x,hx,hm⟩);have hjl:j<t.size:=by
   unfold Trace.g? at hj;obtain⟨z,hz,_⟩:=Rp.1 hj;exact lt_size_of_getElem? hz
  exact⟨j,by rw[g?_old hjl];exact hj,hb_app u hb⟩
 ·obtain⟨hi,ha'⟩:=old ha;exact (h.known i a ha' hm).imp (·.app u) (Or.imp id λ⟨k',h1,h2⟩=>⟨k',h1,by rw[g?_old hi];exact h2⟩)
 ·obtain⟨hi,ha'⟩:=old ha;exact (h.atom i k' a hk' (by rw[<-g?_old (u:=u) hi];exact hg) ha' hmm hkd).imp (·.app u) id
theorem pJ{t:Trace}{B:Nat}(h:∀op∈t,op.act.low B){a:Touch}(ha:touchAt t i=some a)(hb:blk a.loc=some b):b<B:=by
 obtain⟨op,hop,hoa⟩:=touch_of ha;have hl:=h op (Array.mem_of_getElem? hop);cases hx:op.act with
 |access e=>
  rw[hx]at hoa hl;simp only[MemAct.touch?,QA]at hoa;subst hoa;simp only[MemAct.low]at hl;simp only at hb;cases hloc:e.loc<;>rw[hloc]at hb hl<;>simp only[blk,QA,reduceCtorEq]at hb
  ·subst hb;exact hl
  ·subst hb;exact hl
 |mark m=>
  rw[hx]at hoa hl;cases m<;>simp only[MemAct.touch?,QA,reduceCtorEq]at hoa
  all_goals
   subst hoa;simp only[blk,QA]at hb;subst hb;exact hl
 |_=>rw[hx]at hoa;cases hoa
theorem TP.grow(h:TP Λ Sh live Wk B t){B':Nat}(hB:B<=B')(ho:∀k b,Λ'.ow k b->Λ.ow k b\/B<=b)(hr:∀b,Λ'.ro b->Λ.ro b\/B<=b)(hq:∀b,Λ'.qu b->Λ.qu b\/B<=b)(hq':∀b,Λ.qu b->Λ'.qu b):TP Λ' Sh live Wk B' t:=by
 refine⟨h.clean,λk hk i a ha b hb hx=>?_,λi op hi a ha b hb hx=>?_,λop hop=>MemAct.low_mono hB (h.low op hop),h.over,h.known,λi k a hk hg ha hmm hkd=>(h.atom i k a hk hg ha hmm hkd).imp id λ⟨b,h1,h2⟩=>⟨b,h1,h2.imp (hq' b) id⟩⟩
 ·have hlow:=pJ h.low ha hb;refine h.iU k hk i a ha b hb (hx.imp (λx=>(ho k b x).resolve_right (by omega)) λx=>⟨(hr b x.1).resolve_right (by omega),x.2⟩)
 ·have hlow:=pJ h.low (by rw[touchAt_of hi];exact ha) hb;exact h.quiet i op hi a ha b hb ((hq b hx).resolve_right (by omega))
theorem TP.share(h:TP Λ Sh live Wk B t)(hlive:∀k,live k->k=0)(ho:∀k b,Λ'.ow k b->Λ.ow k b)(hr:∀b,Λ'.ro b->Λ.ro b\/Λ.ow 0 b)(hq:∀b,Λ'.qu b↔Λ.qu b):TP Λ' Sh live Wk B t:=by
 refine⟨h.clean,λk hk i a ha b hb hx=>?_,λi op hi a ha b hb hx=>h.quiet i op hi a ha b hb ((hq b).1 hx),h.low,h.over,h.known,λi k a hk hg ha hmm hkd=>(h.atom i k a hk hg ha hmm hkd).imp id λ⟨b,h1,h2⟩=>⟨b,h1,h2.imp (hq b).2 id⟩⟩;obtain rfl:=hlive k hk;rcases hx with hx|⟨hx,hw⟩
 ·exact h.iU 0 hk i a ha b hb (.inl (ho 0 b hx))
 ·rcases hr b hx with hx|hx
  ·exact h.iU 0 hk i a ha b hb (.inr ⟨hx,hw⟩)
  ·exact h.iU 0 hk i a ha b hb (.inl hx)
theorem TP.fork(h:TP Λ Sh live Wk B t)(hl0:live 0)(hk0:k≠0)(hnk: ¬Wk k)(hno:∀b,¬Λ.ow k b){x y:MemOp}(hx:x.g=0/\x.act=.go k)(hy:y.g=k/\y.act=.start)(h0:Deaf t 0=0)(hk:Deaf t k=0):
  TP Λ Sh (λj=>live j\/j=k) (λj=>Wk j\/j=k) B (t++#[x,y]):=by
 have hnt:∀op∈#[x,y],op.act.touch?=none:=by
  intro op hop;simp only[RA,RP,List.not_mem_nil,or_false]at hop;rcases hop with rfl|rfl
  ·rw[hx.2];rfl
  ·rw[hy.2];rfl
 have hlow:∀op∈#[x,y],op.act.low B:=by
  intro op hop;simp only[RA,RP,List.not_mem_nil,or_false]at hop;rcases hop with rfl|rfl
  ·rw[hx.2];trivial
  ·rw[hy.2];trivial
 have old:∀{i:Nat} {a:Touch},touchAt (t++#[x,y]) i=some a->i<t.size/\touchAt t i=some a:=by
  intro i a ha;obtain⟨z,hz,hza⟩:=touch_of ha;rcases getElem?_append_cases hz with⟨hi,hz'⟩|⟨_,hzu⟩
  ·exact⟨hi,by rw[touchAt_of hz'];exact hza⟩
  ·rw[hnt z hzu]at hza;cases hza
 refine⟨λsaid=>?_,λk' hk' i a ha b hb hxx=>?_,λi op hi a ha b hb hq=>?_,seen_app h.low hlow,λi g hg hg0 hn hc=>?_,λi a ha hm=>?_,λi k' a hk' hg ha hmm hkd=>?_⟩
 ·have e:t++#[x,y]=(t++#[x])++#[y]:=by apply Array.ext';simp
  rw[e];refine noRace_append (g:=k) (noRace_append (g:=0) (h.clean said) (λop hop=>by simp at hop;rw[hop];exact hx.1) (λi a _ op hop b hb _=>?_)) (λop hop=>by simp at hop;rw[hop];exact hy.1) (λi a _ op hop b hb _=>?_)
  ·rw[hnt op (by simp at hop ⊢;exact .inl hop)]at hb;cases hb
  ·rw[hnt op (by simp at hop ⊢;exact .inr hop)]at hb;cases hb
 ·obtain⟨hi,ha'⟩:=old ha;by_cases hkk:k'=k
  ·subst hkk;rcases hxx with hxx|hxx
   ·exact absurd hxx (hno b)
   ·exact fork_knows hx hy h0 hk (h.iU 0 hl0 i a ha' b hb (.inr hxx))
  ·exact (h.iU k' (hk'.resolve_right hkk) i a ha' b hb hxx).app _
 ·rcases getElem?_append_cases hi with⟨_,hi'⟩|⟨_,hiu⟩
  ·exact h.quiet i op hi' a ha b hb hq
  ·rw[hnt op hiu]at ha;cases ha
 ·obtain⟨z,hz,hm⟩:=hc;obtain⟨hi,hz'⟩:=old hz;obtain⟨j,hj,hb⟩:=h.over i g (by rw[<-g?_old (u:=#[x,y]) hi];exact hg) hg0 (λhw=>hn (.inl hw)) ((counts_old hi).1 ⟨z,hz,hm⟩);have hjl:j<t.size:=by
   unfold Trace.g? at hj;obtain⟨z,hz,_⟩:=Rp.1 hj;exact lt_size_of_getElem? hz
  exact⟨j,by rw[g?_old hjl];exact hj,hb_app _ hb⟩
 ·obtain⟨hi,ha'⟩:=old ha;exact (h.known i a ha' hm).imp (·.app _) (Or.imp id λ⟨k',h1,h2⟩=>⟨k',.inl h1,by rw[g?_old hi];exact h2⟩)
 ·obtain⟨hi,ha'⟩:=old ha;have hg':t.g? i=some k':=by rw[<-g?_old (u:=#[x,y]) hi];exact hg
  rcases hk' with hk'|rfl
  ·exact (h.atom i k' a hk' hg' ha' hmm hkd).imp (·.app _) id
  ·rcases h.known i a ha' hmm with hx|⟨hs,_⟩|⟨k'',h1,h2⟩
   ·exact .inl (hx.app _)
   ·refine .inr ?_;cases hl:a.loc with
    |cell c=>rw[hl]at hs;exact⟨_,rfl,.inr hs⟩
    |obj c=>rw[hl]at hs;exact⟨_,rfl,.inr hs⟩
    |_=>rw[hl]at hmm;cases hmm
   ·rw[hg']at h2;cases h2;exact absurd h1 hnk
theorem TP.begin{Sh:Nat->Prop}{B:Nat}{t:Trace}(h:Past (gU Sh) B t)(hro:∀b,Λ.ro b->¬Sh b)(ho:∀k b,Λ.ow k b->B<=b)(hq:∀b,Λ.qu b->B<=b):TP Λ Sh (λk=>k=0) (λ_=>False) B t:=by
 refine⟨h.clean,λk hk i a ha b hb hx=>?_,λi op hi a ha b hb hx=>?_,h.seen,λi g hg h0 _ hc=>h.over i g hg h0 hc,λi a ha hm=>(h.known i a ha hm).imp id .inl,λi k a hk=>hk.elim⟩
 ·subst hk;have hlow:=pJ h.seen ha hb;rcases hx with hx|⟨hx,_⟩
  ·exact absurd (ho 0 b hx) (by omega)
  ·have hm:a.loc.isMemory=true:=by cases hl:a.loc<;>rw[hl]at hb<;>first|rfl|cases hb
   rcases h.known i a ha hm with hk|⟨hs,_⟩
   ·exact hk
   ·exfalso;refine hro b hx ?_;cases hl:a.loc<;>rw[hl]at hb hs<;>simp only[blk,QA,reduceCtorEq]at hb
    ·subst hb;exact hs
    ·subst hb;exact hs
 ·have hlow:=pJ h.seen (by rw[touchAt_of hi];exact ha) hb;exact absurd (hq b hx) (by omega)
theorem TP.jQ(h:TP Λ Sh live Wk B t){ad:Addr}{q:Nat}(all:∀k,Wk k->∃r,RelBy ad t k r/\r<q)(hn:NoRelease ad t)(hq:t.act? q=some (.mark (.acquire ad)))(hg:t.g? q=some 0)(hh:t.heard q)(hd:Deaf t 0=0):
  Past (gU λb=>Sh b\/Λ.qu b) B t:=by
 have hand:∀i k,Wk k->t.g? i=some k->t.counts i->HappensBefore t i q:=by
  intro i k hk hgi hc;obtain⟨r,hr,hrq⟩:=all k hk;have edge:HappensBefore t r q:=.single (.inr ⟨.marked hrq (.inr hr.act) hq (λk _ _=>hn k),hr.heard,hh⟩);have hle:i<=r:=Nat.le_of_not_lt λhlt=>hr.after i hlt hgi hc;rcases QO i r with hlt|hge
  ·exact .trans (.single (.inl ⟨hlt,k,hgi,hr.g⟩)) edge
  ·obtain rfl:i=r:=by omega
   exact edge
 refine⟨h.clean,λi a ha hm=>?_,λi g hgi hne hc=>?_,hd,h.low⟩
 ·have shun:∀{l:Loc},gU Sh l->gU (λb=>Sh b\/Λ.qu b) l:=λ{l} hl=>by cases l<;>first|exact .inl hl|exact hl
  rcases h.known i a ha hm with hk|⟨hs,hk⟩|⟨k,hk,hgi⟩
  ·exact .inl hk
  ·exact .inr ⟨shun hs,hk⟩
  ·by_cases hc:t.counts i
   ·have:=hand i k hk hgi hc;refine .inl ?_;unfold Trace.g? at hg;obtain⟨z,hz,hzg⟩:=Rp.1 hg;exact⟨q,z,hz,hzg,.inr this⟩
   ·have hkd:a.kind=.atomic:=by
     refine Rm λhx=>hc ⟨a,ha,hm,.inl hx⟩
    rcases h.atom i k a hk hgi ha hm (by rw[hkd];simp) with hx|⟨b,hb,hqu⟩
    ·exact .inl hx
    refine .inr ⟨?_,hkd⟩;cases hl:a.loc<;>rw[hl]at hb<;>simp only[blk,QA,reduceCtorEq]at hb
    ·subst hb;exact hqu.symm
    ·subst hb;exact hqu.symm
 ·by_cases hk:Wk g
  ·exact⟨q,hg,hand i g hk hgi hc⟩
  ·exact h.over i g hgi hne hk hc
end
end
section
open Go.Conc
def nx(P:Program)(m:Bool)(g:Goroutine):Goroutine:=match stepG P m g default with|.go g' _ _=>g'|_=>g
def az(P:Program)(m:Bool):Nat->Goroutine->Goroutine
 |0,g=>g
 |n+1,g=>az P m n (nx P m g)
def pr(P:Program)(m:Bool)(g:Goroutine):Array Event:=match stepG P m g default with|.go _ _ es=>es|_=>#[]
def jn(P:Program)(m:Bool)(w:World):Nat->Goroutine->List (GoStatus×GStep)
 |0,_=>[]
 |n+1,g=>(g.status,stepG P m g w)::jn P m w n (nx P m g)
def oX(P:Program)(m:Bool)(w:World):Nat->Goroutine->List (GoStatus×GStep)
 |0,_=>[]
 |n+1,g=>(.running,.go (nx P m g) w #[])::oX P m w n (nx P m g)
def aT(P:Program)(m:Bool)(n:Nat)(g:Goroutine):Prop:=∀w,jn P m w n g=oX P m w n g
section
variable {P:Program}{m:Bool}
theorem aT.step{n:Nat}{g:Goroutine}(h:aT P m (n+1) g):g.status=.running/\(∀w,stepG P m g w=.go (nx P m g) w #[])/\aT P m n (nx P m g):=by
 refine⟨?_,λw=>?_,λw=>?_⟩
 ·have:=h default;simp only[jn,oX,Rq,QM]at this;exact this.1.1
 ·have:=h w;simp only[jn,oX,Rq,QM]at this;exact this.1.2
 ·have:=h w;simp only[jn,oX,Rq,QM]at this;exact this.2
end
inductive aA (P:Program) (m:Bool):Nat->Goroutine->Goroutine->Prop
 |refl (g:Goroutine):aA P m 0 g g
 |step {n:Nat} {g g1 g2:Goroutine}:g.status=.running->(∀w,stepG P m g w=.go g1 w #[])->aA P m n g1 g2->aA P m (n+1) g g2
theorem aT.aN{P:Program}{m:Bool}:∀{n:Nat} {g:Goroutine},aT P m n g->aA P m n g (az P m n g)
 |0,g,_=>.refl g
 |_+1,_,h=>.step h.step.1 h.step.2.1 h.step.2.2.aN
theorem aA.trans{P:Program}{m:Bool}{a:Nat}{g g2:Goroutine}(h:aA P m a g g1)(k:aA P m b g1 g2):aA P m (a+b) g g2:=by
 induction h with
 |refl g=>simpa using k
 |@step n g g1 g2 h1 h2 _ ih=>rw[show n+1+b=(n+b)+1 by omega];exact .step h1 h2 (ih k)
theorem aA.one{P:Program}{m:Bool}{g:Goroutine}(h:g.status=.running)(hs:∀w,stepG P m g w=.go g1 w #[]):aA P m 1 g g1:=.step h hs (.refl _)
def kW(id:Nat):Code->List Item->Option (List Item)
 |.seq a b,k=>(kW id a (.code b::k)).or (kW id b k)
 |.cond _ a b,k=>(kW id a k).or (kW id b k)
 |.block i c,k=>kW id c (.inBlock i::k)
 |.loop c,k=>kW id c (.inLoop c::k)
 |.region j ops _,k=>if j=id then some (.inRegion ops (List.range ops.size)::k) else none
 |_,_=>none
def Ey(n:Nat):List Item->List Item
 |.inRegion ops l::k=>.inRegion ops (l.drop n)::k
 |k=>k
def AS(P:Program)(f:FuncId)(id n:Nat):List Item:=Ey n ((((P.funcs[f]?).bind (·.body)).bind λc=>kW id c []).getD [])
def we(P:Program)(f:FuncId)(id n:Nat)(ts:Array Value)(cs:List Frame):Goroutine:=
 {frame:={fn:=f,tmps:=ts,todo:=AS P f id n,defers:=[],mode:=.run,kind:=.normal},callers:=cs,status:=.running,dying:=none}
def oh(P:Program)(w:World):Nat->Goroutine->List (GoStatus×GStep)
 |0,_=>[]
 |n+1,g=>(.running,.go (nx P false g) w (pr P false g))::oh P w n (nx P false g)
def tK(P:Program):Nat->Goroutine->Bool
 |0,_=>true
 |n+1,g=>(pr P false g).all Event.mute&&tK P n (nx P false g)
def xS(P:Program):Nat->Nat->Goroutine->Nat
 |0,d,_=>d
 |n+1,d,g=>xS P n (deafBehind d (pr P false g)) (nx P false g)
theorem xd{P:Program}:∀(n d:Nat) (g:Goroutine),(∀w,jn P false w n g=oh P w n g)->tK P n g=true->xS P n d g=0->(az P false n g).status=.finished->QuitsD P n d g
 |0,d,g,_,_,hd,hf=>⟨hf,hd⟩
 |n+1,d,g,hs,hm,hd,hf=>by
  simp only[tK,No]at hm;refine .inr ⟨?_,nx P false g,pr P false g,λe he=>Array.all_eq_true'.1 hm.1 e he,λw=>?_,?_⟩
  ·have:=hs default;simp only[jn,oh,Rq,QM]at this;exact this.1.1
  ·have:=hs w;simp only[jn,oh,Rq,QM]at this;exact this.1.2
  ·refine xd n _ _ (λw=>?_) hm.2 hd hf
   have:=hs w;simp only[jn,oh,Rq,QM]at this;exact this.2
theorem QuitsD.aN{P:Program}{n q:Nat}{g:Goroutine}(h:aA P false n g g1)(k:QuitsD P q d g1):QuitsD P (n+q) d g:=by
 induction h with
 |refl g=>simpa using k
 |@step n g g1 g2 h1 h2 _ ih=>
  rw[show n+1+q=(n+q)+1 by omega];exact .inr ⟨h1,g1,#[],by simp,h2,ih k⟩
theorem QuitsD.marked{P:Program}{q:Nat}{g:Goroutine}(h:g.status=.running)(hs:∀w,stepG P false g w=.go g1 w es)(hm:∀e∈es,Event.mute e=true)(k:QuitsD P q (deafBehind d es) g1):QuitsD P (q+1) d g:=
 .inr ⟨h,g1,es,hm,hs,k⟩
inductive iM where
 |val (v:Value)|shp (x:Option (TypeId×Nat))|fz (b:Bool)|ref (r:Nat)|obj (o:Obj)
inductive jL where
 |ld (m:Mode) (a:Addr)|st (m:Mode) (a:Addr) (v:Value)|shp (r:Nat)|fz (a:Addr)|nw (o:Obj)|gt (r:Nat)|pt (r:Nat) (o:Obj)|mk (m:Mark)
def feed(P:Program):Sem α->List iM->Option (List jL×(α ⊕ Halt))
 |.pure a,[]=>some ([],.inl a)
 |.halt h,[]=>some ([],.inr h)
 |.load m a k,.val v::Qw=>(feed P (k v) Qw).map λx=>(.ld m a::x.1,x.2)
 |.store m a v k,Qw=>(feed P k Qw).map λx=>(.st m a v::x.1,x.2)
 |.new o k,.ref r::Qw=>(feed P (k r) Qw).map λx=>(.nw o::x.1,x.2)
 |.shape r k,.shp y::Qw=>(feed P (k y) Qw).map λx=>(.shp r::x.1,x.2)
 |.frozen a k,.fz b::Qw=>(feed P (k b) Qw).map λx=>(.fz a::x.1,x.2)
 |.getObj r k,.obj o::Qw=>(feed P (k o) Qw).map λx=>(.gt r::x.1,x.2)
 |.setObj r o k,Qw=>(feed P k Qw).map λx=>(.pt r o::x.1,x.2)
 |.mark m k,Qw=>(feed P k Qw).map λx=>(.mk m::x.1,x.2)
 |.program k,Qw=>feed P (k P) Qw
 |_,_=>none
def yZ:Obj->Bool
 |.cells .. =>true
 |_=>false
def eW:List jL->List iM->World->Array Event->World->Array Event->Prop
 |[],[],w,es,w',es'=>w'=w/\es'=es
 |.ld m a::ds,.val v::Qw,w,es,w',es'=>w.cell? a=some v/\eW ds Qw w (es.push ⟨.cell a,false,m==.atomic⟩) w' es'
 |.st m a v::ds,Qw,w,es,w',es'=>(∀c,v≠.agg c)/\(∀c,v≠.tuple c)/\(∃x,w.cell? a=some x)/\w.frozen? a=false/\eW ds Qw (w.setCell a v) (es.push ⟨.cell a,true,m==.atomic⟩) w' es'
 |.nw o::ds,.ref r::Qw,w,es,w',es'=>r=w.heap.size/\eW ds Qw {w with heap:=w.heap.push o} es w' es'
 |.shp r::ds,.shp x::Qw,w,es,w',es'=>w.shape? r=x/\eW ds Qw w es w' es'
 |.fz a::ds,.fz b::Qw,w,es,w',es'=>w.frozen? a=b/\eW ds Qw w es w' es'
 |.gt r::ds,.obj o::Qw,w,es,w',es'=>w.heap[r]?=some o/\yZ o=false/\eW ds Qw w (es.push ⟨.obj r,false,o.isChan⟩) w' es'
 |.pt r o::ds,Qw,w,es,w',es'=>(∃q,w.heap[r]?=some q/\yZ q=false)/\eW ds Qw {w with heap:=w.heap.setIfInBounds r o} (es.push ⟨.obj r,true,o.isChan⟩) w' es'
 |.mk m::ds,Qw,w,es,w',es'=>eW ds Qw w (es.push ⟨.mark m,false,true⟩) w' es'
 |_,_,_,_,_,_=>False
theorem qK{P:Program}:∀(p:Sem α) (Qw:List iM) (ds:List jL) (r:α ⊕ Halt) (w w':World) (es es':Array Event),feed P p Qw=some (ds,r)->eW ds Qw w es w' es'->
  p.runT P w es=((match r with|.inl a=>.ok a w'|.inr h=>.halt h w'),es'):=by
 intro p;induction p with
 |pure a=>
  intro Qw ds r w w' es es' hf hm;cases Qw with
  |nil=>simp only[feed,QA,QM]at hf;obtain⟨rfl,rfl⟩:=hf;obtain⟨rfl,rfl⟩:=hm;rfl
  |cons=>cases hf
 |halt h=>
  intro Qw ds r w w' es es' hf hm;cases Qw with
  |nil=>simp only[feed,QA,QM]at hf;obtain⟨rfl,rfl⟩:=hf;obtain⟨rfl,rfl⟩:=hm;rfl
  |cons=>cases hf
 |load m a k ih=>
  intro Qw ds r w w' es es' hf hm;match Qw,hf with
  |.val v::Qw,hf=>
   simp only[feed,Rp,QM]at hf;obtain⟨⟨d1,r1⟩,h1,rfl,rfl⟩:=hf;obtain⟨hc,hm⟩:=hm;rw[Sem.runT,hc];exact ih v _ _ _ _ _ _ _ h1 hm
 |store m a v k ih=>
  intro Qw ds r w w' es es' hf hm;simp only[feed,Rp,QM]at hf;obtain⟨⟨d1,r1⟩,h1,rfl,rfl⟩:=hf;simp only[eW]at hm;obtain⟨n1,n2,⟨x,hc⟩,hfz,hm⟩:=hm;rw[Sem.runT.eq_5 _ _ _ _ _ _ _ n1 n2,hc];simp only[hfz,QF,QC];exact ih _ _ _ _ _ _ _ h1 hm
 |new o k ih=>
  intro Qw ds r w w' es es' hf hm;match Qw,hf with
  |.ref rr::Qw,hf=>
   simp only[feed,Rp,QM]at hf;obtain⟨⟨d1,r1⟩,h1,rfl,rfl⟩:=hf;obtain⟨rfl,hm⟩:=hm;rw[Sem.runT];exact ih _ _ _ _ _ _ _ _ h1 hm
 |shape rr k ih=>
  intro Qw ds r w w' es es' hf hm;match Qw,hf with
  |.shp y::Qw,hf=>
   simp only[feed,Rp,QM]at hf;obtain⟨⟨d1,r1⟩,h1,rfl,rfl⟩:=hf;obtain⟨rfl,hm⟩:=hm;rw[Sem.runT];exact ih _ _ _ _ _ _ _ _ h1 hm
 |freeze a n k ih=>intro Qw ds r w w' es es' hf;cases hf
 |frozen a k ih=>
  intro Qw ds r w w' es es' hf hm;match Qw,hf with
  |.fz b::Qw,hf=>
   simp only[feed,Rp,QM]at hf;obtain⟨⟨d1,r1⟩,h1,rfl,rfl⟩:=hf;obtain⟨rfl,hm⟩:=hm;rw[Sem.runT];exact ih _ _ _ _ _ _ _ _ h1 hm
 |getObj rr k ih=>
  intro Qw ds r w w' es es' hf hm;match Qw,hf with
  |.obj o::Qw,hf=>
   simp only[feed,Rp,QM]at hf;obtain⟨⟨d1,r1⟩,h1,rfl,rfl⟩:=hf;obtain⟨hc,hi,hm⟩:=hm;rw[Sem.runT,hc];cases o with
   |cells=>cases hi
   |_=>exact ih _ _ _ _ _ _ _ _ h1 hm
 |setObj rr o k ih=>
  intro Qw ds r w w' es es' hf hm;simp only[feed,Rp,QM]at hf;obtain⟨⟨d1,r1⟩,h1,rfl,rfl⟩:=hf;simp only[eW]at hm;obtain⟨⟨q,hc,hi⟩,hm⟩:=hm;rw[Sem.runT,hc];cases q with
  |cells=>cases hi
  |_=>exact ih _ _ _ _ _ _ _ h1 hm
 |choose q k ih=>intro Qw ds r w w' es es' hf;cases hf
 |sys c k ih=>intro Qw ds r w w' es es' hf;cases hf
 |program k ih=>
  intro Qw ds r w w' es es' hf hm;rw[Sem.runT];exact ih P _ _ _ _ _ _ _ hf hm
 |mark m k ih=>
  intro Qw ds r w w' es es' hf hm;simp only[feed,Rp,QM]at hf;obtain⟨⟨d1,r1⟩,h1,rfl,rfl⟩:=hf;simp only[eW]at hm;rw[Sem.runT];exact ih _ _ _ _ _ _ _ h1 hm
def aQ(g:Goroutine):Sem Next:=execOp g.frame.eval ((g.frame.oper?).getD default)
def aE(P:Program)(m:Bool)(g:Goroutine):Prop:=(∀w,stepG P m g w=stepG.apply P true g.frame g.callers none (aQ g) w)/\g.status=.running/\(g.frame.kind==.early)=false
def dX(g:Goroutine)(fr:Frame):Goroutine:={frame:=fr,callers:=g.callers,status:=.running,dying:=none}
section
variable {P:Program}{m:Bool}{g:Goroutine}
theorem aE.value(h:aE P m g){rs:List iM}{ds:List jL}{v:Value}(hf:feed P (aQ g) rs=some (ds,.inl (.value v))){w w':World}{es:Array Event}(hm:eW ds rs w #[] w' es):
  stepG P m g w=.go (dX g (g.frame.finish v)) w' (seen P g.frame.fn es):=by
 have hr:=qK _ _ _ _ _ _ _ _ hf hm;rw[h.1 w];simp only[stepG.apply,hr,h.2.2,QF,QC,QD,GStep.after,dX,QV]
theorem aE.skip(h:aE P m g){Qw:List iM}{ds:List jL}(hf:feed P (aQ g) Qw=some (ds,.inl .skip))(hm:eW ds Qw w #[] w' es):
  stepG P m g w=.go (dX g (g.frame.finish undef)) w' (seen P g.frame.fn es):=by
 have hr:=qK _ _ _ _ _ _ _ _ hf hm;rw[h.1 w];simp only[stepG.apply,hr,h.2.2,QF,QC,QD,GStep.after,dX,QV]
theorem aE.comm(h:aE P m g){Qw:List iM}{ds:List jL}{cases:Array CommCase}{b:Bool}{sh:CommShape}(hf:feed P (aQ g) Qw=some (ds,.inl (.comm cases b sh)))(hm:eW ds Qw w #[] w' es):
  stepG P m g w=.comm (dX g g.frame) cases b sh w' (seen P g.frame.fn es):=by
 have hr:=qK _ _ _ _ _ _ _ _ hf hm;rw[h.1 w];simp only[stepG.apply,hr,h.2.2,QF,QC,QD,GStep.after,dX,QV]
theorem aE.blocked(h:aE P m g){Qw:List iM}{ds:List jL}(hf:feed P (aQ g) Qw=some (ds,.inr .blocked))(hm:eW ds Qw w #[] w' es):
  stepG P m g w=.go {frame:=g.frame,callers:=g.callers,status:=.blocked,dying:=none} w' (seen P g.frame.fn #[]):=by
 have hr:=qK _ _ _ _ _ _ _ _ hf hm;rw[h.1 w];simp only[stepG.apply,hr,QD,GStep.after,QV];split<;>rfl
end
end
section
open Go.Conc
inductive cG (Q:Program) (Goal:Frame->List Frame->World->Prop):Frame->List Frame->World->Frame->List Frame->World->Prop
 |refl (fr:Frame) (cs:List Frame) (w:World):cG Q Goal fr cs w fr cs w
 |step {fr:Frame} {cs:List Frame} {w:World} {fr1:Frame} {cs1:List Frame} {w1:World} {fr2:Frame} {cs2:List Frame} {w2:World} (t:Nat->Question->Nat) (es:Array Event):
   ¬Goal fr cs w->stepG Q true (lg fr cs) {w with tape:=t}=.go (lg fr1 cs1) w1 es->cG Q Goal fr1 cs1 w1 fr2 cs2 w2->cG Q Goal fr cs w fr2 cs2 w2
section
variable {Q:Program}{Goal:Frame->List Frame->World->Prop}
theorem cG.trans{fr cs w fr1 cs1 w1 fr2 cs2 w2}(h:cG Q Goal fr cs w fr1 cs1 w1)(k:cG Q Goal fr1 cs1 w1 fr2 cs2 w2):cG Q Goal fr cs w fr2 cs2 w2:=by
 induction h with
 |refl=>exact k
 |step t es hn e _ ih=>exact .step t es hn e (ih k)
theorem Safe.next{fr cs w}(h:Safe Q Goal fr cs w)(hn: ¬Goal fr cs w)(t:Nat->Question->Nat){fr1 cs1 w1 es}(e:stepG Q true (lg fr cs) {w with tape:=t}=.go (lg fr1 cs1) w1 es):Safe Q Goal fr1 cs1 w1:=by
 cases h with
 |goal hg=>exact absurd hg hn
 |step f c u es' _ _ hst _ hsub=>
  rw[hst t]at e;simp only[lg,GStep.go.injEq,Goroutine.mk.injEq,Ri,List.append_cancel_right_eq]at e;obtain⟨⟨rfl,rfl⟩,rfl,_⟩:=e;exact hsub t
theorem Safe.goes{fr cs w}(h:Safe Q Goal fr cs w)(hn: ¬Goal fr cs w)(t:Nat->Question->Nat): ∃fr1 cs1 w1 es,stepG Q true (lg fr cs) {w with tape:=t}=.go (lg fr1 cs1) w1 es/\fF (lg fr1 cs1)/\Safe Q Goal fr1 cs1 w1:=by
 cases h with
 |goal hg=>exact absurd hg hn
 |step f c u es' _ _ hst hfi hsub=>exact⟨f t,c t,u t,es' t,hst t,⟨(hfi t).status,(hfi t).dying,(hfi t).mode,(hfi t).kind⟩,hsub t⟩
theorem Safe.run{fr cs w fr1 cs1 w1}(h:Safe Q Goal fr cs w)(k:cG Q Goal fr cs w fr1 cs1 w1):Safe Q Goal fr1 cs1 w1:=by
 induction k with
 |refl=>exact h
 |step t es hn e _ ih=>exact ih (Safe.next h hn t e)
theorem Safe.Aw(hX:∀fr cs w,Safe Q Goal fr cs w->(∀t fr1 cs1 w1 es,¬Goal fr cs w->stepG Q true (lg fr cs) {w with tape:=t}=.go (lg fr1 cs1) w1 es->X fr1 cs1 w1)->X fr cs w){fr cs w}(h:Safe Q Goal fr cs w):X fr cs w:=by
 induction h with
 |goal hg=>exact hX _ _ _ (.goal hg) λ_ _ _ _ _ hn=>absurd hg hn
 |step f c u es' hng hnl hst hfi hsub ih=>
  refine hX _ _ _ (.step f c u es' hng hnl hst hfi hsub) λt fr1 cs1 w1 es _ e=>?_;rw[hst t]at e;simp only[lg,GStep.go.injEq,Goroutine.mk.injEq,Ri,List.append_cancel_right_eq]at e;obtain⟨⟨rfl,rfl⟩,rfl,_⟩:=e;exact ih t
end
section
variable {P:Program}{G:Array Func}{L:au}{T:aO}{Goal:Frame->List Frame->World->Prop}
theorem AP(S:Stat P G L T){τ:ah}{D:List Frame}{fr frQ:Frame}{cs:List Frame}(hS:fT P G L T τ (frQ::cs++ [wall]) D (lg fr (frQ::cs)) w h v)(hn:fr.fn≠T.bj)(hm:fr.mode=.returning)(hd:fr.defers= [])(t:Nat->Question->Nat){fr1:Frame}{cs1:List Frame}{w1:World}(e:stepG (gp P G) true (lg fr (frQ::cs)) {w with tape:=t}=.go (lg fr1 cs1) w1 es):
  ∃x fn,P.funcs[fr.fn]?=some fn/\(results fn fr.tmps).run (gp P G) {w with tape:=t}=.ok x {w with tape:=t}/\fr1=frQ.finish x/\cs1=cs/\w1= {w with tape:=t}:=by
 have hF:=hS.g.frame.runs hn;have hk:fr.kind=.normal:=hF.kind.1;obtain⟨fn,c,b1,b2,_,_,_⟩:=S.br.body fr.fn hF.br hF.np;have e1:stepG (gp P G) true (lg fr (frQ::cs)) {w with tape:=t}=unwind (gp P G) true fr (frQ::cs++ [wall]) none {w with tape:=t}:=by simp only[stepG,hm]
 rw[e1,nk (P:=gp P G) hd hm b2]at e;cases hr:(results fn fr.tmps).runT (gp P G) {w with tape:=t} #[] with
 |mk r es0=>
  rw[hr]at e;cases r with
  |halt hh w'=>cases hh<;>cases e
  |ok x w'=>
   have hw:w'= {w with tape:=t}:=Reads.results fn fr.tmps _ _ _ _ _ hr;subst hw;simp only[lP,Rz,doReturn,hk,GStep.after,GStep.go.injEq,lg,Goroutine.mk.injEq,Ri,List.append_cancel_right_eq]at e;obtain⟨⟨e2,e3⟩,e4,_⟩:=e;refine⟨x,fn,b1,?_,e2.symm,e3.symm,e4.symm⟩
   have:=Sem.runT_eq (gp P G) (results fn fr.tmps) {w with tape:=t} #[];rw[hr]at this;simp only[QM]at this;exact this.1.symm
theorem vq(S:Stat P G L T)(hpool: ¬L.fn T.bj)(hgoal:∀fr cs w,Goal fr cs w->cs= []){frQ:Frame}{cs:List Frame}{D:List Frame}{B0:Nat}{w0:World}{fr:Frame}{cs':List Frame}(hsafe:Safe (gp P G) Goal fr cs' w):
  ∀(sub:List Frame) (τ:ah) (h:Goroutine) (v:World),cs'=sub++frQ::cs->fT P G L T τ (frQ::cs++ [wall]) D (lg fr cs') w h v->(∀r s,τ.mine r s->B0<=r)->B0<=w.heap.size->(∀r,r<B0->w.heap[r]?=w0.heap[r]?)->
   ∃x w',cG (gp P G) Goal fr cs' w (frQ.finish x) cs w'/\B0<=w'.heap.size/\∀r,r<B0->w'.heap[r]?=w0.heap[r]? :=by
 refine Safe.Aw (Q:=gp P G) (Goal:=Goal) (X:=λfr cs' w=>∀(sub:List Frame) (τ:ah) (h:Goroutine) (v:World),cs'=sub++frQ::cs->fT P G L T τ (frQ::cs++ [wall]) D (lg fr cs') w h v->(∀r s,τ.mine r s->B0<=r)->B0<=w.heap.size->(∀r,r<B0->w.heap[r]?=w0.heap[r]?)->
   ∃x w',cG (gp P G) Goal fr cs' w (frQ.finish x) cs w'/\B0<=w'.heap.size/\∀r,r<B0->w'.heap[r]?=w0.heap[r]?) ?_ hsafe
 intro fr cs' w hsafe ih sub τ h v hcs hS hmine hsz hold;have hng: ¬Goal fr cs' w:=λhg=>by have:=hgoal _ _ _ hg;rw[hcs]at this;simp at this
 have hn:fr.fn≠T.bj:=λe=>by
  have key:∀a b,fM P G L T τ a b->a.fn=T.bj->False:=by
   intro a b hx e;cases hx with
   |run hx=>exact hx.np e
   |bj hp _ _=>exact hpool hp
  exact key _ _ hS.g.frame e
 obtain⟨fr1,cs1,w1,es,e,hfi,hsafe1⟩:=Safe.goes hsafe hng (kv w v);by_cases hl:fr.mode=.returning/\fr.defers= []/\cs'=frQ::cs
 ·obtain⟨hm,hd,rfl⟩:=hl;obtain⟨x,fn,_,_,rfl,rfl,rfl⟩:=AP S hS hn hm hd _ e;exact⟨x,_,.step _ _ hng e (.refl _ _ _),hsz,hold⟩
 ·obtain⟨h1,v1,fs,τ1,_,hS1,_,hgr⟩:=hS.step S true hn (λx=>hl ⟨x.1,x.2.1,Rx ((show cs'++ [wall]=frQ::cs++ [wall] from x.2.2).trans (by simp))⟩) e hfi;obtain⟨cs2,ds2,hg2,_,_,_⟩:=hS1.g.parts;have hcs1:cs1=cs2++frQ::cs:=by
   have:=congrArg Goroutine.callers hg2;have e2:cs1++ [wall]=(cs2++frQ::cs)++ [wall]:=(show cs1++ [wall]=cs2++(frQ::cs++ [wall]) from this).trans (by simp);exact Rx e2
  have m1:∀r s,τ1.mine r s->B0<=r:=λr s hx=>by
   rcases hgr.mine r s hx with hx|hx
   ·exact hmine r s hx
   ·omega
  have m2:∀r,r<B0->w1.heap[r]?=w0.heap[r]? :=λr hr=>by
   rw[hgr.kL r (by omega) (λs hx=>by have:=hmine r s hx;omega),hold r hr]
  obtain⟨x,w',r1,r2,r3⟩:=ih _ fr1 cs1 w1 es hng e cs2 τ1 h1 v1 hcs1 hS1 m1 (IT hsz hgr.grow) m2;exact⟨x,w',.step _ _ hng e r1,r2,r3⟩
end
end
section
open Go.Conc
open Go.ConcN (upd)
set_option maxRecDepth 100000
def qOp(d:Option Tmp)(o:Op)(ty:TypeId):Oper:={dst:=d,op:=o,type:=ty,pos:= "",after:=#[],guard:=none}
def qI(n:Int):Operand:=.const (.int .i64 n)
def qU(n:Int):Operand:=.const (.int .u64 n)
def gG(d:Tmp)(o:BinOp)(t:TypeId)(x y:Operand):Oper:=qOp (some d) (.binOp o t x y t) 4
def sX(d:Tmp):Oper:=qOp (some d) (.call {callee:=.value (.tmp 2),args:=#[.tmp 4],argTypes:=#[3]}) 9
def tF(d s:Tmp):Oper:=qOp (some d) (.call {callee:=.value (.func 84),args:=#[.tmp s],argTypes:=#[9]}) 55
def nc:Code:=
 .seq (.region 0 #[gG 16 .lss 3 (.tmp 0) (qI 0),gG 17 .lss 3 (.tmp 1) (qI 0),gG 10 .eql 3 (.tmp 1) (qI 1),gG 11 .eql 3 (.tmp 1) (qI 4),gG 12 .eql 3 (.tmp 1) (qI 16),gG 13 .eql 3 (.tmp 1) (qI 64)] false)
 (.seq (.cond (.tmp 10) .skip (.cond (.tmp 11) .skip (.cond (.tmp 12) .skip (.cond (.tmp 13) .skip (.refuse "")))))
 (.seq (.region 1 #[qOp (some 6) (.makeSlice 158 (.tmp 1) (.tmp 1)) 158,qOp (some 3) (.move (qI 0)) 3] false)
 (.seq (.block 0 (.loop
  (.seq (.region 2 #[gG 14 .lss 3 (.tmp 3) (.tmp 1)] false)
  (.seq (.cond (.tmp 14) .skip (.exit 0))
  (.seq (.region 3 #[qOp (some 4) (.binOp .add 3 (.tmp 0) (.tmp 3) 3) 3] false)
  (.seq (.region 4 #[sX 5,gG 18 .lss 9 (.tmp 5) (.const (.string ByteArray.empty)),tF 7 5] false)
  (.seq (.region 5 #[sX 8,gG 18 .lss 9 (.tmp 8) (.const (.string ByteArray.empty)),tF 9 8] false)
  (.seq (.region 6 #[gG 18 .lss 55 (.tmp 7) (qU 0),gG 19 .lss 55 (.tmp 9) (qU 0),gG 15 .neq 55 (.tmp 7) (.tmp 9)] false)
  (.seq (.cond (.tmp 15) (.refuse "") .skip)
  (.region 7 #[qOp (some 18) (.indexAddr 158 (.tmp 6) (.tmp 3)) 158,qOp none (.store 55 (.tmp 18) (.tmp 9)) 55,qOp (some 19) (.binOp .add 3 (.tmp 3) (qI 1) 3) 3,qOp (some 3) (.move (.tmp 19)) 3] false)))))))))) .ret)))
noncomputable def ki:Func:={(((Tryz.prog).funcs[(95:Nat)]?).getD default) with ntmps:=20,results:=#[.tmp 6],body:=some nc}
noncomputable def Gg:Array Func:=(Tryz.prog).funcs.setIfInBounds 95 ki
noncomputable abbrev Qg:Program:=gp Tryz.prog Gg
def nU(Q:Program):Nat->Goroutine->List Goroutine
 |0,g=>[g]
 |n+1,g=>g::nU Q n (nx Q true g)
def oa(Q:Program)(cs:List Frame):Nat->Goroutine->List Goroutine
 |0,g=>[lg g.frame cs]
 |n+1,g=>lg g.frame cs::oa Q cs n (nx Q true g)
def p9(Q:Program)(f:FuncId):Nat->Goroutine->Bool
 |0,_=>true
 |n+1,g=>g.frame.fn==f&&p9 Q f n (nx Q true g)
structure dn(Q:Program)(f:FuncId)(n:Nat)(fr:Frame)(cs:List Frame):Prop where
 Ic:aT Q true n (lg fr cs)
 Mo:nU Q n (lg fr cs)=oa Q cs n (lg fr cs)
 fns:p9 Q f n (lg fr cs)=true
theorem AH{Q:Program}{Goal:Frame->List Frame->World->Prop}(hgoal:∀fr cs w,Goal fr cs w->fr.fn≠f){cs:List Frame}(w:World):∀(n:Nat) (g:Goroutine),aT Q true n g->nU Q n g=oa Q cs n g->p9 Q f n g=true->cG Q Goal g.frame cs w (az Q true n g).frame cs w
 |0,g,_,_,_=>.refl _ _ _
 |n+1,g,hs,ht,hf=>by
  obtain⟨h1,h2,h3⟩:=hs.step;simp only[nU,oa,Rq]at ht;simp only[p9,No,Rw]at hf;have e0:g=lg g.frame cs:=ht.1;have e1:nx Q true g=lg (nx Q true g).frame cs:=by
   have:=ht.2;cases n<;>simp only[nU,oa,Rq,Ri]at this
   ·exact this
   ·exact this.1
  refine .step w.tape #[] (λhg=>hgoal _ _ _ hg hf.1) ?_ (AH hgoal w n (nx Q true g) h3 ht.2 hf.2);rw[<-e0,<-e1];exact h2 w
theorem dn.run{Q:Program}{Goal:Frame->List Frame->World->Prop}{n:Nat}{fr fr':Frame}{cs:List Frame}(h:dn Q f n fr cs)(hgoal:∀fr cs w,Goal fr cs w->fr.fn≠f)(he:(az Q true n (lg fr cs)).frame=fr')(w:World):cG Q Goal fr cs w fr' cs w:=
 he▸AH hgoal w n (lg fr cs) h.Ic h.Mo h.fns
noncomputable def frQ(id n:Nat)(ts:Array Value):Frame:={fn:=95,tmps:=ts,todo:=AS Qg 95 id n,defers:=[],mode:=.run,kind:=.normal}
def qT(x0 x1 x2:Value)(xs:Nat->Value):Array Value:=#[x0,x1,x2,xs 3,xs 4,xs 5,xs 6,xs 7,xs 8,xs 9,xs 10,xs 11,xs 12,xs 13,xs 14,xs 15,xs 16,xs 17,xs 18,xs 19]
def cM:GStep->Bool
 |.go .. =>true
 |_=>false
abbrev fQ:FuncId:=95
section
variable (x0 x1 x2:Value) (a n:Int) (xs:Nat->Value) (cs:List Frame)
def un:Nat->Value:=λ_=>undef
theorem Fw:dn Qg fQ 2 (Frame.enter Qg fQ #[x0,x1,x2] .normal) cs:=⟨λw=>by kernel_rfl,by kernel_rfl,by kernel_rfl⟩
theorem NG:(az Qg true 2 (lg (Frame.enter Qg fQ #[x0,x1,x2] .normal) cs)).frame=frQ 0 0 (qT x0 x1 x2 un):=by kernel_rfl
theorem KP(w:World)(h:cM (stepG Qg true (lg (frQ 0 0 (qT x0 x1 x2 un)) cs) w)=true): ∃a,x0=.int .i64 a:=by
 have no:∀x,cM (stepG Qg true (lg (frQ 0 0 (qT x x1 x2 un)) cs) w)=false->x0=x->False:=λx hx e=>by rw[e,hx]at h;cases h
 cases x0 with
 |int k a=>cases k<;>first|exact⟨a,rfl⟩|exact (no _ (by kernel_rfl) rfl).elim
 |pointer p=>cases p<;>exact (no _ (by kernel_rfl) rfl).elim
 |_=>exact (no _ (by kernel_rfl) rfl).elim
theorem Ee:dn Qg fQ 1 (frQ 0 0 (qT (.int .i64 a) x1 x2 xs)) cs:=⟨λw=>by kernel_rfl,by kernel_rfl,by kernel_rfl⟩
theorem Kw:(az Qg true 1 (lg (frQ 0 0 (qT (.int .i64 a) x1 x2 xs)) cs)).frame=frQ 0 1 (qT (.int .i64 a) x1 x2 (upd xs 16 (.bool (decide (a<0))))):=by kernel_rfl
theorem Cm(w:World)(h:cM (stepG Qg true (lg (frQ 0 1 (qT x0 x1 x2 xs)) cs) w)=true): ∃n,x1=.int .i64 n:=by
 have no:∀x,cM (stepG Qg true (lg (frQ 0 1 (qT x0 x x2 xs)) cs) w)=false->x1=x->False:=λx hx e=>by rw[e,hx]at h;cases h
 cases x1 with
 |int k a=>cases k<;>first|exact⟨a,rfl⟩|exact (no _ (by kernel_rfl) rfl).elim
 |pointer p=>cases p<;>exact (no _ (by kernel_rfl) rfl).elim
 |_=>exact (no _ (by kernel_rfl) rfl).elim
theorem Iz:dn Qg fQ 5 (frQ 0 1 (qT x0 (.int .i64 n) x2 xs)) cs:=⟨λw=>by kernel_rfl,by kernel_rfl,by kernel_rfl⟩
def fH(b1 b2 b3 b4:Bool)(xs:Nat->Value):Nat->Value:=upd (upd (upd (upd xs 10 (.bool b1)) 11 (.bool b2)) 12 (.bool b3)) 13 (.bool b4)
theorem Jn:(az Qg true 5 (lg (frQ 0 1 (qT x0 (.int .i64 n) x2 xs)) cs)).frame=frQ 0 6 (qT x0 (.int .i64 n) x2 (fH (decide (n=1)) (decide (n=4)) (decide (n=16)) (decide (n=64)) (upd xs 17 (.bool (decide (n<0)))))):=by kernel_rfl
end
end
end Go.Proofs.YtldmcdeibiclkaaGreat.U
