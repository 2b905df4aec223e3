/-
  Toward converged_holds: GOROUTINE 0 BESIDE LEAVERS, CARRIED BY THE LONE ONE's TREE, from pool to pool: on whatever
-/
import Derived.Test.YtldmcdeibiclkaaGreatDoorC05
import Derived.Conc.Beside
import Derived.Conc.CrowdTrace
import Derived.Test.YtldmcdeibiclkaaGreatDoorProg
set_option linter.unusedVariables false
set_option linter.unusedSimpArgs false
set_option maxRecDepth 100000
set_option maxHeartbeats 20000000
namespace Go.Proofs.YtldmcdeibiclkaaGreatDoor.U
variable {w v w':World}{es:Array Event}{gs:Array Goroutine}{g1 h:Goroutine}{q:Nat->Nat}{X:Frame->List Frame->World->Prop}{k i b d:Nat}{α:Type}{f:FuncId}
section
open Go.Conc
open Go.ConcN (sumTo upd sumTo_upd upd_ne upd_same)
def jI(Sh:Nat->Prop):Loc->Prop
 | .cell a=>Sh a.block
 | .obj r=>Sh r
 |_=>False
abbrev lg(fr:Frame)(cs:List Frame):Goroutine:={frame:=fr,callers:=cs++ [wall],status:= .running,dying:=none}
section
variable {P:Program} {G:Array Func} {L:ax} {T:aN} {D:List Frame} {Sh:Nat->Prop} {τ:ai}
theorem F6{Rg Wg:Nat->Prop}{B:Nat}{e:Event}(h:kg Rg Wg e)(hs:∀s,Rg s->¬ Sh s)(hb:∀s,Rg s->s< B):EvL (jI Sh) B e:=by
 rcases h with ⟨a,wr,rfl,hr,_⟩|⟨r,wr,rfl,hr,_⟩|rfl
 ·exact evL_cell a wr (hs _ hr) (hb _ hr)
 ·refine⟨λx hx hsx=>?_,by simp,by simp,?_⟩
  ·simp only[MemAct.ofEvent,MemAct.touch?,Vv] at hx;subst hx;exact absurd hsx (hs _ hr)
  ·simp only[MemAct.ofEvent,MemAct.low,Loc.low];exact hb _ hr
 ·exact⟨λx hx=>by simp[MemAct.ofEvent,MemAct.touch?] at hx,by simp,by simp,trivial⟩
structure lO(τ τ':ai)(v v':World):Prop where
 grow:v.heap.size<=v'.heap.size
 tape:v'.tape=v.tape
 os:v'.os=v.os
 output:v'.output=v.output
 gq:∀s,s< v.heap.size->(∀r,¬ τ.un r s)->v'.heap[s]? =v.heap[s]?
 more:fM τ τ'
 new:∀r s,τ'.un r s->τ.un r s\/(v.heap.size<=s/\s< v'.heap.size)
theorem fM.refl(τ:ai):fM τ τ:=⟨λ_ _ h=>h,λ_ _ h=>h,λ_ _ h=>h,λ_ _ h=>h⟩
theorem fM.trans{a b c:ai}(h:fM a b)(k:fM b c):fM a c:=⟨λ_ _ x=>k.all _ _ (h.all _ _ x),λ_ _ x=>k.own _ _ (h.own _ _ x),λ_ _ x=>k.box _ _ (h.box _ _ x),λ_ _ x=>k.lp _ _ (h.lp _ _ x)⟩
theorem lO.refl(τ:ai)(v:World):lO τ τ v v:=⟨eR _,rfl,rfl,rfl,λ_ _ _=>rfl,.refl τ,λ_ _ h=> .inl h⟩
theorem lO.trans{π π1 π2:ai}{v1 v2:World}(h:lO π π1 v v1)(k:lO π1 π2 v1 v2):lO π π2 v v2:=by
 have g1:=h.grow;have g2:=k.grow;refine⟨OF g1 g2,k.tape.trans h.tape,k.os.trans h.os,k.output.trans h.output,λs hs ha=>?_,h.more.trans k.more,λr s hx=>?_⟩
 ·rw[k.gq s (by omega) (λr hx=>?_),h.gq s hs ha];rcases h.new r s hx with hy|⟨hy,_⟩
  ·exact ha r hy
  ·omega
 ·rcases k.new r s hx with hy|⟨h1,h2⟩
  ·rcases h.new r s hy with hz|⟨h1,h2⟩
   ·exact .inl hz
   ·exact .inr ⟨h1,by omega⟩
  ·exact .inr ⟨by omega,h2⟩
theorem iq.at{B D:List Frame}{g:Goroutine}(hS:iq P G L T τ B D g w h v)(d:Nat):iq P G L T τ B D g w h (v.at d):=⟨hS.g,hS.bi,hS.flat,hS.cq,hS.obj⟩
theorem xn{t:Trace}{a:Goroutine}(hL:Leavers P t gs q)(h0:gs[0]? =some a)(ha:a.status= .running):∀g∈gs,awake g:=by
 intro g hg;obtain⟨i,hi,rfl⟩:=Array.mem_iff_getElem.1 hg;rcases WZ i with rfl|hpos
 ·have:gs[0]=a:=by simpa[Array.getElem?_eq_getElem hi] using h0
  rw[this];exact awake_of (.inl ha)
 ·exact awake_of ((hL.old i _ hpos (Array.getElem?_eq_getElem hi)).status.elim .inl λx=> .inr (.inr x))
theorem D2{t:Trace}{a a':Goroutine}{fn:FuncId}{pos:String}(hL:Leavers P t gs q)(hsz:0< gs.size):
  Leavers P (t++MemOp.ofEvents 0 fn pos es) ((gs.map (woken P a a' w')).setIfInBounds 0 a') q:=by
 refine⟨λj x hj hx=>?_,λj hj=>?_⟩
 ·have hne:0≠j:=by omega
  rw[Array.getElem?_setIfInBounds_ne hne,Array.getElem?_map] at hx;obtain⟨y,hy,rfl⟩:=WH.1 hx;have hq:=hL.old j y hj hy;rw[woken_quitsD hq,Deaf_other t (by omega) _ (λop ag=>by obtain⟨e,_,rfl⟩:=Go.Conc.mem_ofEvents ag;rfl)];exact hq
 ·simp only[VX,Array.size_map] at hj;rw[Deaf_other t (g':=0) (by omega) _ (λop ag=>by obtain⟨e,_,rfl⟩:=Go.Conc.mem_ofEvents ag;rfl)];exact hL.above j hj
theorem yP{t:Trace}{a:Goroutine}(hL:Leavers P t gs q)(h0:gs[0]? =some a)(ha:a.status= .running){g:Goroutine}(hi:gs[i]? =some g)(hpos:0< i)(hg:g.status= .running)(w:World)(sl:Option (Nat×Nat)):
  ∃gs' k es,runT P (crowd gs w sl) i=(.next (crowd gs' w sl),MemOp.ofEvents i g.frame.fn g.frame.place es)/\gs'.size=gs.size/\gs'[0]? =some a/\Leavers P (t++MemOp.ofEvents i g.frame.fn g.frame.place es) gs' (upd q i k)/\(∀e∈es,e.mute=true)/\sumTo gs.size (upd q i k)+1=sumTo gs.size q:=by
 have hq:=hL.old i g hpos hi;have hi0:(i==0)=false:=by simp;omega
 have hlt:i< gs.size:=(Array.getElem?_eq_some_iff.1 hi).1;cases hqi:q i with
 |zero=>rw[hqi] at hq;rw[hq.1] at hg;cases hg
 |succ k=>
  rw[hqi] at hq;rcases hq with ⟨hf,_⟩|⟨_,g',es,hm,hstp,hq'⟩
  ·rw[hf] at hg;cases hg
  have hrunT:=runT_crowd_go (P:=P) (sl:=sl) (i:=i) hi (by rw[hi0];exact hstp w);have hsum:sumTo gs.size (upd q i k)+(k+1)=sumTo gs.size q+k:=by
   have:=sumTo_upd q k id hlt;simpa[hqi] using this
  refine⟨_,k,es,hrunT,by simp,?_,⟨λj x hj hx=>?_,λj hj=>?_⟩,hm,by omega⟩
  ·have hne:i≠0:=by omega
   rw[Array.getElem?_setIfInBounds_ne hne,Array.getElem?_map,h0];simp[woken_run ha]
  ·by_cases hji:i=j
   ·subst hji;rw[Array.getElem?_setIfInBounds_self_of_lt (by simpa using hlt)] at hx;obtain rfl:=VV hx;rw[upd_same,Deaf_own];exact hq'
   ·rw[Array.getElem?_setIfInBounds_ne hji,Array.getElem?_map] at hx;obtain⟨y,hy,rfl⟩:=WH.1 hx;have hqj:=hL.old j y hj hy;rw[woken_quitsD hqj,upd_ne q k (VG hji),Deaf_other t hji _ (λop ag=>by obtain⟨e,_,rfl⟩:=Go.Conc.mem_ofEvents ag;rfl)];exact hqj
  ·rw[Deaf_other t (g':=i) (by simp at hj;omega) _ (λop ag=>by obtain⟨e,_,rfl⟩:=Go.Conc.mem_ofEvents ag;rfl)];exact hL.above j (by simpa using hj)
structure iY(P:Program)(G:Array Func)(L:ax)(T:aN)(Sh:Nat->Prop)(D:List Frame)(τ:ai)(fr:Frame)(cs:List Frame)(w:World)(gs:Array Goroutine)(v:World)(t:Trace)(q:Nat->Nat):Prop where
 main: ∃h,gs[0]? =some h/\iq P G L T τ [wall] D (lg fr cs) w h v
 gF:Leavers P t gs q
 mQ:Past (jI Sh) v.heap.size t
 apart:∀r s,τ.un r s->¬ Sh s
 old:∀s,Sh s->s< v.heap.size
inductive Below (Q:Program) (Goal:Frame->List Frame->World->Prop):Frame->List Frame->World->Frame->List Frame->World->Prop
 |one {fr cs w fr1 cs1 w1} (t:Nat->Question->Nat) (es:Array Event): ¬ Goal fr cs w->stepG Q true (lg fr cs) {w with tape:=t}= .go (lg fr1 cs1) w1 es->Below Q Goal fr cs w fr1 cs1 w1
 |more {fr cs w fr1 cs1 w1 fr2 cs2 w2} (t:Nat->Question->Nat) (es:Array Event): ¬ Goal fr cs w->stepG Q true (lg fr cs) {w with tape:=t}= .go (lg fr1 cs1) w1 es->Below Q Goal fr1 cs1 w1 fr2 cs2 w2->Below Q Goal fr cs w fr2 cs2 w2
def Comes(P:Program)(G:Array Func)(L:ax)(T:aN)(D:List Frame)(X:Frame->List Frame->World->Prop)(gs:Array Goroutine)(v:World)(sl:Option (Nat×Nat))(t:Trace)(τ:ai):Prop:=
 ∃(N:Nat) (gs':Array Goroutine) (v':World) (sl':Option (Nat×Nat)) (t':Trace) (q':Nat->Nat) (τ':ai) (fr':Frame) (cs':List Frame) (w':World) (Sh':Nat->Prop),
  runNT P N (crowd gs v sl) t=(.next (crowd gs' v' sl'),t')/\iY P G L T Sh' D τ' fr' cs' w' gs' v' t' q'/\X fr' cs' w'/\lO τ τ' v v'
def vA(P:Program)(G:Array Func)(L:ax)(T:aN)(D:List Frame)(Goal:Frame->List Frame->World->Prop):Prop:=
 ∀(fr:Frame) (cs:List Frame) (w:World),fr.fn=T.bJ->Safe (gp P G) Goal fr cs w->∀(gs:Array Goroutine) (v:World) (sl:Option (Nat×Nat)) (t:Trace) (q:Nat->Nat) (τ:ai) (Sh:Nat->Prop),
  iY P G L T Sh D τ fr cs w gs v t q->Comes P G L T D (Below (gp P G) Goal fr cs w) gs v sl t τ
theorem Comes.trans{Y:Frame->List Frame->World->Prop}{sl:Option (Nat×Nat)}{t:Trace}(h:Comes P G L T D X gs v sl t τ)(k:∀gs' v' sl' t' q' τ' fr' cs' w' Sh',iY P G L T Sh' D τ' fr' cs' w' gs' v' t' q'->X fr' cs' w'->Comes P G L T D Y gs' v' sl' t' τ'):Comes P G L T D Y gs v sl t τ:=by
 obtain⟨N,gs',v',sl',t',q',τ',fr',cs',w',Sh',r1,r2,r3,r4⟩:=h;obtain⟨N2,gs2,v2,sl2,t2,q2,τ2,fr2,cs2,w2,Sh2,s1,s2,s3,s4⟩:=k gs' v' sl' t' q' τ' fr' cs' w' Sh' r2 r3;refine⟨N+N2,gs2,v2,sl2,t2,q2,τ2,fr2,cs2,w2,Sh2,?_,s2,s3,r4.trans s4⟩;rw[runNT_add,r1];exact s1
theorem BL(S:Stat P G L T){fr:Frame}{cs:List Frame}(hn:fr.fn≠T.bJ)(hnl: ¬ (fr.mode= .returning/\fr.defers= []/\cs= [])){ff:(Nat->Question->Nat)->Frame}{cc:(Nat->Question->Nat)->List Frame}{uu:(Nat->Question->Nat)->World}{ee:(Nat->Question->Nat)->Array Event}(hst:∀t,stepG (gp P G) true (lg fr cs) {w with tape:=t}= .go (lg (ff t) (cc t)) (uu t) (ee t))(hfi:∀t,hZ (lg (ff t) (cc t)))(ih:∀tt (gs:Array Goroutine) (v:World) (sl:Option (Nat×Nat)) (t:Trace) (q:Nat->Nat) (τ:ai) (Sh:Nat->Prop),iY P G L T Sh D τ (ff tt) (cc tt) (uu tt) gs v t q->Comes P G L T D X gs v sl t τ)(gs:Array Goroutine)(v:World)(sl:Option (Nat×Nat))(t:Trace)(q:Nat->Nat)(hb:iY P G L T Sh D τ fr cs w gs v t q)(slip:0< sumTo gs.size q->∀(gs':Array Goroutine) (v':World) (sl':Option (Nat×Nat)) (t':Trace) (q':Nat->Nat),sumTo gs'.size q'< sumTo gs.size q->iY P G L T Sh D τ fr cs w gs' v' t' q'->Comes P G L T D X gs' v' sl' t' τ):
  Comes P G L T D X gs v sl t τ:=by
 obtain⟨h,h0,hS⟩:=hb.main;have hrun:h.status= .running:=hS.g.status.2;have hsz:0< gs.size:=(Array.getElem?_eq_some_iff.1 h0).1;obtain⟨i,g,d,sl',hi,hg,hpick⟩:=crowd_pick (P:=P) (w:=v) (sl:=sl) (xn hb.gF h0 hrun) ⟨0,h,h0,hrun⟩;rcases WZ i with rfl|hpos
 ·
  obtain rfl:g=h:=by rw[h0] at hi;exact (VV hi).symm
  obtain⟨h1,v1,fs,π1,e,hS1,hD,hgr⟩:=(hS.at d).step S true hn (λx=>hnl ⟨x.1,x.2.1,by simpa using x.2.2⟩) (hst (mK w (v.at d))) (hfi _);have hrunT:=runT_crowd_go (P:=P) (sl:=sl') (i:=0) hi (show stepG P (0==0) g (v.at d)=_ from e);have hgrow:v.heap.size<=v1.heap.size:=hD.grow;have hb1:iY P G L T Sh D π1 (ff (mK w (v.at d))) (cc (mK w (v.at d))) (uu (mK w (v.at d))) ((gs.map (woken P g h1 v1)).setIfInBounds 0 h1) v1 (t++MemOp.ofEvents 0 g.frame.fn g.frame.place fs) q:=by
   refine⟨⟨h1,by simp[hsz],hS1⟩,D2 hb.gF hsz,?_,λr s hx=>?_,λs hs=>VA (hb.old s hs) hgrow⟩
   ·refine (hb.mQ.mono hgrow).own λev hev=>F6 (hD.nA ev hev) ?_ ?_
    ·rintro s (⟨r,hx⟩|⟨hx,_⟩) hsh
     ·exact hb.apart r s hx hsh
     ·have:=hb.old s hsh;simp only[World.at] at hx;omega
    ·rintro s (⟨r,hx⟩|⟨_,hx⟩)
     ·exact VA ((hS.cq r s hx).2) hgrow
     ·exact hx
   ·rcases hgr.un r s hx with hy|⟨_,_,hy,_⟩
    ·exact hb.apart r s hy
    ·intro hsh
     have:=hb.old s hsh;simp only[World.at] at hy;omega
  obtain⟨N,gs',v',sl'',t',q',τ',fr',cs',w',Sh',r1,r3,r4,r5⟩:=ih _ _ v1 sl' _ q π1 Sh hb1;refine⟨N+1,gs',v',sl'',t',q',τ',fr',cs',w',Sh',?_,r3,r4,?_⟩
  ·simp only[runNT,hpick,hrunT];exact r1
  ·refine lO.trans ⟨hgrow,hD.tape,hD.os,hD.output,λs hs ha=>hD.gq s hs λr hx=>ha r (hS.bi.mine hx),hgr.le,λr s hx=>?_⟩ r5;rcases hgr.un r s hx with hy|⟨_,_,hy,hz⟩
   ·exact .inl hy
   ·exact .inr ⟨hy,hz⟩
 ·
  obtain⟨gs',k,es,hr,hs',h0',hL',hmute,hsum⟩:=yP hb.gF h0 hrun hi hpos hg (v.at d) sl';have hb1:iY P G L T Sh D τ fr cs w gs' (v.at d) (t++MemOp.ofEvents i g.frame.fn g.frame.place es) (upd q i k):=
   ⟨⟨h,h0',hS.at d⟩,hL',hb.mQ.mute (by omega) hmute,hb.apart,hb.old⟩
  obtain⟨N,gs2,v2,sl2,t2,q2,τ2,fr2,cs2,w2,Sh2,r1,r3,r4,r5⟩:=slip (by omega) gs' (v.at d) sl' _ (upd q i k) (by rw[hs'];omega) hb1;refine⟨N+1,gs2,v2,sl2,t2,q2,τ2,fr2,cs2,w2,Sh2,?_,r3,r4,?_⟩
  ·simp only[runNT,hpick,hr];exact r1
  ·exact⟨r5.grow,r5.tape,r5.os,r5.output,r5.gq,r5.more,r5.new⟩
theorem TS(S:Stat P G L T){Goal:Frame->List Frame->World->Prop}(hpool:vA P G L T D Goal){fr:Frame}{cs:List Frame}(hsafe:Safe (gp P G) Goal fr cs w):
  (∀(gs:Array Goroutine) (v:World) (sl:Option (Nat×Nat)) (t:Trace) (q:Nat->Nat) (τ:ai) (Sh:Nat->Prop),iY P G L T Sh D τ fr cs w gs v t q->Comes P G L T D Goal gs v sl t τ)/\
  ∀fr2 cs2 w2,Below (gp P G) Goal fr cs w fr2 cs2 w2->∀(gs:Array Goroutine) (v:World) (sl:Option (Nat×Nat)) (t:Trace) (q:Nat->Nat) (τ:ai) (Sh:Nat->Prop),iY P G L T Sh D τ fr2 cs2 w2 gs v t q->Comes P G L T D Goal gs v sl t τ:=by
 induction hsafe with
 |goal hg=>
  refine⟨λgs v sl t q τ Sh hb=>⟨0,gs,v,sl,t,q,τ,_,_,_,Sh,rfl,hb,hg,.refl _ _⟩,λfr2 cs2 w2 hb=>?_⟩;cases hb with
  |one t es hn _=>exact absurd hg hn
  |more t es hn _ _=>exact absurd hg hn
 |@step fr cs w ff cc uu ee hng hnl hst hfi dE ih=>
  have below:∀fr2 cs2 w2,Below (gp P G) Goal fr cs w fr2 cs2 w2->∀(gs:Array Goroutine) (v:World) (sl:Option (Nat×Nat)) (t:Trace) (q:Nat->Nat) (τ:ai) (Sh:Nat->Prop),iY P G L T Sh D τ fr2 cs2 w2 gs v t q->Comes P G L T D Goal gs v sl t τ:=by
   intro fr2 cs2 w2 hb;cases hb with
   |one t es _ e=>
    rw[hst t] at e;simp only[lg,GStep.go.injEq,Goroutine.mk.injEq,Wp,List.append_cancel_right_eq] at e;obtain⟨⟨rfl,rfl⟩,rfl,_⟩:=e;exact (ih t).1
   |more t es _ e hb=>
    rw[hst t] at e;simp only[lg,GStep.go.injEq,Goroutine.mk.injEq,Wp,List.append_cancel_right_eq] at e;obtain⟨⟨rfl,rfl⟩,rfl,_⟩:=e;exact (ih t).2 _ _ _ hb
  refine⟨?_,below⟩;by_cases hp:fr.fn=T.bJ
  ·intro gs v sl t q τ Sh hb;exact (hpool fr cs w hp (.step ff cc uu ee hng hnl hst hfi dE) gs v sl t q τ Sh hb).trans λgs' v' sl' t' q' τ' fr' cs' w' Sh' hb' hx=>below fr' cs' w' hx gs' v' sl' t' q' τ' Sh' hb'
  ·have key:∀(M:Nat) (gs:Array Goroutine) (v:World) (sl:Option (Nat×Nat)) (t:Trace) (q:Nat->Nat) (τ:ai) (Sh:Nat->Prop),sumTo gs.size q<=M->iY P G L T Sh D τ fr cs w gs v t q->Comes P G L T D Goal gs v sl t τ:=by
    have hfi':∀t,hZ (lg (ff t) (cc t)):=λt=>⟨(hfi t).status,(hfi t).dying,(hfi t).mode,(hfi t).kind⟩
    intro M;induction M with
    |zero=>
     intro gs v sl t q τ Sh hM hb;exact BL S hp hnl hst hfi' (λtt=>(ih tt).1) gs v sl t q hb (λhx=>absurd hx (by omega))
    |succ M ihM=>
     intro gs v sl t q τ Sh hM hb;exact BL S hp hnl hst hfi' (λtt=>(ih tt).1) gs v sl t q hb (λ_ gs' v' sl' t' q' hsum hb'=>ihM gs' v' sl' t' q' τ Sh (by omega) hb')
   exact λgs v sl t q τ Sh hb=>key _ gs v sl t q τ Sh (eR _) hb
end
end
section
open Go.Conc
open Go.ConcN (RelBy fork_knows)
def blk:Loc->Option Nat
 | .cell a=>some a.block
 | .obj r=>some r
 |_=>none
structure nI where
 ro:Nat->Prop
 ow:Nat->Nat->Prop
 qu:Nat->Prop
structure wh(Λ:nI):Prop where
 own:∀k k' b,Λ.ow k b->Λ.ow k' b->k=k'
 ro:∀k b,Λ.ow k b->¬ Λ.ro b
 qu:∀k b,Λ.ow k b->¬ Λ.qu b
 D5:∀b,Λ.ro b->¬ Λ.qu b
def mi(Λ:nI)(k:Nat)(a:Touch):Prop:=∀b,blk a.loc=some b->
 (Λ.ow k b/\a.kind= .plain)\/(Λ.ro b/\a.write=false/\a.kind= .plain)\/(Λ.qu b/\a.kind≠.plain/\(a.kind= .said->k=0))
structure TP(Λ:nI)(Sh live Wk:Nat->Prop)(B:Nat)(t:Trace):Prop where
 clean:∀said,¬ Race said t
 kK:∀k,live k->∀i a,touchAt t i=some a->∀b,blk a.loc=some b->(Λ.ow k b\/(Λ.ro b/\a.write=true))->Knows t k i
 quiet:∀(i:Nat) (op:MemOp),t[i]? =some op->∀a,op.act.touch? =some a->∀b,blk a.loc=some b->Λ.qu b->a.kind≠.plain/\(a.kind= .said->op.g=0)
 low:∀op∈t,op.act.low B
 over:∀i g,t.g? i=some g->g≠0->¬ Wk g->t.counts i->∃j,t.g? j=some 0/\HappensBefore t i j
 known:∀i a,touchAt t i=some a->a.loc.isMemory=true->Knows t 0 i\/(jI Sh a.loc/\a.kind= .atomic)\/∃k,Wk k/\t.g? i=some k
 atom:∀i k a,Wk k->t.g? i=some k->touchAt t i=some a->a.loc.isMemory=true->a.kind≠.plain->Knows t 0 i\/∃b,blk a.loc=some b/\(Λ.qu b\/Sh b)
section
variable {Λ Λ':nI} {Sh live Wk:Nat->Prop} {B:Nat} {t u:Trace}
theorem Cu{l:Loc}(h:l.isMemory=true): ∃b,blk l=some b:=by
 cases l<;>first|exact⟨_,rfl⟩|cases h
theorem TP.app(hΛ:wh Λ)(h:TP Λ Sh live Wk B t)(hk:live k)(hw:k=0\/Wk k)(hu:∀op∈u,op.g=k)(hok:∀op∈u,∀a,op.act.touch? =some a->a.loc.isMemory=true/\mi Λ k a)(hl:∀op∈u,op.act.low B):TP Λ Sh live Wk B (t++u):=by
 refine⟨λsaid=>noRace_append (h.clean said) hu λi a ha op ag b hb hc=>?_,λk' hk' i a ha b hb hxx=>?_,λi op hi a ha b hb hq=>?_,seen_app h.low hl,λi g hg h0 hn hc=>?_,λi a ha hm=>?_,λi k' a hk' hg ha hmm hkd=>?_⟩
 ·
  obtain⟨cG,hT⟩:=hok op ag b hb;obtain⟨bb,hbb⟩:=Cu cG;have hab:blk a.loc=some bb:=by rw[hc.1];exact hbb
  rcases hT bb hbb with ⟨ho,_⟩|⟨hr,hwf,_⟩|⟨hq,hpl,hsd⟩
  ·exact h.kK k hk i a ha bb hab (.inl ho)
  ·exact h.kK k hk i a ha bb hab (.inr ⟨hr,(hc.2.2.1.resolve_right (by simp[hwf]))⟩)
  ·obtain⟨x,hx,hxa⟩:=touch_of ha;obtain⟨q1,q2⟩:=h.quiet i x hx a hxa bb hab hq;rcases hc.2.2.2 with y|y|⟨_,y,z⟩
   ·exact absurd y q1
   ·exact absurd y hpl
   ·have:=knows_own hx;rw[q2 y] at this;rw[hsd z];exact this
 ·obtain⟨x,hx,hxa⟩:=touch_of ha;rcases getElem?_append_cases hx with ⟨_,hx'⟩|⟨_,hxu⟩
  ·exact (h.kK k' hk' i a (by rw[touchAt_of hx'];exact hxa) b hb hxx).app u
  ·obtain⟨_,hT⟩:=hok x hxu a hxa;have hkk:k=k':=by
    rcases hT b hb with ⟨ho,_⟩|⟨hr,hwf,_⟩|⟨hq,_⟩<;>rcases hxx with hxx|⟨hxx,hw'⟩
    ·exact hΛ.own _ _ _ ho hxx
    ·exact absurd hxx (hΛ.ro _ _ ho)
    ·exact absurd hr (hΛ.ro _ _ hxx)
    ·rw[hwf] at hw';cases hw'
    ·exact absurd hq (hΛ.qu _ _ hxx)
    ·exact absurd hq (hΛ.D5 _ hxx)
   have:=knows_own hx;rw[hu x hxu,hkk] at this;exact this
 ·rcases getElem?_append_cases hi with ⟨_,hi'⟩|⟨_,hiu⟩
  ·exact h.quiet i op hi' a ha b hb hq
  ·obtain⟨_,hT⟩:=hok op hiu a ha;rcases hT b hb with ⟨ho,_⟩|⟨hr,_⟩|⟨_,h1,h2⟩
   ·exact absurd hq (hΛ.qu _ _ ho)
   ·exact absurd hq (hΛ.D5 _ hr)
   ·exact⟨h1,λe=>(hu op hiu).trans (h2 e)⟩
 ·obtain⟨x,hx,hm⟩:=hc;obtain⟨op,ag,hox⟩:=touch_of hx;rcases getElem?_append_cases ag with ⟨hi,hop'⟩|⟨_,hopu⟩
  ·obtain⟨j,hj,hb⟩:=h.over i g (by rw[←g?_old (u:=u) hi];exact hg) h0 hn ((counts_old hi).1 ⟨x,hx,hm⟩);have hjl:j< t.size:=by
    unfold Trace.g? at hj;obtain⟨z,hz,_⟩:=WH.1 hj;exact lt_size_of_getElem? hz
   exact⟨j,by rw[g?_old hjl];exact hj,hb_app u hb⟩
  ·have:g=k:=by
    have e:(t++u).g? i=some op.g:=by simp[Trace.g?,ag]
    rw[hg] at e;rw[VV e,hu op hopu]
   subst this;rcases hw with hw|hw
   ·exact absurd hw h0
   ·exact absurd hw hn
 ·obtain⟨x,hx,hxa⟩:=touch_of ha;rcases getElem?_append_cases hx with ⟨hi,hx'⟩|⟨_,hxu⟩
  ·refine (h.known i a (by rw[touchAt_of hx'];exact hxa) hm).imp (·.app u) (Or.imp id λ⟨k',h1,h2⟩=>⟨k',h1,by rw[g?_old hi];exact h2⟩)
  ·rcases hw with rfl|hw
   ·have:=knows_own hx;rw[hu x hxu] at this;exact .inl this
   ·exact .inr (.inr ⟨k,hw,by simp[Trace.g?,hx,hu x hxu]⟩)
 ·obtain⟨x,hx,hxa⟩:=touch_of ha;rcases getElem?_append_cases hx with ⟨hi,hx'⟩|⟨_,hxu⟩
  ·exact (h.atom i k' a hk' (by rw[←g?_old (u:=u) hi];exact hg) (by rw[touchAt_of hx'];exact hxa) hmm hkd).imp (·.app u) id
  ·obtain⟨cG,hT⟩:=hok x hxu a hxa;obtain⟨b,hb⟩:=Cu cG;rcases hT b hb with ⟨_,e⟩|⟨_,_,e⟩|⟨hq,_⟩
   ·exact absurd e hkd
   ·exact absurd e hkd
   ·exact .inr ⟨b,hb,.inl hq⟩
theorem TP.mute(h:TP Λ Sh live Wk B t)(hu:∀op∈u,op.g=k)(hn:∀op∈u,op.act.touch? =none)(hl:∀op∈u,op.act.low B):TP Λ Sh live Wk B (t++u):=by
 have old:∀{i:Nat} {a:Touch},touchAt (t++u) i=some a->i< t.size/\touchAt t i=some a:=by
  intro i a ha;obtain⟨z,hz,hza⟩:=touch_of ha;rcases getElem?_append_cases hz with ⟨hi,hz'⟩|⟨_,hzu⟩
  ·exact⟨hi,by rw[touchAt_of hz'];exact hza⟩
  ·rw[hn z hzu] at hza;cases hza
 refine⟨λsaid=>noRace_append (h.clean said) hu λi a ha op ag b hb hc=>(by rw[hn op ag] at hb;cases hb),λk' hk' i a ha b hb hx=>(h.kK k' hk' i a (old ha).2 b hb hx).app u,λi op hi a ha b hb hq=>?_,seen_app h.low hl,λi g hg h0 hnw hc=>?_,λi a ha hm=>?_,λi k' a hk' hg ha hmm hkd=>?_⟩
 ·rcases getElem?_append_cases hi with ⟨_,hi'⟩|⟨_,hiu⟩
  ·exact h.quiet i op hi' a ha b hb hq
  ·rw[hn op hiu] at ha;cases ha
 ·obtain⟨x,hx,hm⟩:=hc;obtain⟨hi,hx'⟩:=old hx;obtain⟨j,hj,hb⟩:=h.over i g (by rw[←g?_old (u:=u) hi];exact hg) h0 hnw ((counts_old hi).1 ⟨x,hx,hm⟩);have hjl:j< t.size:=by
   unfold Trace.g? at hj;obtain⟨z,hz,_⟩:=WH.1 hj;exact lt_size_of_getElem? hz
  exact⟨j,by rw[g?_old hjl];exact hj,hb_app u hb⟩
 ·obtain⟨hi,ha'⟩:=old ha;exact (h.known i a ha' hm).imp (·.app u) (Or.imp id λ⟨k',h1,h2⟩=>⟨k',h1,by rw[g?_old hi];exact h2⟩)
 ·obtain⟨hi,ha'⟩:=old ha;exact (h.atom i k' a hk' (by rw[←g?_old (u:=u) hi];exact hg) ha' hmm hkd).imp (·.app u) id
theorem tF{t:Trace}{B:Nat}(h:∀op∈t,op.act.low B){a:Touch}(ha:touchAt t i=some a)(hb:blk a.loc=some b):b< B:=by
 obtain⟨op,ag,hoa⟩:=touch_of ha;have hl:=h op (Array.mem_of_getElem? ag);cases hx:op.act with
 |access e=>
  rw[hx] at hoa hl;simp only[MemAct.touch?,Vv] at hoa;subst hoa;simp only[MemAct.low] at hl;simp only at hb;cases hloc:e.loc<;>rw[hloc] at hb hl<;>simp only[blk,Vv,reduceCtorEq] at hb
  ·subst hb;exact hl
  ·subst hb;exact hl
 |mark m=>
  rw[hx] at hoa hl;cases m<;>simp only[MemAct.touch?,Vv,reduceCtorEq] at hoa
  all_goals
   subst hoa;simp only[blk,Vv] at hb;subst hb;exact hl
 |_=>rw[hx] at hoa;cases hoa
theorem TP.grow(h:TP Λ Sh live Wk B t){B':Nat}(hB:B<=B')(ho:∀k b,Λ'.ow k b->Λ.ow k b\/B<=b)(hr:∀b,Λ'.ro b->Λ.ro b\/B<=b)(hq:∀b,Λ'.qu b->Λ.qu b\/B<=b)(hq':∀b,Λ.qu b->Λ'.qu b):TP Λ' Sh live Wk B' t:=by
 refine⟨h.clean,λk hk i a ha b hb hx=>?_,λi op hi a ha b hb hx=>?_,λop ag=>MemAct.low_mono hB (h.low op ag),h.over,h.known,λi k a hk hg ha hmm hkd=>(h.atom i k a hk hg ha hmm hkd).imp id λ⟨b,h1,h2⟩=>⟨b,h1,h2.imp (hq' b) id⟩⟩
 ·have hlow:=tF h.low ha hb;refine h.kK k hk i a ha b hb (hx.imp (λx=>(ho k b x).resolve_right (by omega)) λx=>⟨(hr b x.1).resolve_right (by omega),x.2⟩)
 ·have hlow:=tF h.low (by rw[touchAt_of hi];exact ha) hb;exact h.quiet i op hi a ha b hb ((hq b hx).resolve_right (by omega))
theorem TP.share(h:TP Λ Sh live Wk B t)(hlive:∀k,live k->k=0)(ho:∀k b,Λ'.ow k b->Λ.ow k b)(hr:∀b,Λ'.ro b->Λ.ro b\/Λ.ow 0 b)(hq:∀b,Λ'.qu b↔Λ.qu b):TP Λ' Sh live Wk B t:=by
 refine⟨h.clean,λk hk i a ha b hb hx=>?_,λi op hi a ha b hb hx=>h.quiet i op hi a ha b hb ((hq b).1 hx),h.low,h.over,h.known,λi k a hk hg ha hmm hkd=>(h.atom i k a hk hg ha hmm hkd).imp id λ⟨b,h1,h2⟩=>⟨b,h1,h2.imp (hq b).2 id⟩⟩;obtain rfl:=hlive k hk;rcases hx with hx|⟨hx,hw⟩
 ·exact h.kK 0 hk i a ha b hb (.inl (ho 0 b hx))
 ·rcases hr b hx with hx|hx
  ·exact h.kK 0 hk i a ha b hb (.inr ⟨hx,hw⟩)
  ·exact h.kK 0 hk i a ha b hb (.inl hx)
theorem TP.fork(h:TP Λ Sh live Wk B t)(hl0:live 0)(hk0:k≠0)(hnk: ¬ Wk k)(hno:∀b,¬ Λ.ow k b){x y:MemOp}(hx:x.g=0/\x.act= .go k)(hy:y.g=k/\y.act= .start)(h0:Deaf t 0=0)(hk:Deaf t k=0):
  TP Λ Sh (λj=>live j\/j=k) (λj=>Wk j\/j=k) B (t++#[x,y]):=by
 have hnt:∀op∈#[x,y],op.act.touch? =none:=by
  intro op ag;simp only[Xd,Xm,List.not_mem_nil,or_false] at ag;rcases ag with rfl|rfl
  ·rw[hx.2];rfl
  ·rw[hy.2];rfl
 have hlow:∀op∈#[x,y],op.act.low B:=by
  intro op ag;simp only[Xd,Xm,List.not_mem_nil,or_false] at ag;rcases ag with rfl|rfl
  ·rw[hx.2];trivial
  ·rw[hy.2];trivial
 have old:∀{i:Nat} {a:Touch},touchAt (t++#[x,y]) i=some a->i< t.size/\touchAt t i=some a:=by
  intro i a ha;obtain⟨z,hz,hza⟩:=touch_of ha;rcases getElem?_append_cases hz with ⟨hi,hz'⟩|⟨_,hzu⟩
  ·exact⟨hi,by rw[touchAt_of hz'];exact hza⟩
  ·rw[hnt z hzu] at hza;cases hza
 refine⟨λsaid=>?_,λk' hk' i a ha b hb hxx=>?_,λi op hi a ha b hb hq=>?_,seen_app h.low hlow,λi g hg hg0 hn hc=>?_,λi a ha hm=>?_,λi k' a hk' hg ha hmm hkd=>?_⟩
 ·have e:t++#[x,y]=(t++#[x])++#[y]:=by apply Array.ext';simp
  rw[e];refine noRace_append (g:=k) (noRace_append (g:=0) (h.clean said) (λop ag=>by simp at ag;rw[ag];exact hx.1) (λi a _ op ag b hb _=>?_)) (λop ag=>by simp at ag;rw[ag];exact hy.1) (λi a _ op ag b hb _=>?_)
  ·rw[hnt op (by simp at ag ⊢;exact .inl ag)] at hb;cases hb
  ·rw[hnt op (by simp at ag ⊢;exact .inr ag)] at hb;cases hb
 ·obtain⟨hi,ha'⟩:=old ha;by_cases hkk:k'=k
  ·subst hkk;rcases hxx with hxx|hxx
   ·exact absurd hxx (hno b)
   ·exact fork_knows hx hy h0 hk (h.kK 0 hl0 i a ha' b hb (.inr hxx))
  ·exact (h.kK k' (hk'.resolve_right hkk) i a ha' b hb hxx).app _
 ·rcases getElem?_append_cases hi with ⟨_,hi'⟩|⟨_,hiu⟩
  ·exact h.quiet i op hi' a ha b hb hq
  ·rw[hnt op hiu] at ha;cases ha
 ·obtain⟨z,hz,hm⟩:=hc;obtain⟨hi,hz'⟩:=old hz;obtain⟨j,hj,hb⟩:=h.over i g (by rw[←g?_old (u:=#[x,y]) hi];exact hg) hg0 (λhw=>hn (.inl hw)) ((counts_old hi).1 ⟨z,hz,hm⟩);have hjl:j< t.size:=by
   unfold Trace.g? at hj;obtain⟨z,hz,_⟩:=WH.1 hj;exact lt_size_of_getElem? hz
  exact⟨j,by rw[g?_old hjl];exact hj,hb_app _ hb⟩
 ·obtain⟨hi,ha'⟩:=old ha;exact (h.known i a ha' hm).imp (·.app _) (Or.imp id λ⟨k',h1,h2⟩=>⟨k',.inl h1,by rw[g?_old hi];exact h2⟩)
 ·obtain⟨hi,ha'⟩:=old ha;have hg':t.g? i=some k':=by rw[←g?_old (u:=#[x,y]) hi];exact hg
  rcases hk' with hk'|rfl
  ·exact (h.atom i k' a hk' hg' ha' hmm hkd).imp (·.app _) id
  ·rcases h.known i a ha' hmm with hx|⟨hs,_⟩|⟨k'',h1,h2⟩
   ·exact .inl (hx.app _)
   ·refine .inr ?_;cases hl:a.loc with
    |cell c=>rw[hl] at hs;exact⟨_,rfl,.inr hs⟩
    |obj c=>rw[hl] at hs;exact⟨_,rfl,.inr hs⟩
    |_=>rw[hl] at hmm;cases hmm
   ·rw[hg'] at h2;cases h2;exact absurd h1 hnk
theorem TP.begin{Sh:Nat->Prop}{B:Nat}{t:Trace}(h:Past (jI Sh) B t)(hro:∀b,Λ.ro b->¬ Sh b)(ho:∀k b,Λ.ow k b->B<=b)(hq:∀b,Λ.qu b->B<=b):TP Λ Sh (λk=>k=0) (λ_=>False) B t:=by
 refine⟨h.clean,λk hk i a ha b hb hx=>?_,λi op hi a ha b hb hx=>?_,h.seen,λi g hg h0 _ hc=>h.over i g hg h0 hc,λi a ha hm=>(h.known i a ha hm).imp id .inl,λi k a hk=>hk.elim⟩
 ·subst hk;have hlow:=tF h.seen ha hb;rcases hx with hx|⟨hx,_⟩
  ·exact absurd (ho 0 b hx) (by omega)
  ·have hm:a.loc.isMemory=true:=by cases hl:a.loc<;>rw[hl] at hb<;>first|rfl|cases hb
   rcases h.known i a ha hm with hk|⟨hs,_⟩
   ·exact hk
   ·exfalso;refine hro b hx ?_;cases hl:a.loc<;>rw[hl] at hb hs<;>simp only[blk,Vv,reduceCtorEq] at hb
    ·subst hb;exact hs
    ·subst hb;exact hs
 ·have hlow:=tF h.seen (by rw[touchAt_of hi];exact ha) hb;exact absurd (hq b hx) (by omega)
theorem TP.mQ(h:TP Λ Sh live Wk B t){ad:Addr}{q:Nat}(all:∀k,Wk k->∃r,RelBy ad t k r/\r< q)(hn:NoRelease ad t)(hq:t.act? q=some (.mark (.acquire ad)))(hg:t.g? q=some 0)(hh:t.heard q)(hd:Deaf t 0=0):
  Past (jI λb=>Sh b\/Λ.qu b) B t:=by
 have hand:∀i k,Wk k->t.g? i=some k->t.counts i->HappensBefore t i q:=by
  intro i k hk hgi hc;obtain⟨r,hr,hrq⟩:=all k hk;have edge:HappensBefore t r q:= .single (.inr ⟨.marked hrq (.inr hr.act) hq (λk _ _=>hn k),hr.heard,hh⟩);have hle:i<=r:=Nat.le_of_not_lt λhlt=>hr.after i hlt hgi hc;rcases VS i r with hlt|hge
  ·exact .trans (.single (.inl ⟨hlt,k,hgi,hr.g⟩)) edge
  ·obtain rfl:i=r:=by omega
   exact edge
 refine⟨h.clean,λi a ha hm=>?_,λi g hgi hne hc=>?_,hd,h.low⟩
 ·have shun:∀{l:Loc},jI Sh l->jI (λb=>Sh b\/Λ.qu b) l:=λ{l} hl=>by cases l<;>first|exact .inl hl|exact hl
  rcases h.known i a ha hm with hk|⟨hs,hk⟩|⟨k,hk,hgi⟩
  ·exact .inl hk
  ·exact .inr ⟨shun hs,hk⟩
  ·by_cases hc:t.counts i
   ·have:=hand i k hk hgi hc;refine .inl ?_;unfold Trace.g? at hg;obtain⟨z,hz,hzg⟩:=WH.1 hg;exact⟨q,z,hz,hzg,.inr this⟩
   ·have hkd:a.kind= .atomic:=by
     refine V0 λhx=>hc ⟨a,ha,hm,.inl hx⟩
    rcases h.atom i k a hk hgi ha hm (by rw[hkd];simp) with hx|⟨b,hb,hqu⟩
    ·exact .inl hx
    refine .inr ⟨?_,hkd⟩;cases hl:a.loc<;>rw[hl] at hb<;>simp only[blk,Vv,reduceCtorEq] at hb
    ·subst hb;exact hqu.symm
    ·subst hb;exact hqu.symm
 ·by_cases hk:Wk g
  ·exact⟨q,hg,hand i g hk hgi hc⟩
  ·exact h.over i g hgi hne hk hc
end
end
section
open Go.Conc
def nx(P:Program)(m:Bool)(g:Goroutine):Goroutine:=match stepG P m g default with| .go g' _ _=>g'|_=>g
def aE(P:Program)(m:Bool):Nat->Goroutine->Goroutine
 |0,g=>g
 |n+1,g=>aE P m n (nx P m g)
def tl(P:Program)(m:Bool)(g:Goroutine):Array Event:=match stepG P m g default with| .go _ _ es=>es|_=>#[]
def l9(P:Program)(m:Bool)(w:World):Nat->Goroutine->List (GoStatus×GStep)
 |0,_=>[]
 |n+1,g=>(g.status,stepG P m g w)::l9 P m w n (nx P m g)
def rI(P:Program)(m:Bool)(w:World):Nat->Goroutine->List (GoStatus×GStep)
 |0,_=>[]
 |n+1,g=>(.running,.go (nx P m g) w #[])::rI P m w n (nx P m g)
def aY(P:Program)(m:Bool)(n:Nat)(g:Goroutine):Prop:=∀w,l9 P m w n g=rI P m w n g
section
variable {P:Program} {m:Bool}
theorem aY.step{n:Nat}{g:Goroutine}(h:aY P m (n+1) g):g.status= .running/\(∀w,stepG P m g w= .go (nx P m g) w #[])/\aY P m n (nx P m g):=by
 refine⟨?_,λw=>?_,λw=>?_⟩
 ·have:=h default;simp only[l9,rI,WE,VK] at this;exact this.1.1
 ·have:=h w;simp only[l9,rI,WE,VK] at this;exact this.1.2
 ·have:=h w;simp only[l9,rI,WE,VK] at this;exact this.2
end
inductive aF (P:Program) (m:Bool):Nat->Goroutine->Goroutine->Prop
 |refl (g:Goroutine):aF P m 0 g g
 |step {n:Nat} {g g1 g2:Goroutine}:g.status= .running->(∀w,stepG P m g w= .go g1 w #[])->aF P m n g1 g2->aF P m (n+1) g g2
theorem aY.aO{P:Program}{m:Bool}:∀{n:Nat} {g:Goroutine},aY P m n g->aF P m n g (aE P m n g)
 |0,g,_=> .refl g
 |_+1,_,h=> .step h.step.1 h.step.2.1 h.step.2.2.aO
theorem aF.trans{P:Program}{m:Bool}{a:Nat}{g g2:Goroutine}(h:aF P m a g g1)(k:aF P m b g1 g2):aF P m (a+b) g g2:=by
 induction h with
 |refl g=>simpa using k
 |@step n g g1 g2 h1 h2 _ ih=>rw[show n+1+b=(n+b)+1 by omega];exact .step h1 h2 (ih k)
theorem aF.one{P:Program}{m:Bool}{g:Goroutine}(h:g.status= .running)(hs:∀w,stepG P m g w= .go g1 w #[]):aF P m 1 g g1:= .step h hs (.refl _)
def oD(id:Nat):Code->List Item->Option (List Item)
 | .seq a b,k=>(oD id a (.code b::k)).or (oD id b k)
 | .cond _ a b,k=>(oD id a k).or (oD id b k)
 | .block i c,k=>oD id c (.inBlock i::k)
 | .loop c,k=>oD id c (.inLoop c::k)
 | .region j ops _,k=>if j=id then some (.inRegion ops (List.range ops.size)::k) else none
 |_,_=>none
def Us(n:Nat):List Item->List Item
 | .inRegion ops l::k=> .inRegion ops (l.drop n)::k
 |k=>k
def Az(P:Program)(f:FuncId)(id n:Nat):List Item:=Us n ((((P.funcs[f]?).bind (·.body)).bind λc=>oD id c []).getD [])
def Ba(P:Program)(f:FuncId)(id n:Nat)(ts:Array Value)(cs:List Frame):Goroutine:=
 {frame:={fn:=f,tmps:=ts,todo:=Az P f id n,defers:=[],mode:= .run,kind:= .normal},callers:=cs,status:= .running,dying:=none}
def qA(P:Program)(w:World):Nat->Goroutine->List (GoStatus×GStep)
 |0,_=>[]
 |n+1,g=>(.running,.go (nx P false g) w (tl P false g))::qA P w n (nx P false g)
def vS(P:Program):Nat->Goroutine->Bool
 |0,_=>true
 |n+1,g=>(tl P false g).all Event.mute && vS P n (nx P false g)
def EC(P:Program):Nat->Nat->Goroutine->Nat
 |0,d,_=>d
 |n+1,d,g=>EC P n (deafBehind d (tl P false g)) (nx P false g)
theorem Ds{P:Program}:∀(n d:Nat) (g:Goroutine),(∀w,l9 P false w n g=qA P w n g)->vS P n g=true->EC P n d g=0->(aE P false n g).status= .finished->QuitsD P n d g
 |0,d,g,_,_,hd,hf=>⟨hf,hd⟩
 |n+1,d,g,hs,hm,hd,hf=>by
  simp only[vS,IN] at hm;refine .inr ⟨?_,nx P false g,tl P false g,λe he=>Array.all_eq_true'.1 hm.1 e he,λw=>?_,?_⟩
  ·have:=hs default;simp only[l9,qA,WE,VK] at this;exact this.1.1
  ·have:=hs w;simp only[l9,qA,WE,VK] at this;exact this.1.2
  ·refine Ds n _ _ (λw=>?_) hm.2 hd hf
   have:=hs w;simp only[l9,qA,WE,VK] at this;exact this.2
theorem QuitsD.aO{P:Program}{n q:Nat}{g:Goroutine}(h:aF P false n g g1)(k:QuitsD P q d g1):QuitsD P (n+q) d g:=by
 induction h with
 |refl g=>simpa using k
 |@step n g g1 g2 h1 h2 _ ih=>
  rw[show n+1+q=(n+q)+1 by omega];exact .inr ⟨h1,g1,#[],by simp,h2,ih k⟩
theorem QuitsD.marked{P:Program}{q:Nat}{g:Goroutine}(h:g.status= .running)(hs:∀w,stepG P false g w= .go g1 w es)(hm:∀e∈es,Event.mute e=true)(k:QuitsD P q (deafBehind d es) g1):QuitsD P (q+1) d g:=
 .inr ⟨h,g1,es,hm,hs,k⟩
inductive kl where
 |val (v:Value)|shp (x:Option (TypeId×Nat))|fz (b:Bool)|ref (r:Nat)|obj (o:Obj)
inductive lP where
 |ld (m:Mode) (a:Addr)|st (m:Mode) (a:Addr) (v:Value)|shp (r:Nat)|fz (a:Addr)|nw (o:Obj)|gt (r:Nat)|pt (r:Nat) (o:Obj)|mk (m:Mark)
def feed(P:Program):Sem α->List kl->Option (List lP×(α ⊕ Halt))
 | .pure a,[]=>some ([],.inl a)
 | .halt h,[]=>some ([],.inr h)
 | .load m a k,.val v::Vu=>(feed P (k v) Vu).map λx=>(.ld m a::x.1,x.2)
 | .store m a v k,Vu=>(feed P k Vu).map λx=>(.st m a v::x.1,x.2)
 | .new o k,.ref r::Vu=>(feed P (k r) Vu).map λx=>(.nw o::x.1,x.2)
 | .shape r k,.shp y::Vu=>(feed P (k y) Vu).map λx=>(.shp r::x.1,x.2)
 | .frozen a k,.fz b::Vu=>(feed P (k b) Vu).map λx=>(.fz a::x.1,x.2)
 | .getObj r k,.obj o::Vu=>(feed P (k o) Vu).map λx=>(.gt r::x.1,x.2)
 | .setObj r o k,Vu=>(feed P k Vu).map λx=>(.pt r o::x.1,x.2)
 | .mark m k,Vu=>(feed P k Vu).map λx=>(.mk m::x.1,x.2)
 | .program k,Vu=>feed P (k P) Vu
 |_,_=>none
def Eg:Obj->Bool
 | .cells .. =>true
 |_=>false
def gu:List lP->List kl->World->Array Event->World->Array Event->Prop
 |[],[],w,es,w',es'=>w'=w/\es'=es
 | .ld m a::ds,.val v::Vu,w,es,w',es'=>w.cell? a=some v/\gu ds Vu w (es.push ⟨.cell a,false,m== .atomic⟩) w' es'
 | .st m a v::ds,Vu,w,es,w',es'=>(∀c,v≠.agg c)/\(∀c,v≠.tuple c)/\(∃x,w.cell? a=some x)/\w.frozen? a=false/\gu ds Vu (w.setCell a v) (es.push ⟨.cell a,true,m== .atomic⟩) w' es'
 | .nw o::ds,.ref r::Vu,w,es,w',es'=>r=w.heap.size/\gu ds Vu {w with heap:=w.heap.push o} es w' es'
 | .shp r::ds,.shp x::Vu,w,es,w',es'=>w.shape? r=x/\gu ds Vu w es w' es'
 | .fz a::ds,.fz b::Vu,w,es,w',es'=>w.frozen? a=b/\gu ds Vu w es w' es'
 | .gt r::ds,.obj o::Vu,w,es,w',es'=>w.heap[r]? =some o/\Eg o=false/\gu ds Vu w (es.push ⟨.obj r,false,o.isChan⟩) w' es'
 | .pt r o::ds,Vu,w,es,w',es'=>(∃q,w.heap[r]? =some q/\Eg q=false)/\gu ds Vu {w with heap:=w.heap.setIfInBounds r o} (es.push ⟨.obj r,true,o.isChan⟩) w' es'
 | .mk m::ds,Vu,w,es,w',es'=>gu ds Vu w (es.push ⟨.mark m,false,true⟩) w' es'
 |_,_,_,_,_,_=>False
theorem tk{P:Program}:∀(p:Sem α) (Vu:List kl) (ds:List lP) (r:α ⊕ Halt) (w w':World) (es es':Array Event),feed P p Vu=some (ds,r)->gu ds Vu w es w' es'->
  p.runT P w es=((match r with| .inl a=> .ok a w'| .inr h=> .halt h w'),es'):=by
 intro p;induction p with
 |pure a=>
  intro Vu ds r w w' es es' hf hm;cases Vu with
  |nil=>simp only[feed,Vv,VK] at hf;obtain⟨rfl,rfl⟩:=hf;obtain⟨rfl,rfl⟩:=hm;rfl
  |cons=>cases hf
 |halt h=>
  intro Vu ds r w w' es es' hf hm;cases Vu with
  |nil=>simp only[feed,Vv,VK] at hf;obtain⟨rfl,rfl⟩:=hf;obtain⟨rfl,rfl⟩:=hm;rfl
  |cons=>cases hf
 |load m a k ih=>
  intro Vu ds r w w' es es' hf hm;match Vu,hf with
  | .val v::Vu,hf=>
   simp only[feed,WH,VK] at hf;obtain⟨⟨d1,r1⟩,h1,rfl,rfl⟩:=hf;obtain⟨hc,hm⟩:=hm;rw[Sem.runT,hc];exact ih v _ _ _ _ _ _ _ h1 hm
 |store m a v k ih=>
  intro Vu ds r w w' es es' hf hm;simp only[feed,WH,VK] at hf;obtain⟨⟨d1,r1⟩,h1,rfl,rfl⟩:=hf;simp only[gu] at hm;obtain⟨n1,n2,⟨x,hc⟩,hfz,hm⟩:=hm;rw[Sem.runT.eq_5 _ _ _ _ _ _ _ n1 n2,hc];simp only[hfz,Vz,Vy];exact ih _ _ _ _ _ _ _ h1 hm
 |new o k ih=>
  intro Vu ds r w w' es es' hf hm;match Vu,hf with
  | .ref rr::Vu,hf=>
   simp only[feed,WH,VK] at hf;obtain⟨⟨d1,r1⟩,h1,rfl,rfl⟩:=hf;obtain⟨rfl,hm⟩:=hm;rw[Sem.runT];exact ih _ _ _ _ _ _ _ _ h1 hm
 |shape rr k ih=>
  intro Vu ds r w w' es es' hf hm;match Vu,hf with
  | .shp y::Vu,hf=>
   simp only[feed,WH,VK] at hf;obtain⟨⟨d1,r1⟩,h1,rfl,rfl⟩:=hf;obtain⟨rfl,hm⟩:=hm;rw[Sem.runT];exact ih _ _ _ _ _ _ _ _ h1 hm
 |freeze a n k ih=>intro Vu ds r w w' es es' hf;cases hf
 |frozen a k ih=>
  intro Vu ds r w w' es es' hf hm;match Vu,hf with
  | .fz b::Vu,hf=>
   simp only[feed,WH,VK] at hf;obtain⟨⟨d1,r1⟩,h1,rfl,rfl⟩:=hf;obtain⟨rfl,hm⟩:=hm;rw[Sem.runT];exact ih _ _ _ _ _ _ _ _ h1 hm
 |getObj rr k ih=>
  intro Vu ds r w w' es es' hf hm;match Vu,hf with
  | .obj o::Vu,hf=>
   simp only[feed,WH,VK] at hf;obtain⟨⟨d1,r1⟩,h1,rfl,rfl⟩:=hf;obtain⟨hc,hi,hm⟩:=hm;rw[Sem.runT,hc];cases o with
   |cells=>cases hi
   |_=>exact ih _ _ _ _ _ _ _ _ h1 hm
 |setObj rr o k ih=>
  intro Vu ds r w w' es es' hf hm;simp only[feed,WH,VK] at hf;obtain⟨⟨d1,r1⟩,h1,rfl,rfl⟩:=hf;simp only[gu] at hm;obtain⟨⟨q,hc,hi⟩,hm⟩:=hm;rw[Sem.runT,hc];cases q with
  |cells=>cases hi
  |_=>exact ih _ _ _ _ _ _ _ h1 hm
 |choose q k ih=>intro Vu ds r w w' es es' hf;cases hf
 |sys c k ih=>intro Vu ds r w w' es es' hf;cases hf
 |program k ih=>
  intro Vu ds r w w' es es' hf hm;rw[Sem.runT];exact ih P _ _ _ _ _ _ _ hf hm
 |mark m k ih=>
  intro Vu ds r w w' es es' hf hm;simp only[feed,WH,VK] at hf;obtain⟨⟨d1,r1⟩,h1,rfl,rfl⟩:=hf;simp only[gu] at hm;rw[Sem.runT];exact ih _ _ _ _ _ _ _ h1 hm
def aV(g:Goroutine):Sem Next:=execOp g.frame.eval ((g.frame.oper?).getD default)
def aH(P:Program)(m:Bool)(g:Goroutine):Prop:=(∀w,stepG P m g w=stepG.apply P true g.frame g.callers none (aV g) w)/\g.status= .running/\(g.frame.kind== .early)=false
def fy(g:Goroutine)(fr:Frame):Goroutine:={frame:=fr,callers:=g.callers,status:= .running,dying:=none}
section
variable {P:Program} {m:Bool} {g:Goroutine}
theorem aH.value(h:aH P m g){rs:List kl}{ds:List lP}{v:Value}(hf:feed P (aV g) rs=some (ds,.inl (.value v))){w w':World}{es:Array Event}(hm:gu ds rs w #[] w' es):
  stepG P m g w= .go (fy g (g.frame.finish v)) w' (seen P g.frame.fn es):=by
 have hr:=tk _ _ _ _ _ _ _ _ hf hm;rw[h.1 w];simp only[stepG.apply,hr,h.2.2,Vz,Vy,IS,GStep.after,fy,VZ]
theorem aH.skip(h:aH P m g){Vu:List kl}{ds:List lP}(hf:feed P (aV g) Vu=some (ds,.inl .skip))(hm:gu ds Vu w #[] w' es):
  stepG P m g w= .go (fy g (g.frame.finish undef)) w' (seen P g.frame.fn es):=by
 have hr:=tk _ _ _ _ _ _ _ _ hf hm;rw[h.1 w];simp only[stepG.apply,hr,h.2.2,Vz,Vy,IS,GStep.after,fy,VZ]
theorem aH.comm(h:aH P m g){Vu:List kl}{ds:List lP}{cases:Array CommCase}{b:Bool}{sh:CommShape}(hf:feed P (aV g) Vu=some (ds,.inl (.comm cases b sh)))(hm:gu ds Vu w #[] w' es):
  stepG P m g w= .comm (fy g g.frame) cases b sh w' (seen P g.frame.fn es):=by
 have hr:=tk _ _ _ _ _ _ _ _ hf hm;rw[h.1 w];simp only[stepG.apply,hr,h.2.2,Vz,Vy,IS,GStep.after,fy,VZ]
theorem aH.blocked(h:aH P m g){Vu:List kl}{ds:List lP}(hf:feed P (aV g) Vu=some (ds,.inr .blocked))(hm:gu ds Vu w #[] w' es):
  stepG P m g w= .go {frame:=g.frame,callers:=g.callers,status:= .blocked,dying:=none} w' (seen P g.frame.fn #[]):=by
 have hr:=tk _ _ _ _ _ _ _ _ hf hm;rw[h.1 w];simp only[stepG.apply,hr,IS,GStep.after,VZ];split<;>rfl
end
end
section
open Go.Conc
inductive dG (Q:Program) (Goal:Frame->List Frame->World->Prop):Frame->List Frame->World->Frame->List Frame->World->Prop
 |refl (fr:Frame) (cs:List Frame) (w:World):dG Q Goal fr cs w fr cs w
 |step {fr:Frame} {cs:List Frame} {w:World} {fr1:Frame} {cs1:List Frame} {w1:World} {fr2:Frame} {cs2:List Frame} {w2:World} (t:Nat->Question->Nat) (es:Array Event):
   ¬ Goal fr cs w->stepG Q true (lg fr cs) {w with tape:=t}= .go (lg fr1 cs1) w1 es->dG Q Goal fr1 cs1 w1 fr2 cs2 w2->dG Q Goal fr cs w fr2 cs2 w2
section
variable {Q:Program} {Goal:Frame->List Frame->World->Prop}
theorem dG.trans{fr cs w fr1 cs1 w1 fr2 cs2 w2}(h:dG Q Goal fr cs w fr1 cs1 w1)(k:dG Q Goal fr1 cs1 w1 fr2 cs2 w2):dG Q Goal fr cs w fr2 cs2 w2:=by
 induction h with
 |refl=>exact k
 |step t es hn e _ ih=>exact .step t es hn e (ih k)
theorem Safe.next{fr cs w}(h:Safe Q Goal fr cs w)(hn: ¬ Goal fr cs w)(t:Nat->Question->Nat){fr1 cs1 w1 es}(e:stepG Q true (lg fr cs) {w with tape:=t}= .go (lg fr1 cs1) w1 es):Safe Q Goal fr1 cs1 w1:=by
 cases h with
 |goal hg=>exact absurd hg hn
 |step f c u es' _ _ hst _ dE=>
  rw[hst t] at e;simp only[lg,GStep.go.injEq,Goroutine.mk.injEq,Wp,List.append_cancel_right_eq] at e;obtain⟨⟨rfl,rfl⟩,rfl,_⟩:=e;exact dE t
theorem Safe.goes{fr cs w}(h:Safe Q Goal fr cs w)(hn: ¬ Goal fr cs w)(t:Nat->Question->Nat): ∃fr1 cs1 w1 es,stepG Q true (lg fr cs) {w with tape:=t}= .go (lg fr1 cs1) w1 es/\hZ (lg fr1 cs1)/\Safe Q Goal fr1 cs1 w1:=by
 cases h with
 |goal hg=>exact absurd hg hn
 |step f c u es' _ _ hst hfi dE=>exact⟨f t,c t,u t,es' t,hst t,⟨(hfi t).status,(hfi t).dying,(hfi t).mode,(hfi t).kind⟩,dE t⟩
theorem Safe.run{fr cs w fr1 cs1 w1}(h:Safe Q Goal fr cs w)(k:dG Q Goal fr cs w fr1 cs1 w1):Safe Q Goal fr1 cs1 w1:=by
 induction k with
 |refl=>exact h
 |step t es hn e _ ih=>exact ih (Safe.next h hn t e)
theorem Safe.Ef(hX:∀fr cs w,Safe Q Goal fr cs w->(∀t fr1 cs1 w1 es,¬ Goal fr cs w->stepG Q true (lg fr cs) {w with tape:=t}= .go (lg fr1 cs1) w1 es->X fr1 cs1 w1)->X fr cs w){fr cs w}(h:Safe Q Goal fr cs w):X fr cs w:=by
 induction h with
 |goal hg=>exact hX _ _ _ (.goal hg) λ_ _ _ _ _ hn=>absurd hg hn
 |step f c u es' hng hnl hst hfi dE ih=>
  refine hX _ _ _ (.step f c u es' hng hnl hst hfi dE) λt fr1 cs1 w1 es _ e=>?_;rw[hst t] at e;simp only[lg,GStep.go.injEq,Goroutine.mk.injEq,Wp,List.append_cancel_right_eq] at e;obtain⟨⟨rfl,rfl⟩,rfl,_⟩:=e;exact ih t
end
section
variable {P:Program} {G:Array Func} {L:ax} {T:aN} {Goal:Frame->List Frame->World->Prop}
theorem A7(S:Stat P G L T){τ:ai}{D:List Frame}{fr frQ:Frame}{cs:List Frame}(hS:iq P G L T τ (frQ::cs++ [wall]) D (lg fr (frQ::cs)) w h v)(hn:fr.fn≠T.bJ)(hm:fr.mode= .returning)(hd:fr.defers= [])(t:Nat->Question->Nat){fr1:Frame}{cs1:List Frame}{w1:World}(e:stepG (gp P G) true (lg fr (frQ::cs)) {w with tape:=t}= .go (lg fr1 cs1) w1 es):
  ∃x fn,P.funcs[fr.fn]? =some fn/\(results fn fr.tmps).run (gp P G) {w with tape:=t}= .ok x {w with tape:=t}/\fr1=frQ.finish x/\cs1=cs/\w1= {w with tape:=t}:=by
 have hF:=hS.g.frame.runs hn;have hk:fr.kind= .normal:=hF.kind.1;obtain⟨fn,c,b1,b2,_,_,_⟩:=S.bX.body fr.fn hF.bX hF.np;have e1:stepG (gp P G) true (lg fr (frQ::cs)) {w with tape:=t}=unwind (gp P G) true fr (frQ::cs++ [wall]) none {w with tape:=t}:=by simp only[stepG,hm]
 rw[e1,o7 (P:=gp P G) hd hm b2] at e;cases hr:(results fn fr.tmps).runT (gp P G) {w with tape:=t} #[] with
 |mk r es0=>
  rw[hr] at e;cases r with
  |halt hh w'=>cases hh<;>cases e
  |ok x w'=>
   have hw:w'= {w with tape:=t}:=Reads.results fn fr.tmps _ _ _ _ _ hr;subst hw;simp only[nL,Ws,doReturn,hk,GStep.after,GStep.go.injEq,lg,Goroutine.mk.injEq,Wp,List.append_cancel_right_eq] at e;obtain⟨⟨e2,e3⟩,e4,_⟩:=e;refine⟨x,fn,b1,?_,e2.symm,e3.symm,e4.symm⟩
   have:=Sem.runT_eq (gp P G) (results fn fr.tmps) {w with tape:=t} #[];rw[hr] at this;simp only[VK] at this;exact this.1.symm
theorem BR(S:Stat P G L T)(hpool: ¬ L.fn T.bJ)(hgoal:∀fr cs w,Goal fr cs w->cs= []){frQ:Frame}{cs:List Frame}{D:List Frame}{B0:Nat}{w0:World}{fr:Frame}{cs':List Frame}(hsafe:Safe (gp P G) Goal fr cs' w):
  ∀(sub:List Frame) (τ:ai) (h:Goroutine) (v:World),cs'=sub++frQ::cs->iq P G L T τ (frQ::cs++ [wall]) D (lg fr cs') w h v->(∀r s,τ.mine r s->B0<=r)->B0<=w.heap.size->(∀r,r< B0->w.heap[r]? =w0.heap[r]?)->
   ∃x w',dG (gp P G) Goal fr cs' w (frQ.finish x) cs w'/\B0<=w'.heap.size/\∀r,r< B0->w'.heap[r]? =w0.heap[r]? :=by
 refine Safe.Ef (Q:=gp P G) (Goal:=Goal) (X:=λfr cs' w=>∀(sub:List Frame) (τ:ai) (h:Goroutine) (v:World),cs'=sub++frQ::cs->iq P G L T τ (frQ::cs++ [wall]) D (lg fr cs') w h v->(∀r s,τ.mine r s->B0<=r)->B0<=w.heap.size->(∀r,r< B0->w.heap[r]? =w0.heap[r]?)->
   ∃x w',dG (gp P G) Goal fr cs' w (frQ.finish x) cs w'/\B0<=w'.heap.size/\∀r,r< B0->w'.heap[r]? =w0.heap[r]?) ?_ hsafe
 intro fr cs' w hsafe ih sub τ h v hcs hS hmine hsz hold;have hng: ¬ Goal fr cs' w:=λhg=>by have:=hgoal _ _ _ hg;rw[hcs] at this;simp at this
 have hn:fr.fn≠T.bJ:=λe=>by
  have key:∀a b,iy P G L T τ a b->a.fn=T.bJ->False:=by
   intro a b hx e;cases hx with
   |run hx=>exact hx.np e
   |bJ hp _ _=>exact hpool hp
  exact key _ _ hS.g.frame e
 obtain⟨fr1,cs1,w1,es,e,hfi,hsafe1⟩:=Safe.goes hsafe hng (mK w v);by_cases hl:fr.mode= .returning/\fr.defers= []/\cs'=frQ::cs
 ·obtain⟨hm,hd,rfl⟩:=hl;obtain⟨x,fn,_,_,rfl,rfl,rfl⟩:=A7 S hS hn hm hd _ e;exact⟨x,_,.step _ _ hng e (.refl _ _ _),hsz,hold⟩
 ·obtain⟨h1,v1,fs,τ1,_,hS1,_,hgr⟩:=hS.step S true hn (λx=>hl ⟨x.1,x.2.1,WU ((show cs'++ [wall]=frQ::cs++ [wall] from x.2.2).trans (by simp))⟩) e hfi;obtain⟨cs2,ds2,hg2,_,_,_⟩:=hS1.g.parts;have hcs1:cs1=cs2++frQ::cs:=by
   have:=congrArg Goroutine.callers hg2;have e2:cs1++ [wall]=(cs2++frQ::cs)++ [wall]:=(show cs1++ [wall]=cs2++(frQ::cs++ [wall]) from this).trans (by simp);exact WU e2
  have m1:∀r s,τ1.mine r s->B0<=r:=λr s hx=>by
   rcases hgr.mine r s hx with hx|hx
   ·exact hmine r s hx
   ·omega
  have m2:∀r,r< B0->w1.heap[r]? =w0.heap[r]? :=λr hr=>by
   rw[hgr.nc r (by omega) (λs hx=>by have:=hmine r s hx;omega),hold r hr]
  obtain⟨x,w',r1,r2,r3⟩:=ih _ fr1 cs1 w1 es hng e cs2 τ1 h1 v1 hcs1 hS1 m1 (OF hsz hgr.grow) m2;exact⟨x,w',.step _ _ hng e r1,r2,r3⟩
end
end
section
open Go.Conc
open Go.ConcN (upd)
set_option maxRecDepth 100000
def qOp(d:Option Tmp)(o:Op)(ty:TypeId):Oper:={dst:=d,op:=o,type:=ty,pos:= "",after:=#[],guard:=none}
def qI(n:Int):Operand:=.const (.int .i64 n)
def qU(n:Int):Operand:=.const (.int .u64 n)
def jk(d:Tmp)(o:BinOp)(t:TypeId)(x y:Operand):Oper:=qOp (some d) (.binOp o t x y t) 4
def xu(d:Tmp):Oper:=qOp (some d) (.call {callee:=.value (.tmp 2),args:=#[.tmp 4],argTypes:=#[3]}) 9
def wE(d s:Tmp):Oper:=qOp (some d) (.call {callee:=.value (.func 82),args:=#[.tmp s],argTypes:=#[9]}) 44
def oN:Code:=
 .seq (.region 0 #[jk 16 .lss 3 (.tmp 0) (qI 0),jk 17 .lss 3 (.tmp 1) (qI 0),jk 10 .eql 3 (.tmp 1) (qI 1),jk 11 .eql 3 (.tmp 1) (qI 4),jk 12 .eql 3 (.tmp 1) (qI 16),jk 13 .eql 3 (.tmp 1) (qI 64)] false)
 (.seq (.cond (.tmp 10) .skip (.cond (.tmp 11) .skip (.cond (.tmp 12) .skip (.cond (.tmp 13) .skip (.refuse "")))))
 (.seq (.region 1 #[qOp (some 6) (.makeSlice 147 (.tmp 1) (.tmp 1)) 147,qOp (some 3) (.move (qI 0)) 3] false)
 (.seq (.block 0 (.loop
  (.seq (.region 2 #[jk 14 .lss 3 (.tmp 3) (.tmp 1)] false)
  (.seq (.cond (.tmp 14) .skip (.exit 0))
  (.seq (.region 3 #[qOp (some 4) (.binOp .add 3 (.tmp 0) (.tmp 3) 3) 3] false)
  (.seq (.region 4 #[xu 5,jk 18 .lss 9 (.tmp 5) (.const (.string ByteArray.empty)),wE 7 5] false)
  (.seq (.region 5 #[xu 8,jk 18 .lss 9 (.tmp 8) (.const (.string ByteArray.empty)),wE 9 8] false)
  (.seq (.region 6 #[jk 18 .lss 44 (.tmp 7) (qU 0),jk 19 .lss 44 (.tmp 9) (qU 0),jk 15 .neq 44 (.tmp 7) (.tmp 9)] false)
  (.seq (.cond (.tmp 15) (.refuse "") .skip)
  (.region 7 #[qOp (some 18) (.indexAddr 147 (.tmp 6) (.tmp 3)) 147,qOp none (.store 44 (.tmp 18) (.tmp 9)) 44,qOp (some 19) (.binOp .add 3 (.tmp 3) (qI 1) 3) 3,qOp (some 3) (.move (.tmp 19)) 3] false)))))))))) .ret)))
noncomputable def mz:Func:={(((Tryz.prog).funcs[(68:Nat)]?).getD default) with ntmps:=20,results:=#[.tmp 6],body:=some oN}
noncomputable def Gg:Array Func:=(Tryz.prog).funcs.setIfInBounds 68 mz
noncomputable abbrev Qg:Program:=gp Tryz.prog Gg
def rP(Q:Program):Nat->Goroutine->List Goroutine
 |0,g=>[g]
 |n+1,g=>g::rP Q n (nx Q true g)
def rQ(Q:Program)(cs:List Frame):Nat->Goroutine->List Goroutine
 |0,g=>[lg g.frame cs]
 |n+1,g=>lg g.frame cs::rQ Q cs n (nx Q true g)
def sK(Q:Program)(f:FuncId):Nat->Goroutine->Bool
 |0,_=>true
 |n+1,g=>g.frame.fn==f&&sK Q f n (nx Q true g)
structure ez(Q:Program)(f:FuncId)(n:Nat)(fr:Frame)(cs:List Frame):Prop where
 OD:aY Q true n (lg fr cs)
 MA:rP Q n (lg fr cs)=rQ Q cs n (lg fr cs)
 fns:sK Q f n (lg fr cs)=true
theorem FT{Q:Program}{Goal:Frame->List Frame->World->Prop}(hgoal:∀fr cs w,Goal fr cs w->fr.fn≠f){cs:List Frame}(w:World):∀(n:Nat) (g:Goroutine),aY Q true n g->rP Q n g=rQ Q cs n g->sK Q f n g=true->dG Q Goal g.frame cs w (aE Q true n g).frame cs w
 |0,g,_,_,_=>.refl _ _ _
 |n+1,g,hs,ht,hf=>by
  obtain⟨h1,h2,h3⟩:=hs.step;simp only[rP,rQ,WE]at ht;simp only[sK,IN,beq_iff_eq]at hf;have e0:g=lg g.frame cs:=ht.1;have e1:nx Q true g=lg (nx Q true g).frame cs:=by
   have:=ht.2;cases n<;>simp only[rP,rQ,WE,Wp]at this
   ·exact this
   ·exact this.1
  refine .step w.tape #[] (λhg=>hgoal _ _ _ hg hf.1) ?_ (FT hgoal w n (nx Q true g) h3 ht.2 hf.2);rw[<-e0,<-e1];exact h2 w
theorem ez.run{Q:Program}{Goal:Frame->List Frame->World->Prop}{n:Nat}{fr fr':Frame}{cs:List Frame}(h:ez Q f n fr cs)(hgoal:∀fr cs w,Goal fr cs w->fr.fn≠f)(he:(aE Q true n (lg fr cs)).frame=fr')(w:World):dG Q Goal fr cs w fr' cs w:=
 he▸FT hgoal w n (lg fr cs) h.OD h.MA h.fns
noncomputable def frQ(id n:Nat)(ts:Array Value):Frame:={fn:=68,tmps:=ts,todo:=Az Qg 68 id n,defers:=[],mode:=.run,kind:=.normal}
def qT(x0 x1 x2:Value)(xs:Nat->Value):Array Value:=#[x0,x1,x2,xs 3,xs 4,xs 5,xs 6,xs 7,xs 8,xs 9,xs 10,xs 11,xs 12,xs 13,xs 14,xs 15,xs 16,xs 17,xs 18,xs 19]
def dK:GStep->Bool
 |.go .. =>true
 |_=>false
abbrev fQ:FuncId:=68
section
variable (x0 x1 x2:Value) (a n:Int) (xs:Nat->Value) (cs:List Frame)
def un:Nat->Value:=λ_=>undef
theorem T0:ez Qg fQ 2 (Frame.enter Qg fQ #[x0,x1,x2] .normal) cs:=⟨λw=>by kernel_rfl,by kernel_rfl,by kernel_rfl⟩
theorem IF:(aE Qg true 2 (lg (Frame.enter Qg fQ #[x0,x1,x2] .normal) cs)).frame=frQ 0 0 (qT x0 x1 x2 un):=by kernel_rfl
theorem ON(w:World)(h:dK (stepG Qg true (lg (frQ 0 0 (qT x0 x1 x2 un)) cs) w)=true): ∃a,x0=.int .i64 a:=by
 have no:∀x,dK (stepG Qg true (lg (frQ 0 0 (qT x x1 x2 un)) cs) w)=false->x0=x->False:=λx hx e=>by rw[e,hx]at h;cases h
 cases x0 with
 |int k a=>cases k<;>first|exact⟨a,rfl⟩|exact (no _ (by kernel_rfl) rfl).elim
 |pointer p=>cases p<;>exact (no _ (by kernel_rfl) rfl).elim
 |_=>exact (no _ (by kernel_rfl) rfl).elim
theorem MD:ez Qg fQ 1 (frQ 0 0 (qT (.int .i64 a) x1 x2 xs)) cs:=⟨λw=>by kernel_rfl,by kernel_rfl,by kernel_rfl⟩
theorem Jn:(aE Qg true 1 (lg (frQ 0 0 (qT (.int .i64 a) x1 x2 xs)) cs)).frame=frQ 0 1 (qT (.int .i64 a) x1 x2 (upd xs 16 (.bool (decide (a<0))))):=by kernel_rfl
theorem PT(w:World)(h:dK (stepG Qg true (lg (frQ 0 1 (qT x0 x1 x2 xs)) cs) w)=true): ∃n,x1=.int .i64 n:=by
 have no:∀x,dK (stepG Qg true (lg (frQ 0 1 (qT x0 x x2 xs)) cs) w)=false->x1=x->False:=λx hx e=>by rw[e,hx]at h;cases h
 cases x1 with
 |int k a=>cases k<;>first|exact⟨a,rfl⟩|exact (no _ (by kernel_rfl) rfl).elim
 |pointer p=>cases p<;>exact (no _ (by kernel_rfl) rfl).elim
 |_=>exact (no _ (by kernel_rfl) rfl).elim
theorem Ll:ez Qg fQ 5 (frQ 0 1 (qT x0 (.int .i64 n) x2 xs)) cs:=⟨λw=>by kernel_rfl,by kernel_rfl,by kernel_rfl⟩
def gV(b1 b2 b3 b4:Bool)(xs:Nat->Value):Nat->Value:=upd (upd (upd (upd xs 10 (.bool b1)) 11 (.bool b2)) 12 (.bool b3)) 13 (.bool b4)
theorem TY:(aE Qg true 5 (lg (frQ 0 1 (qT x0 (.int .i64 n) x2 xs)) cs)).frame=frQ 0 6 (qT x0 (.int .i64 n) x2 (gV (decide (n=1)) (decide (n=4)) (decide (n=16)) (decide (n=64)) (upd xs 17 (.bool (decide (n<0)))))):=by kernel_rfl
end
end
end Go.Proofs.YtldmcdeibiclkaaGreatDoor.U
