/-
  Toward settled_holds: WHAT COMES TO ITS END ON EVERY TAPE COMES TO IT WHOEVER ANSWERS: by a tree, not by a count
-/
import Derived.Test.YtldmcdeibiclkaaGreatDoorC14
import Derived.Conc.LeavingOf
import Derived.Below
set_option linter.unusedVariables false
set_option linter.unusedSimpArgs false
set_option maxRecDepth 100000
set_option maxHeartbeats 20000000
namespace Go.Proofs.YtldmcdeibiclkaaGreatDoor.U
variable {f:FuncId}{w:World}{b k:Nat}{Φ:Value->World->Prop}{π:Nat->Nat->Prop}{x y:Value}{cs:List Frame}{a:List Value}
section
open Go.Conc
section
variable {P:Program} {L:aA} {T:aN}
theorem j9.tape{fr:Frame}(h:j9 P L T fr cs w)(t:Nat->Question->Nat):j9 P L T fr cs {w with tape:=t}:=by
 obtain⟨τ,h⟩:=h;exact⟨τ,h.dg,h.frame,h.callers,h.bot,h.fit,h.flat,h.cy,h.obj,h.yg⟩
theorem j9.step(A:lj P L T){fr:Frame}{cs B:List Frame}{w:World}(h:j9 P L T fr cs w)(hlast:fr.mode= .returning->fr.defers= []->cs≠[]){m:Bool}{g1:Goroutine}{w1:World}{es:Array Event}(e:stepG P m {frame:=fr,callers:=cs++B,status:= .running,dying:=none} w= .go g1 w1 es)(hf:il g1):
  ∃fr1 cs1,g1= {frame:=fr1,callers:=cs1++B,status:= .running,dying:=none}/\j9 P L T fr1 cs1 w1/\w1.tape=w.tape/\w.drawn<=w1.drawn/\
   ∀t:Nat->Question->Nat,(∀i q,w.drawn<=i->i< w1.drawn->t i q=w.tape i q)->
    stepG P m {frame:=fr,callers:=cs++B,status:= .running,dying:=none} {w with tape:=t}= .go g1 {w1 with tape:=t} es:=by
 obtain⟨τ,h⟩:=h;exact h.step A hlast e hf
theorem j9.yU(A:lj P L T){fr:Frame}{B:List Frame}(h:j9 P L T fr cs w)(hlast:fr.mode= .returning->fr.defers= []->cs≠[])(m:Bool):
  fV L.fn B (stepG P m {frame:=fr,callers:=cs++B,status:= .running,dying:=none} w):=by
 obtain⟨τ,h⟩:=h;exact h.yU A hlast m
theorem qp(P:Program)(k:Nat)(m:Machine):runN P (k+1) m=match runN P k m with| .next m'=>step P m'|e=>e:=by
 rw[runN_add];cases runN P k m with
 |next m'=>
  simp only[runN];cases step P m'<;>rfl
 |ended o w=>rfl
theorem yA{P:Program}{a:Nat}{m:Machine}{o:Outcome}(h:runN P a m= .ended o w)(hab:a<=b):runN P b m= .ended o w:=by
 rw[show b=a+(b - a) by omega,runN_add,h]
structure St where
 fr:Frame
 cs:List Frame
 w:World
theorem Ih(A:lj P L T){Goal:Frame->List Frame->World->Prop}(hgt:∀fr cs w t,Goal fr cs w->Goal fr cs {w with tape:=t}){fr0:Frame}{cs0:List Frame}{wb:World}(h0:j9 P L T fr0 cs0 wb)(hrun:∀t:Nat->Question->Nat,∃n fr cs w,runN P n (lone fr0 (cs0++ [wall]) {wb with tape:=t})= .next (lone fr (cs++ [wall]) w)/\fr.mode= .returning/\Goal fr cs w):Safe P Goal fr0 cs0 wb:=by
 classical
 refine XD λhno=>?_;let Bad:St->Prop:=λs=>j9 P L T s.fr s.cs s.w/\¬ Safe P Goal s.fr s.cs s.w
 have hng:∀s,Bad s->¬ Goal s.fr s.cs s.w:=λs hs hg=>hs.2 (.goal hg);let Last:St->Prop:=λs=>s.fr.mode= .returning/\s.fr.defers= []/\s.cs= []
 have htape:∀s,Bad s->∃t:Nat->Question->Nat,Last s\/¬ ∃fr1 cs1 w1 es,stepG P true {frame:=s.fr,callers:=s.cs++ [wall],status:= .running,dying:=none} {s.w with tape:=t}= .go {frame:=fr1,callers:=cs1++ [wall],status:= .running,dying:=none} w1 es/\il {frame:=fr1,callers:=cs1++ [wall],status:= .running,dying:=none}/\Safe P Goal fr1 cs1 w1:=λs hs=>by
  by_cases hl:Last s
  ·exact⟨λ_ _=>0,.inl hl⟩
  ·refine XD λhx=>hs.2 ?_;have hall:∀t:Nat->Question->Nat,∃fr1 cs1 w1 es,stepG P true {frame:=s.fr,callers:=s.cs++ [wall],status:= .running,dying:=none} {s.w with tape:=t}= .go {frame:=fr1,callers:=cs1++ [wall],status:= .running,dying:=none} w1 es/\il {frame:=fr1,callers:=cs1++ [wall],status:= .running,dying:=none}/\Safe P Goal fr1 cs1 w1:=λt=>XD λhy=>hx ⟨t,.inr hy⟩;exact .step (λt=>(hall t).choose) (λt=>(hall t).choose_spec.choose) (λt=>(hall t).choose_spec.choose_spec.choose) (λt=>(hall t).choose_spec.choose_spec.choose_spec.choose) (hng s hs) hl
    (λt=>(hall t).choose_spec.choose_spec.choose_spec.choose_spec.1) (λt=>(hall t).choose_spec.choose_spec.choose_spec.choose_spec.2.1) (λt=>(hall t).choose_spec.choose_spec.choose_spec.choose_spec.2.2)
 let tp:St->Nat->Question->Nat:=λs=>if h:Bad s then (htape s h).choose else λ_ _=>0
 have htp:∀s,Bad s->Last s\/¬ ∃fr1 cs1 w1 es,stepG P true {frame:=s.fr,callers:=s.cs++ [wall],status:= .running,dying:=none} {s.w with tape:=tp s}= .go {frame:=fr1,callers:=cs1++ [wall],status:= .running,dying:=none} w1 es/\il {frame:=fr1,callers:=cs1++ [wall],status:= .running,dying:=none}/\Safe P Goal fr1 cs1 w1:=λs hs=>by
  have:=(htape s hs).choose_spec;simp only[tp,hs,dif_pos];exact this
 let Nx:St->St->Prop:=λs s1=>¬ Last s/\∃es,stepG P true {frame:=s.fr,callers:=s.cs++ [wall],status:= .running,dying:=none} {s.w with tape:=tp s}= .go {frame:=s1.fr,callers:=s1.cs++ [wall],status:= .running,dying:=none} s1.w es/\il {frame:=s1.fr,callers:=s1.cs++ [wall],status:= .running,dying:=none}
 have hlast:∀s,¬ Last s->(s.fr.mode= .returning->s.fr.defers= []->s.cs≠[]):=λs hs h1 h2 h3=>hs ⟨h1,h2,h3⟩;have hnx:∀s s1,Bad s->Nx s s1->Bad s1/\s.w.drawn<=s1.w.drawn:=λs s1 hs hn=>by
  obtain⟨hnl,es,e,hf⟩:=hn;obtain⟨fr1,cs1,g1,hok,_,hdr,_⟩:=(hs.1.tape (tp s)).step A (hlast s hnl) e hf;simp only[Goroutine.mk.injEq] at g1;obtain⟨g2,g3,_⟩:=g1;have g4:=Yr g3;subst g2 g4;exact⟨⟨hok,λhsafe=>(htp s hs).elim hnl λhx=>hx ⟨_,_,_,es,e,hf,hsafe⟩⟩,hdr⟩
 let nxt:Option St->Option St:=λo=>o.bind λs=>if h: ∃s1,Nx s s1 then some h.choose else none
 let ch:Nat->Option St:=λk=>Nat.rec (some ⟨fr0,cs0,wb⟩) (λ_ o=>nxt o) k
 have ch0:ch 0=some ⟨fr0,cs0,wb⟩:=rfl;have chS:∀k,ch (k+1)=nxt (ch k):=λ_=>rfl;have hbad:∀k s,ch k=some s->Bad s:=by
  intro k;induction k with
  |zero=>intro s hs;rw[ch0] at hs;cases hs;exact⟨h0,hno⟩
  |succ k ih=>
   intro s hs;rw[chS] at hs;simp only[nxt] at hs;cases hk:ch k with
   |none=>rw[hk] at hs;cases hs
   |some s'=>
    rw[hk] at hs;simp only[YG] at hs;split at hs
    ·rename_i hx;cases hs;exact (hnx s' _ (ih s' hk) hx.choose_spec).1
    ·cases hs
 have hstep:∀k s s1,ch k=some s->ch (k+1)=some s1->Nx s s1:=by
  intro k s s1 hs hs1;rw[chS,hs] at hs1;simp only[nxt,YG] at hs1;split at hs1
  ·rename_i hx;cases hs1;exact hx.choose_spec
  ·cases hs1
 have hstop:∀k s,ch k=some s->ch (k+1)=none->¬ ∃s1,Nx s s1:=by
  intro k s hs hs1 hx;rw[chS,hs] at hs1;simp only[nxt,YG,hx,dif_pos] at hs1;cases hs1
 have hmono:∀k d s s1,ch k=some s->ch (k+d)=some s1->s.w.drawn<=s1.w.drawn:=by
  intro k d;induction d with
  |zero=>intro s s1 hs hs1;rw[Nat.add_zero,hs] at hs1;cases hs1;exact iR _
  |succ d ih=>
   intro s s1 hs hs1;cases hd:ch (k+d) with
   |none=>
    have e:ch (k+(d+1))=nxt (ch (k+d)):=chS (k+d);rw[e,hd] at hs1;cases hs1
   |some s'=>exact Xb (ih s s' hs hd) (hnx s' s1 (hbad _ _ hd) (hstep _ _ _ hd hs1)).2
 let On:Nat->St->Nat->Prop:=λi s k=>ch k=some s/\s.w.drawn<=i/\∀s1,ch (k+1)=some s1->i< s1.w.drawn
 let Tp:Nat->Question->Nat:=λi q=>if h: ∃s k,On i s k then tp h.choose i q else 0
 have hT:∀i q s k,On i s k->Tp i q=tp s i q:=by
  intro i q s k hon;have hx: ∃s k,On i s k:=⟨s,k,hon⟩
  simp only[Tp,hx,dif_pos];have hsp:=hx.choose_spec;obtain⟨k',hon'⟩:=hsp;have heq:hx.choose=s:=by
   rcases Nat.lt_trichotomy k k' with hlt|heq|hgt'
   ·exfalso;cases hs1:ch (k+1) with
    |none=>
     have hall:∀d,ch (k+1+d)=none:=by
      intro d;induction d with
      |zero=>exact hs1
      |succ d ih=>show nxt (ch (k+1+d))=none;rw[ih];rfl
     have:=hall (k' - (k+1));rw[show k+1+(k' - (k+1))=k' by omega,hon'.1] at this;cases this
    |some s1=>
     have h1:=hon.2.2 s1 hs1;have h2:=hmono (k+1) (k' - (k+1)) s1 hx.choose hs1 (by rw[show k+1+(k' - (k+1))=k' by omega];exact hon'.1);have h3:=hon'.2.1;omega
   ·subst heq
    have:=hon'.1;rw[hon.1] at this;exact (XA this).symm
   ·exfalso;cases hs1:ch (k'+1) with
    |none=>
     have hall:∀d,ch (k'+1+d)=none:=by
      intro d;induction d with
      |zero=>exact hs1
      |succ d ih=>show nxt (ch (k'+1+d))=none;rw[ih];rfl
     have:=hall (k - (k'+1));rw[show k'+1+(k - (k'+1))=k by omega,hon.1] at this;cases this
    |some s1=>
     have h1:=hon'.2.2 s1 hs1;have h2:=hmono (k'+1) (k - (k'+1)) s1 s hs1 (by rw[show k'+1+(k - (k'+1))=k by omega];exact hon.1);have h3:=hon.2.1;omega
  rw[heq]
 have hfollow:∀k s,ch k=some s->runN P k (lone fr0 (cs0++ [wall]) {wb with tape:=Tp})= .next (lone s.fr (s.cs++ [wall]) {s.w with tape:=Tp}):=by
  intro k;induction k with
  |zero=>intro s hs;rw[ch0] at hs;cases hs;rfl
  |succ k ih=>
   intro s1 hs1;cases hk:ch k with
   |none=>rw[chS,hk] at hs1;cases hs1
   |some s=>
    have hn:=hstep k s s1 hk hs1;obtain⟨hnl,es,e,hf⟩:=hn;have hb:=hbad k s hk;obtain⟨fr1,cs1,g1,hok,htp',hdr,hcong⟩:=(hb.1.tape (tp s)).step A (hlast s hnl) e hf;have hc:=hcong Tp (λi q hi1 hi2=>hT i q s k ⟨hk,hi1,λs2 hs2=>by rw[hs1] at hs2;cases hs2;exact hi2⟩);have hst:step P (lone s.fr (s.cs++ [wall]) {s.w with tape:=Tp})= .next (lone s1.fr (s1.cs++ [wall]) {s1.w with tape:=Tp}):=step_lone_go (by
     have hc':stepG P true {frame:=s.fr,callers:=s.cs++ [wall],status:= .running,dying:=none} {s.w with tape:=Tp}=_:=hc;rw[hc'];rfl)
    rw[qp,ih s hk];exact hst
 obtain⟨n,fr,cs,w,hn,hmode,hg⟩:=hrun Tp;cases hcn:ch n with
 |some s=>
  have:=hfollow n s hcn;rw[hn] at this;simp only[lone,Stepped.next.injEq,Machine.mk.injEq,Array.mk.injEq,Ye,Goroutine.mk.injEq,XT] at this;obtain⟨hw,hfr,hcs⟩:=this;have hcs':=Yr hcs;subst hfr hcs' hw
  have:=hgt _ _ _ s.w.tape hg;exact hng s (hbad n s hcn) this
 |none=>
  have hex: ∃k s,k< n/\ch k=some s/\ch (k+1)=none:=by
   have:∀m,ch m=none->∃k s,k< m/\ch k=some s/\ch (k+1)=none:=by
    intro m;induction m with
    |zero=>intro h;rw[ch0] at h;cases h
    |succ m ih=>
     intro h;cases hm:ch m with
     |none=>obtain⟨k,s,h1,h2⟩:=ih hm;exact⟨k,s,by omega,h2⟩
     |some s=>exact⟨m,s,by omega,hm,h⟩
   exact this n hcn
  obtain⟨k,s,aV,hk,hk1⟩:=hex;have hb:=hbad k s hk;have hstp:=hstop k s hk hk1;have hfk:=hfollow k s hk;have hTs:∀i q,s.w.drawn<=i->Tp i q=tp s i q:=λi q hi=>hT i q s k ⟨hk,hi,λs2 hs2=>by rw[hk1] at hs2;cases hs2⟩;have hokT:=hb.1.tape Tp;by_cases hL:Last s
  case neg=>
   have hlst:=hlast s hL;rcases hokT.yU A (B:=[wall]) hlst true with ⟨g1,w1,es,e,hf⟩|⟨o,w1,es,e⟩|⟨g1,w1,es,e,hp⟩
   ·
    obtain⟨fr1,cs1,rfl,hok1,htt,hdr,hcong⟩:=hokT.step A hlst e hf;have hc:=hcong (tp s) (λi q hi1 _=>(hTs i q hi1).symm);exact hstp ⟨⟨fr1,cs1,{w1 with tape:=tp s}⟩,hL,es,hc,hf⟩
   ·have hst:step P (lone s.fr (s.cs++ [wall]) {s.w with tape:=Tp})= .ended o w1:=step_lone_ended (by rw[e];rfl);have hend:runN P (k+1) (lone fr0 (cs0++ [wall]) {wb with tape:=Tp})= .ended o w1:=by rw[qp,hfk];exact hst
    have:=yA hend (show k+1<=n by omega);rw[hn] at this;cases this
   ·obtain⟨fr1,cs1,ch1,rfl,hm1,hf1,hc1,hd1⟩:=hp;have hst:step P (lone s.fr (s.cs++ [wall]) {s.w with tape:=Tp})= .next (lone fr1 (cs1++ [wall]) w1):=step_lone_go (by rw[e];rfl);have hrun2:runN P (k+1) (lone fr0 (cs0++ [wall]) {wb with tape:=Tp})= .next (lone fr1 (cs1++ [wall]) w1):=by rw[qp,hfk];exact hst
    have hn':=hn;rw[show n=(k+1)+(n - (k+1)) by omega,runN_add,hrun2] at hn';obtain⟨g,hg1,ch2,hg2⟩:=panics A _ fr1 cs1 w1 ch1 hm1 hf1 hc1 hd1 _ hn';simp only[lone] at hg1;cases hg1;have hg3:fr.mode= .panicking ch2:=hg2;rw[hmode] at hg3;cases hg3
  case pos=>
   obtain⟨l1,l2,l3⟩:=hL;obtain⟨τ,hbt⟩:=hb.1;obtain⟨fn,c,f1,f2,_⟩:=A.stat.cp.body s.fr.fn hbt.frame.cp hbt.frame.np;have e1:stepG P true {frame:=s.fr,callers:=s.cs++ [wall],status:= .running,dying:=none} {s.w with tape:=Tp}=unwind P true s.fr (s.cs++ [wall]) none {s.w with tape:=Tp}:=by simp only[stepG,l1]
   rw[pB l2 l1 f1] at e1;have hwall:∀(o:Outcome) (x:World),runN P (k+1) (lone fr0 (cs0++ [wall]) {wb with tape:=Tp})= .ended o x->False:=λo x hx=>by
    have:=yA hx (show k+1<=n by omega);rw[hn] at this;cases this
   cases hr:(results fn s.fr.tmps).runT P {s.w with tape:=Tp} #[] with
   |mk r es=>
    rw[hr] at e1;cases r with
    |halt hh w1=>
     have hst: ∃o,step P (lone s.fr (s.cs++ [wall]) {s.w with tape:=Tp})= .ended o w1:=by
      cases hh<;>exact⟨_,step_lone_ended (by rw[e1];rfl)⟩
     obtain⟨o,hst⟩:=hst;exact hwall o w1 (by rw[qp,hfk];exact hst)
    |ok v w1=>
     have hdr:doReturn P true s.fr (s.cs++ [wall]) none v w1= .go {frame:=wall,callers:=[],status:= .running,dying:=none} w1:=by
      rw[l3];simp only[YH,doReturn,hbt.frame.kind.1];rfl
     have hst:step P (lone s.fr (s.cs++ [wall]) {s.w with tape:=Tp})= .next (lone wall [] w1):=step_lone_go (by
      rw[e1];simp only[nT,hdr];rfl)
     have h1:runN P (k+1) (lone fr0 (cs0++ [wall]) {wb with tape:=Tp})= .next (lone wall [] w1):=by rw[qp,hfk];exact hst
     have hst2: ∃o,step P (lone wall [] w1)= .ended o w1:=⟨_,step_lone_ended (by simp only[stepG,wall,stepG.exec];rfl)⟩
     obtain⟨o,hst2⟩:=hst2;by_cases hnk:n=k+1
     ·rw[hnk,h1] at hn;simp only[lone,Stepped.next.injEq,Machine.mk.injEq,Array.mk.injEq,Ye,Goroutine.mk.injEq,XT] at hn;obtain⟨_,_,hcs⟩:=hn;simp at hcs
     ·have h2:runN P (k+2) (lone fr0 (cs0++ [wall]) {wb with tape:=Tp})= .ended o w1:=by rw[qp,h1];exact hst2
      have:=yA h2 (show k+2<=n by omega);rw[hn] at this;cases this
theorem SE(A:lj P L T){args:Array Value}{w0:World}(h0:j9 P L T (Frame.enter P f args .normal) [] w0)(hΦ:∀v w (t:Nat->Question->Nat),Φ v w->Φ v {w with tape:=t})(hc:∀t:Nat->Question->Nat,Calls P f args {w0 with tape:=t} λe w'=>∃v,e= .returned v/\Φ v w'):
  Safe P (vY P f Φ) (Frame.enter P f args .normal) [] w0:=by
 refine Ih A (cs0:=[]) ?_ h0 ?_
 ·rintro fr cs w t ⟨h1,h2,h3,h4,fn,v,h5,⟨t',h6⟩,h7⟩;exact⟨h1,h2,h3,h4,fn,v,h5,⟨t',h6⟩,hΦ v w t h7⟩
 ·intro t;obtain⟨e,w',fr,⟨v,rfl,hφ⟩,⟨n,hn⟩,hfn,hm,hd,hk,fn,hfn2,hres⟩:=hc t [wall];refine⟨n,fr,[],w',hn,hm,rfl,hfn,hm,hd,fn,v,hfn ▸ hfn2,⟨w'.tape,hres⟩,hφ⟩
end
end
set_option maxRecDepth 100000
def nL:aN:={ef with bU:=0}
abbrev iI:aA:=cR jG
def tk(Q:Program)(f:Nat)(fn:Func):Bool:=match fn.body with|some c=>dU Q iI nL f c && lC iI nL f fn|none=>false
theorem Ny:(pj.all λf=>f==fQ||(Tryz.prog.funcs[f]?).all (tk Qg f))=true:=by kernel_rfl
theorem O5:tk Qg fQ mM=true:=by kernel_rfl
theorem Wj(f:Nat)(hf:iI.fn f): ∃fn c,Gg[f]? =some fn/\fn.body=some c/\dU Qg iI nL f c=true/\lC iI nL f fn=true:=by
 have un:∀fn,tk Qg f fn=true->∃c,fn.body=some c/\dU Qg iI nL f c=true/\lC iI nL f fn=true:=λfn h=>by
  unfold tk at h;split at h
  ·rename_i c hc;simp only[IN] at h;exact⟨c,hc,h⟩
  ·cases h
 by_cases hn:f=fQ
 ·subst hn;obtain⟨c,h⟩:=un _ O5;exact⟨mM,c,Cb,h⟩
 ·have hm:f∈pj:=by simpa[cR,ef] using hf
  have:=List.all_eq_true.1 Ny f hm;simp only[Xw,beq_iff_eq] at this
  have:=this.resolve_left hn;obtain⟨fn,_,h1,h2,_⟩:=yn (J:=jG) f hf hn;rw[h1] at this;obtain⟨c,h⟩:=un fn this;exact⟨fn,c,h2,h⟩
theorem AU:Let Qg Qg.funcs iI nL:=by
 refine⟨λf hf _=>?_,λf hf=>?_,⟨lF.fb,lF.cb,lF.ib,lF.lb,lF.fG,lF.loc,lF.ar,lF.dV⟩,xT,xc⟩
 ·obtain⟨fn,c,h1,h2,h3,h4⟩:=Wj f hf;exact⟨fn,c,h1,h1,h2,h3,h4⟩
 ·have:=(xi.plain f hf).2;exact⟨this,this⟩
theorem BZ:lj Qg iI nL:=⟨⟨tX,(pz iI).1,(pz iI).2,AU⟩,rfl,λh=>by
 have:pj.contains 0=true:=h;exact absurd this (by decide)⟩
def bare(K:List Nat)(W:World):World:={W with heap:=W.heap.mapIdx λi o=>if K.contains i then o else .cells #[] 0}
theorem sV(K:List Nat)(W:World):(bare K W).heap.size=W.heap.size:=by simp[bare]
theorem oT{K:List Nat}{W:World}(h:b∈K):(bare K W).heap[b]? =W.heap[b]? :=by
 unfold bare;simp only[Array.getElem?_mapIdx];cases hx:W.heap[b]? with
 |none=>rfl
 |some o=>simp[h]
theorem M9{K:List Nat}{W:World}(h:b∉K){o:Obj}(ho:(bare K W).heap[b]? =some o):o= .cells #[] 0:=by
 unfold bare at ho;simp only[Array.getElem?_mapIdx] at ho;cases hx:W.heap[b]? with
 |none=>rw[hx] at ho;cases ho
 |some q=>rw[hx] at ho;simpa[h] using ho.symm
def Dx(W:World)(b:Nat):Prop:=∃c e f,W.heap[b]? =some (.cells c e f)/\∀x∈c,∀π,VR iI π x x
def o5(K:List Nat)(W:World)(v:Value):Prop:=sq 8 v=true\/∃a n c,v= .slice (some a) n c/\a.block∈K/\a.block< W.heap.size
def kq(K:List Nat)(W:World):ai:=⟨λr s=>r=s/\r∈K/\r< W.heap.size,λr s=>r=s/\r∈K/\r< W.heap.size,λ_ _=>False,λ_ _=>False⟩
theorem lk{K:List Nat}{W:World}{r s:Nat}:(kq K W).un r s↔r=s/\r∈K/\r< W.heap.size:=by simp[ai.un,kq]
theorem EI(K:List Nat)(W:World):Fit (kq K W):=
 {own:=λ_ _ h=>h
  two:=λ_ _ _ _ h=>h.elim
  nj:=λ_ _ _ _ h=>h.elim
  mQ:=λ_ _ _ h=>h.elim
  fn:=λr s t h k=>by rw[←(lk.1 h).1,←(lk.1 k).1]
  inj:=λr s t h k=>by rw[(lk.1 h).1,(lk.1 k).1]}
theorem EF{K:List Nat}{W:World}(h0:0∈K)(hs:0< W.heap.size){T:aN}(hn:T.ng=1):Flat T (kq K W):=by
 refine⟨λ_ _ _ h=>h,λg hg=>?_⟩;rw[hn] at hg;obtain rfl:g=0:=by omega
 exact⟨rfl,h0,hs⟩
theorem Ro{L:aA}{K:List Nat}{W:World}{v:Value}(h:o5 K W v):VR L (kq K W).all v v:=by
 rcases h with h|⟨a,n,c,rfl,h1,h2⟩
 ·exact uj 8 v h
 ·exact .slice n c ⟨⟨rfl,h1,h2⟩,rfl,rfl⟩
theorem GA{L:aA}{K:List Nat}{W:World}(hcol:∀i,L.cY f i= .any){args:Array Value}(ha:∀v∈args,o5 K W v):TR L (kq K W) f args args:=
 ⟨rfl,λi x y hx hy=>by
  rw[hx] at hy;cases hy;rw[hcol i];exact Ro (ha x (Array.mem_of_getElem? hx))⟩
theorem Jc(P:Program)(f:FuncId)(xs:Array Value):(Frame.enter P f xs .normal).roundOf=none:=by
 unfold Frame.enter;rfl
theorem WJ{K:List Nat}{W:World}(h0:0∈K)(hs:0< W.heap.size)(hfl:∀b∈K,Dx W b)(hf:iI.fn f)(hcol:∀i,iI.cY f i= .any){args:Array Value}(ha:∀v∈args,o5 K W v)(hΦ:∀v w (t:Nat->Question->Nat),Φ v w->Φ v {w with tape:=t})(hc:∀t:Nat->Question->Nat,Calls Qg f args {bare K W with tape:=t} λe w'=>∃v,e= .returned v/\Φ v w'):
  Safe Qg (vY Qg f Φ) (Frame.enter Qg f args .normal) [] (bare K W):=by
 refine SE BZ ⟨kq K W,λr s h=>(lk.1 h).1,bV.enter AU hf (λe=>BZ.np (e ▸ hf)) (GA hcol ha),.nil _,Jc _ _ _,EI K W,EF h0 hs rfl,λr s h=>?_,λr s h=>?_,λr d h=>?_⟩ hΦ hc
 ·rw[sV];exact (lk.1 h).2.2
 ·obtain⟨rfl,hk,hlt⟩:=lk.1 h;obtain⟨c,e,g,h1,h2⟩:=hfl r hk;refine⟨_,_,by rw[oT hk];exact h1,by rw[oT hk];exact h1,λ_=>?_,λh=>h.elim,λh=>h.elim⟩
  have:=OR.cells (L:=iI) (τ:=kq K W) e g (xs:=c) (ys:=c) ⟨c.map λx=>(x,x),by simp[XY],by simp[XY],λz hz=>by
   obtain⟨x,hx,rfl⟩:=Array.mem_map.1 hz;exact h2 x hx _⟩
  exact this
 ·by_cases hr:r∈K
  ·rw[oT hr] at h;obtain⟨c,e,f,h1,_⟩:=hfl r hr;rw[h1] at h;cases h
  ·have:=M9 hr h;cases this
set_option maxRecDepth 100000
inductive FV (J:String->Value):Value->Value->Prop
 |bl (s:String):(∀c,J s≠.agg c)->(∀c,J s≠.tuple c)->(∀b,J s≠.bool b)->FV J (.func (.method s) #[.nilIface] #[]) (J s)
 |bool (b:Bool):FV J (.bool b) (.bool b)
 |int (k:IntKind) (n:Int):FV J (.int k n) (.int k n)
 |string (s:ByteArray):FV J (.string s) (.string s)
 |agg (xs:Array (Value×Value)):(∀z∈xs,FV J z.1 z.2)->FV J (.agg (xs.map (·.1))) (.agg (xs.map (·.2)))
 |tuple (xs:Array (Value×Value)):(∀z∈xs,FV J z.1 z.2)->FV J (.tuple (xs.map (·.1))) (.tuple (xs.map (·.2)))
theorem FV.vr{J:String->Value}{L:aA}(hL:L.bl=J)(h:FV J x y):VR L π x y:=by
 subst hL;induction h with
 |bl s a b c=>exact .bl s a b c
 |bool b=>exact .bool b
 |int k n=>exact .int k n
 |string s=>exact .string s
 |agg xs _ ih=>exact .agg xs ih
 |tuple xs _ ih=>exact .tuple xs ih
theorem FV.self{J:String->Value}{L:aA}(hL:L.bl=jG)(h:FV J x y):VR L π x x:=by
 induction h with
 |bl s a b c=>
  have:=VR.bl (L:=L) (π:=π) s (λc e=>by rw[hL] at e;cases e) (λc e=>by rw[hL] at e;cases e) (λb e=>by rw[hL] at e;cases e);rw[hL] at this;exact this
 |bool b=>exact .bool b
 |int k n=>exact .int k n
 |string s=>exact .string s
 |agg xs _ ih=>
  have:=VR.agg (L:=L) (π:=π) (xs.map λz=>(z.1,z.1)) (λz hz=>by
   obtain⟨q,hq,rfl⟩:=Array.mem_map.1 hz;exact ih q hq)
  simpa[Array.map_map,XY] using this
 |tuple xs _ ih=>
  have:=VR.tuple (L:=L) (π:=π) (xs.map λz=>(z.1,z.1)) (λz hz=>by
   obtain⟨q,hq,rfl⟩:=Array.mem_map.1 hz;exact ih q hq)
  simpa[Array.map_map,XY] using this
theorem wG{R:Value->Value->Prop}{xs ys:Array (Value×Value)}(e:ys.map (·.1)=xs.map (·.1))(h:∀z∈xs,∀y,R z.1 y->y=z.2)(hy:∀z∈ys,R z.1 z.2):ys.map (·.2)=xs.map (·.2):=by
 have hs:ys.size=xs.size:=by simpa using congrArg Array.size e
 apply Xv (by simpa using hs);intro i h1 h2;have i1:i< ys.size:=by simpa using h1
 have i2:i< xs.size:=by simpa using h2
 have ei:ys[i].1=xs[i].1:=by
  have:=congrArg (λa:Array Value=>a[i]?) e;simpa[i1,i2] using this
 simp only[Array.getElem_map];refine h xs[i] (Array.getElem_mem i2) _ ?_;rw[←ei];exact hy _ (Array.getElem_mem i1)
theorem FV.one{J:String->Value}{L:aA}(hL:L.bl=J)(h:FV J x y):∀y',VR L π x y'->y'=y:=by
 subst hL;induction h with
 |bl s a b c=>intro y' h;generalize hx:(Value.func (.method s) #[.nilIface] #[])=x at h;cases h<;>first|(cases hx;rfl)|cases hx
 |bool b=>intro y' h;cases h;rfl
 |int k n=>intro y' h;cases h;rfl
 |string s=>intro y' h;cases h;rfl
 |agg xs _ ih=>
  intro y' h;generalize hx:Value.agg (xs.map (·.1))=x at h;cases h with
  |agg ys hy=>
   congr 1;exact wG (R:=VR L π) (by injection hx with hx;exact hx.symm) ih hy
  |_=>cases hx
 |tuple xs _ ih=>
  intro y' h;generalize hx:Value.tuple (xs.map (·.1))=x at h;cases h with
  |tuple ys hy=>
   congr 1;exact wG (R:=VR L π) (by injection hx with hx;exact hx.symm) ih hy
  |_=>cases hx
def nm(k:Nat):String:=String.ofList (List.replicate k default)
theorem Vr(k:Nat):(nm k).length=k:=by simp[nm]
def Speaks(J:String->Value)(k:Nat)(ls:List Value):Prop:=∀i,i< ls.length->J (nm (k+i))=ls.getD i (.int .i64 0)
theorem Speaks.left{J:String->Value}{b:List Value}(h:Speaks J k (a++b)):Speaks J k a:=λi hi=>by
 rw[h i (by simp;omega)];simp[List.getD,List.getElem?_append_left hi]
theorem Speaks.right{J:String->Value}{b:List Value}(h:Speaks J k (a++b)):Speaks J (k+a.length) b:=λi hi=>by
 rw[Nat.add_assoc,h (a.length+i) (by simp;omega)];simp[List.getD,List.getElem?_append_right]
theorem xw(n:Nat)(hv:∀v:Value,SizeOf.sizeOf v< n->∀k,∃x ls,∀J,Speaks J k ls->FV J x v):∀(l:List Value),(∀v∈l,SizeOf.sizeOf v< n)->∀k,∃(zs:List (Value×Value)) (ls:List Value),zs.map (·.2)=l/\∀J,Speaks J k ls->∀z∈zs,FV J z.1 z.2
 |[],_,k=>⟨[],[],rfl,λJ _ z hz=>by simp at hz⟩
 |v::l,h,k=>by
  obtain⟨x,l1,h1⟩:=hv v (h v (by simp)) k;obtain⟨zs,l2,e2,h2⟩:=xw n hv l (λu hu=>h u (by simp[hu])) (k+l1.length);refine⟨(x,v)::zs,l1++l2,by simp[e2],λJ hJ z hz=>?_⟩;rcases YQ.1 hz with rfl|hz
  ·exact h1 J hJ.left
  ·exact h2 J hJ.right z hz
theorem LM(n:Nat):∀v:Value,SizeOf.sizeOf v< n->∀k,∃x ls,∀J,Speaks J k ls->FV J x v:=by
 induction n with
 |zero=>intro v h;omega
 |succ n ih=>
  intro v hs k;have other:(∀c,v≠.agg c)->(∀c,v≠.tuple c)->(∀b,v≠.bool b)->∃x ls,∀J,Speaks J k ls->FV J x v:=λa b c=>
   ⟨.func (.method (nm k)) #[.nilIface] #[],[v],λJ hJ=>by
    have e:J (nm k)=v:=by simpa using hJ 0 (by simp)
    have:=FV.bl (J:=J) (nm k) (by rw[e];exact a) (by rw[e];exact b) (by rw[e];exact c);rw[e] at this;exact this⟩
  cases v with
  |bool b=>exact⟨.bool b,[],λJ _=> .bool b⟩
  |agg c=>
   have hc:∀v∈c.toList,SizeOf.sizeOf v< n:=λv hv=>by
    have h1:=Array.sizeOf_lt_of_mem (Array.mem_toList_iff.1 hv);have h2:SizeOf.sizeOf (Value.agg c)=1+SizeOf.sizeOf c:=by simp
    omega
   obtain⟨zs,ls,e,h⟩:=xw n ih c.toList hc k;refine⟨.agg (zs.toArray.map (·.1)),ls,λJ hJ=>?_⟩
   have:=FV.agg (J:=J) zs.toArray (λz hz=>h J hJ z (by simpa using hz));have e2:zs.toArray.map (·.2)=c:=by apply Array.ext';simpa using e
   rw[e2] at this;exact this
  |tuple c=>
   have hc:∀v∈c.toList,SizeOf.sizeOf v< n:=λv hv=>by
    have h1:=Array.sizeOf_lt_of_mem (Array.mem_toList_iff.1 hv);have h2:SizeOf.sizeOf (Value.tuple c)=1+SizeOf.sizeOf c:=by simp
    omega
   obtain⟨zs,ls,e,h⟩:=xw n ih c.toList hc k;refine⟨.tuple (zs.toArray.map (·.1)),ls,λJ hJ=>?_⟩
   have:=FV.tuple (J:=J) zs.toArray (λz hz=>h J hJ z (by simpa using hz));have e2:zs.toArray.map (·.2)=c:=by apply Array.ext';simpa using e
   rw[e2] at this;exact this
  |_=>exact other (λc e=>by cases e) (λc e=>by cases e) (λb e=>by cases e)
section
open Go.Conc
set_option maxRecDepth 100000
theorem Nf{P:Program}{fr:Frame}(hk:fr.kind= .normal)(h:P.inits.idxOf? fr.fn=none)(v:Value)(w:World):doReturn P true fr [] none v w= .ended (.done v) w:=by
 simp[doReturn,hk,h]
def uT(J:String->Value)(K:List Nat)(W:World)(f:FuncId)(Φ:Value->World->Prop)(y:Value)(W':World):Prop:=
 ∃x w1 τ',Φ x w1/\CR (cR J) τ' ((cR J).res f) x y/\mf (kq K W) τ' W W'/\∀r s,τ'.un r s->∃o q,w1.heap[r]? =some o/\W'.heap[s]? =some q/\KR (cR J) (CC Pg (cR J) ef) τ' r s o q
def oD(J:String->Value)(K:List Nat)(V W:World):Prop:=V.heap.size=W.heap.size/\∀b∈K,∃zs:Array (Value×Value),∃e g,V.heap[b]? =some (.cells (zs.map (·.1)) e g)/\W.heap[b]? =some (.cells (zs.map (·.2)) e g)/\∀z∈zs,FV J z.1 z.2
theorem oD.flat{J:String->Value}{K:List Nat}{V W:World}(h:oD J K V W):∀b∈K,Dx V b:=λb hb=>by
 obtain⟨zs,e,g,h1,_,h3⟩:=h.2 b hb;refine⟨_,e,g,h1,λx hx π=>?_⟩;obtain⟨z,hz,rfl⟩:=Array.mem_map.1 hx;exact (h3 z hz).self rfl
section
variable {K:List Nat} {V W:World} {J:String->Value}
theorem U9(h0:0∈K)(hs:0< W.heap.size)(hbl:oD J K V W)(hf:(cR J).fn f)(hnp:f≠fQ)(hcol:∀i,(cR J).cY f i= .any){args:Array Value}(ha:∀v∈args,o5 K W v):
  jy Pg Gg (cR J) ef (λ_=>False) [] (kq K W) (Frame.enter Qg f args .normal) [] (bare K V) #[G (Frame.enter Pg f args .normal) []] W #[] (λ_=>0):=by
 refine⟨⟨_,rfl,⟨⟨?_,⟨rfl,rfl⟩,⟨rfl,rfl⟩,⟨rfl,rfl⟩,[],[],rfl,rfl,.nil _,rfl⟩,?_,?_,λr s h=>?_,λr s h=>?_⟩⟩,leavers_one _ _,?_,λr s _ h=>h,λs h=>h.elim⟩
 ·refine iK.enter xi hf (GA hcol ha) (λk hk=>?_);have:(if f==fQ then some 3 else none)=some k:=hk;rw[AI (by simpa using hnp)] at this;cases this
 ·exact EI K W
 ·exact EF h0 hs rfl
 ·obtain⟨rfl,_,hlt⟩:=lk.1 h;exact⟨by rw[sV,hbl.1];exact hlt,hlt⟩
 ·obtain⟨rfl,hk,hlt⟩:=lk.1 h;obtain⟨zs,e,g,h1,h2,h3⟩:=hbl.2 r hk;refine⟨_,_,by rw[oT hk];exact h1,h2,λ_=> .cells e g ⟨zs,rfl,rfl,λz hz=>(h3 z hz).vr rfl⟩,λh=>h.elim,λh=>h.elim⟩
 ·have:=past_nil;exact⟨this.clean,λi a ha=>by simp[touchAt,Trace.act?] at ha,this.over,this.hears,λop ag=>by simp at ag⟩
theorem Mp(h0:0∈K)(hs:0< W.heap.size)(hbl:oD J K V W)(hf:(cR J).fn f)(hnp:f≠fQ)(hin:Pg.inits.idxOf? f=none)(hcol:∀i,(cR J).cY f i= .any){args:Array Value}(ha:∀v∈args,o5 K W v)(hΦ:∀v w (t:Nat->Question->Nat),Φ v w->Φ v {w with tape:=t})(hc:∀t:Nat->Question->Nat,Calls Qg f args {bare K V with tape:=t} λe w'=>∃v,e= .returned v/\Φ v w'):
  ∃M last o w' t',runNT Pg (M+1) (solo (G (Frame.enter Pg f args .normal) []) W) #[]=(.ended o w',t')/\runN Pg M (solo (G (Frame.enter Pg f args .normal) []) W)= .next last/\step Pg last= .ended o w'/\Go.Conc.Good Pg (uT J K W f Φ) last o w' t':=by
 have hsafe:=WJ (W:=V) h0 (by rw[hbl.1];exact hs) hbl.flat (f:=f) hf hcol (λv hv=>(ha v hv).imp id λ⟨a,n,c,e,h1,h2⟩=>⟨a,n,c,e,h1,by rw[hbl.1];exact h2⟩) hΦ hc;have hg:∀fr cs w,vY Qg f Φ fr cs w->cs= []/\fr.fn≠fQ:=λfr cs w h=>⟨h.1,by rw[h.2.1];exact hnp⟩
 obtain⟨N,gs',v',sl',t',q',τ',fr',cs',w1,Sh',hr,hb,hgoal,hwent⟩:=(Kp Bs (U5 hg []) hsafe).1 _ W none _ _ _ _ (U9 h0 hs hbl hf hnp hcol ha);obtain⟨rfl,hfn,hmode,hdef,fn,x,hfun,⟨tp,hres⟩,hφ⟩:=hgoal;obtain⟨h,hh0,hS⟩:=hb.main;have hfun':Pg.funcs[fr'.fn]? =some fn:=by
  rw[hfn,←yL hnp];exact hfun
 have hend:Goes Pg true AtRel (λ_ _ _=>False) (AtEnd Pg (jX Sh') v'.heap.size (uT J K W f Φ)) 0 h v':=by
  rintro _ ⟨d,rfl⟩;obtain⟨y,fs,hy,hev,hcl,hkind,hfn2,hst⟩:=(hS.at d).last Bs true (show fr'.fn≠ef.bU by rw[hfn];exact hnp) ⟨hmode,hdef,rfl⟩ hfun' hres;refine⟨hS.g.status.2,y,fs,?_,λe he=>FN (hev e he) ?_ ?_,x,w1,τ',hφ,?_,?_,?_⟩
  ·rw[hst];have hff:h.frame.fn=f:=hfn2.trans hfn;rw[Nf hkind (by rw[hff];exact hin)];simp[GStep.after]
  ·rintro s ⟨r,hx⟩ hsh;exact hb.apart r s hx hsh
  ·rintro s ⟨r,hx⟩;exact (hS.cy r s hx).2
  ·have hy':CR (cR J) τ' ((cR J).res fr'.fn) x y:=hy;rw[hfn] at hy';exact hy'
  ·exact⟨hwent.grow,hwent.tape,hwent.os,hwent.output,hwent.gf,hwent.more,hwent.new⟩
  ·exact hS.obj
 obtain⟨M,last,o,w',t'',e1,e2,e3,e4⟩:=beside_ends (P:=Pg) (sl:=sl') (λw w' es h=>h.elim) hh0 hb.gY hb.nI hend;have hr':runNT Pg N (solo (G (Frame.enter Pg f args .normal) []) W) #[]=(.next (crowd gs' v' sl'),t'):=hr;refine⟨N+M,last,o,w',t'',?_,?_,e3,e4⟩
 ·rw[show N+M+1=N+(M+1) by omega,runNT_add,hr'];exact e1
 ·rw[←runNT_fst _ _ _ #[],runNT_add,hr'];rw[←runNT_fst _ _ _ t'] at e2;exact e2
end
end
end Go.Proofs.YtldmcdeibiclkaaGreatDoor.U
namespace Go.Proofs.YtldmcdeibiclkaaGreatDoor.U
variable {J:String->Value}{W:World}
open Go.RowKit
section
open Go.Conc
set_option maxRecDepth 100000
def aX(v:Value):Prop:=(∃k n,v=.int k n)\/∃s,v=.string s
theorem aX.fv{v:Value}(h:aX v):FV J v v:=by
 rcases h with⟨k,n,rfl⟩|⟨s,rfl⟩
 ·exact .int k n
 ·exact .string s
theorem Al(c:Array Value)(held:Nat->Prop)(k:Nat)(hh:∀i v,held i->c[i]?=some v->aX v):
  ∃(zs:Array (Value×Value)) (ls:List Value),zs.map (·.2)=c/\(∀J,Speaks J k ls->∀z∈zs,FV J z.1 z.2)/\∀i v,held i->c[i]?=some v->(zs.map (·.1))[i]?=some v:=by
 have key:∀(l:List Value) (i0 k:Nat),(∀i v,held (i0+i)->l[i]?=some v->aX v)->∃(zs:List (Value×Value)) (ls:List Value),zs.map (·.2)=l/\(∀J,Speaks J k ls->∀z∈zs,FV J z.1 z.2)/\∀i v,held (i0+i)->l[i]?=some v->(zs.map (·.1))[i]?=some v:=by
  intro l;induction l with
  |nil=>intro i0 k _;exact⟨[],[],rfl,λJ _ z hz=>by simp at hz,λi v _ h=>by simp at h⟩
  |cons u l ih=>
   intro i0 k hl;have hl':∀i v,held (i0+1+i)->l[i]?=some v->aX v:=λi v h1 h2=>hl (i+1) v (by rwa [show i0+(i+1)=i0+1+i by omega]) (by simpa using h2);by_cases h0:held i0
   ·have hu:=hl 0 u (by simpa using h0) (by simp);obtain⟨zs,ls,e,h1,h2⟩:=ih (i0+1) k hl';refine⟨(u,u)::zs,ls,by simp[e],λJ hJ z hz=>?_,λi v hi hv=>?_⟩
    ·rcases YQ.1 hz with rfl|hz
     ·exact hu.fv
     ·exact h1 J hJ z hz
    ·cases i with
     |zero=>simpa using hv
     |succ i=>
      simp only[XE,List.getElem?_cons_succ]at hv ⊢;exact h2 i v (by rwa [show i0+1+i=i0+(i+1) by omega]) hv
   ·obtain⟨x,l1,hx⟩:=LM _ u (Nat.lt_succ_self _) k;obtain⟨zs,ls,e,h1,h2⟩:=ih (i0+1) (k+l1.length) hl';refine⟨(x,u)::zs,l1++ls,by simp[e],λJ hJ z hz=>?_,λi v hi hv=>?_⟩
    ·rcases YQ.1 hz with rfl|hz
     ·exact hx J hJ.left
     ·exact h1 J hJ.right z hz
    ·cases i with
     |zero=>exact absurd hi (by simpa using h0)
     |succ i=>
      simp only[XE,List.getElem?_cons_succ]at hv ⊢;exact h2 i v (by rwa [show i0+1+i=i0+(i+1) by omega]) hv
 obtain⟨zs,ls,e,h1,h2⟩:=key c.toList 0 k (λi v h1 h2=>hh i v (by simpa using h1) (by simpa using h2));refine⟨zs.toArray,ls,by apply Array.ext';simpa using e,λJ hJ z hz=>h1 J hJ z (by simpa using hz),λi v hi hv=>?_⟩
 have:=h2 i v (by simpa using hi) (by simpa using hv);simpa using this
theorem Qx{bs:Nat}(held:Nat->Nat->Prop){c0 cb:Array Value}{e0 eb:TypeId}{f0 fb:Nat×Nat}(h0:W.heap[0]?=some (.cells c0 e0 f0))(hb:W.heap[bs]?=some (.cells cb eb fb))(hh:∀r i v,held r i->W.cell? ⟨r,i,none⟩=some v->aX v):
  ∃J V,oD J [0,bs] V W/\∀r,r∈[0,bs]->∀i v,held r i->W.cell? ⟨r,i,none⟩=some v->V.cell? ⟨r,i,none⟩=some v:=by
 obtain⟨z0,l0,e0',q0,p0⟩:=Al c0 (held 0) 0 (λi v hi hv=>hh 0 i v hi (by simp[World.cell?,h0,hv]));obtain⟨zb,lb,eb',qb,pb⟩:=Al cb (held bs) l0.length (λi v hi hv=>hh bs i v hi (by simp[World.cell?,hb,hv]));have hl0:=(Array.getElem?_eq_some_iff.1 h0).1;have hlb:=(Array.getElem?_eq_some_iff.1 hb).1;have hJ:Speaks (λs=>(l0++lb).getD s.length (.int .i64 0)) 0 (l0++lb):=λi hi=>by simp[Vr]
 refine⟨λs=>(l0++lb).getD s.length (.int .i64 0),{W with heap:=(W.heap.setIfInBounds 0 (.cells (z0.map (·.1)) e0 f0)).setIfInBounds bs (.cells (zb.map (·.1)) eb fb)},⟨by simp,λb hbm=>?_⟩,λr hr i v hi hv=>?_⟩
 ·by_cases e:b=bs
  ·subst e;refine⟨zb,eb,fb,by simp[hlb],by rw[hb,eb'],λz hz=>qb _ (by simpa using hJ.right) z hz⟩
  ·have e2:b=0:=by simpa[e] using hbm
   subst e2;refine⟨z0,e0,f0,?_,by rw[h0,e0'],λz hz=>q0 _ hJ.left z hz⟩;show ((W.heap.setIfInBounds 0 _).setIfInBounds bs _)[0]?=_;rw[Array.getElem?_setIfInBounds_ne (Xl e)];simp[hl0]
 ·by_cases e:r=bs
  ·subst e;simp only[World.cell?,hb]at hv
   have:=pb i v hi (by simpa using hv);simp only[World.cell?];rw[Array.getElem?_setIfInBounds_self_of_lt (by simpa using hlb)];simpa using this
  ·have e2:r=0:=by simpa[e] using hr
   subst e2;simp only[World.cell?,h0]at hv
   have:=p0 i v hi (by simpa using hv);simp only[World.cell?];rw[Array.getElem?_setIfInBounds_ne (Xl e),Array.getElem?_setIfInBounds_self_of_lt hl0];simpa using this
theorem Pa{K:List Nat}{V W':World}{f:FuncId}{x0 y:Value}(hbl:oD J K V W)(hres:(cR J).res f=.any)(hx:∀π y,VR (cR J) π x0 y->y=x0)(h:uT J K W f (λx w1=>x=x0/\∀k,k<V.heap.size->w1.heap[k]?=(bare K V).heap[k]?) y W'):y=x0/\Go.RowKit.Below W.heap.size W W':=by
 obtain⟨x,w1,τ',⟨rfl,hw1⟩,hcr,hwent,hobj⟩:=h;rw[hres]at hcr;refine⟨hx _ _ hcr,hwent.os,hwent.tape,hwent.output,hwent.grow,λk hk=>?_⟩;by_cases hkK:k∈K
 ·have ht:(kq K W).all k k:=⟨rfl,hkK,hk⟩
  have ht':=hwent.more.all _ _ ht;obtain⟨o,q,ho,hq,hkr⟩:=hobj k k (.inl ht');rw[hw1 k (by rw[hbl.1];exact hk),oT hkK]at ho;obtain⟨zs,e,g,h1,h2,h3⟩:=hbl.2 k hkK;rw[h1]at ho;cases ho
  have:=hkr.all ht';generalize ho:Obj.cells (zs.map (·.1)) e g=o at this;cases this with
  |cells e' f' hxr=>
   cases ho;obtain⟨ys,ex,ey,hy⟩:=hxr;rw[hq,h2,ey];congr 2;exact wG (R:=VR (cR J) τ'.all) ex.symm (λz hz y hzy=>(h3 z hz).one rfl y hzy) hy
  |_=>cases ho
 ·exact hwent.gf k hk λr hr=>hkK (by
   obtain⟨e,h1,_⟩:=lk.1 hr;exact e▸h1)
end
end Go.Proofs.YtldmcdeibiclkaaGreatDoor.U
