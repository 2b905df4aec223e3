/-
  Toward converged_holds: WHAT COMES TO ITS END ON EVERY TAPE COMES TO IT WHOEVER ANSWERS: by a tree, not by a count
-/
import Derived.Test.YtldmcdeibiclkaaGreatDoorC14
import Derived.Conc.LeavingOf
import Derived.Below
import Derived.Test.YtldmcdeibiclkaaGreatDoorC06
set_option linter.unusedVariables false
set_option linter.unusedSimpArgs false
set_option maxRecDepth 100000
set_option maxHeartbeats 20000000
namespace Go.Proofs.YtldmcdeibiclkaaGreatDoor.U
variable {f:FuncId}{w:World}{b k:Nat}{Φ:Value->World->Prop}{π:Nat->Nat->Prop}{x y:Value}{cs:List Frame}{a:List Value}
section
open Go.Conc
section
variable {P:Program} {L:ax} {T:aN}
theorem jA.tape{fr:Frame}(h:jA P L T fr cs w)(t:Nat->Question->Nat):jA P L T fr cs {w with tape:=t}:=by
 obtain⟨τ,h⟩:=h;exact⟨τ,h.dg,h.frame,h.callers,h.bot,h.fit,h.flat,h.cq,h.obj,h.vk⟩
theorem jA.step(A:kD P L T){fr:Frame}{cs B:List Frame}{w:World}(h:jA P L T fr cs w)(hlast:fr.mode= .returning->fr.defers= []->cs≠[]){m:Bool}{g1:Goroutine}{w1:World}{es:Array Event}(e:stepG P m {frame:=fr,callers:=cs++B,status:= .running,dying:=none} w= .go g1 w1 es)(hf:hZ g1):
  ∃fr1 cs1,g1= {frame:=fr1,callers:=cs1++B,status:= .running,dying:=none}/\jA P L T fr1 cs1 w1/\w1.tape=w.tape/\w.drawn<=w1.drawn/\
   ∀t:Nat->Question->Nat,(∀i q,w.drawn<=i->i< w1.drawn->t i q=w.tape i q)->
    stepG P m {frame:=fr,callers:=cs++B,status:= .running,dying:=none} {w with tape:=t}= .go g1 {w1 with tape:=t} es:=by
 obtain⟨τ,h⟩:=h;exact h.step A hlast e hf
theorem jA.zh(A:kD P L T){fr:Frame}{B:List Frame}(h:jA P L T fr cs w)(hlast:fr.mode= .returning->fr.defers= []->cs≠[])(m:Bool):
  fC L.fn B (stepG P m {frame:=fr,callers:=cs++B,status:= .running,dying:=none} w):=by
 obtain⟨τ,h⟩:=h;exact h.zh A hlast m
theorem oT(P:Program)(k:Nat)(m:Machine):runN P (k+1) m=match runN P k m with| .next m'=>step P m'|e=>e:=by
 rw[runN_add];cases runN P k m with
 |next m'=>
  simp only[runN];cases step P m'<;>rfl
 |ended o w=>rfl
theorem vw{P:Program}{a:Nat}{m:Machine}{o:Outcome}(h:runN P a m= .ended o w)(hab:a<=b):runN P b m= .ended o w:=by
 rw[show b=a+(b - a) by omega,runN_add,h]
structure St where
 fr:Frame
 cs:List Frame
 w:World
theorem I5(A:kD P L T){Goal:Frame->List Frame->World->Prop}(hgt:∀fr cs w t,Goal fr cs w->Goal fr cs {w with tape:=t}){fr0:Frame}{cs0:List Frame}{wb:World}(h0:jA P L T fr0 cs0 wb)(hrun:∀t:Nat->Question->Nat,∃n fr cs w,runN P n (lone fr0 (cs0++ [wall]) {wb with tape:=t})= .next (lone fr (cs++ [wall]) w)/\fr.mode= .returning/\Goal fr cs w):Safe P Goal fr0 cs0 wb:=by
 classical
 refine V0 λhno=>?_;let Bad:St->Prop:=λs=>jA P L T s.fr s.cs s.w/\¬ Safe P Goal s.fr s.cs s.w
 have hng:∀s,Bad s->¬ Goal s.fr s.cs s.w:=λs hs hg=>hs.2 (.goal hg);let Last:St->Prop:=λs=>s.fr.mode= .returning/\s.fr.defers= []/\s.cs= []
 have htape:∀s,Bad s->∃t:Nat->Question->Nat,Last s\/¬ ∃fr1 cs1 w1 es,stepG P true {frame:=s.fr,callers:=s.cs++ [wall],status:= .running,dying:=none} {s.w with tape:=t}= .go {frame:=fr1,callers:=cs1++ [wall],status:= .running,dying:=none} w1 es/\hZ {frame:=fr1,callers:=cs1++ [wall],status:= .running,dying:=none}/\Safe P Goal fr1 cs1 w1:=λs hs=>by
  by_cases hl:Last s
  ·exact⟨λ_ _=>0,.inl hl⟩
  ·refine V0 λhx=>hs.2 ?_;have hall:∀t:Nat->Question->Nat,∃fr1 cs1 w1 es,stepG P true {frame:=s.fr,callers:=s.cs++ [wall],status:= .running,dying:=none} {s.w with tape:=t}= .go {frame:=fr1,callers:=cs1++ [wall],status:= .running,dying:=none} w1 es/\hZ {frame:=fr1,callers:=cs1++ [wall],status:= .running,dying:=none}/\Safe P Goal fr1 cs1 w1:=λt=>V0 λhy=>hx ⟨t,.inr hy⟩;exact .step (λt=>(hall t).choose) (λt=>(hall t).choose_spec.choose) (λt=>(hall t).choose_spec.choose_spec.choose) (λt=>(hall t).choose_spec.choose_spec.choose_spec.choose) (hng s hs) hl
    (λt=>(hall t).choose_spec.choose_spec.choose_spec.choose_spec.1) (λt=>(hall t).choose_spec.choose_spec.choose_spec.choose_spec.2.1) (λt=>(hall t).choose_spec.choose_spec.choose_spec.choose_spec.2.2)
 let tp:St->Nat->Question->Nat:=λs=>if h:Bad s then (htape s h).choose else λ_ _=>0
 have htp:∀s,Bad s->Last s\/¬ ∃fr1 cs1 w1 es,stepG P true {frame:=s.fr,callers:=s.cs++ [wall],status:= .running,dying:=none} {s.w with tape:=tp s}= .go {frame:=fr1,callers:=cs1++ [wall],status:= .running,dying:=none} w1 es/\hZ {frame:=fr1,callers:=cs1++ [wall],status:= .running,dying:=none}/\Safe P Goal fr1 cs1 w1:=λs hs=>by
  have:=(htape s hs).choose_spec;simp only[tp,hs,dif_pos];exact this
 let Nx:St->St->Prop:=λs s1=>¬ Last s/\∃es,stepG P true {frame:=s.fr,callers:=s.cs++ [wall],status:= .running,dying:=none} {s.w with tape:=tp s}= .go {frame:=s1.fr,callers:=s1.cs++ [wall],status:= .running,dying:=none} s1.w es/\hZ {frame:=s1.fr,callers:=s1.cs++ [wall],status:= .running,dying:=none}
 have hlast:∀s,¬ Last s->(s.fr.mode= .returning->s.fr.defers= []->s.cs≠[]):=λs hs h1 h2 h3=>hs ⟨h1,h2,h3⟩;have hnx:∀s s1,Bad s->Nx s s1->Bad s1/\s.w.drawn<=s1.w.drawn:=λs s1 hs hn=>by
  obtain⟨hnl,es,e,hf⟩:=hn;obtain⟨fr1,cs1,g1,hok,_,hdr,_⟩:=(hs.1.tape (tp s)).step A (hlast s hnl) e hf;simp only[Goroutine.mk.injEq] at g1;obtain⟨g2,g3,_⟩:=g1;have g4:=WU g3;subst g2 g4;exact⟨⟨hok,λhsafe=>(htp s hs).elim hnl λhx=>hx ⟨_,_,_,es,e,hf,hsafe⟩⟩,hdr⟩
 let nxt:Option St->Option St:=λo=>o.bind λs=>if h: ∃s1,Nx s s1 then some h.choose else none
 let ch:Nat->Option St:=λk=>Nat.rec (some ⟨fr0,cs0,wb⟩) (λ_ o=>nxt o) k
 have ch0:ch 0=some ⟨fr0,cs0,wb⟩:=rfl;have chS:∀k,ch (k+1)=nxt (ch k):=λ_=>rfl;have hbad:∀k s,ch k=some s->Bad s:=by
  intro k;induction k with
  |zero=>intro s hs;rw[ch0] at hs;cases hs;exact⟨h0,hno⟩
  |succ k ih=>
   intro s hs;rw[chS] at hs;simp only[nxt] at hs;cases hk:ch k with
   |none=>rw[hk] at hs;cases hs
   |some s'=>
    rw[hk] at hs;simp only[Xj] at hs;split at hs
    ·rename_i hx;cases hs;exact (hnx s' _ (ih s' hk) hx.choose_spec).1
    ·cases hs
 have hstep:∀k s s1,ch k=some s->ch (k+1)=some s1->Nx s s1:=by
  intro k s s1 hs hs1;rw[chS,hs] at hs1;simp only[nxt,Xj] at hs1;split at hs1
  ·rename_i hx;cases hs1;exact hx.choose_spec
  ·cases hs1
 have hstop:∀k s,ch k=some s->ch (k+1)=none->¬ ∃s1,Nx s s1:=by
  intro k s hs hs1 hx;rw[chS,hs] at hs1;simp only[nxt,Xj,hx,dif_pos] at hs1;cases hs1
 have hmono:∀k d s s1,ch k=some s->ch (k+d)=some s1->s.w.drawn<=s1.w.drawn:=by
  intro k d;induction d with
  |zero=>intro s s1 hs hs1;rw[Nat.add_zero,hs] at hs1;cases hs1;exact eR _
  |succ d ih=>
   intro s s1 hs hs1;cases hd:ch (k+d) with
   |none=>
    have e:ch (k+(d+1))=nxt (ch (k+d)):=chS (k+d);rw[e,hd] at hs1;cases hs1
   |some s'=>exact OF (ih s s' hs hd) (hnx s' s1 (hbad _ _ hd) (hstep _ _ _ hd hs1)).2
 let On:Nat->St->Nat->Prop:=λi s k=>ch k=some s/\s.w.drawn<=i/\∀s1,ch (k+1)=some s1->i< s1.w.drawn
 let Tp:Nat->Question->Nat:=λi q=>if h: ∃s k,On i s k then tp h.choose i q else 0
 have hT:∀i q s k,On i s k->Tp i q=tp s i q:=by
  intro i q s k hon;have hx: ∃s k,On i s k:=⟨s,k,hon⟩
  simp only[Tp,hx,dif_pos];have hsp:=hx.choose_spec;obtain⟨k',hon'⟩:=hsp;have heq:hx.choose=s:=by
   rcases Nat.lt_trichotomy k k' with hlt|heq|hgt'
   ·exfalso;cases hs1:ch (k+1) with
    |none=>
     have hall:∀d,ch (k+1+d)=none:=by
      intro d;induction d with
      |zero=>exact hs1
      |succ d ih=>show nxt (ch (k+1+d))=none;rw[ih];rfl
     have:=hall (k' - (k+1));rw[show k+1+(k' - (k+1))=k' by omega,hon'.1] at this;cases this
    |some s1=>
     have h1:=hon.2.2 s1 hs1;have h2:=hmono (k+1) (k' - (k+1)) s1 hx.choose hs1 (by rw[show k+1+(k' - (k+1))=k' by omega];exact hon'.1);have h3:=hon'.2.1;omega
   ·subst heq
    have:=hon'.1;rw[hon.1] at this;exact (VV this).symm
   ·exfalso;cases hs1:ch (k'+1) with
    |none=>
     have hall:∀d,ch (k'+1+d)=none:=by
      intro d;induction d with
      |zero=>exact hs1
      |succ d ih=>show nxt (ch (k'+1+d))=none;rw[ih];rfl
     have:=hall (k - (k'+1));rw[show k'+1+(k - (k'+1))=k by omega,hon.1] at this;cases this
    |some s1=>
     have h1:=hon'.2.2 s1 hs1;have h2:=hmono (k'+1) (k - (k'+1)) s1 s hs1 (by rw[show k'+1+(k - (k'+1))=k by omega];exact hon.1);have h3:=hon.2.1;omega
  rw[heq]
 have hfollow:∀k s,ch k=some s->runN P k (lone fr0 (cs0++ [wall]) {wb with tape:=Tp})= .next (lone s.fr (s.cs++ [wall]) {s.w with tape:=Tp}):=by
  intro k;induction k with
  |zero=>intro s hs;rw[ch0] at hs;cases hs;rfl
  |succ k ih=>
   intro s1 hs1;cases hk:ch k with
   |none=>rw[chS,hk] at hs1;cases hs1
   |some s=>
    have hn:=hstep k s s1 hk hs1;obtain⟨hnl,es,e,hf⟩:=hn;have hb:=hbad k s hk;obtain⟨fr1,cs1,g1,hok,htp',hdr,hcong⟩:=(hb.1.tape (tp s)).step A (hlast s hnl) e hf;have hc:=hcong Tp (λi q hi1 hi2=>hT i q s k ⟨hk,hi1,λs2 hs2=>by rw[hs1] at hs2;cases hs2;exact hi2⟩);have hst:step P (lone s.fr (s.cs++ [wall]) {s.w with tape:=Tp})= .next (lone s1.fr (s1.cs++ [wall]) {s1.w with tape:=Tp}):=step_lone_go (by
     have hc':stepG P true {frame:=s.fr,callers:=s.cs++ [wall],status:= .running,dying:=none} {s.w with tape:=Tp}=_:=hc;rw[hc'];rfl)
    rw[oT,ih s hk];exact hst
 obtain⟨n,fr,cs,w,hn,hmode,hg⟩:=hrun Tp;cases hcn:ch n with
 |some s=>
  have:=hfollow n s hcn;rw[hn] at this;simp only[lone,Stepped.next.injEq,Machine.mk.injEq,Array.mk.injEq,WE,Goroutine.mk.injEq,Wp] at this;obtain⟨hw,hfr,hcs⟩:=this;have hcs':=WU hcs;subst hfr hcs' hw
  have:=hgt _ _ _ s.w.tape hg;exact hng s (hbad n s hcn) this
 |none=>
  have hex: ∃k s,k< n/\ch k=some s/\ch (k+1)=none:=by
   have:∀m,ch m=none->∃k s,k< m/\ch k=some s/\ch (k+1)=none:=by
    intro m;induction m with
    |zero=>intro h;rw[ch0] at h;cases h
    |succ m ih=>
     intro h;cases hm:ch m with
     |none=>obtain⟨k,s,h1,h2⟩:=ih hm;exact⟨k,s,by omega,h2⟩
     |some s=>exact⟨m,s,by omega,hm,h⟩
   exact this n hcn
  obtain⟨k,s,bz,hk,hk1⟩:=hex;have hb:=hbad k s hk;have hstp:=hstop k s hk hk1;have hfk:=hfollow k s hk;have hTs:∀i q,s.w.drawn<=i->Tp i q=tp s i q:=λi q hi=>hT i q s k ⟨hk,hi,λs2 hs2=>by rw[hk1] at hs2;cases hs2⟩;have hokT:=hb.1.tape Tp;by_cases hL:Last s
  case neg=>
   have hlst:=hlast s hL;rcases hokT.zh A (B:=[wall]) hlst true with ⟨g1,w1,es,e,hf⟩|⟨o,w1,es,e⟩|⟨g1,w1,es,e,hp⟩
   ·
    obtain⟨fr1,cs1,rfl,hok1,htt,hdr,hcong⟩:=hokT.step A hlst e hf;have hc:=hcong (tp s) (λi q hi1 _=>(hTs i q hi1).symm);exact hstp ⟨⟨fr1,cs1,{w1 with tape:=tp s}⟩,hL,es,hc,hf⟩
   ·have hst:step P (lone s.fr (s.cs++ [wall]) {s.w with tape:=Tp})= .ended o w1:=step_lone_ended (by rw[e];rfl);have hend:runN P (k+1) (lone fr0 (cs0++ [wall]) {wb with tape:=Tp})= .ended o w1:=by rw[oT,hfk];exact hst
    have:=vw hend (show k+1<=n by omega);rw[hn] at this;cases this
   ·obtain⟨fr1,cs1,ch1,rfl,hm1,hf1,hc1,hd1⟩:=hp;have hst:step P (lone s.fr (s.cs++ [wall]) {s.w with tape:=Tp})= .next (lone fr1 (cs1++ [wall]) w1):=step_lone_go (by rw[e];rfl);have hrun2:runN P (k+1) (lone fr0 (cs0++ [wall]) {wb with tape:=Tp})= .next (lone fr1 (cs1++ [wall]) w1):=by rw[oT,hfk];exact hst
    have hn':=hn;rw[show n=(k+1)+(n - (k+1)) by omega,runN_add,hrun2] at hn';obtain⟨g,hg1,ch2,hg2⟩:=panics A _ fr1 cs1 w1 ch1 hm1 hf1 hc1 hd1 _ hn';simp only[lone] at hg1;cases hg1;have hg3:fr.mode= .panicking ch2:=hg2;rw[hmode] at hg3;cases hg3
  case pos=>
   obtain⟨l1,l2,l3⟩:=hL;obtain⟨τ,hbt⟩:=hb.1;obtain⟨fn,c,f1,f2,_⟩:=A.stat.bX.body s.fr.fn hbt.frame.bX hbt.frame.np;have e1:stepG P true {frame:=s.fr,callers:=s.cs++ [wall],status:= .running,dying:=none} {s.w with tape:=Tp}=unwind P true s.fr (s.cs++ [wall]) none {s.w with tape:=Tp}:=by simp only[stepG,l1]
   rw[o7 l2 l1 f1] at e1;have hwall:∀(o:Outcome) (x:World),runN P (k+1) (lone fr0 (cs0++ [wall]) {wb with tape:=Tp})= .ended o x->False:=λo x hx=>by
    have:=vw hx (show k+1<=n by omega);rw[hn] at this;cases this
   cases hr:(results fn s.fr.tmps).runT P {s.w with tape:=Tp} #[] with
   |mk r es=>
    rw[hr] at e1;cases r with
    |halt hh w1=>
     have hst: ∃o,step P (lone s.fr (s.cs++ [wall]) {s.w with tape:=Tp})= .ended o w1:=by
      cases hh<;>exact⟨_,step_lone_ended (by rw[e1];rfl)⟩
     obtain⟨o,hst⟩:=hst;exact hwall o w1 (by rw[oT,hfk];exact hst)
    |ok v w1=>
     have hdr:doReturn P true s.fr (s.cs++ [wall]) none v w1= .go {frame:=wall,callers:=[],status:= .running,dying:=none} w1:=by
      rw[l3];simp only[List.nil_append,doReturn,hbt.frame.kind.1];rfl
     have hst:step P (lone s.fr (s.cs++ [wall]) {s.w with tape:=Tp})= .next (lone wall [] w1):=step_lone_go (by
      rw[e1];simp only[nL,hdr];rfl)
     have h1:runN P (k+1) (lone fr0 (cs0++ [wall]) {wb with tape:=Tp})= .next (lone wall [] w1):=by rw[oT,hfk];exact hst
     have hst2: ∃o,step P (lone wall [] w1)= .ended o w1:=⟨_,step_lone_ended (by simp only[stepG,wall,stepG.exec];rfl)⟩
     obtain⟨o,hst2⟩:=hst2;by_cases hnk:n=k+1
     ·rw[hnk,h1] at hn;simp only[lone,Stepped.next.injEq,Machine.mk.injEq,Array.mk.injEq,WE,Goroutine.mk.injEq,Wp] at hn;obtain⟨_,_,hcs⟩:=hn;simp at hcs
     ·have h2:runN P (k+2) (lone fr0 (cs0++ [wall]) {wb with tape:=Tp})= .ended o w1:=by rw[oT,h1];exact hst2
      have:=vw h2 (show k+2<=n by omega);rw[hn] at this;cases this
theorem UZ(A:kD P L T){args:Array Value}{w0:World}(h0:jA P L T (Frame.enter P f args .normal) [] w0)(hΦ:∀v w (t:Nat->Question->Nat),Φ v w->Φ v {w with tape:=t})(hc:∀t:Nat->Question->Nat,Calls P f args {w0 with tape:=t} λe w'=>∃v,e= .returned v/\Φ v w'):
  Safe P (yq P f Φ) (Frame.enter P f args .normal) [] w0:=by
 refine I5 A (cs0:=[]) ?_ h0 ?_
 ·rintro fr cs w t ⟨h1,h2,h3,h4,fn,v,h5,⟨t',h6⟩,h7⟩;exact⟨h1,h2,h3,h4,fn,v,h5,⟨t',h6⟩,hΦ v w t h7⟩
 ·intro t;obtain⟨e,w',fr,⟨v,rfl,hφ⟩,⟨n,hn⟩,hfn,hm,hd,hk,fn,hfn2,hres⟩:=hc t [wall];refine⟨n,fr,[],w',hn,hm,rfl,hfn,hm,hd,fn,v,hfn ▸ hfn2,⟨w'.tape,hres⟩,hφ⟩
end
end
set_option maxRecDepth 100000
def mL:aN:={dR with bJ:=0}
abbrev ix:ax:=cL ju
def uW(Q:Program)(f:Nat)(fn:Func):Bool:=match fn.body with|some c=>dL Q ix mL f c && kO ix mL f fn|none=>false
theorem UU:(qa.all λf=>f==fQ||(Tryz.prog.funcs[f]?).all (uW Qg f))=true:=by kernel_rfl
theorem Mh:uW Qg fQ mz=true:=by kernel_rfl
theorem Ui(f:Nat)(hf:ix.fn f): ∃fn c,Gg[f]? =some fn/\fn.body=some c/\dL Qg ix mL f c=true/\kO ix mL f fn=true:=by
 have un:∀fn,uW Qg f fn=true->∃c,fn.body=some c/\dL Qg ix mL f c=true/\kO ix mL f fn=true:=λfn h=>by
  unfold uW at h;split at h
  ·rename_i c hc;simp only[IN] at h;exact⟨c,hc,h⟩
  ·cases h
 by_cases hn:f=fQ
 ·subst hn;obtain⟨c,h⟩:=un _ Mh;exact⟨mz,c,A0,h⟩
 ·have hm:f∈qa:=by simpa[cL,dR] using hf
  have:=List.all_eq_true.1 UU f hm;simp only[VU,beq_iff_eq] at this
  have:=this.resolve_left hn;obtain⟨fn,_,h1,h2,_⟩:=xr (J:=ju) f hf hn;rw[h1] at this;obtain⟨c,h⟩:=un fn this;exact⟨fn,c,h2,h⟩
theorem DE:Let Qg Qg.funcs ix mL:=by
 refine⟨λf hf _=>?_,λf hf=>?_,⟨kY.fb,kY.cb,kY.ib,kY.lb,kY.fj,kY.loc,kY.ar,kY.dM⟩,xG,yx⟩
 ·obtain⟨fn,c,h1,h2,h3,h4⟩:=Ui f hf;exact⟨fn,c,h1,h1,h2,h3,h4⟩
 ·have:=(xf.plain f hf).2;exact⟨this,this⟩
theorem DT:kD Qg ix mL:=⟨⟨uy,(p9 ix).1,(p9 ix).2,DE⟩,rfl,λh=>by
 have:qa.contains 0=true:=h;exact absurd this (by decide)⟩
def bare(K:List Nat)(W:World):World:={W with heap:=W.heap.mapIdx λi o=>if K.contains i then o else .cells #[] 0}
theorem tn(K:List Nat)(W:World):(bare K W).heap.size=W.heap.size:=by simp[bare]
theorem nC{K:List Nat}{W:World}(h:b∈K):(bare K W).heap[b]? =W.heap[b]? :=by
 unfold bare;simp only[Array.getElem?_mapIdx];cases hx:W.heap[b]? with
 |none=>rfl
 |some o=>simp[h]
theorem M5{K:List Nat}{W:World}(h:b∉K){o:Obj}(ho:(bare K W).heap[b]? =some o):o= .cells #[] 0:=by
 unfold bare at ho;simp only[Array.getElem?_mapIdx] at ho;cases hx:W.heap[b]? with
 |none=>rw[hx] at ho;cases ho
 |some q=>rw[hx] at ho;simpa[h] using ho.symm
def Cx(W:World)(b:Nat):Prop:=∃c e f,W.heap[b]? =some (.cells c e f)/\∀x∈c,∀π,VR ix π x x
def pe(K:List Nat)(W:World)(v:Value):Prop:=rz 8 v=true\/∃a n c,v= .slice (some a) n c/\a.block∈K/\a.block< W.heap.size
def jY(K:List Nat)(W:World):ai:=⟨λr s=>r=s/\r∈K/\r< W.heap.size,λr s=>r=s/\r∈K/\r< W.heap.size,λ_ _=>False,λ_ _=>False⟩
theorem kq{K:List Nat}{W:World}{r s:Nat}:(jY K W).un r s↔r=s/\r∈K/\r< W.heap.size:=by simp[ai.un,jY]
theorem Cp(K:List Nat)(W:World):Fit (jY K W):=
 {own:=λ_ _ h=>h
  two:=λ_ _ _ _ h=>h.elim
  mf:=λ_ _ _ _ h=>h.elim
  mI:=λ_ _ _ h=>h.elim
  fn:=λr s t h k=>by rw[←(kq.1 h).1,←(kq.1 k).1]
  inj:=λr s t h k=>by rw[(kq.1 h).1,(kq.1 k).1]}
theorem EZ{K:List Nat}{W:World}(h0:0∈K)(hs:0< W.heap.size){T:aN}(hn:T.ng=1):Flat T (jY K W):=by
 refine⟨λ_ _ _ h=>h,λg hg=>?_⟩;rw[hn] at hg;obtain rfl:g=0:=by omega
 exact⟨rfl,h0,hs⟩
theorem GC{L:ax}{K:List Nat}{W:World}{v:Value}(h:pe K W v):VR L (jY K W).all v v:=by
 rcases h with h|⟨a,n,c,rfl,h1,h2⟩
 ·exact uS 8 v h
 ·exact .slice n c ⟨⟨rfl,h1,h2⟩,rfl,rfl⟩
theorem Dr{L:ax}{K:List Nat}{W:World}(hcol:∀i,L.cR f i= .any){args:Array Value}(ha:∀v∈args,pe K W v):TR L (jY K W) f args args:=
 ⟨rfl,λi x y hx hy=>by
  rw[hx] at hy;cases hy;rw[hcol i];exact GC (ha x (Array.mem_of_getElem? hx))⟩
theorem Uj(P:Program)(f:FuncId)(xs:Array Value):(Frame.enter P f xs .normal).roundOf=none:=by
 unfold Frame.enter;rfl
theorem HY{K:List Nat}{W:World}(h0:0∈K)(hs:0< W.heap.size)(hfl:∀b∈K,Cx W b)(hf:ix.fn f)(hcol:∀i,ix.cR f i= .any){args:Array Value}(ha:∀v∈args,pe K W v)(hΦ:∀v w (t:Nat->Question->Nat),Φ v w->Φ v {w with tape:=t})(hc:∀t:Nat->Question->Nat,Calls Qg f args {bare K W with tape:=t} λe w'=>∃v,e= .returned v/\Φ v w'):
  Safe Qg (yq Qg f Φ) (Frame.enter Qg f args .normal) [] (bare K W):=by
 refine UZ DT ⟨jY K W,λr s h=>(kq.1 h).1,bP.enter DE hf (λe=>DT.np (e ▸ hf)) (Dr hcol ha),.nil _,Uj _ _ _,Cp K W,EZ h0 hs rfl,λr s h=>?_,λr s h=>?_,λr d h=>?_⟩ hΦ hc
 ·rw[tn];exact (kq.1 h).2.2
 ·obtain⟨rfl,hk,hlt⟩:=kq.1 h;obtain⟨c,e,g,h1,h2⟩:=hfl r hk;refine⟨_,_,by rw[nC hk];exact h1,by rw[nC hk];exact h1,λ_=>?_,λh=>h.elim,λh=>h.elim⟩
  have:=OR.cells (L:=ix) (τ:=jY K W) e g (xs:=c) (ys:=c) ⟨c.map λx=>(x,x),by simp[Wv],by simp[Wv],λz hz=>by
   obtain⟨x,hx,rfl⟩:=Array.mem_map.1 hz;exact h2 x hx _⟩
  exact this
 ·by_cases hr:r∈K
  ·rw[nC hr] at h;obtain⟨c,e,f,h1,_⟩:=hfl r hr;rw[h1] at h;cases h
  ·have:=M5 hr h;cases this
set_option maxRecDepth 100000
inductive FV (J:String->Value):Value->Value->Prop
 |bc (s:String):(∀c,J s≠.agg c)->(∀c,J s≠.tuple c)->(∀b,J s≠.bool b)->FV J (.func (.method s) #[.nilIface] #[]) (J s)
 |bool (b:Bool):FV J (.bool b) (.bool b)
 |int (k:IntKind) (n:Int):FV J (.int k n) (.int k n)
 |string (s:ByteArray):FV J (.string s) (.string s)
 |agg (xs:Array (Value×Value)):(∀z∈xs,FV J z.1 z.2)->FV J (.agg (xs.map (·.1))) (.agg (xs.map (·.2)))
 |tuple (xs:Array (Value×Value)):(∀z∈xs,FV J z.1 z.2)->FV J (.tuple (xs.map (·.1))) (.tuple (xs.map (·.2)))
theorem FV.vr{J:String->Value}{L:ax}(hL:L.bc=J)(h:FV J x y):VR L π x y:=by
 subst hL;induction h with
 |bc s a b c=>exact .bc s a b c
 |bool b=>exact .bool b
 |int k n=>exact .int k n
 |string s=>exact .string s
 |agg xs _ ih=>exact .agg xs ih
 |tuple xs _ ih=>exact .tuple xs ih
theorem FV.self{J:String->Value}{L:ax}(hL:L.bc=ju)(h:FV J x y):VR L π x x:=by
 induction h with
 |bc s a b c=>
  have:=VR.bc (L:=L) (π:=π) s (λc e=>by rw[hL] at e;cases e) (λc e=>by rw[hL] at e;cases e) (λb e=>by rw[hL] at e;cases e);rw[hL] at this;exact this
 |bool b=>exact .bool b
 |int k n=>exact .int k n
 |string s=>exact .string s
 |agg xs _ ih=>
  have:=VR.agg (L:=L) (π:=π) (xs.map λz=>(z.1,z.1)) (λz hz=>by
   obtain⟨q,hq,rfl⟩:=Array.mem_map.1 hz;exact ih q hq)
  simpa[Array.map_map,Wv] using this
 |tuple xs _ ih=>
  have:=VR.tuple (L:=L) (π:=π) (xs.map λz=>(z.1,z.1)) (λz hz=>by
   obtain⟨q,hq,rfl⟩:=Array.mem_map.1 hz;exact ih q hq)
  simpa[Array.map_map,Wv] using this
theorem xy{R:Value->Value->Prop}{xs ys:Array (Value×Value)}(e:ys.map (·.1)=xs.map (·.1))(h:∀z∈xs,∀y,R z.1 y->y=z.2)(hy:∀z∈ys,R z.1 z.2):ys.map (·.2)=xs.map (·.2):=by
 have hs:ys.size=xs.size:=by simpa using congrArg Array.size e
 apply VT (by simpa using hs);intro i h1 h2;have i1:i< ys.size:=by simpa using h1
 have i2:i< xs.size:=by simpa using h2
 have ei:ys[i].1=xs[i].1:=by
  have:=congrArg (λa:Array Value=>a[i]?) e;simpa[i1,i2] using this
 simp only[Array.getElem_map];refine h xs[i] (Array.getElem_mem i2) _ ?_;rw[←ei];exact hy _ (Array.getElem_mem i1)
theorem FV.one{J:String->Value}{L:ax}(hL:L.bc=J)(h:FV J x y):∀y',VR L π x y'->y'=y:=by
 subst hL;induction h with
 |bc s a b c=>intro y' h;generalize hx:(Value.func (.method s) #[.nilIface] #[])=x at h;cases h<;>first|(cases hx;rfl)|cases hx
 |bool b=>intro y' h;cases h;rfl
 |int k n=>intro y' h;cases h;rfl
 |string s=>intro y' h;cases h;rfl
 |agg xs _ ih=>
  intro y' h;generalize hx:Value.agg (xs.map (·.1))=x at h;cases h with
  |agg ys hy=>
   congr 1;exact xy (R:=VR L π) (by injection hx with hx;exact hx.symm) ih hy
  |_=>cases hx
 |tuple xs _ ih=>
  intro y' h;generalize hx:Value.tuple (xs.map (·.1))=x at h;cases h with
  |tuple ys hy=>
   congr 1;exact xy (R:=VR L π) (by injection hx with hx;exact hx.symm) ih hy
  |_=>cases hx
def nm(k:Nat):String:=String.ofList (List.replicate k default)
theorem Qf(k:Nat):(nm k).length=k:=by simp[nm]
def Speaks(J:String->Value)(k:Nat)(ls:List Value):Prop:=∀i,i< ls.length->J (nm (k+i))=ls.getD i (.int .i64 0)
theorem Speaks.left{J:String->Value}{b:List Value}(h:Speaks J k (a++b)):Speaks J k a:=λi hi=>by
 rw[h i (by simp;omega)];simp[List.getD,List.getElem?_append_left hi]
theorem Speaks.right{J:String->Value}{b:List Value}(h:Speaks J k (a++b)):Speaks J (k+a.length) b:=λi hi=>by
 rw[Nat.add_assoc,h (a.length+i) (by simp;omega)];simp[List.getD,List.getElem?_append_right]
theorem xb(n:Nat)(hv:∀v:Value,SizeOf.sizeOf v< n->∀k,∃x ls,∀J,Speaks J k ls->FV J x v):∀(l:List Value),(∀v∈l,SizeOf.sizeOf v< n)->∀k,∃(zs:List (Value×Value)) (ls:List Value),zs.map (·.2)=l/\∀J,Speaks J k ls->∀z∈zs,FV J z.1 z.2
 |[],_,k=>⟨[],[],rfl,λJ _ z hz=>by simp at hz⟩
 |v::l,h,k=>by
  obtain⟨x,l1,h1⟩:=hv v (h v (by simp)) k;obtain⟨zs,l2,e2,h2⟩:=xb n hv l (λu hu=>h u (by simp[hu])) (k+l1.length);refine⟨(x,v)::zs,l1++l2,by simp[e2],λJ hJ z hz=>?_⟩;rcases Xm.1 hz with rfl|hz
  ·exact h1 J hJ.left
  ·exact h2 J hJ.right z hz
theorem MV(n:Nat):∀v:Value,SizeOf.sizeOf v< n->∀k,∃x ls,∀J,Speaks J k ls->FV J x v:=by
 induction n with
 |zero=>intro v h;omega
 |succ n ih=>
  intro v hs k;have other:(∀c,v≠.agg c)->(∀c,v≠.tuple c)->(∀b,v≠.bool b)->∃x ls,∀J,Speaks J k ls->FV J x v:=λa b c=>
   ⟨.func (.method (nm k)) #[.nilIface] #[],[v],λJ hJ=>by
    have e:J (nm k)=v:=by simpa using hJ 0 (by simp)
    have:=FV.bc (J:=J) (nm k) (by rw[e];exact a) (by rw[e];exact b) (by rw[e];exact c);rw[e] at this;exact this⟩
  cases v with
  |bool b=>exact⟨.bool b,[],λJ _=> .bool b⟩
  |agg c=>
   have hc:∀v∈c.toList,SizeOf.sizeOf v< n:=λv hv=>by
    have h1:=Array.sizeOf_lt_of_mem (Array.mem_toList_iff.1 hv);have h2:SizeOf.sizeOf (Value.agg c)=1+SizeOf.sizeOf c:=by simp
    omega
   obtain⟨zs,ls,e,h⟩:=xb n ih c.toList hc k;refine⟨.agg (zs.toArray.map (·.1)),ls,λJ hJ=>?_⟩
   have:=FV.agg (J:=J) zs.toArray (λz hz=>h J hJ z (by simpa using hz));have e2:zs.toArray.map (·.2)=c:=by apply Array.ext';simpa using e
   rw[e2] at this;exact this
  |tuple c=>
   have hc:∀v∈c.toList,SizeOf.sizeOf v< n:=λv hv=>by
    have h1:=Array.sizeOf_lt_of_mem (Array.mem_toList_iff.1 hv);have h2:SizeOf.sizeOf (Value.tuple c)=1+SizeOf.sizeOf c:=by simp
    omega
   obtain⟨zs,ls,e,h⟩:=xb n ih c.toList hc k;refine⟨.tuple (zs.toArray.map (·.1)),ls,λJ hJ=>?_⟩
   have:=FV.tuple (J:=J) zs.toArray (λz hz=>h J hJ z (by simpa using hz));have e2:zs.toArray.map (·.2)=c:=by apply Array.ext';simpa using e
   rw[e2] at this;exact this
  |_=>exact other (λc e=>by cases e) (λc e=>by cases e) (λb e=>by cases e)
section
open Go.Conc
set_option maxRecDepth 100000
theorem Oz{P:Program}{fr:Frame}(hk:fr.kind= .normal)(h:P.inits.idxOf? fr.fn=none)(v:Value)(w:World):doReturn P true fr [] none v w= .ended (.done v) w:=by
 simp[doReturn,hk,h]
def sq(J:String->Value)(K:List Nat)(W:World)(f:FuncId)(Φ:Value->World->Prop)(y:Value)(W':World):Prop:=
 ∃x w1 τ',Φ x w1/\CR (cL J) τ' ((cL J).res f) x y/\lO (jY K W) τ' W W'/\∀r s,τ'.un r s->∃o q,w1.heap[r]? =some o/\W'.heap[s]? =some q/\KR (cL J) (CC Pg (cL J) dR) τ' r s o q
def nH(J:String->Value)(K:List Nat)(V W:World):Prop:=V.heap.size=W.heap.size/\∀b∈K,∃zs:Array (Value×Value),∃e g,V.heap[b]? =some (.cells (zs.map (·.1)) e g)/\W.heap[b]? =some (.cells (zs.map (·.2)) e g)/\∀z∈zs,FV J z.1 z.2
theorem nH.flat{J:String->Value}{K:List Nat}{V W:World}(h:nH J K V W):∀b∈K,Cx V b:=λb hb=>by
 obtain⟨zs,e,g,h1,_,h3⟩:=h.2 b hb;refine⟨_,e,g,h1,λx hx π=>?_⟩;obtain⟨z,hz,rfl⟩:=Array.mem_map.1 hx;exact (h3 z hz).self rfl
section
variable {K:List Nat} {V W:World} {J:String->Value}
theorem Tm(h0:0∈K)(hs:0< W.heap.size)(hbl:nH J K V W)(hf:(cL J).fn f)(hnp:f≠fQ)(hcol:∀i,(cL J).cR f i= .any){args:Array Value}(ha:∀v∈args,pe K W v):
  iY Pg Gg (cL J) dR (λ_=>False) [] (jY K W) (Frame.enter Qg f args .normal) [] (bare K V) #[G (Frame.enter Pg f args .normal) []] W #[] (λ_=>0):=by
 refine⟨⟨_,rfl,⟨⟨?_,⟨rfl,rfl⟩,⟨rfl,rfl⟩,⟨rfl,rfl⟩,[],[],rfl,rfl,.nil _,rfl⟩,?_,?_,λr s h=>?_,λr s h=>?_⟩⟩,leavers_one _ _,?_,λr s _ h=>h,λs h=>h.elim⟩
 ·refine iy.enter xf hf (Dr hcol ha) (λk hk=>?_);have:(if f==fQ then some 3 else none)=some k:=hk;rw[AI (by simpa using hnp)] at this;cases this
 ·exact Cp K W
 ·exact EZ h0 hs rfl
 ·obtain⟨rfl,_,hlt⟩:=kq.1 h;exact⟨by rw[tn,hbl.1];exact hlt,hlt⟩
 ·obtain⟨rfl,hk,hlt⟩:=kq.1 h;obtain⟨zs,e,g,h1,h2,h3⟩:=hbl.2 r hk;refine⟨_,_,by rw[nC hk];exact h1,h2,λ_=> .cells e g ⟨zs,rfl,rfl,λz hz=>(h3 z hz).vr rfl⟩,λh=>h.elim,λh=>h.elim⟩
 ·have:=past_nil;exact⟨this.clean,λi a ha=>by simp[touchAt,Trace.act?] at ha,this.over,this.hears,λop ag=>by simp at ag⟩
theorem Qh(h0:0∈K)(hs:0< W.heap.size)(hbl:nH J K V W)(hf:(cL J).fn f)(hnp:f≠fQ)(hin:Pg.inits.idxOf? f=none)(hcol:∀i,(cL J).cR f i= .any){args:Array Value}(ha:∀v∈args,pe K W v)(hΦ:∀v w (t:Nat->Question->Nat),Φ v w->Φ v {w with tape:=t})(hc:∀t:Nat->Question->Nat,Calls Qg f args {bare K V with tape:=t} λe w'=>∃v,e= .returned v/\Φ v w'):
  ∃M last o w' t',runNT Pg (M+1) (solo (G (Frame.enter Pg f args .normal) []) W) #[]=(.ended o w',t')/\runN Pg M (solo (G (Frame.enter Pg f args .normal) []) W)= .next last/\step Pg last= .ended o w'/\Go.Conc.Good Pg (sq J K W f Φ) last o w' t':=by
 have hsafe:=HY (W:=V) h0 (by rw[hbl.1];exact hs) hbl.flat (f:=f) hf hcol (λv hv=>(ha v hv).imp id λ⟨a,n,c,e,h1,h2⟩=>⟨a,n,c,e,h1,by rw[hbl.1];exact h2⟩) hΦ hc;have hg:∀fr cs w,yq Qg f Φ fr cs w->cs= []/\fr.fn≠fQ:=λfr cs w h=>⟨h.1,by rw[h.2.1];exact hnp⟩
 obtain⟨N,gs',v',sl',t',q',τ',fr',cs',w1,Sh',hr,hb,hgoal,hwent⟩:=(TS Bd (GD hg []) hsafe).1 _ W none _ _ _ _ (Tm h0 hs hbl hf hnp hcol ha);obtain⟨rfl,hfn,hmode,hdef,fn,x,hfun,⟨tp,hres⟩,hφ⟩:=hgoal;obtain⟨h,hh0,hS⟩:=hb.main;have hfun':Pg.funcs[fr'.fn]? =some fn:=by
  rw[hfn,←yE hnp];exact hfun
 have hend:Goes Pg true AtRel (λ_ _ _=>False) (AtEnd Pg (jI Sh') v'.heap.size (sq J K W f Φ)) 0 h v':=by
  rintro _ ⟨d,rfl⟩;obtain⟨y,fs,hy,hev,hcl,hkind,hfn2,hst⟩:=(hS.at d).last Bd true (show fr'.fn≠dR.bJ by rw[hfn];exact hnp) ⟨hmode,hdef,rfl⟩ hfun' hres;refine⟨hS.g.status.2,y,fs,?_,λe he=>F6 (hev e he) ?_ ?_,x,w1,τ',hφ,?_,?_,?_⟩
  ·rw[hst];have hff:h.frame.fn=f:=hfn2.trans hfn;rw[Oz hkind (by rw[hff];exact hin)];simp[GStep.after]
  ·rintro s ⟨r,hx⟩ hsh;exact hb.apart r s hx hsh
  ·rintro s ⟨r,hx⟩;exact (hS.cq r s hx).2
  ·have hy':CR (cL J) τ' ((cL J).res fr'.fn) x y:=hy;rw[hfn] at hy';exact hy'
  ·exact⟨hwent.grow,hwent.tape,hwent.os,hwent.output,hwent.gq,hwent.more,hwent.new⟩
  ·exact hS.obj
 obtain⟨M,last,o,w',t'',e1,e2,e3,e4⟩:=beside_ends (P:=Pg) (sl:=sl') (λw w' es h=>h.elim) hh0 hb.gF hb.mQ hend;have hr':runNT Pg N (solo (G (Frame.enter Pg f args .normal) []) W) #[]=(.next (crowd gs' v' sl'),t'):=hr;refine⟨N+M,last,o,w',t'',?_,?_,e3,e4⟩
 ·rw[show N+M+1=N+(M+1) by omega,runNT_add,hr'];exact e1
 ·rw[←runNT_fst _ _ _ #[],runNT_add,hr'];rw[←runNT_fst _ _ _ t'] at e2;exact e2
end
end
end Go.Proofs.YtldmcdeibiclkaaGreatDoor.U
namespace Go.Proofs.YtldmcdeibiclkaaGreatDoor.U
variable {J:String->Value}{W:World}
open Go.RowKit
section
open Go.Conc
set_option maxRecDepth 100000
def bd(v:Value):Prop:=(∃k n,v=.int k n)\/∃s,v=.string s
theorem bd.fv{v:Value}(h:bd v):FV J v v:=by
 rcases h with⟨k,n,rfl⟩|⟨s,rfl⟩
 ·exact .int k n
 ·exact .string s
theorem Fa(c:Array Value)(held:Nat->Prop)(k:Nat)(hh:∀i v,held i->c[i]?=some v->bd v):
  ∃(zs:Array (Value×Value)) (ls:List Value),zs.map (·.2)=c/\(∀J,Speaks J k ls->∀z∈zs,FV J z.1 z.2)/\∀i v,held i->c[i]?=some v->(zs.map (·.1))[i]?=some v:=by
 have key:∀(l:List Value) (i0 k:Nat),(∀i v,held (i0+i)->l[i]?=some v->bd v)->∃(zs:List (Value×Value)) (ls:List Value),zs.map (·.2)=l/\(∀J,Speaks J k ls->∀z∈zs,FV J z.1 z.2)/\∀i v,held (i0+i)->l[i]?=some v->(zs.map (·.1))[i]?=some v:=by
  intro l;induction l with
  |nil=>intro i0 k _;exact⟨[],[],rfl,λJ _ z hz=>by simp at hz,λi v _ h=>by simp at h⟩
  |cons u l ih=>
   intro i0 k hl;have hl':∀i v,held (i0+1+i)->l[i]?=some v->bd v:=λi v h1 h2=>hl (i+1) v (by rwa [show i0+(i+1)=i0+1+i by omega]) (by simpa using h2);by_cases h0:held i0
   ·have hu:=hl 0 u (by simpa using h0) (by simp);obtain⟨zs,ls,e,h1,h2⟩:=ih (i0+1) k hl';refine⟨(u,u)::zs,ls,by simp[e],λJ hJ z hz=>?_,λi v hi hv=>?_⟩
    ·rcases Xm.1 hz with rfl|hz
     ·exact hu.fv
     ·exact h1 J hJ z hz
    ·cases i with
     |zero=>simpa using hv
     |succ i=>
      simp only[VY,List.getElem?_cons_succ]at hv ⊢;exact h2 i v (by rwa [show i0+1+i=i0+(i+1) by omega]) hv
   ·obtain⟨x,l1,hx⟩:=MV _ u (Nat.lt_succ_self _) k;obtain⟨zs,ls,e,h1,h2⟩:=ih (i0+1) (k+l1.length) hl';refine⟨(x,u)::zs,l1++ls,by simp[e],λJ hJ z hz=>?_,λi v hi hv=>?_⟩
    ·rcases Xm.1 hz with rfl|hz
     ·exact hx J hJ.left
     ·exact h1 J hJ.right z hz
    ·cases i with
     |zero=>exact absurd hi (by simpa using h0)
     |succ i=>
      simp only[VY,List.getElem?_cons_succ]at hv ⊢;exact h2 i v (by rwa [show i0+1+i=i0+(i+1) by omega]) hv
 obtain⟨zs,ls,e,h1,h2⟩:=key c.toList 0 k (λi v h1 h2=>hh i v (by simpa using h1) (by simpa using h2));refine⟨zs.toArray,ls,by apply Array.ext';simpa using e,λJ hJ z hz=>h1 J hJ z (by simpa using hz),λi v hi hv=>?_⟩
 have:=h2 i v (by simpa using hi) (by simpa using hv);simpa using this
theorem Rs{bs:Nat}(held:Nat->Nat->Prop){c0 cb:Array Value}{e0 eb:TypeId}{f0 fb:Nat×Nat}(h0:W.heap[0]?=some (.cells c0 e0 f0))(hb:W.heap[bs]?=some (.cells cb eb fb))(hh:∀r i v,held r i->W.cell? ⟨r,i,none⟩=some v->bd v):
  ∃J V,nH J [0,bs] V W/\∀r,r∈[0,bs]->∀i v,held r i->W.cell? ⟨r,i,none⟩=some v->V.cell? ⟨r,i,none⟩=some v:=by
 obtain⟨z0,l0,e0',q0,p0⟩:=Fa c0 (held 0) 0 (λi v hi hv=>hh 0 i v hi (by simp[World.cell?,h0,hv]));obtain⟨zb,lb,eb',qb,pb⟩:=Fa cb (held bs) l0.length (λi v hi hv=>hh bs i v hi (by simp[World.cell?,hb,hv]));have hl0:=(Array.getElem?_eq_some_iff.1 h0).1;have hlb:=(Array.getElem?_eq_some_iff.1 hb).1;have hJ:Speaks (λs=>(l0++lb).getD s.length (.int .i64 0)) 0 (l0++lb):=λi hi=>by simp[Qf]
 refine⟨λs=>(l0++lb).getD s.length (.int .i64 0),{W with heap:=(W.heap.setIfInBounds 0 (.cells (z0.map (·.1)) e0 f0)).setIfInBounds bs (.cells (zb.map (·.1)) eb fb)},⟨by simp,λb hbm=>?_⟩,λr hr i v hi hv=>?_⟩
 ·by_cases e:b=bs
  ·subst e;refine⟨zb,eb,fb,by simp[hlb],by rw[hb,eb'],λz hz=>qb _ (by simpa using hJ.right) z hz⟩
  ·have e2:b=0:=by simpa[e] using hbm
   subst e2;refine⟨z0,e0,f0,?_,by rw[h0,e0'],λz hz=>q0 _ hJ.left z hz⟩;show ((W.heap.setIfInBounds 0 _).setIfInBounds bs _)[0]?=_;rw[Array.getElem?_setIfInBounds_ne (VG e)];simp[hl0]
 ·by_cases e:r=bs
  ·subst e;simp only[World.cell?,hb]at hv
   have:=pb i v hi (by simpa using hv);simp only[World.cell?];rw[Array.getElem?_setIfInBounds_self_of_lt (by simpa using hlb)];simpa using this
  ·have e2:r=0:=by simpa[e] using hr
   subst e2;simp only[World.cell?,h0]at hv
   have:=p0 i v hi (by simpa using hv);simp only[World.cell?];rw[Array.getElem?_setIfInBounds_ne (VG e),Array.getElem?_setIfInBounds_self_of_lt hl0];simpa using this
theorem Kl{K:List Nat}{V W':World}{f:FuncId}{x0 y:Value}(hbl:nH J K V W)(hres:(cL J).res f=.any)(hx:∀π y,VR (cL J) π x0 y->y=x0)(h:sq J K W f (λx w1=>x=x0/\∀k,k<V.heap.size->w1.heap[k]?=(bare K V).heap[k]?) y W'):y=x0/\Go.RowKit.Below W.heap.size W W':=by
 obtain⟨x,w1,τ',⟨rfl,hw1⟩,hcr,hwent,hobj⟩:=h;rw[hres]at hcr;refine⟨hx _ _ hcr,hwent.os,hwent.tape,hwent.output,hwent.grow,λk hk=>?_⟩;by_cases hkK:k∈K
 ·have ht:(jY K W).all k k:=⟨rfl,hkK,hk⟩
  have ht':=hwent.more.all _ _ ht;obtain⟨o,q,ho,hq,hkr⟩:=hobj k k (.inl ht');rw[hw1 k (by rw[hbl.1];exact hk),nC hkK]at ho;obtain⟨zs,e,g,h1,h2,h3⟩:=hbl.2 k hkK;rw[h1]at ho;cases ho
  have:=hkr.all ht';generalize ho:Obj.cells (zs.map (·.1)) e g=o at this;cases this with
  |cells e' f' hxr=>
   cases ho;obtain⟨ys,ex,ey,hy⟩:=hxr;rw[hq,h2,ey];congr 2;exact xy (R:=VR (cL J) τ'.all) ex.symm (λz hz y hzy=>(h3 z hz).one rfl y hzy) hy
  |_=>cases ho
 ·exact hwent.gq k hk λr hr=>hkK (by
   obtain⟨e,h1,_⟩:=kq.1 hr;exact e▸h1)
end
end Go.Proofs.YtldmcdeibiclkaaGreatDoor.U
namespace Go.Proofs
variable {f:Nat}{fn:Func}
section
noncomputable def aa.prog:Program:=Go.Proofs.YtldmcdeibiclkaaGreatDoor.U.Qg
theorem aa.is:aa.prog=Go.Proofs.YtldmcdeibiclkaaGreatDoor.U.gp Tryz.prog Go.Proofs.YtldmcdeibiclkaaGreatDoor.U.Gg:=rfl
section
variable (P:Program) (G:Array Func) (t:TypeId) (w:World)
theorem aa.QY:(Go.Proofs.YtldmcdeibiclkaaGreatDoor.U.gp P G).depth=P.depth:=rfl
theorem aa.J8:(Go.Proofs.YtldmcdeibiclkaaGreatDoor.U.gp P G).underlying t=P.underlying t:=rfl
theorem aa.DD:(Go.Proofs.YtldmcdeibiclkaaGreatDoor.U.gp P G).funcs=G:=rfl
theorem aa.CN:Sem.run P Go.program w=.ok P w:=rfl
theorem aa.CM:Sem.run (Go.Proofs.YtldmcdeibiclkaaGreatDoor.U.gp P G) (typeInfo t) w=Sem.run P (typeInfo t) w:=by
 simp only[typeInfo,Sem.run_bind,aa.CN,Result.andThen_ok,Go.Proofs.YtldmcdeibiclkaaGreatDoor.U.Dw];cases P.info? t<;>rfl
theorem aa.zC:Sem.run (Go.Proofs.YtldmcdeibiclkaaGreatDoor.U.gp P G) (underlying t) w=Sem.run P (underlying t) w:=by
 simp only[underlying,Sem.run_bind,aa.CN,Result.andThen_ok,Go.Proofs.YtldmcdeibiclkaaGreatDoor.U.CD];cases P.underlying t<;>rfl
theorem aa.Lc:Sem.run (Go.Proofs.YtldmcdeibiclkaaGreatDoor.U.gp P G) (sizeOf t) w=Sem.run P (sizeOf t) w:=by
 simp only[sizeOf,Sem.run_bind,aa.CM];cases Sem.run P (typeInfo t) w<;>rfl
theorem aa.Jo(P Q:Program)(w:World)(x:Unsupported):Sem.run P (unsupported x:Sem Value) w=Sem.run Q (unsupported x:Sem Value) w:=by unfold unsupported;rfl
theorem aa.JJ:Sem.run (Go.Proofs.YtldmcdeibiclkaaGreatDoor.U.gp P G) (zeroValue t) w=Sem.run P (zeroValue t) w:=by
 unfold zeroValue;rw[Sem.run_bind,Sem.run_bind,aa.CM];congr 1;funext i w;cases i.zero with
 |some v=>simp only[Sem.run_pure]
 |none=>exact aa.Jo _ _ _ _
theorem aa.SU:Sem.run (Go.Proofs.YtldmcdeibiclkaaGreatDoor.U.gp P G) (isAgg t) w=Sem.run P (isAgg t) w:=by
 unfold isAgg;rw[Sem.run_bind,Sem.run_bind,aa.zC];congr 1;funext i w;cases i<;>simp only[Sem.run_pure]
end
section
variable (t:TypeId) (w:World)
@[simp] theorem aa.ef:Sem.run aa.prog (sizeOf t) w=Sem.run Tryz.prog (sizeOf t) w:=by rw[aa.is];exact aa.Lc _ _ t w
@[simp] theorem aa.Vs:Sem.run aa.prog (underlying t) w=Sem.run Tryz.prog (underlying t) w:=by rw[aa.is];exact aa.zC _ _ t w
@[simp] theorem aa.dY:Sem.run aa.prog (isAgg t) w=Sem.run Tryz.prog (isAgg t) w:=by rw[aa.is];exact aa.SU _ _ t w
theorem aa.cu:Sem.run aa.prog (zeroValue t) w=Sem.run Tryz.prog (zeroValue t) w:=by rw[aa.is];exact aa.JJ _ _ t w
@[simp] theorem aa.cz:aa.prog.underlying t=Tryz.prog.underlying t:=by rw[aa.is];exact aa.J8 _ _ t
@[simp] theorem aa.Vr(d:Nat):aa.prog.eqGuardType d t=Tryz.prog.eqGuardType d t:=by rw[aa.is];exact Go.Proofs.YtldmcdeibiclkaaGreatDoor.U.uw _ _ d t
@[simp] theorem aa.Vt:aa.prog.depth=Tryz.prog.depth:=by rw[aa.is];exact aa.QY _ _
end
theorem aa.Ly(h:f≠68):aa.prog.funcs[f]?=Tryz.prog.funcs[f]? :=by
 rw[aa.is,aa.DD,Go.Proofs.YtldmcdeibiclkaaGreatDoor.U.Gg];rw[Array.getElem?_setIfInBounds_ne (VG h)]
theorem aa.SB{P:Program}{f:FuncId}(h1:P.funcs[f]?=some fn)(h2:(fn.name== "runtime.NumGoroutine")=false)(h3:fn.body.isNone=false)(args:Array Value)(w:World):Sem.run P (callFunc f args) w=.ok (.enter f args) w:=by
 rw[<-Sem.runT_fst _ _ _ #[]];unfold callFunc;show (((Go.program).bind _).runT P w #[]).1=_;rw[Sem.runT_bind'];simp only[Go.program,Sem.runT,h1,h2,h3,Vz,Vy];rfl
theorem aa.aI(h:aa.prog.funcs[f]?=some fn)(h1:(fn.name== "runtime.NumGoroutine")=false)(h2:fn.body.isNone=false)(args:Array Value)(w:World):Sem.run aa.prog (callFunc f args) w=.ok (.enter f args) w:=
 aa.SB h h1 h2 args w
theorem aa.aw{n:Nat}{x:Func}(h:Tryz.prog.funcs[n]?=some x)(hn:n≠68):aa.prog.funcs[n]?=some x:=(aa.Ly hn).trans h
abbrev aa.underlying0:=(aa.cz 0).trans Tryz.underlying0
abbrev aa.sizeOf0(w:World):=(aa.ef 0 w).trans (Tryz.sizeOf0 w)
abbrev aa.isAgg0(w:World):=(aa.dY 0 w).trans (Tryz.isAgg0 w)
abbrev aa.underlying3:=(aa.cz 3).trans Tryz.underlying3
abbrev aa.sizeOf3(w:World):=(aa.ef 3 w).trans (Tryz.sizeOf3 w)
abbrev aa.isAgg3(w:World):=(aa.dY 3 w).trans (Tryz.isAgg3 w)
abbrev aa.underlying4:=(aa.cz 4).trans Tryz.underlying4
abbrev aa.sizeOf4(w:World):=(aa.ef 4 w).trans (Tryz.sizeOf4 w)
abbrev aa.isAgg4(w:World):=(aa.dY 4 w).trans (Tryz.isAgg4 w)
abbrev aa.underlying5:=(aa.cz 5).trans Tryz.underlying5
abbrev aa.sizeOf5(w:World):=(aa.ef 5 w).trans (Tryz.sizeOf5 w)
abbrev aa.isAgg5(w:World):=(aa.dY 5 w).trans (Tryz.isAgg5 w)
abbrev aa.underlying9:=(aa.cz 9).trans Tryz.underlying9
abbrev aa.sizeOf9(w:World):=(aa.ef 9 w).trans (Tryz.sizeOf9 w)
abbrev aa.isAgg9(w:World):=(aa.dY 9 w).trans (Tryz.isAgg9 w)
abbrev aa.underlying22:=(aa.cz 22).trans Tryz.underlying22
abbrev aa.underlying30:=(aa.cz 30).trans Tryz.underlying30
abbrev aa.underlying31:=(aa.cz 31).trans Tryz.underlying31
abbrev aa.underlying33:=(aa.cz 33).trans Tryz.underlying33
abbrev aa.underlying36:=(aa.cz 36).trans Tryz.underlying36
abbrev aa.underlying38:=(aa.cz 38).trans Tryz.underlying38
abbrev aa.sizeOf38(w:World):=(aa.ef 38 w).trans (Tryz.sizeOf38 w)
abbrev aa.isAgg38(w:World):=(aa.dY 38 w).trans (Tryz.isAgg38 w)
abbrev aa.underlying44:=(aa.cz 44).trans Tryz.underlying44
abbrev aa.sizeOf44(w:World):=(aa.ef 44 w).trans (Tryz.sizeOf44 w)
abbrev aa.isAgg44(w:World):=(aa.dY 44 w).trans (Tryz.isAgg44 w)
abbrev aa.underlying48:=(aa.cz 48).trans Tryz.underlying48
abbrev aa.sizeOf48(w:World):=(aa.ef 48 w).trans (Tryz.sizeOf48 w)
abbrev aa.isAgg48(w:World):=(aa.dY 48 w).trans (Tryz.isAgg48 w)
abbrev aa.underlying55:=(aa.cz 55).trans Tryz.underlying55
abbrev aa.sizeOf55(w:World):=(aa.ef 55 w).trans (Tryz.sizeOf55 w)
abbrev aa.isAgg55(w:World):=(aa.dY 55 w).trans (Tryz.isAgg55 w)
abbrev aa.underlying67:=(aa.cz 67).trans Tryz.underlying67
abbrev aa.underlying71:=(aa.cz 71).trans Tryz.underlying71
abbrev aa.underlying74:=(aa.cz 74).trans Tryz.underlying74
abbrev aa.underlying88:=(aa.cz 88).trans Tryz.underlying88
abbrev aa.underlying89:=(aa.cz 89).trans Tryz.underlying89
abbrev aa.underlying98:=(aa.cz 98).trans Tryz.underlying98
abbrev aa.sizeOf98(w:World):=(aa.ef 98 w).trans (Tryz.sizeOf98 w)
abbrev aa.isAgg98(w:World):=(aa.dY 98 w).trans (Tryz.isAgg98 w)
abbrev aa.underlying102:=(aa.cz 102).trans Tryz.underlying102
abbrev aa.underlying103:=(aa.cz 103).trans Tryz.underlying103
abbrev aa.sizeOf103(w:World):=(aa.ef 103 w).trans (Tryz.sizeOf103 w)
abbrev aa.isAgg103(w:World):=(aa.dY 103 w).trans (Tryz.isAgg103 w)
abbrev aa.underlying104:=(aa.cz 104).trans Tryz.underlying104
abbrev aa.sizeOf104(w:World):=(aa.ef 104 w).trans (Tryz.sizeOf104 w)
abbrev aa.isAgg104(w:World):=(aa.dY 104 w).trans (Tryz.isAgg104 w)
abbrev aa.underlying119:=(aa.cz 119).trans Tryz.underlying119
abbrev aa.underlying126:=(aa.cz 126).trans Tryz.underlying126
abbrev aa.underlying130:=(aa.cz 130).trans Tryz.underlying130
abbrev aa.sizeOf144(w:World):=(aa.ef 144 w).trans (Tryz.sizeOf144 w)
abbrev aa.isAgg144(w:World):=(aa.dY 144 w).trans (Tryz.isAgg144 w)
abbrev aa.underlying146:=(aa.cz 146).trans Tryz.underlying146
abbrev aa.sizeOf146(w:World):=(aa.ef 146 w).trans (Tryz.sizeOf146 w)
abbrev aa.isAgg146(w:World):=(aa.dY 146 w).trans (Tryz.isAgg146 w)
abbrev aa.underlying147:=(aa.cz 147).trans Tryz.underlying147
abbrev aa.underlying154:=(aa.cz 154).trans Tryz.underlying154
abbrev aa.sizeOf154(w:World):=(aa.ef 154 w).trans (Tryz.sizeOf154 w)
abbrev aa.isAgg154(w:World):=(aa.dY 154 w).trans (Tryz.isAgg154 w)
abbrev aa.underlying155:=(aa.cz 155).trans Tryz.underlying155
abbrev aa.sizeOf155(w:World):=(aa.ef 155 w).trans (Tryz.sizeOf155 w)
abbrev aa.isAgg155(w:World):=(aa.dY 155 w).trans (Tryz.isAgg155 w)
abbrev aa.underlying175:=(aa.cz 175).trans Tryz.underlying175
abbrev aa.sizeOf175(w:World):=(aa.ef 175 w).trans (Tryz.sizeOf175 w)
abbrev aa.isAgg175(w:World):=(aa.dY 175 w).trans (Tryz.isAgg175 w)
abbrev aa.underlying177:=(aa.cz 177).trans Tryz.underlying177
abbrev aa.sizeOf177(w:World):=(aa.ef 177 w).trans (Tryz.sizeOf177 w)
abbrev aa.isAgg177(w:World):=(aa.dY 177 w).trans (Tryz.isAgg177 w)
abbrev aa.underlying186:=(aa.cz 186).trans Tryz.underlying186
abbrev aa.sizeOf186(w:World):=(aa.ef 186 w).trans (Tryz.sizeOf186 w)
abbrev aa.isAgg186(w:World):=(aa.dY 186 w).trans (Tryz.isAgg186 w)
abbrev aa.underlying199:=(aa.cz 199).trans Tryz.underlying199
abbrev aa.sizeOf199(w:World):=(aa.ef 199 w).trans (Tryz.sizeOf199 w)
abbrev aa.isAgg199(w:World):=(aa.dY 199 w).trans (Tryz.isAgg199 w)
abbrev aa.underlying200:=(aa.cz 200).trans Tryz.underlying200
abbrev aa.sizeOf200(w:World):=(aa.ef 200 w).trans (Tryz.sizeOf200 w)
abbrev aa.isAgg200(w:World):=(aa.dY 200 w).trans (Tryz.isAgg200 w)
abbrev aa.underlying225:=(aa.cz 225).trans Tryz.underlying225
abbrev aa.sizeOf225(w:World):=(aa.ef 225 w).trans (Tryz.sizeOf225 w)
abbrev aa.isAgg225(w:World):=(aa.dY 225 w).trans (Tryz.isAgg225 w)
abbrev aa.underlying228:=(aa.cz 228).trans Tryz.underlying228
abbrev aa.sizeOf228(w:World):=(aa.ef 228 w).trans (Tryz.sizeOf228 w)
abbrev aa.isAgg228(w:World):=(aa.dY 228 w).trans (Tryz.isAgg228 w)
abbrev aa.underlying242:=(aa.cz 242).trans Tryz.underlying242
abbrev aa.sizeOf242(w:World):=(aa.ef 242 w).trans (Tryz.sizeOf242 w)
abbrev aa.isAgg242(w:World):=(aa.dY 242 w).trans (Tryz.isAgg242 w)
abbrev aa.underlying243:=(aa.cz 243).trans Tryz.underlying243
abbrev aa.sizeOf243(w:World):=(aa.ef 243 w).trans (Tryz.sizeOf243 w)
abbrev aa.isAgg243(w:World):=(aa.dY 243 w).trans (Tryz.isAgg243 w)
@[simp] abbrev aa.zeroValue0(w:World):=(aa.cu 0 w).trans (Tryz.zeroValue0 w)
@[simp] abbrev aa.zeroValue3(w:World):=(aa.cu 3 w).trans (Tryz.zeroValue3 w)
@[simp] abbrev aa.zeroValue4(w:World):=(aa.cu 4 w).trans (Tryz.zeroValue4 w)
@[simp] abbrev aa.zeroValue5(w:World):=(aa.cu 5 w).trans (Tryz.zeroValue5 w)
@[simp] abbrev aa.zeroValue9(w:World):=(aa.cu 9 w).trans (Tryz.zeroValue9 w)
@[simp] abbrev aa.zeroValue25(w:World):=(aa.cu 25 w).trans (Tryz.zeroValue25 w)
@[simp] abbrev aa.zeroValue29(w:World):=(aa.cu 29 w).trans (Tryz.zeroValue29 w)
@[simp] abbrev aa.zeroValue38(w:World):=(aa.cu 38 w).trans (Tryz.zeroValue38 w)
@[simp] abbrev aa.zeroValue44(w:World):=(aa.cu 44 w).trans (Tryz.zeroValue44 w)
@[simp] abbrev aa.zeroValue48(w:World):=(aa.cu 48 w).trans (Tryz.zeroValue48 w)
@[simp] abbrev aa.zeroValue55(w:World):=(aa.cu 55 w).trans (Tryz.zeroValue55 w)
@[simp] abbrev aa.zeroValue66(w:World):=(aa.cu 66 w).trans (Tryz.zeroValue66 w)
@[simp] abbrev aa.zeroValue71(w:World):=(aa.cu 71 w).trans (Tryz.zeroValue71 w)
@[simp] abbrev aa.zeroValue81(w:World):=(aa.cu 81 w).trans (Tryz.zeroValue81 w)
@[simp] abbrev aa.zeroValue98(w:World):=(aa.cu 98 w).trans (Tryz.zeroValue98 w)
@[simp] abbrev aa.zeroValue102(w:World):=(aa.cu 102 w).trans (Tryz.zeroValue102 w)
@[simp] abbrev aa.zeroValue103(w:World):=(aa.cu 103 w).trans (Tryz.zeroValue103 w)
@[simp] abbrev aa.zeroValue104(w:World):=(aa.cu 104 w).trans (Tryz.zeroValue104 w)
@[simp] abbrev aa.zeroValue106(w:World):=(aa.cu 106 w).trans (Tryz.zeroValue106 w)
@[simp] abbrev aa.zeroValue115(w:World):=(aa.cu 115 w).trans (Tryz.zeroValue115 w)
@[simp] abbrev aa.zeroValue128(w:World):=(aa.cu 128 w).trans (Tryz.zeroValue128 w)
@[simp] abbrev aa.zeroValue132(w:World):=(aa.cu 132 w).trans (Tryz.zeroValue132 w)
@[simp] abbrev aa.zeroValue142(w:World):=(aa.cu 142 w).trans (Tryz.zeroValue142 w)
@[simp] abbrev aa.zeroValue144(w:World):=(aa.cu 144 w).trans (Tryz.zeroValue144 w)
@[simp] abbrev aa.zeroValue146(w:World):=(aa.cu 146 w).trans (Tryz.zeroValue146 w)
@[simp] abbrev aa.zeroValue151(w:World):=(aa.cu 151 w).trans (Tryz.zeroValue151 w)
@[simp] abbrev aa.zeroValue154(w:World):=(aa.cu 154 w).trans (Tryz.zeroValue154 w)
@[simp] abbrev aa.zeroValue155(w:World):=(aa.cu 155 w).trans (Tryz.zeroValue155 w)
@[simp] abbrev aa.zeroValue158(w:World):=(aa.cu 158 w).trans (Tryz.zeroValue158 w)
@[simp] abbrev aa.zeroValue163(w:World):=(aa.cu 163 w).trans (Tryz.zeroValue163 w)
@[simp] abbrev aa.zeroValue167(w:World):=(aa.cu 167 w).trans (Tryz.zeroValue167 w)
@[simp] abbrev aa.zeroValue175(w:World):=(aa.cu 175 w).trans (Tryz.zeroValue175 w)
@[simp] abbrev aa.zeroValue177(w:World):=(aa.cu 177 w).trans (Tryz.zeroValue177 w)
@[simp] abbrev aa.zeroValue186(w:World):=(aa.cu 186 w).trans (Tryz.zeroValue186 w)
@[simp] abbrev aa.zeroValue199(w:World):=(aa.cu 199 w).trans (Tryz.zeroValue199 w)
@[simp] abbrev aa.zeroValue200(w:World):=(aa.cu 200 w).trans (Tryz.zeroValue200 w)
@[simp] abbrev aa.zeroValue225(w:World):=(aa.cu 225 w).trans (Tryz.zeroValue225 w)
@[simp] abbrev aa.zeroValue228(w:World):=(aa.cu 228 w).trans (Tryz.zeroValue228 w)
@[simp] abbrev aa.zeroValue242(w:World):=(aa.cu 242 w).trans (Tryz.zeroValue242 w)
@[simp] abbrev aa.zeroValue243(w:World):=(aa.cu 243 w).trans (Tryz.zeroValue243 w)
@[simp] abbrev aa.func5:=aa.aw Tryz.func5 (by decide)
abbrev aa.ntmps5:=Tryz.ntmps5
@[simp] abbrev aa.func7:=aa.aw Tryz.func7 (by decide)
abbrev aa.ntmps7:=Tryz.ntmps7
@[simp] abbrev aa.func8:=aa.aw Tryz.func8 (by decide)
abbrev aa.ntmps8:=Tryz.ntmps8
@[simp] abbrev aa.func9:=aa.aw Tryz.func9 (by decide)
abbrev aa.ntmps9:=Tryz.ntmps9
@[simp] abbrev aa.func11:=aa.aw Tryz.func11 (by decide)
abbrev aa.ntmps11:=Tryz.ntmps11
@[simp] abbrev aa.func12:=aa.aw Tryz.func12 (by decide)
abbrev aa.ntmps12:=Tryz.ntmps12
@[simp] abbrev aa.func13:=aa.aw Tryz.func13 (by decide)
abbrev aa.ntmps13:=Tryz.ntmps13
@[simp] abbrev aa.func14:=aa.aw Tryz.func14 (by decide)
abbrev aa.ntmps14:=Tryz.ntmps14
@[simp] abbrev aa.func17:=aa.aw Tryz.func17 (by decide)
abbrev aa.ntmps17:=Tryz.ntmps17
@[simp] abbrev aa.func18:=aa.aw Tryz.func18 (by decide)
abbrev aa.ntmps18:=Tryz.ntmps18
@[simp] abbrev aa.func19:=aa.aw Tryz.func19 (by decide)
abbrev aa.ntmps19:=Tryz.ntmps19
@[simp] abbrev aa.func20:=aa.aw Tryz.func20 (by decide)
abbrev aa.ntmps20:=Tryz.ntmps20
@[simp] abbrev aa.func21:=aa.aw Tryz.func21 (by decide)
abbrev aa.ntmps21:=Tryz.ntmps21
@[simp] abbrev aa.func22:=aa.aw Tryz.func22 (by decide)
abbrev aa.ntmps22:=Tryz.ntmps22
abbrev aa.results22:=Tryz.results22
@[simp] abbrev aa.func23:=aa.aw Tryz.func23 (by decide)
abbrev aa.ntmps23:=Tryz.ntmps23
@[simp] abbrev aa.func24:=aa.aw Tryz.func24 (by decide)
abbrev aa.ntmps24:=Tryz.ntmps24
@[simp] abbrev aa.func25:=aa.aw Tryz.func25 (by decide)
abbrev aa.ntmps25:=Tryz.ntmps25
@[simp] abbrev aa.func26:=aa.aw Tryz.func26 (by decide)
abbrev aa.ntmps26:=Tryz.ntmps26
@[simp] abbrev aa.func27:=aa.aw Tryz.func27 (by decide)
abbrev aa.ntmps27:=Tryz.ntmps27
@[simp] abbrev aa.func28:=aa.aw Tryz.func28 (by decide)
abbrev aa.ntmps28:=Tryz.ntmps28
@[simp] abbrev aa.func29:=aa.aw Tryz.func29 (by decide)
abbrev aa.ntmps29:=Tryz.ntmps29
@[simp] abbrev aa.func33:=aa.aw Tryz.func33 (by decide)
abbrev aa.ntmps33:=Tryz.ntmps33
abbrev aa.results33:=Tryz.results33
@[simp] abbrev aa.func34:=aa.aw Tryz.func34 (by decide)
abbrev aa.ntmps34:=Tryz.ntmps34
@[simp] abbrev aa.func35:=aa.aw Tryz.func35 (by decide)
abbrev aa.ntmps35:=Tryz.ntmps35
@[simp] abbrev aa.func36:=aa.aw Tryz.func36 (by decide)
abbrev aa.ntmps36:=Tryz.ntmps36
@[simp] abbrev aa.func37:=aa.aw Tryz.func37 (by decide)
abbrev aa.ntmps37:=Tryz.ntmps37
@[simp] abbrev aa.func38:=aa.aw Tryz.func38 (by decide)
abbrev aa.ntmps38:=Tryz.ntmps38
@[simp] abbrev aa.func39:=aa.aw Tryz.func39 (by decide)
abbrev aa.ntmps39:=Tryz.ntmps39
@[simp] abbrev aa.func40:=aa.aw Tryz.func40 (by decide)
abbrev aa.ntmps40:=Tryz.ntmps40
abbrev aa.results40:=Tryz.results40
@[simp] abbrev aa.func41:=aa.aw Tryz.func41 (by decide)
abbrev aa.ntmps41:=Tryz.ntmps41
@[simp] abbrev aa.func42:=aa.aw Tryz.func42 (by decide)
abbrev aa.ntmps42:=Tryz.ntmps42
@[simp] abbrev aa.func43:=aa.aw Tryz.func43 (by decide)
abbrev aa.ntmps43:=Tryz.ntmps43
@[simp] abbrev aa.func44:=aa.aw Tryz.func44 (by decide)
abbrev aa.ntmps44:=Tryz.ntmps44
abbrev aa.results44:=Tryz.results44
@[simp] abbrev aa.func45:=aa.aw Tryz.func45 (by decide)
abbrev aa.ntmps45:=Tryz.ntmps45
abbrev aa.results45:=Tryz.results45
@[simp] abbrev aa.func46:=aa.aw Tryz.func46 (by decide)
abbrev aa.ntmps46:=Tryz.ntmps46
@[simp] abbrev aa.func47:=aa.aw Tryz.func47 (by decide)
abbrev aa.ntmps47:=Tryz.ntmps47
@[simp] abbrev aa.func48:=aa.aw Tryz.func48 (by decide)
abbrev aa.ntmps48:=Tryz.ntmps48
@[simp] abbrev aa.func49:=aa.aw Tryz.func49 (by decide)
abbrev aa.ntmps49:=Tryz.ntmps49
@[simp] abbrev aa.func50:=aa.aw Tryz.func50 (by decide)
abbrev aa.ntmps50:=Tryz.ntmps50
@[simp] abbrev aa.func52:=aa.aw Tryz.func52 (by decide)
abbrev aa.ntmps52:=Tryz.ntmps52
@[simp] abbrev aa.func53:=aa.aw Tryz.func53 (by decide)
abbrev aa.ntmps53:=Tryz.ntmps53
@[simp] abbrev aa.func54:=aa.aw Tryz.func54 (by decide)
abbrev aa.ntmps54:=Tryz.ntmps54
@[simp] abbrev aa.func55:=aa.aw Tryz.func55 (by decide)
abbrev aa.ntmps55:=Tryz.ntmps55
abbrev aa.results55:=Tryz.results55
@[simp] abbrev aa.func56:=aa.aw Tryz.func56 (by decide)
abbrev aa.ntmps56:=Tryz.ntmps56
abbrev aa.results56:=Tryz.results56
@[simp] abbrev aa.func57:=aa.aw Tryz.func57 (by decide)
abbrev aa.ntmps57:=Tryz.ntmps57
@[simp] abbrev aa.func58:=aa.aw Tryz.func58 (by decide)
abbrev aa.ntmps58:=Tryz.ntmps58
@[simp] abbrev aa.func59:=aa.aw Tryz.func59 (by decide)
abbrev aa.ntmps59:=Tryz.ntmps59
@[simp] abbrev aa.func60:=aa.aw Tryz.func60 (by decide)
abbrev aa.ntmps60:=Tryz.ntmps60
@[simp] abbrev aa.func61:=aa.aw Tryz.func61 (by decide)
abbrev aa.ntmps61:=Tryz.ntmps61
@[simp] abbrev aa.func62:=aa.aw Tryz.func62 (by decide)
abbrev aa.ntmps62:=Tryz.ntmps62
@[simp] abbrev aa.func63:=aa.aw Tryz.func63 (by decide)
abbrev aa.ntmps63:=Tryz.ntmps63
@[simp] abbrev aa.func64:=aa.aw Tryz.func64 (by decide)
abbrev aa.ntmps64:=Tryz.ntmps64
abbrev aa.results64:=Tryz.results64
noncomputable abbrev aa.f65:=Tryz.f65
@[simp] abbrev aa.func65:=aa.aw Tryz.func65 (by decide)
abbrev aa.ntmps65:=Tryz.ntmps65
@[simp] abbrev aa.func66:=aa.aw Tryz.func66 (by decide)
abbrev aa.ntmps66:=Tryz.ntmps66
@[simp] abbrev aa.func67:=aa.aw Tryz.func67 (by decide)
@[simp] abbrev aa.func69:=aa.aw Tryz.func69 (by decide)
abbrev aa.ntmps69:=Tryz.ntmps69
@[simp] abbrev aa.func70:=aa.aw Tryz.func70 (by decide)
abbrev aa.ntmps70:=Tryz.ntmps70
noncomputable abbrev aa.f71:=Tryz.f71
@[simp] abbrev aa.func71:=aa.aw Tryz.func71 (by decide)
noncomputable abbrev aa.f72:=Tryz.f72
@[simp] abbrev aa.func72:=aa.aw Tryz.func72 (by decide)
@[simp] abbrev aa.func73:=aa.aw Tryz.func73 (by decide)
abbrev aa.ntmps73:=Tryz.ntmps73
@[simp] abbrev aa.func74:=aa.aw Tryz.func74 (by decide)
abbrev aa.ntmps74:=Tryz.ntmps74
@[simp] abbrev aa.func75:=aa.aw Tryz.func75 (by decide)
abbrev aa.ntmps75:=Tryz.ntmps75
@[simp] abbrev aa.func76:=aa.aw Tryz.func76 (by decide)
abbrev aa.ntmps76:=Tryz.ntmps76
@[simp] abbrev aa.func77:=aa.aw Tryz.func77 (by decide)
abbrev aa.ntmps77:=Tryz.ntmps77
@[simp] abbrev aa.func78:=aa.aw Tryz.func78 (by decide)
abbrev aa.ntmps78:=Tryz.ntmps78
@[simp] abbrev aa.func79:=aa.aw Tryz.func79 (by decide)
abbrev aa.ntmps79:=Tryz.ntmps79
@[simp] abbrev aa.func80:=aa.aw Tryz.func80 (by decide)
abbrev aa.ntmps80:=Tryz.ntmps80
@[simp] abbrev aa.func81:=aa.aw Tryz.func81 (by decide)
abbrev aa.ntmps81:=Tryz.ntmps81
@[simp] abbrev aa.func82:=aa.aw Tryz.func82 (by decide)
abbrev aa.ntmps82:=Tryz.ntmps82
@[simp] abbrev aa.func83:=aa.aw Tryz.func83 (by decide)
abbrev aa.ntmps83:=Tryz.ntmps83
noncomputable abbrev aa.f84:=Tryz.f84
@[simp] abbrev aa.func84:=aa.aw Tryz.func84 (by decide)
abbrev aa.ntmps84:=Tryz.ntmps84
@[simp] abbrev aa.func85:=aa.aw Tryz.func85 (by decide)
abbrev aa.ntmps85:=Tryz.ntmps85
@[simp] abbrev aa.func86:=aa.aw Tryz.func86 (by decide)
abbrev aa.ntmps86:=Tryz.ntmps86
@[simp] abbrev aa.func87:=aa.aw Tryz.func87 (by decide)
abbrev aa.ntmps87:=Tryz.ntmps87
@[simp] abbrev aa.func92:=aa.aw Tryz.func92 (by decide)
abbrev aa.ntmps92:=Tryz.ntmps92
@[simp] abbrev aa.func93:=aa.aw Tryz.func93 (by decide)
abbrev aa.ntmps93:=Tryz.ntmps93
@[simp] abbrev aa.func94:=aa.aw Tryz.func94 (by decide)
abbrev aa.ntmps94:=Tryz.ntmps94
noncomputable abbrev aa.f95:=Tryz.f95
@[simp] abbrev aa.func95:=aa.aw Tryz.func95 (by decide)
noncomputable abbrev aa.f96:=Tryz.f96
@[simp] abbrev aa.func96:=aa.aw Tryz.func96 (by decide)
noncomputable abbrev aa.f97:=Tryz.f97
@[simp] abbrev aa.func97:=aa.aw Tryz.func97 (by decide)
@[simp] abbrev aa.func98:=aa.aw Tryz.func98 (by decide)
abbrev aa.ntmps98:=Tryz.ntmps98
@[simp] abbrev aa.func99:=aa.aw Tryz.func99 (by decide)
abbrev aa.ntmps99:=Tryz.ntmps99
@[simp] abbrev aa.func100:=aa.aw Tryz.func100 (by decide)
abbrev aa.ntmps100:=Tryz.ntmps100
@[simp] abbrev aa.func101:=aa.aw Tryz.func101 (by decide)
abbrev aa.ntmps101:=Tryz.ntmps101
abbrev aa.results101:=Tryz.results101
@[simp] abbrev aa.func102:=aa.aw Tryz.func102 (by decide)
abbrev aa.ntmps102:=Tryz.ntmps102
@[simp] abbrev aa.func103:=aa.aw Tryz.func103 (by decide)
abbrev aa.ntmps103:=Tryz.ntmps103
@[simp] abbrev aa.func104:=aa.aw Tryz.func104 (by decide)
abbrev aa.ntmps104:=Tryz.ntmps104
@[simp] abbrev aa.func105:=aa.aw Tryz.func105 (by decide)
abbrev aa.ntmps105:=Tryz.ntmps105
@[simp] abbrev aa.func106:=aa.aw Tryz.func106 (by decide)
abbrev aa.ntmps106:=Tryz.ntmps106
abbrev aa.results106:=Tryz.results106
noncomputable abbrev aa.f107:=Tryz.f107
@[simp] abbrev aa.func107:=aa.aw Tryz.func107 (by decide)
abbrev aa.ntmps107:=Tryz.ntmps107
noncomputable abbrev aa.f108:=Tryz.f108
@[simp] abbrev aa.func108:=aa.aw Tryz.func108 (by decide)
noncomputable abbrev aa.f109:=Tryz.f109
@[simp] abbrev aa.func109:=aa.aw Tryz.func109 (by decide)
noncomputable abbrev aa.f110:=Tryz.f110
@[simp] abbrev aa.func110:=aa.aw Tryz.func110 (by decide)
noncomputable abbrev aa.f111:=Tryz.f111
@[simp] abbrev aa.func111:=aa.aw Tryz.func111 (by decide)
noncomputable abbrev aa.f112:=Tryz.f112
@[simp] abbrev aa.func112:=aa.aw Tryz.func112 (by decide)
noncomputable abbrev aa.f113:=Tryz.f113
@[simp] abbrev aa.func113:=aa.aw Tryz.func113 (by decide)
noncomputable abbrev aa.f114:=Tryz.f114
@[simp] abbrev aa.func114:=aa.aw Tryz.func114 (by decide)
@[simp] abbrev aa.func115:=aa.aw Tryz.func115 (by decide)
@[simp] abbrev aa.func116:=aa.aw Tryz.func116 (by decide)
abbrev aa.ntmps116:=Tryz.ntmps116
@[simp] abbrev aa.func117:=aa.aw Tryz.func117 (by decide)
abbrev aa.ntmps117:=Tryz.ntmps117
noncomputable abbrev aa.f136:=Tryz.f136
@[simp] abbrev aa.func136:=aa.aw Tryz.func136 (by decide)
noncomputable abbrev aa.f137:=Tryz.f137
@[simp] abbrev aa.func137:=aa.aw Tryz.func137 (by decide)
@[simp] abbrev aa.func138:=aa.aw Tryz.func138 (by decide)
abbrev aa.ntmps138:=Tryz.ntmps138
@[simp] abbrev aa.func139:=aa.aw Tryz.func139 (by decide)
abbrev aa.ntmps139:=Tryz.ntmps139
abbrev aa.results139:=Tryz.results139
@[simp] abbrev aa.func140:=aa.aw Tryz.func140 (by decide)
abbrev aa.ntmps140:=Tryz.ntmps140
@[simp] abbrev aa.func141:=aa.aw Tryz.func141 (by decide)
abbrev aa.ntmps141:=Tryz.ntmps141
noncomputable abbrev aa.f142:=Tryz.f142
@[simp] abbrev aa.func142:=aa.aw Tryz.func142 (by decide)
@[simp] abbrev aa.func143:=aa.aw Tryz.func143 (by decide)
@[simp] abbrev aa.func144:=aa.aw Tryz.func144 (by decide)
noncomputable abbrev aa.f145:=Tryz.f145
@[simp] abbrev aa.func145:=aa.aw Tryz.func145 (by decide)
noncomputable abbrev aa.f146:=Tryz.f146
@[simp] abbrev aa.func146:=aa.aw Tryz.func146 (by decide)
noncomputable abbrev aa.f152:=Tryz.f152
@[simp] abbrev aa.func152:=aa.aw Tryz.func152 (by decide)
noncomputable abbrev aa.f153:=Tryz.f153
@[simp] abbrev aa.func153:=aa.aw Tryz.func153 (by decide)
noncomputable abbrev aa.f154:=Tryz.f154
@[simp] abbrev aa.func154:=aa.aw Tryz.func154 (by decide)
noncomputable abbrev aa.f155:=Tryz.f155
@[simp] abbrev aa.func155:=aa.aw Tryz.func155 (by decide)
noncomputable abbrev aa.f156:=Tryz.f156
@[simp] abbrev aa.func156:=aa.aw Tryz.func156 (by decide)
noncomputable abbrev aa.f157:=Tryz.f157
@[simp] abbrev aa.func157:=aa.aw Tryz.func157 (by decide)
noncomputable abbrev aa.f158:=Tryz.f158
@[simp] abbrev aa.func158:=aa.aw Tryz.func158 (by decide)
noncomputable abbrev aa.f159:=Tryz.f159
@[simp] abbrev aa.func159:=aa.aw Tryz.func159 (by decide)
noncomputable abbrev aa.f160:=Tryz.f160
@[simp] abbrev aa.func160:=aa.aw Tryz.func160 (by decide)
@[simp] abbrev aa.func161:=aa.aw Tryz.func161 (by decide)
abbrev aa.ntmps161:=Tryz.ntmps161
noncomputable abbrev aa.f162:=Tryz.f162
@[simp] abbrev aa.func162:=aa.aw Tryz.func162 (by decide)
noncomputable abbrev aa.f163:=Tryz.f163
@[simp] abbrev aa.func163:=aa.aw Tryz.func163 (by decide)
noncomputable abbrev aa.f164:=Tryz.f164
@[simp] abbrev aa.func164:=aa.aw Tryz.func164 (by decide)
noncomputable abbrev aa.f165:=Tryz.f165
@[simp] abbrev aa.func165:=aa.aw Tryz.func165 (by decide)
noncomputable abbrev aa.f166:=Tryz.f166
@[simp] abbrev aa.func166:=aa.aw Tryz.func166 (by decide)
noncomputable abbrev aa.f167:=Tryz.f167
@[simp] abbrev aa.func167:=aa.aw Tryz.func167 (by decide)
@[simp] abbrev aa.call7:=aa.aI aa.func7 rfl rfl
@[simp] abbrev aa.call8:=aa.aI aa.func8 rfl rfl
@[simp] abbrev aa.call9:=aa.aI aa.func9 rfl rfl
@[simp] abbrev aa.call11:=aa.aI aa.func11 rfl rfl
@[simp] abbrev aa.call12:=aa.aI aa.func12 rfl rfl
@[simp] abbrev aa.call13:=aa.aI aa.func13 rfl rfl
@[simp] abbrev aa.call14:=aa.aI aa.func14 rfl rfl
@[simp] abbrev aa.call17:=aa.aI aa.func17 rfl rfl
@[simp] abbrev aa.call18:=aa.aI aa.func18 rfl rfl
@[simp] abbrev aa.call19:=aa.aI aa.func19 rfl rfl
@[simp] abbrev aa.call20:=aa.aI aa.func20 rfl rfl
@[simp] abbrev aa.call21:=aa.aI aa.func21 rfl rfl
@[simp] abbrev aa.call22:=aa.aI aa.func22 rfl rfl
@[simp] abbrev aa.call23:=aa.aI aa.func23 rfl rfl
@[simp] abbrev aa.call24:=aa.aI aa.func24 rfl rfl
@[simp] abbrev aa.call25:=aa.aI aa.func25 rfl rfl
@[simp] abbrev aa.call26:=aa.aI aa.func26 rfl rfl
@[simp] abbrev aa.call27:=aa.aI aa.func27 rfl rfl
@[simp] abbrev aa.call28:=aa.aI aa.func28 rfl rfl
@[simp] abbrev aa.call29:=aa.aI aa.func29 rfl rfl
@[simp] abbrev aa.call33:=aa.aI aa.func33 rfl rfl
@[simp] abbrev aa.call34:=aa.aI aa.func34 rfl rfl
@[simp] abbrev aa.call35:=aa.aI aa.func35 rfl rfl
@[simp] abbrev aa.call36:=aa.aI aa.func36 rfl rfl
@[simp] abbrev aa.call37:=aa.aI aa.func37 rfl rfl
@[simp] abbrev aa.call38:=aa.aI aa.func38 rfl rfl
@[simp] abbrev aa.call39:=aa.aI aa.func39 rfl rfl
@[simp] abbrev aa.call40:=aa.aI aa.func40 rfl rfl
@[simp] abbrev aa.call41:=aa.aI aa.func41 rfl rfl
@[simp] abbrev aa.call42:=aa.aI aa.func42 rfl rfl
@[simp] abbrev aa.call43:=aa.aI aa.func43 rfl rfl
@[simp] abbrev aa.call44:=aa.aI aa.func44 rfl rfl
@[simp] abbrev aa.call45:=aa.aI aa.func45 rfl rfl
@[simp] abbrev aa.call46:=aa.aI aa.func46 rfl rfl
@[simp] abbrev aa.call47:=aa.aI aa.func47 rfl rfl
@[simp] abbrev aa.call48:=aa.aI aa.func48 rfl rfl
@[simp] abbrev aa.call49:=aa.aI aa.func49 rfl rfl
@[simp] abbrev aa.call50:=aa.aI aa.func50 rfl rfl
@[simp] abbrev aa.call52:=aa.aI aa.func52 rfl rfl
@[simp] abbrev aa.call53:=aa.aI aa.func53 rfl rfl
@[simp] abbrev aa.call54:=aa.aI aa.func54 rfl rfl
@[simp] abbrev aa.call55:=aa.aI aa.func55 rfl rfl
@[simp] abbrev aa.call56:=aa.aI aa.func56 rfl rfl
@[simp] abbrev aa.call57:=aa.aI aa.func57 rfl rfl
@[simp] abbrev aa.call58:=aa.aI aa.func58 rfl rfl
@[simp] abbrev aa.call59:=aa.aI aa.func59 rfl rfl
@[simp] abbrev aa.call60:=aa.aI aa.func60 rfl rfl
@[simp] abbrev aa.call61:=aa.aI aa.func61 rfl rfl
@[simp] abbrev aa.call62:=aa.aI aa.func62 rfl rfl
@[simp] abbrev aa.call63:=aa.aI aa.func63 rfl rfl
@[simp] abbrev aa.call64:=aa.aI aa.func64 rfl rfl
@[simp] abbrev aa.call65:=aa.aI aa.func65 rfl rfl
@[simp] abbrev aa.call66:=aa.aI aa.func66 rfl rfl
@[simp] abbrev aa.call67:=aa.aI aa.func67 rfl rfl
@[simp] abbrev aa.call69:=aa.aI aa.func69 rfl rfl
@[simp] abbrev aa.call70:=aa.aI aa.func70 rfl rfl
@[simp] abbrev aa.call71:=aa.aI aa.func71 rfl rfl
@[simp] abbrev aa.call72:=aa.aI aa.func72 rfl rfl
@[simp] abbrev aa.call73:=aa.aI aa.func73 rfl rfl
@[simp] abbrev aa.call74:=aa.aI aa.func74 rfl rfl
@[simp] abbrev aa.call75:=aa.aI aa.func75 rfl rfl
@[simp] abbrev aa.call76:=aa.aI aa.func76 rfl rfl
@[simp] abbrev aa.call77:=aa.aI aa.func77 rfl rfl
@[simp] abbrev aa.call78:=aa.aI aa.func78 rfl rfl
@[simp] abbrev aa.call79:=aa.aI aa.func79 rfl rfl
@[simp] abbrev aa.call80:=aa.aI aa.func80 rfl rfl
@[simp] abbrev aa.call81:=aa.aI aa.func81 rfl rfl
@[simp] abbrev aa.call82:=aa.aI aa.func82 rfl rfl
@[simp] abbrev aa.call83:=aa.aI aa.func83 rfl rfl
@[simp] abbrev aa.call84:=aa.aI aa.func84 rfl rfl
@[simp] abbrev aa.call85:=aa.aI aa.func85 rfl rfl
@[simp] abbrev aa.call86:=aa.aI aa.func86 rfl rfl
@[simp] abbrev aa.call87:=aa.aI aa.func87 rfl rfl
@[simp] abbrev aa.call92:=aa.aI aa.func92 rfl rfl
@[simp] abbrev aa.call93:=aa.aI aa.func93 rfl rfl
@[simp] abbrev aa.call94:=aa.aI aa.func94 rfl rfl
@[simp] abbrev aa.call98:=aa.aI aa.func98 rfl rfl
@[simp] abbrev aa.call99:=aa.aI aa.func99 rfl rfl
@[simp] abbrev aa.call100:=aa.aI aa.func100 rfl rfl
@[simp] abbrev aa.call101:=aa.aI aa.func101 rfl rfl
@[simp] abbrev aa.call102:=aa.aI aa.func102 rfl rfl
@[simp] abbrev aa.call103:=aa.aI aa.func103 rfl rfl
@[simp] abbrev aa.call104:=aa.aI aa.func104 rfl rfl
@[simp] abbrev aa.call105:=aa.aI aa.func105 rfl rfl
@[simp] abbrev aa.call106:=aa.aI aa.func106 rfl rfl
@[simp] abbrev aa.call107:=aa.aI aa.func107 rfl rfl
@[simp] abbrev aa.call116:=aa.aI aa.func116 rfl rfl
@[simp] abbrev aa.call117:=aa.aI aa.func117 rfl rfl
@[simp] abbrev aa.call138:=aa.aI aa.func138 rfl rfl
@[simp] abbrev aa.call139:=aa.aI aa.func139 rfl rfl
@[simp] abbrev aa.call140:=aa.aI aa.func140 rfl rfl
@[simp] abbrev aa.call141:=aa.aI aa.func141 rfl rfl
@[simp] abbrev aa.call161:=aa.aI aa.func161 rfl rfl
end
end Go.Proofs
