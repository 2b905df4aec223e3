/-
  Toward summed_holds: WHAT COMES TO ITS END ON EVERY TAPE COMES TO IT WHOEVER ANSWERS: by a tree, not by a count
-/
import Derived.Test.YtldmcdeibiclkaaGreatC14
import Derived.Conc.LeavingOf
import Derived.Below
import Derived.Test.YtldmcdeibiclkaaGreatC06
set_option linter.unusedVariables false
set_option linter.unusedSimpArgs false
set_option maxRecDepth 100000
set_option maxHeartbeats 20000000
namespace Go.Proofs.YtldmcdeibiclkaaGreat.U
variable {f:FuncId}{w:World}{b k:Nat}{Φ:Value->World->Prop}{π:Nat->Nat->Prop}{x y:Value}{cs:List Frame}{a:List Value}
section
open Go.Conc
section
variable {P:Program}{L:au}{T:aO}
theorem ik.tape{fr:Frame}(h:ik P L T fr cs w)(t:Nat->Question->Nat):ik P L T fr cs {w with tape:=t}:=by
 obtain⟨τ,h⟩:=h;exact⟨τ,h.dg,h.frame,h.callers,h.bot,h.fit,h.flat,h.bC,h.obj,h.tL⟩
theorem ik.step(A:iL P L T){fr:Frame}{cs B:List Frame}{w:World}(h:ik P L T fr cs w)(hlast:fr.mode=.returning->fr.defers= []->cs≠[]){m:Bool}{g1:Goroutine}{w1:World}{es:Array Event}(e:stepG P m {frame:=fr,callers:=cs++B,status:=.running,dying:=none} w=.go g1 w1 es)(hf:fF g1):
  ∃fr1 cs1,g1= {frame:=fr1,callers:=cs1++B,status:=.running,dying:=none}/\ik P L T fr1 cs1 w1/\w1.tape=w.tape/\w.drawn<=w1.drawn/\
   ∀t:Nat->Question->Nat,(∀i q,w.drawn<=i->i<w1.drawn->t i q=w.tape i q)->
    stepG P m {frame:=fr,callers:=cs++B,status:=.running,dying:=none} {w with tape:=t}=.go g1 {w1 with tape:=t} es:=by
 obtain⟨τ,h⟩:=h;exact h.step A hlast e hf
theorem ik.rW(A:iL P L T){fr:Frame}{B:List Frame}(h:ik P L T fr cs w)(hlast:fr.mode=.returning->fr.defers= []->cs≠[])(m:Bool):
  eF L.fn B (stepG P m {frame:=fr,callers:=cs++B,status:=.running,dying:=none} w):=by
 obtain⟨τ,h⟩:=h;exact h.rW A hlast m
theorem mM(P:Program)(k:Nat)(m:Machine):runN P (k+1) m=match runN P k m with|.next m'=>step P m'|e=>e:=by
 rw[runN_add];cases runN P k m with
 |next m'=>
  simp only[runN];cases step P m'<;>rfl
 |ended o w=>rfl
theorem th{P:Program}{a:Nat}{m:Machine}{o:Outcome}(h:runN P a m=.ended o w)(hab:a<=b):runN P b m=.ended o w:=by
 rw[show b=a+(b-a) by omega,runN_add,h]
structure St where
 fr:Frame
 cs:List Frame
 w:World
theorem Qn(A:iL P L T){Goal:Frame->List Frame->World->Prop}(hgt:∀fr cs w t,Goal fr cs w->Goal fr cs {w with tape:=t}){fr0:Frame}{cs0:List Frame}{wb:World}(h0:ik P L T fr0 cs0 wb)(hrun:∀t:Nat->Question->Nat,∃n fr cs w,runN P n (lone fr0 (cs0++ [wall]) {wb with tape:=t})=.next (lone fr (cs++ [wall]) w)/\fr.mode=.returning/\Goal fr cs w):Safe P Goal fr0 cs0 wb:=by
 classical
 refine Rm λhno=>?_;let Bad:St->Prop:=λs=>ik P L T s.fr s.cs s.w/\¬Safe P Goal s.fr s.cs s.w
 have hng:∀s,Bad s->¬Goal s.fr s.cs s.w:=λs hs hg=>hs.2 (.goal hg);let Last:St->Prop:=λs=>s.fr.mode=.returning/\s.fr.defers= []/\s.cs= []
 have htape:∀s,Bad s->∃t:Nat->Question->Nat,Last s\/¬∃fr1 cs1 w1 es,stepG P true {frame:=s.fr,callers:=s.cs++ [wall],status:=.running,dying:=none} {s.w with tape:=t}=.go {frame:=fr1,callers:=cs1++ [wall],status:=.running,dying:=none} w1 es/\fF {frame:=fr1,callers:=cs1++ [wall],status:=.running,dying:=none}/\Safe P Goal fr1 cs1 w1:=λs hs=>by
  by_cases hl:Last s
  ·exact⟨λ_ _=>0,.inl hl⟩
  ·refine Rm λhx=>hs.2 ?_;have hall:∀t:Nat->Question->Nat,∃fr1 cs1 w1 es,stepG P true {frame:=s.fr,callers:=s.cs++ [wall],status:=.running,dying:=none} {s.w with tape:=t}=.go {frame:=fr1,callers:=cs1++ [wall],status:=.running,dying:=none} w1 es/\fF {frame:=fr1,callers:=cs1++ [wall],status:=.running,dying:=none}/\Safe P Goal fr1 cs1 w1:=λt=>Rm λhy=>hx ⟨t,.inr hy⟩;exact .step (λt=>(hall t).choose) (λt=>(hall t).choose_spec.choose) (λt=>(hall t).choose_spec.choose_spec.choose) (λt=>(hall t).choose_spec.choose_spec.choose_spec.choose) (hng s hs) hl
    (λt=>(hall t).choose_spec.choose_spec.choose_spec.choose_spec.1) (λt=>(hall t).choose_spec.choose_spec.choose_spec.choose_spec.2.1) (λt=>(hall t).choose_spec.choose_spec.choose_spec.choose_spec.2.2)
 let tp:St->Nat->Question->Nat:=λs=>if h:Bad s then (htape s h).choose else λ_ _=>0
 have htp:∀s,Bad s->Last s\/¬∃fr1 cs1 w1 es,stepG P true {frame:=s.fr,callers:=s.cs++ [wall],status:=.running,dying:=none} {s.w with tape:=tp s}=.go {frame:=fr1,callers:=cs1++ [wall],status:=.running,dying:=none} w1 es/\fF {frame:=fr1,callers:=cs1++ [wall],status:=.running,dying:=none}/\Safe P Goal fr1 cs1 w1:=λs hs=>by
  have:=(htape s hs).choose_spec;simp only[tp,hs,dif_pos];exact this
 let Nx:St->St->Prop:=λs s1=>¬Last s/\∃es,stepG P true {frame:=s.fr,callers:=s.cs++ [wall],status:=.running,dying:=none} {s.w with tape:=tp s}=.go {frame:=s1.fr,callers:=s1.cs++ [wall],status:=.running,dying:=none} s1.w es/\fF {frame:=s1.fr,callers:=s1.cs++ [wall],status:=.running,dying:=none}
 have hlast:∀s,¬Last s->(s.fr.mode=.returning->s.fr.defers= []->s.cs≠[]):=λs hs h1 h2 h3=>hs ⟨h1,h2,h3⟩;have hnx:∀s s1,Bad s->Nx s s1->Bad s1/\s.w.drawn<=s1.w.drawn:=λs s1 hs hn=>by
  obtain⟨hnl,es,e,hf⟩:=hn;obtain⟨fr1,cs1,g1,hok,_,hdr,_⟩:=(hs.1.tape (tp s)).step A (hlast s hnl) e hf;simp only[Goroutine.mk.injEq]at g1;obtain⟨g2,g3,_⟩:=g1;have g4:=Rx g3;subst g2 g4;exact⟨⟨hok,λhsafe=>(htp s hs).elim hnl λhx=>hx ⟨_,_,_,es,e,hf,hsafe⟩⟩,hdr⟩
 let nxt:Option St->Option St:=λo=>o.bind λs=>if h: ∃s1,Nx s s1 then some h.choose else none
 let ch:Nat->Option St:=λk=>Nat.rec (some ⟨fr0,cs0,wb⟩) (λ_ o=>nxt o) k
 have ch0:ch 0=some ⟨fr0,cs0,wb⟩:=rfl;have chS:∀k,ch (k+1)=nxt (ch k):=λ_=>rfl;have hbad:∀k s,ch k=some s->Bad s:=by
  intro k;induction k with
  |zero=>intro s hs;rw[ch0]at hs;cases hs;exact⟨h0,hno⟩
  |succ k ih=>
   intro s hs;rw[chS]at hs;simp only[nxt]at hs;cases hk:ch k with
   |none=>rw[hk]at hs;cases hs
   |some s'=>
    rw[hk]at hs;simp only[RU]at hs;split at hs
    ·rename_i hx;cases hs;exact (hnx s' _ (ih s' hk) hx.choose_spec).1
    ·cases hs
 have hstep:∀k s s1,ch k=some s->ch (k+1)=some s1->Nx s s1:=by
  intro k s s1 hs hs1;rw[chS,hs]at hs1;simp only[nxt,RU]at hs1;split at hs1
  ·rename_i hx;cases hs1;exact hx.choose_spec
  ·cases hs1
 have hstop:∀k s,ch k=some s->ch (k+1)=none->¬∃s1,Nx s s1:=by
  intro k s hs hs1 hx;rw[chS,hs]at hs1;simp only[nxt,RU,hx,dif_pos]at hs1;cases hs1
 have hmono:∀k d s s1,ch k=some s->ch (k+d)=some s1->s.w.drawn<=s1.w.drawn:=by
  intro k d;induction d with
  |zero=>intro s s1 hs hs1;rw[Nat.add_zero,hs]at hs1;cases hs1;exact AI _
  |succ d ih=>
   intro s s1 hs hs1;cases hd:ch (k+d) with
   |none=>
    have e:ch (k+(d+1))=nxt (ch (k+d)):=chS (k+d);rw[e,hd]at hs1;cases hs1
   |some s'=>exact IT (ih s s' hs hd) (hnx s' s1 (hbad _ _ hd) (hstep _ _ _ hd hs1)).2
 let On:Nat->St->Nat->Prop:=λi s k=>ch k=some s/\s.w.drawn<=i/\∀s1,ch (k+1)=some s1->i<s1.w.drawn
 let Tp:Nat->Question->Nat:=λi q=>if h: ∃s k,On i s k then tp h.choose i q else 0
 have hT:∀i q s k,On i s k->Tp i q=tp s i q:=by
  intro i q s k hon;have hx: ∃s k,On i s k:=⟨s,k,hon⟩
  simp only[Tp,hx,dif_pos];have hsp:=hx.choose_spec;obtain⟨k',hon'⟩:=hsp;have heq:hx.choose=s:=by
   rcases Nat.lt_trichotomy k k' with hlt|heq|hgt'
   ·exfalso;cases hs1:ch (k+1) with
    |none=>
     have hall:∀d,ch (k+1+d)=none:=by
      intro d;induction d with
      |zero=>exact hs1
      |succ d ih=>show nxt (ch (k+1+d))=none;rw[ih];rfl
     have:=hall (k' - (k+1));rw[show k+1+(k' - (k+1))=k' by omega,hon'.1]at this;cases this
    |some s1=>
     have h1:=hon.2.2 s1 hs1;have h2:=hmono (k+1) (k' - (k+1)) s1 hx.choose hs1 (by rw[show k+1+(k' - (k+1))=k' by omega];exact hon'.1);have h3:=hon'.2.1;omega
   ·subst heq
    have:=hon'.1;rw[hon.1]at this;exact (Q0 this).symm
   ·exfalso;cases hs1:ch (k'+1) with
    |none=>
     have hall:∀d,ch (k'+1+d)=none:=by
      intro d;induction d with
      |zero=>exact hs1
      |succ d ih=>show nxt (ch (k'+1+d))=none;rw[ih];rfl
     have:=hall (k-(k'+1));rw[show k'+1+(k-(k'+1))=k by omega,hon.1]at this;cases this
    |some s1=>
     have h1:=hon'.2.2 s1 hs1;have h2:=hmono (k'+1) (k-(k'+1)) s1 s hs1 (by rw[show k'+1+(k-(k'+1))=k by omega];exact hon.1);have h3:=hon.2.1;omega
  rw[heq]
 have hfollow:∀k s,ch k=some s->runN P k (lone fr0 (cs0++ [wall]) {wb with tape:=Tp})=.next (lone s.fr (s.cs++ [wall]) {s.w with tape:=Tp}):=by
  intro k;induction k with
  |zero=>intro s hs;rw[ch0]at hs;cases hs;rfl
  |succ k ih=>
   intro s1 hs1;cases hk:ch k with
   |none=>rw[chS,hk]at hs1;cases hs1
   |some s=>
    have hn:=hstep k s s1 hk hs1;obtain⟨hnl,es,e,hf⟩:=hn;have hb:=hbad k s hk;obtain⟨fr1,cs1,g1,hok,htp',hdr,hcong⟩:=(hb.1.tape (tp s)).step A (hlast s hnl) e hf;have hc:=hcong Tp (λi q hi1 hi2=>hT i q s k ⟨hk,hi1,λs2 hs2=>by rw[hs1]at hs2;cases hs2;exact hi2⟩);have hst:step P (lone s.fr (s.cs++ [wall]) {s.w with tape:=Tp})=.next (lone s1.fr (s1.cs++ [wall]) {s1.w with tape:=Tp}):=step_lone_go (by
     have hc':stepG P true {frame:=s.fr,callers:=s.cs++ [wall],status:=.running,dying:=none} {s.w with tape:=Tp}=_:=hc;rw[hc'];rfl)
    rw[mM,ih s hk];exact hst
 obtain⟨n,fr,cs,w,hn,hmode,hg⟩:=hrun Tp;cases hcn:ch n with
 |some s=>
  have:=hfollow n s hcn;rw[hn]at this;simp only[lone,Stepped.next.injEq,Machine.mk.injEq,Array.mk.injEq,Rq,Goroutine.mk.injEq,Ri]at this;obtain⟨hw,hfr,hcs⟩:=this;have hcs':=Rx hcs;subst hfr hcs' hw
  have:=hgt _ _ _ s.w.tape hg;exact hng s (hbad n s hcn) this
 |none=>
  have hex: ∃k s,k<n/\ch k=some s/\ch (k+1)=none:=by
   have:∀m,ch m=none->∃k s,k<m/\ch k=some s/\ch (k+1)=none:=by
    intro m;induction m with
    |zero=>intro h;rw[ch0]at h;cases h
    |succ m ih=>
     intro h;cases hm:ch m with
     |none=>obtain⟨k,s,h1,h2⟩:=ih hm;exact⟨k,s,by omega,h2⟩
     |some s=>exact⟨m,s,by omega,hm,h⟩
   exact this n hcn
  obtain⟨k,s,hkn,hk,hk1⟩:=hex;have hb:=hbad k s hk;have hstp:=hstop k s hk hk1;have hfk:=hfollow k s hk;have hTs:∀i q,s.w.drawn<=i->Tp i q=tp s i q:=λi q hi=>hT i q s k ⟨hk,hi,λs2 hs2=>by rw[hk1]at hs2;cases hs2⟩;have hokT:=hb.1.tape Tp;by_cases hL:Last s
  case neg=>
   have hlst:=hlast s hL;rcases hokT.rW A (B:=[wall]) hlst true with⟨g1,w1,es,e,hf⟩|⟨o,w1,es,e⟩|⟨g1,w1,es,e,hp⟩
   ·
    obtain⟨fr1,cs1,rfl,hok1,htt,hdr,hcong⟩:=hokT.step A hlst e hf;have hc:=hcong (tp s) (λi q hi1 _=>(hTs i q hi1).symm);exact hstp ⟨⟨fr1,cs1,{w1 with tape:=tp s}⟩,hL,es,hc,hf⟩
   ·have hst:step P (lone s.fr (s.cs++ [wall]) {s.w with tape:=Tp})=.ended o w1:=step_lone_ended (by rw[e];rfl);have hend:runN P (k+1) (lone fr0 (cs0++ [wall]) {wb with tape:=Tp})=.ended o w1:=by rw[mM,hfk];exact hst
    have:=th hend (show k+1<=n by omega);rw[hn]at this;cases this
   ·obtain⟨fr1,cs1,ch1,rfl,hm1,hf1,hc1,hd1⟩:=hp;have hst:step P (lone s.fr (s.cs++ [wall]) {s.w with tape:=Tp})=.next (lone fr1 (cs1++ [wall]) w1):=step_lone_go (by rw[e];rfl);have hrun2:runN P (k+1) (lone fr0 (cs0++ [wall]) {wb with tape:=Tp})=.next (lone fr1 (cs1++ [wall]) w1):=by rw[mM,hfk];exact hst
    have hn':=hn;rw[show n=(k+1)+(n-(k+1)) by omega,runN_add,hrun2]at hn';obtain⟨g,hg1,ch2,hg2⟩:=panics A _ fr1 cs1 w1 ch1 hm1 hf1 hc1 hd1 _ hn';simp only[lone]at hg1;cases hg1;have hg3:fr.mode=.panicking ch2:=hg2;rw[hmode]at hg3;cases hg3
  case pos=>
   obtain⟨l1,l2,l3⟩:=hL;obtain⟨τ,hbt⟩:=hb.1;obtain⟨fn,c,f1,f2,_⟩:=A.stat.br.body s.fr.fn hbt.frame.br hbt.frame.np;have e1:stepG P true {frame:=s.fr,callers:=s.cs++ [wall],status:=.running,dying:=none} {s.w with tape:=Tp}=unwind P true s.fr (s.cs++ [wall]) none {s.w with tape:=Tp}:=by simp only[stepG,l1]
   rw[nk l2 l1 f1]at e1;have hwall:∀(o:Outcome) (x:World),runN P (k+1) (lone fr0 (cs0++ [wall]) {wb with tape:=Tp})=.ended o x->False:=λo x hx=>by
    have:=th hx (show k+1<=n by omega);rw[hn]at this;cases this
   cases hr:(results fn s.fr.tmps).runT P {s.w with tape:=Tp} #[] with
   |mk r es=>
    rw[hr]at e1;cases r with
    |halt hh w1=>
     have hst: ∃o,step P (lone s.fr (s.cs++ [wall]) {s.w with tape:=Tp})=.ended o w1:=by
      cases hh<;>exact⟨_,step_lone_ended (by rw[e1];rfl)⟩
     obtain⟨o,hst⟩:=hst;exact hwall o w1 (by rw[mM,hfk];exact hst)
    |ok v w1=>
     have hdr:doReturn P true s.fr (s.cs++ [wall]) none v w1=.go {frame:=wall,callers:=[],status:=.running,dying:=none} w1:=by
      rw[l3];simp only[List.nil_append,doReturn,hbt.frame.kind.1];rfl
     have hst:step P (lone s.fr (s.cs++ [wall]) {s.w with tape:=Tp})=.next (lone wall [] w1):=step_lone_go (by
      rw[e1];simp only[lP,hdr];rfl)
     have h1:runN P (k+1) (lone fr0 (cs0++ [wall]) {wb with tape:=Tp})=.next (lone wall [] w1):=by rw[mM,hfk];exact hst
     have hst2: ∃o,step P (lone wall [] w1)=.ended o w1:=⟨_,step_lone_ended (by simp only[stepG,wall,stepG.exec];rfl)⟩
     obtain⟨o,hst2⟩:=hst2;by_cases hnk:n=k+1
     ·rw[hnk,h1]at hn;simp only[lone,Stepped.next.injEq,Machine.mk.injEq,Array.mk.injEq,Rq,Goroutine.mk.injEq,Ri]at hn;obtain⟨_,_,hcs⟩:=hn;simp at hcs
     ·have h2:runN P (k+2) (lone fr0 (cs0++ [wall]) {wb with tape:=Tp})=.ended o w1:=by rw[mM,h1];exact hst2
      have:=th h2 (show k+2<=n by omega);rw[hn]at this;cases this
theorem Ji(A:iL P L T){args:Array Value}{w0:World}(h0:ik P L T (Frame.enter P f args .normal) [] w0)(hΦ:∀v w (t:Nat->Question->Nat),Φ v w->Φ v {w with tape:=t})(hc:∀t:Nat->Question->Nat,Calls P f args {w0 with tape:=t} λe w'=>∃v,e=.returned v/\Φ v w'):
  Safe P (tZ P f Φ) (Frame.enter P f args .normal) [] w0:=by
 refine Qn A (cs0:=[]) ?_ h0 ?_
 ·rintro fr cs w t ⟨h1,h2,h3,h4,fn,v,h5,⟨t',h6⟩,h7⟩;exact⟨h1,h2,h3,h4,fn,v,h5,⟨t',h6⟩,hΦ v w t h7⟩
 ·intro t;obtain⟨e,w',fr,⟨v,rfl,hφ⟩,⟨n,hn⟩,hfn,hm,hd,hk,fn,hfn2,hres⟩:=hc t [wall];refine⟨n,fr,[],w',hn,hm,rfl,hfn,hm,hd,fn,v,hfn▸hfn2,⟨w'.tape,hres⟩,hφ⟩
end
end
set_option maxRecDepth 100000
def kE:aO:={cu with bj:=0}
abbrev fO:au:=bG gN
def pR(Q:Program)(f:Nat)(fn:Func):Bool:=match fn.body with|some c=>cL Q fO kE f c&&iH fO kE f fn|none=>false
theorem Hv:(nv.all λf=>f==fQ||(Tryz.prog.funcs[f]?).all (pR Qg f))=true:=by kernel_rfl
theorem Oe:pR Qg fQ ki=true:=by kernel_rfl
theorem PY(f:Nat)(hf:fO.fn f): ∃fn c,Gg[f]?=some fn/\fn.body=some c/\cL Qg fO kE f c=true/\iH fO kE f fn=true:=by
 have un:∀fn,pR Qg f fn=true->∃c,fn.body=some c/\cL Qg fO kE f c=true/\iH fO kE f fn=true:=λfn h=>by
  unfold pR at h;split at h
  ·rename_i c hc;simp only[No]at h;exact⟨c,hc,h⟩
  ·cases h
 by_cases hn:f=fQ
 ·subst hn;obtain⟨c,h⟩:=un _ Oe;exact⟨ki,c,xa,h⟩
 ·have hm:f∈nv:=by simpa[bG,cu] using hf
  have:=List.all_eq_true.1 Hv f hm;simp only[Q8,Rw]at this
  have:=this.resolve_left hn;obtain⟨fn,_,h1,h2,_⟩:=rP (J:=gN) f hf hn;rw[h1]at this;obtain⟨c,h⟩:=un fn this;exact⟨fn,c,h2,h⟩
theorem xw:Let Qg Qg.funcs fO kE:=by
 refine⟨λf hf _=>?_,λf hf=>?_,⟨jO.fb,jO.cb,jO.ib,jO.lb,jO.eA,jO.loc,jO.ar,jO.cO⟩,ry,sQ⟩
 ·obtain⟨fn,c,h1,h2,h3,h4⟩:=PY f hf;exact⟨fn,c,h1,h1,h2,h3,h4⟩
 ·have:=(sD.plain f hf).2;exact⟨this,this⟩
theorem wP:iL Qg fO kE:=⟨⟨qz,(nH fO).1,(nH fO).2,xw⟩,rfl,λh=>by
 have:nv.contains 0=true:=h;exact absurd this (by decide)⟩
def bare(K:List Nat)(W:World):World:={W with heap:=W.heap.mapIdx λi o=>if K.contains i then o else .cells #[] 0}
theorem oq(K:List Nat)(W:World):(bare K W).heap.size=W.heap.size:=by simp[bare]
theorem lI{K:List Nat}{W:World}(h:b∈K):(bare K W).heap[b]?=W.heap[b]? :=by
 unfold bare;simp only[Array.getElem?_mapIdx];cases hx:W.heap[b]? with
 |none=>rfl
 |some o=>simp[h]
theorem F0{K:List Nat}{W:World}(h:b∉K){o:Obj}(ho:(bare K W).heap[b]?=some o):o=.cells #[] 0:=by
 unfold bare at ho;simp only[Array.getElem?_mapIdx]at ho;cases hx:W.heap[b]? with
 |none=>rw[hx]at ho;cases ho
 |some q=>rw[hx]at ho;simpa[h] using ho.symm
def yF(W:World)(b:Nat):Prop:=∃c e f,W.heap[b]?=some (.cells c e f)/\∀x∈c,∀π,VR fO π x x
def ln(K:List Nat)(W:World)(v:Value):Prop:=ov 8 v=true\/∃a n c,v=.slice (some a) n c/\a.block∈K/\a.block<W.heap.size
def iw(K:List Nat)(W:World):ah:=⟨λr s=>r=s/\r∈K/\r<W.heap.size,λr s=>r=s/\r∈K/\r<W.heap.size,λ_ _=>False,λ_ _=>False⟩
theorem iF{K:List Nat}{W:World}{r s:Nat}:(iw K W).un r s↔r=s/\r∈K/\r<W.heap.size:=by simp[ah.un,iw]
theorem wT(K:List Nat)(W:World):Fit (iw K W):=
 {own:=λ_ _ h=>h
  two:=λ_ _ _ _ h=>h.elim
  jR:=λ_ _ _ _ h=>h.elim
  j3:=λ_ _ _ h=>h.elim
  fn:=λr s t h k=>by rw[<-(iF.1 h).1,<-(iF.1 k).1]
  inj:=λr s t h k=>by rw[(iF.1 h).1,(iF.1 k).1]}
theorem xn{K:List Nat}{W:World}{T:aO}(h:∀g,g<T.ng->g∈K/\g<W.heap.size):Flat T (iw K W):=⟨λ_ _ _ h=>h,λg hg=>⟨rfl,h g hg⟩⟩
theorem CE{L:au}{K:List Nat}{W:World}{v:Value}(h:ln K W v):VR L (iw K W).all v v:=by
 rcases h with h|⟨a,n,c,rfl,h1,h2⟩
 ·exact qf 8 v h
 ·exact .slice n c ⟨⟨rfl,h1,h2⟩,rfl,rfl⟩
theorem wU{L:au}{K:List Nat}{W:World}(hcol:∀i,L.bO f i=.any){args:Array Value}(ha:∀v∈args,ln K W v):TR L (iw K W) f args args:=
 ⟨rfl,λi x y hx hy=>by
  rw[hx]at hy;cases hy;rw[hcol i];exact CE (ha x (Array.mem_of_getElem? hx))⟩
theorem K3(P:Program)(f:FuncId)(xs:Array Value):(Frame.enter P f xs .normal).roundOf=none:=by
 unfold Frame.enter;rfl
theorem IM{K:List Nat}{W:World}(h0:∀g,g<cu.ng->g∈K/\g<W.heap.size)(hfl:∀b∈K,yF W b)(hf:fO.fn f)(hcol:∀i,fO.bO f i=.any){args:Array Value}(ha:∀v∈args,ln K W v)(hΦ:∀v w (t:Nat->Question->Nat),Φ v w->Φ v {w with tape:=t})(hc:∀t:Nat->Question->Nat,Calls Qg f args {bare K W with tape:=t} λe w'=>∃v,e=.returned v/\Φ v w'):
  Safe Qg (tZ Qg f Φ) (Frame.enter Qg f args .normal) [] (bare K W):=by
 refine Ji wP ⟨iw K W,λr s h=>(iF.1 h).1,bl.enter xw hf (λe=>wP.np (e▸hf)) (wU hcol ha),.nil _,K3 _ _ _,wT K W,xn h0,λr s h=>?_,λr s h=>?_,λr d h=>?_⟩ hΦ hc
 ·rw[oq];exact (iF.1 h).2.2
 ·obtain⟨rfl,hk,hlt⟩:=iF.1 h;obtain⟨c,e,g,h1,h2⟩:=hfl r hk;refine⟨_,_,by rw[lI hk];exact h1,by rw[lI hk];exact h1,λ_=>?_,λh=>h.elim,λh=>h.elim⟩
  have:=OR.cells (L:=fO) (τ:=iw K W) e g (xs:=c) (ys:=c) ⟨c.map λx=>(x,x),by simp[Rl],by simp[Rl],λz hz=>by
   obtain⟨x,hx,rfl⟩:=Array.mem_map.1 hz;exact h2 x hx _⟩
  exact this
 ·by_cases hr:r∈K
  ·rw[lI hr]at h;obtain⟨c,e,f,h1,_⟩:=hfl r hr;rw[h1]at h;cases h
  ·have:=F0 hr h;cases this
set_option maxRecDepth 100000
inductive FV (J:String->Value):Value->Value->Prop
 |aW (s:String):(∀c,J s≠.agg c)->(∀c,J s≠.tuple c)->(∀b,J s≠.bool b)->FV J (.func (.method s) #[.nilIface] #[]) (J s)
 |bool (b:Bool):FV J (.bool b) (.bool b)
 |int (k:IntKind) (n:Int):FV J (.int k n) (.int k n)
 |string (s:ByteArray):FV J (.string s) (.string s)
 |agg (xs:Array (Value×Value)):(∀z∈xs,FV J z.1 z.2)->FV J (.agg (xs.map (·.1))) (.agg (xs.map (·.2)))
 |tuple (xs:Array (Value×Value)):(∀z∈xs,FV J z.1 z.2)->FV J (.tuple (xs.map (·.1))) (.tuple (xs.map (·.2)))
theorem FV.vr{J:String->Value}{L:au}(hL:L.aW=J)(h:FV J x y):VR L π x y:=by
 subst hL;induction h with
 |aW s a b c=>exact .aW s a b c
 |bool b=>exact .bool b
 |int k n=>exact .int k n
 |string s=>exact .string s
 |agg xs _ ih=>exact .agg xs ih
 |tuple xs _ ih=>exact .tuple xs ih
theorem FV.self{J:String->Value}{L:au}(hL:L.aW=gN)(h:FV J x y):VR L π x x:=by
 induction h with
 |aW s a b c=>
  have:=VR.aW (L:=L) (π:=π) s (λc e=>by rw[hL]at e;cases e) (λc e=>by rw[hL]at e;cases e) (λb e=>by rw[hL]at e;cases e);rw[hL]at this;exact this
 |bool b=>exact .bool b
 |int k n=>exact .int k n
 |string s=>exact .string s
 |agg xs _ ih=>
  have:=VR.agg (L:=L) (π:=π) (xs.map λz=>(z.1,z.1)) (λz hz=>by
   obtain⟨q,hq,rfl⟩:=Array.mem_map.1 hz;exact ih q hq)
  simpa[Array.map_map,Rl] using this
 |tuple xs _ ih=>
  have:=VR.tuple (L:=L) (π:=π) (xs.map λz=>(z.1,z.1)) (λz hz=>by
   obtain⟨q,hq,rfl⟩:=Array.mem_map.1 hz;exact ih q hq)
  simpa[Array.map_map,Rl] using this
theorem tw{R:Value->Value->Prop}{xs ys:Array (Value×Value)}(e:ys.map (·.1)=xs.map (·.1))(h:∀z∈xs,∀y,R z.1 y->y=z.2)(hy:∀z∈ys,R z.1 z.2):ys.map (·.2)=xs.map (·.2):=by
 have hs:ys.size=xs.size:=by simpa using congrArg Array.size e
 apply QX (by simpa using hs);intro i h1 h2;have i1:i<ys.size:=by simpa using h1
 have i2:i<xs.size:=by simpa using h2
 have ei:ys[i].1=xs[i].1:=by
  have:=congrArg (λa:Array Value=>a[i]?) e;simpa[i1,i2] using this
 simp only[Array.getElem_map];refine h xs[i] (Array.getElem_mem i2) _ ?_;rw[<-ei];exact hy _ (Array.getElem_mem i1)
theorem FV.one{J:String->Value}{L:au}(hL:L.aW=J)(h:FV J x y):∀y',VR L π x y'->y'=y:=by
 subst hL;induction h with
 |aW s a b c=>intro y' h;generalize hx:(Value.func (.method s) #[.nilIface] #[])=x at h;cases h<;>first|(cases hx;rfl)|cases hx
 |bool b=>intro y' h;cases h;rfl
 |int k n=>intro y' h;cases h;rfl
 |string s=>intro y' h;cases h;rfl
 |agg xs _ ih=>
  intro y' h;generalize hx:Value.agg (xs.map (·.1))=x at h;cases h with
  |agg ys hy=>
   congr 1;exact tw (R:=VR L π) (by injection hx with hx;exact hx.symm) ih hy
  |_=>cases hx
 |tuple xs _ ih=>
  intro y' h;generalize hx:Value.tuple (xs.map (·.1))=x at h;cases h with
  |tuple ys hy=>
   congr 1;exact tw (R:=VR L π) (by injection hx with hx;exact hx.symm) ih hy
  |_=>cases hx
def nm(k:Nat):String:=String.ofList (List.replicate k default)
theorem Kp(k:Nat):(nm k).length=k:=by simp[nm]
def Speaks(J:String->Value)(k:Nat)(ls:List Value):Prop:=∀i,i<ls.length->J (nm (k+i))=ls.getD i (.int .i64 0)
theorem Speaks.left{J:String->Value}{b:List Value}(h:Speaks J k (a++b)):Speaks J k a:=λi hi=>by
 rw[h i (by simp;omega)];simp[List.getD,List.getElem?_append_left hi]
theorem Speaks.right{J:String->Value}{b:List Value}(h:Speaks J k (a++b)):Speaks J (k+a.length) b:=λi hi=>by
 rw[Nat.add_assoc,h (a.length+i) (by simp;omega)];simp[List.getD,List.getElem?_append_right]
theorem tq(n:Nat)(hv:∀v:Value,SizeOf.sizeOf v<n->∀k,∃x ls,∀J,Speaks J k ls->FV J x v):∀(l:List Value),(∀v∈l,SizeOf.sizeOf v<n)->∀k,∃(zs:List (Value×Value)) (ls:List Value),zs.map (·.2)=l/\∀J,Speaks J k ls->∀z∈zs,FV J z.1 z.2
 |[],_,k=>⟨[],[],rfl,λJ _ z hz=>by simp at hz⟩
 |v::l,h,k=>by
  obtain⟨x,l1,h1⟩:=hv v (h v (by simp)) k;obtain⟨zs,l2,e2,h2⟩:=tq n hv l (λu hu=>h u (by simp[hu])) (k+l1.length);refine⟨(x,v)::zs,l1++l2,by simp[e2],λJ hJ z hz=>?_⟩;rcases RP.1 hz with rfl|hz
  ·exact h1 J hJ.left
  ·exact h2 J hJ.right z hz
theorem Dt(n:Nat):∀v:Value,SizeOf.sizeOf v<n->∀k,∃x ls,∀J,Speaks J k ls->FV J x v:=by
 induction n with
 |zero=>intro v h;omega
 |succ n ih=>
  intro v hs k;have other:(∀c,v≠.agg c)->(∀c,v≠.tuple c)->(∀b,v≠.bool b)->∃x ls,∀J,Speaks J k ls->FV J x v:=λa b c=>
   ⟨.func (.method (nm k)) #[.nilIface] #[],[v],λJ hJ=>by
    have e:J (nm k)=v:=by simpa using hJ 0 (by simp)
    have:=FV.aW (J:=J) (nm k) (by rw[e];exact a) (by rw[e];exact b) (by rw[e];exact c);rw[e]at this;exact this⟩
  cases v with
  |bool b=>exact⟨.bool b,[],λJ _=>.bool b⟩
  |agg c=>
   have hc:∀v∈c.toList,SizeOf.sizeOf v<n:=λv hv=>by
    have h1:=Array.sizeOf_lt_of_mem (Array.mem_toList_iff.1 hv);have h2:SizeOf.sizeOf (Value.agg c)=1+SizeOf.sizeOf c:=by simp
    omega
   obtain⟨zs,ls,e,h⟩:=tq n ih c.toList hc k;refine⟨.agg (zs.toArray.map (·.1)),ls,λJ hJ=>?_⟩
   have:=FV.agg (J:=J) zs.toArray (λz hz=>h J hJ z (by simpa using hz));have e2:zs.toArray.map (·.2)=c:=by apply Array.ext';simpa using e
   rw[e2]at this;exact this
  |tuple c=>
   have hc:∀v∈c.toList,SizeOf.sizeOf v<n:=λv hv=>by
    have h1:=Array.sizeOf_lt_of_mem (Array.mem_toList_iff.1 hv);have h2:SizeOf.sizeOf (Value.tuple c)=1+SizeOf.sizeOf c:=by simp
    omega
   obtain⟨zs,ls,e,h⟩:=tq n ih c.toList hc k;refine⟨.tuple (zs.toArray.map (·.1)),ls,λJ hJ=>?_⟩
   have:=FV.tuple (J:=J) zs.toArray (λz hz=>h J hJ z (by simpa using hz));have e2:zs.toArray.map (·.2)=c:=by apply Array.ext';simpa using e
   rw[e2]at this;exact this
  |_=>exact other (λc e=>by cases e) (λc e=>by cases e) (λb e=>by cases e)
section
open Go.Conc
set_option maxRecDepth 100000
theorem GS{P:Program}{fr:Frame}(hk:fr.kind=.normal)(h:P.inits.idxOf? fr.fn=none)(v:Value)(w:World):doReturn P true fr [] none v w=.ended (.done v) w:=by
 simp[doReturn,hk,h]
def pj(J:String->Value)(K:List Nat)(W:World)(f:FuncId)(Φ:Value->World->Prop)(y:Value)(W':World):Prop:=
 ∃x w1 τ',Φ x w1/\CR (bG J) τ' ((bG J).res f) x y/\ja (iw K W) τ' W W'/\∀r s,τ'.un r s->∃o q,w1.heap[r]?=some o/\W'.heap[s]?=some q/\KR (bG J) (CC Pg (bG J) cu) τ' r s o q
def jW(J:String->Value)(K:List Nat)(V W:World):Prop:=V.heap.size=W.heap.size/\∀b∈K,∃zs:Array (Value×Value),∃e g,V.heap[b]?=some (.cells (zs.map (·.1)) e g)/\W.heap[b]?=some (.cells (zs.map (·.2)) e g)/\∀z∈zs,FV J z.1 z.2
theorem jW.flat{J:String->Value}{K:List Nat}{V W:World}(h:jW J K V W):∀b∈K,yF V b:=λb hb=>by
 obtain⟨zs,e,g,h1,_,h3⟩:=h.2 b hb;refine⟨_,e,g,h1,λx hx π=>?_⟩;obtain⟨z,hz,rfl⟩:=Array.mem_map.1 hx;exact (h3 z hz).self rfl
section
variable {K:List Nat}{V W:World}{J:String->Value}
theorem Pj(h0:∀g,g<cu.ng->g∈K/\g<W.heap.size)(hbl:jW J K V W)(hf:(bG J).fn f)(hnp:f≠fQ)(hcol:∀i,(bG J).bO f i=.any){args:Array Value}(ha:∀v∈args,ln K W v):
  gD Pg Gg (bG J) cu (λ_=>False) [] (iw K W) (Frame.enter Qg f args .normal) [] (bare K V) #[G (Frame.enter Pg f args .normal) []] W #[] (λ_=>0):=by
 refine⟨⟨_,rfl,⟨⟨?_,⟨rfl,rfl⟩,⟨rfl,rfl⟩,⟨rfl,rfl⟩,[],[],rfl,rfl,.nil _,rfl⟩,?_,?_,λr s h=>?_,λr s h=>?_⟩⟩,leavers_one _ _,?_,λr s _ h=>h,λs h=>h.elim⟩
 ·refine fM.enter sD hf (wU hcol ha) (λk hk=>?_);have:(if f==fQ then some 3 else none)=some k:=hk;rw[By (by simpa using hnp)]at this;cases this
 ·exact wT K W
 ·exact xn h0
 ·obtain⟨rfl,_,hlt⟩:=iF.1 h;exact⟨by rw[oq,hbl.1];exact hlt,hlt⟩
 ·obtain⟨rfl,hk,hlt⟩:=iF.1 h;obtain⟨zs,e,g,h1,h2,h3⟩:=hbl.2 r hk;refine⟨_,_,by rw[lI hk];exact h1,h2,λ_=>.cells e g ⟨zs,rfl,rfl,λz hz=>(h3 z hz).vr rfl⟩,λh=>h.elim,λh=>h.elim⟩
 ·have:=past_nil;exact⟨this.clean,λi a ha=>by simp[touchAt,Trace.act?]at ha,this.over,this.hears,λop hop=>by simp at hop⟩
theorem OT(h0:∀g,g<cu.ng->g∈K/\g<W.heap.size)(hbl:jW J K V W)(hf:(bG J).fn f)(hnp:f≠fQ)(hin:Pg.inits.idxOf? f=none)(hcol:∀i,(bG J).bO f i=.any){args:Array Value}(ha:∀v∈args,ln K W v)(hΦ:∀v w (t:Nat->Question->Nat),Φ v w->Φ v {w with tape:=t})(hc:∀t:Nat->Question->Nat,Calls Qg f args {bare K V with tape:=t} λe w'=>∃v,e=.returned v/\Φ v w'):
  ∃M last o w' t',runNT Pg (M+1) (solo (G (Frame.enter Pg f args .normal) []) W) #[]=(.ended o w',t')/\runN Pg M (solo (G (Frame.enter Pg f args .normal) []) W)=.next last/\step Pg last=.ended o w'/\Go.Conc.Good Pg (pj J K W f Φ) last o w' t':=by
 have hsafe:=IM (W:=V) (λg hg=>by rw[hbl.1];exact h0 g hg) hbl.flat (f:=f) hf hcol (λv hv=>(ha v hv).imp id λ⟨a,n,c,e,h1,h2⟩=>⟨a,n,c,e,h1,by rw[hbl.1];exact h2⟩) hΦ hc;have hg:∀fr cs w,tZ Qg f Φ fr cs w->cs= []/\fr.fn≠fQ:=λfr cs w h=>⟨h.1,by rw[h.2.1];exact hnp⟩
 obtain⟨N,gs',v',sl',t',q',τ',fr',cs',w1,Sh',hr,hb,hgoal,hwent⟩:=(Kx BB (MP hg []) hsafe).1 _ W none _ _ _ _ (Pj h0 hbl hf hnp hcol ha);obtain⟨rfl,hfn,hmode,hdef,fn,x,hfun,⟨tp,hres⟩,hφ⟩:=hgoal;obtain⟨h,hh0,hS⟩:=hb.main;have hfun':Pg.funcs[fr'.fn]?=some fn:=by
  rw[hfn,<-sH hnp];exact hfun
 have hend:Goes Pg true AtRel (λ_ _ _=>False) (AtEnd Pg (gU Sh') v'.heap.size (pj J K W f Φ)) 0 h v':=by
  rintro _ ⟨d,rfl⟩;obtain⟨y,fs,hy,hev,hcl,hkind,hfn2,hst⟩:=(hS.at d).last BB true (show fr'.fn≠cu.bj by rw[hfn];exact hnp) ⟨hmode,hdef,rfl⟩ hfun' hres;refine⟨hS.g.status.2,y,fs,?_,λe he=>zx (hev e he) ?_ ?_,x,w1,τ',hφ,?_,?_,?_⟩
  ·rw[hst];have hff:h.frame.fn=f:=hfn2.trans hfn;rw[GS hkind (by rw[hff];exact hin)];simp[GStep.after]
  ·rintro s ⟨r,hx⟩ hsh;exact hb.apart r s hx hsh
  ·rintro s ⟨r,hx⟩;exact (hS.bC r s hx).2
  ·have hy':CR (bG J) τ' ((bG J).res fr'.fn) x y:=hy;rw[hfn]at hy';exact hy'
  ·exact⟨hwent.grow,hwent.tape,hwent.os,hwent.output,hwent.eX,hwent.more,hwent.new⟩
  ·exact hS.obj
 obtain⟨M,last,o,w',t'',e1,e2,e3,e4⟩:=beside_ends (P:=Pg) (sl:=sl') (λw w' es h=>h.elim) hh0 hb.fq hb.jQ hend;have hr':runNT Pg N (solo (G (Frame.enter Pg f args .normal) []) W) #[]=(.next (crowd gs' v' sl'),t'):=hr;refine⟨N+M,last,o,w',t'',?_,?_,e3,e4⟩
 ·rw[show N+M+1=N+(M+1) by omega,runNT_add,hr'];exact e1
 ·rw[<-runNT_fst _ _ _ #[],runNT_add,hr'];rw[<-runNT_fst _ _ _ t']at e2;exact e2
end
end
end Go.Proofs.YtldmcdeibiclkaaGreat.U
namespace Go.Proofs.YtldmcdeibiclkaaGreat.U
variable {J:String->Value}{W:World}
open Go.RowKit
section
open Go.Conc
set_option maxRecDepth 100000
def aw(v:Value):Prop:=(∃k n,v=.int k n)\/∃s,v=.string s
theorem aw.fv{v:Value}(h:aw v):FV J v v:=by
 rcases h with⟨k,n,rfl⟩|⟨s,rfl⟩
 ·exact .int k n
 ·exact .string s
theorem A5(c:Array Value)(held:Nat->Prop)(k:Nat)(hh:∀i v,held i->c[i]?=some v->aw v):
  ∃(zs:Array (Value×Value)) (ls:List Value),zs.map (·.2)=c/\(∀J,Speaks J k ls->∀z∈zs,FV J z.1 z.2)/\∀i v,held i->c[i]?=some v->(zs.map (·.1))[i]?=some v:=by
 have key:∀(l:List Value) (i0 k:Nat),(∀i v,held (i0+i)->l[i]?=some v->aw v)->∃(zs:List (Value×Value)) (ls:List Value),zs.map (·.2)=l/\(∀J,Speaks J k ls->∀z∈zs,FV J z.1 z.2)/\∀i v,held (i0+i)->l[i]?=some v->(zs.map (·.1))[i]?=some v:=by
  intro l;induction l with
  |nil=>intro i0 k _;exact⟨[],[],rfl,λJ _ z hz=>by simp at hz,λi v _ h=>by simp at h⟩
  |cons u l ih=>
   intro i0 k hl;have hl':∀i v,held (i0+1+i)->l[i]?=some v->aw v:=λi v h1 h2=>hl (i+1) v (by rwa [show i0+(i+1)=i0+1+i by omega]) (by simpa using h2);by_cases h0:held i0
   ·have hu:=hl 0 u (by simpa using h0) (by simp);obtain⟨zs,ls,e,h1,h2⟩:=ih (i0+1) k hl';refine⟨(u,u)::zs,ls,by simp[e],λJ hJ z hz=>?_,λi v hi hv=>?_⟩
    ·rcases RP.1 hz with rfl|hz
     ·exact hu.fv
     ·exact h1 J hJ z hz
    ·cases i with
     |zero=>simpa using hv
     |succ i=>
      simp only[QU,List.getElem?_cons_succ]at hv ⊢;exact h2 i v (by rwa [show i0+1+i=i0+(i+1) by omega]) hv
   ·obtain⟨x,l1,hx⟩:=Dt _ u (Nat.lt_succ_self _) k;obtain⟨zs,ls,e,h1,h2⟩:=ih (i0+1) (k+l1.length) hl';refine⟨(x,u)::zs,l1++ls,by simp[e],λJ hJ z hz=>?_,λi v hi hv=>?_⟩
    ·rcases RP.1 hz with rfl|hz
     ·exact hx J hJ.left
     ·exact h1 J hJ.right z hz
    ·cases i with
     |zero=>exact absurd hi (by simpa using h0)
     |succ i=>
      simp only[QU,List.getElem?_cons_succ]at hv ⊢;exact h2 i v (by rwa [show i0+1+i=i0+(i+1) by omega]) hv
 obtain⟨zs,ls,e,h1,h2⟩:=key c.toList 0 k (λi v h1 h2=>hh i v (by simpa using h1) (by simpa using h2));refine⟨zs.toArray,ls,by apply Array.ext';simpa using e,λJ hJ z hz=>h1 J hJ z (by simpa using hz),λi v hi hv=>?_⟩
 have:=h2 i v (by simpa using hi) (by simpa using hv);simpa using this
theorem CA{b0 bs:Nat}(held:Nat->Nat->Prop){c0 cb:Array Value}{e0 eb:TypeId}{f0 fb:Nat×Nat}(h0:W.heap[b0]?=some (.cells c0 e0 f0))(hb:W.heap[bs]?=some (.cells cb eb fb))(hh:∀r i v,held r i->W.cell? ⟨r,i,none⟩=some v->aw v):
  ∃J V,jW J [b0,bs] V W/\∀r,r∈[b0,bs]->∀i v,held r i->W.cell? ⟨r,i,none⟩=some v->V.cell? ⟨r,i,none⟩=some v:=by
 obtain⟨z0,l0,e0',q0,p0⟩:=A5 c0 (held b0) 0 (λi v hi hv=>hh b0 i v hi (by simp[World.cell?,h0,hv]));obtain⟨zb,lb,eb',qb,pb⟩:=A5 cb (held bs) l0.length (λi v hi hv=>hh bs i v hi (by simp[World.cell?,hb,hv]));have hl0:=(Array.getElem?_eq_some_iff.1 h0).1;have hlb:=(Array.getElem?_eq_some_iff.1 hb).1;have hJ:Speaks (λs=>(l0++lb).getD s.length (.int .i64 0)) 0 (l0++lb):=λi hi=>by simp[Kp]
 refine⟨λs=>(l0++lb).getD s.length (.int .i64 0),{W with heap:=(W.heap.setIfInBounds b0 (.cells (z0.map (·.1)) e0 f0)).setIfInBounds bs (.cells (zb.map (·.1)) eb fb)},⟨by simp,λb hbm=>?_⟩,λr hr i v hi hv=>?_⟩
 ·by_cases e:b=bs
  ·subst e;refine⟨zb,eb,fb,by simp[hlb],by rw[hb,eb'],λz hz=>qb _ (by simpa using hJ.right) z hz⟩
  ·have e2:b=b0:=by simpa[e] using hbm
   subst e2;refine⟨z0,e0,f0,?_,by rw[h0,e0'],λz hz=>q0 _ hJ.left z hz⟩;show ((W.heap.setIfInBounds _ _).setIfInBounds bs _)[_]?=_;rw[Array.getElem?_setIfInBounds_ne (QK e)];simp[hl0]
 ·by_cases e:r=bs
  ·subst e;simp only[World.cell?,hb]at hv
   have:=pb i v hi (by simpa using hv);simp only[World.cell?];rw[Array.getElem?_setIfInBounds_self_of_lt (by simpa using hlb)];simpa using this
  ·have e2:r=b0:=by simpa[e] using hr
   subst e2;simp only[World.cell?,h0]at hv
   have:=p0 i v hi (by simpa using hv);simp only[World.cell?];rw[Array.getElem?_setIfInBounds_ne (QK e),Array.getElem?_setIfInBounds_self_of_lt hl0];simpa using this
theorem DR{K:List Nat}{V W':World}{f:FuncId}{x0 y:Value}(hbl:jW J K V W)(hres:(bG J).res f=.any)(hx:∀π y,VR (bG J) π x0 y->y=x0)(h:pj J K W f (λx w1=>x=x0/\∀k,k<V.heap.size->w1.heap[k]?=(bare K V).heap[k]?) y W'):y=x0/\Go.RowKit.Below W.heap.size W W':=by
 obtain⟨x,w1,τ',⟨rfl,hw1⟩,hcr,hwent,hobj⟩:=h;rw[hres]at hcr;refine⟨hx _ _ hcr,hwent.os,hwent.tape,hwent.output,hwent.grow,λk hk=>?_⟩;by_cases hkK:k∈K
 ·have ht:(iw K W).all k k:=⟨rfl,hkK,hk⟩
  have ht':=hwent.more.all _ _ ht;obtain⟨o,q,ho,hq,hkr⟩:=hobj k k (.inl ht');rw[hw1 k (by rw[hbl.1];exact hk),lI hkK]at ho;obtain⟨zs,e,g,h1,h2,h3⟩:=hbl.2 k hkK;rw[h1]at ho;cases ho
  have:=hkr.all ht';generalize ho:Obj.cells (zs.map (·.1)) e g=o at this;cases this with
  |cells e' f' hxr=>
   cases ho;obtain⟨ys,ex,ey,hy⟩:=hxr;rw[hq,h2,ey];congr 2;exact tw (R:=VR (bG J) τ'.all) ex.symm (λz hz y hzy=>(h3 z hz).one rfl y hzy) hy
  |_=>cases ho
 ·exact hwent.eX k hk λr hr=>hkK (by
   obtain⟨e,h1,_⟩:=iF.1 hr;exact e▸h1)
end
end Go.Proofs.YtldmcdeibiclkaaGreat.U
namespace Go.Proofs
variable {f:Nat}{fn:Func}
section
noncomputable def aa.prog:Program:=Go.Proofs.YtldmcdeibiclkaaGreat.U.Qg
theorem aa.is:aa.prog=Go.Proofs.YtldmcdeibiclkaaGreat.U.gp Tryz.prog Go.Proofs.YtldmcdeibiclkaaGreat.U.Gg:=rfl
section
variable (P:Program) (G:Array Func) (t:TypeId) (w:World)
theorem aa.Ng:(Go.Proofs.YtldmcdeibiclkaaGreat.U.gp P G).depth=P.depth:=rfl
theorem aa.Qb:(Go.Proofs.YtldmcdeibiclkaaGreat.U.gp P G).underlying t=P.underlying t:=rfl
theorem aa.xg:(Go.Proofs.YtldmcdeibiclkaaGreat.U.gp P G).funcs=G:=rfl
theorem aa.zh:Sem.run P Go.program w=.ok P w:=rfl
theorem aa.xb:Sem.run (Go.Proofs.YtldmcdeibiclkaaGreat.U.gp P G) (typeInfo t) w=Sem.run P (typeInfo t) w:=by
 simp only[typeInfo,Sem.run_bind,aa.zh,Result.andThen_ok,Go.Proofs.YtldmcdeibiclkaaGreat.U.wN];cases P.info? t<;>rfl
theorem aa.yp:Sem.run (Go.Proofs.YtldmcdeibiclkaaGreat.U.gp P G) (underlying t) w=Sem.run P (underlying t) w:=by
 simp only[underlying,Sem.run_bind,aa.zh,Result.andThen_ok,Go.Proofs.YtldmcdeibiclkaaGreat.U.A9];cases P.underlying t<;>rfl
theorem aa.KU:Sem.run (Go.Proofs.YtldmcdeibiclkaaGreat.U.gp P G) (sizeOf t) w=Sem.run P (sizeOf t) w:=by
 simp only[sizeOf,Sem.run_bind,aa.xb];cases Sem.run P (typeInfo t) w<;>rfl
theorem aa.Cp(P Q:Program)(w:World)(x:Unsupported):Sem.run P (unsupported x:Sem Value) w=Sem.run Q (unsupported x:Sem Value) w:=by unfold unsupported;rfl
theorem aa.Oi:Sem.run (Go.Proofs.YtldmcdeibiclkaaGreat.U.gp P G) (zeroValue t) w=Sem.run P (zeroValue t) w:=by
 unfold zeroValue;rw[Sem.run_bind,Sem.run_bind,aa.xb];congr 1;funext i w;cases i.zero with
 |some v=>simp only[Sem.run_pure]
 |none=>exact aa.Cp _ _ _ _
theorem aa.Fq:Sem.run (Go.Proofs.YtldmcdeibiclkaaGreat.U.gp P G) (isAgg t) w=Sem.run P (isAgg t) w:=by
 unfold isAgg;rw[Sem.run_bind,Sem.run_bind,aa.yp];congr 1;funext i w;cases i<;>simp only[Sem.run_pure]
end
section
variable (t:TypeId) (w:World)
@[simp] theorem aa.de:Sem.run aa.prog (sizeOf t) w=Sem.run Tryz.prog (sizeOf t) w:=by rw[aa.is];exact aa.KU _ _ t w
@[simp] theorem aa.Qu:Sem.run aa.prog (underlying t) w=Sem.run Tryz.prog (underlying t) w:=by rw[aa.is];exact aa.yp _ _ t w
@[simp] theorem aa.cX:Sem.run aa.prog (isAgg t) w=Sem.run Tryz.prog (isAgg t) w:=by rw[aa.is];exact aa.Fq _ _ t w
theorem aa.bE:Sem.run aa.prog (zeroValue t) w=Sem.run Tryz.prog (zeroValue t) w:=by rw[aa.is];exact aa.Oi _ _ t w
@[simp] theorem aa.bQ:aa.prog.underlying t=Tryz.prog.underlying t:=by rw[aa.is];exact aa.Qb _ _ t
@[simp] theorem aa.Qt(d:Nat):aa.prog.eqGuardType d t=Tryz.prog.eqGuardType d t:=by rw[aa.is];exact Go.Proofs.YtldmcdeibiclkaaGreat.U.pE _ _ d t
@[simp] theorem aa.Qv:aa.prog.depth=Tryz.prog.depth:=by rw[aa.is];exact aa.Ng _ _
end
theorem aa.MG(h:f≠95):aa.prog.funcs[f]?=Tryz.prog.funcs[f]? :=by
 rw[aa.is,aa.xg,Go.Proofs.YtldmcdeibiclkaaGreat.U.Gg];rw[Array.getElem?_setIfInBounds_ne (QK h)]
theorem aa.MO{P:Program}{f:FuncId}(h1:P.funcs[f]?=some fn)(h2:(fn.name== "runtime.NumGoroutine")=false)(h3:fn.body.isNone=false)(args:Array Value)(w:World):Sem.run P (callFunc f args) w=.ok (.enter f args) w:=by
 rw[<-Sem.runT_fst _ _ _ #[]];unfold callFunc;show (((Go.program).bind _).runT P w #[]).1=_;rw[Sem.runT_bind'];simp only[Go.program,Sem.runT,h1,h2,h3,QF,QC];rfl
theorem aa.aJ(h:aa.prog.funcs[f]?=some fn)(h1:(fn.name== "runtime.NumGoroutine")=false)(h2:fn.body.isNone=false)(args:Array Value)(w:World):Sem.run aa.prog (callFunc f args) w=.ok (.enter f args) w:=
 aa.MO h h1 h2 args w
theorem aa.ay{n:Nat}{x:Func}(h:Tryz.prog.funcs[n]?=some x)(hn:n≠95):aa.prog.funcs[n]?=some x:=(aa.MG hn).trans h
abbrev aa.underlying0:=(aa.bQ 0).trans Tryz.underlying0
abbrev aa.sizeOf0(w:World):=(aa.de 0 w).trans (Tryz.sizeOf0 w)
abbrev aa.isAgg0(w:World):=(aa.cX 0 w).trans (Tryz.isAgg0 w)
abbrev aa.underlying3:=(aa.bQ 3).trans Tryz.underlying3
abbrev aa.sizeOf3(w:World):=(aa.de 3 w).trans (Tryz.sizeOf3 w)
abbrev aa.isAgg3(w:World):=(aa.cX 3 w).trans (Tryz.isAgg3 w)
abbrev aa.underlying4:=(aa.bQ 4).trans Tryz.underlying4
abbrev aa.sizeOf4(w:World):=(aa.de 4 w).trans (Tryz.sizeOf4 w)
abbrev aa.isAgg4(w:World):=(aa.cX 4 w).trans (Tryz.isAgg4 w)
abbrev aa.underlying5:=(aa.bQ 5).trans Tryz.underlying5
abbrev aa.sizeOf5(w:World):=(aa.de 5 w).trans (Tryz.sizeOf5 w)
abbrev aa.isAgg5(w:World):=(aa.cX 5 w).trans (Tryz.isAgg5 w)
abbrev aa.underlying9:=(aa.bQ 9).trans Tryz.underlying9
abbrev aa.sizeOf9(w:World):=(aa.de 9 w).trans (Tryz.sizeOf9 w)
abbrev aa.isAgg9(w:World):=(aa.cX 9 w).trans (Tryz.isAgg9 w)
abbrev aa.underlying26:=(aa.bQ 26).trans Tryz.underlying26
abbrev aa.underlying27:=(aa.bQ 27).trans Tryz.underlying27
abbrev aa.sizeOf27(w:World):=(aa.de 27 w).trans (Tryz.sizeOf27 w)
abbrev aa.isAgg27(w:World):=(aa.cX 27 w).trans (Tryz.isAgg27 w)
abbrev aa.underlying28:=(aa.bQ 28).trans Tryz.underlying28
abbrev aa.underlying34:=(aa.bQ 34).trans Tryz.underlying34
abbrev aa.underlying43:=(aa.bQ 43).trans Tryz.underlying43
abbrev aa.underlying55:=(aa.bQ 55).trans Tryz.underlying55
abbrev aa.sizeOf55(w:World):=(aa.de 55 w).trans (Tryz.sizeOf55 w)
abbrev aa.isAgg55(w:World):=(aa.cX 55 w).trans (Tryz.isAgg55 w)
abbrev aa.underlying63:=(aa.bQ 63).trans Tryz.underlying63
abbrev aa.sizeOf63(w:World):=(aa.de 63 w).trans (Tryz.sizeOf63 w)
abbrev aa.isAgg63(w:World):=(aa.cX 63 w).trans (Tryz.isAgg63 w)
abbrev aa.underlying64:=(aa.bQ 64).trans Tryz.underlying64
abbrev aa.underlying67:=(aa.bQ 67).trans Tryz.underlying67
abbrev aa.underlying71:=(aa.bQ 71).trans Tryz.underlying71
abbrev aa.sizeOf71(w:World):=(aa.de 71 w).trans (Tryz.sizeOf71 w)
abbrev aa.isAgg71(w:World):=(aa.cX 71 w).trans (Tryz.isAgg71 w)
abbrev aa.underlying72:=(aa.bQ 72).trans Tryz.underlying72
abbrev aa.sizeOf72(w:World):=(aa.de 72 w).trans (Tryz.sizeOf72 w)
abbrev aa.isAgg72(w:World):=(aa.cX 72 w).trans (Tryz.isAgg72 w)
abbrev aa.underlying88:=(aa.bQ 88).trans Tryz.underlying88
abbrev aa.underlying107:=(aa.bQ 107).trans Tryz.underlying107
abbrev aa.underlying108:=(aa.bQ 108).trans Tryz.underlying108
abbrev aa.sizeOf117(w:World):=(aa.de 117 w).trans (Tryz.sizeOf117 w)
abbrev aa.isAgg117(w:World):=(aa.cX 117 w).trans (Tryz.isAgg117 w)
abbrev aa.underlying119:=(aa.bQ 119).trans Tryz.underlying119
abbrev aa.sizeOf119(w:World):=(aa.de 119 w).trans (Tryz.sizeOf119 w)
abbrev aa.isAgg119(w:World):=(aa.cX 119 w).trans (Tryz.isAgg119 w)
abbrev aa.underlying124:=(aa.bQ 124).trans Tryz.underlying124
abbrev aa.sizeOf124(w:World):=(aa.de 124 w).trans (Tryz.sizeOf124 w)
abbrev aa.isAgg124(w:World):=(aa.cX 124 w).trans (Tryz.isAgg124 w)
abbrev aa.underlying126:=(aa.bQ 126).trans Tryz.underlying126
abbrev aa.underlying147:=(aa.bQ 147).trans Tryz.underlying147
abbrev aa.sizeOf147(w:World):=(aa.de 147 w).trans (Tryz.sizeOf147 w)
abbrev aa.isAgg147(w:World):=(aa.cX 147 w).trans (Tryz.isAgg147 w)
abbrev aa.underlying149:=(aa.bQ 149).trans Tryz.underlying149
abbrev aa.sizeOf149(w:World):=(aa.de 149 w).trans (Tryz.sizeOf149 w)
abbrev aa.isAgg149(w:World):=(aa.cX 149 w).trans (Tryz.isAgg149 w)
abbrev aa.underlying155:=(aa.bQ 155).trans Tryz.underlying155
abbrev aa.sizeOf155(w:World):=(aa.de 155 w).trans (Tryz.sizeOf155 w)
abbrev aa.isAgg155(w:World):=(aa.cX 155 w).trans (Tryz.isAgg155 w)
abbrev aa.underlying156:=(aa.bQ 156).trans Tryz.underlying156
abbrev aa.sizeOf156(w:World):=(aa.de 156 w).trans (Tryz.sizeOf156 w)
abbrev aa.isAgg156(w:World):=(aa.cX 156 w).trans (Tryz.isAgg156 w)
abbrev aa.underlying158:=(aa.bQ 158).trans Tryz.underlying158
abbrev aa.underlying184:=(aa.bQ 184).trans Tryz.underlying184
abbrev aa.sizeOf184(w:World):=(aa.de 184 w).trans (Tryz.sizeOf184 w)
abbrev aa.isAgg184(w:World):=(aa.cX 184 w).trans (Tryz.isAgg184 w)
abbrev aa.underlying185:=(aa.bQ 185).trans Tryz.underlying185
abbrev aa.sizeOf185(w:World):=(aa.de 185 w).trans (Tryz.sizeOf185 w)
abbrev aa.isAgg185(w:World):=(aa.cX 185 w).trans (Tryz.isAgg185 w)
abbrev aa.underlying189:=(aa.bQ 189).trans Tryz.underlying189
abbrev aa.sizeOf189(w:World):=(aa.de 189 w).trans (Tryz.sizeOf189 w)
abbrev aa.isAgg189(w:World):=(aa.cX 189 w).trans (Tryz.isAgg189 w)
abbrev aa.underlying192:=(aa.bQ 192).trans Tryz.underlying192
abbrev aa.sizeOf192(w:World):=(aa.de 192 w).trans (Tryz.sizeOf192 w)
abbrev aa.isAgg192(w:World):=(aa.cX 192 w).trans (Tryz.isAgg192 w)
abbrev aa.underlying225:=(aa.bQ 225).trans Tryz.underlying225
abbrev aa.sizeOf225(w:World):=(aa.de 225 w).trans (Tryz.sizeOf225 w)
abbrev aa.isAgg225(w:World):=(aa.cX 225 w).trans (Tryz.isAgg225 w)
abbrev aa.underlying228:=(aa.bQ 228).trans Tryz.underlying228
abbrev aa.sizeOf228(w:World):=(aa.de 228 w).trans (Tryz.sizeOf228 w)
abbrev aa.isAgg228(w:World):=(aa.cX 228 w).trans (Tryz.isAgg228 w)
abbrev aa.underlying254:=(aa.bQ 254).trans Tryz.underlying254
abbrev aa.sizeOf254(w:World):=(aa.de 254 w).trans (Tryz.sizeOf254 w)
abbrev aa.isAgg254(w:World):=(aa.cX 254 w).trans (Tryz.isAgg254 w)
abbrev aa.underlying255:=(aa.bQ 255).trans Tryz.underlying255
abbrev aa.sizeOf255(w:World):=(aa.de 255 w).trans (Tryz.sizeOf255 w)
abbrev aa.isAgg255(w:World):=(aa.cX 255 w).trans (Tryz.isAgg255 w)
@[simp] abbrev aa.zeroValue0(w:World):=(aa.bE 0 w).trans (Tryz.zeroValue0 w)
@[simp] abbrev aa.zeroValue3(w:World):=(aa.bE 3 w).trans (Tryz.zeroValue3 w)
@[simp] abbrev aa.zeroValue4(w:World):=(aa.bE 4 w).trans (Tryz.zeroValue4 w)
@[simp] abbrev aa.zeroValue5(w:World):=(aa.bE 5 w).trans (Tryz.zeroValue5 w)
@[simp] abbrev aa.zeroValue9(w:World):=(aa.bE 9 w).trans (Tryz.zeroValue9 w)
@[simp] abbrev aa.zeroValue27(w:World):=(aa.bE 27 w).trans (Tryz.zeroValue27 w)
@[simp] abbrev aa.zeroValue30(w:World):=(aa.bE 30 w).trans (Tryz.zeroValue30 w)
@[simp] abbrev aa.zeroValue34(w:World):=(aa.bE 34 w).trans (Tryz.zeroValue34 w)
@[simp] abbrev aa.zeroValue36(w:World):=(aa.bE 36 w).trans (Tryz.zeroValue36 w)
@[simp] abbrev aa.zeroValue45(w:World):=(aa.bE 45 w).trans (Tryz.zeroValue45 w)
@[simp] abbrev aa.zeroValue47(w:World):=(aa.bE 47 w).trans (Tryz.zeroValue47 w)
@[simp] abbrev aa.zeroValue55(w:World):=(aa.bE 55 w).trans (Tryz.zeroValue55 w)
@[simp] abbrev aa.zeroValue61(w:World):=(aa.bE 61 w).trans (Tryz.zeroValue61 w)
@[simp] abbrev aa.zeroValue63(w:World):=(aa.bE 63 w).trans (Tryz.zeroValue63 w)
@[simp] abbrev aa.zeroValue67(w:World):=(aa.bE 67 w).trans (Tryz.zeroValue67 w)
@[simp] abbrev aa.zeroValue70(w:World):=(aa.bE 70 w).trans (Tryz.zeroValue70 w)
@[simp] abbrev aa.zeroValue71(w:World):=(aa.bE 71 w).trans (Tryz.zeroValue71 w)
@[simp] abbrev aa.zeroValue72(w:World):=(aa.bE 72 w).trans (Tryz.zeroValue72 w)
@[simp] abbrev aa.zeroValue74(w:World):=(aa.bE 74 w).trans (Tryz.zeroValue74 w)
@[simp] abbrev aa.zeroValue82(w:World):=(aa.bE 82 w).trans (Tryz.zeroValue82 w)
@[simp] abbrev aa.zeroValue88(w:World):=(aa.bE 88 w).trans (Tryz.zeroValue88 w)
@[simp] abbrev aa.zeroValue104(w:World):=(aa.bE 104 w).trans (Tryz.zeroValue104 w)
@[simp] abbrev aa.zeroValue110(w:World):=(aa.bE 110 w).trans (Tryz.zeroValue110 w)
@[simp] abbrev aa.zeroValue115(w:World):=(aa.bE 115 w).trans (Tryz.zeroValue115 w)
@[simp] abbrev aa.zeroValue117(w:World):=(aa.bE 117 w).trans (Tryz.zeroValue117 w)
@[simp] abbrev aa.zeroValue119(w:World):=(aa.bE 119 w).trans (Tryz.zeroValue119 w)
@[simp] abbrev aa.zeroValue124(w:World):=(aa.bE 124 w).trans (Tryz.zeroValue124 w)
@[simp] abbrev aa.zeroValue147(w:World):=(aa.bE 147 w).trans (Tryz.zeroValue147 w)
@[simp] abbrev aa.zeroValue149(w:World):=(aa.bE 149 w).trans (Tryz.zeroValue149 w)
@[simp] abbrev aa.zeroValue152(w:World):=(aa.bE 152 w).trans (Tryz.zeroValue152 w)
@[simp] abbrev aa.zeroValue155(w:World):=(aa.bE 155 w).trans (Tryz.zeroValue155 w)
@[simp] abbrev aa.zeroValue156(w:World):=(aa.bE 156 w).trans (Tryz.zeroValue156 w)
@[simp] abbrev aa.zeroValue184(w:World):=(aa.bE 184 w).trans (Tryz.zeroValue184 w)
@[simp] abbrev aa.zeroValue185(w:World):=(aa.bE 185 w).trans (Tryz.zeroValue185 w)
@[simp] abbrev aa.zeroValue189(w:World):=(aa.bE 189 w).trans (Tryz.zeroValue189 w)
@[simp] abbrev aa.zeroValue192(w:World):=(aa.bE 192 w).trans (Tryz.zeroValue192 w)
@[simp] abbrev aa.zeroValue225(w:World):=(aa.bE 225 w).trans (Tryz.zeroValue225 w)
@[simp] abbrev aa.zeroValue228(w:World):=(aa.bE 228 w).trans (Tryz.zeroValue228 w)
@[simp] abbrev aa.zeroValue254(w:World):=(aa.bE 254 w).trans (Tryz.zeroValue254 w)
@[simp] abbrev aa.zeroValue255(w:World):=(aa.bE 255 w).trans (Tryz.zeroValue255 w)
@[simp] abbrev aa.func4:=aa.ay Tryz.func4 (by decide)
abbrev aa.ntmps4:=Tryz.ntmps4
@[simp] abbrev aa.func7:=aa.ay Tryz.func7 (by decide)
abbrev aa.ntmps7:=Tryz.ntmps7
@[simp] abbrev aa.func8:=aa.ay Tryz.func8 (by decide)
abbrev aa.ntmps8:=Tryz.ntmps8
@[simp] abbrev aa.func9:=aa.ay Tryz.func9 (by decide)
abbrev aa.ntmps9:=Tryz.ntmps9
@[simp] abbrev aa.func10:=aa.ay Tryz.func10 (by decide)
abbrev aa.ntmps10:=Tryz.ntmps10
@[simp] abbrev aa.func11:=aa.ay Tryz.func11 (by decide)
abbrev aa.ntmps11:=Tryz.ntmps11
@[simp] abbrev aa.func12:=aa.ay Tryz.func12 (by decide)
abbrev aa.ntmps12:=Tryz.ntmps12
abbrev aa.results12:=Tryz.results12
@[simp] abbrev aa.func13:=aa.ay Tryz.func13 (by decide)
abbrev aa.ntmps13:=Tryz.ntmps13
@[simp] abbrev aa.func14:=aa.ay Tryz.func14 (by decide)
abbrev aa.ntmps14:=Tryz.ntmps14
@[simp] abbrev aa.func15:=aa.ay Tryz.func15 (by decide)
abbrev aa.ntmps15:=Tryz.ntmps15
@[simp] abbrev aa.func16:=aa.ay Tryz.func16 (by decide)
abbrev aa.ntmps16:=Tryz.ntmps16
@[simp] abbrev aa.func17:=aa.ay Tryz.func17 (by decide)
abbrev aa.ntmps17:=Tryz.ntmps17
@[simp] abbrev aa.func18:=aa.ay Tryz.func18 (by decide)
abbrev aa.ntmps18:=Tryz.ntmps18
@[simp] abbrev aa.func19:=aa.ay Tryz.func19 (by decide)
abbrev aa.ntmps19:=Tryz.ntmps19
@[simp] abbrev aa.func20:=aa.ay Tryz.func20 (by decide)
abbrev aa.ntmps20:=Tryz.ntmps20
@[simp] abbrev aa.func21:=aa.ay Tryz.func21 (by decide)
abbrev aa.ntmps21:=Tryz.ntmps21
@[simp] abbrev aa.func22:=aa.ay Tryz.func22 (by decide)
abbrev aa.ntmps22:=Tryz.ntmps22
@[simp] abbrev aa.func23:=aa.ay Tryz.func23 (by decide)
abbrev aa.ntmps23:=Tryz.ntmps23
@[simp] abbrev aa.func24:=aa.ay Tryz.func24 (by decide)
abbrev aa.ntmps24:=Tryz.ntmps24
@[simp] abbrev aa.func25:=aa.ay Tryz.func25 (by decide)
abbrev aa.ntmps25:=Tryz.ntmps25
@[simp] abbrev aa.func27:=aa.ay Tryz.func27 (by decide)
abbrev aa.ntmps27:=Tryz.ntmps27
@[simp] abbrev aa.func28:=aa.ay Tryz.func28 (by decide)
abbrev aa.ntmps28:=Tryz.ntmps28
abbrev aa.results28:=Tryz.results28
@[simp] abbrev aa.func29:=aa.ay Tryz.func29 (by decide)
abbrev aa.ntmps29:=Tryz.ntmps29
@[simp] abbrev aa.func30:=aa.ay Tryz.func30 (by decide)
abbrev aa.ntmps30:=Tryz.ntmps30
@[simp] abbrev aa.func31:=aa.ay Tryz.func31 (by decide)
abbrev aa.ntmps31:=Tryz.ntmps31
@[simp] abbrev aa.func32:=aa.ay Tryz.func32 (by decide)
abbrev aa.ntmps32:=Tryz.ntmps32
@[simp] abbrev aa.func33:=aa.ay Tryz.func33 (by decide)
abbrev aa.ntmps33:=Tryz.ntmps33
abbrev aa.results33:=Tryz.results33
@[simp] abbrev aa.func34:=aa.ay Tryz.func34 (by decide)
abbrev aa.ntmps34:=Tryz.ntmps34
@[simp] abbrev aa.func35:=aa.ay Tryz.func35 (by decide)
abbrev aa.ntmps35:=Tryz.ntmps35
@[simp] abbrev aa.func36:=aa.ay Tryz.func36 (by decide)
abbrev aa.ntmps36:=Tryz.ntmps36
@[simp] abbrev aa.func37:=aa.ay Tryz.func37 (by decide)
abbrev aa.ntmps37:=Tryz.ntmps37
@[simp] abbrev aa.func38:=aa.ay Tryz.func38 (by decide)
abbrev aa.ntmps38:=Tryz.ntmps38
abbrev aa.results38:=Tryz.results38
@[simp] abbrev aa.func39:=aa.ay Tryz.func39 (by decide)
abbrev aa.ntmps39:=Tryz.ntmps39
@[simp] abbrev aa.func40:=aa.ay Tryz.func40 (by decide)
abbrev aa.ntmps40:=Tryz.ntmps40
abbrev aa.results40:=Tryz.results40
@[simp] abbrev aa.func41:=aa.ay Tryz.func41 (by decide)
abbrev aa.ntmps41:=Tryz.ntmps41
@[simp] abbrev aa.func42:=aa.ay Tryz.func42 (by decide)
abbrev aa.ntmps42:=Tryz.ntmps42
@[simp] abbrev aa.func43:=aa.ay Tryz.func43 (by decide)
abbrev aa.ntmps43:=Tryz.ntmps43
abbrev aa.results43:=Tryz.results43
@[simp] abbrev aa.func44:=aa.ay Tryz.func44 (by decide)
abbrev aa.ntmps44:=Tryz.ntmps44
@[simp] abbrev aa.func45:=aa.ay Tryz.func45 (by decide)
abbrev aa.ntmps45:=Tryz.ntmps45
@[simp] abbrev aa.func46:=aa.ay Tryz.func46 (by decide)
abbrev aa.ntmps46:=Tryz.ntmps46
@[simp] abbrev aa.func47:=aa.ay Tryz.func47 (by decide)
abbrev aa.ntmps47:=Tryz.ntmps47
@[simp] abbrev aa.func48:=aa.ay Tryz.func48 (by decide)
abbrev aa.ntmps48:=Tryz.ntmps48
@[simp] abbrev aa.func49:=aa.ay Tryz.func49 (by decide)
abbrev aa.ntmps49:=Tryz.ntmps49
@[simp] abbrev aa.func50:=aa.ay Tryz.func50 (by decide)
abbrev aa.ntmps50:=Tryz.ntmps50
@[simp] abbrev aa.func51:=aa.ay Tryz.func51 (by decide)
abbrev aa.ntmps51:=Tryz.ntmps51
@[simp] abbrev aa.func52:=aa.ay Tryz.func52 (by decide)
abbrev aa.ntmps52:=Tryz.ntmps52
@[simp] abbrev aa.func53:=aa.ay Tryz.func53 (by decide)
abbrev aa.ntmps53:=Tryz.ntmps53
@[simp] abbrev aa.func54:=aa.ay Tryz.func54 (by decide)
abbrev aa.ntmps54:=Tryz.ntmps54
@[simp] abbrev aa.func55:=aa.ay Tryz.func55 (by decide)
abbrev aa.ntmps55:=Tryz.ntmps55
@[simp] abbrev aa.func58:=aa.ay Tryz.func58 (by decide)
abbrev aa.ntmps58:=Tryz.ntmps58
@[simp] abbrev aa.func59:=aa.ay Tryz.func59 (by decide)
abbrev aa.ntmps59:=Tryz.ntmps59
@[simp] abbrev aa.func60:=aa.ay Tryz.func60 (by decide)
abbrev aa.ntmps60:=Tryz.ntmps60
abbrev aa.results60:=Tryz.results60
noncomputable abbrev aa.f61:=Tryz.f61
@[simp] abbrev aa.func61:=aa.ay Tryz.func61 (by decide)
@[simp] abbrev aa.func62:=aa.ay Tryz.func62 (by decide)
abbrev aa.ntmps62:=Tryz.ntmps62
@[simp] abbrev aa.func63:=aa.ay Tryz.func63 (by decide)
@[simp] abbrev aa.func64:=aa.ay Tryz.func64 (by decide)
abbrev aa.ntmps64:=Tryz.ntmps64
@[simp] abbrev aa.func65:=aa.ay Tryz.func65 (by decide)
abbrev aa.ntmps65:=Tryz.ntmps65
@[simp] abbrev aa.func66:=aa.ay Tryz.func66 (by decide)
abbrev aa.ntmps66:=Tryz.ntmps66
abbrev aa.results66:=Tryz.results66
@[simp] abbrev aa.func67:=aa.ay Tryz.func67 (by decide)
abbrev aa.ntmps67:=Tryz.ntmps67
@[simp] abbrev aa.func68:=aa.ay Tryz.func68 (by decide)
abbrev aa.ntmps68:=Tryz.ntmps68
@[simp] abbrev aa.func69:=aa.ay Tryz.func69 (by decide)
abbrev aa.ntmps69:=Tryz.ntmps69
@[simp] abbrev aa.func70:=aa.ay Tryz.func70 (by decide)
abbrev aa.ntmps70:=Tryz.ntmps70
@[simp] abbrev aa.func71:=aa.ay Tryz.func71 (by decide)
abbrev aa.ntmps71:=Tryz.ntmps71
@[simp] abbrev aa.func72:=aa.ay Tryz.func72 (by decide)
abbrev aa.ntmps72:=Tryz.ntmps72
@[simp] abbrev aa.func73:=aa.ay Tryz.func73 (by decide)
abbrev aa.ntmps73:=Tryz.ntmps73
@[simp] abbrev aa.func74:=aa.ay Tryz.func74 (by decide)
abbrev aa.ntmps74:=Tryz.ntmps74
@[simp] abbrev aa.func75:=aa.ay Tryz.func75 (by decide)
abbrev aa.ntmps75:=Tryz.ntmps75
@[simp] abbrev aa.func76:=aa.ay Tryz.func76 (by decide)
abbrev aa.ntmps76:=Tryz.ntmps76
@[simp] abbrev aa.func77:=aa.ay Tryz.func77 (by decide)
abbrev aa.ntmps77:=Tryz.ntmps77
@[simp] abbrev aa.func84:=aa.ay Tryz.func84 (by decide)
abbrev aa.ntmps84:=Tryz.ntmps84
@[simp] abbrev aa.func85:=aa.ay Tryz.func85 (by decide)
abbrev aa.ntmps85:=Tryz.ntmps85
noncomputable abbrev aa.f86:=Tryz.f86
@[simp] abbrev aa.func86:=aa.ay Tryz.func86 (by decide)
@[simp] abbrev aa.func87:=aa.ay Tryz.func87 (by decide)
@[simp] abbrev aa.func88:=aa.ay Tryz.func88 (by decide)
abbrev aa.ntmps88:=Tryz.ntmps88
@[simp] abbrev aa.func89:=aa.ay Tryz.func89 (by decide)
abbrev aa.ntmps89:=Tryz.ntmps89
@[simp] abbrev aa.func90:=aa.ay Tryz.func90 (by decide)
abbrev aa.ntmps90:=Tryz.ntmps90
noncomputable abbrev aa.f91:=Tryz.f91
@[simp] abbrev aa.func91:=aa.ay Tryz.func91 (by decide)
@[simp] abbrev aa.func92:=aa.ay Tryz.func92 (by decide)
abbrev aa.ntmps92:=Tryz.ntmps92
noncomputable abbrev aa.f93:=Tryz.f93
@[simp] abbrev aa.func93:=aa.ay Tryz.func93 (by decide)
noncomputable abbrev aa.f94:=Tryz.f94
@[simp] abbrev aa.func94:=aa.ay Tryz.func94 (by decide)
@[simp] abbrev aa.func96:=aa.ay Tryz.func96 (by decide)
abbrev aa.ntmps96:=Tryz.ntmps96
noncomputable abbrev aa.f111:=Tryz.f111
@[simp] abbrev aa.func111:=aa.ay Tryz.func111 (by decide)
noncomputable abbrev aa.f112:=Tryz.f112
@[simp] abbrev aa.func112:=aa.ay Tryz.func112 (by decide)
noncomputable abbrev aa.f113:=Tryz.f113
@[simp] abbrev aa.func113:=aa.ay Tryz.func113 (by decide)
noncomputable abbrev aa.f114:=Tryz.f114
@[simp] abbrev aa.func114:=aa.ay Tryz.func114 (by decide)
noncomputable abbrev aa.f115:=Tryz.f115
@[simp] abbrev aa.func115:=aa.ay Tryz.func115 (by decide)
noncomputable abbrev aa.f116:=Tryz.f116
@[simp] abbrev aa.func116:=aa.ay Tryz.func116 (by decide)
noncomputable abbrev aa.f117:=Tryz.f117
@[simp] abbrev aa.func117:=aa.ay Tryz.func117 (by decide)
noncomputable abbrev aa.f118:=Tryz.f118
@[simp] abbrev aa.func118:=aa.ay Tryz.func118 (by decide)
@[simp] abbrev aa.func119:=aa.ay Tryz.func119 (by decide)
@[simp] abbrev aa.func120:=aa.ay Tryz.func120 (by decide)
@[simp] abbrev aa.func121:=aa.ay Tryz.func121 (by decide)
abbrev aa.ntmps121:=Tryz.ntmps121
noncomputable abbrev aa.f122:=Tryz.f122
@[simp] abbrev aa.func122:=aa.ay Tryz.func122 (by decide)
@[simp] abbrev aa.func123:=aa.ay Tryz.func123 (by decide)
abbrev aa.ntmps123:=Tryz.ntmps123
@[simp] abbrev aa.func124:=aa.ay Tryz.func124 (by decide)
abbrev aa.ntmps124:=Tryz.ntmps124
noncomputable abbrev aa.f125:=Tryz.f125
@[simp] abbrev aa.func125:=aa.ay Tryz.func125 (by decide)
noncomputable abbrev aa.f126:=Tryz.f126
@[simp] abbrev aa.func126:=aa.ay Tryz.func126 (by decide)
@[simp] abbrev aa.func131:=aa.ay Tryz.func131 (by decide)
abbrev aa.ntmps131:=Tryz.ntmps131
noncomputable abbrev aa.f141:=Tryz.f141
@[simp] abbrev aa.func141:=aa.ay Tryz.func141 (by decide)
@[simp] abbrev aa.func142:=aa.ay Tryz.func142 (by decide)
@[simp] abbrev aa.func143:=aa.ay Tryz.func143 (by decide)
noncomputable abbrev aa.f144:=Tryz.f144
@[simp] abbrev aa.func144:=aa.ay Tryz.func144 (by decide)
noncomputable abbrev aa.f145:=Tryz.f145
@[simp] abbrev aa.func145:=aa.ay Tryz.func145 (by decide)
noncomputable abbrev aa.f146:=Tryz.f146
@[simp] abbrev aa.func146:=aa.ay Tryz.func146 (by decide)
noncomputable abbrev aa.f147:=Tryz.f147
@[simp] abbrev aa.func147:=aa.ay Tryz.func147 (by decide)
noncomputable abbrev aa.f148:=Tryz.f148
@[simp] abbrev aa.func148:=aa.ay Tryz.func148 (by decide)
noncomputable abbrev aa.f149:=Tryz.f149
@[simp] abbrev aa.func149:=aa.ay Tryz.func149 (by decide)
noncomputable abbrev aa.f150:=Tryz.f150
@[simp] abbrev aa.func150:=aa.ay Tryz.func150 (by decide)
noncomputable abbrev aa.f151:=Tryz.f151
@[simp] abbrev aa.func151:=aa.ay Tryz.func151 (by decide)
noncomputable abbrev aa.f152:=Tryz.f152
@[simp] abbrev aa.func152:=aa.ay Tryz.func152 (by decide)
noncomputable abbrev aa.f153:=Tryz.f153
@[simp] abbrev aa.func153:=aa.ay Tryz.func153 (by decide)
noncomputable abbrev aa.f154:=Tryz.f154
@[simp] abbrev aa.func154:=aa.ay Tryz.func154 (by decide)
noncomputable abbrev aa.f155:=Tryz.f155
@[simp] abbrev aa.func155:=aa.ay Tryz.func155 (by decide)
noncomputable abbrev aa.f183:=Tryz.f183
@[simp] abbrev aa.func183:=aa.ay Tryz.func183 (by decide)
noncomputable abbrev aa.f184:=Tryz.f184
@[simp] abbrev aa.func184:=aa.ay Tryz.func184 (by decide)
noncomputable abbrev aa.f185:=Tryz.f185
@[simp] abbrev aa.func185:=aa.ay Tryz.func185 (by decide)
noncomputable abbrev aa.f186:=Tryz.f186
@[simp] abbrev aa.func186:=aa.ay Tryz.func186 (by decide)
noncomputable abbrev aa.f187:=Tryz.f187
@[simp] abbrev aa.func187:=aa.ay Tryz.func187 (by decide)
noncomputable abbrev aa.f197:=Tryz.f197
@[simp] abbrev aa.func197:=aa.ay Tryz.func197 (by decide)
@[simp] abbrev aa.call7:=aa.aJ aa.func7 rfl rfl
@[simp] abbrev aa.call8:=aa.aJ aa.func8 rfl rfl
@[simp] abbrev aa.call9:=aa.aJ aa.func9 rfl rfl
@[simp] abbrev aa.call10:=aa.aJ aa.func10 rfl rfl
@[simp] abbrev aa.call11:=aa.aJ aa.func11 rfl rfl
@[simp] abbrev aa.call12:=aa.aJ aa.func12 rfl rfl
@[simp] abbrev aa.call13:=aa.aJ aa.func13 rfl rfl
@[simp] abbrev aa.call14:=aa.aJ aa.func14 rfl rfl
@[simp] abbrev aa.call15:=aa.aJ aa.func15 rfl rfl
@[simp] abbrev aa.call16:=aa.aJ aa.func16 rfl rfl
@[simp] abbrev aa.call17:=aa.aJ aa.func17 rfl rfl
@[simp] abbrev aa.call18:=aa.aJ aa.func18 rfl rfl
@[simp] abbrev aa.call19:=aa.aJ aa.func19 rfl rfl
@[simp] abbrev aa.call20:=aa.aJ aa.func20 rfl rfl
@[simp] abbrev aa.call21:=aa.aJ aa.func21 rfl rfl
@[simp] abbrev aa.call22:=aa.aJ aa.func22 rfl rfl
@[simp] abbrev aa.call23:=aa.aJ aa.func23 rfl rfl
@[simp] abbrev aa.call24:=aa.aJ aa.func24 rfl rfl
@[simp] abbrev aa.call25:=aa.aJ aa.func25 rfl rfl
@[simp] abbrev aa.call27:=aa.aJ aa.func27 rfl rfl
@[simp] abbrev aa.call28:=aa.aJ aa.func28 rfl rfl
@[simp] abbrev aa.call29:=aa.aJ aa.func29 rfl rfl
@[simp] abbrev aa.call30:=aa.aJ aa.func30 rfl rfl
@[simp] abbrev aa.call31:=aa.aJ aa.func31 rfl rfl
@[simp] abbrev aa.call32:=aa.aJ aa.func32 rfl rfl
@[simp] abbrev aa.call33:=aa.aJ aa.func33 rfl rfl
@[simp] abbrev aa.call34:=aa.aJ aa.func34 rfl rfl
@[simp] abbrev aa.call35:=aa.aJ aa.func35 rfl rfl
@[simp] abbrev aa.call36:=aa.aJ aa.func36 rfl rfl
@[simp] abbrev aa.call37:=aa.aJ aa.func37 rfl rfl
@[simp] abbrev aa.call38:=aa.aJ aa.func38 rfl rfl
@[simp] abbrev aa.call39:=aa.aJ aa.func39 rfl rfl
@[simp] abbrev aa.call40:=aa.aJ aa.func40 rfl rfl
@[simp] abbrev aa.call41:=aa.aJ aa.func41 rfl rfl
@[simp] abbrev aa.call42:=aa.aJ aa.func42 rfl rfl
@[simp] abbrev aa.call43:=aa.aJ aa.func43 rfl rfl
@[simp] abbrev aa.call44:=aa.aJ aa.func44 rfl rfl
@[simp] abbrev aa.call45:=aa.aJ aa.func45 rfl rfl
@[simp] abbrev aa.call46:=aa.aJ aa.func46 rfl rfl
@[simp] abbrev aa.call47:=aa.aJ aa.func47 rfl rfl
@[simp] abbrev aa.call48:=aa.aJ aa.func48 rfl rfl
@[simp] abbrev aa.call49:=aa.aJ aa.func49 rfl rfl
@[simp] abbrev aa.call50:=aa.aJ aa.func50 rfl rfl
@[simp] abbrev aa.call51:=aa.aJ aa.func51 rfl rfl
@[simp] abbrev aa.call52:=aa.aJ aa.func52 rfl rfl
@[simp] abbrev aa.call53:=aa.aJ aa.func53 rfl rfl
@[simp] abbrev aa.call54:=aa.aJ aa.func54 rfl rfl
@[simp] abbrev aa.call55:=aa.aJ aa.func55 rfl rfl
@[simp] abbrev aa.call58:=aa.aJ aa.func58 rfl rfl
@[simp] abbrev aa.call59:=aa.aJ aa.func59 rfl rfl
@[simp] abbrev aa.call60:=aa.aJ aa.func60 rfl rfl
@[simp] abbrev aa.call61:=aa.aJ aa.func61 rfl rfl
@[simp] abbrev aa.call63:=aa.aJ aa.func63 rfl rfl
@[simp] abbrev aa.call64:=aa.aJ aa.func64 rfl rfl
@[simp] abbrev aa.call65:=aa.aJ aa.func65 rfl rfl
@[simp] abbrev aa.call66:=aa.aJ aa.func66 rfl rfl
@[simp] abbrev aa.call67:=aa.aJ aa.func67 rfl rfl
@[simp] abbrev aa.call68:=aa.aJ aa.func68 rfl rfl
@[simp] abbrev aa.call69:=aa.aJ aa.func69 rfl rfl
@[simp] abbrev aa.call70:=aa.aJ aa.func70 rfl rfl
@[simp] abbrev aa.call71:=aa.aJ aa.func71 rfl rfl
@[simp] abbrev aa.call72:=aa.aJ aa.func72 rfl rfl
@[simp] abbrev aa.call73:=aa.aJ aa.func73 rfl rfl
@[simp] abbrev aa.call74:=aa.aJ aa.func74 rfl rfl
@[simp] abbrev aa.call75:=aa.aJ aa.func75 rfl rfl
@[simp] abbrev aa.call76:=aa.aJ aa.func76 rfl rfl
@[simp] abbrev aa.call77:=aa.aJ aa.func77 rfl rfl
@[simp] abbrev aa.call84:=aa.aJ aa.func84 rfl rfl
@[simp] abbrev aa.call85:=aa.aJ aa.func85 rfl rfl
@[simp] abbrev aa.call88:=aa.aJ aa.func88 rfl rfl
@[simp] abbrev aa.call89:=aa.aJ aa.func89 rfl rfl
@[simp] abbrev aa.call90:=aa.aJ aa.func90 rfl rfl
@[simp] abbrev aa.call91:=aa.aJ aa.func91 rfl rfl
@[simp] abbrev aa.call92:=aa.aJ aa.func92 rfl rfl
@[simp] abbrev aa.call93:=aa.aJ aa.func93 rfl rfl
@[simp] abbrev aa.call94:=aa.aJ aa.func94 rfl rfl
@[simp] abbrev aa.call96:=aa.aJ aa.func96 rfl rfl
@[simp] abbrev aa.call121:=aa.aJ aa.func121 rfl rfl
@[simp] abbrev aa.call123:=aa.aJ aa.func123 rfl rfl
@[simp] abbrev aa.call124:=aa.aJ aa.func124 rfl rfl
@[simp] abbrev aa.call131:=aa.aJ aa.func131 rfl rfl
end
end Go.Proofs
