/-
  Toward: treed_holds, each node's digest is that of its children's, for every argument of Treed. WHAT COMES TO ITS END ON EVERY TAPE COMES TO IT WHOEVER ANSWERS: by a tree, not by a count of steps; out of the kit's contract of a call.
  THE LONE ONE BESIDE ITSELF, in this seat: its tables; the tree out of its contract.
  VALUES THAT HOLD NO PLACE OF THE LONE ONE's: what foreign cells of an argument's block become beside it.
-/
import Derived.Test.YtldmcdeibiclkaaGreatDoorC31
import Derived.Test.YtldmcdeibiclkaaGreatDoorC29
set_option linter.unusedVariables false
set_option linter.unusedSimpArgs false
set_option maxRecDepth 4000
section
namespace Go.Proofs.YtldmcdeibiclkaaGreatDoor.U
open Go.Conc
section
variable {P:Program} {L:Lim} {T:Tab}
theorem OkS.tape {fr:Frame} {cs:List Frame} {w:World} (h:OkS P L T fr cs w) (t:Nat→Question→Nat):OkS P L T fr cs {w with tape:=t}:=by
 obtain ⟨τ,h⟩:=h
 exact ⟨τ,h.dg,h.frame,h.callers,h.bot,h.fit,h.flat,h.dom,h.obj,h.def_⟩
theorem OkS.step (A:Asked P L T) {fr:Frame} {cs B:List Frame} {w:World} (h:OkS P L T fr cs w) (hlast:fr.mode= .returning→fr.defers= []→cs≠[]) {m:Bool} {g1:Goroutine} {w1:World} {es:Array Event}
  (e:stepG P m {frame:=fr,callers:=cs++B,status:= .running,dying:=none} w= .go g1 w1 es) (hf:Fine g1):
  ∃fr1 cs1,g1= {frame:=fr1,callers:=cs1++B,status:= .running,dying:=none}∧OkS P L T fr1 cs1 w1∧w1.tape=w.tape∧w.drawn≤w1.drawn∧
   ∀t:Nat→Question→Nat,(∀i q,w.drawn≤i→i< w1.drawn→t i q=w.tape i q)→
    stepG P m {frame:=fr,callers:=cs++B,status:= .running,dying:=none} {w with tape:=t}= .go g1 {w1 with tape:=t} es:=by
 obtain ⟨τ,h⟩:=h
 exact h.step A hlast e hf
theorem OkS.classed (A:Asked P L T) {fr:Frame} {cs B:List Frame} {w:World} (h:OkS P L T fr cs w) (hlast:fr.mode= .returning→fr.defers= []→cs≠[]) (m:Bool):
  Cls L.fn B (stepG P m {frame:=fr,callers:=cs++B,status:= .running,dying:=none} w):=by
 obtain ⟨τ,h⟩:=h
 exact h.classed A hlast m
theorem runN_succ_end (P:Program) (k:Nat) (m:Machine):runN P (k+1) m=match runN P k m with| .next m'=>step P m'|e=>e:=by
 rw [runN_add]
 cases runN P k m with
 |next m'=>
  simp only [runN]
  cases step P m'<;> rfl
 |ended o w=>rfl
theorem runN_ended_mono {P:Program} {a b:Nat} {m:Machine} {o:Outcome} {w:World} (h:runN P a m= .ended o w) (hab:a≤b):runN P b m= .ended o w:=by
 rw [show b=a+(b - a) by omega,runN_add,h]
structure St where
 fr:Frame
 cs:List Frame
 w:World
theorem safe_of (A:Asked P L T) {Goal:Frame→List Frame→World→Prop} (hgt: ∀fr cs w t,Goal fr cs w→Goal fr cs {w with tape:=t})
  {fr0:Frame} {cs0:List Frame} {wb:World} (h0:OkS P L T fr0 cs0 wb)
  (hrun: ∀t:Nat→Question→Nat,∃n fr cs w,runN P n (lone fr0 (cs0++ [wall]) {wb with tape:=t})= .next (lone fr (cs++ [wall]) w)∧fr.mode= .returning∧Goal fr cs w):Safe P Goal fr0 cs0 wb:=by
 classical
 refine Classical.byContradiction fun hno=>?_
 let Bad:St→Prop:=fun s=>OkS P L T s.fr s.cs s.w∧¬ Safe P Goal s.fr s.cs s.w
 have hng: ∀s,Bad s→¬ Goal s.fr s.cs s.w:=fun s hs hg=>hs.2 (.goal hg)
 let Last:St→Prop:=fun s=>s.fr.mode= .returning∧s.fr.defers= []∧s.cs= []
 have htape: ∀s,Bad s→∃t:Nat→Question→Nat,Last s∨¬ ∃fr1 cs1 w1 es,stepG P true {frame:=s.fr,callers:=s.cs++ [wall],status:= .running,dying:=none} {s.w with tape:=t}= .go {frame:=fr1,callers:=cs1++ [wall],status:= .running,dying:=none} w1 es∧Fine {frame:=fr1,callers:=cs1++ [wall],status:= .running,dying:=none}∧Safe P Goal fr1 cs1 w1:=fun s hs=>by
  by_cases hl:Last s
  ·exact ⟨fun _ _=>0,.inl hl⟩
  ·refine Classical.byContradiction fun hx=>hs.2 ?_
   have hall: ∀t:Nat→Question→Nat,∃fr1 cs1 w1 es,stepG P true {frame:=s.fr,callers:=s.cs++ [wall],status:= .running,dying:=none} {s.w with tape:=t}= .go {frame:=fr1,callers:=cs1++ [wall],status:= .running,dying:=none} w1 es∧Fine {frame:=fr1,callers:=cs1++ [wall],status:= .running,dying:=none}∧Safe P Goal fr1 cs1 w1:=fun t=>Classical.byContradiction fun hy=>hx ⟨t,.inr hy⟩
   exact .step (fun t=>(hall t).choose) (fun t=>(hall t).choose_spec.choose) (fun t=>(hall t).choose_spec.choose_spec.choose) (fun t=>(hall t).choose_spec.choose_spec.choose_spec.choose) (hng s hs) hl
    (fun t=>(hall t).choose_spec.choose_spec.choose_spec.choose_spec.1) (fun t=>(hall t).choose_spec.choose_spec.choose_spec.choose_spec.2.1) (fun t=>(hall t).choose_spec.choose_spec.choose_spec.choose_spec.2.2)
 let tp:St→Nat→Question→Nat:=fun s=>if h:Bad s then (htape s h).choose else fun _ _=>0
 have htp: ∀s,Bad s→Last s∨¬ ∃fr1 cs1 w1 es,stepG P true {frame:=s.fr,callers:=s.cs++ [wall],status:= .running,dying:=none} {s.w with tape:=tp s}= .go {frame:=fr1,callers:=cs1++ [wall],status:= .running,dying:=none} w1 es∧Fine {frame:=fr1,callers:=cs1++ [wall],status:= .running,dying:=none}∧Safe P Goal fr1 cs1 w1:=fun s hs=>by
  have:=(htape s hs).choose_spec
  simp only [tp,hs,dif_pos]
  exact this
 let Nx:St→St→Prop:=fun s s1=>¬ Last s∧∃es,stepG P true {frame:=s.fr,callers:=s.cs++ [wall],status:= .running,dying:=none} {s.w with tape:=tp s}= .go {frame:=s1.fr,callers:=s1.cs++ [wall],status:= .running,dying:=none} s1.w es∧Fine {frame:=s1.fr,callers:=s1.cs++ [wall],status:= .running,dying:=none}
 have hlast: ∀s,¬ Last s→(s.fr.mode= .returning→s.fr.defers= []→s.cs≠[]):=fun s hs h1 h2 h3=>hs ⟨h1,h2,h3⟩
 have hnx: ∀s s1,Bad s→Nx s s1→Bad s1∧s.w.drawn≤s1.w.drawn:=fun s s1 hs hn=>by
  obtain ⟨hnl,es,e,hf⟩:=hn
  obtain ⟨fr1,cs1,g1,hok,_,hdr,_⟩:=(hs.1.tape (tp s)).step A (hlast s hnl) e hf
  simp only [Goroutine.mk.injEq] at g1
  obtain ⟨g2,g3,_⟩:=g1
  have g4:=List.append_cancel_right g3
  subst g2 g4
  exact ⟨⟨hok,fun hsafe=>(htp s hs).elim hnl fun hx=>hx ⟨_,_,_,es,e,hf,hsafe⟩⟩,hdr⟩
 let nxt:Option St→Option St:=fun o=>o.bind fun s=>if h: ∃s1,Nx s s1 then some h.choose else none
 let ch:Nat→Option St:=fun k=>Nat.rec (some ⟨fr0,cs0,wb⟩) (fun _ o=>nxt o) k
 have ch0:ch 0=some ⟨fr0,cs0,wb⟩:=rfl
 have chS: ∀k,ch (k+1)=nxt (ch k):=fun _=>rfl
 have hbad: ∀k s,ch k=some s→Bad s:=by
  intro k
  induction k with
  |zero=>intro s hs;rw [ch0] at hs;cases hs;exact ⟨h0,hno⟩
  |succ k ih=>
   intro s hs
   rw [chS] at hs
   simp only [nxt] at hs
   cases hk:ch k with
   |none=>rw [hk] at hs;cases hs
   |some s'=>
    rw [hk] at hs
    simp only [Option.bind_some] at hs
    split at hs
    ·rename_i hx
     cases hs
     exact (hnx s' _ (ih s' hk) hx.choose_spec).1
    ·cases hs
 have hstep: ∀k s s1,ch k=some s→ch (k+1)=some s1→Nx s s1:=by
  intro k s s1 hs hs1
  rw [chS,hs] at hs1
  simp only [nxt,Option.bind_some] at hs1
  split at hs1
  ·rename_i hx
   cases hs1
   exact hx.choose_spec
  ·cases hs1
 have hstop: ∀k s,ch k=some s→ch (k+1)=none→¬ ∃s1,Nx s s1:=by
  intro k s hs hs1 hx
  rw [chS,hs] at hs1
  simp only [nxt,Option.bind_some,hx,dif_pos] at hs1
  cases hs1
 have hmono: ∀k d s s1,ch k=some s→ch (k+d)=some s1→s.w.drawn≤s1.w.drawn:=by
  intro k d
  induction d with
  |zero=>intro s s1 hs hs1;rw [Nat.add_zero,hs] at hs1;cases hs1;exact Nat.le_refl _
  |succ d ih=>
   intro s s1 hs hs1
   cases hd:ch (k+d) with
   |none=>
    have e:ch (k+(d+1))=nxt (ch (k+d)):=chS (k+d)
    rw [e,hd] at hs1
    cases hs1
   |some s'=>exact Nat.le_trans (ih s s' hs hd) (hnx s' s1 (hbad _ _ hd) (hstep _ _ _ hd hs1)).2
 let On:Nat→St→Nat→Prop:=fun i s k=>ch k=some s∧s.w.drawn≤i∧∀s1,ch (k+1)=some s1→i< s1.w.drawn
 let Tp:Nat→Question→Nat:=fun i q=>if h: ∃s k,On i s k then tp h.choose i q else 0
 have hT: ∀i q s k,On i s k→Tp i q=tp s i q:=by
  intro i q s k hon
  have hx: ∃s k,On i s k:=⟨s,k,hon⟩
  simp only [Tp,hx,dif_pos]
  have hsp:=hx.choose_spec
  obtain ⟨k',hon'⟩:=hsp
  have heq:hx.choose=s:=by
   rcases Nat.lt_trichotomy k k' with hlt|heq|hgt'
   ·exfalso
    cases hs1:ch (k+1) with
    |none=>
     have hall: ∀d,ch (k+1+d)=none:=by
      intro d
      induction d with
      |zero=>exact hs1
      |succ d ih=>show nxt (ch (k+1+d))=none;rw [ih];rfl
     have:=hall (k' - (k+1))
     rw [show k+1+(k' - (k+1))=k' by omega,hon'.1] at this
     cases this
    |some s1=>
     have h1:=hon.2.2 s1 hs1
     have h2:=hmono (k+1) (k' - (k+1)) s1 hx.choose hs1 (by rw [show k+1+(k' - (k+1))=k' by omega];exact hon'.1)
     have h3:=hon'.2.1
     omega
   ·subst heq
    have:=hon'.1
    rw [hon.1] at this
    exact (Option.some.inj this).symm
   ·exfalso
    cases hs1:ch (k'+1) with
    |none=>
     have hall: ∀d,ch (k'+1+d)=none:=by
      intro d
      induction d with
      |zero=>exact hs1
      |succ d ih=>show nxt (ch (k'+1+d))=none;rw [ih];rfl
     have:=hall (k - (k'+1))
     rw [show k'+1+(k - (k'+1))=k by omega,hon.1] at this
     cases this
    |some s1=>
     have h1:=hon'.2.2 s1 hs1
     have h2:=hmono (k'+1) (k - (k'+1)) s1 s hs1 (by rw [show k'+1+(k - (k'+1))=k by omega];exact hon.1)
     have h3:=hon.2.1
     omega
  rw [heq]
 have hfollow: ∀k s,ch k=some s→runN P k (lone fr0 (cs0++ [wall]) {wb with tape:=Tp})= .next (lone s.fr (s.cs++ [wall]) {s.w with tape:=Tp}):=by
  intro k
  induction k with
  |zero=>intro s hs;rw [ch0] at hs;cases hs;rfl
  |succ k ih=>
   intro s1 hs1
   cases hk:ch k with
   |none=>rw [chS,hk] at hs1;cases hs1
   |some s=>
    have hn:=hstep k s s1 hk hs1
    obtain ⟨hnl,es,e,hf⟩:=hn
    have hb:=hbad k s hk
    obtain ⟨fr1,cs1,g1,hok,htp',hdr,hcong⟩:=(hb.1.tape (tp s)).step A (hlast s hnl) e hf
    have hc:=hcong Tp (fun i q hi1 hi2=>hT i q s k ⟨hk,hi1,fun s2 hs2=>by rw [hs1] at hs2;cases hs2;exact hi2⟩)
    have hst:step P (lone s.fr (s.cs++ [wall]) {s.w with tape:=Tp})= .next (lone s1.fr (s1.cs++ [wall]) {s1.w with tape:=Tp}):=step_lone_go (by
     have hc':stepG P true {frame:=s.fr,callers:=s.cs++ [wall],status:= .running,dying:=none} {s.w with tape:=Tp}=_:=hc
     rw [hc'];rfl)
    rw [runN_succ_end,ih s hk]
    exact hst
 obtain ⟨n,fr,cs,w,hn,hmode,hg⟩:=hrun Tp
 cases hcn:ch n with
 |some s=>
  have:=hfollow n s hcn
  rw [hn] at this
  simp only [lone,Stepped.next.injEq,Machine.mk.injEq,Array.mk.injEq,List.cons.injEq,Goroutine.mk.injEq,and_true] at this
  obtain ⟨hw,hfr,hcs⟩:=this
  have hcs':=List.append_cancel_right hcs
  subst hfr hcs' hw
  have:=hgt _ _ _ s.w.tape hg
  exact hng s (hbad n s hcn) this
 |none=>
  have hex: ∃k s,k< n∧ch k=some s∧ch (k+1)=none:=by
   have: ∀m,ch m=none→∃k s,k< m∧ch k=some s∧ch (k+1)=none:=by
    intro m
    induction m with
    |zero=>intro h;rw [ch0] at h;cases h
    |succ m ih=>
     intro h
     cases hm:ch m with
     |none=>obtain ⟨k,s,h1,h2⟩:=ih hm;exact ⟨k,s,by omega,h2⟩
     |some s=>exact ⟨m,s,by omega,hm,h⟩
   exact this n hcn
  obtain ⟨k,s,hkn,hk,hk1⟩:=hex
  have hb:=hbad k s hk
  have hstp:=hstop k s hk hk1
  have hfk:=hfollow k s hk
  have hTs: ∀i q,s.w.drawn≤i→Tp i q=tp s i q:=fun i q hi=>hT i q s k ⟨hk,hi,fun s2 hs2=>by rw [hk1] at hs2;cases hs2⟩
  have hokT:=hb.1.tape Tp
  by_cases hL:Last s
  case neg=>
   have hlst:=hlast s hL
   rcases hokT.classed A (B:=[wall]) hlst true with ⟨g1,w1,es,e,hf⟩|⟨o,w1,es,e⟩|⟨g1,w1,es,e,hp⟩
   ·
    obtain ⟨fr1,cs1,rfl,hok1,htt,hdr,hcong⟩:=hokT.step A hlst e hf
    have hc:=hcong (tp s) (fun i q hi1 _=>(hTs i q hi1).symm)
    exact hstp ⟨⟨fr1,cs1,{w1 with tape:=tp s}⟩,hL,es,hc,hf⟩
   ·have hst:step P (lone s.fr (s.cs++ [wall]) {s.w with tape:=Tp})= .ended o w1:=step_lone_ended (by rw [e];rfl)
    have hend:runN P (k+1) (lone fr0 (cs0++ [wall]) {wb with tape:=Tp})= .ended o w1:=by rw [runN_succ_end,hfk];exact hst
    have:=runN_ended_mono hend (show k+1≤n by omega)
    rw [hn] at this
    cases this
   ·obtain ⟨fr1,cs1,ch1,rfl,hm1,hf1,hc1,hd1⟩:=hp
    have hst:step P (lone s.fr (s.cs++ [wall]) {s.w with tape:=Tp})= .next (lone fr1 (cs1++ [wall]) w1):=step_lone_go (by rw [e];rfl)
    have hrun2:runN P (k+1) (lone fr0 (cs0++ [wall]) {wb with tape:=Tp})= .next (lone fr1 (cs1++ [wall]) w1):=by rw [runN_succ_end,hfk];exact hst
    have hn':=hn
    rw [show n=(k+1)+(n - (k+1)) by omega,runN_add,hrun2] at hn'
    obtain ⟨g,hg1,ch2,hg2⟩:=panics A _ fr1 cs1 w1 ch1 hm1 hf1 hc1 hd1 _ hn'
    simp only [lone] at hg1
    cases hg1
    have hg3:fr.mode= .panicking ch2:=hg2
    rw [hmode] at hg3
    cases hg3
  case pos=>
   obtain ⟨l1,l2,l3⟩:=hL
   obtain ⟨τ,hbt⟩:=hb.1
   obtain ⟨fn,c,f1,f2,_⟩:=A.stat.let_.body s.fr.fn hbt.frame.let_ hbt.frame.np
   have e1:stepG P true {frame:=s.fr,callers:=s.cs++ [wall],status:= .running,dying:=none} {s.w with tape:=Tp}=unwind P true s.fr (s.cs++ [wall]) none {s.w with tape:=Tp}:=by simp only [stepG,l1]
   rw [unwind_results l2 l1 f1] at e1
   have hwall: ∀(o:Outcome) (x:World),runN P (k+1) (lone fr0 (cs0++ [wall]) {wb with tape:=Tp})= .ended o x→False:=fun o x hx=>by
    have:=runN_ended_mono hx (show k+1≤n by omega)
    rw [hn] at this
    cases this
   cases hr:(results fn s.fr.tmps).runT P {s.w with tape:=Tp} #[] with
   |mk r es=>
    rw [hr] at e1
    cases r with
    |halt hh w1=>
     have hst: ∃o,step P (lone s.fr (s.cs++ [wall]) {s.w with tape:=Tp})= .ended o w1:=by
      cases hh<;> exact ⟨_,step_lone_ended (by rw [e1];rfl)⟩
     obtain ⟨o,hst⟩:=hst
     exact hwall o w1 (by rw [runN_succ_end,hfk];exact hst)
    |ok v w1=>
     have hdr:doReturn P true s.fr (s.cs++ [wall]) none v w1= .go {frame:=wall,callers:=[],status:= .running,dying:=none} w1:=by
      rw [l3]
      simp only [List.nil_append,doReturn,hbt.frame.kind.1]
      rfl
     have hst:step P (lone s.fr (s.cs++ [wall]) {s.w with tape:=Tp})= .next (lone wall [] w1):=step_lone_go (by
      rw [e1]
      simp only [resultsK,hdr]
      rfl)
     have h1:runN P (k+1) (lone fr0 (cs0++ [wall]) {wb with tape:=Tp})= .next (lone wall [] w1):=by rw [runN_succ_end,hfk];exact hst
     have hst2: ∃o,step P (lone wall [] w1)= .ended o w1:=⟨_,step_lone_ended (by simp only [stepG,wall,stepG.exec];rfl)⟩
     obtain ⟨o,hst2⟩:=hst2
     by_cases hnk:n=k+1
     ·rw [hnk,h1] at hn
      simp only [lone,Stepped.next.injEq,Machine.mk.injEq,Array.mk.injEq,List.cons.injEq,Goroutine.mk.injEq,and_true] at hn
      obtain ⟨_,_,hcs⟩:=hn
      simp at hcs
     ·have h2:runN P (k+2) (lone fr0 (cs0++ [wall]) {wb with tape:=Tp})= .ended o w1:=by rw [runN_succ_end,h1];exact hst2
      have:=runN_ended_mono h2 (show k+2≤n by omega)
      rw [hn] at this
      cases this
theorem safe_of_calls (A:Asked P L T) {f:FuncId} {args:Array Value} {w0:World} (h0:OkS P L T (Frame.enter P f args .normal) [] w0)
  {Φ:Value→World→Prop} (hΦ: ∀v w (t:Nat→Question→Nat),Φ v w→Φ v {w with tape:=t}) (hc: ∀t:Nat→Question→Nat,Calls P f args {w0 with tape:=t} fun e w'=>∃v,e= .returned v∧Φ v w'):
  Safe P (GoalOf P f Φ) (Frame.enter P f args .normal) [] w0:=by
 refine safe_of A (cs0:=[]) ?_ h0 ?_
 ·rintro fr cs w t ⟨h1,h2,h3,h4,fn,v,h5,⟨t',h6⟩,h7⟩
  exact ⟨h1,h2,h3,h4,fn,v,h5,⟨t',h6⟩,hΦ v w t h7⟩
 ·intro t
  obtain ⟨e,w',fr,⟨v,rfl,hφ⟩,⟨n,hn⟩,hfn,hm,hd,hk,fn,hfn2,hres⟩:=hc t [wall]
  refine ⟨n,fr,[],w',hn,hm,rfl,hfn,hm,hd,fn,v,hfn ▸ hfn2,⟨w'.tape,hres⟩,hφ⟩
end
end Go.Proofs.YtldmcdeibiclkaaGreatDoor.U
end
section
namespace Go.Proofs.YtldmcdeibiclkaaGreatDoor.U
set_option maxRecDepth 100000
def tSelf:Tab:={tMain with pool:=0}
abbrev lSelf:Lim:=lMain junkOf
def chkQ (Q:Program) (f:Nat) (fn:Func):Bool:=match fn.body with|some c=>okCode Q lSelf tSelf f c && okRes lSelf tSelf f fn|none=>false
theorem chk_q:(mFns.all fun f=>f==fQ||(Tryz.prog.funcs[f]?).all (chkQ Qg f))=true:=by kernel_rfl
theorem chk_qp:chkQ Qg fQ poolFn=true:=by kernel_rfl
theorem q_body (f:Nat) (hf:lSelf.fn f): ∃fn c,Gg[f]? =some fn∧fn.body=some c∧okCode Qg lSelf tSelf f c=true∧okRes lSelf tSelf f fn=true:=by
 have un: ∀fn,chkQ Qg f fn=true→∃c,fn.body=some c∧okCode Qg lSelf tSelf f c=true∧okRes lSelf tSelf f fn=true:=fun fn h=>by
  unfold chkQ at h
  split at h
  ·rename_i c hc
   simp only [Bool.and_eq_true] at h
   exact ⟨c,hc,h⟩
  ·cases h
 by_cases hn:f=fQ
 ·subst hn
  obtain ⟨c,h⟩:=un _ chk_qp
  exact ⟨poolFn,c,Gg_pool,h⟩
 ·have hm:f∈mFns:=by simpa [lMain,tMain] using hf
  have:=List.all_eq_true.1 chk_q f hm
  simp only [Bool.or_eq_true,beq_iff_eq] at this
  have:=this.resolve_left hn
  obtain ⟨fn,_,h1,h2,_⟩:=main_body (J:=junkOf) f hf hn
  rw [h1] at this
  obtain ⟨c,h⟩:=un fn this
  exact ⟨fn,c,h2,h⟩
theorem q_let:Let Qg Qg.funcs lSelf tSelf:=by
 refine ⟨fun f hf _=>?_,fun f hf=>?_,⟨tab_main.fb,tab_main.cb,tab_main.ib,tab_main.lb,tab_main.clo,tab_main.loc,tab_main.ar,tab_main.itr⟩,follows_ahead,no_step⟩
 ·obtain ⟨fn,c,h1,h2,h3,h4⟩:=q_body f hf
  exact ⟨fn,c,h1,h1,h2,h3,h4⟩
 ·have:=(let_main.plain f hf).2
  exact ⟨this,this⟩
theorem q_asked:Asked Qg lSelf tSelf:=⟨⟨globals_one,(stat_types lSelf).1,(stat_types lSelf).2,q_let⟩,rfl,fun h=>by
 have:mFns.contains 0=true:=h
 exact absurd this (by decide)⟩
def bare (K:List Nat) (W:World):World:={W with heap:=W.heap.mapIdx fun i o=>if K.contains i then o else .cells #[] 0}
theorem bare_size (K:List Nat) (W:World):(bare K W).heap.size=W.heap.size:=by simp [bare]
theorem bare_in {K:List Nat} {W:World} {b:Nat} (h:b∈K):(bare K W).heap[b]? =W.heap[b]? :=by
 unfold bare
 simp only [Array.getElem?_mapIdx]
 cases hx:W.heap[b]? with
 |none=>rfl
 |some o=>simp [h]
theorem bare_out {K:List Nat} {W:World} {b:Nat} (h:b∉K) {o:Obj} (ho:(bare K W).heap[b]? =some o):o= .cells #[] 0:=by
 unfold bare at ho
 simp only [Array.getElem?_mapIdx] at ho
 cases hx:W.heap[b]? with
 |none=>rw [hx] at ho;cases ho
 |some q=>rw [hx] at ho;simpa [h] using ho.symm
def FlatAt (W:World) (b:Nat):Prop:=∃c e f,W.heap[b]? =some (.cells c e f)∧∀x∈c,∀π,VR lSelf π x x
def ArgOk (K:List Nat) (W:World) (v:Value):Prop:=okZ 8 v=true∨∃a n c,v= .slice (some a) n c∧a.block∈K∧a.block< W.heap.size
def tau0 (K:List Nat) (W:World):Tri:=⟨fun r s=>r=s∧r∈K∧r< W.heap.size,fun r s=>r=s∧r∈K∧r< W.heap.size,fun _ _=>False,fun _ _=>False⟩
theorem tau0_un {K:List Nat} {W:World} {r s:Nat}:(tau0 K W).un r s↔r=s∧r∈K∧r< W.heap.size:=by simp [Tri.un,tau0]
theorem tau0_fit (K:List Nat) (W:World):Fit (tau0 K W):=
 {own:=fun _ _ h=>h
  two:=fun _ _ _ _ h=>h.elim
  two':=fun _ _ _ _ h=>h.elim
  two'':=fun _ _ _ h=>h.elim
  fn:=fun r s t h k=>by rw [← (tau0_un.1 h).1,← (tau0_un.1 k).1]
  inj:=fun r s t h k=>by rw [(tau0_un.1 h).1,(tau0_un.1 k).1]}
theorem tau0_flat {K:List Nat} {W:World} (h0:0∈K) (hs:0< W.heap.size) {T:Tab} (hn:T.ng=1):Flat T (tau0 K W):=by
 refine ⟨fun _ _ _ h=>h,fun g hg=>?_⟩
 rw [hn] at hg
 obtain rfl:g=0:=by omega
 exact ⟨rfl,h0,hs⟩
theorem arg_vr {L:Lim} {K:List Nat} {W:World} {v:Value} (h:ArgOk K W v):VR L (tau0 K W).all v v:=by
 rcases h with h|⟨a,n,c,rfl,h1,h2⟩
 ·exact okZ_vr 8 v h
 ·exact .slice n c ⟨⟨rfl,h1,h2⟩,rfl,rfl⟩
theorem arg_tr {L:Lim} {K:List Nat} {W:World} {f:FuncId} (hcol: ∀i,L.col f i= .any) {args:Array Value} (ha: ∀v∈args,ArgOk K W v):TR L (tau0 K W) f args args:=
 ⟨rfl,fun i x y hx hy=>by
  rw [hx] at hy
  cases hy
  rw [hcol i]
  exact arg_vr (ha x (Array.mem_of_getElem? hx))⟩
theorem enter_round (P:Program) (f:FuncId) (xs:Array Value):(Frame.enter P f xs .normal).roundOf=none:=by
 unfold Frame.enter
 rfl
theorem q_safe {K:List Nat} {W:World} (h0:0∈K) (hs:0< W.heap.size) (hfl: ∀b∈K,FlatAt W b) {f:FuncId} (hf:lSelf.fn f) (hcol: ∀i,lSelf.col f i= .any) {args:Array Value} (ha: ∀v∈args,ArgOk K W v)
  {Φ:Value→World→Prop} (hΦ: ∀v w (t:Nat→Question→Nat),Φ v w→Φ v {w with tape:=t}) (hc: ∀t:Nat→Question→Nat,Calls Qg f args {bare K W with tape:=t} fun e w'=>∃v,e= .returned v∧Φ v w'):
  Safe Qg (GoalOf Qg f Φ) (Frame.enter Qg f args .normal) [] (bare K W):=by
 refine safe_of_calls q_asked ⟨tau0 K W,fun r s h=>(tau0_un.1 h).1,FrR.enter q_let hf (fun e=>q_asked.np (e ▸ hf)) (arg_tr hcol ha),.nil _,enter_round _ _ _,tau0_fit K W,tau0_flat h0 hs rfl,fun r s h=>?_,fun r s h=>?_,fun r d h=>?_⟩ hΦ hc
 ·rw [bare_size]
  exact (tau0_un.1 h).2.2
 ·obtain ⟨rfl,hk,hlt⟩:=tau0_un.1 h
  obtain ⟨c,e,g,h1,h2⟩:=hfl r hk
  refine ⟨_,_,by rw [bare_in hk];exact h1,by rw [bare_in hk];exact h1,fun _=>?_,fun h=>h.elim,fun h=>h.elim⟩
  have:=OR.cells (L:=lSelf) (τ:=tau0 K W) e g (xs:=c) (ys:=c) ⟨c.map fun x=>(x,x),by simp [Function.comp_def],by simp [Function.comp_def],fun z hz=>by
   obtain ⟨x,hx,rfl⟩:=Array.mem_map.1 hz
   exact h2 x hx _⟩
  exact this
 ·by_cases hr:r∈K
  ·rw [bare_in hr] at h
   obtain ⟨c,e,f,h1,_⟩:=hfl r hr
   rw [h1] at h
   cases h
  ·have:=bare_out hr h
   cases this
end Go.Proofs.YtldmcdeibiclkaaGreatDoor.U
end
section
namespace Go.Proofs.YtldmcdeibiclkaaGreatDoor.U
set_option maxRecDepth 100000
inductive FV (J:String→Value):Value→Value→Prop
 |junk (s:String):(∀c,J s≠.agg c)→(∀c,J s≠.tuple c)→(∀b,J s≠.bool b)→FV J (.func (.method s) #[.nilIface] #[]) (J s)
 |bool (b:Bool):FV J (.bool b) (.bool b)
 |int (k:IntKind) (n:Int):FV J (.int k n) (.int k n)
 |string (s:ByteArray):FV J (.string s) (.string s)
 |agg (xs:Array (Value×Value)):(∀z∈xs,FV J z.1 z.2)→FV J (.agg (xs.map (·.1))) (.agg (xs.map (·.2)))
 |tuple (xs:Array (Value×Value)):(∀z∈xs,FV J z.1 z.2)→FV J (.tuple (xs.map (·.1))) (.tuple (xs.map (·.2)))
theorem FV.vr {J:String→Value} {L:Lim} (hL:L.junk=J) {π:Nat→Nat→Prop} {x y:Value} (h:FV J x y):VR L π x y:=by
 subst hL
 induction h with
 |junk s a b c=>exact .junk s a b c
 |bool b=>exact .bool b
 |int k n=>exact .int k n
 |string s=>exact .string s
 |agg xs _ ih=>exact .agg xs ih
 |tuple xs _ ih=>exact .tuple xs ih
theorem FV.self {J:String→Value} {L:Lim} (hL:L.junk=junkOf) {π:Nat→Nat→Prop} {x y:Value} (h:FV J x y):VR L π x x:=by
 induction h with
 |junk s a b c=>
  have:=VR.junk (L:=L) (π:=π) s (fun c e=>by rw [hL] at e;cases e) (fun c e=>by rw [hL] at e;cases e) (fun b e=>by rw [hL] at e;cases e)
  rw [hL] at this
  exact this
 |bool b=>exact .bool b
 |int k n=>exact .int k n
 |string s=>exact .string s
 |agg xs _ ih=>
  have:=VR.agg (L:=L) (π:=π) (xs.map fun z=>(z.1,z.1)) (fun z hz=>by
   obtain ⟨q,hq,rfl⟩:=Array.mem_map.1 hz
   exact ih q hq)
  simpa [Array.map_map,Function.comp_def] using this
 |tuple xs _ ih=>
  have:=VR.tuple (L:=L) (π:=π) (xs.map fun z=>(z.1,z.1)) (fun z hz=>by
   obtain ⟨q,hq,rfl⟩:=Array.mem_map.1 hz
   exact ih q hq)
  simpa [Array.map_map,Function.comp_def] using this
theorem rows_one {R:Value→Value→Prop} {xs ys:Array (Value×Value)} (e:ys.map (·.1)=xs.map (·.1)) (h: ∀z∈xs,∀y,R z.1 y→y=z.2) (hy: ∀z∈ys,R z.1 z.2):ys.map (·.2)=xs.map (·.2):=by
 have hs:ys.size=xs.size:=by simpa using congrArg Array.size e
 apply Array.ext (by simpa using hs)
 intro i h1 h2
 have i1:i< ys.size:=by simpa using h1
 have i2:i< xs.size:=by simpa using h2
 have ei:ys[i].1=xs[i].1:=by
  have:=congrArg (fun a:Array Value=>a[i]?) e
  simpa [i1,i2] using this
 simp only [Array.getElem_map]
 refine h xs[i] (Array.getElem_mem i2) _ ?_
 rw [← ei]
 exact hy _ (Array.getElem_mem i1)
theorem FV.one {J:String→Value} {L:Lim} (hL:L.junk=J) {π:Nat→Nat→Prop} {x y:Value} (h:FV J x y): ∀y',VR L π x y'→y'=y:=by
 subst hL
 induction h with
 |junk s a b c=>intro y' h;generalize hx:(Value.func (.method s) #[.nilIface] #[])=x at h;cases h<;> first|(cases hx;rfl)|cases hx
 |bool b=>intro y' h;cases h;rfl
 |int k n=>intro y' h;cases h;rfl
 |string s=>intro y' h;cases h;rfl
 |agg xs _ ih=>
  intro y' h
  generalize hx:Value.agg (xs.map (·.1))=x at h
  cases h with
  |agg ys hy=>
   congr 1
   exact rows_one (R:=VR L π) (by injection hx with hx;exact hx.symm) ih hy
  |_=>cases hx
 |tuple xs _ ih=>
  intro y' h
  generalize hx:Value.tuple (xs.map (·.1))=x at h
  cases h with
  |tuple ys hy=>
   congr 1
   exact rows_one (R:=VR L π) (by injection hx with hx;exact hx.symm) ih hy
  |_=>cases hx
def nm (k:Nat):String:=String.ofList (List.replicate k default)
theorem nm_length (k:Nat):(nm k).length=k:=by simp [nm]
def Speaks (J:String→Value) (k:Nat) (ls:List Value):Prop:=∀i,i< ls.length→J (nm (k+i))=ls.getD i (.int .i64 0)
theorem Speaks.left {J:String→Value} {k:Nat} {a b:List Value} (h:Speaks J k (a++b)):Speaks J k a:=fun i hi=>by
 rw [h i (by simp;omega)]
 simp [List.getD,List.getElem?_append_left hi]
theorem Speaks.right {J:String→Value} {k:Nat} {a b:List Value} (h:Speaks J k (a++b)):Speaks J (k+a.length) b:=fun i hi=>by
 rw [Nat.add_assoc,h (a.length+i) (by simp;omega)]
 simp [List.getD,List.getElem?_append_right]
theorem blur_list (n:Nat) (hv: ∀v:Value,SizeOf.sizeOf v< n→∀k,∃x ls,∀J,Speaks J k ls→FV J x v): ∀(l:List Value),(∀v∈l,SizeOf.sizeOf v< n)→∀k,∃(zs:List (Value×Value)) (ls:List Value),zs.map (·.2)=l∧∀J,Speaks J k ls→∀z∈zs,FV J z.1 z.2
 |[],_,k=>⟨[],[],rfl,fun J _ z hz=>by simp at hz⟩
 |v::l,h,k=>by
  obtain ⟨x,l1,h1⟩:=hv v (h v (by simp)) k
  obtain ⟨zs,l2,e2,h2⟩:=blur_list n hv l (fun u hu=>h u (by simp [hu])) (k+l1.length)
  refine ⟨(x,v)::zs,l1++l2,by simp [e2],fun J hJ z hz=>?_⟩
  rcases List.mem_cons.1 hz with rfl|hz
  ·exact h1 J hJ.left
  ·exact h2 J hJ.right z hz
theorem blur (n:Nat): ∀v:Value,SizeOf.sizeOf v< n→∀k,∃x ls,∀J,Speaks J k ls→FV J x v:=by
 induction n with
 |zero=>intro v h;omega
 |succ n ih=>
  intro v hs k
  have other:(∀c,v≠.agg c)→(∀c,v≠.tuple c)→(∀b,v≠.bool b)→∃x ls,∀J,Speaks J k ls→FV J x v:=fun a b c=>
   ⟨.func (.method (nm k)) #[.nilIface] #[],[v],fun J hJ=>by
    have e:J (nm k)=v:=by simpa using hJ 0 (by simp)
    have:=FV.junk (J:=J) (nm k) (by rw [e];exact a) (by rw [e];exact b) (by rw [e];exact c)
    rw [e] at this
    exact this⟩
  cases v with
  |bool b=>exact ⟨.bool b,[],fun J _=> .bool b⟩
  |agg c=>
   have hc: ∀v∈c.toList,SizeOf.sizeOf v< n:=fun v hv=>by
    have h1:=Array.sizeOf_lt_of_mem (Array.mem_toList_iff.1 hv)
    have h2:SizeOf.sizeOf (Value.agg c)=1+SizeOf.sizeOf c:=by simp
    omega
   obtain ⟨zs,ls,e,h⟩:=blur_list n ih c.toList hc k
   refine ⟨.agg (zs.toArray.map (·.1)),ls,fun J hJ=>?_⟩
   have:=FV.agg (J:=J) zs.toArray (fun z hz=>h J hJ z (by simpa using hz))
   have e2:zs.toArray.map (·.2)=c:=by apply Array.ext';simpa using e
   rw [e2] at this
   exact this
  |tuple c=>
   have hc: ∀v∈c.toList,SizeOf.sizeOf v< n:=fun v hv=>by
    have h1:=Array.sizeOf_lt_of_mem (Array.mem_toList_iff.1 hv)
    have h2:SizeOf.sizeOf (Value.tuple c)=1+SizeOf.sizeOf c:=by simp
    omega
   obtain ⟨zs,ls,e,h⟩:=blur_list n ih c.toList hc k
   refine ⟨.tuple (zs.toArray.map (·.1)),ls,fun J hJ=>?_⟩
   have:=FV.tuple (J:=J) zs.toArray (fun z hz=>h J hJ z (by simpa using hz))
   have e2:zs.toArray.map (·.2)=c:=by apply Array.ext';simpa using e
   rw [e2] at this
   exact this
  |_=>exact other (fun c e=>by cases e) (fun c e=>by cases e) (fun b e=>by cases e)
end Go.Proofs.YtldmcdeibiclkaaGreatDoor.U
end
