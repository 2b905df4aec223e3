/-
  Toward: treed_holds, each node's digest is that of its children's, for every argument of Treed. A STEP OF A GOROUTINE THAT IS BESIDE ITSELF: it goes on, or the run ends, or it panics.
  EVERY STEP OF A GOROUTINE THAT IS BESIDE ITSELF: it goes on, or the run ends, or it panics.
-/
import Derived.Test.YtldmcdeibiclkaaGreatDoorC30
set_option linter.unusedVariables false
set_option linter.unusedSimpArgs false
set_option maxRecDepth 4000
section
namespace Go.Proofs.YtldmcdeibiclkaaGreatDoor.U
open Go.Conc
section
variable {P:Program} {L:Lim} {T:Tab} {τ:Tri} {F:FuncId→Prop} {fr:Frame} {cs B:List Frame} {w:World}
def Marks (ds:List Deferred):Prop:=∀d∈ds,∃r,d= {target:= .collected r,args:=#[]}
def FOk (F:FuncId→Prop) (fr:Frame):Prop:=F fr.fn∧Marks fr.defers
def PanicSt (F:FuncId→Prop) (B:List Frame) (g:Goroutine) (w:World):Prop:=
 ∃fr cs ch,g= {frame:=fr,callers:=cs++B,status:= .running,dying:=none}∧fr.mode= .panicking ch∧FOk F fr∧(∀c∈cs,FOk F c)∧DefOk w
def Cls (F:FuncId→Prop) (B:List Frame) (s:GStep):Prop:=
 (∃g1 w1 es,s= .go g1 w1 es∧Fine g1)∨(∃o w1 es,s= .ended o w1 es)∨(∃g1 w1 es,s= .go g1 w1 es∧PanicSt F B g1 w1)
theorem Cls.after {s:GStep} (h:Cls F B s) (es:Array Event):Cls F B (GStep.after es s):=by
 rcases h with ⟨g,w,es',rfl,h⟩|⟨o,w,es',rfl⟩|⟨g,w,es',rfl,h⟩
 ·exact .inl ⟨g,w,_,rfl,h⟩
 ·exact .inr (.inl ⟨o,w,_,rfl⟩)
 ·exact .inr (.inr ⟨g,w,_,rfl,h⟩)
theorem marks_of {xs ys:List Deferred} (h:L2 (MarkR τ) xs ys):Marks xs:=by
 induction h with
 |nil=>intro d hd;cases hd
 |cons h _ ih=>
  intro d hd
  cases hd with
  |head=>cases h;exact ⟨_,rfl⟩
  |tail _ hd=>exact ih d hd
theorem FrR.fok {gr:Frame} (h:FrR P L T τ fr gr):FOk L.fn fr:=⟨h.let_,marks_of h.defers⟩
theorem callers_fok {c:Col} {ds:List Frame} (h:ChR P L T τ c cs ds): ∀c∈cs,FOk L.fn c:=by
 induction h with
 |nil=>intro c hc;cases hc
 |cons h _ _ ih=>
  intro c hc
  cases hc with
  |head=>exact h.fok
  |tail _ hc=>exact ih c hc
theorem finish_kind (fr:Frame) (v:Value):(fr.finish v).kind=fr.kind:=by
 unfold Frame.finish
 split<;> rfl
theorem raise_mode (fr:Frame) (vs:List PanicEntry): ∃ch,(fr.raise vs).mode= .panicking ch:=by
 unfold Frame.raise
 split
 ·exact ⟨_,rfl⟩
 ·exact ⟨_,rfl⟩
theorem raise_fok {fr:Frame} (h:FOk F fr) (vs:List PanicEntry):FOk F (fr.raise vs):=by
 unfold Frame.raise
 split<;> exact h
theorem panicSt_raise {fr:Frame} (h:FOk F fr) (hc: ∀c∈cs,FOk F c) (hd:DefOk w) (vs:List PanicEntry):PanicSt F B {frame:=fr.raise vs,callers:=cs++B,status:= .running,dying:=none} w:=by
 obtain ⟨ch,hm⟩:=raise_mode fr vs
 exact ⟨fr.raise vs,cs,ch,rfl,hm,raise_fok h vs,hc,hd⟩
theorem FrR.notPanic {gr:Frame} (h:FrR P L T τ fr gr): ∀c,fr.mode≠.panicking c:=by
 intro c e
 rcases h.run with h|h
 ·rw [h] at e;cases e
 ·rw [h.1] at e;cases e
theorem OkI.sem (h:OkI P L T τ fr cs w) {α:Type} (k:Kd) {R:Tri→α→α→Prop} {p:Sem α} (hp: ∀N,w.heap.size≤N→SemR P P.funcs L (CC P L T) (extS τ w N k) k (R (extS τ w N k)) p p):
  (∃a b w1 es,p.runT P w #[]=(.ok a w1,es)∧w.heap.size≤w1.heap.size∧R (extS τ w w1.heap.size k) a b∧(∀r s,(extS τ w w1.heap.size k).un r s→∃o q,w1.heap[r]? =some o∧w1.heap[s]? =some q∧KR L (CC P L T) (extS τ w w1.heap.size k) r s o q)∧DefOk w1)∨(∃hh w1 es,p.runT P w #[]=(.halt hh w1,es)∧Tame hh∧DefOk w1):=by
 cases hr:p.runT P w #[] with
 |mk r es=>
  cases r with
  |ok a w1=>
   have hg:=(Sem.runT_growsU P _ _ _ hr).1
   obtain ⟨b,v1,fs,e1,hR,hB⟩:=(hp w1.heap.size hg).adequate (h.fitx _ _) w {w with tape:=w.tape} #[] #[] a w1 es (h.sync w.tape hg k) hr (Nat.le_refl _) (fun _ _ _=>rfl) (h.domx hg k)
   have e1':p.runT P w #[]=(.ok b v1,fs):=e1
   rw [hr] at e1'
   cases e1'
   exact .inl ⟨a,a,w1,es,rfl,hg,hR,fun r s hx=>hB.sync.held r s hx (h.domx hg k r s hx),h.behind hg hB⟩
  |halt hh w1=>
   have hg:=Sem.runT_growsU_halt P _ _ _ hr
   obtain ⟨h1,h2⟩:=(hp w1.heap.size hg).halts (h.fitx _ _) w {w with tape:=w.tape} #[] hh w1 es (h.sync w.tape hg k) h.def_ hr (Nat.le_refl _) (h.domx hg k)
   exact .inr ⟨hh,w1,es,rfl,h1,h2⟩
theorem early_ended (A:Asked P L T) (fr:Frame) (cs:List Frame) (g:Nat) (w:World): ∃o w1 es,early P fr cs none g w= .ended o w1 es:=by
 have hn: ∀g,P.stepOf g=none:=A.stat.let_.noStep
 unfold early
 simp only [A.stat.let_.ahead,hn]
 exact ⟨_,_,_,rfl⟩
theorem OkI.applied (A:Asked P L T) (h:OkI P L T τ fr cs w) {k:Kd} {c:Col} {p:Sem Next} (hp: ∀N,w.heap.size≤N→SemR P P.funcs L (CC P L T) (extS τ w N k) k (NxR L (CC P L T) (extS τ w N k) T.fl c) p p):
  Cls L.fn B (stepG.apply P true fr (cs++B) none p w):=by
 have hke:(fr.kind==CallKind.early)=false:=by rw [h.frame.kind.1];rfl
 have hkn:=(kind_normal h.frame.todo).1
 have hmode:=h.frame.notPanic
 rcases h.sem k (R:=fun σ=>NxR L (CC P L T) σ T.fl c) hp with ⟨a,b,w1,es,hr,_,hR,_,_⟩|⟨hh,w1,es,hr,ht,hd⟩
 ·simp only [stepG.apply,if_true,hr,hke,Bool.false_eq_true,if_false]
  refine Cls.after ?_ _
  cases hR with
  |value hv=>exact .inl ⟨_,_,_,rfl,rfl,rfl,fun c e=>hmode c ((finish_mode _ _).symm.trans e),(finish_kind _ _).trans h.frame.kind.1⟩
  |skip=>exact .inl ⟨_,_,_,rfl,rfl,rfl,fun c e=>hmode c ((finish_mode _ _).symm.trans e),(finish_kind _ _).trans h.frame.kind.1⟩
  |enter hf hx=>exact .inl ⟨_,_,_,rfl,rfl,rfl,fun c e=>(by cases e),hkn⟩
  |round=>exact .inl ⟨_,_,_,rfl,rfl,rfl,fun c e=>(by cases e),rfl⟩
 ·cases hh with
  |panic v=>
   simp only [stepG.apply,if_true,hr,hke,Bool.false_eq_true,if_false]
   exact Cls.after (.inr (.inr ⟨_,_,_,rfl,panicSt_raise h.frame.fok (callers_fok h.callers) hd _⟩)) _
  |stuck s=>
   simp only [stepG.apply,if_true,hr,hke,Bool.false_eq_true,if_false]
   exact Cls.after (.inr (.inl ⟨_,_,_,rfl⟩)) _
  |unsupported u=>
   cases u with
   |initOrder g=>
    obtain ⟨o,w2,es2,he⟩:=early_ended A fr (cs++B) g w1
    simp only [stepG.apply,if_true,hr,hke,Bool.false_eq_true,if_false,he]
    exact Cls.after (.inr (.inl ⟨_,_,_,rfl⟩)) _
   |_=>
    simp only [stepG.apply,if_true,hr,hke,Bool.false_eq_true,if_false]
    exact Cls.after (.inr (.inl ⟨_,_,_,rfl⟩)) _
  |_=>exact ht.elim
theorem OkI.backed (h:OkI P L T τ fr cs w) (hne:cs≠[]) {m:Bool} (v:Value) (w1:World):Cls L.fn B (doReturn P m fr (cs++B) none v w1):=by
 have hc:=h.callers
 cases hc with
 |nil=>exact absurd rfl hne
 |cons hc _ _=>
  simp only [List.cons_append,doReturn,h.frame.kind.1]
  exact .inl ⟨_,_,_,rfl,rfl,rfl,fun x e=>hc.notPanic x ((finish_mode _ _).symm.trans e),(finish_kind _ _).trans hc.kind.1⟩
end
end Go.Proofs.YtldmcdeibiclkaaGreatDoor.U
end
section
namespace Go.Proofs.YtldmcdeibiclkaaGreatDoor.U
open Go.Conc
section
variable {P:Program} {L:Lim} {T:Tab} {τ:Tri} {F:FuncId→Prop} {fr:Frame} {cs B:List Frame} {w:World}
theorem L2.eq {α:Type} {R:α→α→Prop} (hR: ∀a b,R a b→a=b) {xs ys:List α} (h:L2 R xs ys):xs=ys:=by
 induction h with
 |nil=>rfl
 |cons h _ ih=>rw [hR _ _ h,ih]
theorem OkI.classed (A:Asked P L T) (h:OkI P L T τ fr cs w) (hlast:fr.mode= .returning→fr.defers= []→cs≠[]) (m:Bool):
  Cls L.fn B (stepG P m {frame:=fr,callers:=cs++B,status:= .running,dying:=none} w):=by
 have hfr:=h.frame
 have K:=A.stat.let_
 have go: ∀(k:List Item) (w1:World),Cls L.fn B (.go {frame:={fr with todo:=k},callers:=cs++B,status:= .running,dying:=none} w1):=fun k w1=>
  .inl ⟨_,_,_,rfl,rfl,rfl,hfr.notPanic,hfr.kind.1⟩
 rcases hfr.run with hrun|⟨hret,_⟩
 ·have e1:stepG P m {frame:=fr,callers:=cs++B,status:= .running,dying:=none} w=stepG.exec P m true fr (cs++B) none w:=by simp only [stepG,hrun]
  rw [e1]
  have leave: ∀(jump:Option Code),(∀c,jump=some c→Jump c)→Cls L.fn B (leaveG P m fr (cs++B) w jump fr.roundOf):=by
   intro jump hj
   have hr:=hfr.round
   rcases h1:fr.roundOf with _|l
   ·unfold leaveG
    by_cases hjm:isRet jump=true
    ·simp only [hjm,if_true]
     exact .inl ⟨_,_,_,rfl,rfl,rfl,fun c e=>(by cases e),hfr.kind.1⟩
    ·simp only [hjm,Bool.false_eq_true,if_false]
     exact .inr (.inl ⟨_,_,_,rfl⟩)
   ·unfold leaveG
    rw [h1] at hr
    refine Cls.after ?_ _
    rcases h.sem .own (R:=fun σ=>CR L σ .any) (p:=Instr.endRound l jump) (fun N hN=>R_endRound ((Tri.le_ext ..).lp _ _ hr) hj) with ⟨a,b,w1,es,e,_⟩|⟨hh,w1,es,e,_⟩
    ·rw [e];exact h.backed (bot_ne h.bot h1) a w1
    ·rw [e];exact .inr (.inl ⟨_,_,_,rfl⟩)
  have ht:=hfr.todo
  generalize ek:fr.todo=k at ht
  cases k with
  |nil=>rw [exec_nil ek];exact leave none (fun c hc=>by cases hc)
  |cons it k=>
   cases ht with
   |cons hi hk=>
    cases hi with
    |inBlock id=>simp only [stepG.exec,ek];exact go _ _
    |inLoop hc=>simp only [stepG.exec,ek];exact go _ _
    |beginRound=>
     simp only [stepG.exec,ek]
     refine h.applied A (k:= .own) (c:= .any) fun N hN=>?_
     have hr:=hfr.round
     cases h1:fr.roundOf with
     |none=>exact .doom _ (Doomed.bind' (.stuck _))
     |some l=>
      rw [h1] at hr
      exact SemR.bind' (R_beginRound ((Tri.le_ext ..).lp _ _ hr)) fun _ _ _=> .pure .skip
    |inRangeFunc hl=>simp only [stepG.exec,ek];exact .inr (.inl ⟨_,_,_,rfl⟩)
    |@endRangeFunc lp _ hl=>
     rw [exec_endRange ek]
     refine Cls.after ?_ _
     rcases h.sem .own (R:=fun _ a b=>a=b∧∀c,a=some c→Jump c) (p:=Instr.endLoop lp) (fun N hN=>R_endLoop ((Tri.le_ext ..).lp _ _ hl)) with ⟨a,b,w1,es,e,_⟩|⟨hh,w1,es,e,ht,hd⟩
     ·rw [e];exact go _ _
     ·rw [e]
      cases hh with
      |panic v=>exact .inr (.inr ⟨_,_,_,rfl,panicSt_raise hfr.fok (callers_fok h.callers) hd _⟩)
      |_=>exact .inr (.inl ⟨_,_,_,rfl⟩)
    |@inRegion ops todo hops=>
     cases todo with
     |nil=>simp only [stepG.exec,ek];exact go _ _
     |cons i rest=>
      rw [exec_oper ek]
      split
      ·rename_i hw
       have o1:fr.oper? =ops[i]? :=by unfold Frame.oper?;rw [ek]
       cases ho:ops[i]? with
       |none=>rw [ho] at hw;simp at hw
       |some o=>
        have hok:okOp P L T fr.fn (dstCol L fr.fn o) o.op=true:=Array.all_eq_true'.1 hops o (Array.mem_of_getElem? ho)
        rw [oper_eq (o1.trans ho) hok]
        exact h.applied A fun N hN=>R_execOp (A.stat.env (h.fitx N _) (Tri.ext_flat h.flat)) K.bodied K.tab (Tri.ext_flat h.flat) ⟨fun _=>rfl,fun _=>rfl⟩ (fun c x hx=>(hfr.mono (Tri.le_ext ..)).eval K (h.fitx N _).toTriOk (Tri.ext_flat h.flat) c x hx) o hok
      ·exact .inl ⟨_,_,_,rfl,rfl,rfl,fun c e=>hfr.notPanic c ((finish_mode _ _).symm.trans e),(finish_kind _ _).trans hfr.kind.1⟩
    |@code c hc=>
     cases c with
     |skip=>simp only [stepG.exec,ek];exact go _ _
     |ret=>rw [exec_ret ek];exact leave (some .ret) (fun c hc=>by cases hc;exact .inl rfl)
     |seq x y=>simp only [stepG.exec,ek];exact go _ _
     |cond c x y=>
      simp only [stepG.exec,ek]
      split
      ·exact go _ _
      ·exact .inr (.inl ⟨_,_,_,rfl⟩)
     |block id c=>simp only [stepG.exec,ek];exact go _ _
     |loop c=>simp only [stepG.exec,ek];exact go _ _
     |exit id=>
      cases he:exitTo id k with
      |none=>rw [exec_exit ek he];exact leave (some (.exit id)) (fun c hc=>by cases hc;exact .inr ⟨_,rfl⟩)
      |some k'=>simp only [stepG.exec,ek,he,Option.elim];exact go _ _
     |region id ops draw=>
      cases draw with
      |false=>rw [exec_region ek];exact go _ _
      |true=>rw [exec_draw ek];exact go _ _
     |rangeFunc f ps x y=>
      simp only [okCode,Bool.and_eq_true] at hc
      rw [exec_range ek]
      refine Cls.after ?_ _
      rcases h.sem .lp (R:=fun σ a b=>σ.lp a.1 b.1∧L2 (MarkR σ) a.2 b.2) (p:=Instr.enterLoop fr.fn fr.tmps ps x y fr.roundOf) (fun N hN=>R_enterLoop (hfr.mono (Tri.le_ext ..)) ps (fun p hp=>by simpa using Array.all_eq_true'.1 hc.1.1.2 p hp) hc.1.2 hc.2) with ⟨a,b,w1,es,e,hg,⟨hl,hm⟩,hsy,hrest⟩|⟨hh,w1,es,e,_⟩
      ·rw [e]
       obtain ⟨lp,mark⟩:=a
       obtain ⟨lq,mark'⟩:=b
       simp only at hl hm
       have hdx:=h.dgx w1.heap.size .lp
       have e1:lp=lq:=hdx _ _ (.inr (.inr hl))
       have e2:mark=mark':=hm.eq fun a b hx=>by
        cases hx with
        |collected hx=>rw [hdx _ _ (.inr (.inr hx))]
       subst e1 e2
       have h2:OkI P L T (extS τ w w1.heap.size .lp) {fr with todo:= .inRangeFunc lp::k,defers:=mark++fr.defers} cs w1:=by
        have hf2:=hfr.mono (Tri.le_ext w.heap.size w.heap.size (w1.heap.size - w.heap.size) .lp)
        have hk2:L2 (ItemR P L T (extS τ w w1.heap.size .lp) fr.fn) k k:=by
         have:=hf2.todo
         rw [ek] at this
         cases this with
         |cons _ hk=>exact hk
        exact ⟨hdx,⟨hf2.fn,hf2.let_,hf2.np,hf2.tmps,.cons (.inRangeFunc hl) hk2,hm.append hf2.defers,hf2.mode,hf2.run,hf2.kind,hf2.round⟩,h.callers.mono (Tri.le_ext ..),h.bot.same rfl,h.fitx _ _,Tri.ext_flat h.flat,h.domx hg _,hsy,hrest⟩
       refine h2.applied A (k:= .own) (c:= .any) fun N hN=>?_
       have hf3:=h2.frame.mono (Tri.le_ext w1.heap.size w1.heap.size (N - w1.heap.size) .own)
       have:=R_callItr (P:=P) (G:=P.funcs) (C:=CC P L T) (k₀:= .own) (h2.fitx N .own).toTriOk (Tri.ext_flat h2.flat) K.bodied K.tab (fl:=T.fl) (c:= .any) (fitsCol_refl _ _) (hf3.eval K (h2.fitx N .own).toTriOk (Tri.ext_flat h2.flat) .itr f hc.1.1.1) ((Tri.le_ext ..).lp _ _ hl)
       show SemR P P.funcs L (CC P L T) _ .own (NxR L (CC P L T) _ T.fl .any)
        (do let d ← Deferred.ofValue (({fr with todo:= .inRangeFunc lp::k,defers:=mark++fr.defers}:Frame).eval f) ((#[.const (.func (.yield lp) #[] #[])]:Array Operand).map ({fr with todo:= .inRangeFunc lp::k,defers:=mark++fr.defers}:Frame).eval);invoke d.target d.args)
        (do let d ← Deferred.ofValue (({fr with todo:= .inRangeFunc lp::k,defers:=mark++fr.defers}:Frame).eval f) ((#[.const (.func (.yield lp) #[] #[])]:Array Operand).map ({fr with todo:= .inRangeFunc lp::k,defers:=mark++fr.defers}:Frame).eval);invoke d.target d.args)
       rw [map_one]
       exact this
      ·rw [e];exact .inr (.inl ⟨_,_,_,rfl⟩)
     |refuse y=>simp only [stepG.exec,ek];exact .inr (.inl ⟨_,_,_,rfl⟩)
     |_=>cases hc
 ·have e1:stepG P m {frame:=fr,callers:=cs++B,status:= .running,dying:=none} w=unwind P m fr (cs++B) none w:=by simp only [stepG,hret]
  rw [e1]
  have hdf:=hfr.defers
  generalize ek:fr.defers=k at hdf
  cases k with
  |nil=>
   obtain ⟨fn,c,h1,_,h2,_,hres⟩:=K.body fr.fn hfr.let_ hfr.np
   rw [unwind_results ek hret h1]
   refine Cls.after ?_ _
   rcases h.sem .own (R:=fun σ=>CR L σ (L.res fr.fn)) (p:=results fn fr.tmps) (fun N hN=>R_results (h.fitx N _).toTriOk (Tri.ext_flat h.flat) fn hres (hfr.mono (Tri.le_ext ..)).tmps) with ⟨a,b,w1,es,e,_⟩|⟨hh,w1,es,e,_⟩
   ·rw [e];exact h.backed (hlast hret ek) a w1
   ·rw [e];cases hh<;> exact .inr (.inl ⟨_,_,_,rfl⟩)
  |cons d ks=>
   cases hdf with
   |cons hi _=>
    cases hi with
    |@collected r s hrs=>
     rw [unwind_mark ek]
     refine Cls.after ?_ _
     rcases h.sem .own (R:=fun _ a b=>a= []∧b= []) (p:=Instr.takeDeferred r) (fun N hN=>R_takeDeferred ((Tri.le_ext ..).lp _ _ hrs)) with ⟨a,b,w1,es,e,_⟩|⟨hh,w1,es,e,_⟩
     ·rw [e];exact .inl ⟨_,_,_,rfl,rfl,rfl,hfr.notPanic,hfr.kind.1⟩
     ·rw [e];exact .inr (.inl ⟨_,_,_,rfl⟩)
theorem take_run (r:Nat) (w:World) (hd:DefOk w):(∃w1 es,(Instr.takeDeferred r).runT P w #[]=(.ok [] w1,es)∧DefOk w1)∨(∃hh w1 es,(Instr.takeDeferred r).runT P w #[]=(.halt hh w1,es)):=by
 have e: ∀o,w.heap[r]? =some o→(∀c el f,o≠.cells c el f)→(Instr.takeDeferred r).runT P w #[]=
   ((match o with| .deferred (some ds)=>(do setObj r (.deferred none);pure ds:Sem (List Deferred))|_=>stuck "range over a function: the deferred calls have been taken")).runT P w (#[].push ⟨.obj r,false,o.isChan⟩):=by
  intro o ho hne
  unfold Instr.takeDeferred
  show (Sem.getObj r _).runT P w #[]=_
  rw [Sem.runT,ho]
  cases o with
  |cells c el f=>exact absurd rfl (hne _ _ _)
  |deferred d=>cases d<;> rfl
  |_=>rfl
 cases ho:w.heap[r]? with
 |none=>
  refine .inr ⟨.stuck "getObj: no such block",w,#[],?_⟩
  unfold Instr.takeDeferred
  show (Sem.getObj r _).runT P w #[]=_
  rw [Sem.runT,ho]
 |some o=>
  cases o with
  |cells c el f=>
   refine .inr ⟨.stuck "getObj: a row of cells",w,#[],?_⟩
   unfold Instr.takeDeferred
   show (Sem.getObj r _).runT P w #[]=_
   rw [Sem.runT,ho]
  |deferred d=>
   rw [e _ ho (by simp)]
   rcases hd r d ho with rfl|rfl
   ·exact .inr ⟨_,_,_,rfl⟩
   ·refine .inl ⟨{w with heap:=w.heap.setIfInBounds r (.deferred none)},(#[].push ⟨.obj r,false,false⟩).push ⟨.obj r,true,false⟩,?_,?_⟩
    ·show (Sem.setObj r (.deferred none) _).runT P w _=_
     rw [Sem.runT,ho]
     rfl
    ·intro r' d' hd'
     rw [set_eq_modify] at hd'
     exact hd.modify (r:=r) (f:=fun _=> .deferred none) (fun _ _ _ e=>by cases e;exact .inl rfl) r' d' hd'
  |_=>rw [e _ ho (by simp)];exact .inr ⟨_,_,_,rfl⟩
theorem panics (A:Asked P L T): ∀(n:Nat) (fr:Frame) (cs:List Frame) (w:World) (ch:List PanicEntry),fr.mode= .panicking ch→FOk L.fn fr→(∀c∈cs,FOk L.fn c)→DefOk w→
  ∀mm,runN P n (lone fr (cs++ [wall]) w)= .next mm→∃g,mm.gs[0]? =some g∧∃ch,g.frame.mode= .panicking ch
 |0,fr,cs,w,ch,hm,_,_,_,mm,e=>by
  simp only [runN,Stepped.next.injEq] at e
  subst e
  exact ⟨_,rfl,ch,hm⟩
 |n+1,fr,cs,w,ch,hm,hf,hc,hd,mm,e=>by
  have e1:stepG P true {frame:=fr,callers:=cs++ [wall],status:= .running,dying:=none} w=unwind P true fr (cs++ [wall]) none w:=by simp only [stepG,hm]
  obtain ⟨fn,c,h1,_⟩:=A.stat.let_.body fr.fn hf.1 (fun e=>A.np (e ▸ hf.1))
  have hcat:fr.catches P=false:=by simp only [Frame.catches,h1]
  cases hdf:fr.defers with
  |cons d ks=>
   obtain ⟨r,rfl⟩:=hf.2 d (by rw [hdf];simp)
   rw [unwind_mark hdf] at e1
   rcases take_run (P:=P) r w hd with ⟨w1,es,ht,hd1⟩|⟨hh,w1,es,ht⟩
   ·rw [ht] at e1
    have hst:step P (lone fr (cs++ [wall]) w)= .next (lone {fr with defers:=ks} (cs++ [wall]) w1):=step_lone_go (by rw [e1];rfl)
    simp only [runN,hst] at e
    exact panics A n {fr with defers:=ks} cs w1 ch hm ⟨hf.1,fun d hd=>hf.2 d (by rw [hdf];exact List.mem_cons_of_mem _ hd)⟩ hc hd1 mm e
   ·rw [ht] at e1
    have hst: ∃o,step P (lone fr (cs++ [wall]) w)= .ended o w1:=⟨_,step_lone_ended (by rw [e1];rfl)⟩
    obtain ⟨o,hst⟩:=hst
    simp only [runN,hst] at e
    cases e
  |nil=>
   cases cs with
   |cons c cs=>
    have e2:unwind P true fr ((c::cs)++ [wall]) none w= .go {frame:=c.raise ch,callers:=cs++ [wall],status:= .running,dying:=none} w:=by
     simp only [unwind,hdf,hm,hcat,Bool.false_eq_true,if_false,List.cons_append]
    have hst:step P (lone fr ((c::cs)++ [wall]) w)= .next (lone (c.raise ch) (cs++ [wall]) w):=step_lone_go (by rw [e1,e2];rfl)
    simp only [runN,hst] at e
    obtain ⟨ch',hm'⟩:=raise_mode c ch
    exact panics A n (c.raise ch) cs w ch' hm' (raise_fok (hc c (by simp)) _) (fun x hx=>hc x (List.mem_cons_of_mem _ hx)) hd mm e
   |nil=>
    have e2:unwind P true fr ([]++ [wall]) none w= .go {frame:=wall.raise ch,callers:=[],status:= .running,dying:=none} w:=by
     simp only [unwind,hdf,hm,hcat,Bool.false_eq_true,if_false,List.nil_append]
    have hst:step P (lone fr ([]++ [wall]) w)= .next (lone (wall.raise ch) [] w):=step_lone_go (by rw [e1,e2];rfl)
    simp only [runN,hst] at e
    obtain ⟨ch',hm'⟩:=raise_mode wall ch
    cases n with
    |zero=>
     simp only [runN,Stepped.next.injEq] at e
     subst e
     exact ⟨_,rfl,ch',hm'⟩
    |succ n=>
     have hst2: ∃o,step P (lone (wall.raise ch) [] w)= .ended o w:=by
      have hdw:(wall.raise ch).defers= [{target:= .nil,args:=#[]}]:=rfl
      refine ⟨.unsupported (.noEntry "machine/Return: a deferred call of a nil function value, made while the frame is unwinding") ((wall.raise ch).pos P),step_lone_ended ?_⟩
      simp only [stepG,hm',unwind,hdw,callDeferred]
      rfl
     obtain ⟨o,hst2⟩:=hst2
     simp only [runN,hst2] at e
     cases e
end
end Go.Proofs.YtldmcdeibiclkaaGreatDoor.U
end
