/-
  Toward: treed_holds, each node's digest is that of its children's, for every argument of Treed. A GOROUTINE's STEP, SIDE BY SIDE: the whole.
  THE TREE OF A GOROUTINE'S RUN: on whatever answers, it goes on to a goal.
-/
import Derived.Test.YtldmcdeibiclkaaGreatDoorC09
set_option linter.unusedVariables false
set_option linter.unusedSimpArgs false
set_option maxRecDepth 4000
section
namespace Go.Proofs.YtldmcdeibiclkaaGreatDoor.U
open Go.Conc
section
variable {P:Program} {G:Array Func} {L:Lim} {T:Tab} {τ:Tri} {k₀:Kd} {N:Nat} {B D:List Frame}
def kdOf (L:Lim) (fr:Frame):Kd:=
 match fr.mode,fr.todo with
 | .run,.code (.rangeFunc ..)::_=> .lp
 | .run,.inRegion ops (i::_)::_=>(match ops[i]? with|some o=>kdOp (dstCol L fr.fn o) o.op|none=> .own)
 |_,_=> .own
theorem Res.back (hb:TriOk τ) (hfl:Flat T τ) {m m':Bool} {fr gr:Frame} (hfr:FrR P L T τ fr gr) {c:Col} {cs ds:List Frame} (hcs:ChR P L T τ c cs ds) (hne:cs≠[]) (hbot:BotOk fr cs) {x y:Value} (hx:CR L τ c x y) (w1 v1:World):
  ∃g1 h1,doReturn (gp P G) m fr (cs++B) none x w1= .go g1 w1∧doReturn P m' gr (ds++D) none y v1= .go h1 v1∧GR P G L T τ B D g1 h1:=by
 cases hcs with
 |nil=>exact absurd rfl hne
 |@cons _ c d cs ds hc hfin hcs=>
  refine ⟨{frame:=c.finish x,callers:=cs++B,status:= .running,dying:=none},{frame:=d.finish y,callers:=ds++D,status:= .running,dying:=none},?_,?_,?_⟩
  ·simp only [List.cons_append,doReturn,hfr.kind.1]
  ·simp only [List.cons_append,doReturn,hfr.kind.2]
  ·exact ⟨.run (hc.finish hb hfl hfin hx),⟨rfl,rfl⟩,⟨rfl,rfl⟩,⟨rfl,rfl⟩,cs,ds,rfl,rfl,by rw [finish_retCol];exact hcs,BotOk.same hbot (finish_roundOf _ _)⟩
theorem FrR.let' {fr gr:Frame} (h:FrR P L T τ fr gr):L.fn gr.fn:=h.fn ▸ h.let_
theorem bot_ne {fr:Frame} {cs:List Frame} {l:Nat} (h:BotOk fr cs) (e:fr.roundOf=some l):cs≠[]:=by
 rintro rfl
 rw [show fr.roundOf=none from h] at e
 cases e
def isRet (jump:Option Code):Bool:=jump matches none|some .ret
def leaveG (P:Program) (m:Bool) (fr:Frame) (cs:List Frame) (w:World) (jump:Option Code):Option Nat→GStep
 |none=>if isRet jump=true then .go {frame:={fr with mode:= .returning},callers:=cs,status:= .running,dying:=none} w else .ended (.stuck "exit, goto: no such block or label" (fr.pos P)) w
 |some l=>
  GStep.after (seen P fr.fn ((Instr.endRound l jump).runT P w #[]).2)<|match ((Instr.endRound l jump).runT P w #[]).1 with
  | .ok x w=>doReturn P m fr cs none x w
  | .halt _ w=> .ended (.stuck "range over a function: no such loop" (fr.pos P)) w
def endLoopK (P:Program) (fr:Frame) (cs:List Frame) (k:List Item):Result (Option Code)→GStep
 | .ok jump w=> .go {frame:={fr with todo:=(jump.map Item.code).toList++k},callers:=cs,status:= .running,dying:=none} w
 | .halt (.panic v) w=> .go {frame:=fr.raise [{v,recovered:=false}],callers:=cs,status:= .running,dying:=none} w
 | .halt _ w=> .ended (.stuck "range over a function: no such loop" (fr.pos P)) w
def resultsK (P:Program) (m:Bool) (fr:Frame) (cs:List Frame):Result Value→GStep
 | .ok v w=>doReturn P m fr cs none v w
 | .halt (.stuck s) w=> .ended (.stuck s (fr.pos P)) w
 | .halt _ w=> .ended (.stuck "return: the result variables cannot be read" (fr.pos P)) w
def takenK (P:Program) (fr:Frame) (cs:List Frame) (ds:List Deferred):Result (List Deferred)→GStep
 | .ok calls w=> .go {frame:={fr with defers:=calls++ds},callers:=cs,status:= .running,dying:=none} w
 | .halt _ w=> .ended (.stuck "the deferred calls of a range-over-func loop have been taken" (fr.pos P)) w
section eqs
variable {m:Bool} {fr:Frame} {cs:List Frame} {w:World} {k:List Item}
theorem exec_nil (h:fr.todo= []):stepG.exec P m true fr cs none w=leaveG P m fr cs w none fr.roundOf:=by
 obtain ⟨fn,tmps,todo,defers,mode,kind,ro⟩:=fr
 simp only at h;subst h
 cases ro<;> rfl
theorem exec_ret (h:fr.todo= .code .ret::k):stepG.exec P m true fr cs none w=leaveG P m fr cs w (some .ret) fr.roundOf:=by
 obtain ⟨fn,tmps,todo,defers,mode,kind,ro⟩:=fr
 simp only at h;subst h
 cases ro<;> rfl
theorem exec_exit {id:Nat} (h:fr.todo= .code (.exit id)::k) (he:exitTo id k=none):stepG.exec P m true fr cs none w=leaveG P m fr cs w (some (.exit id)) fr.roundOf:=by
 obtain ⟨fn,tmps,todo,defers,mode,kind,ro⟩:=fr
 simp only at h;subst h
 simp only [stepG.exec,he,Option.elim]
 cases ro<;> rfl
theorem exec_endRange {l:Nat} (h:fr.todo= .endRangeFunc l::k):stepG.exec P m true fr cs none w=
  GStep.after (seen P fr.fn ((Instr.endLoop l).runT P w #[]).2) (endLoopK P fr cs k ((Instr.endLoop l).runT P w #[]).1):=by
 obtain ⟨fn,tmps,todo,defers,mode,kind,ro⟩:=fr
 simp only at h;subst h
 simp only [stepG.exec]
 congr 1
theorem exec_region {id:Nat} {ops:Array Oper} (h:fr.todo= .code (.region id ops false)::k):stepG.exec P m true fr cs none w= .go {frame:={fr with todo:= .inRegion ops (List.range ops.size)::k},callers:=cs,status:= .running,dying:=none} w:=by
 obtain ⟨fn,tmps,todo,defers,mode,kind,ro⟩:=fr
 simp only at h;subst h
 simp [stepG.exec]
theorem exec_draw {id:Nat} {ops:Array Oper} (h:fr.todo= .code (.region id ops true)::k):stepG.exec P m true fr cs none w= .go {frame:={fr with todo:= .inRegion ops (Region.schedule (P.follows .mixedOrders) ops (w.tape w.drawn (.order fr.fn id)))::k},callers:=cs,status:= .running,dying:=none} {w with drawn:=w.drawn+1}:=by
 obtain ⟨fn,tmps,todo,defers,mode,kind,ro⟩:=fr
 simp only at h;subst h
 simp [stepG.exec,choose,Sem.run,Question.forced,Question.cut]
theorem exec_oper {ops:Array Oper} {i:Nat} {rest:List Nat} (h:fr.todo= .inRegion ops (i::rest)::k):stepG.exec P m true fr cs none w=
  if ((ops[i]?).map (Region.wanted · (yielded ops fr.tmps))).getD false then stepG.oper P true fr cs none w else .go {frame:=fr.finish undef,callers:=cs,status:= .running,dying:=none} w:=by
 obtain ⟨fn,tmps,todo,defers,mode,kind,ro⟩:=fr
 simp only at h;subst h
 simp only [stepG.exec]
theorem exec_range {f:Operand} {ps:Array Tmp} {x y:Code} (h:fr.todo= .code (.rangeFunc f ps x y)::k):stepG.exec P m true fr cs none w=
  GStep.after (seen P fr.fn ((Instr.enterLoop fr.fn fr.tmps ps x y fr.roundOf).runT P w #[]).2) (match ((Instr.enterLoop fr.fn fr.tmps ps x y fr.roundOf).runT P w #[]).1 with
   | .ok (l,mark) w=>
    stepG.apply P true {fr with todo:= .inRangeFunc l::k,defers:=mark++fr.defers} cs none
     (do let d ← resolve ({fr with todo:= .inRangeFunc l::k,defers:=mark++fr.defers}:Frame).eval {callee:= .value f,args:=#[.const (.func (.yield l) #[] #[])],argTypes:=#[]} 0;invoke d.target d.args) w
   | .halt _ w=> .ended (.stuck "range over a function: no such loop" (fr.pos P)) w):=by
 obtain ⟨fn,tmps,todo,defers,mode,kind,ro⟩:=fr
 simp only at h;subst h
 simp only [stepG.exec]
 rfl
theorem unwind_results {fn:Func} (h:fr.defers= []) (hm:fr.mode= .returning) (hf:P.funcs[fr.fn]? =some fn):unwind P m fr cs none w=GStep.after (seen P fr.fn ((results fn fr.tmps).runT P w #[]).2) (resultsK P m fr cs ((results fn fr.tmps).runT P w #[]).1):=by
 simp only [unwind,h,hm,hf]
 congr 1
theorem unwind_mark {r:Nat} {ks:List Deferred} (h:fr.defers= {target:= .collected r,args:=#[]}::ks):unwind P m fr cs none w=GStep.after (seen P fr.fn ((Instr.takeDeferred r).runT P w #[]).2) (takenK P fr cs ks ((Instr.takeDeferred r).runT P w #[]).1):=by
 simp only [unwind,h]
 congr 1
theorem oper_eq {Q:Program} {f:FuncId} {c:Col} {o:Oper} (h:fr.oper? =some o) (hok:okOp P L T f c o.op=true):stepG.oper Q true fr cs none w=stepG.apply Q true fr cs none (execOp fr.eval o) w:=by
 unfold stepG.oper
 rw [h]
 dsimp only
 split
 ·rename_i hop
  rw [hop] at hok
  cases hok
 ·rfl
end eqs
theorem sim_step (E:Env P L τ) (K:Let P G L T) (hfl:Flat T τ) (hd: ∀r s,τ.un r s→r< N) {w v:World} {fr gr:Frame} (hk₀:k₀=kdOf L fr) (hs:Sync L (CC P L T) τ k₀ N w v) (m m':Bool) (hfr:FrR P L T τ fr gr) {cs ds:List Frame} (hcs:ChR P L T τ (retCol L fr) cs ds) (hbot:BotOk fr cs)
  (hlast:fr.mode= .returning→fr.defers= []→cs≠[]):
  Res P G L T τ k₀ N B D w v (stepG (gp P G) m {frame:=fr,callers:=cs++B,status:= .running,dying:=none} w) (stepG P m' {frame:=gr,callers:=ds++D,status:= .running,dying:=none} v):=by
 have hb:=E.bi
 have hbt:=hb.toTriOk
 have go: ∀{k l:List Item},L2 (ItemR P L T τ fr.fn) k l→Res P G L T τ k₀ N B D w v (.go {frame:={fr with todo:=k},callers:=cs++B,status:= .running,dying:=none} w) (.go {frame:={gr with todo:=l},callers:=ds++D,status:= .running,dying:=none} v):=
  fun hk=>Res.go hs ⟨.run (hfr.to hk),⟨rfl,rfl⟩,⟨rfl,rfl⟩,⟨rfl,rfl⟩,cs,ds,rfl,rfl,hcs,hbot.same rfl⟩
 rcases hfr.run with hrun|⟨hret,hro⟩
 ·
  have hrun':gr.mode= .run:=hfr.mode.trans hrun
  have e1:stepG (gp P G) m {frame:=fr,callers:=cs++B,status:= .running,dying:=none} w=stepG.exec (gp P G) m true fr (cs++B) none w:=by simp only [stepG,hrun]
  have e2:stepG P m' {frame:=gr,callers:=ds++D,status:= .running,dying:=none} v=stepG.exec P m' true gr (ds++D) none v:=by simp only [stepG,hrun']
  rw [e1,e2]
  have leave: ∀(jump:Option Code),(∀c,jump=some c→Jump c)→Res P G L T τ k₀ N B D w v (leaveG (gp P G) m fr (cs++B) w jump fr.roundOf) (leaveG P m' gr (ds++D) v jump gr.roundOf):=by
   intro jump hj
   have hr:=hfr.round
   rcases h1:fr.roundOf with _|l
   ·rcases h2:gr.roundOf with _|l'
    ·unfold leaveG
     by_cases hjm:isRet jump=true
     ·simp only [hjm,if_true]
      exact Res.go hs ⟨.run (hfr.leave h1),⟨rfl,rfl⟩,⟨rfl,rfl⟩,⟨rfl,rfl⟩,cs,ds,rfl,rfl,hcs,hbot.same rfl⟩
     ·simp only [hjm,Bool.false_eq_true,if_false]
      exact Res.ended
    ·rw [h1,h2] at hr;exact hr.elim
   ·rcases h2:gr.roundOf with _|l'
    ·rw [h1,h2] at hr;exact hr.elim
    ·rw [h1,h2] at hr
     unfold leaveG
     have:=Res.sem (B:=B) (D:=D) K hb hd hs (R_endRound (P:=P) (G:=G) (L:=L) (T:=T) hr hj) hfr.let_ hfr.let'
      (k:=fun r=>match r with| .ok x w=>doReturn (gp P G) m fr (cs++B) none x w| .halt _ w=> .ended (.stuck "range over a function: no such loop" (fr.pos (gp P G))) w)
      (l:=fun r=>match r with| .ok x w=>doReturn P m' gr (ds++D) none x w| .halt _ w=> .ended (.stuck "range over a function: no such loop" (gr.pos P)) w)
      (fun _ _ _ _ _ e=>by cases e)
      (fun a w1 g1 w2 es e=>by
       obtain ⟨c,cs',rfl⟩: ∃c cs',cs=c::cs':=by
        cases cs with
        |nil=>exact absurd rfl (bot_ne hbot h1)
        |cons c cs'=>exact ⟨c,cs',rfl⟩
       simp only [List.cons_append,doReturn,hfr.kind.1,GStep.go.injEq] at e
       exact ⟨e.2.1.symm,e.2.2.symm⟩)
      (fun a b w1 v1 hab g1 e _=>by
       obtain ⟨g2,h2,e1,e2,hG⟩:=Res.back (G:=G) (B:=B) (D:=D) (m:=m) (m':=m') hbt hfl hfr hcs (bot_ne hbot h1) hbot (show CR L τ (retCol L fr) a b by unfold retCol;rw [h1];exact hab) w1 v1
       dsimp only at e
       rw [e1] at e
       cases e
       exact ⟨h2,e2,hG⟩)
     exact this
  have ht:=hfr.todo
  generalize ek:fr.todo=k at ht
  generalize el:gr.todo=l at ht
  cases ht with
  |nil=>
   rw [exec_nil ek,exec_nil el]
   exact leave none (fun c hc=>by cases hc)
  |@cons a b k l hi hk=>
   cases hi with
   |inBlock id=>simp only [stepG.exec,ek,el];exact go hk
   |@inLoop c hc=>simp only [stepG.exec,ek,el];exact go (.cons (.code hc) (.cons (.inLoop hc) hk))
   |beginRound=>
    simp only [stepG.exec,ek,el]
    have hr:=hfr.round
    refine Res.apply K hb hfl hd hs hfr hcs hbot (c:= .any) (fun ops i rest k d h _=>by rw [ek] at h;cases h) ?_
    cases h1:fr.roundOf with
    |none=>exact .doom _ (Doomed.bind' (.stuck _))
    |some l=>
     cases h2:gr.roundOf with
     |none=>rw [h1,h2] at hr;exact hr.elim
     |some l'=>
      rw [h1,h2] at hr
      exact SemR.bind' (R_beginRound hr) fun _ _ _=> .pure .skip
   |@inRangeFunc l m' hl=>
    simp only [stepG.exec,ek,el]
    exact Res.ended
   |@endRangeFunc lp lq hl=>
    rw [exec_endRange ek,exec_endRange el]
    refine Res.sem (B:=B) (D:=D) K hb hd hs (R_endLoop (P:=P) (G:=G) (L:=L) (T:=T) hl) hfr.let_ hfr.let' (k:=endLoopK (gp P G) fr (cs++B) k) (l:=endLoopK P gr (ds++D) l) ?_ ?_ ?_
    ·intro hh w' g1 w1 es e hf
     cases hh with
     |panic x=>
      simp only [endLoopK,GStep.go.injEq] at e
      obtain ⟨rfl,_⟩:=e
      have:=hf.mode
      unfold Frame.raise at this
      split at this<;> exact this _ rfl
     |_=>cases e
    ·intro a w1 g1 w2 es e
     simp only [endLoopK,GStep.go.injEq] at e
     exact ⟨e.2.1.symm,e.2.2.symm⟩
    ·rintro a _ w1 v1 ⟨rfl,hj⟩ g1 e _
     simp only [endLoopK,GStep.go.injEq,and_true] at e
     subst e
     refine ⟨_,rfl,.run (hfr.to ?_),⟨rfl,rfl⟩,⟨rfl,rfl⟩,⟨rfl,rfl⟩,cs,ds,rfl,rfl,hcs,hbot.same rfl⟩
     cases a with
     |none=>exact hk
     |some c=>exact .cons (.code ((hj c rfl).ok _)) hk
   |@inRegion ops todo hops=>
    cases todo with
    |nil=>simp only [stepG.exec,ek,el];exact go hk
    |cons i rest=>
     rw [exec_oper ek,exec_oper el]
     have hy:yielded ops gr.tmps=yielded ops fr.tmps:=funext fun j=>yielded_eq hfr.tmps j
     rw [hy]
     split
     ·rename_i hw
      have o1:fr.oper? =ops[i]? :=by unfold Frame.oper?;rw [ek]
      have o2:gr.oper? =ops[i]? :=by unfold Frame.oper?;rw [el]
      cases ho:ops[i]? with
      |none=>rw [ho] at hw;simp at hw
      |some o=>
       have hok:okOp P L T fr.fn (dstCol L fr.fn o) o.op=true:=Array.all_eq_true'.1 hops o (Array.mem_of_getElem? ho)
       rw [oper_eq (o1.trans ho) hok,oper_eq (o2.trans ho) hok]
       have hkk:k₀=kdOp (dstCol L fr.fn o) o.op:=by rw [hk₀];unfold kdOf;rw [hrun,ek];simp only [ho]
       refine Res.apply K hb hfl hd hs hfr hcs hbot (c:=dstCol L fr.fn o) (fun ops' i' rest' k' d h hdd=>?_) (hkk ▸ R_execOp E K.bodied K.tab hfl ⟨fun _=>rfl,fun _=>rfl⟩ (fun c x hx=>hfr.eval K hbt hfl c x hx) o hok)
       rw [ek] at h
       cases h
       rw [ho] at hdd
       simp only [Option.bind_some] at hdd
       unfold dstCol
       rw [hdd]
       rfl
     ·exact Res.go hs ⟨.run hfr.finishU,⟨rfl,rfl⟩,⟨rfl,rfl⟩,⟨rfl,rfl⟩,cs,ds,rfl,rfl,by rw [finish_retCol];exact hcs,hbot.same (finish_roundOf _ _)⟩
   |@code c hc=>
    cases c with
    |skip=>simp only [stepG.exec,ek,el];exact go hk
    |ret=>rw [exec_ret ek,exec_ret el];exact leave (some .ret) (fun c hc=>by cases hc;exact .inl rfl)
    |seq x y=>
     simp only [okCode,Bool.and_eq_true] at hc
     simp only [stepG.exec,ek,el];exact go (.cons (.code hc.1) (.cons (.code hc.2) hk))
    |cond c x y=>
     simp only [okCode,Bool.and_eq_true] at hc
     simp only [stepG.exec,ek,el]
     have hv:VR L τ.all (fr.eval c) (gr.eval c):=hfr.eval K hbt hfl .any c hc.1.1
     revert hv
     generalize fr.eval c=x1
     generalize gr.eval c=y1
     intro hv
     cases hv with
     |bool b=>
      dsimp only
      refine go (.cons (.code ?_) hk)
      cases b
      ·exact hc.2
      ·exact hc.1.2
     |_=>exact Res.ended
    |block id c=>
     simp only [stepG.exec,ek,el];exact go (.cons (.code hc) (.cons (.inBlock id) hk))
    |loop c=>
     simp only [stepG.exec,ek,el];exact go (.cons (.code hc) (.cons (.inLoop hc) hk))
    |exit id=>
     rcases exitTo_of id hk with ⟨h1,h2⟩|⟨k',l',h1,h2,h3⟩
     ·rw [exec_exit ek h1,exec_exit el h2]
      exact leave (some (.exit id)) (fun c hc=>by cases hc;exact .inr ⟨_,rfl⟩)
     ·simp only [stepG.exec,ek,el,h1,h2,Option.elim]
      exact go h3
    |region id ops draw=>
     cases draw with
     |false=>
      rw [exec_region ek,exec_region el]
      exact go (.cons (.inRegion _ hc) hk)
     |true=>
      rw [exec_draw ek,exec_draw el,hfr.fn]
      intro g1 w1 es e _ _ ht
      simp only [GStep.go.injEq] at e
      obtain ⟨rfl,rfl,rfl⟩:=e
      have htape:v.tape v.drawn (.order fr.fn id)=w.tape w.drawn (.order fr.fn id):=by simpa using ht 0 (.order fr.fn id) (by simp)
      rw [htape]
      have hfr2:FrR P L T τ {fr with todo:= .inRegion ops (Region.schedule (P.follows .mixedOrders) ops (w.tape w.drawn (.order fr.fn id)))::k} {gr with todo:= .inRegion ops (Region.schedule (P.follows .mixedOrders) ops (w.tape w.drawn (.order fr.fn id)))::l}:=hfr.to (.cons (.inRegion _ hc) hk)
      refine ⟨_,_,_,rfl,⟨.run (hfr.fn ▸ hfr2),⟨rfl,rfl⟩,⟨rfl,rfl⟩,⟨rfl,rfl⟩,cs,ds,rfl,rfl,hcs,hbot.same rfl⟩,?_⟩
      exact ⟨⟨hs.held,hs.fut⟩,rfl,Nat.le_refl _,by simp;omega,by simp,rfl,rfl,rfl,rfl,rfl,rfl,fun _ _ _=>rfl,fun _ _ _=>rfl,#[],by simp,by simp,by simp⟩
    |rangeFunc f ps x y=>
     simp only [okCode,Bool.and_eq_true] at hc
     rw [exec_range ek,exec_range el]
     have hkk:k₀= .lp:=by rw [hk₀];unfold kdOf;rw [hrun,ek]
     subst hkk
     intro g1 w1 es e hfi hN ht
     cases hr:(Instr.enterLoop fr.fn fr.tmps ps x y fr.roundOf).runT (gp P G) w #[] with
     |mk r es0=>
      rw [hr] at e
      cases r with
      |halt hh w'=>cases e
      |ok lm w'=>
       obtain ⟨lp,mark⟩:=lm
       dsimp only at e
       generalize ha:stepG.apply (gp P G) true {fr with todo:= .inRangeFunc lp::k,defers:=mark++fr.defers} (cs++B) none
        (do let d ← resolve ({fr with todo:= .inRangeFunc lp::k,defers:=mark++fr.defers}:Frame).eval {callee:= .value f,args:=#[.const (.func (.yield lp) #[] #[])],argTypes:=#[]} 0;invoke d.target d.args) w'=sg at e
       cases sg with
       |go g2 w2 es2=>
        simp only [GStep.after,GStep.go.injEq] at e
        obtain ⟨rfl,rfl,rfl⟩:=e
        obtain ⟨a2,es3,hr2⟩:=apply_ok (Q:=gp P G) (fr:={fr with todo:= .inRangeFunc lp::k,defers:=mark++fr.defers}) K.ahead K.noStep hfr.kind.1 ha hfi
        have hgr:=Sem.runT_growsU (gp P G) _ _ _ hr2
        obtain ⟨⟨lq,mark'⟩,v1,fs1,f1,⟨hl,hm⟩,hB1⟩:=(R_enterLoop (P:=P) (G:=G) (L:=L) (T:=T) hfr ps (fun p hp=>by simpa using Array.all_eq_true'.1 hc.1.1.2 p hp) hc.1.2 hc.2).adequate hb w v #[] #[] (lp,mark) w' es0 hs hr (by omega) (fun j q hj=>ht j q (by omega)) hd
        simp only at hl hm
        have hfr2:FrR P L T τ {fr with todo:= .inRangeFunc lp::k,defers:=mark++fr.defers} {gr with todo:= .inRangeFunc lq::l,defers:=mark'++gr.defers}:=
         ⟨hfr.fn,hfr.let_,hfr.np,hfr.tmps,.cons (.inRangeFunc hl) hk,hm.append hfr.defers,hfr.mode,hfr.run,hfr.kind,hfr.round⟩
        have hsem:SemR P G L (CC P L T) τ .lp (NxR L (CC P L T) τ T.fl .any)
          (do let d ← resolve ({fr with todo:= .inRangeFunc lp::k,defers:=mark++fr.defers}:Frame).eval {callee:= .value f,args:=#[.const (.func (.yield lp) #[] #[])],argTypes:=#[]} 0;invoke d.target d.args)
          (do let d ← resolve ({gr with todo:= .inRangeFunc lq::l,defers:=mark'++gr.defers}:Frame).eval {callee:= .value f,args:=#[.const (.func (.yield lq) #[] #[])],argTypes:=#[]} 0;invoke d.target d.args):=
         by
          have:=R_callItr (P:=P) (G:=G) (C:=CC P L T) (k₀:= .lp) hbt hfl K.bodied K.tab (fl:=T.fl) (c:= .any) (fitsCol_refl _ _) (hfr2.eval K hbt hfl .itr f hc.1.1.1) hl
          show SemR P G L (CC P L T) τ .lp (NxR L (CC P L T) τ T.fl .any)
           (do let d ← Deferred.ofValue (({fr with todo:= .inRangeFunc lp::k,defers:=mark++fr.defers}:Frame).eval f) ((#[.const (.func (.yield lp) #[] #[])]:Array Operand).map ({fr with todo:= .inRangeFunc lp::k,defers:=mark++fr.defers}:Frame).eval);invoke d.target d.args)
           (do let d ← Deferred.ofValue (({gr with todo:= .inRangeFunc lq::l,defers:=mark'++gr.defers}:Frame).eval f) ((#[.const (.func (.yield lq) #[] #[])]:Array Operand).map ({gr with todo:= .inRangeFunc lq::l,defers:=mark'++gr.defers}:Frame).eval);invoke d.target d.args)
          rw [map_one,map_one]
          exact this
        have hdr1:=hB1.drawn
        have hdr2:=hB1.draw
        obtain ⟨h1,v2,fs2,e2,hG,hB2⟩:=Res.apply (B:=B) (D:=D) K hb hfl hd hB1.sync hfr2 hcs (hbot.same rfl) (c:= .any) (fun ops i rest k d h _=>by cases h) hsem g2 w2 es2 ha hfi hN (fun j q hj=>by
         have:=ht (w'.drawn - w.drawn+j) q (by omega)
         rw [hB1.tape,hB1.tape0,show v1.drawn+j=v.drawn+(w'.drawn - w.drawn+j) by omega,show w'.drawn+j=w.drawn+(w'.drawn - w.drawn+j) by omega]
         exact this)
        obtain ⟨zs,z1,z2,z3⟩:=hB1.events
        have hne:=ev_noExtern z3
        have q1:seen (gp P G) fr.fn es0=es0:=seen_eq (K.norace hfr.let_).2 (by rw [z1];simpa using hne.1)
        have q2:seen P gr.fn fs1=fs1:=seen_eq (K.norace hfr.let').1 (by rw [z2];simpa using hne.2)
        refine ⟨h1,v2,fs1++fs2,?_,hG,?_⟩
        ·rw [f1]
         dsimp only
         rw [e2,q2]
         rfl
        ·rw [q1]
         exact hB1.trans (hB2.front es0 fs1)
       |_=>cases e
    |refuse y=>simp only [stepG.exec,ek,el];exact Res.ended
    |_=>cases hc
 ·
  have hret':gr.mode= .returning:=hfr.mode.trans hret
  have e1:stepG (gp P G) m {frame:=fr,callers:=cs++B,status:= .running,dying:=none} w=unwind (gp P G) m fr (cs++B) none w:=by simp only [stepG,hret]
  have e2:stepG P m' {frame:=gr,callers:=ds++D,status:= .running,dying:=none} v=unwind P m' gr (ds++D) none v:=by simp only [stepG,hret']
  rw [e1,e2]
  have hdf:=hfr.defers
  generalize ek:fr.defers=k at hdf
  generalize el:gr.defers=l at hdf
  cases hdf with
  |nil=>
   obtain ⟨fn,c,h1,g1',h2,_,hres⟩:=K.body fr.fn hfr.let_ hfr.np
   have hkk:k₀= .own:=by rw [hk₀];unfold kdOf;rw [hret]
   subst hkk
   have h1':P.funcs[gr.fn]? =some fn:=by rw [hfr.fn];exact h1
   rw [unwind_results (P:=gp P G) ek hret g1',unwind_results el hret' h1']
   have hne:=hlast hret ek
   refine Res.sem (B:=B) (D:=D) K hb hd hs (R_results (P:=P) (G:=G) (L:=L) (T:=T) hbt hfl fn hres hfr.tmps) hfr.let_ hfr.let' (k:=resultsK (gp P G) m fr (cs++B)) (l:=resultsK P m' gr (ds++D)) ?_ ?_ ?_
   ·intro hh w' g1 w1 es e _
    cases hh<;> cases e
   ·intro a w1 g1 w2 es e
    obtain ⟨c,cs',rfl⟩: ∃c cs',cs=c::cs':=by
     cases cs with
     |nil=>exact absurd rfl hne
     |cons c cs'=>exact ⟨c,cs',rfl⟩
    simp only [resultsK,List.cons_append,doReturn,hfr.kind.1,GStep.go.injEq] at e
    exact ⟨e.2.1.symm,e.2.2.symm⟩
   ·intro a b w1 v1 hab g1 e _
    obtain ⟨g2,h2,e1,e2,hG⟩:=Res.back (G:=G) (B:=B) (D:=D) (m:=m) (m':=m') hbt hfl hfr hcs hne hbot (show CR L τ (retCol L fr) a b by unfold retCol;rw [hro];exact hab) w1 v1
    simp only [resultsK] at e
    rw [e1] at e
    cases e
    exact ⟨h2,e2,hG⟩
  |@cons a b k l hi hk=>
   cases hi with
   |@collected r s hrs=>
    rw [unwind_mark ek,unwind_mark el]
    refine Res.sem (B:=B) (D:=D) K hb hd hs (R_takeDeferred (P:=P) (G:=G) (L:=L) (T:=T) hrs) hfr.let_ hfr.let' (k:=takenK (gp P G) fr (cs++B) k) (l:=takenK P gr (ds++D) l) ?_ ?_ ?_
    ·intro hh w' g1 w1 es e _
     cases e
    ·intro a w1 g1 w2 es e
     simp only [takenK,GStep.go.injEq] at e
     exact ⟨e.2.1.symm,e.2.2.symm⟩
    ·rintro _ _ w1 v1 ⟨rfl,rfl⟩ g1 e _
     simp only [takenK,GStep.go.injEq,and_true,List.nil_append] at e
     subst e
     exact ⟨_,rfl,.run ⟨hfr.fn,hfr.let_,hfr.np,hfr.tmps,hfr.todo,hk,hfr.mode,hfr.run,hfr.kind,hfr.round⟩,⟨rfl,rfl⟩,⟨rfl,rfl⟩,⟨rfl,rfl⟩,cs,ds,rfl,rfl,hcs,hbot.same rfl⟩
end
end Go.Proofs.YtldmcdeibiclkaaGreatDoor.U
end
section
namespace Go.Proofs.YtldmcdeibiclkaaGreatDoor.U
open Go.Conc
def wall:Frame:={fn:=0,tmps:=#[],todo:=[.code (.refuse "")],defers:=[{target:= .nil,args:=#[]}],mode:= .run,kind:= .normal}
inductive Safe (P:Program) (Goal:Frame→List Frame→World→Prop):Frame→List Frame→World→Prop
 |goal {fr:Frame} {cs:List Frame} {w:World}:Goal fr cs w→Safe P Goal fr cs w
 |step {fr:Frame} {cs:List Frame} {w:World} (f:(Nat→Question→Nat)→Frame) (c:(Nat→Question→Nat)→List Frame) (u:(Nat→Question→Nat)→World) (es:(Nat→Question→Nat)→Array Event):
   ¬ Goal fr cs w→¬ (fr.mode= .returning∧fr.defers= []∧cs= [])→
   (∀t,stepG P true {frame:=fr,callers:=cs++ [wall],status:= .running,dying:=none} {w with tape:=t}= .go {frame:=f t,callers:=c t++ [wall],status:= .running,dying:=none} (u t) (es t))→
   (∀t,Fine {frame:=f t,callers:=c t++ [wall],status:= .running,dying:=none})→
   (∀t,Safe P Goal (f t) (c t) (u t))→Safe P Goal fr cs w
def GoalOf (P:Program) (f:FuncId) (Φ:Value→World→Prop) (fr:Frame) (cs:List Frame) (w:World):Prop:=
 cs= []∧fr.fn=f∧fr.mode= .returning∧fr.defers= []∧∃fn v,P.funcs[f]? =some fn∧(∃t:Nat→Question→Nat,(results fn fr.tmps).run P {w with tape:=t}= .ok v {w with tape:=t})∧Φ v w
end Go.Proofs.YtldmcdeibiclkaaGreatDoor.U
end
