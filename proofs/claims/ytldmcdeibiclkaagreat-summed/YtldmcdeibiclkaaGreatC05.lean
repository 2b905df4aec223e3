/-
  Toward summed_holds: A GOROUTINE's STEP, SIDE BY SIDE: loops over functions; results.
-/
import Derived.Test.YtldmcdeibiclkaaGreatC04
set_option linter.unusedVariables false
set_option linter.unusedSimpArgs false
set_option maxRecDepth 100000
set_option maxHeartbeats 20000000
namespace Go.Proofs.YtldmcdeibiclkaaGreat.U
variable {gr:Frame}{l r id s i:Nat}{f:FuncId}{ops:Array Oper}{o q:Obj}{x:Value}{fn:Func}{v:World}{e:Event}{g h:Goroutine}
section
open Go.Conc
section
variable {P:Program}{G:Array Func}{L:au}{T:aO}{τ:ah}{k₀:Kd}{N:Nat}{B D:List Frame}
theorem L2.append{α β:Type}{R:α->β->Prop}{Qw cs:List α}{bs ds:List β}(h:L2 R Qw bs)(k:L2 R cs ds):L2 R (Qw++cs) (bs++ds):=by
 induction h with
 |nil=>exact k
 |cons h _ ih=>exact .cons h ih
theorem wG(id:Nat):∀{k l:List Item},L2 (dO P L T τ f) k l->(exitTo id k=none/\exitTo id l=none)\/∃k' l',exitTo id k=some k'/\exitTo id l=some l'/\L2 (dO P L T τ f) k' l'
 |[],_,.nil=>.inl ⟨rfl,rfl⟩
 |_::_,_::_,.cons hi hk=>by
  have ih:=wG id hk;cases hi with
  |inBlock id'=>
   simp only[exitTo];split
   ·exact .inr ⟨_,_,rfl,rfl,hk⟩
   ·exact ih
  |_=>exact ih
theorem Jump.ok{c:Code}(h:Jump c)(f:FuncId):cL P L T f c=true:=by
 rcases h with rfl|⟨id,rfl⟩<;>rfl
theorem zn(h:ed L (CC P L T) τ o q):ae P G L (CC P L T) τ .lp τ.lp (newObj o) (newObj q):=.lN rfl h λ_ _ hr=>.pure hr
theorem An{fr:Frame}(h:bl P L T τ fr gr)(ps:Array Tmp)(hps:∀p∈ps,L.bO fr.fn p=.any){a b:Code}(ha:cL P L T fr.fn a=true)(hb:cL P L T fr.fn b=true):
  ae P G L (CC P L T) τ .lp (λx y=>τ.lp x.1 y.1/\L2 (gm τ) x.2 y.2) (Instr.enterLoop fr.fn fr.tmps ps a b fr.roundOf) (Instr.enterLoop gr.fn gr.tmps ps a b gr.roundOf):=by
 have fin:∀{d e:Nat} {ms ns:List Deferred},τ.lp d e->L2 (gm τ) ms ns->ae P G L (CC P L T) τ .lp (λx y=>τ.lp x.1 y.1/\L2 (gm τ) x.2 y.2)
   (newObj (.loop {state:=.ready,pending:=none,fn:=fr.fn,tmps:=fr.tmps,params:=ps,assign:=a,body:=b,defers:=d}) >>=λl=>pure (l,ms))
   (newObj (.loop {state:=.ready,pending:=none,fn:=gr.fn,tmps:=gr.tmps,params:=ps,assign:=a,body:=b,defers:=e}) >>=λl=>pure (l,ns)):=λhde hm=>
  ae.bind' (zn (.loop rfl rfl h.fn h.tmps rfl rfl rfl hde ⟨ha,h.np⟩ ⟨hb,h.np⟩ (λc hc=>by cases hc) h.br hps)) λr s hr=>.pure ⟨hr,hm⟩
 have hr:=h.round;unfold Instr.enterLoop;cases h1:fr.roundOf with
 |none=>
  cases h2:gr.roundOf with
  |none=>
   refine ae.bind' (zn (.deferred (.inr rfl))) λr s hrs=>?_;exact fin hrs (.cons (.collected hrs) .nil)
  |some m=>rw[h1,h2]at hr;exact hr.elim
 |some l=>
  cases h2:gr.roundOf with
  |none=>rw[h1,h2]at hr;exact hr.elim
  |some m=>
   rw[h1,h2]at hr;refine ae.bind' (o9 hr) λx y hxy=>?_;cases hxy with
   |loop a1 a2 a3 a4 a5 a6 a7 a8=>exact fin a8 .nil
theorem yB{m:Nat}(h:τ.lp l m):ae P G L (CC P L T) τ k₀ (λ_ _=>True) (Instr.beginRound l) (Instr.beginRound m):=by
 unfold Instr.beginRound;refine ae.bind' (o9 h) λx y hxy=>?_;cases hxy with
 |loop a1 a2 a3 a4 a5 a6 a7 a8 a9 a10 a11 a12 a13=>
  refine ae.bind' (pM h (.loop rfl a2 a3 a4 a5 a6 a7 a8 a9 a10 a11 a12 a13)) λ_ _ _=>?_;rw[a1];split
  ·exact .pure trivial
  ·exact .af _ (.runtimePanic _)
  ·exact .af _ (.runtimePanic _)
  ·exact .af _ (.runtimePanic _)
theorem zB{m:Nat}(h:τ.lp l m){jump:Option Code}(hj:∀c,jump=some c->Jump c):ae P G L (CC P L T) τ k₀ (CR L τ .any) (Instr.endRound l jump) (Instr.endRound m jump):=by
 unfold Instr.endRound;refine ae.bind' (o9 h) λx y hxy=>?_;cases hxy with
 |loop a1 a2 a3 a4 a5 a6 a7 a8 a9 a10 a11 a12 a13=>
  refine ae.bind' (pM h (.loop rfl rfl a3 a4 a5 a6 a7 a8 a9 a10 hj a12 a13)) λ_ _ _=>?_;exact .pure (VR.bool _)
theorem BS{m:Nat}(h:τ.lp l m):ae P G L (CC P L T) τ k₀ (λa b=>a=b/\∀c,a=some c->Jump c) (Instr.endLoop l) (Instr.endLoop m):=by
 unfold Instr.endLoop;refine ae.bind' (o9 h) λx y hxy=>?_;cases hxy with
 |loop a1 a2 a3 a4 a5 a6 a7 a8 a9 a10 a11 a12 a13=>
  try dsimp only
  rw[a1];split
  ·exact .af _ (ai.bind' (.runtimePanic _))
  ·refine ae.bind' (pM h (.loop rfl a2 a3 a4 a5 a6 a7 a8 a9 a10 a11 a12 a13)) λ_ _ _=>?_;exact .pure ⟨a2.symm,a11⟩
theorem yO{m:Nat}(h:τ.lp l m):ae P G L (CC P L T) τ k₀ (λa b=>a= []/\b= []) (Instr.takeDeferred l) (Instr.takeDeferred m):=by
 unfold Instr.takeDeferred;refine ae.bind' (Ak h) λo q ho=>?_;cases ho with
 |deferred hd=>
  rcases hd with rfl|rfl
  ·exact .am
  ·refine ae.bind' (pM h (.deferred (.inl rfl))) λ_ _ _=>?_;exact .pure ⟨rfl,rfl⟩
 |_=>exact .am
theorem uF(hb:eh τ)(hfl:Flat T τ)(fn:Func)(hok:iH L T f fn=true){xs ys:Array Value}(h:TR L τ f xs ys):ae P G L (CC P L T) τ .own (CR L τ (L.res f)) (results fn xs) (results fn ys):=by
 have gen:(aU T.fl .any (L.res f)&&fn.results.toList.all λr=>match r with|.tmp t=>aU T.fl (L.bO f t) .any|.cell a _=>aU T.fl (L.bO f a) .any)=true->ae P G L (CC P L T) τ .own (CR L τ (L.res f)) (results fn xs) (results fn ys):=by
  intro hk;simp only[No]at hk;unfold results;refine ae.bind' (yj (R:=λa b=>a=b/\a∈fn.results) (S:=VR L τ.all) (xs:=fn.results) (ys:=fn.results) ?_ (XR.self _ λx hx=>⟨rfl,hx⟩)) λus vs hu=>?_
  ·rintro r _ ⟨rfl,hr⟩;have hr2:=List.all_eq_true.1 hk.2 r (by simpa using hr);cases r with
   |tmp t=>exact .pure (CR.fit hb hfl hr2 (h.getD t))
   |cell a t=>exact ae.bind' (KY (CR.fit (d:=.any) hb hfl hr2 (h.getD a))) λx y hxy=>B7 t hxy
  ·refine .pure (CR.any hb hfl hk.1 ?_);have hsz:=hu.size;by_cases h1:us.size=1
   ·have h2:vs.size=1:=by omega
    simp only[h1,h2,dif_pos];rcases hu.get? 0 with⟨e1,_⟩|⟨x,y,e1,e2,e3⟩
    ·rw[Array.getElem?_eq_none_iff]at e1;omega
    ·rw[Array.getElem?_eq_getElem (by omega)]at e1 e2;cases e1;cases e2;exact e3
   ·have h2: ¬vs.size=1:=by omega
    simp only[h1,h2,dif_neg,not_false_eq_true];exact .pH hu
 unfold iH at hok;split at hok
 ·rename_i t ht;have e:fn.results=#[.tmp t]:=yl ht;unfold results;rw[e];simp only[Array.mapM_eq_foldlM,List.size_toArray,QH,QY];exact .pure (CR.fit hb hfl hok (h.getD t))
 ·exact gen hok
end
end
section
open Go.Conc
section
variable {P:Program}{G:Array Func}{L:au}{T:aO}{τ:ah}{k₀:Kd}{N:Nat}{B D:List Frame}
def fo(L:au)(fr:Frame):Kd:=
 match fr.mode,fr.todo with
 |.run,.code (.rangeFunc ..)::_=>.lp
 |.run,.inRegion ops (i::_)::_=>(match ops[i]? with|some o=>nQ (l6 L fr.fn o) o.op|none=>.own)
 |_,_=>.own
theorem cH.back(hb:eh τ)(hfl:Flat T τ){m m':Bool}{fr:Frame}(hfr:bl P L T τ fr gr){c:bh}{cs ds:List Frame}(hcs:fe P L T τ c cs ds)(hne:cs≠[])(hbot:gJ fr cs){y:Value}(hx:CR L τ c x y)(w1 v1:World):
  ∃g1 h1,doReturn (gp P G) m fr (cs++B) none x w1=.go g1 w1/\doReturn P m' gr (ds++D) none y v1=.go h1 v1/\GR P G L T τ B D g1 h1:=by
 cases hcs with
 |nil=>exact absurd rfl hne
 |@cons _ c d cs ds hc hfin hcs=>
  refine⟨{frame:=c.finish x,callers:=cs++B,status:=.running,dying:=none},{frame:=d.finish y,callers:=ds++D,status:=.running,dying:=none},?_,?_,?_⟩
  ·simp only[Rz,doReturn,hfr.kind.1]
  ·simp only[Rz,doReturn,hfr.kind.2]
  ·exact⟨.run (hc.finish hb hfl hfin hx),⟨rfl,rfl⟩,⟨rfl,rfl⟩,⟨rfl,rfl⟩,cs,ds,rfl,rfl,by rw[o6];exact hcs,gJ.same hbot (nG _ _)⟩
theorem bl.mX{fr:Frame}(h:bl P L T τ fr gr):L.fn gr.fn:=h.fn▸h.br
theorem tO{fr:Frame}{cs:List Frame}(h:gJ fr cs)(e:fr.roundOf=some l):cs≠[]:=by
 rintro rfl;rw[show fr.roundOf=none from h]at e;cases e
def rh(jump:Option Code):Bool:=jump matches none|some .ret
def iI(P:Program)(m:Bool)(fr:Frame)(cs:List Frame)(w:World)(jump:Option Code):Option Nat->GStep
 |none=>if rh jump=true then .go {frame:={fr with mode:=.returning},callers:=cs,status:=.running,dying:=none} w else .ended (.stuck "exit, goto: no such block or label" (fr.pos P)) w
 |some l=>
  GStep.after (seen P fr.fn ((Instr.endRound l jump).runT P w #[]).2)<|match ((Instr.endRound l jump).runT P w #[]).1 with
  |.ok x w=>doReturn P m fr cs none x w
  |.halt _ w=>.ended (.stuck "range over a function: no such loop" (fr.pos P)) w
def mL(P:Program)(fr:Frame)(cs:List Frame)(k:List Item):Result (Option Code)->GStep
 |.ok jump w=>.go {frame:={fr with todo:=(jump.map Item.code).toList++k},callers:=cs,status:=.running,dying:=none} w
 |.halt (.panic v) w=>.go {frame:=fr.raise [{v,recovered:=false}],callers:=cs,status:=.running,dying:=none} w
 |.halt _ w=>.ended (.stuck "range over a function: no such loop" (fr.pos P)) w
def lP(P:Program)(m:Bool)(fr:Frame)(cs:List Frame):Result Value->GStep
 |.ok v w=>doReturn P m fr cs none v w
 |.halt (.stuck s) w=>.ended (.stuck s (fr.pos P)) w
 |.halt _ w=>.ended (.stuck "return: the result variables cannot be read" (fr.pos P)) w
def oz(P:Program)(fr:Frame)(cs:List Frame)(ds:List Deferred):Result (List Deferred)->GStep
 |.ok calls w=>.go {frame:={fr with defers:=calls++ds},callers:=cs,status:=.running,dying:=none} w
 |.halt _ w=>.ended (.stuck "the deferred calls of a range-over-func loop have been taken" (fr.pos P)) w
section eqs
variable {m:Bool}{fr:Frame}{cs:List Frame}{w:World}{k:List Item}
theorem tB(h:fr.todo= []):stepG.exec P m true fr cs none w=iI P m fr cs w none fr.roundOf:=by
 obtain⟨fn,tmps,todo,defers,mode,kind,ro⟩:=fr;simp only at h;subst h;cases ro<;>rfl
theorem uk(h:fr.todo=.code .ret::k):stepG.exec P m true fr cs none w=iI P m fr cs w (some .ret) fr.roundOf:=by
 obtain⟨fn,tmps,todo,defers,mode,kind,ro⟩:=fr;simp only at h;subst h;cases ro<;>rfl
theorem tW(h:fr.todo=.code (.exit id)::k)(he:exitTo id k=none):stepG.exec P m true fr cs none w=iI P m fr cs w (some (.exit id)) fr.roundOf:=by
 obtain⟨fn,tmps,todo,defers,mode,kind,ro⟩:=fr;simp only at h;subst h;simp only[stepG.exec,he,Option.elim];cases ro<;>rfl
theorem sP(h:fr.todo=.endRangeFunc l::k):stepG.exec P m true fr cs none w=
  GStep.after (seen P fr.fn ((Instr.endLoop l).runT P w #[]).2) (mL P fr cs k ((Instr.endLoop l).runT P w #[]).1):=by
 obtain⟨fn,tmps,todo,defers,mode,kind,ro⟩:=fr;simp only at h;subst h;simp only[stepG.exec];congr 1
theorem sx(h:fr.todo=.code (.region id ops false)::k):stepG.exec P m true fr cs none w=.go {frame:={fr with todo:=.inRegion ops (List.range ops.size)::k},callers:=cs,status:=.running,dying:=none} w:=by
 obtain⟨fn,tmps,todo,defers,mode,kind,ro⟩:=fr;simp only at h;subst h;simp[stepG.exec]
theorem tJ(h:fr.todo=.code (.region id ops true)::k):stepG.exec P m true fr cs none w=.go {frame:={fr with todo:=.inRegion ops (Region.schedule (P.follows .mixedOrders) ops (w.tape w.drawn (.order fr.fn id)))::k},callers:=cs,status:=.running,dying:=none} {w with drawn:=w.drawn+1}:=by
 obtain⟨fn,tmps,todo,defers,mode,kind,ro⟩:=fr;simp only at h;subst h;simp[stepG.exec,choose,Sem.run,Question.forced,Question.cut]
theorem sU{rest:List Nat}(h:fr.todo=.inRegion ops (i::rest)::k):stepG.exec P m true fr cs none w=
  if ((ops[i]?).map (Region.wanted · (yielded ops fr.tmps))).getD false then stepG.oper P true fr cs none w else .go {frame:=fr.finish undef,callers:=cs,status:=.running,dying:=none} w:=by
 obtain⟨fn,tmps,todo,defers,mode,kind,ro⟩:=fr;simp only at h;subst h;simp only[stepG.exec]
theorem sK{f:Operand}{ps:Array Tmp}{x y:Code}(h:fr.todo=.code (.rangeFunc f ps x y)::k):stepG.exec P m true fr cs none w=
  GStep.after (seen P fr.fn ((Instr.enterLoop fr.fn fr.tmps ps x y fr.roundOf).runT P w #[]).2) (match ((Instr.enterLoop fr.fn fr.tmps ps x y fr.roundOf).runT P w #[]).1 with
   |.ok (l,mark) w=>
    stepG.apply P true {fr with todo:=.inRangeFunc l::k,defers:=mark++fr.defers} cs none
     (do let d ←resolve ({fr with todo:=.inRangeFunc l::k,defers:=mark++fr.defers}:Frame).eval {callee:=.value f,args:=#[.const (.func (.yield l) #[] #[])],argTypes:=#[]} 0;invoke d.target d.args) w
   |.halt _ w=>.ended (.stuck "range over a function: no such loop" (fr.pos P)) w):=by
 obtain⟨fn,tmps,todo,defers,mode,kind,ro⟩:=fr;simp only at h;subst h;simp only[stepG.exec];rfl
theorem nk(h:fr.defers= [])(hm:fr.mode=.returning)(hf:P.funcs[fr.fn]?=some fn):unwind P m fr cs none w=GStep.after (seen P fr.fn ((results fn fr.tmps).runT P w #[]).2) (lP P m fr cs ((results fn fr.tmps).runT P w #[]).1):=by
 simp only[unwind,h,hm,hf];congr 1
theorem unwind_mark{ks:List Deferred}(h:fr.defers= {target:=.collected r,args:=#[]}::ks):unwind P m fr cs none w=GStep.after (seen P fr.fn ((Instr.takeDeferred r).runT P w #[]).2) (oz P fr cs ks ((Instr.takeDeferred r).runT P w #[]).1):=by
 simp only[unwind,h];congr 1
theorem uf{Q:Program}{c:bh}{o:Oper}(h:fr.oper?=some o)(hok:cj P L T f c o.op=true):stepG.oper Q true fr cs none w=stepG.apply Q true fr cs none (execOp fr.eval o) w:=by
 unfold stepG.oper;rw[h];dsimp only;split
 ·rename_i hop;rw[hop]at hok;cases hok
 ·rfl
end eqs
theorem vT(E:Env P L τ)(K:Let P G L T)(hfl:Flat T τ)(hd:∀r s,τ.un r s->r<N){w:World}{fr:Frame}(hk₀:k₀=fo L fr)(hs:Sync L (CC P L T) τ k₀ N w v)(m m':Bool)(hfr:bl P L T τ fr gr){cs ds:List Frame}(hcs:fe P L T τ (fw L fr) cs ds)(hbot:gJ fr cs)(hlast:fr.mode=.returning->fr.defers= []->cs≠[]):
  cH P G L T τ k₀ N B D w v (stepG (gp P G) m {frame:=fr,callers:=cs++B,status:=.running,dying:=none} w) (stepG P m' {frame:=gr,callers:=ds++D,status:=.running,dying:=none} v):=by
 have hb:=E.bi;have hbt:=hb.toeh;have go:∀{k l:List Item},L2 (dO P L T τ fr.fn) k l->cH P G L T τ k₀ N B D w v (.go {frame:={fr with todo:=k},callers:=cs++B,status:=.running,dying:=none} w) (.go {frame:={gr with todo:=l},callers:=ds++D,status:=.running,dying:=none} v):=
  λhk=>cH.go hs ⟨.run (hfr.to hk),⟨rfl,rfl⟩,⟨rfl,rfl⟩,⟨rfl,rfl⟩,cs,ds,rfl,rfl,hcs,hbot.same rfl⟩
 rcases hfr.run with hrun|⟨hret,hro⟩
 ·
  have hrun':gr.mode=.run:=hfr.mode.trans hrun;have e1:stepG (gp P G) m {frame:=fr,callers:=cs++B,status:=.running,dying:=none} w=stepG.exec (gp P G) m true fr (cs++B) none w:=by simp only[stepG,hrun]
  have e2:stepG P m' {frame:=gr,callers:=ds++D,status:=.running,dying:=none} v=stepG.exec P m' true gr (ds++D) none v:=by simp only[stepG,hrun']
  rw[e1,e2];have leave:∀(jump:Option Code),(∀c,jump=some c->Jump c)->cH P G L T τ k₀ N B D w v (iI (gp P G) m fr (cs++B) w jump fr.roundOf) (iI P m' gr (ds++D) v jump gr.roundOf):=by
   intro jump hj;have hr:=hfr.round;rcases h1:fr.roundOf with _|l
   ·rcases h2:gr.roundOf with _|l'
    ·unfold iI;by_cases hjm:rh jump=true
     ·simp only[hjm,QD];exact cH.go hs ⟨.run (hfr.leave h1),⟨rfl,rfl⟩,⟨rfl,rfl⟩,⟨rfl,rfl⟩,cs,ds,rfl,rfl,hcs,hbot.same rfl⟩
     ·simp only[hjm,QF,QC];exact cH.ended
    ·rw[h1,h2]at hr;exact hr.elim
   ·rcases h2:gr.roundOf with _|l'
    ·rw[h1,h2]at hr;exact hr.elim
    ·rw[h1,h2]at hr;unfold iI
     have:=cH.dh (B:=B) (D:=D) K hb hd hs (zB (P:=P) (G:=G) (L:=L) (T:=T) hr hj) hfr.br hfr.mX
      (k:=λr=>match r with|.ok x w=>doReturn (gp P G) m fr (cs++B) none x w|.halt _ w=>.ended (.stuck "range over a function: no such loop" (fr.pos (gp P G))) w)
      (l:=λr=>match r with|.ok x w=>doReturn P m' gr (ds++D) none x w|.halt _ w=>.ended (.stuck "range over a function: no such loop" (gr.pos P)) w)
      (λ_ _ _ _ _ e=>by cases e)
      (λa w1 g1 w2 es e=>by
       obtain⟨c,cs',rfl⟩: ∃c cs',cs=c::cs':=by
        cases cs with
        |nil=>exact absurd rfl (tO hbot h1)
        |cons c cs'=>exact⟨c,cs',rfl⟩
       simp only[Rz,doReturn,hfr.kind.1,GStep.go.injEq]at e;exact⟨e.2.1.symm,e.2.2.symm⟩)
      (λa b w1 v1 hab g1 e _=>by
       obtain⟨g2,h2,e1,e2,hG⟩:=cH.back (G:=G) (B:=B) (D:=D) (m:=m) (m':=m') hbt hfl hfr hcs (tO hbot h1) hbot (show CR L τ (fw L fr) a b by unfold fw;rw[h1];exact hab) w1 v1;dsimp only at e;rw[e1]at e;cases e;exact⟨h2,e2,hG⟩)
     exact this
  have ht:=hfr.todo;generalize ek:fr.todo=k at ht;generalize el:gr.todo=l at ht;cases ht with
  |nil=>
   rw[tB ek,tB el];exact leave none (λc hc=>by cases hc)
  |@cons a b k l hi hk=>
   cases hi with
   |inBlock id=>simp only[stepG.exec,ek,el];exact go hk
   |@inLoop c hc=>simp only[stepG.exec,ek,el];exact go (.cons (.code hc) (.cons (.inLoop hc) hk))
   |beginRound=>
    simp only[stepG.exec,ek,el];have hr:=hfr.round;refine cH.apply K hb hfl hd hs hfr hcs hbot (c:=.any) (λops i rest k d h _=>by rw[ek]at h;cases h) ?_;cases h1:fr.roundOf with
    |none=>exact .af _ (ai.bind' (.stuck _))
    |some l=>
     cases h2:gr.roundOf with
     |none=>rw[h1,h2]at hr;exact hr.elim
     |some l'=>
      rw[h1,h2]at hr;exact ae.bind' (yB hr) λ_ _ _=>.pure .skip
   |@inRangeFunc l m' hl=>
    simp only[stepG.exec,ek,el];exact cH.ended
   |@endRangeFunc lp lq hl=>
    rw[sP ek,sP el];refine cH.dh (B:=B) (D:=D) K hb hd hs (BS (P:=P) (G:=G) (L:=L) (T:=T) hl) hfr.br hfr.mX (k:=mL (gp P G) fr (cs++B) k) (l:=mL P gr (ds++D) l) ?_ ?_ ?_
    ·intro hh w' g1 w1 es e hf;cases hh with
     |panic x=>
      simp only[mL,GStep.go.injEq]at e;obtain⟨rfl,_⟩:=e
      have:=hf.mode;unfold Frame.raise at this;split at this<;>exact this _ rfl
     |_=>cases e
    ·intro a w1 g1 w2 es e;simp only[mL,GStep.go.injEq]at e;exact⟨e.2.1.symm,e.2.2.symm⟩
    ·rintro a _ w1 v1 ⟨rfl,hj⟩ g1 e _;simp only[mL,GStep.go.injEq,Ri]at e;subst e;refine⟨_,rfl,.run (hfr.to ?_),⟨rfl,rfl⟩,⟨rfl,rfl⟩,⟨rfl,rfl⟩,cs,ds,rfl,rfl,hcs,hbot.same rfl⟩;cases a with
     |none=>exact hk
     |some c=>exact .cons (.code ((hj c rfl).ok _)) hk
   |@inRegion ops todo hops=>
    cases todo with
    |nil=>simp only[stepG.exec,ek,el];exact go hk
    |cons i rest=>
     rw[sU ek,sU el];have hy:yielded ops gr.tmps=yielded ops fr.tmps:=funext λj=>Cz hfr.tmps j;rw[hy];split
     ·rename_i hw;have o1:fr.oper?=ops[i]? :=by unfold Frame.oper?;rw[ek]
      have o2:gr.oper?=ops[i]? :=by unfold Frame.oper?;rw[el]
      cases ho:ops[i]? with
      |none=>rw[ho]at hw;simp at hw
      |some o=>
       have hok:cj P L T fr.fn (l6 L fr.fn o) o.op=true:=Array.all_eq_true'.1 hops o (Array.mem_of_getElem? ho);rw[uf (o1.trans ho) hok,uf (o2.trans ho) hok];have hkk:k₀=nQ (l6 L fr.fn o) o.op:=by rw[hk₀];unfold fo;rw[hrun,ek];simp only[ho]
       refine cH.apply K hb hfl hd hs hfr hcs hbot (c:=l6 L fr.fn o) (λops' i' rest' k' d h hdd=>?_) (hkk▸yM E K.nj K.mW hfl ⟨λ_=>rfl,λ_=>rfl⟩ (λc x hx=>hfr.eval K hbt hfl c x hx) o hok);rw[ek]at h;cases h;rw[ho]at hdd;simp only[RU]at hdd;unfold l6;rw[hdd];rfl
     ·exact cH.go hs ⟨.run hfr.vk,⟨rfl,rfl⟩,⟨rfl,rfl⟩,⟨rfl,rfl⟩,cs,ds,rfl,rfl,by rw[o6];exact hcs,hbot.same (nG _ _)⟩
   |@code c hc=>
    cases c with
    |skip=>simp only[stepG.exec,ek,el];exact go hk
    |ret=>rw[uk ek,uk el];exact leave (some .ret) (λc hc=>by cases hc;exact .inl rfl)
    |seq x y=>
     simp only[cL,No]at hc;simp only[stepG.exec,ek,el];exact go (.cons (.code hc.1) (.cons (.code hc.2) hk))
    |cond c x y=>
     simp only[cL,No]at hc;simp only[stepG.exec,ek,el];have hv:VR L τ.all (fr.eval c) (gr.eval c):=hfr.eval K hbt hfl .any c hc.1.1;revert hv
     generalize fr.eval c=x1;generalize gr.eval c=y1;intro hv;cases hv with
     |bool b=>
      dsimp only;refine go (.cons (.code ?_) hk);cases b
      ·exact hc.2
      ·exact hc.1.2
     |_=>exact cH.ended
    |block id c=>
     simp only[stepG.exec,ek,el];exact go (.cons (.code hc) (.cons (.inBlock id) hk))
    |loop c=>
     simp only[stepG.exec,ek,el];exact go (.cons (.code hc) (.cons (.inLoop hc) hk))
    |exit id=>
     rcases wG id hk with⟨h1,h2⟩|⟨k',l',h1,h2,h3⟩
     ·rw[tW ek h1,tW el h2];exact leave (some (.exit id)) (λc hc=>by cases hc;exact .inr ⟨_,rfl⟩)
     ·simp only[stepG.exec,ek,el,h1,h2,Option.elim];exact go h3
    |region id ops draw=>
     cases draw with
     |false=>
      rw[sx ek,sx el];exact go (.cons (.inRegion _ hc) hk)
     |true=>
      rw[tJ ek,tJ el,hfr.fn];intro g1 w1 es e _ _ ht;simp only[GStep.go.injEq]at e;obtain⟨rfl,rfl,rfl⟩:=e;have htape:v.tape v.drawn (.order fr.fn id)=w.tape w.drawn (.order fr.fn id):=by simpa using ht 0 (.order fr.fn id) (by simp)
      rw[htape];have hfr2:bl P L T τ {fr with todo:=.inRegion ops (Region.schedule (P.follows .mixedOrders) ops (w.tape w.drawn (.order fr.fn id)))::k} {gr with todo:=.inRegion ops (Region.schedule (P.follows .mixedOrders) ops (w.tape w.drawn (.order fr.fn id)))::l}:=hfr.to (.cons (.inRegion _ hc) hk);refine⟨_,_,_,rfl,⟨.run (hfr.fn▸hfr2),⟨rfl,rfl⟩,⟨rfl,rfl⟩,⟨rfl,rfl⟩,cs,ds,rfl,rfl,hcs,hbot.same rfl⟩,?_⟩;exact⟨⟨hs.held,hs.jU⟩,rfl,AI _,by simp;omega,by simp,rfl,rfl,rfl,rfl,rfl,rfl,λ_ _ _=>rfl,λ_ _ _=>rfl,#[],by simp,by simp,by simp⟩
    |rangeFunc f ps x y=>
     simp only[cL,No]at hc;rw[sK ek,sK el];have hkk:k₀=.lp:=by rw[hk₀];unfold fo;rw[hrun,ek]
     subst hkk;intro g1 w1 es e hfi hN ht;cases hr:(Instr.enterLoop fr.fn fr.tmps ps x y fr.roundOf).runT (gp P G) w #[] with
     |mk r es0=>
      rw[hr]at e;cases r with
      |halt hh w'=>cases e
      |ok lm w'=>
       obtain⟨lp,mark⟩:=lm;dsimp only at e;generalize ha:stepG.apply (gp P G) true {fr with todo:=.inRangeFunc lp::k,defers:=mark++fr.defers} (cs++B) none
        (do let d ←resolve ({fr with todo:=.inRangeFunc lp::k,defers:=mark++fr.defers}:Frame).eval {callee:=.value f,args:=#[.const (.func (.yield lp) #[] #[])],argTypes:=#[]} 0;invoke d.target d.args) w'=sg at e
       cases sg with
       |go g2 w2 es2=>
        simp only[GStep.after,GStep.go.injEq]at e;obtain⟨rfl,rfl,rfl⟩:=e;obtain⟨a2,es3,hr2⟩:=sI (Q:=gp P G) (fr:={fr with todo:=.inRangeFunc lp::k,defers:=mark++fr.defers}) K.ahead K.qy hfr.kind.1 ha hfi;have hgr:=Sem.mh (gp P G) _ _ _ hr2;obtain⟨⟨lq,mark'⟩,v1,fs1,f1,⟨hl,hm⟩,hB1⟩:=(An (P:=P) (G:=G) (L:=L) (T:=T) hfr ps (λp hp=>by simpa using Array.all_eq_true'.1 hc.1.1.2 p hp) hc.1.2 hc.2).oJ hb w v #[] #[] (lp,mark) w' es0 hs hr (by omega) (λj q hj=>ht j q (by omega)) hd;simp only at hl hm;have hfr2:bl P L T τ {fr with todo:=.inRangeFunc lp::k,defers:=mark++fr.defers} {gr with todo:=.inRangeFunc lq::l,defers:=mark'++gr.defers}:=
         ⟨hfr.fn,hfr.br,hfr.np,hfr.tmps,.cons (.inRangeFunc hl) hk,hm.append hfr.defers,hfr.mode,hfr.run,hfr.kind,hfr.round⟩
        have hsem:ae P G L (CC P L T) τ .lp (cf L (CC P L T) τ T.fl .any)
          (do let d ←resolve ({fr with todo:=.inRangeFunc lp::k,defers:=mark++fr.defers}:Frame).eval {callee:=.value f,args:=#[.const (.func (.yield lp) #[] #[])],argTypes:=#[]} 0;invoke d.target d.args)
          (do let d ←resolve ({gr with todo:=.inRangeFunc lq::l,defers:=mark'++gr.defers}:Frame).eval {callee:=.value f,args:=#[.const (.func (.yield lq) #[] #[])],argTypes:=#[]} 0;invoke d.target d.args):=
         by
          have:=yy (P:=P) (G:=G) (C:=CC P L T) (k₀:=.lp) hbt hfl K.nj K.mW (fl:=T.fl) (c:=.any) (uh _ _) (hfr2.eval K hbt hfl .cO f hc.1.1.1) hl;show ae P G L (CC P L T) τ .lp (cf L (CC P L T) τ T.fl .any)
           (do let d ←Deferred.ofValue (({fr with todo:=.inRangeFunc lp::k,defers:=mark++fr.defers}:Frame).eval f) ((#[.const (.func (.yield lp) #[] #[])]:Array Operand).map ({fr with todo:=.inRangeFunc lp::k,defers:=mark++fr.defers}:Frame).eval);invoke d.target d.args)
           (do let d ←Deferred.ofValue (({gr with todo:=.inRangeFunc lq::l,defers:=mark'++gr.defers}:Frame).eval f) ((#[.const (.func (.yield lq) #[] #[])]:Array Operand).map ({gr with todo:=.inRangeFunc lq::l,defers:=mark'++gr.defers}:Frame).eval);invoke d.target d.args)
          rw[og,og];exact this
        have hdr1:=hB1.drawn;have hdr2:=hB1.draw;obtain⟨h1,v2,fs2,e2,hG,hB2⟩:=cH.apply (B:=B) (D:=D) K hb hfl hd hB1.sync hfr2 hcs (hbot.same rfl) (c:=.any) (λops i rest k d h _=>by cases h) hsem g2 w2 es2 ha hfi hN (λj q hj=>by
         have:=ht (w'.drawn-w.drawn+j) q (by omega);rw[hB1.tape,hB1.p6,show v1.drawn+j=v.drawn+(w'.drawn-w.drawn+j) by omega,show w'.drawn+j=w.drawn+(w'.drawn-w.drawn+j) by omega];exact this)
        obtain⟨zs,z1,z2,z3⟩:=hB1.events;have hne:=qO z3;have q1:seen (gp P G) fr.fn es0=es0:=seen_eq (K.norace hfr.br).2 (by rw[z1];simpa using hne.1);have q2:seen P gr.fn fs1=fs1:=seen_eq (K.norace hfr.mX).1 (by rw[z2];simpa using hne.2);refine⟨h1,v2,fs1++fs2,?_,hG,?_⟩
        ·rw[f1];dsimp only;rw[e2,q2];rfl
        ·rw[q1];exact hB1.trans (hB2.front es0 fs1)
       |_=>cases e
    |refuse y=>simp only[stepG.exec,ek,el];exact cH.ended
    |_=>cases hc
 ·
  have hret':gr.mode=.returning:=hfr.mode.trans hret;have e1:stepG (gp P G) m {frame:=fr,callers:=cs++B,status:=.running,dying:=none} w=unwind (gp P G) m fr (cs++B) none w:=by simp only[stepG,hret]
  have e2:stepG P m' {frame:=gr,callers:=ds++D,status:=.running,dying:=none} v=unwind P m' gr (ds++D) none v:=by simp only[stepG,hret']
  rw[e1,e2];have hdf:=hfr.defers;generalize ek:fr.defers=k at hdf;generalize el:gr.defers=l at hdf;cases hdf with
  |nil=>
   obtain⟨fn,c,h1,g1',h2,_,hres⟩:=K.body fr.fn hfr.br hfr.np;have hkk:k₀=.own:=by rw[hk₀];unfold fo;rw[hret]
   subst hkk;have h1':P.funcs[gr.fn]?=some fn:=by rw[hfr.fn];exact h1
   rw[nk (P:=gp P G) ek hret g1',nk el hret' h1'];have hne:=hlast hret ek;refine cH.dh (B:=B) (D:=D) K hb hd hs (uF (P:=P) (G:=G) (L:=L) (T:=T) hbt hfl fn hres hfr.tmps) hfr.br hfr.mX (k:=lP (gp P G) m fr (cs++B)) (l:=lP P m' gr (ds++D)) ?_ ?_ ?_
   ·intro hh w' g1 w1 es e _;cases hh<;>cases e
   ·intro a w1 g1 w2 es e;obtain⟨c,cs',rfl⟩: ∃c cs',cs=c::cs':=by
     cases cs with
     |nil=>exact absurd rfl hne
     |cons c cs'=>exact⟨c,cs',rfl⟩
    simp only[lP,Rz,doReturn,hfr.kind.1,GStep.go.injEq]at e;exact⟨e.2.1.symm,e.2.2.symm⟩
   ·intro a b w1 v1 hab g1 e _;obtain⟨g2,h2,e1,e2,hG⟩:=cH.back (G:=G) (B:=B) (D:=D) (m:=m) (m':=m') hbt hfl hfr hcs hne hbot (show CR L τ (fw L fr) a b by unfold fw;rw[hro];exact hab) w1 v1;simp only[lP]at e;rw[e1]at e;cases e;exact⟨h2,e2,hG⟩
  |@cons a b k l hi hk=>
   cases hi with
   |@collected r s hrs=>
    rw[unwind_mark ek,unwind_mark el];refine cH.dh (B:=B) (D:=D) K hb hd hs (yO (P:=P) (G:=G) (L:=L) (T:=T) hrs) hfr.br hfr.mX (k:=oz (gp P G) fr (cs++B) k) (l:=oz P gr (ds++D) l) ?_ ?_ ?_
    ·intro hh w' g1 w1 es e _;cases e
    ·intro a w1 g1 w2 es e;simp only[oz,GStep.go.injEq]at e;exact⟨e.2.1.symm,e.2.2.symm⟩
    ·rintro _ _ w1 v1 ⟨rfl,rfl⟩ g1 e _;simp only[oz,GStep.go.injEq,Ri,List.nil_append]at e;subst e;exact⟨_,rfl,.run ⟨hfr.fn,hfr.br,hfr.np,hfr.tmps,hfr.todo,hk,hfr.mode,hfr.run,hfr.kind,hfr.round⟩,⟨rfl,rfl⟩,⟨rfl,rfl⟩,⟨rfl,rfl⟩,cs,ds,rfl,rfl,hcs,hbot.same rfl⟩
end
end
section
open Go.Conc
def wall:Frame:={fn:=0,tmps:=#[],todo:=[.code (.refuse "")],defers:=[{target:=.nil,args:=#[]}],mode:=.run,kind:=.normal}
inductive Safe (P:Program) (Goal:Frame->List Frame->World->Prop):Frame->List Frame->World->Prop
 |goal {fr:Frame} {cs:List Frame} {w:World}:Goal fr cs w->Safe P Goal fr cs w
 |step {fr:Frame} {cs:List Frame} {w:World} (f:(Nat->Question->Nat)->Frame) (c:(Nat->Question->Nat)->List Frame) (u:(Nat->Question->Nat)->World) (es:(Nat->Question->Nat)->Array Event):
   ¬Goal fr cs w->¬(fr.mode=.returning/\fr.defers= []/\cs= [])->
   (∀t,stepG P true {frame:=fr,callers:=cs++ [wall],status:=.running,dying:=none} {w with tape:=t}=.go {frame:=f t,callers:=c t++ [wall],status:=.running,dying:=none} (u t) (es t))->
   (∀t,fF {frame:=f t,callers:=c t++ [wall],status:=.running,dying:=none})->
   (∀t,Safe P Goal (f t) (c t) (u t))->Safe P Goal fr cs w
def tZ(P:Program)(f:FuncId)(Φ:Value->World->Prop)(fr:Frame)(cs:List Frame)(w:World):Prop:=
 cs= []/\fr.fn=f/\fr.mode=.returning/\fr.defers= []/\∃fn v,P.funcs[f]?=some fn/\(∃t:Nat->Question->Nat,(results fn fr.tmps).run P {w with tape:=t}=.ok v {w with tape:=t})/\Φ v w
end
section
open Go.Conc
def Reads(P:Program){α:Type}(p:Sem α):Prop:=∀w es a w1 es1,p.runT P w es=(.ok a w1,es1)->w1=w
section
variable {P:Program}{α β:Type}
theorem Reads.pure(a:α):Reads P (Pure.pure a:Sem α):=λw es b w1 es1 h=>by
 have h':(Result.ok a w,es)=(.ok b w1,es1):=h;simp only[QM,Result.ok.injEq]at h';exact h'.1.2.symm
theorem Reads.bind{p:Sem α}{f:α->Sem β}(h:Reads P p)(k:∀a,Reads P (f a)):Reads P (p >>=f):=λw es b w1 es1 e=>by
 have e':(p.bind f).runT P w es=(.ok b w1,es1):=e;rw[Sem.runT_bind']at e';cases hr:p.runT P w es with
 |mk r es2=>
  rw[hr]at e';cases r with
  |ok a w2=>
   have h1:=h _ _ _ _ _ hr;subst h1;exact k a _ _ _ _ _ e'
  |halt x w2=>cases e'
theorem ai.reads{p:Sem α}(h:ai P p):Reads P p:=λw es b w1 es1 e=>by
 obtain⟨_,_,_,e2,_⟩:=h w es;rw[e]at e2;cases e2
theorem Reads.load(a:Addr):Reads P (Go.load a):=λw es b w1 es1 e=>by
 unfold Go.load at e;rw[Sem.runT]at e;split at e
 ·exact Reads.pure _ _ _ _ _ _ e
 ·split at e
  ·exact Reads.pure _ _ _ _ _ _ e
  ·cases e
theorem Reads.program:Reads P Go.program:=λw es b w1 es1 e=>by
 have e':(Result.ok P w,es)=(.ok b w1,es1):=e;simp only[QM,Result.ok.injEq]at e';exact e'.1.2.symm
theorem Reads.typeInfo(t:TypeId):Reads P (Go.typeInfo t):=by
 unfold Go.typeInfo;refine Reads.bind .program λp=>?_;split
 ·exact .pure _
 ·exact (ai.stuck _).reads
theorem Reads.underlying(t:TypeId):Reads P (Go.underlying t):=by
 unfold Go.underlying;refine Reads.bind .program λp=>?_;split
 ·exact .pure _
 ·exact (ai.stuck _).reads
theorem Reads.loadCellsFrom(a:Addr):∀(n i:Nat) (acc:Array Value),Reads P (Go.loadCellsFrom a i n acc)
 |0,_,_=>.pure _
 |n+1,i,acc=>Reads.bind (.load _) λv=>Reads.loadCellsFrom a n (i+1) (acc.push v)
theorem Reads.loadVar(t:TypeId)(a:Addr):Reads P (Go.loadVar t a):=by
 unfold Go.loadVar isAgg;refine Reads.bind (Reads.bind (.underlying t) λd=>?_) λb=>?_
 ·split<;>exact .pure _
 ·split
  ·exact Reads.bind (Reads.bind (.typeInfo t) λ_=>.pure _) λn=>Reads.bind (Reads.loadCellsFrom a n 0 #[]) λ_=>.pure _
  ·exact .load a
theorem Reads.asAddr(v:Value):Reads P (Go.asAddr v):=by
 unfold Go.asAddr;split
 ·exact .pure _
 ·exact (ai.runtimePanic _).reads
 ·exact (ai.stuck _).reads
theorem Reads.mapM{f:α->Sem β}(hf:∀a,Reads P (f a)):∀l:List α,Reads P (l.mapM f)
 |[]=>by simp only[List.mapM_nil];exact .pure _
 |a::l=>by
  simp only[List.mapM_cons];exact Reads.bind (hf a) λb=>Reads.bind (Reads.mapM hf l) λbs=>.pure _
theorem Reads.results(fn:Func)(tmps:Array Value):Reads P (Go.results fn tmps):=by
 unfold Go.results;refine Reads.bind ?_ λ_=>.pure _;rw[<-Array.toArray_toList (xs:=fn.results),List.mapM_toArray];refine Reads.bind (Reads.mapM (λr=>?_) _) λ_=>.pure _;split
 ·exact .pure _
 ·exact Reads.bind (.asAddr _) λa=>.loadVar _ a
end
section
variable {P:Program}{G:Array Func}{L:au}{T:aO}{τ υ:ah}
theorem L2.imp{α β:Type}{R S:α->β->Prop}(hm:∀a b,R a b->S a b){xs:List α}{ys:List β}(h:L2 R xs ys):L2 S xs ys:=by
 induction h with
 |nil=>exact .nil
 |cons h _ ih=>exact .cons (hm _ _ h) ih
theorem dO.mono(hm:eO τ υ){a b:Item}(h:dO P L T τ f a b):dO P L T υ f a b:=by
 cases h with
 |code h=>exact .code h
 |inBlock i=>exact .inBlock i
 |inLoop h=>exact .inLoop h
 |inRegion t h=>exact .inRegion t h
 |inRangeFunc h=>exact .inRangeFunc (hm.lp _ _ h)
 |endRangeFunc h=>exact .endRangeFunc (hm.lp _ _ h)
 |beginRound=>exact .beginRound
theorem gm.mono(hm:eO τ υ){a b:Deferred}(h:gm τ a b):gm υ a b:=by
 cases h with
 |collected h=>exact .collected (hm.lp _ _ h)
theorem bl.mono(hm:eO τ υ){fr:Frame}(h:bl P L T τ fr gr):bl P L T υ fr gr:=
 ⟨h.fn,h.br,h.np,h.tmps.mono hm,h.todo.imp λ_ _=>dO.mono hm,h.defers.imp λ_ _=>gm.mono hm,h.mode,h.run,h.kind,h.round.mono hm.lp⟩
theorem fe.mono(hm:eO τ υ){c:bh}{cs ds:List Frame}(h:fe P L T τ c cs ds):fe P L T υ c cs ds:=by
 induction h with
 |nil c=>exact .nil c
 |cons h1 h2 _ ih=>exact .cons (h1.mono hm) h2 ih
theorem KR.tk{C:FuncId->Code->Prop}(hm:eO τ υ)(hb:Fit υ)(hr:τ.un r s)(h:KR L C τ r s o q):KR L C υ r s o q:=by
 rcases hr with hr|hr|hr
 ·exact KR.kB hb (hm.all _ _ hr) ((h.all hr).mono hm)
 ·obtain⟨xs,ys,e,f,rfl,rfl,hx⟩:=h.box hr;exact KR.pX hb (hm.box _ _ hr) (hx.imp λ_ _=>VR.mono hm.own)
 ·exact KR.pf hb (hm.lp _ _ hr) ((h.lp hr).mono hm)
def ah.ext(τ:ah)(n m k:Nat)(c:Kd):ah where
 all r s:=τ.all r s\/(c=.own/\∃i,i<k/\r=n+i/\s=m+i)
 own r s:=τ.own r s\/(c=.own/\∃i,i<k/\r=n+i/\s=m+i)
 box r s:=τ.box r s\/(c=.box/\∃i,i<k/\r=n+i/\s=m+i)
 lp r s:=τ.lp r s\/(c=.lp/\∃i,i<k/\r=n+i/\s=m+i)
theorem ah.eU(n m k:Nat)(c:Kd):eO τ (τ.ext n m k c):=⟨λ_ _=>.inl,λ_ _=>.inl,λ_ _=>.inl,λ_ _=>.inl⟩
theorem ah.fS{n m k:Nat}{c:Kd}:(τ.ext n m k c).un r s↔τ.un r s\/∃i,i<k/\r=n+i/\s=m+i:=by
 unfold ah.un ah.ext;cases c<;>simp only[reduceCtorEq,false_and,or_false,true_and]
 ·constructor
  ·rintro ((h|h)|h|h)
   ·exact .inl (.inl h)
   ·exact .inr h
   ·exact .inl (.inr (.inl h))
   ·exact .inl (.inr (.inr h))
  ·rintro ((h|h|h)|h)
   ·exact .inl (.inl h)
   ·exact .inr (.inl h)
   ·exact .inr (.inr h)
   ·exact .inl (.inr h)
 ·constructor
  ·rintro (h|(h|h)|h)
   ·exact .inl (.inl h)
   ·exact .inl (.inr (.inl h))
   ·exact .inr h
   ·exact .inl (.inr (.inr h))
  ·rintro ((h|h|h)|h)
   ·exact .inl h
   ·exact .inr (.inl (.inl h))
   ·exact .inr (.inr h)
   ·exact .inr (.inl (.inr h))
 ·constructor
  ·rintro (h|h|h|h)
   ·exact .inl (.inl h)
   ·exact .inl (.inr (.inl h))
   ·exact .inl (.inr (.inr h))
   ·exact .inr h
  ·rintro ((h|h|h)|h)
   ·exact .inl h
   ·exact .inr (.inl h)
   ·exact .inr (.inr (.inl h))
   ·exact .inr (.inr (.inr h))
theorem ah.qn{n m k:Nat}{c:Kd}(h:(τ.ext n m k c).mine r s):τ.mine r s\/∃i,i<k/\r=n+i/\s=m+i:=by
 rcases h with (h|⟨_,h⟩)|(h|⟨_,h⟩)|(h|⟨_,h⟩)
 ·exact .inl (.inl h)
 ·exact .inr h
 ·exact .inl (.inr (.inl h))
 ·exact .inr h
 ·exact .inl (.inr (.inr h))
 ·exact .inr h
theorem ah.qx{n m k:Nat}{c:Kd}(hb:Fit τ)(hd:∀r s,τ.un r s->r<n/\s<m):Fit (τ.ext n m k c):=by
 have no:∀{r s},τ.un r s->∀{t},(∃i,i<k/\r=n+i/\t=m+i)->False:=λh t ⟨i,_,e,_⟩=>by have:=(hd _ _ h).1;omega
 refine {own:=?_,two:=?_,jR:=?_,j3:=?_,fn:=?_,inj:=?_}
 ·rintro r s (h|h)
  ·exact .inl (hb.own _ _ h)
  ·exact .inr h
 ·rintro r s t (h|⟨e,h⟩) (h'|⟨e',h'⟩)
  ·exact hb.two _ _ _ h h'
  ·exact no (.inl h) h'
  ·exact no (ah.pD h') h
  ·rw[e]at e';cases e'
 ·rintro r s t (h|⟨e,h⟩) (h'|⟨e',h'⟩)
  ·exact hb.jR _ _ _ h h'
  ·exact no (.inl h) h'
  ·exact no (ah.nE h') h
  ·rw[e]at e';cases e'
 ·rintro r s t (h|⟨e,h⟩) (h'|⟨e',h'⟩)
  ·exact hb.j3 _ _ _ h h'
  ·exact no (ah.pD h) h'
  ·exact no (ah.nE h') h
  ·rw[e]at e';cases e'
 ·intro r s t h h';rcases ah.fS.1 h with h|⟨i,_,rfl,rfl⟩<;>rcases ah.fS.1 h' with h'|⟨j,_,e,rfl⟩
  ·exact hb.fn _ _ _ h h'
  ·have:=(hd _ _ h).1;omega
  ·have:=(hd _ _ h').1;omega
  ·omega
 ·intro r s t h h';rcases ah.fS.1 h with h|⟨i,_,rfl,rfl⟩<;>rcases ah.fS.1 h' with h'|⟨j,_,rfl,e⟩
  ·exact hb.inj _ _ _ h h'
  ·have:=(hd _ _ h).2;omega
  ·have:=(hd _ _ h').2;omega
  ·omega
theorem ah.gz{n m k:Nat}{c:Kd}(hf:Flat T τ):Flat T (τ.ext n m k c):=by
 refine⟨?_,λg hg=>.inl (hf.2 g hg)⟩;rintro hx r s (h|h)
 ·exact .inl (hf.1 hx _ _ h)
 ·exact .inr h
theorem ah.vL{n m k:Nat}{c:Kd}(hi:i<k):(τ.ext n m k c).kd c (n+i) (m+i):=by
 cases c<;>exact .inr ⟨rfl,i,hi,rfl,rfl⟩
end
structure Stat(P:Program)(G:Array Func)(L:au)(T:aO):Prop where
 globals:P.globals.size=T.ng
 sO:∀t i n u,P.info? t=some i->i.desc=.named n u->n≠ "sync.copyChecker"
 zero:∀t i v,P.info? t=some i->i.zero=some v->∀π,VR L π v v
 br:Let P G L T
structure fT(P:Program)(G:Array Func)(L:au)(T:aO)(τ:ah)(B D:List Frame)(g:Goroutine)(w:World)(h:Goroutine)(v:World):Prop where
 g:GR P G L T τ B D g h
 bi:Fit τ
 flat:Flat T τ
 bC:∀r s,τ.un r s->r<w.heap.size/\s<v.heap.size
 obj:∀r s,τ.un r s->∃o q,w.heap[r]?=some o/\v.heap[s]?=some q/\KR L (CC P L T) τ r s o q
def iy(Rg Wg:Nat->Prop)(e:Event):Prop:=(∃a wr,e=⟨.cell a,wr,false⟩/\Rg a.block/\(wr=true->Wg a.block))\/(∃r wr,e=⟨.obj r,wr,false⟩/\Rg r/\(wr=true->Wg r))\/e=⟨.mark .noRoom,false,true⟩
theorem iy.mono{R R' W W':Nat->Prop}(hR:∀s,R s->R' s)(hW:∀s,W s->W' s)(h:iy R W e):iy R' W' e:=by
 rcases h with⟨a,wr,rfl,h1,h2⟩|⟨r,wr,rfl,h1,h2⟩|rfl
 ·exact .inl ⟨a,wr,rfl,hR _ h1,λx=>hW _ (h2 x)⟩
 ·exact .inr (.inl ⟨r,wr,rfl,hR _ h1,λx=>hW _ (h2 x)⟩)
 ·exact .inr (.inr rfl)
theorem vO{τ:ah}(hb:Fit τ){f:Event}(h:gQ τ e f):iy (λs=>∃r,τ.un r s) (λs=>∃r,τ.mine r s) f:=by
 cases h with
 |cell h=>exact .inl ⟨_,false,rfl,⟨_,h.1⟩,λx=>by cases x⟩
 |write h=>exact .inl ⟨_,true,rfl,⟨_,hb.mine h.1⟩,λ_=>⟨_,h.1⟩⟩
 |obj h=>exact .inr (.inl ⟨_,false,rfl,⟨_,h⟩,λx=>by cases x⟩)
 |set h=>exact .inr (.inl ⟨_,true,rfl,⟨_,hb.mine h⟩,λ_=>⟨_,h⟩⟩)
 |noRoom=>exact .inr (.inr rfl)
structure Kk(τ:ah)(v v1:World)(fs:Array Event):Prop where
 grow:v.heap.size<=v1.heap.size
 tape:v1.tape=v.tape
 drawn:v.drawn<=v1.drawn
 os:v1.os=v.os
 output:v1.output=v.output
 eX:∀s,s<v.heap.size->(∀r,¬τ.mine r s)->v1.heap[s]?=v.heap[s]?
 lu:∀e∈fs,iy (λs=>(∃r,τ.un r s)\/(v.heap.size<=s/\s<v1.heap.size)) (λs=>(∃r,τ.mine r s)\/(v.heap.size<=s/\s<v1.heap.size)) e
structure bt(τ τ1:ah)(w w1 v v1:World):Prop where
 le:eO τ τ1
 un:∀r s,τ1.un r s->τ.un r s\/(w.heap.size<=r/\r<w1.heap.size/\v.heap.size<=s/\s<v1.heap.size)
 mine:∀r s,τ1.mine r s->τ.mine r s\/(w.heap.size<=r/\r<w1.heap.size/\v.heap.size<=s/\s<v1.heap.size)
 grow:w.heap.size<=w1.heap.size
 kL:∀r,r<w.heap.size->(∀s,¬τ.mine r s)->w1.heap[r]?=w.heap[r]?
section
variable {P:Program}{G:Array Func}{L:au}{T:aO}{τ:ah}{B D:List Frame}
theorem Stat.env(S:Stat P G L T)(hb:Fit τ)(hfl:Flat T τ):Env P L τ:=
 ⟨hb,λr s h=>by
  rw[S.globals];constructor
  ·intro hr;rw[hb.fn r s r (.inl h) (.inl (hfl.2 r hr))];exact hr
  ·intro hs;rw[hb.inj r s s (.inl h) (.inl (hfl.2 s hs))];exact hs,S.sO,S.zero⟩
theorem GR.parts(hG:GR P G L T τ B D g h): ∃cs ds,g= {frame:=g.frame,callers:=cs++B,status:=.running,dying:=none}/\h= {frame:=h.frame,callers:=ds++D,status:=.running,dying:=none}/\fe P L T τ (fw L g.frame) cs ds/\gJ g.frame cs:=by
 obtain⟨cs,ds,c1,c2,c3,c4⟩:=hG.callers;refine⟨cs,ds,?_,?_,c3,c4⟩
 ·have s1:=hG.status.1;have s2:=hG.dying.1;have s3:=hG.offers.1;obtain⟨a1,a2,a3,a4,a5⟩:=g;simp only at s1 s2 s3 c1;rw[s1,s2,s3,c1]
 ·have s1:=hG.status.2;have s2:=hG.dying.2;have s3:=hG.offers.2;obtain⟨a1,a2,a3,a4,a5⟩:=h;simp only at s1 s2 s3 c2;rw[s1,s2,s3,c2]
theorem fM.runs{fr:Frame}(h:fM P G L T τ fr gr)(hn:fr.fn≠T.bj):bl P L T τ fr gr:=by
 cases h with
 |run h=>exact h
 |bj=>exact absurd rfl hn
def kv(w v:World):Nat->Question->Nat:=λi q=>v.tape (i-w.drawn+v.drawn) q
theorem fT.step(S:Stat P G L T){g:Goroutine}{w:World}{h:Goroutine}{v:World}(hS:fT P G L T τ B D g w h v)(m:Bool)(hn:g.frame.fn≠T.bj)(hnl: ¬(g.frame.mode=.returning/\g.frame.defers= []/\g.callers=B)){g1:Goroutine}{w1:World}{es:Array Event}(e:stepG (gp P G) true g {w with tape:=kv w v}=.go g1 w1 es)(hfi:fF g1):
  ∃h1 v1 fs τ1,stepG P m h v=.go h1 v1 fs/\fT P G L T τ1 B D g1 w1 h1 v1/\Kk τ v v1 fs/\bt τ τ1 w w1 v v1:=by
 obtain⟨cs,ds,hg,hh,hcs,hbot⟩:=hS.g.parts;have hFr:=hS.g.frame.runs hn;generalize hfr:g.frame=fr at hFr hg hcs hbot hnl;generalize hgr:h.frame=gr at hFr hh;subst hg hh;simp only at hnl e;have hpn:∀N c r s,(τ.ext w.heap.size v.heap.size (N-w.heap.size) c).un r s->w.heap.size<=N->r<N:=by
  intro N c r s hx hN;rcases ah.fS.1 hx with hx|⟨i,hi,rfl,rfl⟩
  ·exact QL (hS.bC r s hx).1 hN
  ·omega
 have fit:∀N c,Fit (τ.ext w.heap.size v.heap.size (N-w.heap.size) c):=λN c=>ah.qx hS.bi hS.bC;have sync:∀N,w.heap.size<=N->Sync L (CC P L T) (τ.ext w.heap.size v.heap.size (N-w.heap.size) (fo L fr)) (fo L fr) N {w with tape:=kv w v} v:=λN hN=>by
  refine⟨λr s hr hl=>?_,λi hi=>ah.vL (by simp only at hi;omega)⟩;rcases ah.fS.1 hr with hr|⟨i,hi,rfl,rfl⟩
  ·obtain⟨o,q,h1,h2,h3⟩:=hS.obj r s hr;exact⟨o,q,h1,h2,h3.tk (ah.eU ..) (fit N _) hr⟩
  ·simp only at hl;omega
 have gV:∀N,w.heap.size<=N->w1.heap.size<=N->_:=λN hN hN2=>
  vT (B:=B) (D:=D) (S.env (fit N (fo L fr)) (ah.gz hS.flat)) S.br (ah.gz hS.flat) (λr s hx=>hpn N _ r s hx hN) rfl (sync N hN) true m (hFr.mono (ah.eU ..)) (hcs.mono (ah.eU ..)) hbot
   (λh1 h2 h3=>hnl ⟨h1,h2,by rw[h3];rfl⟩) _ _ _ e hfi hN2 (λj q _=>by
    show v.tape (v.drawn+j) q=v.tape (w.drawn+j-w.drawn+v.drawn) q;rw[show w.drawn+j-w.drawn+v.drawn=v.drawn+j by omega])
 have hgrow:w.heap.size<=w1.heap.size:=by
  obtain⟨_,_,_,_,_,hB⟩:=gV (max w.heap.size w1.heap.size) (by omega) (by omega);exact hB.grow
 obtain⟨h1,v1,fs,e1,hG,hB⟩:=gV w1.heap.size hgrow (AI _);have hsz:=hB.size;simp only at hsz;generalize hk:w1.heap.size-w.heap.size=k at*;have hv1:v1.heap.size=v.heap.size+k:=by omega
 refine⟨h1,v1,fs,τ.ext w.heap.size v.heap.size k (fo L fr),e1,⟨hG,ah.qx hS.bi hS.bC,ah.gz hS.flat,λr s hx=>?_,λr s hx=>?_⟩,?_,⟨ah.eU ..,λr s hx=>?_,λr s hx=>?_,hgrow,λr hr ha=>?_⟩⟩
 ·rcases ah.fS.1 hx with hx|⟨i,hi,rfl,rfl⟩
  ·have:=hS.bC r s hx;omega
  ·omega
 ·refine hB.sync.held r s hx ?_;rcases ah.fS.1 hx with hx|⟨i,hi,rfl,rfl⟩
  ·have:=hS.bC r s hx;omega
  ·omega
 ·refine⟨by omega,hB.tape,?_,hB.os,hB.output,λs hs ha=>?_,?_⟩
  ·have:=hB.drawn;have:=hB.draw;simp only at*;omega
  ·refine hB.eX s hs λr hx=>?_;rcases ah.qn hx with hx|⟨i,hi,rfl,rfl⟩
   ·exact ha r hx
   ·omega
  ·obtain⟨zs,_,z2,z3⟩:=hB.events;intro x hx;rw[z2]at hx;simp only[Rn]at hx;obtain⟨z,hz,rfl⟩:=Array.mem_map.1 hx;refine (vO (ah.qx hS.bi hS.bC) (z3 z hz)).mono ?_ ?_
   ·rintro s ⟨r,hx⟩;rcases ah.fS.1 hx with hx|⟨i,hi,rfl,rfl⟩
    ·exact .inl ⟨r,hx⟩
    ·exact .inr ⟨by omega,by omega⟩
   ·rintro s ⟨r,hx⟩;rcases ah.qn hx with hx|⟨i,hi,rfl,rfl⟩
    ·exact .inl ⟨r,hx⟩
    ·exact .inr ⟨by omega,by omega⟩
 ·rcases ah.fS.1 hx with hx|⟨i,hi,rfl,rfl⟩
  ·exact .inl hx
  ·exact .inr (by omega)
 ·rcases ah.qn hx with hx|⟨i,hi,rfl,rfl⟩
  ·exact .inl hx
  ·exact .inr (by omega)
 ·refine hB.kL r hr λs hx=>?_;rcases ah.qn hx with hx|⟨i,hi,rfl,rfl⟩
  ·exact ha s hx
  ·omega
theorem fT.last(S:Stat P G L T){w:World}(hS:fT P G L T τ B D g w h v)(m:Bool)(hn:g.frame.fn≠T.bj)(hl:g.frame.mode=.returning/\g.frame.defers= []/\g.callers=B)(hfn:P.funcs[g.frame.fn]?=some fn){t:Nat->Question->Nat}(hr:(results fn g.frame.tmps).run (gp P G) {w with tape:=t}=.ok x {w with tape:=t}):
  ∃y fs,CR L τ (L.res g.frame.fn) x y/\(∀e∈fs,iy (λs=>∃r,τ.un r s) (λs=>∃r,τ.mine r s) e)/\h.callers=D/\h.frame.kind=.normal/\h.frame.fn=g.frame.fn/\
   stepG P m h v=GStep.after fs (doReturn P m h.frame D none y v):=by
 obtain⟨cs,ds,hg,hh,hcs,hbot⟩:=hS.g.parts;have hF:=hS.g.frame.runs hn;obtain⟨hmode,hdef,hcall⟩:=hl;have hcs0:cs= []:=by
  rw[hg]at hcall;simp only at hcall;simpa using hcall
 subst hcs0;cases hcs;have hmode':h.frame.mode=.returning:=hF.mode.trans hmode;have hdef':h.frame.defers= []:=by
  have:=hF.defers;rw[hdef]at this;generalize h.frame.defers=dd at this;cases this;rfl
 have hfun':P.funcs[h.frame.fn]?=some fn:=by rw[hF.fn];exact hfn
 obtain⟨fn',c,b1,_,_,_,hres⟩:=S.br.body g.frame.fn hF.br hF.np;rw[hfn]at b1;cases b1;have hr': ∃es,(results fn g.frame.tmps).runT (gp P G) {w with tape:=t} #[]=(.ok x {w with tape:=t},es):=⟨_,by rw[Sem.runT_eq,hr]⟩
 obtain⟨es,hr'⟩:=hr';have sync:Sync L (CC P L T) τ .own w.heap.size {w with tape:=t} v:=⟨λr s hr _=>hS.obj r s hr,λi hi=>by simp only at hi;omega⟩
 obtain⟨y,v1,fs,e1,hxy,hB⟩:=(uF (P:=P) (G:=G) (L:=L) (T:=T) hS.bi.toeh hS.flat fn hres hF.tmps).oJ hS.bi {w with tape:=t} v #[] #[] x {w with tape:=t} es sync hr' (AI _) (λj q hj=>by simp only at hj;omega) (λr s hx=>(hS.bC r s hx).1);have hv:v1=v:=Reads.results fn h.frame.tmps _ _ _ _ _ e1;subst hv;obtain⟨zs,_,z2,z3⟩:=hB.events;have hne:=qO z3;have q2:seen P h.frame.fn fs=fs:=seen_eq (S.br.norace hF.mX).1 (by rw[z2];simpa using hne.2);refine⟨y,fs,hxy,?_,by rw[hh];rfl,hF.kind.2,hF.fn,?_⟩
 ·intro e he;rw[z2]at he;simp only[Rn]at he;obtain⟨z,hz,rfl⟩:=Array.mem_map.1 he;exact vO hS.bi (z3 z hz)
 ·rw[hh];have e2:stepG P m {frame:=h.frame,callers:=[]++D,status:=.running,dying:=none} v1=unwind P m h.frame ([]++D) none v1:=by simp only[stepG,hmode']
  rw[e2,nk hdef' hmode' hfun',e1,q2];rfl
end
end
end Go.Proofs.YtldmcdeibiclkaaGreat.U
