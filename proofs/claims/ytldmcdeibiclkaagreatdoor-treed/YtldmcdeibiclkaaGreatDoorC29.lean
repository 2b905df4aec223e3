/-
  Toward: treed_holds, each node's digest is that of its children's, for every argument of Treed. THE POOL IS AS THE LONE ONE's PLAIN LOOP: 'PoolOk'.
  TYPES THAT ARE MADE AT RUN TIME: their zero values are beside themselves; none of them is named. No project text.
  THE COLOURS OF THIS SEAT (wip/tools/col.lean.txt works them out): the starter's table, the workers'; that every function keeps to them.
-/
import Derived.Test.YtldmcdeibiclkaaGreatDoorC28
set_option linter.unusedVariables false
set_option linter.unusedSimpArgs false
set_option maxRecDepth 4000
section
namespace Go.Proofs.YtldmcdeibiclkaaGreatDoor.U
open Go.Conc
open Go.ConcN (upd upd_same upd_ne sumTo sumTo_upd sumTo_congr sumTo_le le_sumTo RelBy)
set_option maxRecDepth 100000
structure Link (L1:Lim) (T1:Tab) (L2:Lim):Prop where
 pool:T1.pool=fQ
 fl:T1.fl=true
 ar:L1.ar fQ=some 3
 col: ∀i,i< 3→L1.col fQ i= .any
 res:L1.res fQ= .any
 clo: ∀f,L1.clo f→L2.clo f
 junk: ∀s,L1.junk s=L2.junk s
 ng:T1.ng=Pg.globals.size
section
variable {L1 L2:Lim}
theorem VR.link (hc: ∀f,L1.clo f→L2.clo f) (hj: ∀s,L1.junk s=L2.junk s) {π:Nat→Nat→Prop} {v w:Value} (h:VR L1 π v w):VR L2 π v w:=by
 induction h with
 |junk s a b c=>rw [hj s] at a b c ⊢;exact .junk s a b c
 |bool b=>exact .bool b
 |int k n=>exact .int k n
 |string s=>exact .string s
 |nilptr=>exact .nilptr
 |ptr h=>exact .ptr h
 |nilslice n c=>exact .nilslice n c
 |slice n c h=>exact .slice n c h
 |nilmap=>exact .nilmap
 |nilchan=>exact .nilchan
 |map h=>exact .map h
 |func xs ys hf _ _ ih1 ih2=>exact .func xs ys (hc _ hf) ih1 ih2
 |nilFunc=>exact .nilFunc
 |iface t _ ih=>exact .iface t ih
 |nilIface=>exact .nilIface
 |agg xs _ ih=>exact .agg xs ih
 |tuple xs _ ih=>exact .tuple xs ih
theorem OR.link (hc: ∀f,L1.clo f→L2.clo f) (hj: ∀s,L1.junk s=L2.junk s) {τ:Tri} {o q:Obj} (h:OR L1 τ o q):OR L2 (oldT τ.all) o q:=by
 cases h with
 |cells e f h=>obtain ⟨zs,a,b,c⟩:=h;exact .cells e f ⟨zs,a,b,fun z hz=>(c z hz).link hc hj⟩
 |map c h=>obtain ⟨zs,a,b,d⟩:=h;exact .map c ⟨zs,a,b,fun z hz=>⟨(d z hz).1.link hc hj,(d z hz).2.1.link hc hj,(d z hz).2.2⟩⟩
 |stringIter s p=>exact .stringIter s p
 |mapIter a b c h=>exact .mapIter a b c h
 |number l h=>exact .number l h
end
section
variable {Q:Program} {Goal:Frame→List Frame→World→Prop}
theorem Run.thenBelow {fr fr1 fr2:Frame} {cs cs1 cs2:List Frame} {w w1 w2:World} (h:Run Q Goal fr cs w fr1 cs1 w1) (hn: ¬ Goal fr1 cs1 w1) {es:Array Event} (e:stepG Q true (lg fr1 cs1) w1= .go (lg fr2 cs2) w2 es):Below Q Goal fr cs w fr2 cs2 w2:=by
 induction h with
 |refl fr cs w=>exact .one w.tape es hn e
 |step t es' hg hs _ ih=>exact .more t es' hg hs (ih hn e)
end
theorem TopR.at_pool {P:Program} {G:Array Func} {L:Lim} {T:Tab} {τ:Tri} {fr gr:Frame} (h:TopR P G L T τ fr gr) (hf:fr.fn=T.pool):
  ∃xs ys,TR L τ T.pool xs ys∧(∀k,L.ar T.pool=some k→xs.size=k)∧fr=Frame.enter (gp P G) T.pool xs .normal∧gr=Frame.enter P T.pool ys .normal:=by
 cases h with
 |run h=>exact absurd hf h.np
 |pool h1 h2 h3=>exact ⟨_,_,h2,h3,rfl,rfl⟩
theorem enter_roundOf (P:Program) (f:FuncId) (xs:Array Value):(Frame.enter P f xs .normal).roundOf=none∧(Frame.enter P f xs .normal).fn=f:=⟨rfl,rfl⟩
theorem pool_ok {L1 L2:Lim} {T1 T2:Tab} {Goal:Frame→List Frame→World→Prop} (A:Lean1 L2 T2 Goal) (K:Link L1 T1 L2) (D:List Frame):PoolOk Pg Gg L1 T1 D Goal:=by
 intro fr cs w hfn hsafe gs v sl t q τ Sh hb
 obtain ⟨h,h0,hS⟩:=hb.main
 obtain ⟨xs,ys,hT,har,rfl,hgr⟩:=hS.g.frame.at_pool hfn
 obtain ⟨cs',ds,hc1,hc2,hch,hbot⟩:=hS.g.callers
 obtain rfl:cs=cs':=List.append_cancel_right hc1
 rw [K.pool] at hsafe hT har hgr hch hbot
 have h3:xs.size=3:=har 3 K.ar
 have hy3:ys.size=3:=hT.1.trans h3
 have hv: ∀(i:Nat) x y,xs[i]? =some x→ys[i]? =some y→VR L1 τ.all x y:=fun i x y hx hy=>by
  have hi:i< 3:=by have:=(Array.getElem?_eq_some_iff.1 hx).1;omega
  have:=hT.2 i x y hx hy
  rw [K.col i hi] at this
  exact this
 obtain ⟨x0,x1,x2,rfl⟩: ∃x0 x1 x2,xs=#[x0,x1,x2]:=⟨xs[0],xs[1],xs[2],by
  apply Array.ext
  ·simp [h3]
  ·intro i h1 h2
   rcases (show i=0∨i=1∨i=2 by omega) with rfl|rfl|rfl<;> rfl⟩
 obtain ⟨y0,y1,y2,rfl⟩: ∃y0 y1 y2,ys=#[y0,y1,y2]:=⟨ys[0],ys[1],ys[2],by
  apply Array.ext
  ·simp [hy3]
  ·intro i h1 h2
   rcases (show i=0∨i=1∨i=2 by omega) with rfl|rfl|rfl<;> rfl⟩
 have v0:=hv 0 x0 y0 rfl rfl
 have v1:=hv 1 x1 y1 rfl rfl
 have v2:=hv 2 x2 y2 rfl rfl
 obtain ⟨first,n,rfl,rfl,hn,a,d,X,w',hrun,KE,hD⟩:=plan A (x0:=x0) (x1:=x1) (x2:=x2) (y2:=y2) (ρ:=τ.all) (w0:=w) (v0:=v) (cs:=cs) hsafe ⟨fun r s t h k=>hS.bi.fn r s t (.inl h) (.inl k),fun r s t h k=>hS.bi.inj r s t (.inl h) (.inl k)⟩ (fun r s h=>hS.dom r s (.inl h))
  (fun r s h=>by obtain ⟨o,q,e1,e2,e3⟩:=hS.obj r s (.inl h);exact ⟨o,q,e1,e2,(e3.all h).link K.clo K.junk⟩) (v2.link K.clo K.junk) (fun g hg=>hS.flat.2 g (by rw [K.ng];exact hg))
 have hret:=qRet_is (.int .i64 first) (.int .i64 n) x2 X cs
 have hng: ∀u,¬ Goal (qRet (.int .i64 first) (.int .i64 n) x2 X cs) cs u:=fun u hg=>(A.goal _ _ _ hg).2 hret.2.2.1
 cases hcs:cs with
 |nil=>
  exfalso
  have hs2:=Safe.run hsafe hrun
  cases hs2 with
  |goal hg=>exact hng _ hg
  |step f c u es h1 h2 h3 h4 h5=>exact h2 ⟨hret.1,hret.2.1,hcs⟩
 |cons c1 cs1=>
 subst hcs
 have hstep:=qRet_step (.int .i64 first) (.int .i64 n) x2 X cs1 c1 w'
 rw [hD.row] at hstep
 have hbelow:=Run.thenBelow hrun (hng _) hstep
 cases hch with
 |@cons _ _ gr _ ds1 hfr hfin hch1=>
 obtain rfl:y0= .int .i64 first:=by cases v0;rfl
 obtain rfl:y1= .int .i64 n:=by cases v1;rfl
 obtain ⟨f,us,us',vs,vs',e1,e2,_⟩: ∃f us us' vs vs',x2= .func (.func f) us vs∧y2= .func (.func f) us' vs'∧True:=by
  obtain ⟨X1,w1,s1,s2,s3,s4⟩:=hD.jobs 0 (by show 0< n;omega)
  obtain ⟨f,us,us',vs,vs',e1,e2,_⟩:=ghost_text A KE 5 (.inr rfl) s1 s2
  exact ⟨f,us,us',vs,vs',e1,e2,trivial⟩
 let M:Mn:={wg:=v.heap.size+5,bN:=v.heap.size+2,bB:=v.heap.size+4,bT:=v.heap.size,cN:=v.heap.size+1,cB:=v.heap.size+3,first:=first,count:=n,fn:= .func f,ca:=us',cb:=vs'}
 let Y:PC L2:={E:=⟨first,n,x2,y2,τ.all,w,v,c1::cs1⟩,M:=M,c:=gr,cs:=ds1++D,n0:=gs.size,nW:=if n=1 then 1 else 4,a:=a,Sh:=Sh,g0:=gs}
 have hsz:0< gs.size:=(Array.getElem?_eq_some_iff.1 h0).1
 have O:PCOk T2 Goal Y:=by
  refine {A:=A,K:=KE,jobs:=hD.jobs,first:=rfl,count:=rfl,txt:=e2.symm,nn:=hn,nw:=?_,bT:=rfl,cN:=rfl,bN:=rfl,cB:=rfl,bB:=rfl,wg:=rfl,n0:=hsz,sh:=hb.old,rosh:=fun r s hx=>hb.apart r s (.inl hx)}
  show (n=1∧(if n=1 then 1 else 4)=1)∨(n≠1∧(if n=1 then 1 else 4)=4)
  by_cases h1:n=1
  ·exact .inl ⟨h1,if_pos h1⟩
  ·exact .inr ⟨h1,if_neg h1⟩
 have hh:h=m0 Y.M Y.c Y.cs:=by
  have g1:=hS.g.status.2
  have g2:=hS.g.dying.2
  have g3:=hS.g.offers.2
  obtain ⟨hf,hcl,hst,hdy,hof⟩:=h
  simp only at g1 g2 g3 hgr hc2
  subst g1 g2 g3 hgr hc2
  show Goroutine.mk _ _ _ _ _=gIn 68 #[.int .i64 first,.int .i64 n,.func (.func f) us' vs'] (gr::(ds1++D))
  rw [← e2]
  rfl
 subst hh
 obtain ⟨N,d',gs',v',sl',t',q',hr,hB⟩:=pool_whole O sl h0 hb.leavers hb.past rfl
 obtain ⟨C,hC,hCs,hCk⟩:=hD.blk
 obtain ⟨C',hC',hCs',hCk'⟩:=hB.row
 have hdw:d< w'.heap.size:=(Array.getElem?_eq_some_iff.1 hC).1
 have hnew:w.heap.size≤d:=hD.new
 have hlow:v.heap.size+5< d'∧d'< v'.heap.size:=hB.low
 have hkeep:w.heap.size≤w'.heap.size∧∀r,r< w.heap.size→w'.heap[r]? =w.heap[r]? :=hD.keeps
 have hold:v.heap.size≤v'.heap.size∧∀s,s< v.heap.size→v'.heap[s]? =v.heap[s]? :=hB.old
 let τ':Tri:=⟨fun r s=>τ.all r s∨(r=d∧s=d'),fun r s=>τ.own r s∨(r=d∧s=d'),τ.box,τ.lp⟩
 have hle:TriLe τ τ':=⟨fun _ _ h=> .inl h,fun _ _ h=> .inl h,fun _ _ h=>h,fun _ _ h=>h⟩
 have hun: ∀r s,τ'.un r s→τ.un r s∨(r=d∧s=d'):=fun r s h=>by
  rcases h with (h|h)|h|h
  ·exact .inl (.inl h)
  ·exact .inr h
  ·exact .inl (.inr (.inl h))
  ·exact .inl (.inr (.inr h))
 have hfit:Fit τ':=by
  have nd: ∀s,¬ τ.un d s:=fun s h=>by have:=(hS.dom d s h).1;omega
  have nd': ∀r,¬ τ.un r d':=fun r h=>by have:=(hS.dom r d' h).2;omega
  exact
   {own:=fun r s h=>h.imp (hS.bi.own r s) id
    two:=fun r s t h k=>by
     rcases h with h|⟨rfl,rfl⟩
     ·exact hS.bi.two r s t h k
     ·exact nd _ (.inr (.inl k))
    two':=fun r s t h k=>by
     rcases h with h|⟨rfl,rfl⟩
     ·exact hS.bi.two' r s t h k
     ·exact nd _ (.inr (.inr k))
    two'':=hS.bi.two''
    fn:=fun r s t h k=>by
     rcases hun r s h with h'|⟨rfl,rfl⟩<;> rcases hun _ t k with k'|⟨k1,k2⟩
     ·exact hS.bi.fn r s t h' k'
     ·rw [k1] at h';exact absurd h' (nd _)
     ·exact absurd k' (nd _)
     ·exact k2.symm
    inj:=fun r s t h k=>by
     rcases hun r t h with h'|⟨rfl,rfl⟩<;> rcases hun s _ k with k'|⟨k1,k2⟩
     ·exact hS.bi.inj r s t h' k'
     ·rw [k2] at h';exact absurd h' (nd' _)
     ·exact absurd k' (nd' _)
     ·exact k1.symm}
 have hflat:Flat T1 τ':=⟨fun hf r s h=>h.imp (hS.flat.1 hf r s) id,fun g hg=> .inl (hS.flat.2 g hg)⟩
 have hsl:CR L1 τ' .any (slcQ d n) (slc d' n):=VR.slice n n ⟨.inr ⟨rfl,rfl⟩,rfl,rfl⟩
 have hrc:retCol L1 (Frame.enter (gp Pg Gg) fQ #[.int .i64 first,.int .i64 n,x2] .normal)= .any:=by
  unfold retCol
  rw [(enter_roundOf _ _ _).1,(enter_roundOf _ _ _).2]
  exact K.res
 rw [hrc] at hfin
 have hG:GR Pg Gg L1 T1 τ' [wall] D (lg (c1.finish (slcQ d n)) cs1) {frame:=gr.finish (slc d' n),callers:=ds1++D,status:= .running,dying:=none}:=by
  refine ⟨.run (FrR.finish hfit.toTriOk hflat (hfr.mono hle) hfin hsl),⟨rfl,rfl⟩,⟨rfl,rfl⟩,⟨rfl,rfl⟩,cs1,ds1,rfl,rfl,?_,?_⟩
  ·show ChR Pg L1 T1 τ' (retCol L1 (c1.finish (slcQ d n))) cs1 ds1
   rw [finish_retCol]
   exact hch1.mono hle
  ·have hbot':BotOk c1 cs1:=hbot
   exact hbot'.same (finish_roundOf _ _)
 have hSim:Sim Pg Gg L1 T1 τ' [wall] D (lg (c1.finish (slcQ d n)) cs1) w' {frame:=gr.finish (slc d' n),callers:=ds1++D,status:= .running,dying:=none} v':=by
  refine ⟨hG,hfit,hflat,fun r s hx=>?_,fun r s hx=>?_⟩
  ·rcases hun r s hx with hx|⟨rfl,rfl⟩
   ·have:=hS.dom r s hx;omega
   ·omega
  ·rcases hun r s hx with hy|⟨rfl,rfl⟩
   ·obtain ⟨o,p,e1,e2,e3⟩:=hS.obj r s hy
    have:=hS.dom r s hy
    exact ⟨o,p,by rw [hkeep.2 r this.1];exact e1,by rw [hold.2 s this.2];exact e2,e3.mono' hle hfit hy⟩
   ·refine ⟨_,_,hC,hC',fun _=>?_,fun hx=>?_,fun hx=>?_⟩
    ·have hCC:C'=C:=by
      apply Array.ext
      ·exact hCs'.trans hCs.symm
      ·intro i h1 h2
       have hi:i< n:=by have:C.size=n:=hCs;omega
       have a1:=hCk i hi
       have a2:=hCk' i hi
       rw [Array.getElem?_eq_getElem h2] at a1
       rw [Array.getElem?_eq_getElem h1] at a2
       exact (Option.some.inj a2).trans (Option.some.inj a1).symm
     subst hCC
     refine .cells _ _ (XR.self _ fun x hx=>?_)
     obtain ⟨i,hi,rfl⟩:=Array.mem_iff_getElem.1 hx
     have hin:i< n:=by have:C'.size=n:=hCs';omega
     have a2:=hCk' i hin
     rw [Array.getElem?_eq_getElem hi] at a2
     rw [Option.some.inj a2]
     exact .int _ _
    ·exact absurd (hS.dom _ _ (.inr (.inl hx))).1 (by omega)
    ·exact absurd (hS.dom _ _ (.inr (.inr hx))).1 (by omega)
 refine ⟨N,gs',v',sl',t',q',τ',_,_,_,Sh4 Y,hr,⟨⟨_,hB.main,hSim⟩,hB.leavers,hB.past,fun r s hx hsh=>?_,fun s hsh=>?_⟩,by rw [K.pool];exact hbelow,⟨hold.1,hB.tape,hB.os,hB.output,fun s hs _=>hold.2 s hs,hle,fun r s hx=>?_⟩⟩
 ·have hsh':Sh s∨(s=v.heap.size+5∨s=v.heap.size+1∨s=v.heap.size+3):=hsh
  rcases hun r s hx with hy|⟨rfl,rfl⟩
  ·have:=(hS.dom r s hy).2
   rcases hsh' with h|h|h|h
   ·exact hb.apart r s hy h
   all_goals omega
  ·rcases hsh' with h|h|h|h
   ·have:=hb.old s h;omega
   all_goals omega
 ·have hsh':Sh s∨(s=v.heap.size+5∨s=v.heap.size+1∨s=v.heap.size+3):=hsh
  rcases hsh' with h|h|h|h
  ·have:=hb.old s h;omega
  all_goals omega
 ·rcases hun r s hx with hy|⟨rfl,rfl⟩
  ·exact .inl hy
  ·exact .inr ⟨by omega,hlow.2⟩
end Go.Proofs.YtldmcdeibiclkaaGreatDoor.U
end
section
namespace Go.Proofs.YtldmcdeibiclkaaGreatDoor.U
open Go
def Zok (L:Lim) (i:TypeInfo):Prop:=(∀v,i.zero=some v→∀π,VR L π v v)∧∀n u,i.desc= .named n u→n≠ "sync.copyChecker"
theorem VR.cellsSelf {L:Lim} {π:Nat→Nat→Prop} {v:Value} (h:VR L π v v): ∀x∈v.cells,VR L π x x:=by
 obtain ⟨zs,h1,h2,h3⟩:=h.cells
 intro x hx
 obtain ⟨i,hi,rfl⟩:=Array.mem_iff_getElem.1 hx
 have hl:i< zs.size:=by rw [h1] at hi;simpa using hi
 have e1:v.cells[i]=zs[i].1:=by simp only [h1,Array.getElem_map]
 have e2:v.cells[i]=zs[i].2:=by
  have:v.cells[i]? =(zs.map (·.2))[i]? :=by rw [← h2]
  rw [Array.getElem?_eq_getElem hi,Array.getElem?_map,Array.getElem?_eq_getElem hl] at this
  exact Option.some.inj this
 have:=h3 zs[i] (Array.getElem_mem hl)
 rw [← e1,← e2] at this
 exact this
theorem VR.aggSelf {L:Lim} {π:Nat→Nat→Prop} {c:Array Value} (h: ∀x∈c,VR L π x x):VR L π (.agg c) (.agg c):=by
 have:=VR.agg (L:=L) (π:=π) (c.map fun x=>(x,x)) (fun z hz=>by
  obtain ⟨x,hx,rfl⟩:=Array.mem_map.1 hz
  exact h x hx)
 simpa [Function.comp_def] using this
theorem forIn_inv {α β:Type} (Inv:β→Prop) (f:α→β→Option (ForInStep β)) (hs: ∀a b r,Inv b→f a b=some r→Inv (match r with| .yield b'=>b'| .done b'=>b')): ∀(l:List α) (init r:β),Inv init→forIn l init f=some r→Inv r
 |[],init,r,h0,h=>by
  simp only [List.forIn_nil,Option.pure_def,Option.some.injEq] at h
  subst h;exact h0
 |a::l,init,r,h0,h=>by
  rw [List.forIn_cons] at h
  simp only [Option.bind_eq_bind,Option.bind_eq_some_iff] at h
  obtain ⟨x,h1,h2⟩:=h
  have:=hs a init x h0 h1
  cases x with
  |done b=>simp only [Option.pure_def,Option.some.injEq] at h2;subst h2;exact this
  |yield b=>exact forIn_inv Inv f hs l b r this h2
section
variable {L:Lim} {info:TypeId→Option TypeInfo}
theorem reckonStruct_ok (hi: ∀t i,info t=some i→Zok L i) {fs:Array Field} {i:TypeInfo} (h:Made.reckonStruct info fs=some i):Zok L i:=by
 unfold Made.reckonStruct at h
 simp only [Option.bind_eq_bind,Option.bind_eq_some_iff,Option.pure_def] at h
 obtain ⟨r,h1,h2⟩:=h
 rw [← Array.forIn_toList] at h1
 have key:=forIn_inv (fun r=>∀a,r.2.2.2.2.2.2.2.1=some a→∀x∈a,∀π,VR L π x x) _ ?_ _ _ _ ?_ h1
 ·split at h2
  all_goals
   simp only [Option.some.injEq] at h2
   subst h2
   refine ⟨fun v hv π=>?_,fun n u h=>by cases h⟩
   simp only [Option.map_eq_some_iff] at hv
   obtain ⟨a,ha,rfl⟩:=hv
   exact VR.aggSelf fun x hx=>key a ha x hx π
 ·intro f b s hb hf
  obtain ⟨j,hj,hf⟩:=Option.bind_eq_some_iff.1 hf
  have fin: ∀(c:Prop) [Decidable c] (a:Array Value),(if c then none else b.2.2.2.2.2.2.2.1.bind fun x=>j.zero.bind fun y=>some (x++y.cells))=some a→∀x∈a,∀π,VR L π x x:=by
   intro c _ a h x hx π
   split at h
   ·cases h
   ·obtain ⟨p,hp,h⟩:=Option.bind_eq_some_iff.1 h
    obtain ⟨z,hz,h⟩:=Option.bind_eq_some_iff.1 h
    cases h
    rcases Array.mem_append.1 hx with hx|hx
    ·exact hb p hp x hx π
    ·exact ((hi _ _ hj).1 z hz π).cellsSelf x hx
  by_cases c1:j.str.isEmpty=true
  ·rw [if_pos c1] at hf;cases hf
  ·rw [if_neg c1] at hf
   by_cases c2:f.embedded=true
   ·rw [if_pos c2] at hf;cases hf
   ·rw [if_neg c2] at hf
    by_cases c3:f.tag.isEmpty=true
    ·rw [if_pos c3] at hf
     obtain ⟨tg,_,hf⟩:=Option.bind_eq_some_iff.1 hf
     split at hf<;> (cases hf;exact fun a ha=>fin _ a ha)
    ·rw [if_neg c3] at hf
     obtain ⟨tg,_,hf⟩:=Option.bind_eq_some_iff.1 hf
     split at hf<;> (cases hf;exact fun a ha=>fin _ a ha)
 ·intro a ha x hx
  simp only [Option.some.injEq] at ha
  subst ha
  simp at hx
theorem reckon_ok (hi: ∀t i,info t=some i→Zok L i) {d:TypeDesc} {i:TypeInfo} (h:Made.reckon info d=some i):Zok L i:=by
 have word: ∀(d:TypeDesc) (s:String) (z:Value) (c:Bool) (b:Nat),(∀n u,d≠.named n u)→(∀π,VR L π z z)→Zok L (Made.word d s z c b):=fun d s z c b hd hz=>⟨fun v hv π=>by
  have:some z=some v:=hv
  cases this
  exact hz π,fun n u e=>absurd e (hd n u)⟩
 unfold Made.reckon at h
 cases d with
 |pointer e=>
  simp only [Option.bind_eq_bind,Option.bind_eq_some_iff,Option.pure_def] at h
  obtain ⟨j,_,h⟩:=h
  split at h
  ·cases h
  ·split at h
   ·cases h
   ·obtain ⟨s,_,h⟩:=Option.bind_eq_some_iff.1 h
    cases h
    exact word _ _ _ _ _ (fun _ _ h=>by cases h) fun _=> .nilptr
  ·obtain ⟨s,_,h⟩:=Option.bind_eq_some_iff.1 h
   cases h
   exact word _ _ _ _ _ (fun _ _ h=>by cases h) fun _=> .nilptr
 |slice e=>
  simp only [Option.bind_eq_bind,Option.bind_eq_some_iff,Option.pure_def] at h
  obtain ⟨_,_,_,_,h⟩:=h
  cases h
  exact word _ _ _ _ _ (fun _ _ h=>by cases h) fun _=> .nilslice _ _
 |map k e=>
  simp only [Option.bind_eq_bind,Option.bind_eq_some_iff,Option.pure_def] at h
  obtain ⟨_,_,_,_,_,_,_,_,h⟩:=h
  cases h
  exact word _ _ _ _ _ (fun _ _ h=>by cases h) fun _=> .nilmap
 |chan dir e=>
  simp only [Option.bind_eq_bind,Option.bind_eq_some_iff,Option.pure_def] at h
  obtain ⟨_,_,_,_,h⟩:=h
  cases h
  exact word _ _ _ _ _ (fun _ _ h=>by cases h) fun _=> .nilchan
 |func ps rs v=>
  simp only [Option.bind_eq_bind,Option.bind_eq_some_iff,Option.pure_def] at h
  obtain ⟨_,_,h⟩:=h
  cases h
  exact word _ _ _ _ _ (fun _ _ h=>by cases h) fun _=> .nilFunc
 |array n e=>
  simp only [Option.bind_eq_bind,Option.bind_eq_some_iff,Option.pure_def] at h
  obtain ⟨j,hj,s,_,h⟩:=h
  cases h
  refine ⟨fun v hv π=>?_,fun n u h=>by cases h⟩
  simp only at hv
  split at hv
  ·cases hv
  ·split at hv
   ·cases hv
    exact VR.aggSelf fun x hx=>by simp at hx
   ·simp only [Option.map_eq_some_iff] at hv
    obtain ⟨z,hz,rfl⟩:=hv
    refine VR.aggSelf fun x hx=>?_
    obtain ⟨y,hy,hx⟩:=Array.mem_flatten.1 hx
    have:y=z.cells:=by have:=Array.mem_replicate.1 hy;exact this.2
    subst this
    exact ((hi _ _ hj).1 z hz π).cellsSelf x hx
 |struct fs=>exact reckonStruct_ok hi h
 |_=>cases h
end
theorem infoAt_ok {L:Lim} {T:Tables} (h0: ∀(t:Nat) i,T.types[t]? =some i→Zok L i): ∀(fuel:Nat) (t:TypeId) (i:TypeInfo),Made.infoAt T fuel t=some i→Zok L i
 |0,t,i,h=>by cases h
 |n+1,t,i,h=>by
  unfold Made.infoAt at h
  split at h
  ·exact h0 t i h
  ·obtain ⟨d,_,h⟩:=Option.bind_eq_some_iff.1 h
   exact reckon_ok (infoAt_ok h0 n) h
theorem info_zok {L:Lim} {T:Tables} (h0: ∀(t:Nat) i,T.types[t]? =some i→Zok L i) {t:TypeId} {i:TypeInfo} (h:T.info? t=some i):Zok L i:=by
 unfold Tables.info? at h
 split at h
 ·exact h0 t i h
 ·exact infoAt_ok h0 _ t i h
end Go.Proofs.YtldmcdeibiclkaaGreatDoor.U
end
section
namespace Go.Proofs.YtldmcdeibiclkaaGreatDoor.U
set_option maxRecDepth 100000
def mFns:List Nat:=[3,4,5,6,7,8,9,10,11,12,13,14,15,16,17,18,19,20,21,22,23,24,25,26,27,28,29,30,31,32,33,34,35,36,37,38,39,40,41,42,43,44,45,46,47,48,49,50,51,52,53,54,55,56,57,58,59,60,61,62,63,64,65,66,67,68,69,70,71,72,73,74,75,76,77,78,79,80,81,82,83,84,85,86,87,92,93,94,95,96,97,98,99,100,101,102,103,104,105,106,107,108,109,110,111,112,113,114,115,116,117,136,137,138,139,140,141,142,143,144,145,146,152,153,154,155,156,157,158,159,160,161,162,163,164,165,166,167]
def wFns:List Nat:=[28,48,49,66,70,71,72,82,85,86,87,93,94,95,96,97,115,116,117,136,137,143,144,152,153,154,155,156,157,158,159,160,163,164,165,166,167]
def mCol (f t:Nat):Col:=if (f==49 && t==7)||(f==71 && t==0)||(f==71 && t==4)||(f==72 && t==2)||(f==72 && t==3)||(f==95 && t==0)||(f==95 && t==3)||(f==136 && t==1)||(f==136 && t==6) then .itr else if (f==97 && t==0)||(f==97 && t==10) then .yld else if (f==55 && t==15)||(f==56 && t==9)||(f==74 && t==2)||(f==74 && t==42) then .loc else .any
def mRes (f:Nat):Col:=if f==72 then .itr else .any
def wMask:List (Nat×Nat):=[(48,180349),(49,11555102),(70,24625626428766142),(71,366),(72,2),(82,2),(85,2),(86,139290),(87,28),(93,11837),(94,393277),(95,22),(96,43),(97,36),(115,2),(116,2),(117,2),(136,7449),(137,170307336999878687074388026878641307889),(143,2),(144,3815880923),(152,468709937250361),(153,8629559964467385),(154,30706245946853818553),(155,20100446945977),(156,223690809),(157,9066177787099598164671015674677074854009),(158,12),(159,503706889378935270451441),(160,155890296660192168261890238920840095753930246804209),(163,30882309152275437715697),(164,8381),(165,2425394161),(166,2),(167,10048761)]
def wOwn (f t:Nat):Bool:=match wMask.find? fun p=>p.1==f with|some p=>p.2.testBit t|none=>false
def wCol (f t:Nat):Col:=if (f==49 && t==7)||(f==71 && t==0)||(f==71 && t==4)||(f==72 && t==2)||(f==72 && t==3)||(f==95 && t==0)||(f==95 && t==3)||(f==136 && t==1)||(f==136 && t==6) then .itr else if (f==97 && t==0)||(f==97 && t==10) then .yld else if (f==136 && t==2) then .box else if wOwn f t then .own else .any
def wRes (f:Nat):Col:=if f==72 then .itr else if f==48||f==49||f==70||f==71||f==87||f==93||f==94||f==95||f==136||f==157 then .own else .any
def tMain:Tab:=⟨true,fun f=>mFns.contains f,fun f=>f==28||f==66,fun f=>f==97,fun f=>f==75||f==76,fQ,1⟩
def tWork:Tab:=⟨false,fun f=>wFns.contains f,fun f=>f==28||f==66,fun f=>f==97,fun _=>false,fQ,1⟩
def lMain (J:String→Value):Lim:=⟨fun f=>tMain.fb f=true,fun f=>tMain.cb f=true,fun f=>tMain.ib f=true,fun f=>tMain.lb f=true,J,mCol,mRes,fun f=>if f==fQ then some 3 else none⟩
def lWork (J:String→Value):Lim:=⟨fun f=>tWork.fb f=true,fun f=>tWork.cb f=true,fun f=>tWork.ib f=true,fun f=>tWork.lb f=true,J,wCol,wRes,fun _=>none⟩
section
variable {J:String→Value}
def chkFn (P:Program) (L:Lim) (T:Tab) (f:Nat):Bool:=
 match P.funcs[f]? with
 |some fn=>(match fn.body with|some c=>okCode P L T f c && okRes L T f fn|none=>false) && !fn.norace && !(fn.name== "runtime.NumGoroutine")
 |none=>false
def chkPool (fn:Func):Bool:=fn.body.isSome && !fn.norace && !(fn.name== "runtime.NumGoroutine")
theorem chk_main:(mFns.all fun f=>f==fQ||chkFn Tryz.prog (lMain J) tMain f)=true:=by kernel_rfl
theorem chk_work:(wFns.all fun f=>f !=fQ && chkFn Tryz.prog (lWork J) tWork f)=true:=by kernel_rfl
theorem chk_pool:(Tryz.prog.funcs[(fQ:Nat)]?).any chkPool=true∧chkPool poolFn=true:=⟨by kernel_rfl,by kernel_rfl⟩
theorem pool_in:fQ< Tryz.prog.funcs.size:=of_decide_eq_true (by kernel_rfl)
theorem Gg_ne {f:Nat} (h:f≠fQ):Gg[f]? =Tryz.prog.funcs[f]? :=by
 unfold Gg
 rw [Array.getElem?_setIfInBounds_ne (fun e=>h e.symm)]
theorem Gg_pool:Gg[(fQ:Nat)]? =some poolFn:=by
 unfold Gg
 rw [Array.getElem?_setIfInBounds_self_of_lt pool_in]
section
variable {L:Lim} {T:Tab}
theorem chk_body {f:Nat} (h:chkFn Tryz.prog L T f=true): ∃fn c,Tryz.prog.funcs[f]? =some fn∧fn.body=some c∧okCode Tryz.prog L T f c=true∧okRes L T f fn=true∧fn.norace=false∧(fn.name== "runtime.NumGoroutine")=false:=by
 unfold chkFn at h
 split at h
 ·rename_i fn hf
  simp only [Bool.and_eq_true,Bool.not_eq_true'] at h
  obtain ⟨⟨h1,h2⟩,h3⟩:=h
  split at h1
  ·rename_i c hc
   simp only [Bool.and_eq_true] at h1
   exact ⟨fn,c,hf,hc,h1.1,h1.2,h2,h3⟩
  ·cases h1
 ·cases h
end
theorem main_body: ∀f,(lMain J).fn f→f≠tMain.pool→∃fn c,Tryz.prog.funcs[f]? =some fn∧Gg[f]? =some fn∧fn.body=some c∧okCode Tryz.prog (lMain J) tMain f c=true∧okRes (lMain J) tMain f fn=true∧fn.norace=false∧(fn.name== "runtime.NumGoroutine")=false:=by
 intro f hf hn
 have hm:f∈mFns:=by simpa [lMain,tMain] using hf
 have:=List.all_eq_true.1 (chk_main (J:=J)) f hm
 simp only [Bool.or_eq_true,beq_iff_eq] at this
 obtain ⟨fn,c,h1,h2,h3,h4,h5,h6⟩:=chk_body (this.resolve_left hn)
 exact ⟨fn,c,h1,by rw [Gg_ne hn];exact h1,h2,h3,h4,h5,h6⟩
theorem work_body: ∀f,(lWork J).fn f→f≠fQ∧∃fn c,Tryz.prog.funcs[f]? =some fn∧Gg[f]? =some fn∧fn.body=some c∧okCode Tryz.prog (lWork J) tWork f c=true∧okRes (lWork J) tWork f fn=true∧fn.norace=false∧(fn.name== "runtime.NumGoroutine")=false:=by
 intro f hf
 have hm:f∈wFns:=by simpa [lWork,tWork] using hf
 have:=List.all_eq_true.1 (chk_work (J:=J)) f hm
 simp only [Bool.and_eq_true,bne_iff_ne] at this
 obtain ⟨fn,c,h1,h2,h3,h4,h5,h6⟩:=chk_body this.2
 exact ⟨this.1,fn,c,h1,by rw [Gg_ne this.1];exact h1,h2,h3,h4,h5,h6⟩
def noReady (c:Code):Bool:=(readies c).isEmpty
theorem none_ready:((Tryz.prog.funcs.toList.all fun f=>(f.body.map noReady).getD true) && noReady poolBody)=true:=by kernel_rfl
theorem no_step (g:Nat):Qg.stepOf g=none:=by
 unfold Program.stepOf
 rw [Array.findIdx?_eq_none_iff]
 intro fn hfn
 have key: ∀c,fn.body=some c→readies c= []:=by
  have h:=none_ready
  simp only [Bool.and_eq_true] at h
  intro c hc
  have hm:fn∈Gg:=hfn
  unfold Gg at hm
  rcases Array.mem_or_eq_of_mem_setIfInBounds hm with hm|rfl
  ·have:=List.all_eq_true.1 h.1 fn (by simpa using hm)
   rw [hc] at this
   simpa [noReady] using this
  ·have:c=poolBody:=by
    have e:poolFn.body=some poolBody:=rfl
    rw [e] at hc
    exact (Option.some.inj hc).symm
   subst this
   simpa [noReady] using h.2
 cases hb:fn.body with
 |none=>simp
 |some c=>simp [key c hb]
def okZ:Nat→Value→Bool
 |0,_=>false
 |_+1,.bool _=>true
 |_+1,.int _ _=>true
 |_+1,.string _=>true
 |_+1,.pointer none=>true
 |_+1,.slice none _ _=>true
 |_+1,.map none=>true
 |_+1,.chan none=>true
 |_+1,.nilFunc=>true
 |_+1,.nilIface=>true
 |d+1,.agg c=>c.toList.all (okZ d)
 |d+1,.tuple c=>c.toList.all (okZ d)
 |_,_=>false
theorem okZ_vr {L:Lim} {π:Nat→Nat→Prop}: ∀(d:Nat) (v:Value),okZ d v=true→VR L π v v
 |0,v,h=>by cases v<;> cases h
 |d+1,v,h=>by
  cases v with
  |bool b=>exact .bool b
  |int k n=>exact .int k n
  |string s=>exact .string s
  |pointer p=>cases p with
   |none=>exact .nilptr
   |some a=>cases h
  |slice p n c=>cases p with
   |none=>exact .nilslice n c
   |some a=>cases h
  |map m=>cases m with
   |none=>exact .nilmap
   |some a=>cases h
  |chan m=>cases m with
   |none=>exact .nilchan
   |some a=>cases h
  |nilFunc=>exact .nilFunc
  |nilIface=>exact .nilIface
  |agg c=>
   have:=VR.agg (L:=L) (π:=π) (c.map fun x=>(x,x)) (fun z hz=>by
    obtain ⟨x,hx,rfl⟩:=Array.mem_map.1 hz
    exact okZ_vr d x (List.all_eq_true.1 h x (by simpa using hx)))
   simpa [Function.comp_def] using this
  |tuple c=>
   have:=VR.tuple (L:=L) (π:=π) (c.map fun x=>(x,x)) (fun z hz=>by
    obtain ⟨x,hx,rfl⟩:=Array.mem_map.1 hz
    exact okZ_vr d x (List.all_eq_true.1 h x (by simpa using hx)))
   simpa [Function.comp_def] using this
  |_=>cases h
def chkTy (i:TypeInfo):Bool:=(match i.desc with| .named n _=>n != "sync.copyChecker" |_=>true) && (match i.zero with|some v=>okZ 8 v|none=>true)
theorem chk_types:(Tryz.prog.types.toList.all chkTy)=true:=by kernel_rfl
theorem types_ok (L:Lim) (t:Nat) (i:TypeInfo) (h:Tryz.prog.types[t]? =some i):Zok L i:=by
 have:=List.all_eq_true.1 chk_types i ((Array.mem_toList_iff).2 (Array.mem_of_getElem? h))
 unfold chkTy at this
 refine ⟨fun v e π=>?_,fun n u e=>?_⟩
 ·rw [e] at this
  simp only [Bool.and_eq_true] at this
  exact okZ_vr 8 v this.2
 ·rw [e] at this
  simp only [Bool.and_eq_true,bne_iff_ne] at this
  exact this.1
theorem stat_types (L:Lim):(∀t i n u,Tryz.prog.info? t=some i→i.desc= .named n u→n≠ "sync.copyChecker")∧∀t i v,Tryz.prog.info? t=some i→i.zero=some v→∀π,VR L π v v:=
 ⟨fun _ _ n u h e=>(info_zok (types_ok L) h).2 n u e,fun _ _ v h e π=>(info_zok (types_ok L) h).1 v e π⟩
theorem tab_main:TabOk (lMain J) tMain:=by
 refine ⟨fun f h=>h,fun f h=>h,fun f h=>h,fun f h=>h,fun f h=>?_,fun f h=>?_,fun f h=>?_,fun f h=>?_⟩
 ·have:f=28∨f=66:=by simpa [lMain,tMain] using h
  rcases this with rfl|rfl<;> exact ⟨rfl,fun i=>rfl,rfl⟩
 ·have:f=75∨f=76:=by simpa [lMain,tMain] using h
  rcases this with rfl|rfl<;> exact ⟨rfl,fun i=>rfl,rfl⟩
 ·rcases h with h|h|h
  ·have:f=28∨f=66:=by simpa [lMain,tMain] using h
   rcases this with rfl|rfl<;> rfl
  ·have:f=97:=by simpa [lMain,tMain] using h
   subst this;rfl
  ·have:f=75∨f=76:=by simpa [lMain,tMain] using h
   rcases this with rfl|rfl<;> rfl
 ·have:f=97:=by simpa [lMain,tMain] using h
  subst this
  refine ⟨rfl,rfl,fun i hi=>?_,rfl⟩
  rcases (show i=1∨2≤i by omega) with rfl|h
  ·exact .inl rfl
  ·exact .inr h
theorem tab_work:TabOk (lWork J) tWork:=by
 refine ⟨fun f h=>h,fun f h=>h,fun f h=>h,fun f h=>h,fun f h=>?_,fun f h=>?_,fun f h=>rfl,fun f h=>?_⟩
 ·have:f=28∨f=66:=by simpa [lWork,tWork] using h
  rcases this with rfl|rfl<;> exact ⟨rfl,fun i=>rfl,rfl⟩
 ·simp [lWork,tWork] at h
 ·have:f=97:=by simpa [lWork,tWork] using h
  subst this
  refine ⟨rfl,rfl,fun i hi=>?_,rfl⟩
  rcases (show i=1∨2≤i by omega) with rfl|h
  ·exact .inl rfl
  ·exact .inr h
theorem follows_ahead:Tryz.prog.follows .staticDataAhead=true:=by kernel_rfl
theorem let_main:Let Tryz.prog Gg (lMain J) tMain:=by
 refine ⟨fun f hf hn=>?_,fun f hf=>?_,tab_main,follows_ahead,no_step⟩
 ·obtain ⟨fn,c,h1,h2,h3,h4,h5,_⟩:=main_body f hf hn
  exact ⟨fn,c,h1,h2,h3,h4,h5⟩
 ·by_cases hn:f=fQ
  ·subst hn
   obtain ⟨p1,p2⟩:=chk_pool
   have g: ∃fn,Tryz.prog.funcs[(fQ:Nat)]? =some fn∧chkPool fn=true:=by simpa [Option.any_eq_true] using p1
   obtain ⟨fn,h1,h2⟩:=g
   have un: ∀fn:Func,chkPool fn=true→(fn.name== "runtime.NumGoroutine")=false∧fn.body.isNone=false∧fn.norace=false:=fun fn h=>by
    unfold chkPool at h
    simp only [Bool.and_eq_true,Bool.not_eq_true'] at h
    exact ⟨h.2,by cases hb:fn.body<;> simp_all,h.1.2⟩
   exact ⟨⟨fn,h1,un fn h2⟩,⟨poolFn,Gg_pool,un _ p2⟩⟩
  ·obtain ⟨fn,c,h1,h2,h3,_,_,h6,h7⟩:=main_body f hf hn
   exact ⟨⟨fn,h1,h7,by rw [h3];rfl,h6⟩,⟨fn,h2,h7,by rw [h3];rfl,h6⟩⟩
theorem let_work:Let Tryz.prog Gg (lWork J) tWork:=by
 refine ⟨fun f hf hn=>?_,fun f hf=>?_,tab_work,follows_ahead,no_step⟩
 ·obtain ⟨_,fn,c,h1,h2,h3,h4,h5,_⟩:=work_body f hf
  exact ⟨fn,c,h1,h2,h3,h4,h5⟩
 ·obtain ⟨_,fn,c,h1,h2,h3,_,_,h6,h7⟩:=work_body f hf
  exact ⟨⟨fn,h1,h7,by rw [h3];rfl,h6⟩,⟨fn,h2,h7,by rw [h3];rfl,h6⟩⟩
theorem globals_one:Tryz.prog.globals.size=1:=by kernel_rfl
theorem stat_main:Stat Tryz.prog Gg (lMain J) tMain:=⟨globals_one,(stat_types (lMain J)).1,(stat_types (lMain J)).2,let_main⟩
theorem stat_work:Stat Tryz.prog Gg (lWork J) tWork:=⟨globals_one,(stat_types (lWork J)).1,(stat_types (lWork J)).2,let_work⟩
theorem pool_here {Goal:Frame→List Frame→World→Prop} (hg: ∀fr cs w,Goal fr cs w→cs= []∧fr.fn≠fQ) (D:List Frame):PoolOk Pg Gg (lMain J) tMain D Goal:=by
 refine pool_ok (L1:=(lMain J)) (T1:=tMain) (L2:=(lWork J)) (T2:=tWork) ⟨stat_work,rfl,rfl,?_,hg,?_,rfl⟩ ⟨rfl,rfl,rfl,?_,rfl,fun f h=>h,fun s=>rfl,globals_one.symm⟩ D
 ·intro h
  exact (work_body _ h).1 rfl
 ·exact (by decide:tWork.fb 82=true)
 ·intro i hi
  rcases (show i=0∨i=1∨i=2 by omega) with rfl|rfl|rfl<;> rfl
end
end Go.Proofs.YtldmcdeibiclkaaGreatDoor.U
end
