/-
  Toward: treed_holds, each node's digest is that of its children's, for every argument of Treed. A GOROUTINE IN COMPANY, BESIDE ONE THAT IS ALONE (two programs, colours): where the lone one goes on on every tape, the other does.
  GOROUTINE 0 BESIDE LEAVERS, CARRIED BY THE LONE ONE's TREE, from pool to pool: on whatever tape it comes to its return.
-/
import Derived.Test.YtldmcdeibiclkaaGreatDoorC10
import Derived.Conc.Beside
set_option linter.unusedVariables false
set_option linter.unusedSimpArgs false
set_option maxRecDepth 4000
section
namespace Go.Proofs.YtldmcdeibiclkaaGreatDoor.U
open Go.Conc
def Reads (P:Program) {α:Type} (p:Sem α):Prop:=∀w es a w1 es1,p.runT P w es=(.ok a w1,es1)→w1=w
section
variable {P:Program} {α β:Type}
theorem Reads.pure (a:α):Reads P (Pure.pure a:Sem α):=fun w es b w1 es1 h=>by
 have h':(Result.ok a w,es)=(.ok b w1,es1):=h
 simp only [Prod.mk.injEq,Result.ok.injEq] at h'
 exact h'.1.2.symm
theorem Reads.bind {p:Sem α} {f:α→Sem β} (h:Reads P p) (k: ∀a,Reads P (f a)):Reads P (p >>=f):=fun w es b w1 es1 e=>by
 have e':(p.bind f).runT P w es=(.ok b w1,es1):=e
 rw [Sem.runT_bind'] at e'
 cases hr:p.runT P w es with
 |mk r es2=>
  rw [hr] at e'
  cases r with
  |ok a w2=>
   have h1:=h _ _ _ _ _ hr
   subst h1
   exact k a _ _ _ _ _ e'
  |halt x w2=>cases e'
theorem Doomed.reads {p:Sem α} (h:Doomed P p):Reads P p:=fun w es b w1 es1 e=>by
 obtain ⟨_,_,_,e2,_⟩:=h w es
 rw [e] at e2
 cases e2
theorem Reads.load (a:Addr):Reads P (Go.load a):=fun w es b w1 es1 e=>by
 unfold Go.load at e
 rw [Sem.runT] at e
 split at e
 ·exact Reads.pure _ _ _ _ _ _ e
 ·split at e
  ·exact Reads.pure _ _ _ _ _ _ e
  ·cases e
theorem Reads.program:Reads P Go.program:=fun w es b w1 es1 e=>by
 have e':(Result.ok P w,es)=(.ok b w1,es1):=e
 simp only [Prod.mk.injEq,Result.ok.injEq] at e'
 exact e'.1.2.symm
theorem Reads.typeInfo (t:TypeId):Reads P (Go.typeInfo t):=by
 unfold Go.typeInfo
 refine Reads.bind .program fun p=>?_
 split
 ·exact .pure _
 ·exact (Doomed.stuck _).reads
theorem Reads.underlying (t:TypeId):Reads P (Go.underlying t):=by
 unfold Go.underlying
 refine Reads.bind .program fun p=>?_
 split
 ·exact .pure _
 ·exact (Doomed.stuck _).reads
theorem Reads.loadCellsFrom (a:Addr): ∀(n i:Nat) (acc:Array Value),Reads P (Go.loadCellsFrom a i n acc)
 |0,_,_=> .pure _
 |n+1,i,acc=>Reads.bind (.load _) fun v=>Reads.loadCellsFrom a n (i+1) (acc.push v)
theorem Reads.loadVar (t:TypeId) (a:Addr):Reads P (Go.loadVar t a):=by
 unfold Go.loadVar isAgg
 refine Reads.bind (Reads.bind (.underlying t) fun d=>?_) fun b=>?_
 ·split<;> exact .pure _
 ·split
  ·exact Reads.bind (Reads.bind (.typeInfo t) fun _=> .pure _) fun n=>Reads.bind (Reads.loadCellsFrom a n 0 #[]) fun _=> .pure _
  ·exact .load a
theorem Reads.asAddr (v:Value):Reads P (Go.asAddr v):=by
 unfold Go.asAddr
 split
 ·exact .pure _
 ·exact (Doomed.runtimePanic _).reads
 ·exact (Doomed.stuck _).reads
theorem Reads.mapM {f:α→Sem β} (hf: ∀a,Reads P (f a)): ∀l:List α,Reads P (l.mapM f)
 |[]=>by simp only [List.mapM_nil];exact .pure _
 |a::l=>by
  simp only [List.mapM_cons]
  exact Reads.bind (hf a) fun b=>Reads.bind (Reads.mapM hf l) fun bs=> .pure _
theorem Reads.results (fn:Func) (tmps:Array Value):Reads P (Go.results fn tmps):=by
 unfold Go.results
 refine Reads.bind ?_ fun _=> .pure _
 rw [← Array.toArray_toList (xs:=fn.results),List.mapM_toArray]
 refine Reads.bind (Reads.mapM (fun r=>?_) _) fun _=> .pure _
 split
 ·exact .pure _
 ·exact Reads.bind (.asAddr _) fun a=> .loadVar _ a
end
section
variable {P:Program} {G:Array Func} {L:Lim} {T:Tab} {τ υ:Tri}
theorem L2.imp {α β:Type} {R S:α→β→Prop} (hm: ∀a b,R a b→S a b) {xs:List α} {ys:List β} (h:L2 R xs ys):L2 S xs ys:=by
 induction h with
 |nil=>exact .nil
 |cons h _ ih=>exact .cons (hm _ _ h) ih
theorem ItemR.mono (hm:TriLe τ υ) {f:FuncId} {a b:Item} (h:ItemR P L T τ f a b):ItemR P L T υ f a b:=by
 cases h with
 |code h=>exact .code h
 |inBlock i=>exact .inBlock i
 |inLoop h=>exact .inLoop h
 |inRegion t h=>exact .inRegion t h
 |inRangeFunc h=>exact .inRangeFunc (hm.lp _ _ h)
 |endRangeFunc h=>exact .endRangeFunc (hm.lp _ _ h)
 |beginRound=>exact .beginRound
theorem MarkR.mono (hm:TriLe τ υ) {a b:Deferred} (h:MarkR τ a b):MarkR υ a b:=by
 cases h with
 |collected h=>exact .collected (hm.lp _ _ h)
theorem FrR.mono (hm:TriLe τ υ) {fr gr:Frame} (h:FrR P L T τ fr gr):FrR P L T υ fr gr:=
 ⟨h.fn,h.let_,h.np,h.tmps.mono hm,h.todo.imp fun _ _=>ItemR.mono hm,h.defers.imp fun _ _=>MarkR.mono hm,h.mode,h.run,h.kind,h.round.mono hm.lp⟩
theorem ChR.mono (hm:TriLe τ υ) {c:Col} {cs ds:List Frame} (h:ChR P L T τ c cs ds):ChR P L T υ c cs ds:=by
 induction h with
 |nil c=>exact .nil c
 |cons h1 h2 _ ih=>exact .cons (h1.mono hm) h2 ih
theorem KR.mono' {C:FuncId→Code→Prop} (hm:TriLe τ υ) (hb:Fit υ) {r s:Nat} {o q:Obj} (hr:τ.un r s) (h:KR L C τ r s o q):KR L C υ r s o q:=by
 rcases hr with hr|hr|hr
 ·exact KR.ofAll hb (hm.all _ _ hr) ((h.all hr).mono hm)
 ·obtain ⟨xs,ys,e,f,rfl,rfl,hx⟩:=h.box hr
  exact KR.ofBox hb (hm.box _ _ hr) (hx.imp fun _ _=>VR.mono hm.own)
 ·exact KR.ofLp hb (hm.lp _ _ hr) ((h.lp hr).mono hm)
def Tri.ext (τ:Tri) (n m k:Nat) (c:Kd):Tri where
 all r s:=τ.all r s∨(c= .own∧∃i,i< k∧r=n+i∧s=m+i)
 own r s:=τ.own r s∨(c= .own∧∃i,i< k∧r=n+i∧s=m+i)
 box r s:=τ.box r s∨(c= .box∧∃i,i< k∧r=n+i∧s=m+i)
 lp r s:=τ.lp r s∨(c= .lp∧∃i,i< k∧r=n+i∧s=m+i)
theorem Tri.le_ext (n m k:Nat) (c:Kd):TriLe τ (τ.ext n m k c):=⟨fun _ _=> .inl,fun _ _=> .inl,fun _ _=> .inl,fun _ _=> .inl⟩
theorem Tri.ext_un {n m k:Nat} {c:Kd} {r s:Nat}:(τ.ext n m k c).un r s↔τ.un r s∨∃i,i< k∧r=n+i∧s=m+i:=by
 unfold Tri.un Tri.ext
 cases c<;> simp only [reduceCtorEq,false_and,or_false,true_and]
 ·constructor
  ·rintro ((h|h)|h|h)
   ·exact .inl (.inl h)
   ·exact .inr h
   ·exact .inl (.inr (.inl h))
   ·exact .inl (.inr (.inr h))
  ·rintro ((h|h|h)|h)
   ·exact .inl (.inl h)
   ·exact .inr (.inl h)
   ·exact .inr (.inr h)
   ·exact .inl (.inr h)
 ·constructor
  ·rintro (h|(h|h)|h)
   ·exact .inl (.inl h)
   ·exact .inl (.inr (.inl h))
   ·exact .inr h
   ·exact .inl (.inr (.inr h))
  ·rintro ((h|h|h)|h)
   ·exact .inl h
   ·exact .inr (.inl (.inl h))
   ·exact .inr (.inr h)
   ·exact .inr (.inl (.inr h))
 ·constructor
  ·rintro (h|h|h|h)
   ·exact .inl (.inl h)
   ·exact .inl (.inr (.inl h))
   ·exact .inl (.inr (.inr h))
   ·exact .inr h
  ·rintro ((h|h|h)|h)
   ·exact .inl h
   ·exact .inr (.inl h)
   ·exact .inr (.inr (.inl h))
   ·exact .inr (.inr (.inr h))
theorem Tri.ext_mine {n m k:Nat} {c:Kd} {r s:Nat} (h:(τ.ext n m k c).mine r s):τ.mine r s∨∃i,i< k∧r=n+i∧s=m+i:=by
 rcases h with (h|⟨_,h⟩)|(h|⟨_,h⟩)|(h|⟨_,h⟩)
 ·exact .inl (.inl h)
 ·exact .inr h
 ·exact .inl (.inr (.inl h))
 ·exact .inr h
 ·exact .inl (.inr (.inr h))
 ·exact .inr h
theorem Tri.ext_fit {n m k:Nat} {c:Kd} (hb:Fit τ) (hd: ∀r s,τ.un r s→r< n∧s< m):Fit (τ.ext n m k c):=by
 have no: ∀{r s},τ.un r s→∀{t},(∃i,i< k∧r=n+i∧t=m+i)→False:=fun h t ⟨i,_,e,_⟩=>by have:=(hd _ _ h).1;omega
 refine {own:=?_,two:=?_,two':=?_,two'':=?_,fn:=?_,inj:=?_}
 ·rintro r s (h|h)
  ·exact .inl (hb.own _ _ h)
  ·exact .inr h
 ·rintro r s t (h|⟨e,h⟩) (h'|⟨e',h'⟩)
  ·exact hb.two _ _ _ h h'
  ·exact no (.inl h) h'
  ·exact no (Tri.un_box h') h
  ·rw [e] at e';cases e'
 ·rintro r s t (h|⟨e,h⟩) (h'|⟨e',h'⟩)
  ·exact hb.two' _ _ _ h h'
  ·exact no (.inl h) h'
  ·exact no (Tri.un_lp h') h
  ·rw [e] at e';cases e'
 ·rintro r s t (h|⟨e,h⟩) (h'|⟨e',h'⟩)
  ·exact hb.two'' _ _ _ h h'
  ·exact no (Tri.un_box h) h'
  ·exact no (Tri.un_lp h') h
  ·rw [e] at e';cases e'
 ·intro r s t h h'
  rcases Tri.ext_un.1 h with h|⟨i,_,rfl,rfl⟩<;> rcases Tri.ext_un.1 h' with h'|⟨j,_,e,rfl⟩
  ·exact hb.fn _ _ _ h h'
  ·have:=(hd _ _ h).1;omega
  ·have:=(hd _ _ h').1;omega
  ·omega
 ·intro r s t h h'
  rcases Tri.ext_un.1 h with h|⟨i,_,rfl,rfl⟩<;> rcases Tri.ext_un.1 h' with h'|⟨j,_,rfl,e⟩
  ·exact hb.inj _ _ _ h h'
  ·have:=(hd _ _ h).2;omega
  ·have:=(hd _ _ h').2;omega
  ·omega
theorem Tri.ext_flat {n m k:Nat} {c:Kd} (hf:Flat T τ):Flat T (τ.ext n m k c):=by
 refine ⟨?_,fun g hg=> .inl (hf.2 g hg)⟩
 rintro hx r s (h|h)
 ·exact .inl (hf.1 hx _ _ h)
 ·exact .inr h
theorem Tri.ext_kd {n m k:Nat} {c:Kd} {i:Nat} (hi:i< k):(τ.ext n m k c).kd c (n+i) (m+i):=by
 cases c<;> exact .inr ⟨rfl,i,hi,rfl,rfl⟩
end
structure Stat (P:Program) (G:Array Func) (L:Lim) (T:Tab):Prop where
 globals:P.globals.size=T.ng
 ncc: ∀t i n u,P.info? t=some i→i.desc= .named n u→n≠ "sync.copyChecker"
 zero: ∀t i v,P.info? t=some i→i.zero=some v→∀π,VR L π v v
 let_:Let P G L T
structure Sim (P:Program) (G:Array Func) (L:Lim) (T:Tab) (τ:Tri) (B D:List Frame) (g:Goroutine) (w:World) (h:Goroutine) (v:World):Prop where
 g:GR P G L T τ B D g h
 bi:Fit τ
 flat:Flat T τ
 dom: ∀r s,τ.un r s→r< w.heap.size∧s< v.heap.size
 obj: ∀r s,τ.un r s→∃o q,w.heap[r]? =some o∧v.heap[s]? =some q∧KR L (CC P L T) τ r s o q
def EvIn (Rg Wg:Nat→Prop) (e:Event):Prop:=(∃a wr,e=⟨.cell a,wr,false⟩∧Rg a.block∧(wr=true→Wg a.block))∨(∃r wr,e=⟨.obj r,wr,false⟩∧Rg r∧(wr=true→Wg r))∨e=⟨.mark .noRoom,false,true⟩
theorem EvIn.mono {R R' W W':Nat→Prop} (hR: ∀s,R s→R' s) (hW: ∀s,W s→W' s) {e:Event} (h:EvIn R W e):EvIn R' W' e:=by
 rcases h with ⟨a,wr,rfl,h1,h2⟩|⟨r,wr,rfl,h1,h2⟩|rfl
 ·exact .inl ⟨a,wr,rfl,hR _ h1,fun x=>hW _ (h2 x)⟩
 ·exact .inr (.inl ⟨r,wr,rfl,hR _ h1,fun x=>hW _ (h2 x)⟩)
 ·exact .inr (.inr rfl)
theorem evIn_of {τ:Tri} (hb:Fit τ) {e f:Event} (h:EvR τ e f):EvIn (fun s=>∃r,τ.un r s) (fun s=>∃r,τ.mine r s) f:=by
 cases h with
 |cell h=>exact .inl ⟨_,false,rfl,⟨_,h.1⟩,fun x=>by cases x⟩
 |write h=>exact .inl ⟨_,true,rfl,⟨_,hb.mine h.1⟩,fun _=>⟨_,h.1⟩⟩
 |obj h=>exact .inr (.inl ⟨_,false,rfl,⟨_,h⟩,fun x=>by cases x⟩)
 |set h=>exact .inr (.inl ⟨_,true,rfl,⟨_,hb.mine h⟩,fun _=>⟨_,h⟩⟩)
 |noRoom=>exact .inr (.inr rfl)
structure Did (τ:Tri) (v v1:World) (fs:Array Event):Prop where
 grow:v.heap.size≤v1.heap.size
 tape:v1.tape=v.tape
 drawn:v.drawn≤v1.drawn
 os:v1.os=v.os
 output:v1.output=v.output
 away: ∀s,s< v.heap.size→(∀r,¬ τ.mine r s)→v1.heap[s]? =v.heap[s]?
 evs: ∀e∈fs,EvIn (fun s=>(∃r,τ.un r s)∨(v.heap.size≤s∧s< v1.heap.size)) (fun s=>(∃r,τ.mine r s)∨(v.heap.size≤s∧s< v1.heap.size)) e
structure Grew (τ τ1:Tri) (w w1 v v1:World):Prop where
 le:TriLe τ τ1
 un: ∀r s,τ1.un r s→τ.un r s∨(w.heap.size≤r∧r< w1.heap.size∧v.heap.size≤s∧s< v1.heap.size)
 mine: ∀r s,τ1.mine r s→τ.mine r s∨(w.heap.size≤r∧r< w1.heap.size∧v.heap.size≤s∧s< v1.heap.size)
 grow:w.heap.size≤w1.heap.size
 away0: ∀r,r< w.heap.size→(∀s,¬ τ.mine r s)→w1.heap[r]? =w.heap[r]?
section
variable {P:Program} {G:Array Func} {L:Lim} {T:Tab} {τ:Tri} {B D:List Frame}
theorem Stat.env (S:Stat P G L T) (hb:Fit τ) (hfl:Flat T τ):Env P L τ:=
 ⟨hb,fun r s h=>by
  rw [S.globals]
  constructor
  ·intro hr
   rw [hb.fn r s r (.inl h) (.inl (hfl.2 r hr))]
   exact hr
  ·intro hs
   rw [hb.inj r s s (.inl h) (.inl (hfl.2 s hs))]
   exact hs,S.ncc,S.zero⟩
theorem GR.parts {g h:Goroutine} (hG:GR P G L T τ B D g h): ∃cs ds,g= {frame:=g.frame,callers:=cs++B,status:= .running,dying:=none}∧h= {frame:=h.frame,callers:=ds++D,status:= .running,dying:=none}∧ChR P L T τ (retCol L g.frame) cs ds∧BotOk g.frame cs:=by
 obtain ⟨cs,ds,c1,c2,c3,c4⟩:=hG.callers
 refine ⟨cs,ds,?_,?_,c3,c4⟩
 ·have s1:=hG.status.1
  have s2:=hG.dying.1
  have s3:=hG.offers.1
  obtain ⟨a1,a2,a3,a4,a5⟩:=g
  simp only at s1 s2 s3 c1
  rw [s1,s2,s3,c1]
 ·have s1:=hG.status.2
  have s2:=hG.dying.2
  have s3:=hG.offers.2
  obtain ⟨a1,a2,a3,a4,a5⟩:=h
  simp only at s1 s2 s3 c2
  rw [s1,s2,s3,c2]
theorem TopR.runs {fr gr:Frame} (h:TopR P G L T τ fr gr) (hn:fr.fn≠T.pool):FrR P L T τ fr gr:=by
 cases h with
 |run h=>exact h
 |pool=>exact absurd rfl hn
def tapeOf (w v:World):Nat→Question→Nat:=fun i q=>v.tape (i - w.drawn+v.drawn) q
theorem Sim.step (S:Stat P G L T) {g:Goroutine} {w:World} {h:Goroutine} {v:World} (hS:Sim P G L T τ B D g w h v) (m:Bool) (hn:g.frame.fn≠T.pool)
  (hnl: ¬ (g.frame.mode= .returning∧g.frame.defers= []∧g.callers=B)) {g1:Goroutine} {w1:World} {es:Array Event}
  (e:stepG (gp P G) true g {w with tape:=tapeOf w v}= .go g1 w1 es) (hfi:Fine g1):
  ∃h1 v1 fs τ1,stepG P m h v= .go h1 v1 fs∧Sim P G L T τ1 B D g1 w1 h1 v1∧Did τ v v1 fs∧Grew τ τ1 w w1 v v1:=by
 obtain ⟨cs,ds,hg,hh,hcs,hbot⟩:=hS.g.parts
 have hFr:=hS.g.frame.runs hn
 generalize hfr:g.frame=fr at hFr hg hcs hbot hnl
 generalize hgr:h.frame=gr at hFr hh
 subst hg hh
 simp only at hnl e
 have hpn: ∀N c r s,(τ.ext w.heap.size v.heap.size (N - w.heap.size) c).un r s→w.heap.size≤N→r< N:=by
  intro N c r s hx hN
  rcases Tri.ext_un.1 hx with hx|⟨i,hi,rfl,rfl⟩
  ·exact Nat.lt_of_lt_of_le (hS.dom r s hx).1 hN
  ·omega
 have fit: ∀N c,Fit (τ.ext w.heap.size v.heap.size (N - w.heap.size) c):=fun N c=>Tri.ext_fit hS.bi hS.dom
 have sync: ∀N,w.heap.size≤N→Sync L (CC P L T) (τ.ext w.heap.size v.heap.size (N - w.heap.size) (kdOf L fr)) (kdOf L fr) N {w with tape:=tapeOf w v} v:=fun N hN=>by
  refine ⟨fun r s hr hl=>?_,fun i hi=>Tri.ext_kd (by simp only at hi;omega)⟩
  rcases Tri.ext_un.1 hr with hr|⟨i,hi,rfl,rfl⟩
  ·obtain ⟨o,q,h1,h2,h3⟩:=hS.obj r s hr
   exact ⟨o,q,h1,h2,h3.mono' (Tri.le_ext ..) (fit N _) hr⟩
  ·simp only at hl;omega
 have sim: ∀N,w.heap.size≤N→w1.heap.size≤N→_:=fun N hN hN2=>
  sim_step (B:=B) (D:=D) (S.env (fit N (kdOf L fr)) (Tri.ext_flat hS.flat)) S.let_ (Tri.ext_flat hS.flat) (fun r s hx=>hpn N _ r s hx hN) rfl (sync N hN) true m (hFr.mono (Tri.le_ext ..)) (hcs.mono (Tri.le_ext ..)) hbot
   (fun h1 h2 h3=>hnl ⟨h1,h2,by rw [h3];rfl⟩) _ _ _ e hfi hN2 (fun j q _=>by
    show v.tape (v.drawn+j) q=v.tape (w.drawn+j - w.drawn+v.drawn) q
    rw [show w.drawn+j - w.drawn+v.drawn=v.drawn+j by omega])
 have hgrow:w.heap.size≤w1.heap.size:=by
  obtain ⟨_,_,_,_,_,hB⟩:=sim (max w.heap.size w1.heap.size) (by omega) (by omega)
  exact hB.grow
 obtain ⟨h1,v1,fs,e1,hG,hB⟩:=sim w1.heap.size hgrow (Nat.le_refl _)
 have hsz:=hB.size
 simp only at hsz
 generalize hk:w1.heap.size - w.heap.size=k at*
 have hv1:v1.heap.size=v.heap.size+k:=by omega
 refine ⟨h1,v1,fs,τ.ext w.heap.size v.heap.size k (kdOf L fr),e1,⟨hG,Tri.ext_fit hS.bi hS.dom,Tri.ext_flat hS.flat,fun r s hx=>?_,fun r s hx=>?_⟩,?_,⟨Tri.le_ext ..,fun r s hx=>?_,fun r s hx=>?_,hgrow,fun r hr ha=>?_⟩⟩
 ·rcases Tri.ext_un.1 hx with hx|⟨i,hi,rfl,rfl⟩
  ·have:=hS.dom r s hx;omega
  ·omega
 ·refine hB.sync.held r s hx ?_
  rcases Tri.ext_un.1 hx with hx|⟨i,hi,rfl,rfl⟩
  ·have:=hS.dom r s hx;omega
  ·omega
 ·refine ⟨by omega,hB.tape,?_,hB.os,hB.output,fun s hs ha=>?_,?_⟩
  ·have:=hB.drawn;have:=hB.draw;simp only at*;omega
  ·refine hB.away s hs fun r hx=>?_
   rcases Tri.ext_mine hx with hx|⟨i,hi,rfl,rfl⟩
   ·exact ha r hx
   ·omega
  ·obtain ⟨zs,_,z2,z3⟩:=hB.events
   intro x hx
   rw [z2] at hx
   simp only [Array.empty_append] at hx
   obtain ⟨z,hz,rfl⟩:=Array.mem_map.1 hx
   refine (evIn_of (Tri.ext_fit hS.bi hS.dom) (z3 z hz)).mono ?_ ?_
   ·rintro s ⟨r,hx⟩
    rcases Tri.ext_un.1 hx with hx|⟨i,hi,rfl,rfl⟩
    ·exact .inl ⟨r,hx⟩
    ·exact .inr ⟨by omega,by omega⟩
   ·rintro s ⟨r,hx⟩
    rcases Tri.ext_mine hx with hx|⟨i,hi,rfl,rfl⟩
    ·exact .inl ⟨r,hx⟩
    ·exact .inr ⟨by omega,by omega⟩
 ·rcases Tri.ext_un.1 hx with hx|⟨i,hi,rfl,rfl⟩
  ·exact .inl hx
  ·exact .inr (by omega)
 ·rcases Tri.ext_mine hx with hx|⟨i,hi,rfl,rfl⟩
  ·exact .inl hx
  ·exact .inr (by omega)
 ·refine hB.away0 r hr fun s hx=>?_
  rcases Tri.ext_mine hx with hx|⟨i,hi,rfl,rfl⟩
  ·exact ha s hx
  ·omega
theorem Sim.last (S:Stat P G L T) {g:Goroutine} {w:World} {h:Goroutine} {v:World} (hS:Sim P G L T τ B D g w h v) (m:Bool) (hn:g.frame.fn≠T.pool)
  (hl:g.frame.mode= .returning∧g.frame.defers= []∧g.callers=B) {fn:Func} (hfn:P.funcs[g.frame.fn]? =some fn) {x:Value} {t:Nat→Question→Nat}
  (hr:(results fn g.frame.tmps).run (gp P G) {w with tape:=t}= .ok x {w with tape:=t}):
  ∃y fs,CR L τ (L.res g.frame.fn) x y∧(∀e∈fs,EvIn (fun s=>∃r,τ.un r s) (fun s=>∃r,τ.mine r s) e)∧h.callers=D∧h.frame.kind= .normal∧h.frame.fn=g.frame.fn∧
   stepG P m h v=GStep.after fs (doReturn P m h.frame D none y v):=by
 obtain ⟨cs,ds,hg,hh,hcs,hbot⟩:=hS.g.parts
 have hF:=hS.g.frame.runs hn
 obtain ⟨hmode,hdef,hcall⟩:=hl
 have hcs0:cs= []:=by
  rw [hg] at hcall
  simp only at hcall
  simpa using hcall
 subst hcs0
 cases hcs
 have hmode':h.frame.mode= .returning:=hF.mode.trans hmode
 have hdef':h.frame.defers= []:=by
  have:=hF.defers
  rw [hdef] at this
  generalize h.frame.defers=dd at this
  cases this
  rfl
 have hfun':P.funcs[h.frame.fn]? =some fn:=by rw [hF.fn];exact hfn
 obtain ⟨fn',c,b1,_,_,_,hres⟩:=S.let_.body g.frame.fn hF.let_ hF.np
 rw [hfn] at b1
 cases b1
 have hr': ∃es,(results fn g.frame.tmps).runT (gp P G) {w with tape:=t} #[]=(.ok x {w with tape:=t},es):=⟨_,by rw [Sem.runT_eq,hr]⟩
 obtain ⟨es,hr'⟩:=hr'
 have sync:Sync L (CC P L T) τ .own w.heap.size {w with tape:=t} v:=⟨fun r s hr _=>hS.obj r s hr,fun i hi=>by simp only at hi;omega⟩
 obtain ⟨y,v1,fs,e1,hxy,hB⟩:=(R_results (P:=P) (G:=G) (L:=L) (T:=T) hS.bi.toTriOk hS.flat fn hres hF.tmps).adequate hS.bi {w with tape:=t} v #[] #[] x {w with tape:=t} es sync hr' (Nat.le_refl _) (fun j q hj=>by simp only at hj;omega) (fun r s hx=>(hS.dom r s hx).1)
 have hv:v1=v:=Reads.results fn h.frame.tmps _ _ _ _ _ e1
 subst hv
 obtain ⟨zs,_,z2,z3⟩:=hB.events
 have hne:=ev_noExtern z3
 have q2:seen P h.frame.fn fs=fs:=seen_eq (S.let_.norace hF.let').1 (by rw [z2];simpa using hne.2)
 refine ⟨y,fs,hxy,?_,by rw [hh];rfl,hF.kind.2,hF.fn,?_⟩
 ·intro e he
  rw [z2] at he
  simp only [Array.empty_append] at he
  obtain ⟨z,hz,rfl⟩:=Array.mem_map.1 he
  exact evIn_of hS.bi (z3 z hz)
 ·rw [hh]
  have e2:stepG P m {frame:=h.frame,callers:=[]++D,status:= .running,dying:=none} v1=unwind P m h.frame ([]++D) none v1:=by simp only [stepG,hmode']
  rw [e2,unwind_results hdef' hmode' hfun',e1,q2]
  rfl
end
end Go.Proofs.YtldmcdeibiclkaaGreatDoor.U
end
section
namespace Go.Proofs.YtldmcdeibiclkaaGreatDoor.U
open Go.Conc
open Go.ConcN (sumTo upd sumTo_upd upd_ne upd_same)
def ShunB (Sh:Nat→Prop):Loc→Prop
 | .cell a=>Sh a.block
 | .obj r=>Sh r
 |_=>False
abbrev lg (fr:Frame) (cs:List Frame):Goroutine:={frame:=fr,callers:=cs++ [wall],status:= .running,dying:=none}
section
variable {P:Program} {G:Array Func} {L:Lim} {T:Tab} {D:List Frame} {Sh:Nat→Prop} {τ:Tri}
theorem evL_of {Rg Wg:Nat→Prop} {B:Nat} {e:Event} (h:EvIn Rg Wg e) (hs: ∀s,Rg s→¬ Sh s) (hb: ∀s,Rg s→s< B):EvL (ShunB Sh) B e:=by
 rcases h with ⟨a,wr,rfl,hr,_⟩|⟨r,wr,rfl,hr,_⟩|rfl
 ·exact evL_cell a wr (hs _ hr) (hb _ hr)
 ·refine ⟨fun x hx hsx=>?_,by simp,by simp,?_⟩
  ·simp only [MemAct.ofEvent,MemAct.touch?,Option.some.injEq] at hx
   subst hx
   exact absurd hsx (hs _ hr)
  ·simp only [MemAct.ofEvent,MemAct.low,Loc.low]
   exact hb _ hr
 ·exact ⟨fun x hx=>by simp [MemAct.ofEvent,MemAct.touch?] at hx,by simp,by simp,trivial⟩
structure Went (τ τ':Tri) (v v':World):Prop where
 grow:v.heap.size≤v'.heap.size
 tape:v'.tape=v.tape
 os:v'.os=v.os
 output:v'.output=v.output
 away: ∀s,s< v.heap.size→(∀r,¬ τ.un r s)→v'.heap[s]? =v.heap[s]?
 more:TriLe τ τ'
 new: ∀r s,τ'.un r s→τ.un r s∨(v.heap.size≤s∧s< v'.heap.size)
theorem TriLe.refl (τ:Tri):TriLe τ τ:=⟨fun _ _ h=>h,fun _ _ h=>h,fun _ _ h=>h,fun _ _ h=>h⟩
theorem TriLe.trans {a b c:Tri} (h:TriLe a b) (k:TriLe b c):TriLe a c:=⟨fun _ _ x=>k.all _ _ (h.all _ _ x),fun _ _ x=>k.own _ _ (h.own _ _ x),fun _ _ x=>k.box _ _ (h.box _ _ x),fun _ _ x=>k.lp _ _ (h.lp _ _ x)⟩
theorem Went.refl (τ:Tri) (v:World):Went τ τ v v:=⟨Nat.le_refl _,rfl,rfl,rfl,fun _ _ _=>rfl,.refl τ,fun _ _ h=> .inl h⟩
theorem Went.trans {π π1 π2:Tri} {v v1 v2:World} (h:Went π π1 v v1) (k:Went π1 π2 v1 v2):Went π π2 v v2:=by
 have g1:=h.grow
 have g2:=k.grow
 refine ⟨Nat.le_trans g1 g2,k.tape.trans h.tape,k.os.trans h.os,k.output.trans h.output,fun s hs ha=>?_,h.more.trans k.more,fun r s hx=>?_⟩
 ·rw [k.away s (by omega) (fun r hx=>?_),h.away s hs ha]
  rcases h.new r s hx with hy|⟨hy,_⟩
  ·exact ha r hy
  ·omega
 ·rcases k.new r s hx with hy|⟨h1,h2⟩
  ·rcases h.new r s hy with hz|⟨h1,h2⟩
   ·exact .inl hz
   ·exact .inr ⟨h1,by omega⟩
  ·exact .inr ⟨by omega,h2⟩
theorem Sim.at {B D:List Frame} {g:Goroutine} {w:World} {h:Goroutine} {v:World} (hS:Sim P G L T τ B D g w h v) (d:Nat):Sim P G L T τ B D g w h (v.at d):=⟨hS.g,hS.bi,hS.flat,hS.dom,hS.obj⟩
theorem awake_all {t:Trace} {gs:Array Goroutine} {q:Nat→Nat} {a:Goroutine} (hL:Leavers P t gs q) (h0:gs[0]? =some a) (ha:a.status= .running): ∀g∈gs,awake g:=by
 intro g hg
 obtain ⟨i,hi,rfl⟩:=Array.mem_iff_getElem.1 hg
 rcases Nat.eq_zero_or_pos i with rfl|hpos
 ·have:gs[0]=a:=by simpa [Array.getElem?_eq_getElem hi] using h0
  rw [this];exact awake_of (.inl ha)
 ·exact awake_of ((hL.old i _ hpos (Array.getElem?_eq_getElem hi)).status.elim .inl fun x=> .inr (.inr x))
theorem leavers_main {t:Trace} {gs:Array Goroutine} {q:Nat→Nat} {a a':Goroutine} {w':World} {fn:FuncId} {pos:String} {es:Array Event} (hL:Leavers P t gs q) (hsz:0< gs.size):
  Leavers P (t++MemOp.ofEvents 0 fn pos es) ((gs.map (woken P a a' w')).setIfInBounds 0 a') q:=by
 refine ⟨fun j x hj hx=>?_,fun j hj=>?_⟩
 ·have hne:0≠j:=by omega
  rw [Array.getElem?_setIfInBounds_ne hne,Array.getElem?_map] at hx
  obtain ⟨y,hy,rfl⟩:=Option.map_eq_some_iff.1 hx
  have hq:=hL.old j y hj hy
  rw [woken_quitsD hq,Deaf_other t (by omega) _ (fun op hop=>by obtain ⟨e,_,rfl⟩:=Go.Conc.mem_ofEvents hop;rfl)]
  exact hq
 ·simp only [Array.size_setIfInBounds,Array.size_map] at hj
  rw [Deaf_other t (g':=0) (by omega) _ (fun op hop=>by obtain ⟨e,_,rfl⟩:=Go.Conc.mem_ofEvents hop;rfl)]
  exact hL.above j hj
theorem leavers_slip {t:Trace} {gs:Array Goroutine} {q:Nat→Nat} {a:Goroutine} (hL:Leavers P t gs q) (h0:gs[0]? =some a) (ha:a.status= .running) {i:Nat} {g:Goroutine} (hi:gs[i]? =some g) (hpos:0< i) (hg:g.status= .running) (w:World) (sl:Option (Nat×Nat)):
  ∃gs' k es,runT P (crowd gs w sl) i=(.next (crowd gs' w sl),MemOp.ofEvents i g.frame.fn g.frame.place es)∧gs'.size=gs.size∧gs'[0]? =some a∧Leavers P (t++MemOp.ofEvents i g.frame.fn g.frame.place es) gs' (upd q i k)∧(∀e∈es,e.mute=true)∧sumTo gs.size (upd q i k)+1=sumTo gs.size q:=by
 have hq:=hL.old i g hpos hi
 have hi0:(i==0)=false:=by simp;omega
 have hlt:i< gs.size:=(Array.getElem?_eq_some_iff.1 hi).1
 cases hqi:q i with
 |zero=>rw [hqi] at hq;rw [hq.1] at hg;cases hg
 |succ k=>
  rw [hqi] at hq
  rcases hq with ⟨hf,_⟩|⟨_,g',es,hm,hstp,hq'⟩
  ·rw [hf] at hg;cases hg
  have hrunT:=runT_crowd_go (P:=P) (sl:=sl) (i:=i) hi (by rw [hi0];exact hstp w)
  have hsum:sumTo gs.size (upd q i k)+(k+1)=sumTo gs.size q+k:=by
   have:=sumTo_upd q k id hlt
   simpa [hqi] using this
  refine ⟨_,k,es,hrunT,by simp,?_,⟨fun j x hj hx=>?_,fun j hj=>?_⟩,hm,by omega⟩
  ·have hne:i≠0:=by omega
   rw [Array.getElem?_setIfInBounds_ne hne,Array.getElem?_map,h0]
   simp [woken_run ha]
  ·by_cases hji:i=j
   ·subst hji
    rw [Array.getElem?_setIfInBounds_self_of_lt (by simpa using hlt)] at hx
    obtain rfl:=Option.some.inj hx
    rw [upd_same,Deaf_own]
    exact hq'
   ·rw [Array.getElem?_setIfInBounds_ne hji,Array.getElem?_map] at hx
    obtain ⟨y,hy,rfl⟩:=Option.map_eq_some_iff.1 hx
    have hqj:=hL.old j y hj hy
    rw [woken_quitsD hqj,upd_ne q k (Ne.symm hji),Deaf_other t hji _ (fun op hop=>by obtain ⟨e,_,rfl⟩:=Go.Conc.mem_ofEvents hop;rfl)]
    exact hqj
  ·rw [Deaf_other t (g':=i) (by simp at hj;omega) _ (fun op hop=>by obtain ⟨e,_,rfl⟩:=Go.Conc.mem_ofEvents hop;rfl)]
   exact hL.above j (by simpa using hj)
structure Beside0 (P:Program) (G:Array Func) (L:Lim) (T:Tab) (Sh:Nat→Prop) (D:List Frame) (τ:Tri) (fr:Frame) (cs:List Frame) (w:World) (gs:Array Goroutine) (v:World) (t:Trace) (q:Nat→Nat):Prop where
 main: ∃h,gs[0]? =some h∧Sim P G L T τ [wall] D (lg fr cs) w h v
 leavers:Leavers P t gs q
 past:Past (ShunB Sh) v.heap.size t
 apart: ∀r s,τ.un r s→¬ Sh s
 old: ∀s,Sh s→s< v.heap.size
inductive Below (Q:Program) (Goal:Frame→List Frame→World→Prop):Frame→List Frame→World→Frame→List Frame→World→Prop
 |one {fr cs w fr1 cs1 w1} (t:Nat→Question→Nat) (es:Array Event): ¬ Goal fr cs w→stepG Q true (lg fr cs) {w with tape:=t}= .go (lg fr1 cs1) w1 es→Below Q Goal fr cs w fr1 cs1 w1
 |more {fr cs w fr1 cs1 w1 fr2 cs2 w2} (t:Nat→Question→Nat) (es:Array Event): ¬ Goal fr cs w→stepG Q true (lg fr cs) {w with tape:=t}= .go (lg fr1 cs1) w1 es→Below Q Goal fr1 cs1 w1 fr2 cs2 w2→Below Q Goal fr cs w fr2 cs2 w2
def Comes (P:Program) (G:Array Func) (L:Lim) (T:Tab) (D:List Frame) (X:Frame→List Frame→World→Prop) (gs:Array Goroutine) (v:World) (sl:Option (Nat×Nat)) (t:Trace) (τ:Tri):Prop:=
 ∃(N:Nat) (gs':Array Goroutine) (v':World) (sl':Option (Nat×Nat)) (t':Trace) (q':Nat→Nat) (τ':Tri) (fr':Frame) (cs':List Frame) (w':World) (Sh':Nat→Prop),
  runNT P N (crowd gs v sl) t=(.next (crowd gs' v' sl'),t')∧Beside0 P G L T Sh' D τ' fr' cs' w' gs' v' t' q'∧X fr' cs' w'∧Went τ τ' v v'
def PoolOk (P:Program) (G:Array Func) (L:Lim) (T:Tab) (D:List Frame) (Goal:Frame→List Frame→World→Prop):Prop:=
 ∀(fr:Frame) (cs:List Frame) (w:World),fr.fn=T.pool→Safe (gp P G) Goal fr cs w→∀(gs:Array Goroutine) (v:World) (sl:Option (Nat×Nat)) (t:Trace) (q:Nat→Nat) (τ:Tri) (Sh:Nat→Prop),
  Beside0 P G L T Sh D τ fr cs w gs v t q→Comes P G L T D (Below (gp P G) Goal fr cs w) gs v sl t τ
theorem Comes.trans {X Y:Frame→List Frame→World→Prop} {gs:Array Goroutine} {v:World} {sl:Option (Nat×Nat)} {t:Trace} (h:Comes P G L T D X gs v sl t τ)
  (k: ∀gs' v' sl' t' q' τ' fr' cs' w' Sh',Beside0 P G L T Sh' D τ' fr' cs' w' gs' v' t' q'→X fr' cs' w'→Comes P G L T D Y gs' v' sl' t' τ'):Comes P G L T D Y gs v sl t τ:=by
 obtain ⟨N,gs',v',sl',t',q',τ',fr',cs',w',Sh',r1,r2,r3,r4⟩:=h
 obtain ⟨N2,gs2,v2,sl2,t2,q2,τ2,fr2,cs2,w2,Sh2,s1,s2,s3,s4⟩:=k gs' v' sl' t' q' τ' fr' cs' w' Sh' r2 r3
 refine ⟨N+N2,gs2,v2,sl2,t2,q2,τ2,fr2,cs2,w2,Sh2,?_,s2,s3,r4.trans s4⟩
 rw [runNT_add,r1]
 exact s1
theorem walk_one (S:Stat P G L T) {X:Frame→List Frame→World→Prop} {fr:Frame} {cs:List Frame} {w:World} (hn:fr.fn≠T.pool) (hnl: ¬ (fr.mode= .returning∧fr.defers= []∧cs= []))
  {ff:(Nat→Question→Nat)→Frame} {cc:(Nat→Question→Nat)→List Frame} {uu:(Nat→Question→Nat)→World} {ee:(Nat→Question→Nat)→Array Event}
  (hst: ∀t,stepG (gp P G) true (lg fr cs) {w with tape:=t}= .go (lg (ff t) (cc t)) (uu t) (ee t))
  (hfi: ∀t,Fine (lg (ff t) (cc t)))
  (ih: ∀tt (gs:Array Goroutine) (v:World) (sl:Option (Nat×Nat)) (t:Trace) (q:Nat→Nat) (τ:Tri) (Sh:Nat→Prop),Beside0 P G L T Sh D τ (ff tt) (cc tt) (uu tt) gs v t q→Comes P G L T D X gs v sl t τ)
  (gs:Array Goroutine) (v:World) (sl:Option (Nat×Nat)) (t:Trace) (q:Nat→Nat) (hb:Beside0 P G L T Sh D τ fr cs w gs v t q)
  (slip:0< sumTo gs.size q→∀(gs':Array Goroutine) (v':World) (sl':Option (Nat×Nat)) (t':Trace) (q':Nat→Nat),sumTo gs'.size q'< sumTo gs.size q→Beside0 P G L T Sh D τ fr cs w gs' v' t' q'→Comes P G L T D X gs' v' sl' t' τ):
  Comes P G L T D X gs v sl t τ:=by
 obtain ⟨h,h0,hS⟩:=hb.main
 have hrun:h.status= .running:=hS.g.status.2
 have hsz:0< gs.size:=(Array.getElem?_eq_some_iff.1 h0).1
 obtain ⟨i,g,d,sl',hi,hg,hpick⟩:=crowd_pick (P:=P) (w:=v) (sl:=sl) (awake_all hb.leavers h0 hrun) ⟨0,h,h0,hrun⟩
 rcases Nat.eq_zero_or_pos i with rfl|hpos
 ·
  obtain rfl:g=h:=by rw [h0] at hi;exact (Option.some.inj hi).symm
  obtain ⟨h1,v1,fs,π1,e,hS1,hD,hgr⟩:=(hS.at d).step S true hn (fun x=>hnl ⟨x.1,x.2.1,by simpa using x.2.2⟩) (hst (tapeOf w (v.at d))) (hfi _)
  have hrunT:=runT_crowd_go (P:=P) (sl:=sl') (i:=0) hi (show stepG P (0==0) g (v.at d)=_ from e)
  have hgrow:v.heap.size≤v1.heap.size:=hD.grow
  have hb1:Beside0 P G L T Sh D π1 (ff (tapeOf w (v.at d))) (cc (tapeOf w (v.at d))) (uu (tapeOf w (v.at d))) ((gs.map (woken P g h1 v1)).setIfInBounds 0 h1) v1 (t++MemOp.ofEvents 0 g.frame.fn g.frame.place fs) q:=by
   refine ⟨⟨h1,by simp [hsz],hS1⟩,leavers_main hb.leavers hsz,?_,fun r s hx=>?_,fun s hs=>Nat.lt_of_lt_of_le (hb.old s hs) hgrow⟩
   ·refine (hb.past.mono hgrow).own fun ev hev=>evL_of (hD.evs ev hev) ?_ ?_
    ·rintro s (⟨r,hx⟩|⟨hx,_⟩) hsh
     ·exact hb.apart r s hx hsh
     ·have:=hb.old s hsh;simp only [World.at] at hx;omega
    ·rintro s (⟨r,hx⟩|⟨_,hx⟩)
     ·exact Nat.lt_of_lt_of_le ((hS.dom r s hx).2) hgrow
     ·exact hx
   ·rcases hgr.un r s hx with hy|⟨_,_,hy,_⟩
    ·exact hb.apart r s hy
    ·intro hsh
     have:=hb.old s hsh
     simp only [World.at] at hy
     omega
  obtain ⟨N,gs',v',sl'',t',q',τ',fr',cs',w',Sh',r1,r3,r4,r5⟩:=ih _ _ v1 sl' _ q π1 Sh hb1
  refine ⟨N+1,gs',v',sl'',t',q',τ',fr',cs',w',Sh',?_,r3,r4,?_⟩
  ·simp only [runNT,hpick,hrunT]
   exact r1
  ·refine Went.trans ⟨hgrow,hD.tape,hD.os,hD.output,fun s hs ha=>hD.away s hs fun r hx=>ha r (hS.bi.mine hx),hgr.le,fun r s hx=>?_⟩ r5
   rcases hgr.un r s hx with hy|⟨_,_,hy,hz⟩
   ·exact .inl hy
   ·exact .inr ⟨hy,hz⟩
 ·
  obtain ⟨gs',k,es,hr,hs',h0',hL',hmute,hsum⟩:=leavers_slip hb.leavers h0 hrun hi hpos hg (v.at d) sl'
  have hb1:Beside0 P G L T Sh D τ fr cs w gs' (v.at d) (t++MemOp.ofEvents i g.frame.fn g.frame.place es) (upd q i k):=
   ⟨⟨h,h0',hS.at d⟩,hL',hb.past.mute (by omega) hmute,hb.apart,hb.old⟩
  obtain ⟨N,gs2,v2,sl2,t2,q2,τ2,fr2,cs2,w2,Sh2,r1,r3,r4,r5⟩:=slip (by omega) gs' (v.at d) sl' _ (upd q i k) (by rw [hs'];omega) hb1
  refine ⟨N+1,gs2,v2,sl2,t2,q2,τ2,fr2,cs2,w2,Sh2,?_,r3,r4,?_⟩
  ·simp only [runNT,hpick,hr]
   exact r1
  ·exact ⟨r5.grow,r5.tape,r5.os,r5.output,r5.away,r5.more,r5.new⟩
theorem walk_pools (S:Stat P G L T) {Goal:Frame→List Frame→World→Prop} (hpool:PoolOk P G L T D Goal) {fr:Frame} {cs:List Frame} {w:World} (hsafe:Safe (gp P G) Goal fr cs w):
  (∀(gs:Array Goroutine) (v:World) (sl:Option (Nat×Nat)) (t:Trace) (q:Nat→Nat) (τ:Tri) (Sh:Nat→Prop),Beside0 P G L T Sh D τ fr cs w gs v t q→Comes P G L T D Goal gs v sl t τ)∧
  ∀fr2 cs2 w2,Below (gp P G) Goal fr cs w fr2 cs2 w2→∀(gs:Array Goroutine) (v:World) (sl:Option (Nat×Nat)) (t:Trace) (q:Nat→Nat) (τ:Tri) (Sh:Nat→Prop),Beside0 P G L T Sh D τ fr2 cs2 w2 gs v t q→Comes P G L T D Goal gs v sl t τ:=by
 induction hsafe with
 |goal hg=>
  refine ⟨fun gs v sl t q τ Sh hb=>⟨0,gs,v,sl,t,q,τ,_,_,_,Sh,rfl,hb,hg,.refl _ _⟩,fun fr2 cs2 w2 hb=>?_⟩
  cases hb with
  |one t es hn _=>exact absurd hg hn
  |more t es hn _ _=>exact absurd hg hn
 |@step fr cs w ff cc uu ee hng hnl hst hfi hsub ih=>
  have below: ∀fr2 cs2 w2,Below (gp P G) Goal fr cs w fr2 cs2 w2→∀(gs:Array Goroutine) (v:World) (sl:Option (Nat×Nat)) (t:Trace) (q:Nat→Nat) (τ:Tri) (Sh:Nat→Prop),Beside0 P G L T Sh D τ fr2 cs2 w2 gs v t q→Comes P G L T D Goal gs v sl t τ:=by
   intro fr2 cs2 w2 hb
   cases hb with
   |one t es _ e=>
    rw [hst t] at e
    simp only [lg,GStep.go.injEq,Goroutine.mk.injEq,and_true,List.append_cancel_right_eq] at e
    obtain ⟨⟨rfl,rfl⟩,rfl,_⟩:=e
    exact (ih t).1
   |more t es _ e hb=>
    rw [hst t] at e
    simp only [lg,GStep.go.injEq,Goroutine.mk.injEq,and_true,List.append_cancel_right_eq] at e
    obtain ⟨⟨rfl,rfl⟩,rfl,_⟩:=e
    exact (ih t).2 _ _ _ hb
  refine ⟨?_,below⟩
  by_cases hp:fr.fn=T.pool
  ·intro gs v sl t q τ Sh hb
   exact (hpool fr cs w hp (.step ff cc uu ee hng hnl hst hfi hsub) gs v sl t q τ Sh hb).trans fun gs' v' sl' t' q' τ' fr' cs' w' Sh' hb' hx=>below fr' cs' w' hx gs' v' sl' t' q' τ' Sh' hb'
  ·have key: ∀(M:Nat) (gs:Array Goroutine) (v:World) (sl:Option (Nat×Nat)) (t:Trace) (q:Nat→Nat) (τ:Tri) (Sh:Nat→Prop),sumTo gs.size q≤M→Beside0 P G L T Sh D τ fr cs w gs v t q→Comes P G L T D Goal gs v sl t τ:=by
    have hfi': ∀t,Fine (lg (ff t) (cc t)):=fun t=>⟨(hfi t).status,(hfi t).dying,(hfi t).mode,(hfi t).kind⟩
    intro M
    induction M with
    |zero=>
     intro gs v sl t q τ Sh hM hb
     exact walk_one S hp hnl hst hfi' (fun tt=>(ih tt).1) gs v sl t q hb (fun hx=>absurd hx (by omega))
    |succ M ihM=>
     intro gs v sl t q τ Sh hM hb
     exact walk_one S hp hnl hst hfi' (fun tt=>(ih tt).1) gs v sl t q hb (fun _ gs' v' sl' t' q' hsum hb'=>ihM gs' v' sl' t' q' τ Sh (by omega) hb')
   exact fun gs v sl t q τ Sh hb=>key _ gs v sl t q τ Sh (Nat.le_refl _) hb
end
end Go.Proofs.YtldmcdeibiclkaaGreatDoor.U
end
