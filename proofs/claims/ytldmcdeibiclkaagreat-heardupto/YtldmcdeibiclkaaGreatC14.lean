/-
  Toward all_holds
-/
import Derived.Test.YtldmcdeibiclkaaGreatC13
import Derived.Test.YtldmcdeibiclkaaGreatC01
set_option linter.all false
noncomputable section
set_option maxRecDepth 100000
set_option maxHeartbeats 20000000
namespace Go.Proofs.YtldmcdeibiclkaaGreat.U
variable {K:List Nat}{W:af}{J:String->ag}{b N:Nat}{f:au}{π:Nat->Nat->Prop}{x y:ag}{C:au->Code->Prop}{d:Option (List Deferred)}{gr:al}{α:Type}{Φ:ag->af->Prop}
section
open Go.Conc
section
variable {P:aj}{L:aR}{T:bw}{τ:aJ}
structure nc(P:aj)(L:aR)(T:bw):Prop where
 stat:Stat P P.funcs L T
 bL:L.bL=j8
 np: ¬L.fn T.cA
structure fS(P:aj)(L:aR)(T:bw)(τ:aJ)(fr:al)(cs:List al)(w:af):Prop where
 dg:Dg τ
 frame:cL P L T τ fr fr
 callers:iD P L T τ (iX L fr) cs cs
 bot:ko fr cs
 fit:Fit τ
 flat:Flat T τ
 dq:∀r s,τ.un r s->r<w
 obj:∀r s,τ.un r s->∃o q,w.heap[r]?=some o/\w.heap[s]?=some q/\KR L (CC P L T) τ r s o q
 yQ:jj w
def lQ(P:aj)(L:aR)(T:bw)(fr:al)(cs:List al)(w:af):Prop:=∃τ,fS P L T τ fr cs w
variable {fr:al}{cs B:List al}{w:af}
abbrev gX(τ:aJ)(w:af)(N:Nat)(k:Kd):aJ:=τ.ext w w (N-w.heap.size) k
theorem fS.N8(h:fS P L T τ fr cs w):∀r s,τ.un r s->r<w/\s<w:=λr s x=>⟨h.dq r s x,by rw[<-h.dg r s x];exact h.dq r s x⟩
theorem fS.AX(h:fS P L T τ fr cs w)(N:Nat)(k:Kd):Dg (gX τ w N k):=λr s x=>by
 rcases aJ.jJ.1 x with x|⟨i,_,rfl,rfl⟩
 .exact h.dg r s x
 .rfl
def fS.kM(h:fS P L T τ fr cs w)(N:Nat)(k:Kd):Fit (gX τ w N k):=aJ.xU h.fit h.N8
theorem fS.qm(h:fS P L T τ fr cs w)(a:w<=N)(k:Kd):∀r s,(gX τ w N k).un r s->r<N:=λr s x=>by
 rcases aJ.jJ.1 x with x|⟨i,hi,rfl,rfl⟩
 .exact abc (h.dq r s x) a
 .omega
theorem fS.sync(h:fS P L T τ fr cs w)(t:Nat->Question->Nat)(j:w<=N)(k:Kd):Sync L (CC P L T) (gX τ w N k) k N w {w with tape:=t}:=by
 refine⟨λr s a hl=>?_,λi hi=>aJ.Hg zo⟩;rcases aJ.jJ.1 a with a|⟨i,hi,rfl,rfl⟩
 .obtain⟨o,q,c,e,g⟩:=h.obj r s a;exact⟨o,q,c,e,g.Bb (aJ.iy ..) (h.kM N k) a⟩
 .omega
theorem gR.An{q:Obj}(h:gR L C τ (.deferred d) q):d=none\/d=some []:=by
 cases h with
 |deferred h=>exact h
theorem KR.An{r s:Nat}{q:Obj}(h:KR L C τ r s (.deferred d) q)(a:τ.un r s):d=none\/d=some []:=by
 rcases a with a|a|a
 .have:=h.all a;cases this
 .obtain⟨xs,ys,e,f,c,_⟩:=h.box a;cases c
 .exact (h.lp a).An
theorem fS.behind(h:fS P L T τ fr cs w){k:Kd}{v w1 v1:af}{es fs es1 fs1:Array Event}(t:w<=w1.heap.size)(i:dN L (CC P L T) (gX τ w w1 k) k w1 w v w1 v1 es fs es1 fs1):jj w1:=by
 intro r d e;have l:=(IN.1 e).1;by_cases c: ∃s,(gX τ w w1 k).un r s
 .obtain⟨s,c⟩:=c;obtain⟨o,q,j,u,m⟩:=i.sync.held r s c l;rw[e]at j;cases j;exact m.An c
 .have g:r<w:=Nat.lt_of_not_le λn=>c ⟨r,aJ.jJ.2 (.inr ⟨r-w.heap.size,zo,zo,zo⟩)⟩;have p:=i.pS r g λs a=>c ⟨s,by
   rcases a with a|a|a
   .exact .inl ((h.kM w1 k).own _ _ a)
   .exact .inr (.inl a)
   .exact .inr (.inr a)⟩
  rw[p]at e;exact h.yQ r d e
theorem fS.step(A:nc P L T)(h:fS P L T τ fr cs w)(E:fr.mode=.returning->fr.defers= []->cs≠[]){m:Bool}{g1:ai}{w1:af}{es:Array Event}(e:stepG P m {frame:=fr,callers:=cs++B,status:=.running,dying:=none} w=.go g1 w1 es)(hf:jw g1):
  ∃fr1 cs1,g1= {frame:=fr1,callers:=cs1++B,status:=.running,dying:=none}/\lQ P L T fr1 cs1 w1/\w1.tape=w.tape/\w.drawn<=w1.drawn/\
   ∀t:Nat->Question->Nat,(∀i q,w.drawn<=i->i<w1.drawn->t i q=w.tape i q)->
    stepG P m {frame:=fr,callers:=cs++B,status:=.running,dying:=none} {w with tape:=t}=.go g1 {w1 with tape:=t} es:=by
 have lC:∀(t:Nat->Question->Nat) N,w.heap.size<=N->w1.heap.size<=N->(∀j q,w.drawn+j<w1.drawn->t (w.drawn+j) q=w.tape (w.drawn+j) q)->_:=λt N hN R S=>
  Dw (P:=P) (G:=P.funcs) (B:=B) (D:=B) (A.stat.env (h.kM N (jd L fr)) (aJ.kQ h.flat)) A.stat.cY (aJ.kQ h.flat) (h.qm hN _) rfl (h.sync t hN _) m m (h.frame.mono (aJ.iy ..)) (h.callers.mono (aJ.iy ..)) h.bot
   E g1 w1 es e hf R S
 have n:w<=w1.heap.size:=by
  obtain⟨_,_,_,_,_,H⟩:=lC w.tape (max w w1) zo zo (λ_ _ _=>rfl);exact H.grow
 obtain⟨h1,v1,fs,e2,I,H⟩:=lC w.tape w1 n zf (λ_ _ _=>rfl);have M:stepG P m {frame:=fr,callers:=cs++B,status:=.running,dying:=none} w=.go h1 v1 fs:=e2;rw[e]at M;cases M;obtain⟨cs1,ad,c1,c2,c3,c4⟩:=I.callers;have U:=acG (c1.symm.trans c2);subst U;have u:∀{τ:aJ} {a b:al},jC P P.funcs L T τ a b->cL P L T τ a b:=λh=>by
  cases h with
  |run h=>exact h
  |cA h=>exact absurd h A.np
 refine⟨g1.frame,cs1,?_,⟨gX τ w w1 (jd L fr),h.AX _ _,u I.frame,c3,c4,h.kM _ _,aJ.kQ h.flat,h.qm n _,λr s c=>H.sync.held r s c (h.qm n _ r s c),h.behind n H⟩,H.wV,H.draw,λt S=>?_⟩
 .obtain⟨a1,a2,a3,a4,a5⟩:=g1;have s1:=I.status.1;have s2:=I.dying.1;have s3:=I.offers.1;grind
 .obtain⟨h2,Q,V,e3,l,g⟩:=lC t w1 n zf (λj q hj=>S _ q (Nat.le_add_right _ _) hj);obtain⟨cs2,an,d1,d2,d3,d4⟩:=l.callers;have p:=(h.kM w1 (jd L fr)).togU;have k:=h.AX w1 (jd L fr);have hg:h2=g1:=by
   have k1:=cL.dg A.bL p k (u l.frame);have k2:=iD.dg A.bL p k d3;have s1:=l.status;have s2:=l.dying;have s3:=l.offers;clear l I hf e e2 H g lC;obtain⟨a1,a2,a3,a4,a5⟩:=g1;obtain⟨b1,b2,b3,b4,b5⟩:=h2;grind
  have hw:Q= {w1 with tape:=t}:=by
   have z1:=g.size;have z2:=g.drawn;have z3:=g.tape;have z4:=g.os;have z5:=g.output;have z6:=g.Ae;have z7:=g.y9;have X:Q.heap=w1.heap:=by
    apply Array.ext_getElem?;intro r;by_cases hr:r<w1
    .by_cases v: ∃s,(gX τ w w1 (jd L fr)).un r s
     .obtain⟨s,v⟩:=v;obtain⟨o,q,Y,y2,Z⟩:=g.sync.held r s v hr;have ab:=k r s v;subst ab;rw[Y,y2,KR.dg A.bL p k Z v]
     .have O:r<w:=Nat.lt_of_not_le λao=>v ⟨r,aJ.jJ.2 (.inr ⟨r-w.heap.size,zo,zo,zo⟩)⟩;have un:∀{r s},(gX τ w w1 (jd L fr)).mine r s->(gX τ w w1 (jd L fr)).un r s:=λc=>by
       rcases c with c|c|c
       .exact .inl (p.own _ _ c)
       .exact .inr (.inl c)
       .exact .inr (.inr c)
      have y:=g.ix r O λr' c=>v ⟨r,by have:=k _ _ (un c);subst this;exact un c⟩;have y':=g.pS r O λs c=>v ⟨s,un c⟩;rw[y,y']
    grind
   have aq:Q.drawn=w1.drawn:=zg;obtain⟨q1,q2,q3,q4,q5⟩:=Q;grind
  have ar:V=es:=by
   obtain⟨zs,Y,y2,Z⟩:=g.events;rw[Y,y2];congr 1;refine Array.map_congr_left λz hz=>?_;obtain⟨z1,z2⟩:=z;have un:∀{r s},(gX τ w w1 (jd L fr)).mine r s->r=s:=λc=>k _ _ (by
    rcases c with c|c|c
    .exact .inl (p.own _ _ c)
    .exact .inr (.inl c)
    .exact .inr (.inr c))
   have c:=Z _ hz;cases c with
   |cell h=>rw[AR.dg k h]
   |write h=>rw[AR.dg (λ_ _ x=>un x) h]
   |obj h=>rw[k _ _ h]
   |set h=>rw[un h]
   |noRoom=>rfl
  grind
end
end
section
open Go.Conc
section
variable {P:aj}{L:aR}{T:bw}{τ:aJ}{F:au->Prop}{fr:al}{cs B:List al}{w:af}
def Marks(ds:List Deferred):Prop:=∀d∈ds,∃r,d= {target:=.collected r,args:=#[]}
def mQ(F:au->Prop)(fr:al):Prop:=F fr.fn/\Marks fr.defers
def Dl(F:au->Prop)(B:List al)(g:ai)(w:af):Prop:=
 ∃fr cs ch,g= {frame:=fr,callers:=cs++B,status:=.running,dying:=none}/\fr.mode=.panicking ch/\mQ F fr/\(∀c∈cs,mQ F c)/\jj w
def ig(F:au->Prop)(B:List al)(s:GStep):Prop:=
 (∃g1 w1 es,s=.go g1 w1 es/\jw g1)\/(∃o w1 es,s=.ended o w1 es)\/(∃g1 w1 es,s=.go g1 w1 es/\Dl F B g1 w1)
theorem ig.after{s:GStep}(h:ig F B s)(es:Array Event):ig F B (GStep.after es s):=by
 rcases h with⟨g,w,a,rfl,h⟩|⟨o,w,a,rfl⟩|⟨g,w,a,rfl,h⟩
 .exact .inl ⟨g,w,_,rfl,h⟩
 .exact .inr (.inl ⟨o,w,_,rfl⟩)
 .exact .inr (.inr ⟨g,w,_,rfl,h⟩)
theorem Ud{xs ys:List Deferred}(h:L2 (j7 τ) xs ys):Marks xs:=by
 induction h with
 |nil=>intro d a;cases a
 |cons h _ c=>
  intro d a;cases a with
  |head=>cases h;exact⟨_,rfl⟩
  |tail _ a=>exact c d a
def cL.zT(h:cL P L T τ fr gr):mQ L.fn fr:=⟨h.cY,Ud h.defers⟩
theorem Ig{c:cy}{ds:List al}(h:iD P L T τ c cs ds):∀c∈cs,mQ L.fn c:=by
 induction h with
 |nil=>intro c a;cases a
 |cons h _ _ e=>
  intro c a;cases a with
  |head=>exact h.zT
  |tail _ a=>exact e c a
theorem xL(fr:al)(v:ag):(fr.finish v).kind=fr.kind:=by
 unfold Frame.finish;split<;>rfl
theorem raise_mode(fr:al)(vs:List PanicEntry): ∃ch,(fr.raise vs).mode=.panicking ch:=by
 unfold Frame.raise;split
 .exact⟨_,rfl⟩
 .exact⟨_,rfl⟩
theorem DX{fr:al}(h:mQ F fr)(vs:List PanicEntry):mQ F (fr.raise vs):=by
 unfold Frame.raise;split<;>exact h
theorem DM{fr:al}(h:mQ F fr)(a:∀c∈cs,mQ F c)(e:jj w)(vs:List PanicEntry):Dl F B {frame:=fr.raise vs,callers:=cs++B,status:=.running,dying:=none} w:=by
 obtain⟨ch,g⟩:=raise_mode fr vs;exact⟨fr.raise vs,cs,ch,rfl,g,DX h vs,a,e⟩
theorem cL.uL(h:cL P L T τ fr gr):∀c,fr.mode≠.panicking c:=by
 intro c e;rcases h.run with h|h
 .rw[h]at e;cases e
 grind
theorem fS.fG(h:fS P L T τ fr cs w)(k:Kd){R:aJ->α->α->Prop}{p:Sem α}(j:∀N,w.heap.size<=N->aD P P.funcs L (CC P L T) (gX τ w N k) k (R (gX τ w N k)) p p):
  (∃a b w1 es,p.runT P w #[]=(.ok a w1,es)/\w<=w1.heap.size/\R (gX τ w w1 k) a b/\(∀r s,(gX τ w w1 k).un r s->∃o q,w1.heap[r]?=some o/\w1.heap[s]?=some q/\KR L (CC P L T) (gX τ w w1 k) r s o q)/\jj w1)\/(∃i w1 es,p.runT P w #[]=(.halt i w1,es)/\nI i/\jj w1):=by
 cases e:p.runT P w #[] with
 |mk r es=>
  cases r with
  |ok a w1=>
   have c:=(Sem.rO P _ _ _ e).1;obtain⟨b,v1,fs,n,t,l⟩:=(j w1 c).vh (h.kM _ _) w {w with tape:=w.tape} #[] #[] a w1 es (h.sync w.tape c k) e zf (λ_ _ _=>rfl) (h.qm c k);have g:=n;rw[e]at g;cases g;exact .inl ⟨a,a,w1,es,rfl,c,t,λr s m=>l.sync.held r s m (h.qm c k r s m),h.behind c l⟩
  |halt i w1=>
   have c:=Sem.ym P _ _ _ e;obtain⟨u,v⟩:=(j w1 c).U0 (h.kM _ _) w {w with tape:=w.tape} #[] i w1 es (h.sync w.tape c k) h.yQ e zf (h.qm c k);grind
theorem Wj(A:nc P L T)(fr:al)(cs:List al)(g:Nat)(w:af): ∃o w1 es,early P fr cs none g w=.ended o w1 es:=by
 have a:∀g,P.stepOf g=none:=A.stat.cY.vI;unfold early;simp only[A.stat.cY.ahead,a];simp_all
theorem fS.As(A:nc P L T)(h:fS P L T τ fr cs w){k:Kd}{c:cy}{p:Sem Next}(n:∀N,w.heap.size<=N->aD P P.funcs L (CC P L T) (gX τ w N k) k (dX L (CC P L T) (gX τ w N k) T.fl c) p p):
  ig L.fn B (stepG.apply P true fr (cs++B) none p w):=by
 have i:(fr.kind==CallKind.early)=false:=by rw[h.frame.kind.1];rfl
 have m:=(Jh h.frame.todo).1;have j:=h.frame.uL;rcases h.fG k (R:=λσ=>dX L (CC P L T) σ T.fl c) n with⟨a,b,w1,es,l,_,q,_,_⟩|⟨r,w1,es,l,t,z⟩
 .simp only[stepG.apply,abj,l,i,abf,abd];refine ig.after ?_ _;cases q with
  |value hv=>exact .inl ⟨_,_,_,rfl,rfl,rfl,λc e=>j c ((xK _ _).symm.trans e),(xL _ _).trans h.frame.kind.1⟩
  |skip=>exact .inl ⟨_,_,_,rfl,rfl,rfl,λc e=>j c ((xK _ _).symm.trans e),(xL _ _).trans h.frame.kind.1⟩
  |enter G H=>exact .inl ⟨_,_,_,rfl,rfl,rfl,λc e=>(by cases e),m⟩
  |round=>exact .inl ⟨_,_,_,rfl,rfl,rfl,λc e=>(by cases e),rfl⟩
 .cases r with
  |panic v=>
   simp only[stepG.apply,abj,l,i,abf,abd];exact ig.after (.inr (.inr ⟨_,_,_,rfl,DM h.frame.zT (Ig h.callers) z _⟩)) _
  |stuck s=>
   simp only[stepG.apply,abj,l,i,abf,abd];exact ig.after (.inr (.inl ⟨_,_,_,rfl⟩)) _
  |unsupported u=>
   cases u with
   |initOrder g=>
    obtain⟨o,w2,D,E⟩:=Wj A fr (cs++B) g w1;simp only[stepG.apply,abj,l,i,abf,abd,E];exact ig.after (.inr (.inl ⟨_,_,_,rfl⟩)) _
   |_=>
    simp only[stepG.apply,abj,l,i,abf,abd];exact ig.after (.inr (.inl ⟨_,_,_,rfl⟩)) _
  |_=>exact t.elim
theorem fS.GH(h:fS P L T τ fr cs w)(c:cs≠[]){m:Bool}(v:ag)(w1:af):ig L.fn B (doReturn P m fr (cs++B) none v w1):=by
 have a:=h.callers;cases a with
 |nil=>exact absurd rfl c
 |cons a _ _=>
  simp only[abT,doReturn,h.frame.kind.1];exact .inl ⟨_,_,_,rfl,rfl,rfl,λx e=>a.uL x ((xK _ _).symm.trans e),(xL _ _).trans a.kind.1⟩
end
end
section
open Go.Conc
section
variable {P:aj}{L:aR}{T:bw}{τ:aJ}{F:au->Prop}{fr:al}{cs B:List al}{w:af}
theorem L2.eq{R:α->α->Prop}(c:∀a b,R a b->a=b){xs ys:List α}(h:L2 R xs ys):xs=ys:=by
 induction h with
 |nil=>rfl
 |cons h _ e=>rw[c _ _ h,e]
theorem fS.BN(A:nc P L T)(h:fS P L T τ fr cs w)(u:fr.mode=.returning->fr.defers= []->cs≠[])(m:Bool):
  ig L.fn B (stepG P m {frame:=fr,callers:=cs++B,status:=.running,dying:=none} w):=by
 have g:=h.frame;have K:=A.stat.cY;have go:∀(k:List Item) (w1:af),ig L.fn B (.go {frame:={fr with todo:=k},callers:=cs++B,status:=.running,dying:=none} w1):=λk w1=>
  .inl ⟨_,_,_,rfl,rfl,rfl,g.uL,g.kind.1⟩
 rcases g.run with O|⟨q,_⟩
 .have Q:stepG P m {frame:=fr,callers:=cs++B,status:=.running,dying:=none} w=stepG.exec P m true fr (cs++B) none w:=by simp only[stepG,O]
  rw[Q];have leave:∀(jump:Option Code),(∀c,jump=some c->Jump c)->ig L.fn B (ni P m fr (cs++B) w jump fr.roundOf):=by
   intro jump hj;have S:=g.round;rcases I:fr.roundOf with _|l
   .unfold ni;by_cases U:Bj jump=true
    .simp only[U,abj];exact .inl ⟨_,_,_,rfl,rfl,rfl,λc e=>(by cases e),g.kind.1⟩
    .simp only[U,abf,abd];exact .inr (.inl ⟨_,_,_,rfl⟩)
   .unfold ni;rw[I]at S;refine ig.after ?_ _;rcases h.fG .own (R:=λσ=>CR L σ .any) (p:=Instr.endRound l jump) (λN z=>Gp ((aJ.iy ..).lp _ _ S) hj) with⟨a,b,w1,es,e,_⟩|⟨M,w1,es,e,_⟩
    .rw[e];exact h.GH (Aq h.bot I) a w1
    .rw[e];exact .inr (.inl ⟨_,_,_,rfl⟩)
  have ht:=g.todo;generalize j:fr.todo=k at ht;cases k with
  |nil=>rw[yW j];grind
  |cons it k=>
   cases ht with
   |cons hi hk=>
    cases hi with
    |inBlock id=>simp only[stepG.exec,j];exact go _ _
    |inLoop t=>simp only[stepG.exec,j];exact go _ _
    |beginRound=>
     simp only[stepG.exec,j];refine h.As A (k:=.own) (c:=.any) λN z=>?_;have S:=g.round;cases I:fr.roundOf with
     |none=>exact .aE _ (aM.bind' (.stuck _))
     |some l=>
      rw[I]at S;exact aD.bind' (E6 ((aJ.iy ..).lp _ _ S)) λ_ _ _=>.pure .skip
    |inRangeFunc hl=>simp only[stepG.exec,j];exact .inr (.inl ⟨_,_,_,rfl⟩)
    |@endRangeFunc lp _ hl=>
     rw[Ax j];refine ig.after ?_ _;rcases h.fG .own (R:=λ_ a b=>a=b/\∀c,a=some c->Jump c) (p:=Instr.endLoop lp) (λN z=>Hy ((aJ.iy ..).lp _ _ hl)) with⟨a,b,w1,es,e,_⟩|⟨M,w1,es,e,ht,hd⟩
     .rw[e];exact go _ _
     .rw[e];cases M with
      |panic v=>exact .inr (.inr ⟨_,_,_,rfl,DM g.zT (Ig h.callers) hd _⟩)
      |_=>exact .inr (.inl ⟨_,_,_,rfl⟩)
    |@inRegion ops todo V=>
     cases todo with
     |nil=>simp only[stepG.exec,j];exact go _ _
     |cons i rest=>
      rw[Cp j];split
      .rename_i hw;have o1:fr.oper?=ops[i]? :=by unfold Frame.oper?;rw[j]
       cases ho:ops[i]? with
       |none=>grind
       |some o=>
        have X:=acH.1 V o (acx ho);rw[Cb (o1.trans ho) X];exact h.As A λN z=>GF (A.stat.env (h.kM N _) (aJ.kQ h.flat)) K.tw K.rT (aJ.kQ h.flat) ⟨λ_=>rfl,λ_=>rfl⟩ (λc x Y=>(g.mono (aJ.iy ..)).eval K (h.kM N _).togU (aJ.kQ h.flat) c x Y) o X
      .exact .inl ⟨_,_,_,rfl,rfl,rfl,λc e=>g.uL c ((xK _ _).symm.trans e),(xL _ _).trans g.kind.1⟩
    |@code c t=>
     cases c with
     |skip=>simp only[stepG.exec,j];exact go _ _
     |ret=>rw[yw j];exact leave (some .ret) (λc t=>by cases t;exact .inl rfl)
     |seq x y=>simp only[stepG.exec,j];exact go _ _
     |cond c x y=>
      simp only[stepG.exec,j];split
      .exact go _ _
      .exact .inr (.inl ⟨_,_,_,rfl⟩)
     |block id c=>simp only[stepG.exec,j];exact go _ _
     |loop c=>simp only[stepG.exec,j];exact go _ _
     |exit id=>
      cases he:exitTo id k with
      |none=>rw[Bl j he];exact leave (some (.exit id)) (λc t=>by cases t;exact .inr ⟨_,rfl⟩)
      |some k'=>simp only[stepG.exec,j,he,Option.elim];exact go _ _
     |region id ops draw=>
      cases draw with
      |false=>rw[BI j];exact go _ _
      |true=>rw[Az j];exact go _ _
     |rangeFunc f ps x y=>
      simp only[eN,No]at t;rw[A5 j];refine ig.after ?_ _;rcases h.fG .lp (R:=λσ a b=>σ.lp a.1 b.1/\L2 (j7 σ) a.2 b.2) (p:=Instr.enterLoop fr.fn fr.tmps ps x y fr.roundOf) (λN z=>GJ (g.mono (aJ.iy ..)) ps (λp hp=>by simpa using acH.1 t.1.1.2 p hp) t.1.2 t.2) with⟨a,b,w1,es,e,hg,⟨hl,hm⟩,ad,D⟩|⟨M,w1,es,e,_⟩
      .rw[e];obtain⟨lp,mark⟩:=a;obtain⟨lq,an⟩:=b;simp only at hl hm;have E:=h.AX w1 .lp;have Q:=E _ _ (.inr (.inr hl));have e2:=hm.eq λa b Y=>by
        cases Y with
        |collected Y=>rw[E _ _ (.inr (.inr Y))]
       subst Q e2;have H:fS P L T (gX τ w w1 .lp) {fr with todo:=.inRangeFunc lp::k,defers:=mark++fr.defers} cs w1:=by
        have n:=g.mono (aJ.iy w w (w1.heap.size-w.heap.size) .lp);have ao:L2 (gE P L T (gX τ w w1 .lp) fr.fn) k k:=by
         have:=n.todo;rw[j]at this;cases this with
         |cons _ hk=>exact hk
        exact⟨E,⟨n.fn,n.cY,n.np,n.tmps,.cons (.inRangeFunc hl) ao,hm.append n.defers,n.mode,n.run,n.kind,n.round⟩,h.callers.mono (aJ.iy ..),h.bot.same rfl,h.kM _ _,aJ.kQ h.flat,h.qm hg _,ad,D⟩
       refine H.As A (k:=.own) (c:=.any) λN z=>?_;have aq:=H.frame.mono (aJ.iy w1 w1 (N-w1.heap.size) .own)
       have:=IY (P:=P) (G:=P.funcs) (C:=CC P L T) (k₀:=.own) (H.kM N .own).togU (aJ.kQ H.flat) K.tw K.rT (fl:=T.fl) (c:=.any) (BD _ _) (aq.eval K (H.kM N .own).togU (aJ.kQ H.flat) .eT f t.1.1.1) ((aJ.iy ..).lp _ _ hl);show aD P P.funcs L (CC P L T) _ .own (dX L (CC P L T) _ T.fl .any)
        (do let d ←Deferred.ofValue (({fr with todo:=.inRangeFunc lp::k,defers:=mark++fr.defers}:al).eval f) ((#[.const (.func (.yield lp) #[] #[])]:Array ax).map ({fr with todo:=.inRangeFunc lp::k,defers:=mark++fr.defers}:al).eval);invoke d.target d.args)
        (do let d ←Deferred.ofValue (({fr with todo:=.inRangeFunc lp::k,defers:=mark++fr.defers}:al).eval f) ((#[.const (.func (.yield lp) #[] #[])]:Array ax).map ({fr with todo:=.inRangeFunc lp::k,defers:=mark++fr.defers}:al).eval);invoke d.target d.args)
       rw[ve];exact this
      .rw[e];exact .inr (.inl ⟨_,_,_,rfl⟩)
     |refuse y=>simp only[stepG.exec,j];exact .inr (.inl ⟨_,_,_,rfl⟩)
     |_=>cases t
 .have Q:stepG P m {frame:=fr,callers:=cs++B,status:=.running,dying:=none} w=unwind P m fr (cs++B) none w:=by simp only[stepG,q]
  rw[Q];have Z:=g.defers;generalize j:fr.defers=k at Z;cases k with
  |nil=>
   obtain⟨fn,c,I,_,H,_,ab⟩:=K.body fr.fn g.cY g.np;rw[sR j q I];refine ig.after ?_ _;rcases h.fG .own (R:=λσ=>CR L σ (L.res fr.fn)) (p:=results fn fr.tmps) (λN z=>yz (h.kM N _).togU (aJ.kQ h.flat) fn ab (g.mono (aJ.iy ..)).tmps) with⟨a,b,w1,es,e,_⟩|⟨M,w1,es,e,_⟩
   .rw[e];exact h.GH (u q j) a w1
   .rw[e];cases M<;>exact .inr (.inl ⟨_,_,_,rfl⟩)
  |cons d ks=>
   cases Z with
   |cons hi _=>
    cases hi with
    |@collected r s ar=>
     rw[unwind_mark j];refine ig.after ?_ _;rcases h.fG .own (R:=λ_ a b=>a= []/\b= []) (p:=Instr.takeDeferred r) (λN z=>Ez ((aJ.iy ..).lp _ _ ar)) with⟨a,b,w1,es,e,_⟩|⟨M,w1,es,e,_⟩
     .rw[e];exact .inl ⟨_,_,_,rfl,rfl,rfl,g.uL,g.kind.1⟩
     .rw[e];exact .inr (.inl ⟨_,_,_,rfl⟩)
theorem VZ(r:Nat)(w:af)(j:jj w):(∃w1 es,(Instr.takeDeferred r).runT P w #[]=(.ok [] w1,es)/\jj w1)\/(∃k w1 es,(Instr.takeDeferred r).runT P w #[]=(.halt k w1,es)):=by
 have e:∀o,w.heap[r]?=some o->(∀c i f,o≠.cells c i f)->(Instr.takeDeferred r).runT P w #[]=
   ((match o with|.deferred (some ds)=>(do setObj r (.deferred none);pure ds:Sem (List Deferred))|_=>stuck "range over a function: the deferred calls have been taken")).runT P w (#[].push ⟨.obj r,false,o.isChan⟩):=by
  intro o g l;unfold Instr.takeDeferred;show(Sem.getObj r _).runT P w #[]=_;rw[Sem.runT,g];cases o with
  |cells c i f=>grind
  |deferred d=>cases d<;>rfl
  |_=>rfl
 cases g:w.heap[r]? with
 |none=>
  refine .inr ⟨.stuck "getObj: no such block",w,#[],?_⟩;unfold Instr.takeDeferred;show(Sem.getObj r _).runT P w #[]=_;rw[Sem.runT,g]
 |some o=>
  cases o with
  |cells c i f=>
   refine .inr ⟨.stuck "getObj: a row of cells",w,#[],?_⟩;unfold Instr.takeDeferred;show(Sem.getObj r _).runT P w #[]=_;rw[Sem.runT,g]
  |deferred d=>
   rw[e _ g zp];rcases j r d g with rfl|rfl
   .simp_all
   .refine .inl ⟨{w with heap:=w.heap.setIfInBounds r (.deferred none)},(#[].push ⟨.obj r,false,false⟩).push ⟨.obj r,true,false⟩,?_,?_⟩
    .show (Sem.setObj r (.deferred none) _).runT P w _=_;rw[Sem.runT,g];rfl
    .intro m n h;rw[qa]at h;exact j.modify (r:=r) (f:=λ_=>.deferred none) (λ_ _ _ e=>by cases e;exact .inl rfl) m n h
  |_=>rw[e _ g zp];exact .inr ⟨_,_,_,rfl⟩
theorem panics(A:nc P L T):∀(n:Nat) (fr:al) (cs:List al) (w:af) (ch:List PanicEntry),fr.mode=.panicking ch->mQ L.fn fr->(∀c∈cs,mQ L.fn c)->jj w->
  ∀mm,runN P n (lone fr (cs++ [wall]) w)=.next mm->∃g,mm.gs[0]?=some g/\∃ch,g.frame.mode=.panicking ch
 |0,fr,cs,w,ch,q,_,_,_,mm,e=>by
  simp only[runN,Stepped.next.injEq]at e;subst e;exact⟨_,rfl,ch,q⟩
 |n+1,fr,cs,w,ch,q,s,t,u,mm,e=>by
  have m:stepG P true {frame:=fr,callers:=cs++ [wall],status:=.running,dying:=none} w=unwind P true fr (cs++ [wall]) none w:=by simp only[stepG,q]
  obtain⟨fn,c,G,_⟩:=A.stat.cY.body fr.fn s.1 (λe=>A.np (e▸s.1));have l:fr.catches P=false:=by simp only[Frame.catches,G]
  cases j:fr.defers with
  |cons d ks=>
   obtain⟨r,rfl⟩:=s.2 d (by rw[j];simp);rw[unwind_mark j]at m;rcases VZ (P:=P) r w u with⟨w1,es,v,z⟩|⟨I,w1,es,v⟩
   .rw[v]at m;have h:=step_lone_go (by rw[m];rfl);simp only[runN,h]at e;exact panics A n {fr with defers:=ks} cs w1 ch q ⟨s.1,λd u=>s.2 d zg⟩ t z mm e
   .rw[v]at m;have h: ∃o,step P (lone fr (cs++ [wall]) w)=.ended o w1:=⟨_,step_lone_ended (by rw[m];rfl)⟩
    obtain⟨o,h⟩:=h;simp only[runN,h]at e;cases e
  |nil=>
   cases cs with
   |cons c cs=>
    have D:unwind P true fr ((c::cs)++ [wall]) none w=.go {frame:=c.raise ch,callers:=cs++ [wall],status:=.running,dying:=none} w:=by
     simp only[unwind,j,q,l,abf,abd,abT]
    have h:=step_lone_go (by rw[m,D];rfl);simp only[runN,h]at e;obtain⟨p,k⟩:=raise_mode c ch;exact panics A n (c.raise ch) cs w p k (DX (t c zp) _) (λx H=>t x (List.mem_cons_of_mem _ H)) u mm e
   |nil=>
    have D:unwind P true fr ([]++ [wall]) none w=.go {frame:=wall.raise ch,callers:=[],status:=.running,dying:=none} w:=by
     simp only[unwind,j,q,l,abf,abd,List.nil_append]
    have h:=step_lone_go (by rw[m,D];rfl);simp only[runN,h]at e;obtain⟨p,k⟩:=raise_mode wall ch;cases n with
    |zero=>
     simp only[runN,Stepped.next.injEq]at e;subst e;exact⟨_,rfl,p,k⟩
    |succ n=>
     have i: ∃o,step P (lone (wall.raise ch) [] w)=.ended o w:=by
      have E:(wall.raise ch).defers= [{target:=.nil,args:=#[]}]:=rfl;refine⟨.unsupported (.noEntry "machine/Return: a deferred call of a nil function value, made while the frame is unwinding") ((wall.raise ch).pos P),step_lone_ended ?_⟩;simp only[stepG,k,unwind,E,callDeferred];rfl
     obtain⟨o,i⟩:=i;simp only[runN,i]at e;cases e
end
end
section
open Go.Conc
section
variable {P:aj}{L:aR}{T:bw}
theorem lQ.tape{fr:al}{cs:List al}{w:af}(h:lQ P L T fr cs w)(t:Nat->Question->Nat):lQ P L T fr cs {w with tape:=t}:=by
 obtain⟨τ,h⟩:=h;exact⟨τ,h.dg,h.frame,h.callers,h.bot,h.fit,h.flat,h.dq,h.obj,h.yQ⟩
theorem lQ.step(A:nc P L T){fr:al}{cs B:List al}{w:af}(h:lQ P L T fr cs w)(a:fr.mode=.returning->fr.defers= []->cs≠[]){m:Bool}{g1:ai}{w1:af}{es:Array Event}(e:stepG P m {frame:=fr,callers:=cs++B,status:=.running,dying:=none} w=.go g1 w1 es)(c:jw g1):
  ∃fr1 cs1,g1= {frame:=fr1,callers:=cs1++B,status:=.running,dying:=none}/\lQ P L T fr1 cs1 w1/\w1.tape=w.tape/\w.drawn<=w1.drawn/\
   ∀t:Nat->Question->Nat,(∀i q,w.drawn<=i->i<w1.drawn->t i q=w.tape i q)->
    stepG P m {frame:=fr,callers:=cs++B,status:=.running,dying:=none} {w with tape:=t}=.go g1 {w1 with tape:=t} es:=by
 obtain⟨τ,h⟩:=h;exact h.step A a e c
theorem lQ.BN(A:nc P L T){fr:al}{cs B:List al}{w:af}(h:lQ P L T fr cs w)(a:fr.mode=.returning->fr.defers= []->cs≠[])(m:Bool):
  ig L.fn B (stepG P m {frame:=fr,callers:=cs++B,status:=.running,dying:=none} w):=by
 obtain⟨τ,h⟩:=h;exact h.BN A a m
theorem sS(P:aj)(k:Nat)(m:Machine):runN P (k+1) m=match runN P k m with|.next m'=>step P m'|e=>e:=by
 rw[runN_add];cases runN P k m with
 |next m'=>
  simp only[runN];cases step P m'<;>rfl
 |ended o w=>rfl
theorem yK{P:aj}{a:Nat}{m:Machine}{o:Outcome}{w:af}(h:runN P a m=.ended o w)(c:a<=b):runN P b m=.ended o w:=by
 rw[show b=a+(b-a) by omega,runN_add,h]
structure St where
 fr:al
 cs:List al
 w:af
theorem aao(A:nc P L T){Goal:al->List al->af->Prop}(bN:∀fr cs w t,Goal fr cs w->Goal fr cs {w with tape:=t}){p:al}{cs0:List al}{wb:af}(h0:lQ P L T p cs0 wb)(bc:∀t:Nat->Question->Nat,∃n fr cs w,runN P n (lone p (cs0++ [wall]) {wb with tape:=t})=.next (lone fr (cs++ [wall]) w)/\fr.mode=.returning/\Goal fr cs w):Safe P Goal p cs0 wb:=by
 classical
 refine aco λbR=>?_;let M:St->Prop:=λs=>lQ P L T s.fr s.cs s.w/\¬Safe P Goal s.fr s.cs s.w
 have bd:∀s,M s->¬Goal s.fr s.cs s.w:=λs hs hg=>hs.2 (.goal hg);let z:St->Prop:=λs=>s.fr.mode=.returning/\s.fr.defers= []/\s.cs= []
 have X:∀s,M s->∃t:Nat->Question->Nat,z s\/¬∃fr1 cs1 w1 es,stepG P true {frame:=s.fr,callers:=s.cs++ [wall],status:=.running,dying:=none} {s.w with tape:=t}=.go {frame:=fr1,callers:=cs1++ [wall],status:=.running,dying:=none} w1 es/\jw {frame:=fr1,callers:=cs1++ [wall],status:=.running,dying:=none}/\Safe P Goal fr1 cs1 w1:=λs hs=>by
  by_cases hl:z s
  .exact⟨λ_ _=>0,.inl hl⟩
  .refine aco λI=>hs.2 ?_;have l:=λt=>aco λhy=>I ⟨t,.inr hy⟩;exact .step (λt=>(l t).choose) (λt=>(l t).choose_spec.choose) (λt=>(l t).choose_spec.choose_spec.choose) (λt=>(l t).choose_spec.choose_spec.choose_spec.choose) (bd s hs) hl
    (λt=>(l t).choose_spec.choose_spec.choose_spec.choose_spec.1) (λt=>(l t).choose_spec.choose_spec.choose_spec.choose_spec.2.1) (λt=>(l t).choose_spec.choose_spec.choose_spec.choose_spec.2.2)
 let tp:St->Nat->Question->Nat:=λs=>if h:M s then (X s h).choose else λ_ _=>0
 have bT:∀s,M s->z s\/¬∃fr1 cs1 w1 es,stepG P true {frame:=s.fr,callers:=s.cs++ [wall],status:=.running,dying:=none} {s.w with tape:=tp s}=.go {frame:=fr1,callers:=cs1++ [wall],status:=.running,dying:=none} w1 es/\jw {frame:=fr1,callers:=cs1++ [wall],status:=.running,dying:=none}/\Safe P Goal fr1 cs1 w1:=λs hs=>by
  have:=(X s hs).choose_spec;simp only[tp,hs,dif_pos];exact this
 let Nx:St->St->Prop:=λs j=>¬z s/\∃es,stepG P true {frame:=s.fr,callers:=s.cs++ [wall],status:=.running,dying:=none} {s.w with tape:=tp s}=.go {frame:=j.fr,callers:=j.cs++ [wall],status:=.running,dying:=none} j.w es/\jw {frame:=j.fr,callers:=j.cs++ [wall],status:=.running,dying:=none}
 have O:∀s,¬z s->(s.fr.mode=.returning->s.fr.defers= []->s.cs≠[]):=λs hs h1 h2 h3=>hs ⟨h1,h2,h3⟩;have bm:∀s j,M s->Nx s j->M j/\s.w.drawn<=j.w.drawn:=λs j hs V=>by
  obtain⟨aq,es,e,hf⟩:=V;obtain⟨fr1,cs1,g1,bn,_,Y,_⟩:=(hs.1.tape (tp s)).step A (O s aq) e hf;simp only[Goroutine.mk.injEq]at g1;obtain⟨g2,g3,_⟩:=g1;have g4:=acG g3;subst g2 g4;exact⟨⟨bn,λaz=>(bT s hs).elim aq λI=>I ⟨_,_,_,es,e,hf,az⟩⟩,Y⟩
 let E:Option St->Option St:=λo=>o.bind λs=>if h: ∃j,Nx s j then some h.choose else none
 let ch:Nat->Option St:=λk=>Nat.rec (some ⟨p,cs0,wb⟩) (λ_ o=>E o) k
 have aA:ch 0=some ⟨p,cs0,wb⟩:=rfl;have Z:∀k,ch (k+1)=E (ch k):=λ_=>rfl;have R:∀k s,ch k=some s->M s:=by
  intro k;induction k with
  |zero=>intro s hs;rw[aA]at hs;cases hs;exact⟨h0,bR⟩
  |succ k ih=>
   intro s hs;rw[Z]at hs;simp only[E]at hs;cases S:ch k with
   |none=>rw[S]at hs;cases hs
   |some s'=>
    rw[S]at hs;simp only[adf]at hs;split at hs
    .rename_i I;cases hs;exact(bm s' _ (ih s' S) I.choose_spec).1
    .cases hs
 have ab:∀k s j,ch k=some s->ch (k+1)=some j->Nx s j:=by
  intro k s j hs a;rw[Z,hs]at a;simp only[E,adf]at a;split at a
  .rename_i I;cases a;exact I.choose_spec
  .cases a
 have hstop:∀k s,ch k=some s->ch (k+1)=none->¬∃j,Nx s j:=by
  intro k s hs a I;rw[Z,hs]at a;simp only[E,adf,I,dif_pos]at a;cases a
 have ad:∀k d s j,ch k=some s->ch (k+d)=some j->s.w.drawn<=j.w.drawn:=by
  intro k d;induction d with
  |zero=>intro s j hs a;rw[Nat.add_zero,hs]at a;cases a;exact aba _
  |succ d ih=>
   intro s j hs a;cases hd:ch (k+d) with
   |none=>
    have e:ch (k+(d+1))=E (ch (k+d)):=Z (k+d);rw[e,hd]at a;cases a
   |some s'=>exact IT (ih s s' hs hd) (bm s' j (R _ _ hd) (ab _ _ _ hd a)).2
 let On:Nat->St->Nat->Prop:=λi s k=>ch k=some s/\s.w.drawn<=i/\∀j,ch (k+1)=some j->i<j.w.drawn
 let D:Nat->Question->Nat:=λi q=>if h: ∃s k,On i s k then tp h.choose i q else 0
 have hT:∀i q s k,On i s k->D i q=tp s i q:=by
  intro i q s k U;have I: ∃s k,On i s k:=⟨s,k,U⟩
  simp only[D,I,dif_pos];have bZ:=I.choose_spec;obtain⟨k',G⟩:=bZ;have aB:I.choose=s:=by
   rcases Nat.lt_trichotomy k k' with cl|aB|cd
   .exfalso;cases a:ch (k+1) with
    |none=>
     have l:∀d,ch (k+1+d)=none:=by
      intro d;induction d with
      |zero=>exact a
      |succ d ih=>show E (ch (k+1+d))=none;rw[ih];rfl
     have:=l (k' - (k+1));rw[show k+1+(k' - (k+1))=k' by omega,G.1]at this;cases this
    |some j=>
     have h1:=U.2.2 j a;have h2:=ad (k+1) (k' - (k+1)) j I.choose a (by rw[show k+1+(k' - (k+1))=k' by omega];exact G.1);have h3:=G.2.1;omega
   .subst aB
    have:=G.1;rw[U.1]at this;exact(acy this).symm
   .exfalso;cases a:ch (k'+1) with
    |none=>
     have l:∀d,ch (k'+1+d)=none:=by
      intro d;induction d with
      |zero=>exact a
      |succ d ih=>show E (ch (k'+1+d))=none;rw[ih];rfl
     have:=l (k-(k'+1));rw[show k'+1+(k-(k'+1))=k by omega,U.1]at this;cases this
    |some j=>
     have h1:=G.2.2 j a;have h2:=ad (k'+1) (k-(k'+1)) j s a (by rw[show k'+1+(k-(k'+1))=k by omega];exact U.1);have h3:=U.2.1;omega
  rw[aB]
 have H:∀k s,ch k=some s->runN P k (lone p (cs0++ [wall]) {wb with tape:=D})=.next (lone s.fr (s.cs++ [wall]) {s.w with tape:=D}):=by
  intro k;induction k with
  |zero=>intro s hs;rw[aA]at hs;cases hs;rfl
  |succ k ih=>
   intro j a;cases S:ch k with
   |none=>rw[Z,S]at a;cases a
   |some s=>
    have V:=ab k s j S a;obtain⟨aq,es,e,hf⟩:=V;have hb:=R k s S;obtain⟨fr1,cs1,g1,bn,cj,Y,Q⟩:=(hb.1.tape (tp s)).step A (O s aq) e hf;have hc:=Q D (λi q aE b0=>hT i q s k ⟨S,aE,λs2 an=>by rw[a]at an;cases an;exact b0⟩);have u:step P (lone s.fr (s.cs++ [wall]) {s.w with tape:=D})=.next (lone j.fr (j.cs++ [wall]) {j.w with tape:=D}):=step_lone_go (by
     have b1:stepG P true {frame:=s.fr,callers:=s.cs++ [wall],status:=.running,dying:=none} {s.w with tape:=D}=_:=hc;rw[b1];rfl)
    rw[sS,ih s S];exact u
 obtain⟨n,fr,cs,w,V,aT,hg⟩:=bc D;cases a1:ch n with
 |some s=>
  have:=H n s a1;rw[V]at this;simp only[lone,Stepped.next.injEq,Machine.mk.injEq,Array.mk.injEq,ack,Goroutine.mk.injEq,acb]at this;obtain⟨hw,b2,a6⟩:=this;have bo:=acG a6;subst b2 bo hw
  have:=bN _ _ _ s.w.tape hg;exact bd s (R n s a1) this
 |none=>
  have b3: ∃k s,k<n/\ch k=some s/\ch (k+1)=none:=by
   have:∀m,ch m=none->∃k s,k<m/\ch k=some s/\ch (k+1)=none:=by
    intro m;induction m with
    |zero=>intro h;rw[aA]at h;cases h
    |succ m ih=>
     intro h;cases hm:ch m with
     |none=>obtain⟨k,s,h1,h2⟩:=ih hm;exact⟨k,s,zo,h2⟩
     |some s=>exact⟨m,s,zo,hm,h⟩
   exact this n a1
  obtain⟨k,s,cm,S,bp⟩:=b3;have hb:=R k s S;have br:=hstop k s S bp;have ar:=H k s S;have b4:=λi q hi=>hT i q s k ⟨S,hi,λs2 an=>by rw[bp]at an;cases an⟩;have av:=hb.1.tape D;by_cases hL:z s
  case neg=>
   have ay:=O s hL;rcases av.BN A (B:=[wall]) ay true with⟨g1,w1,es,e,hf⟩|⟨o,w1,es,e⟩|⟨g1,w1,es,e,hp⟩
   ·
    obtain⟨fr1,cs1,rfl,ck,cn,Y,Q⟩:=av.step A ay e hf;have hc:=Q (tp s) (λi q aE _=>(b4 i q aE).symm);exact br ⟨⟨fr1,cs1,{w1 with tape:=tp s}⟩,hL,es,hc,hf⟩
   .have u:=step_lone_ended (by rw[e];rfl);have bs:runN P (k+1) (lone p (cs0++ [wall]) {wb with tape:=D})=.ended o w1:=by rw[sS,ar];exact u
    have:=yK bs (show k+1<=n by omega);rw[V]at this;cases this
   .obtain⟨fr1,cs1,b5,rfl,b6,b7,b8,b9⟩:=hp;have u:=step_lone_go (by rw[e];rfl);have a7:runN P (k+1) (lone p (cs0++ [wall]) {wb with tape:=D})=.next (lone fr1 (cs1++ [wall]) w1):=by rw[sS,ar];exact u
    have bx:=V;rw[show n=(k+1)+(n-(k+1)) by omega,runN_add,a7]at bx;obtain⟨g,bB,ca,cb⟩:=panics A _ fr1 cs1 w1 b5 b6 b7 b8 b9 _ bx;simp only[lone]at bB;cases bB;have bL:fr.mode=.panicking ca:=cb;rw[aT]at bL;cases bL
  case pos=>
   obtain⟨l1,l2,l3⟩:=hL;obtain⟨τ,a8⟩:=hb.1;obtain⟨fn,c,f1,f2,_⟩:=A.stat.cY.body s.fr.fn a8.frame.cY a8.frame.np;have e1:stepG P true {frame:=s.fr,callers:=s.cs++ [wall],status:=.running,dying:=none} {s.w with tape:=D}=unwind P true s.fr (s.cs++ [wall]) none {s.w with tape:=D}:=by simp only[stepG,l1]
   rw[sR l2 l1 f1]at e1;have bb:∀(o:Outcome) (x:af),runN P (k+1) (lone p (cs0++ [wall]) {wb with tape:=D})=.ended o x->False:=λo x I=>by
    have:=yK I (show k+1<=n by omega);rw[V]at this;cases this
   cases hr:(results fn s.fr.tmps).runT P {s.w with tape:=D} #[] with
   |mk r es=>
    rw[hr]at e1;cases r with
    |halt hh w1=>
     have u: ∃o,step P (lone s.fr (s.cs++ [wall]) {s.w with tape:=D})=.ended o w1:=by
      cases hh<;>exact⟨_,step_lone_ended (by rw[e1];rfl)⟩
     obtain⟨o,u⟩:=u;exact bb o w1 (by rw[sS,ar];exact u)
    |ok v w1=>
     have Y:doReturn P true s.fr (s.cs++ [wall]) none v w1=.go {frame:=wall,callers:=[],status:=.running,dying:=none} w1:=by
      rw[l3];simp only[List.nil_append,doReturn,a8.frame.kind.1];rfl
     have u:=step_lone_go (by
      rw[e1];simp only[qN,Y];rfl)
     have h1:runN P (k+1) (lone p (cs0++ [wall]) {wb with tape:=D})=.next (lone wall [] w1):=by rw[sS,ar];exact u
     have ao: ∃o,step P (lone wall [] w1)=.ended o w1:=⟨_,step_lone_ended (by simp only[stepG,wall,stepG.exec];rfl)⟩
     obtain⟨o,ao⟩:=ao;by_cases cc:n=k+1
     .rw[cc,h1]at V;simp only[lone,Stepped.next.injEq,Machine.mk.injEq,Array.mk.injEq,ack,Goroutine.mk.injEq,acb]at V;obtain⟨_,_,a6⟩:=V;simp at a6
     .have h2:runN P (k+2) (lone p (cs0++ [wall]) {wb with tape:=D})=.ended o w1:=by rw[sS,h1];exact ao
      have:=yK h2 (show k+2<=n by omega);rw[V]at this;cases this
theorem Mb(A:nc P L T){args:aa}{w0:af}(k:lQ P L T (Frame.enter P f args .normal) [] w0)(h:∀v w (t:Nat->Question->Nat),Φ v w->Φ v {w with tape:=t})(l:∀t:Nat->Question->Nat,Calls P f args {w0 with tape:=t} λe w'=>∃v,e=.r v/\Φ v w'):
  Safe P (AG P f Φ) (Frame.enter P f args .normal) [] w0:=by
 refine aao A (cs0:=[]) ?_ k ?_
 .rintro fr cs w t ⟨m,o,p,q,fn,v,s,⟨u,z⟩,D⟩;exact⟨m,o,p,q,fn,v,s,⟨u,z⟩,h v w t D⟩
 .intro t;obtain⟨e,w',fr,⟨v,rfl,i⟩,⟨n,E⟩,a,j,G,H,fn,c,g⟩:=l t [wall];refine⟨n,fr,[],w',E,j,rfl,a,j,G,fn,v,a▸c,⟨w'.tape,g⟩,i⟩
end
end
def pr:bw:={ez with cA:=0}
abbrev jE:aR:=dA j8
def xk(Q:aj)(f:Nat)(fn:Func):Bool:=match fn.body with|some c=>eN Q jE pr f c&&mE jE pr f fn|none=>false
theorem Mk:(si.all λf=>f==fQ||(Tryz.prog.funcs[f]?).all (xk Qg f))=true:=zk
theorem U3:xk Qg fQ po=true:=zk
theorem WK(f:Nat)(e:jE.fn f): ∃fn c,Gg[f]?=some fn/\fn.body=some c/\eN Qg jE pr f c=true/\mE jE pr f fn=true:=by
 have un:∀fn,xk Qg f fn=true->∃c,fn.body=some c/\eN Qg jE pr f c=true/\mE jE pr f fn=true:=λfn h=>by
  unfold xk at h;grind
 by_cases a:f=fQ
 .subst a;obtain⟨c,h⟩:=un _ U3;exact⟨po,c,GP,h⟩
 .have g:f∈si:=by simpa[dA,ez] using e
  have:=abK.1 Mk f g;simp only[abS,abt]at this
  have:=this.resolve_left a;obtain⟨fn,_,i,j,_⟩:=AQ (J:=j8) f e a;grind
theorem JO:Let Qg Qg.funcs jE pr:=by
 refine⟨λf a _=>?_,λf a=>?_,⟨nU.fb,nU.cb,nU.ib,nU.lb,nU.gH,nU.loc,nU.ar,nU.eT⟩,zK,Ci⟩
 .obtain⟨fn,c,e,g,h,i⟩:=WK f a;exact⟨fn,c,e,e,g,h,i⟩
 .have:=(yA.plain f a).2;exact⟨this,this⟩
theorem Fx:nc Qg jE pr:=⟨⟨xd,(tF jE).1,(tF jE).2,JO⟩,rfl,λh=>by
 have:si.contains 0=true:=h;exact absurd this zd⟩
def bare(K:List Nat)(W:af):World:={W with heap:=W.heap.mapIdx λi o=>if K.contains i then o else .cells #[] 0}
theorem uy(K:List Nat)(W:af):(bare K W).heap.size=W.heap.size:=by simp[bare]
theorem q9(h:b∈K):(bare K W).heap[b]?=W.heap[b]? :=by
 unfold bare;grind
theorem aam(h:b∉K){o:Obj}(a:(bare K W).heap[b]?=some o):o=.cells #[] 0:=by
 unfold bare at a;grind
def Cz(W:af)(b:Nat):Prop:=∃c e f,W.heap[b]?=some (.cells c e f)/\∀x∈c,∀π,VR jE π x x
def qB(K:List Nat)(W:af)(v:ag):Prop:=uk 8 v=true\/∃a n c,v=.slice (some a) n c/\a.block∈K/\a.block<W
def mj(K:List Nat)(W:af):aJ:=⟨λr s=>r=s/\r∈K/\r<W,λr s=>r=s/\r∈K/\r<W,λ_ _=>False,λ_ _=>False⟩
theorem mS{r s:Nat}:(mj K W).un r s↔r=s/\r∈K/\r<W:=by simp[aJ.un,mj]
theorem GC(K:List Nat)(W:af):Fit (mj K W):=
 {own:=λ_ _ h=>h
  two:=λ_ _ _ _ h=>h.elim
  oZ:=λ_ _ _ _ h=>h.elim
  pP:=λ_ _ _ h=>h.elim
  fn:=λr s t h k=>by rw[<-(mS.1 h).1,<-(mS.1 k).1]
  inj:=λr s t h k=>by rw[(mS.1 h).1,(mS.1 k).1]}
def KD{T:bw}(h:∀g,g<T.ng->g∈K/\g<W):Flat T (mj K W):=⟨λ_ _ _ h=>h,λg a=>⟨rfl,h g a⟩⟩
theorem Qm{L:aR}{v:ag}(h:qB K W v):VR L (mj K W).all v v:=by
 rcases h with h|⟨a,n,c,rfl,e,g⟩
 .exact vP 8 v h
 .exact .slice n c ⟨⟨rfl,e,g⟩,rfl,rfl⟩
theorem Gv{L:aR}(a:∀i,L.dC f i=.any){args:aa}(g:∀v∈args,qB K W v):TR L (mj K W) f args args:=
 ⟨rfl,λi x y c e=>by
  rw[c]at e;cases e;rw[a i];exact Qm (g x (acx c))⟩
theorem YT(P:aj)(f:au)(xs:aa):(Frame.enter P f xs .normal).roundOf=none:=by
 unfold Frame.enter;rfl
theorem MS(p:∀g,g<ez.ng->g∈K/\g<W)(a:∀b∈K,Cz W b)(o:jE.fn f)(j:∀i,jE.dC f i=.any){args:aa}(q:∀v∈args,qB K W v)(k:∀v w (t:Nat->Question->Nat),Φ v w->Φ v {w with tape:=t})(u:∀t:Nat->Question->Nat,Calls Qg f args {bare K W with tape:=t} λe w'=>∃v,e=.r v/\Φ v w'):
  Safe Qg (AG Qg f Φ) (Frame.enter Qg f args .normal) [] (bare K W):=by
 refine Mb Fx ⟨mj K W,λr s h=>(mS.1 h).1,cL.enter JO o (λe=>Fx.np (e▸o)) (Gv j q),.nil _,YT _ _ _,GC K W,KD p,λr s h=>?_,λr s h=>?_,λr d h=>?_⟩ k u
 .rw[uy];exact(mS.1 h).2.2
 .obtain⟨rfl,l,A⟩:=mS.1 h;obtain⟨c,e,g,m,D⟩:=a r l;refine⟨_,_,by rw[q9 l];exact m,by rw[q9 l];exact m,λ_=>?_,λh=>h.elim,λh=>h.elim⟩
  have:=OR.cells (L:=jE) (τ:=mj K W) e g (xs:=c) (ys:=c) ⟨c.map λx=>(x,x),zg,zg,λz E=>by
   grind⟩
  exact this
 .by_cases n:r∈K
  .rw[q9 n]at h;obtain⟨c,e,f,m,_⟩:=a r n;grind
  .have:=aam n h;cases this
inductive FV (J:String->ag):ag->ag->Prop
 |bL (s:String):(∀c,J s≠.agg c)->(∀c,J s≠.tuple c)->(∀b,J s≠.bool b)->FV J (.func (.method s) #[.nilIface] #[]) (J s)
 |bool (b:Bool):FV J (.bool b) (.bool b)
 |int (k:IntKind) (n:Int):FV J (.int k n) (.int k n)
 |string (s:ah):FV J (.s s) (.s s)
 |agg (xs:Array (ag×ag)):(∀z∈xs,FV J z.1 z.2)->FV J (.agg (xs.map (·.1))) (.agg (xs.map (·.2)))
 |tuple (xs:Array (ag×ag)):(∀z∈xs,FV J z.1 z.2)->FV J (.tuple (xs.map (·.1))) (.tuple (xs.map (·.2)))
theorem FV.vr{L:aR}(g:L.bL=J)(h:FV J x y):VR L π x y:=by
 subst g;induction h with
 |bL s a b c=>exact .bL s a b c
 |bool b=>exact .bool b
 |int k n=>exact .int k n
 |string s=>exact .string s
 |agg xs _ e=>exact .agg xs e
 |tuple xs _ e=>exact .tuple xs e
theorem FV.self{L:aR}(g:L.bL=j8)(h:FV J x y):VR L π x x:=by
 induction h with
 |bL s a b c=>
  have:=VR.bL (L:=L) (π:=π) s (λc e=>by rw[g]at e;cases e) (λc e=>by rw[g]at e;cases e) (λb e=>by rw[g]at e;cases e);rw[g]at this;exact this
 |bool b=>exact .bool b
 |int k n=>exact .int k n
 |string s=>exact .string s
 |agg xs _ i=>
  have:=VR.agg (L:=L) (π:=π) (xs.map λz=>(z.1,z.1)) (λz j=>by
   grind)
  simpa[Array.map_map,Function.comp_def] using this
 |tuple xs _ i=>
  have:=VR.tuple (L:=L) (π:=π) (xs.map λz=>(z.1,z.1)) (λz j=>by
   grind)
  simpa[Array.map_map,Function.comp_def] using this
theorem zG{R:ag->ag->Prop}{xs ys:Array (ag×ag)}(e:ys.map (·.1)=xs.map (·.1))(h:∀z∈xs,∀y,R z.1 y->y=z.2)(j:∀z∈ys,R z.1 z.2):ys.map (·.2)=xs.map (·.2):=by
 have hs:ys.size=xs.size:=by simpa using congrArg Array.size e
 apply acm (by simpa using hs);intro i c g;have k:i<ys.size:=by simpa using c
 have l:i<xs.size:=by simpa using g
 have m:ys[i].1=xs[i].1:=by
  have:=congrArg (λa:aa=>a[i]?) e;grind
 grind
theorem FV.one{L:aR}(l:L.bL=J)(h:FV J x y):∀e,VR L π x e->e=y:=by
 subst l;induction h with
 |bL s a b c=>intro e h;generalize g:(Value.func (.method s) #[.nilIface] #[])=x at h;cases h<;>first|(cases g;rfl)|cases g
 |bool b=>intro e h;cases h;rfl
 |int k n=>intro e h;cases h;rfl
 |string s=>intro e h;cases h;rfl
 |agg xs _ i=>
  intro e h;generalize g:Value.agg (xs.map (·.1))=x at h;cases h with
  |agg ys j=>
   congr 1;exact zG (R:=VR L π) zg i j
  |_=>cases g
 |tuple xs _ i=>
  intro e h;generalize g:Value.tuple (xs.map (·.1))=x at h;cases h with
  |tuple ys j=>
   congr 1;exact zG (R:=VR L π) zg i j
  |_=>cases g
def nm(k:Nat):String:=String.ofList (List.replicate k default)
theorem PH(k:Nat):(nm k).length=k:=by simp[nm]
def Speaks(J:String->ag)(k:Nat)(ls:ae):Prop:=∀i,i<ls.length->J (nm (k+i))=ls.getD i (.i 0)
theorem Speaks.left{k:Nat}{a b:ae}(h:Speaks J k (a++b)):Speaks J k a:=λi hi=>by
 rw[h i zt];grind
theorem Speaks.right{k:Nat}{a b:ae}(h:Speaks J k (a++b)):Speaks J (k+a.length) b:=λi hi=>by
 rw[Nat.add_assoc,h (a.length+i) zt];grind
theorem zL(n:Nat)(hv:∀v:ag,SizeOf.sizeOf v<n->∀k,∃x ls,∀J,Speaks J k ls->FV J x v):∀(l:ae),(∀v∈l,SizeOf.sizeOf v<n)->∀k,∃(zs:List (ag×ag)) (ls:ae),zs.map (·.2)=l/\∀J,Speaks J k ls->∀z∈zs,FV J z.1 z.2
 |[],_,k=>⟨[],[],rfl,λJ _ z a=>by simp at a⟩
 |v::l,h,k=>by
  obtain⟨x,c,h1⟩:=hv v (h v zp) k;obtain⟨zs,l2,g,i⟩:=zL n hv l (λu j=>h u (by simp[j])) (k+c.length);refine⟨(x,v)::zs,c++l2,by simp[g],λJ e z a=>?_⟩;rcases abk.1 a with rfl|a
  .exact h1 J e.left
  .exact i J e.right z a
theorem X9(n:Nat):∀v:ag,SizeOf.sizeOf v<n->∀k,∃x ls,∀J,Speaks J k ls->FV J x v:=by
 induction n with
 |zero=>intro v h;omega
 |succ n l=>
  intro v hs k;have other:(∀c,v≠.agg c)->(∀c,v≠.tuple c)->(∀b,v≠.bool b)->∃x ls,∀J,Speaks J k ls->FV J x v:=λa b c=>
   ⟨.func (.method (nm k)) #[.nilIface] #[],[v],λJ g=>by
    have e:J (nm k)=v:=by simpa using g 0 zp
    have:=FV.bL (J:=J) (nm k) (by rw[e];exact a) (by rw[e];exact b) (by rw[e];exact c);grind⟩
  cases v with
  |bool b=>exact⟨.bool b,[],λJ _=>.bool b⟩
  |agg c=>
   have i:∀v∈c.toList,SizeOf.sizeOf v<n:=λv hv=>by
    have m:=Array.sizeOf_lt_of_mem (Array.mem_toList_iff.1 hv);grind
   obtain⟨zs,ls,e,h⟩:=zL n l c.toList i k;refine⟨.agg (zs.toArray.map (·.1)),ls,λJ g=>?_⟩
   have:=FV.agg (J:=J) zs.toArray (λz j=>h J g z (by simpa using j));simp_all
  |tuple c=>
   have i:∀v∈c.toList,SizeOf.sizeOf v<n:=λv hv=>by
    have m:=Array.sizeOf_lt_of_mem (Array.mem_toList_iff.1 hv);grind
   obtain⟨zs,ls,e,h⟩:=zL n l c.toList i k;refine⟨.tuple (zs.toArray.map (·.1)),ls,λJ g=>?_⟩
   have:=FV.tuple (J:=J) zs.toArray (λz j=>h J g z (by simpa using j));simp_all
  |_=>exact other zc zc zc
end Go.Proofs.YtldmcdeibiclkaaGreat.U
