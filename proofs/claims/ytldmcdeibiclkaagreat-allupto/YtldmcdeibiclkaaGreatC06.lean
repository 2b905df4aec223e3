/-
  Toward all_holds
-/
import Derived.Test.YtldmcdeibiclkaaGreatC05
import Derived.Conc.Beside
import Derived.Test.YtldmcdeibiclkaaGreatC01
import Derived.Conc.CrowdTrace
import Derived.Test.YtldmcdeibiclkaaGreatProg
set_option linter.all false
noncomputable section
set_option maxRecDepth 100000
set_option maxHeartbeats 20000000
namespace Go.Proofs.YtldmcdeibiclkaaGreat.U
variable {w v w':af}{es:Array Event}{gs:Array ai}{g1 h:ai}{X:al->List al->af->Prop}{b d:Nat}{α:Type}{f:au}
section
open Go.Conc
open Go.ConcN (sumTo upd sumTo_upd upd_ne upd_same)
def lJ(Sh:Nat->Prop):Loc->Prop
 |.cell a=>Sh a.block
 |.obj r=>Sh r
 |_=>False
abbrev lg(fr:al)(cs:List al):Goroutine:={frame:=fr,callers:=cs++ [wall],status:=.running,dying:=none}
section
variable {P:aj}{G:Array Func}{L:aR}{T:bw}{D:List al}{Sh:Nat->Prop}{τ:aJ}
theorem FW{j Wg:Nat->Prop}{B:Nat}{e:Event}(h:lX j Wg e)(hs:∀s,j s->¬Sh s)(hb:∀s,j s->s<B):EvL (lJ Sh) B e:=by
 rcases h with⟨a,wr,rfl,c,_⟩|⟨r,wr,rfl,c,_⟩|rfl
 .exact evL_cell a wr (hs _ c) (hb _ c)
 .refine⟨λx i k=>?_,zp,zp,?_⟩
  .simp only[MemAct.ofEvent,MemAct.touch?,aaX]at i;subst i;exact absurd k (hs _ c)
  .simp only[MemAct.ofEvent,MemAct.low,Loc.low];exact hb _ c
 .exact⟨λx i=>by simp[MemAct.ofEvent,MemAct.touch?]at i,zp,zp,trivial⟩
structure nL(τ τ':aJ)(v v':af):Prop where
 grow:v<=v'.heap.size
 tape:v'.tape=v.tape
 os:v'.os=v.os
 output:v'.output=v.output
 ix:∀s,s<v.heap.size->(∀r,¬τ.un r s)->v'.heap[s]?=v.heap[s]?
 more:hY τ τ'
 new:∀r s,τ'.un r s->τ.un r s\/(v<=s/\s<v')
def hY.refl(τ:aJ):hY τ τ:=⟨λ_ _ h=>h,λ_ _ h=>h,λ_ _ h=>h,λ_ _ h=>h⟩
def hY.trans{a b c:aJ}(h:hY a b)(k:hY b c):hY a c:=⟨λ_ _ x=>k.all _ _ (h.all _ _ x),λ_ _ x=>k.own _ _ (h.own _ _ x),λ_ _ x=>k.box _ _ (h.box _ _ x),λ_ _ x=>k.lp _ _ (h.lp _ _ x)⟩
def nL.refl(τ:aJ)(v:af):nL τ τ v v:=⟨aba _,rfl,rfl,rfl,λ_ _ _=>rfl,.refl τ,λ_ _ h=>.inl h⟩
theorem nL.trans{π c e:aJ}{v1 v2:af}(h:nL π c v v1)(k:nL c e v1 v2):nL π e v v2:=by
 have g1:=h.grow;have g2:=k.grow;refine⟨IT g1 g2,k.tape.trans h.tape,k.os.trans h.os,k.output.trans h.output,λs hs l=>?_,h.more.trans k.more,λr s j=>?_⟩
 .rw[k.ix s zo (λr j=>?_),h.ix s hs l];rcases h.new r s j with i|⟨i,_⟩
  .exact l r i
  .omega
 .rcases k.new r s j with i|⟨o,p⟩
  .rcases h.new r s i with q|⟨o,p⟩
   .exact .inl q
   omega
  omega
def jG.at{B D:List al}{g:ai}(c:jG P G L T τ B D g w h v)(d:Nat):jG P G L T τ B D g w h (v.at d):=⟨c.g,c.bi,c.flat,c.dq,c.obj⟩
theorem AZ{t:Trace}{q:Nat->Nat}{a:ai}(e:Leavers P t gs q)(l:gs[0]?=some a)(j:a.status=.running):∀g∈gs,awake g:=by
 intro g k;obtain⟨i,hi,rfl⟩:=adj.1 k;rcases acL i with rfl|c
 .have:gs[0]=a:=zg;rw[this];exact awake_of (.inl j)
 .exact awake_of ((e.old i _ c (abI hi)).status.elim .inl λx=>.inr (.inr x))
theorem KF{t:Trace}{q:Nat->Nat}{a k:ai}{fn:au}{pos:String}(l:Leavers P t gs q)(r:0<gs.size):
  Leavers P (t++MemOp.ofEvents 0 fn pos es) ((gs.map (woken P a k w')).setIfInBounds 0 k) q:=by
 refine⟨λj x hj o=>?_,λj hj=>?_⟩
 .have i:0≠j:=zo;rw[abA i,abX]at o;obtain⟨y,s,rfl⟩:=abD.1 o;have p:=l.old j y hj s;rw[woken_quitsD p,Deaf_other t zo _ (λop c=>by obtain⟨e,_,rfl⟩:=Go.Conc.mem_ofEvents c;rfl)];exact p
 .simp only[acW,Array.size_map]at hj;rw[Deaf_other t (g':=0) zo _ (λop c=>by obtain⟨e,_,rfl⟩:=Go.Conc.mem_ofEvents c;rfl)];exact l.above j hj
theorem Bh{t:Trace}{q:Nat->Nat}{a:ai}(I:Leavers P t gs q)(O:gs[0]?=some a)(R:a.status=.running){i:Nat}{g:ai}(hi:gs[i]?=some g)(s:0<i)(E:g.status=.running)(w:af)(sl:Option (Nat×Nat)):
  ∃c k es,runT P (crowd gs w sl) i=(.next (crowd c w sl),MemOp.ofEvents i g.frame.fn g.frame.place es)/\c.size=gs.size/\c[0]?=some a/\Leavers P (t++MemOp.ofEvents i g.frame.fn g.frame.place es) c (upd q i k)/\(∀e∈es,e.mute=true)/\sumTo gs.size (upd q i k)+1=sumTo gs.size q:=by
 have F:=I.old i g s hi;have J:(i==0)=false:=zt;have z:=(IN.1 hi).1;cases o:q i with
 |zero=>rw[o]at F;rw[F.1]at E;cases E
 |succ k=>
  rw[o]at F;rcases F with⟨S,_⟩|⟨_,g',es,U,A,K⟩
  .rw[S]at E;cases E
  have p:=runT_crowd_go (P:=P) (sl:=sl) (i:=i) hi (by rw[J];exact A w);have N:sumTo gs.size (upd q i k)+(k+1)=sumTo gs.size q+k:=by
   have:=sumTo_upd q k id z;simpa[o] using this
  refine⟨_,k,es,p,zp,?_,⟨λj x hj H=>?_,λj hj=>?_⟩,U,zo⟩
  .have M:i≠0:=zo;rw[abA M,abX,O];simp[woken_run R]
  .by_cases l:i=j
   .subst l;rw[acB (by simpa using z)]at H;obtain rfl:=acy H;rw[upd_same,Deaf_own];exact K
   .rw[abA l,abX]at H;obtain⟨y,V,rfl⟩:=abD.1 H;have C:=I.old j y hj V;rw[woken_quitsD C,upd_ne q k (Ne.symm l),Deaf_other t l _ (λop r=>by obtain⟨e,_,rfl⟩:=Go.Conc.mem_ofEvents r;rfl)];exact C
  .rw[Deaf_other t (g':=i) (by simp at hj;omega) _ (λop r=>by obtain⟨e,_,rfl⟩:=Go.Conc.mem_ofEvents r;rfl)];exact I.above j (by simpa using hj)
structure kC(P:aj)(G:Array Func)(L:aR)(T:bw)(Sh:Nat->Prop)(D:List al)(τ:aJ)(fr:al)(cs:List al)(w:af)(gs:Array ai)(v:af)(t:Trace)(q:Nat->Nat):Prop where
 main: ∃h,gs[0]?=some h/\jG P G L T τ [wall] D (lg fr cs) w h v
 iP:Leavers P t gs q
 o7:Past (lJ Sh) v t
 apart:∀r s,τ.un r s->¬Sh s
 old:∀s,Sh s->s<v
inductive Below (Q:aj) (Goal:al->List al->af->Prop):al->List al->af->al->List al->af->Prop
 |one {fr cs w fr1 cs1 w1} (t:Nat->Question->Nat) (es:Array Event): ¬Goal fr cs w->stepG Q true (lg fr cs) {w with tape:=t}=.go (lg fr1 cs1) w1 es->Below Q Goal fr cs w fr1 cs1 w1
 |more {fr cs w fr1 cs1 w1 fr2 cs2 w2} (t:Nat->Question->Nat) (es:Array Event): ¬Goal fr cs w->stepG Q true (lg fr cs) {w with tape:=t}=.go (lg fr1 cs1) w1 es->Below Q Goal fr1 cs1 w1 fr2 cs2 w2->Below Q Goal fr cs w fr2 cs2 w2
def Comes(P:aj)(G:Array Func)(L:aR)(T:bw)(D:List al)(X:al->List al->af->Prop)(gs:Array ai)(v:af)(sl:Option (Nat×Nat))(t:Trace)(τ:aJ):Prop:=
 ∃(N:Nat) (gs':Array ai) (v':af) (sl':Option (Nat×Nat)) (t':Trace) (q':Nat->Nat) (τ':aJ) (fr':al) (cs':List al) (w':af) (Sh':Nat->Prop),
  runNT P N (crowd gs v sl) t=(.next (crowd gs' v' sl'),t')/\kC P G L T Sh' D τ' fr' cs' w' gs' v' t' q'/\X fr' cs' w'/\nL τ τ' v v'
def AO(P:aj)(G:Array Func)(L:aR)(T:bw)(D:List al)(Goal:al->List al->af->Prop):Prop:=
 ∀(fr:al) (cs:List al) (w:af),fr.fn=T.cA->Safe (gp P G) Goal fr cs w->∀(gs:Array ai) (v:af) (sl:Option (Nat×Nat)) (t:Trace) (q:Nat->Nat) (τ:aJ) (Sh:Nat->Prop),
  kC P G L T Sh D τ fr cs w gs v t q->Comes P G L T D (Below (gp P G) Goal fr cs w) gs v sl t τ
theorem Comes.trans{Y:al->List al->af->Prop}{sl:Option (Nat×Nat)}{t:Trace}(h:Comes P G L T D X gs v sl t τ)(k:∀c v' i l o τ' fr' e w' j,kC P G L T j D τ' fr' e w' c v' l o->X fr' e w'->Comes P G L T D Y c v' i l τ'):Comes P G L T D Y gs v sl t τ:=by
 obtain⟨N,c,v',i,l,o,τ',fr',e,w',j,x,y,z,A⟩:=h;obtain⟨C,p,E,q,F,H,r,fr2,cs2,w2,s,I,J,K,M⟩:=k c v' i l o τ' fr' e w' j y z;refine⟨N+C,p,E,q,F,H,r,fr2,cs2,w2,s,?_,J,K,A.trans M⟩;rw[runNT_add,x];exact I
theorem Hr(S:Stat P G L T){fr:al}{cs:List al}(hn:fr.fn≠T.cA)(ab: ¬(fr.mode=.returning/\fr.defers= []/\cs= [])){V:(Nat->Question->Nat)->al}{W:(Nat->Question->Nat)->List al}{uu:(Nat->Question->Nat)->af}{ee:(Nat->Question->Nat)->Array Event}(ad:∀t,stepG (gp P G) true (lg fr cs) {w with tape:=t}=.go (lg (V t) (W t)) (uu t) (ee t))(an:∀t,jw (lg (V t) (W t)))(ih:∀tt (gs:Array ai) (v:af) (sl:Option (Nat×Nat)) (t:Trace) (q:Nat->Nat) (τ:aJ) (Sh:Nat->Prop),kC P G L T Sh D τ (V tt) (W tt) (uu tt) gs v t q->Comes P G L T D X gs v sl t τ)(gs:Array ai)(v:af)(sl:Option (Nat×Nat))(t:Trace)(q:Nat->Nat)(hb:kC P G L T Sh D τ fr cs w gs v t q)(slip:0<sumTo gs.size q->∀(j:Array ai) (v':af) (l:Option (Nat×Nat)) (Y:Trace) (Z:Nat->Nat),sumTo j.size Z<sumTo gs.size q->kC P G L T Sh D τ fr cs w j v' Y Z->Comes P G L T D X j v' l Y τ):
  Comes P G L T D X gs v sl t τ:=by
 obtain⟨h,h0,K⟩:=hb.main;have p:=K.g.status.2;have M:=(IN.1 h0).1;obtain⟨i,g,d,l,hi,hg,y⟩:=crowd_pick (P:=P) (w:=v) (sl:=sl) (AZ hb.iP h0 p) ⟨0,h,h0,p⟩;rcases acL i with rfl|O
 ·
  obtain rfl:g=h:=zg;obtain⟨h1,v1,fs,R,e,ao,J,C⟩:=(K.at d).step S true hn (λx=>ab ⟨x.1,x.2.1,by simpa using x.2.2⟩) (ad (pX w (v.at d))) (an _);have E:=runT_crowd_go (P:=P) (sl:=l) (i:=0) hi (show stepG P (0==0) g (v.at d)=_ from e);have c:v<=v1.heap.size:=J.grow;have F:kC P G L T Sh D R (V (pX w (v.at d))) (W (pX w (v.at d))) (uu (pX w (v.at d))) ((gs.map (woken P g h1 v1)).setIfInBounds 0 h1) v1 (t++MemOp.ofEvents 0 g.frame.fn g.frame.place fs) q:=by
   refine⟨⟨h1,by simp[M],ao⟩,KF hb.iP M,?_,λr s o=>?_,λs hs=>abc (hb.old s hs) c⟩
   .refine (hb.o7.mono c).own λev aq=>FW (J.qy ev aq) ?_ ?_
    .rintro s (⟨r,o⟩|⟨o,_⟩) z
     .exact hb.apart r s o z
     .have:=hb.old s z;simp only[World.at]at o;omega
    .rintro s (⟨r,o⟩|⟨_,o⟩)
     .exact abc ((K.dq r s o).2) c
     .exact o
   .rcases C.un r s o with H|⟨_,_,H,_⟩
    .exact hb.apart r s H
    .intro z
     have:=hb.old s z;simp only[World.at]at H;omega
  obtain⟨N,j,v',U,Y,Z,τ',ar,av,w',ay,r1,r3,r4,A⟩:=ih _ _ v1 l _ q R Sh F;refine⟨N+1,j,v',U,Y,Z,τ',ar,av,w',ay,?_,r3,r4,?_⟩
  .simp only[runNT,y,E];exact r1
  .refine nL.trans ⟨c,J.tape,J.os,J.output,λs hs ha=>J.ix s hs λr o=>ha r (K.bi.mine o),C.le,λr s o=>?_⟩ A;rcases C.un r s o with H|⟨_,_,H,hz⟩
   .exact .inl H
   .exact .inr ⟨H,hz⟩
 ·
  obtain⟨j,k,es,hr,az,aA,aB,I,a7⟩:=Bh hb.iP h0 p hi O hg (v.at d) l;have F:kC P G L T Sh D τ fr cs w j (v.at d) (t++MemOp.ofEvents i g.frame.fn g.frame.place es) (upd q i k):=
   ⟨⟨h,aA,K.at d⟩,aB,hb.o7.mute zo I,hb.apart,hb.old⟩
  obtain⟨N,aE,v2,aT,t2,q2,a1,fr2,cs2,w2,a6,r1,r3,r4,A⟩:=slip zo j (v.at d) l _ (upd q i k) (by rw[az];omega) F;refine⟨N+1,aE,v2,aT,t2,q2,a1,fr2,cs2,w2,a6,?_,r3,r4,?_⟩
  .simp only[runNT,y,hr];exact r1
  .exact⟨A.grow,A.tape,A.os,A.output,A.ix,A.more,A.new⟩
theorem VD(S:Stat P G L T){Goal:al->List al->af->Prop}(k:AO P G L T D Goal){fr:al}{cs:List al}(l:Safe (gp P G) Goal fr cs w):
  (∀(gs:Array ai) (v:af) (sl:Option (Nat×Nat)) (t:Trace) (q:Nat->Nat) (τ:aJ) (Sh:Nat->Prop),kC P G L T Sh D τ fr cs w gs v t q->Comes P G L T D Goal gs v sl t τ)/\
  ∀fr2 cs2 w2,Below (gp P G) Goal fr cs w fr2 cs2 w2->∀(gs:Array ai) (v:af) (sl:Option (Nat×Nat)) (t:Trace) (q:Nat->Nat) (τ:aJ) (Sh:Nat->Prop),kC P G L T Sh D τ fr2 cs2 w2 gs v t q->Comes P G L T D Goal gs v sl t τ:=by
 induction l with
 |goal y=>
  refine⟨λgs v sl t q τ Sh hb=>⟨0,gs,v,sl,t,q,τ,_,_,_,Sh,rfl,hb,y,.refl _ _⟩,λfr2 cs2 w2 hb=>?_⟩;cases hb with
  |one t es z _=>exact absurd y z
  |more t es z _ _=>exact absurd y z
 |@step fr cs w R U Y Z A o c i x V=>
  have below:∀fr2 cs2 w2,Below (gp P G) Goal fr cs w fr2 cs2 w2->∀(gs:Array ai) (v:af) (sl:Option (Nat×Nat)) (t:Trace) (q:Nat->Nat) (τ:aJ) (Sh:Nat->Prop),kC P G L T Sh D τ fr2 cs2 w2 gs v t q->Comes P G L T D Goal gs v sl t τ:=by
   intro fr2 cs2 w2 hb;cases hb with
   |one t es _ e=>
    rw[c t]at e;simp only[lg,GStep.go.injEq,Goroutine.mk.injEq,acb,List.append_cancel_right_eq]at e;grind
   |more t es _ e hb=>
    rw[c t]at e;simp only[lg,GStep.go.injEq,Goroutine.mk.injEq,acb,List.append_cancel_right_eq]at e;grind
  refine⟨?_,below⟩;by_cases C:fr.fn=T.cA
  .intro gs v sl t q τ Sh hb;exact(k fr cs w C (.step R U Y Z A o c i x) gs v sl t q τ Sh hb).trans λp v' r E F τ' H I w' J s K=>below H I w' K p v' r E F τ' J s
  .have key:∀(M:Nat) (gs:Array ai) (v:af) (sl:Option (Nat×Nat)) (t:Trace) (q:Nat->Nat) (τ:aJ) (Sh:Nat->Prop),sumTo gs.size q<=M->kC P G L T Sh D τ fr cs w gs v t q->Comes P G L T D Goal gs v sl t τ:=by
    have j:∀t,jw (lg (R t) (U t)):=λt=>⟨(i t).status,(i t).dying,(i t).mode,(i t).kind⟩
    intro M;induction M with
    |zero=>
     intro gs v sl t q τ Sh hM hb;exact Hr S C o c j (λN=>(V N).1) gs v sl t q hb (λK=>absurd K zo)
    |succ M O=>
     intro gs v sl t q τ Sh hM hb;exact Hr S C o c j (λN=>(V N).1) gs v sl t q hb (λ_ p v' r E F W s=>O p v' r E F τ Sh zo s)
   exactλgs v sl t q τ Sh hb=>key _ gs v sl t q τ Sh zf hb
end
end
section
open Go.Conc
open Go.ConcN (RelBy fork_knows)
def blk:Loc->Option Nat
 |.cell a=>some a.block
 |.obj r=>some r
 |_=>none
structure qS where
 ro:Nat->Prop
 ow:Nat->Nat->Prop
 qu:Nat->Prop
structure Cd(Λ:qS):Prop where
 own:∀k k' b,Λ.ow k b->Λ.ow k' b->k=k'
 ro:∀k b,Λ.ow k b->¬Λ.ro b
 qu:∀k b,Λ.ow k b->¬Λ.qu b
 Jy:∀b,Λ.ro b->¬Λ.qu b
def pg(Λ:qS)(k:Nat)(a:Touch):Prop:=∀b,blk a.loc=some b->
 (Λ.ow k b/\a.kind=.plain)\/(Λ.ro b/\a.write=false/\a.kind=.plain)\/(Λ.qu b/\a.kind≠.plain/\(a.kind=.said->k=0))
structure TP(Λ:qS)(Sh live Wk:Nat->Prop)(B:Nat)(t:Trace):Prop where
 clean:∀said,¬Race said t
 mI:∀k,live k->∀i a,touchAt t i=some a->∀b,blk a.loc=some b->(Λ.ow k b\/(Λ.ro b/\a.write=true))->Knows t k i
 quiet:∀(i:Nat) (op:MemOp),t[i]?=some op->∀a,op.act.touch?=some a->∀b,blk a.loc=some b->Λ.qu b->a.kind≠.plain/\(a.kind=.said->op.g=0)
 low:∀op∈t,op.act.low B
 over:∀i g,t.g? i=some g->g≠0->¬Wk g->t.counts i->∃j,t.g? j=some 0/\HappensBefore t i j
 known:∀i a,touchAt t i=some a->a.loc.isMemory=true->Knows t 0 i\/(lJ Sh a.loc/\a.kind=.atomic)\/∃k,Wk k/\t.g? i=some k
 atom:∀i k a,Wk k->t.g? i=some k->touchAt t i=some a->a.loc.isMemory=true->a.kind≠.plain->Knows t 0 i\/∃b,blk a.loc=some b/\(Λ.qu b\/Sh b)
section
variable {Λ Λ':qS}{Sh live Wk:Nat->Prop}{B:Nat}{t u:Trace}
theorem DT{l:Loc}(h:l.isMemory=true): ∃b,blk l=some b:=by
 cases l<;>first|exact⟨_,rfl⟩|cases h
theorem TP.app(o:Cd Λ)(h:TP Λ Sh live Wk B t){k:Nat}(hk:live k)(U:k=0\/Wk k)(hu:∀op∈u,op.g=k)(C:∀op∈u,∀a,op.act.touch?=some a->a.loc.isMemory=true/\pg Λ k a)(hl:∀op∈u,op.act.low B):TP Λ Sh live Wk B (t++u):=by
 refine⟨λsaid=>noRace_append (h.clean said) hu λi a q op E b hb N=>?_,λk' H i a q b hb c=>?_,λi op hi a q b hb F=>?_,seen_app h.low hl,λi g V h0 hn N=>?_,λi a q W=>?_,λi k' a H V q Y I=>?_⟩
 ·
  obtain⟨r,J⟩:=C op E b hb;obtain⟨bb,O⟩:=DT r;have K:blk a.loc=some bb:=by rw[N.1];exact O
  rcases J bb O with⟨M,_⟩|⟨R,S,_⟩|⟨F,Z,ar⟩
  .exact h.mI k hk i a q bb K (.inl M)
  .exact h.mI k hk i a q bb K (.inr ⟨R,(N.2.2.1.resolve_right (by simp[S]))⟩)
  .obtain⟨x,p,l⟩:=touch_of q;obtain⟨q1,q2⟩:=h.quiet i x p a l bb K F;rcases N.2.2.2 with y|y|⟨_,y,z⟩
   .exact absurd y q1
   .exact absurd y Z
   .have:=knows_own p;grind
 .obtain⟨x,p,l⟩:=touch_of q;rcases getElem?_append_cases p with⟨_,s⟩|⟨_,A⟩
  .exact (h.mI k' H i a (by rw[touchAt_of s];exact l) b hb c).app u
  .obtain⟨_,J⟩:=C x A a l;have av:k=k':=by
    rcases J b hb with⟨M,_⟩|⟨R,S,_⟩|⟨F,_⟩<;>rcases c with c|⟨c,ay⟩
    .exact o.own _ _ _ M c
    .exact absurd c (o.ro _ _ M)
    .exact absurd R (o.ro _ _ c)
    .grind
    .exact absurd F (o.qu _ _ c)
    .exact absurd F (o.Jy _ c)
   have:=knows_own p;grind
 .rcases getElem?_append_cases hi with⟨_,ab⟩|⟨_,ad⟩
  .exact h.quiet i op ab a q b hb F
  .obtain⟨_,J⟩:=C op ad a q;rcases J b hb with⟨M,_⟩|⟨R,_⟩|⟨_,h1,h2⟩
   .exact absurd F (o.qu _ _ M)
   .exact absurd F (o.Jy _ R)
   grind
 .obtain⟨x,p,W⟩:=N;obtain⟨op,E,az⟩:=touch_of p;rcases getElem?_append_cases E with⟨hi,ao⟩|⟨_,aq⟩
  .obtain⟨j,hj,hb⟩:=h.over i g (by rw[<-g?_old (u:=u) hi];exact V) h0 hn ((counts_old hi).1 ⟨x,p,W⟩);have an:j<t.size:=by
    unfold Trace.g? at hj;grind
   exact⟨j,by rw[g?_old an];exact hj,hb_app u hb⟩
  .have:g=k:=by
    have e:(t++u).g? i=some op.g:=by simp[Trace.g?,E]
    grind
   grind
 .obtain⟨x,p,l⟩:=touch_of q;rcases getElem?_append_cases p with⟨hi,s⟩|⟨_,A⟩
  .refine (h.known i a (by rw[touchAt_of s];exact l) W).imp (·.app u) (Or.imp id λ⟨k',h1,h2⟩=>⟨k',h1,by rw[g?_old hi];exact h2⟩)
  .rcases U with rfl|U
   .have:=knows_own p;grind
   .exact .inr (.inr ⟨k,U,by simp[Trace.g?,p,hu x A]⟩)
 .obtain⟨x,p,l⟩:=touch_of q;rcases getElem?_append_cases p with⟨hi,s⟩|⟨_,A⟩
  .exact (h.atom i k' a H (by rw[<-g?_old (u:=u) hi];exact V) (by rw[touchAt_of s];exact l) Y I).imp (·.app u) id
  .obtain⟨r,J⟩:=C x A a l;obtain⟨b,hb⟩:=DT r;rcases J b hb with⟨_,e⟩|⟨_,_,e⟩|⟨F,_⟩
   .exact absurd e I
   .exact absurd e I
   grind
theorem TP.mute(h:TP Λ Sh live Wk B t){k:Nat}(I:∀op∈u,op.g=k)(W:∀op∈u,op.act.touch?=none)(hl:∀op∈u,op.act.low B):TP Λ Sh live Wk B (t++u):=by
 have old:∀{i:Nat} {a:Touch},touchAt (t++u) i=some a->i<t.size/\touchAt t i=some a:=by
  intro i a c;obtain⟨z,J,p⟩:=touch_of c;rcases getElem?_append_cases J with⟨hi,q⟩|⟨_,K⟩
  .exact⟨hi,by rw[touchAt_of q];exact p⟩
  grind
 refine⟨λsaid=>noRace_append (h.clean said) I λi a c op M b hb H=>zg,λk' e i a c b hb o=>(h.mI k' e i a (old c).2 b hb o).app u,λi op hi a c b hb N=>?_,seen_app h.low hl,λi g r O s H=>?_,λi a c y=>?_,λi k' a e r c A C=>?_⟩
 .rcases getElem?_append_cases hi with⟨_,E⟩|⟨_,R⟩
  .exact h.quiet i op E a c b hb N
  grind
 .obtain⟨x,o,y⟩:=H;obtain⟨hi,S⟩:=old o;obtain⟨j,hj,hb⟩:=h.over i g (by rw[<-g?_old (u:=u) hi];exact r) O s ((counts_old hi).1 ⟨x,o,y⟩);have F:j<t.size:=by
   unfold Trace.g? at hj;grind
  exact⟨j,by rw[g?_old F];exact hj,hb_app u hb⟩
 .obtain⟨hi,l⟩:=old c;exact(h.known i a l y).imp (·.app u) (Or.imp id λ⟨k',U,V⟩=>⟨k',U,by rw[g?_old hi];exact V⟩)
 .obtain⟨hi,l⟩:=old c;exact(h.atom i k' a e (by rw[<-g?_old (u:=u) hi];exact r) l A C).imp (·.app u) id
theorem vV{t:Trace}{B:Nat}(h:∀op∈t,op.act.low B){i:Nat}{a:Touch}(o:touchAt t i=some a)(hb:blk a.loc=some b):b<B:=by
 obtain⟨op,k,c⟩:=touch_of o;have hl:=h op (acx k);cases l:op.act with
 |access e=>
  rw[l]at c hl;simp only[MemAct.touch?,aaX]at c;subst c;simp only[MemAct.low]at hl;simp only at hb;cases j:e.loc<;>rw[j]at hb hl<;>simp only[blk,aaX,reduceCtorEq]at hb
  .subst hb;exact hl
  .subst hb;exact hl
 |mark m=>
  rw[l]at c hl;cases m<;>simp only[MemAct.touch?,aaX,reduceCtorEq]at c
  all_goals
   subst c;simp only[blk,aaX]at hb;subst hb;exact hl
 |_=>rw[l]at c;cases c
theorem TP.grow(h:TP Λ Sh live Wk B t){B':Nat}(s:B<=B')(y:∀k b,Λ'.ow k b->Λ.ow k b\/B<=b)(z:∀b,Λ'.ro b->Λ.ro b\/B<=b)(A:∀b,Λ'.qu b->Λ.qu b\/B<=b)(j:∀b,Λ.qu b->Λ'.qu b):TP Λ' Sh live Wk B' t:=by
 refine⟨h.clean,λk l i a c b hb o=>?_,λi op hi a c b hb o=>?_,λop p=>MemAct.low_mono s (h.low op p),h.over,h.known,λi k a l C c q r=>(h.atom i k a l C c q r).imp id λ⟨b,E,F⟩=>⟨b,E,F.imp (j b) id⟩⟩
 .have e:=vV h.low c hb;refine h.mI k l i a c b hb (o.imp (λx=>(y k b x).resolve_right zo) λx=>⟨(z b x.1).resolve_right zo,x.2⟩)
 .have e:=vV h.low (by rw[touchAt_of hi];exact c) hb;exact h.quiet i op hi a c b hb ((A b o).resolve_right zo)
theorem TP.share(h:TP Λ Sh live Wk B t)(e:∀k,live k->k=0)(r:∀k b,Λ'.ow k b->Λ.ow k b)(s:∀b,Λ'.ro b->Λ.ro b\/Λ.ow 0 b)(q:∀b,Λ'.qu b↔Λ.qu b):TP Λ' Sh live Wk B t:=by
 refine⟨h.clean,λk l i a j b hb c=>?_,λi op hi a j b hb c=>h.quiet i op hi a j b hb ((q b).1 c),h.low,h.over,h.known,λi k a l x j o p=>(h.atom i k a l x j o p).imp id λ⟨b,y,z⟩=>⟨b,y,z.imp (q b).2 id⟩⟩;obtain rfl:=e k l;rcases c with c|⟨c,A⟩
 .exact h.mI 0 l i a j b hb (.inl (r 0 b c))
 .rcases s b c with c|c
  .exact h.mI 0 l i a j b hb (.inr ⟨c,A⟩)
  .exact h.mI 0 l i a j b hb (.inl c)
theorem TP.fork(h:TP Λ Sh live Wk B t)(I:live 0){k:Nat}(Z:k≠0)(ab: ¬Wk k)(ad:∀b,¬Λ.ow k b){x y:MemOp}(A:x.g=0/\x.act=.go k)(J:y.g=k/\y.act=.start)(h0:Deaf t 0=0)(hk:Deaf t k=0):
  TP Λ Sh (λj=>live j\/j=k) (λj=>Wk j\/j=k) B (t++#[x,y]):=by
 have an:∀op∈#[x,y],op.act.touch?=none:=by
  intro op l;simp only[adp,abk,List.not_mem_nil,or_false]at l;rcases l with rfl|rfl
  .rw[A.2];rfl
  .rw[J.2];rfl
 have C:∀op∈#[x,y],op.act.low B:=by
  intro op l;simp only[adp,abk,List.not_mem_nil,or_false]at l;rcases l with rfl|rfl
  .rw[A.2];trivial
  .rw[J.2];trivial
 have old:∀{i:Nat} {a:Touch},touchAt (t++#[x,y]) i=some a->i<t.size/\touchAt t i=some a:=by
  intro i a r;obtain⟨z,H,K⟩:=touch_of r;rcases getElem?_append_cases H with⟨hi,E⟩|⟨_,ao⟩
  .exact⟨hi,by rw[touchAt_of E];exact K⟩
  grind
 refine⟨λsaid=>?_,λk' p i a r b hb q=>?_,λi op hi a r b hb hq=>?_,seen_app h.low C,λi g M N hn hc=>?_,λi a r O=>?_,λi k' a p M r s R=>?_⟩
 .have e:t++#[x,y]=(t++#[x])++#[y]:=by apply Array.ext';simp
  rw[e];refine noRace_append (g:=k) (noRace_append (g:=0) (h.clean said) (λop l=>zg) (λi a _ op l b hb _=>?_)) (λop l=>zg) (λi a _ op l b hb _=>?_)
  .grind
  grind
 .obtain⟨hi,o⟩:=old r;by_cases F:k'=k
  .subst F;rcases q with q|q
   .grind
   .exact fork_knows A J h0 hk (h.mI 0 I i a o b hb (.inr q))
  .exact (h.mI k' (p.resolve_right F) i a o b hb q).app _
 .rcases getElem?_append_cases hi with⟨_,S⟩|⟨_,aq⟩
  .exact h.quiet i op S a r b hb hq
  grind
 .obtain⟨z,H,O⟩:=hc;obtain⟨hi,E⟩:=old H;obtain⟨j,hj,hb⟩:=h.over i g (by rw[<-g?_old (u:=#[x,y]) hi];exact M) N (λhw=>hn (.inl hw)) ((counts_old hi).1 ⟨z,H,O⟩);have U:j<t.size:=by
   unfold Trace.g? at hj;grind
  exact⟨j,by rw[g?_old U];exact hj,hb_app _ hb⟩
 .obtain⟨hi,o⟩:=old r;exact(h.known i a o O).imp (·.app _) (Or.imp id λ⟨k',W,Y⟩=>⟨k',.inl W,by rw[g?_old hi];exact Y⟩)
 .obtain⟨hi,o⟩:=old r;have V:t.g? i=some k':=by rw[<-g?_old (u:=#[x,y]) hi];exact M
  rcases p with p|rfl
  .exact (h.atom i k' a p V o s R).imp (·.app _) id
  .rcases h.known i a o s with A|⟨hs,_⟩|⟨ar,W,Y⟩
   .exact .inl (A.app _)
   .refine .inr ?_;cases hl:a.loc with
    |cell c=>rw[hl]at hs;exact⟨_,rfl,.inr hs⟩
    |obj c=>rw[hl]at hs;exact⟨_,rfl,.inr hs⟩
    |_=>rw[hl]at s;cases s
   grind
theorem TP.begin{Sh:Nat->Prop}{B:Nat}{t:Trace}(h:Past (lJ Sh) B t)(o:∀b,Λ.ro b->¬Sh b)(x:∀k b,Λ.ow k b->B<=b)(y:∀b,Λ.qu b->B<=b):TP Λ Sh (λk=>k=0) (λ_=>False) B t:=by
 refine⟨h.clean,λk e i a c b hb j=>?_,λi op hi a c b hb j=>?_,h.seen,λi g q r _ s=>h.over i g q r s,λi a c p=>(h.known i a c p).imp id .inl,λi k a e=>e.elim⟩
 .subst e;have l:=vV h.seen c hb;rcases j with j|⟨j,_⟩
  .grind
  .have p:a.loc.isMemory=true:=by cases hl:a.loc<;>rw[hl]at hb<;>first|rfl|cases hb
   rcases h.known i a c p with e|⟨hs,_⟩
   .exact e
   .exfalso;refine o b j ?_;cases hl:a.loc<;>rw[hl]at hb hs<;>simp only[blk,aaX,reduceCtorEq]at hb
    .subst hb;exact hs
    .subst hb;exact hs
 .have l:=vV h.seen (by rw[touchAt_of hi];exact c) hb;grind
theorem TP.o7(h:TP Λ Sh live Wk B t){ad:Addr}{q:Nat}(all:∀k,Wk k->∃r,RelBy ad t k r/\r<q)(M:NoRelease ad t)(N:t.act? q=some (.mark (.acquire ad)))(J:t.g? q=some 0)(O:t.heard q)(R:Deaf t 0=0):
  Past (lJ λb=>Sh b\/Λ.qu b) B t:=by
 have hand:∀i k,Wk k->t.g? i=some k->t.counts i->HappensBefore t i q:=by
  intro i k e c o;obtain⟨r,y,A⟩:=all k e;have p:HappensBefore t r q:=.single (.inr ⟨.marked A (.inr y.act) N (λk _ _=>M k),y.heard,O⟩);have S:=Nat.le_of_not_lt λj=>y.after i j c o;rcases abw i r with j|U
  .exact .trans (.single (.inl ⟨j,k,c,y.g⟩)) p
  grind
 refine⟨h.clean,λi a C E=>?_,λi g c F o=>?_,R,h.low⟩
 .have K:∀{l:Loc},lJ Sh l->lJ (λb=>Sh b\/Λ.qu b) l:=λ{l} hl=>by cases l<;>first|exact .inl hl|exact hl
  rcases h.known i a C E with e|⟨hs,e⟩|⟨k,e,c⟩
  .exact .inl e
  .grind
  .by_cases o:t.counts i
   .have:=hand i k e c o;refine .inl ?_;unfold Trace.g? at J;obtain⟨z,V,H⟩:=abD.1 J;exact⟨q,z,V,H,.inr this⟩
   .have s:a.kind=.atomic:=by
     refine aco λI=>o ⟨a,C,E,.inl I⟩
    rcases h.atom i k a e c C E (by rw[s];simp) with I|⟨b,hb,x⟩
    .exact .inl I
    refine .inr ⟨?_,s⟩;cases hl:a.loc<;>rw[hl]at hb<;>simp only[blk,aaX,reduceCtorEq]at hb
    .subst hb;exact x.symm
    .subst hb;exact x.symm
 .by_cases e:Wk g
  .grind
  .exact h.over i g c F e o
end
end
section
open Go.Conc
def nx(P:aj)(m:Bool)(g:ai):Goroutine:=match stepG P m g default with|.go g' _ _=>g'|_=>g
def aW(P:aj)(m:Bool):Nat->ai->ai
 |0,g=>g
 |n+1,g=>aW P m n (nx P m g)
def xm(P:aj)(m:Bool)(g:ai):Array Event:=match stepG P m g default with|.go _ _ es=>es|_=>#[]
def oE(P:aj)(m:Bool)(w:af):Nat->ai->List (GoStatus×GStep)
 |0,_=>[]
 |n+1,g=>(g.status,stepG P m g w)::oE P m w n (nx P m g)
def vc(P:aj)(m:Bool)(w:af):Nat->ai->List (GoStatus×GStep)
 |0,_=>[]
 |n+1,g=>(.running,.go (nx P m g) w #[])::vc P m w n (nx P m g)
def bJ(P:aj)(m:Bool)(n:Nat)(g:ai):Prop:=∀w,oE P m w n g=vc P m w n g
section
variable {P:aj}{m:Bool}
theorem bJ.step{n:Nat}{g:ai}(h:bJ P m (n+1) g):g.status=.running/\(∀w,stepG P m g w=.go (nx P m g) w #[])/\bJ P m n (nx P m g):=by
 refine⟨?_,λw=>?_,λw=>?_⟩
 .have:=h default;simp only[oE,vc,ack,abx]at this;exact this.1.1
 .have:=h w;simp only[oE,vc,ack,abx]at this;exact this.1.2
 .have:=h w;simp only[oE,vc,ack,abx]at this;exact this.2
end
inductive bh (P:aj) (m:Bool):Nat->ai->ai->Prop
 |refl (g:ai):bh P m 0 g g
 |step {n:Nat} {g g1 g2:ai}:g.status=.running->(∀w,stepG P m g w=.go g1 w #[])->bh P m n g1 g2->bh P m (n+1) g g2
def bJ.bu{P:aj}{m:Bool}:∀{n:Nat} {g:ai},bJ P m n g->bh P m n g (aW P m n g)
 |0,g,_=>.refl g
 |_+1,_,h=>.step h.step.1 h.step.2.1 h.step.2.2.bu
theorem bh.trans{P:aj}{m:Bool}{a:Nat}{g g2:ai}(h:bh P m a g g1)(k:bh P m b g1 g2):bh P m (a+b) g g2:=by
 induction h with
 |refl g=>simpa using k
 |@step n g g1 g2 c e _ i=>rw[show n+1+b=(n+b)+1 by omega];exact .step c e (i k)
def bh.one{P:aj}{m:Bool}{g:ai}(h:g.status=.running)(hs:∀w,stepG P m g w=.go g1 w #[]):bh P m 1 g g1:=.step h hs (.refl _)
def qo(id:Nat):Code->List Item->Option (List Item)
 |.seq a b,k=>(qo id a (.code b::k)).or (qo id b k)
 |.cond _ a b,k=>(qo id a k).or (qo id b k)
 |.block i c,k=>qo id c (.inBlock i::k)
 |.loop c,k=>qo id c (.inLoop c::k)
 |.region j ops _,k=>if j=id then some (.inRegion ops (List.range ops.size)::k) else none
 |_,_=>none
def Oe(n:Nat):List Item->List Item
 |.inRegion ops l::k=>.inRegion ops (l.drop n)::k
 |k=>k
def Il(P:aj)(f:au)(id n:Nat):List Item:=Oe n ((((P.funcs[f]?).bind (·.body)).bind λc=>qo id c []).getD [])
def JW(P:aj)(f:au)(id n:Nat)(ts:aa)(cs:List al):Goroutine:=
 {frame:={fn:=f,tmps:=ts,todo:=Il P f id n,defers:=[],mode:=.run,kind:=.normal},callers:=cs,status:=.running,dying:=none}
def tV(P:aj)(w:af):Nat->ai->List (GoStatus×GStep)
 |0,_=>[]
 |n+1,g=>(.running,.go (nx P false g) w (xm P false g))::tV P w n (nx P false g)
def AY(P:aj):Nat->ai->Bool
 |0,_=>true
 |n+1,g=>(xm P false g).all Event.mute&&AY P n (nx P false g)
def Gk(P:aj):Nat->Nat->ai->Nat
 |0,d,_=>d
 |n+1,d,g=>Gk P n (deafBehind d (xm P false g)) (nx P false g)
theorem J7{P:aj}:∀(n d:Nat) (g:ai),(∀w,oE P false w n g=tV P w n g)->AY P n g=true->Gk P n d g=0->(aW P false n g).status=.finished->QuitsD P n d g
 |0,d,g,_,_,c,i=>⟨i,c⟩
 |n+1,d,g,hs,j,c,i=>by
  simp only[AY,No]at j;refine .inr ⟨?_,nx P false g,xm P false g,λe k=>acH.1 j.1 e k,λw=>?_,?_⟩
  .have:=hs default;simp only[oE,tV,ack,abx]at this;exact this.1.1
  .have:=hs w;simp only[oE,tV,ack,abx]at this;exact this.1.2
  .refine J7 n _ _ (λw=>?_) j.2 c i
   have:=hs w;simp only[oE,tV,ack,abx]at this;exact this.2
theorem QuitsD.bu{P:aj}{n q:Nat}{g:ai}(h:bh P false n g g1)(k:QuitsD P q d g1):QuitsD P (n+q) d g:=by
 induction h with
 |refl g=>simpa using k
 |@step n g g1 g2 c e _ i=>
  rw[show n+1+q=(n+q)+1 by omega];exact .inr ⟨c,g1,#[],zp,e,i k⟩
def QuitsD.marked{P:aj}{q:Nat}{g:ai}(h:g.status=.running)(hs:∀w,stepG P false g w=.go g1 w es)(c:∀e∈es,Event.mute e=true)(k:QuitsD P q (deafBehind d es) g1):QuitsD P (q+1) d g:=
 .inr ⟨h,g1,es,c,hs,k⟩
inductive ny where
 |val (v:ag)|shp (x:Option (ak×Nat))|fz (b:Bool)|ref (r:Nat)|obj (o:Obj)
inductive oF where
 |ld (m:Mode) (a:Addr)|st (m:Mode) (a:Addr) (v:ag)|shp (r:Nat)|fz (a:Addr)|nw (o:Obj)|gt (r:Nat)|pt (r:Nat) (o:Obj)|mk (m:Mark)
def feed(P:aj):Sem α->List ny->Option (List oF×(α ⊕ Halt))
 |.pure a,[]=>some ([],.inl a)
 |.halt h,[]=>some ([],.inr h)
 |.load m a k,.val v::aaN=>(feed P (k v) aaN).map λx=>(.ld m a::x.1,x.2)
 |.store m a v k,aaN=>(feed P k aaN).map λx=>(.st m a v::x.1,x.2)
 |.new o k,.ref r::aaN=>(feed P (k r) aaN).map λx=>(.nw o::x.1,x.2)
 |.shape r k,.shp y::aaN=>(feed P (k y) aaN).map λx=>(.shp r::x.1,x.2)
 |.frozen a k,.fz b::aaN=>(feed P (k b) aaN).map λx=>(.fz a::x.1,x.2)
 |.getObj r k,.obj o::aaN=>(feed P (k o) aaN).map λx=>(.gt r::x.1,x.2)
 |.setObj r o k,aaN=>(feed P k aaN).map λx=>(.pt r o::x.1,x.2)
 |.mark m k,aaN=>(feed P k aaN).map λx=>(.mk m::x.1,x.2)
 |.program k,aaN=>feed P (k P) aaN
 |_,_=>none
def D9:Obj->Bool
 |.cells .. =>true
 |_=>false
def iw:List oF->List ny->af->Array Event->af->Array Event->Prop
 |[],[],w,es,w',es'=>w'=w/\es'=es
 |.ld m a::ds,.val v::aaN,w,es,w',es'=>w.cell? a=some v/\iw ds aaN w (es.push ⟨.cell a,false,m==.atomic⟩) w' es'
 |.st m a v::ds,aaN,w,es,w',es'=>(∀c,v≠.agg c)/\(∀c,v≠.tuple c)/\(∃x,w.cell? a=some x)/\w.frozen? a=false/\iw ds aaN (w.setCell a v) (es.push ⟨.cell a,true,m==.atomic⟩) w' es'
 |.nw o::ds,.ref r::aaN,w,es,w',es'=>r=w.heap.size/\iw ds aaN {w with heap:=w.heap.push o} es w' es'
 |.shp r::ds,.shp x::aaN,w,es,w',es'=>w.shape? r=x/\iw ds aaN w es w' es'
 |.fz a::ds,.fz b::aaN,w,es,w',es'=>w.frozen? a=b/\iw ds aaN w es w' es'
 |.gt r::ds,.obj o::aaN,w,es,w',es'=>w.heap[r]?=some o/\D9 o=false/\iw ds aaN w (es.push ⟨.obj r,false,o.isChan⟩) w' es'
 |.pt r o::ds,aaN,w,es,w',es'=>(∃q,w.heap[r]?=some q/\D9 q=false)/\iw ds aaN {w with heap:=w.heap.setIfInBounds r o} (es.push ⟨.obj r,true,o.isChan⟩) w' es'
 |.mk m::ds,aaN,w,es,w',es'=>iw ds aaN w (es.push ⟨.mark m,false,true⟩) w' es'
 |_,_,_,_,_,_=>False
theorem yn{P:aj}:∀(p:Sem α) (aaN:List ny) (ds:List oF) (r:α ⊕ Halt) (w w':af) (es es':Array Event),feed P p aaN=some (ds,r)->iw ds aaN w es w' es'->
  p.runT P w es=((match r with|.inl a=>.ok a w'|.inr h=>.halt h w'),es'):=by
 intro p;induction p with
 |pure a=>
  intro aaN ds r w w' es es' e i;cases aaN with
  |nil=>simp only[feed,aaX,abx]at e;obtain⟨rfl,rfl⟩:=e;obtain⟨rfl,rfl⟩:=i;rfl
  |cons=>cases e
 |halt h=>
  intro aaN ds r w w' es es' e i;cases aaN with
  |nil=>simp only[feed,aaX,abx]at e;obtain⟨rfl,rfl⟩:=e;obtain⟨rfl,rfl⟩:=i;rfl
  |cons=>cases e
 |load m a k j=>
  intro aaN ds r w w' es es' e i;match aaN,e with
  |.val v::aaN,e=>
   simp only[feed,abD,abx]at e;obtain⟨⟨d1,s⟩,l,rfl,rfl⟩:=e;obtain⟨z,i⟩:=i;rw[Sem.runT,z];grind
 |store m a v k j=>
  intro aaN ds r w w' es es' e i;simp only[feed,abD,abx]at e;obtain⟨⟨d1,s⟩,l,rfl,rfl⟩:=e;simp only[iw]at i;obtain⟨C,E,⟨x,z⟩,F,i⟩:=i;rw[Sem.runT.eq_5 _ _ _ _ _ _ _ C E,z];grind
 |new o k j=>
  intro aaN ds r w w' es es' e i;match aaN,e with
  |.ref A::aaN,e=>
   simp only[feed,abD,abx]at e;obtain⟨⟨d1,s⟩,l,rfl,rfl⟩:=e;obtain⟨rfl,i⟩:=i;rw[Sem.runT];grind
 |shape A k j=>
  intro aaN ds r w w' es es' e i;match aaN,e with
  |.shp y::aaN,e=>
   simp only[feed,abD,abx]at e;obtain⟨⟨d1,s⟩,l,rfl,rfl⟩:=e;obtain⟨rfl,i⟩:=i;rw[Sem.runT];grind
 |freeze a n k j=>intro aaN ds r w w' es es' e;cases e
 |frozen a k j=>
  intro aaN ds r w w' es es' e i;match aaN,e with
  |.fz b::aaN,e=>
   simp only[feed,abD,abx]at e;obtain⟨⟨d1,s⟩,l,rfl,rfl⟩:=e;obtain⟨rfl,i⟩:=i;rw[Sem.runT];grind
 |getObj A k j=>
  intro aaN ds r w w' es es' e i;match aaN,e with
  |.obj o::aaN,e=>
   simp only[feed,abD,abx]at e;obtain⟨⟨d1,s⟩,l,rfl,rfl⟩:=e;obtain⟨z,hi,i⟩:=i;rw[Sem.runT,z];cases o with
   |cells=>cases hi
   |_=>exact j _ _ _ _ _ _ _ _ l i
 |setObj A o k j=>
  intro aaN ds r w w' es es' e i;simp only[feed,abD,abx]at e;obtain⟨⟨d1,s⟩,l,rfl,rfl⟩:=e;simp only[iw]at i;obtain⟨⟨q,z,hi⟩,i⟩:=i;rw[Sem.runT,z];cases q with
  |cells=>cases hi
  |_=>exact j _ _ _ _ _ _ _ l i
 |choose q k j=>intro aaN ds r w w' es es' e;cases e
 |sys c k j=>intro aaN ds r w w' es es' e;cases e
 |program k j=>
  intro aaN ds r w w' es es' e i;rw[Sem.runT];exact j P _ _ _ _ _ _ _ e i
 |mark m k j=>
  intro aaN ds r w w' es es' e i;simp only[feed,abD,abx]at e;obtain⟨⟨d1,s⟩,l,rfl,rfl⟩:=e;simp only[iw]at i;rw[Sem.runT];grind
def bG(g:ai):Sem Next:=execOp g.frame.eval ((g.frame.oper?).getD default)
def bg(P:aj)(m:Bool)(g:ai):Prop:=(∀w,stepG P m g w=stepG.apply P true g.frame g.callers none (bG g) w)/\g.status=.running/\(g.frame.kind==.early)=false
def gP(g:ai)(fr:al):Goroutine:={frame:=fr,callers:=g.callers,status:=.running,dying:=none}
section
variable {P:aj}{m:Bool}{g:ai}
theorem bg.value(h:bg P m g){rs:List ny}{ds:List oF}{v:ag}(c:feed P (bG g) rs=some (ds,.inl (.value v))){w w':af}{es:Array Event}(e:iw ds rs w #[] w' es):
  stepG P m g w=.go (gP g (g.frame.finish v)) w' (seen P g.frame.fn es):=by
 have i:=yn _ _ _ _ _ _ _ _ c e;rw[h.1 w];simp only[stepG.apply,i,h.2.2,abf,abd,abj,GStep.after,gP,abL]
theorem bg.skip(h:bg P m g){aaN:List ny}{ds:List oF}(c:feed P (bG g) aaN=some (ds,.inl .skip))(e:iw ds aaN w #[] w' es):
  stepG P m g w=.go (gP g (g.frame.finish undef)) w' (seen P g.frame.fn es):=by
 have i:=yn _ _ _ _ _ _ _ _ c e;rw[h.1 w];simp only[stepG.apply,i,h.2.2,abf,abd,abj,GStep.after,gP,abL]
theorem bg.comm(h:bg P m g){aaN:List ny}{ds:List oF}{cases:Array CommCase}{b:Bool}{sh:CommShape}(c:feed P (bG g) aaN=some (ds,.inl (.comm cases b sh)))(e:iw ds aaN w #[] w' es):
  stepG P m g w=.comm (gP g g.frame) cases b sh w' (seen P g.frame.fn es):=by
 have i:=yn _ _ _ _ _ _ _ _ c e;rw[h.1 w];simp only[stepG.apply,i,h.2.2,abf,abd,abj,GStep.after,gP,abL]
theorem bg.blocked(h:bg P m g){aaN:List ny}{ds:List oF}(c:feed P (bG g) aaN=some (ds,.inr .blocked))(e:iw ds aaN w #[] w' es):
  stepG P m g w=.go {frame:=g.frame,callers:=g.callers,status:=.blocked,dying:=none} w' (seen P g.frame.fn #[]):=by
 have i:=yn _ _ _ _ _ _ _ _ c e;rw[h.1 w];simp only[stepG.apply,i,abj,GStep.after,abL];split<;>rfl
end
end
section
open Go.Conc
inductive eL (Q:aj) (Goal:al->List al->af->Prop):al->List al->af->al->List al->af->Prop
 |refl (fr:al) (cs:List al) (w:af):eL Q Goal fr cs w fr cs w
 |step {fr:al} {cs:List al} {w:af} {fr1:al} {cs1:List al} {w1:af} {fr2:al} {cs2:List al} {w2:af} (t:Nat->Question->Nat) (es:Array Event):
   ¬Goal fr cs w->stepG Q true (lg fr cs) {w with tape:=t}=.go (lg fr1 cs1) w1 es->eL Q Goal fr1 cs1 w1 fr2 cs2 w2->eL Q Goal fr cs w fr2 cs2 w2
section
variable {Q:aj}{Goal:al->List al->af->Prop}
theorem eL.trans{fr cs w fr1 cs1 w1 fr2 cs2 w2}(h:eL Q Goal fr cs w fr1 cs1 w1)(k:eL Q Goal fr1 cs1 w1 fr2 cs2 w2):eL Q Goal fr cs w fr2 cs2 w2:=by
 induction h with
 |refl=>exact k
 |step t es c e _ i=>exact .step t es c e (i k)
theorem Safe.next{fr cs w}(h:Safe Q Goal fr cs w)(k: ¬Goal fr cs w)(t:Nat->Question->Nat){fr1 cs1 w1 es}(e:stepG Q true (lg fr cs) {w with tape:=t}=.go (lg fr1 cs1) w1 es):Safe Q Goal fr1 cs1 w1:=by
 cases h with
 |goal l=>exact absurd l k
 |step f c u o _ _ i _ j=>
  rw[i t]at e;simp only[lg,GStep.go.injEq,Goroutine.mk.injEq,acb,List.append_cancel_right_eq]at e;grind
theorem Safe.goes{fr cs w}(h:Safe Q Goal fr cs w)(l: ¬Goal fr cs w)(t:Nat->Question->Nat): ∃fr1 cs1 w1 es,stepG Q true (lg fr cs) {w with tape:=t}=.go (lg fr1 cs1) w1 es/\jw (lg fr1 cs1)/\Safe Q Goal fr1 cs1 w1:=by
 cases h with
 |goal o=>exact absurd o l
 |step f c u j _ _ k e i=>exact⟨f t,c t,u t,j t,k t,⟨(e t).status,(e t).dying,(e t).mode,(e t).kind⟩,i t⟩
theorem Safe.run{fr cs w fr1 cs1 w1}(h:Safe Q Goal fr cs w)(k:eL Q Goal fr cs w fr1 cs1 w1):Safe Q Goal fr1 cs1 w1:=by
 induction k with
 |refl=>exact h
 |step t es c e _ i=>exact i (Safe.next h c t e)
theorem Safe.EF(q:∀fr cs w,Safe Q Goal fr cs w->(∀t fr1 cs1 w1 es,¬Goal fr cs w->stepG Q true (lg fr cs) {w with tape:=t}=.go (lg fr1 cs1) w1 es->X fr1 cs1 w1)->X fr cs w){fr cs w}(h:Safe Q Goal fr cs w):X fr cs w:=by
 induction h with
 |goal r=>exact q _ _ _ (.goal r) λ_ _ _ _ _ s=>absurd r s
 |step f c u k l o i p j x=>
  refine q _ _ _ (.step f c u k l o i p j) λt fr1 cs1 w1 es _ e=>?_;rw[i t]at e;simp only[lg,GStep.go.injEq,Goroutine.mk.injEq,acb,List.append_cancel_right_eq]at e;grind
end
section
variable {P:aj}{G:Array Func}{L:aR}{T:bw}{Goal:al->List al->af->Prop}
theorem H0(S:Stat P G L T){τ:aJ}{D:List al}{fr frQ:al}{cs:List al}(l:jG P G L T τ (frQ::cs++ [wall]) D (lg fr (frQ::cs)) w h v)(o:fr.fn≠T.cA)(j:fr.mode=.returning)(p:fr.defers= [])(t:Nat->Question->Nat){fr1:al}{cs1:List al}{w1:af}(e:stepG (gp P G) true (lg fr (frQ::cs)) {w with tape:=t}=.go (lg fr1 cs1) w1 es):
  ∃x fn,P.funcs[fr.fn]?=some fn/\(results fn fr.tmps).run (gp P G) {w with tape:=t}=.ok x {w with tape:=t}/\fr1=frQ.finish x/\cs1=cs/\w1= {w with tape:=t}:=by
 have i:=l.g.frame.runs o;have q:=i.kind.1;obtain⟨fn,c,b1,b2,_,_,_⟩:=S.cY.body fr.fn i.cY i.np;have s:stepG (gp P G) true (lg fr (frQ::cs)) {w with tape:=t}=unwind (gp P G) true fr (frQ::cs++ [wall]) none {w with tape:=t}:=by simp only[stepG,j]
 rw[s,sR (P:=gp P G) p j b2]at e;cases k:(results fn fr.tmps).runT (gp P G) {w with tape:=t} #[] with
 |mk r y=>
  rw[k]at e;cases r with
  |halt z w'=>cases z<;>cases e
  |ok x w'=>
   have A:=Reads.results fn fr.tmps _ _ _ _ _ k;subst A;simp only[qN,abT,doReturn,q,GStep.after,GStep.go.injEq,lg,Goroutine.mk.injEq,acb,List.append_cancel_right_eq]at e;simp_all
theorem FT(S:Stat P G L T)(l: ¬L.fn T.cA)(o:∀fr cs w,Goal fr cs w->cs= []){frQ:al}{cs:List al}{D:List al}{B0:Nat}{w0:af}{fr:al}{c:List al}(i:Safe (gp P G) Goal fr c w):
  ∀(sub:List al) (τ:aJ) (h:ai) (v:af),c=sub++frQ::cs->jG P G L T τ (frQ::cs++ [wall]) D (lg fr c) w h v->(∀r s,τ.mine r s->B0<=r)->B0<=w->(∀r,r<B0->w.heap[r]?=w0.heap[r]?)->
   ∃x w',eL (gp P G) Goal fr c w (frQ.finish x) cs w'/\B0<=w'/\∀r,r<B0->w'.heap[r]?=w0.heap[r]? :=by
 refine Safe.EF (Q:=gp P G) (Goal:=Goal) (X:=λfr c w=>∀(sub:List al) (τ:aJ) (h:ai) (v:af),c=sub++frQ::cs->jG P G L T τ (frQ::cs++ [wall]) D (lg fr c) w h v->(∀r s,τ.mine r s->B0<=r)->B0<=w->(∀r,r<B0->w.heap[r]?=w0.heap[r]?)->
   ∃x w',eL (gp P G) Goal fr c w (frQ.finish x) cs w'/\B0<=w'/\∀r,r<B0->w'.heap[r]?=w0.heap[r]?) ?_ i
 intro fr c w i J sub τ h v K E p y hold;have j: ¬Goal fr c w:=λM=>by have:=o _ _ _ M;simp_all
 have I:fr.fn≠T.cA:=λe=>by
  have key:∀a b,jC P G L T τ a b->a.fn=T.cA->False:=by
   intro a b k e;cases k with
   |run k=>exact k.np e
   |cA N _ _=>exact l N
  exact key _ _ E.g.frame e
 obtain⟨fr1,cs1,w1,es,e,F,C⟩:=Safe.goes i j (pX w v);by_cases hl:fr.mode=.returning/\fr.defers= []/\c=frQ::cs
 .obtain⟨O,R,rfl⟩:=hl;obtain⟨x,fn,_,_,rfl,rfl,rfl⟩:=H0 S E I O R _ e;exact⟨x,_,.step _ _ j e (.refl _ _ _),y,hold⟩
 .obtain⟨U,v1,fs,τ1,_,z,_,q⟩:=E.step S true I (λx=>hl ⟨x.1,x.2.1,acG ((show c++ [wall]=frQ::cs++ [wall] from x.2.2).trans zp)⟩) e F;obtain⟨cs2,V,H,_,_,_⟩:=z.g.parts;have A:cs1=cs2++frQ::cs:=by
   have:=congrArg Goroutine.callers H;have W:cs1++ [wall]=(cs2++frQ::cs)++ [wall]:=(show cs1++ [wall]=cs2++(frQ::cs++ [wall]) from this).trans zp;exact acG W
  have m1:∀r s,τ1.mine r s->B0<=r:=λr s k=>by
   rcases q.mine r s k with k|k
   .exact p r s k
   .omega
  have m2:∀r,r<B0->w1.heap[r]?=w0.heap[r]? :=λr Y=>by
   rw[q.pS r zo (λs k=>zg),hold r Y]
  obtain⟨x,w',Z,r2,r3⟩:=J _ fr1 cs1 w1 es j e cs2 τ1 U v1 A z m1 (IT y q.grow) m2;exact⟨x,w',.step _ _ j e Z,r2,r3⟩
end
end
section
open Go.Conc
open Go.ConcN (upd)
def qOp(d:Option Tmp)(o:Op)(ty:ak):Oper:={dst:=d,op:=o,type:=ty,pos:= "",after:=#[],guard:=none}
def qI(n:Int):Operand:=.const (.i n)
def qU(n:Int):Operand:=.const (.int .u64 n)
def kS(d:Tmp)(o:BinOp)(t:ak)(x y:ax):Oper:=qOp (some d) (.binOp o t x y t) 4
def BB(d:Tmp):Oper:=qOp (some d) (.call {callee:=.value (.tmp 2),args:=#[.tmp 4],argTypes:=#[3]}) 9
def Bt(d s:Tmp):Oper:=qOp (some d) (.call {callee:=.value (.func 84),args:=#[.tmp s],argTypes:=#[9]}) 55
def tq:Code:=
 .seq (.region 0 #[kS 16 .lss 3 (.tmp 0) (qI 0),kS 17 .lss 3 (.tmp 1) (qI 0),kS 10 .eql 3 (.tmp 1) (qI 1),kS 11 .eql 3 (.tmp 1) (qI 4),kS 12 .eql 3 (.tmp 1) (qI 16),kS 13 .eql 3 (.tmp 1) (qI 64)] false)
 (.seq (.cond (.tmp 10) .skip (.cond (.tmp 11) .skip (.cond (.tmp 12) .skip (.cond (.tmp 13) .skip (.refuse "")))))
 (.seq (.region 1 #[qOp (some 6) (.makeSlice 158 (.tmp 1) (.tmp 1)) 158,qOp (some 3) (.move (qI 0)) 3] false)
 (.seq (.block 0 (.loop
  (.seq (.region 2 #[kS 14 .lss 3 (.tmp 3) (.tmp 1)] false)
  (.seq (.cond (.tmp 14) .skip (.exit 0))
  (.seq (.region 3 #[qOp (some 4) (.binOp .add 3 (.tmp 0) (.tmp 3) 3) 3] false)
  (.seq (.region 4 #[BB 5,kS 18 .lss 9 (.tmp 5) (.const (.s ByteArray.empty)),Bt 7 5] false)
  (.seq (.region 5 #[BB 8,kS 18 .lss 9 (.tmp 8) (.const (.s ByteArray.empty)),Bt 9 8] false)
  (.seq (.region 6 #[kS 18 .lss 55 (.tmp 7) (qU 0),kS 19 .lss 55 (.tmp 9) (qU 0),kS 15 .neq 55 (.tmp 7) (.tmp 9)] false)
  (.seq (.cond (.tmp 15) (.refuse "") .skip)
  (.region 7 #[qOp (some 18) (.indexAddr 158 (.tmp 6) (.tmp 3)) 158,qOp none (.store 55 (.tmp 18) (.tmp 9)) 55,qOp (some 19) (.binOp .add 3 (.tmp 3) (qI 1) 3) 3,qOp (some 3) (.move (.tmp 19)) 3] false)))))))))) .ret)))
def po:Func:={(((Tryz.prog).funcs[(95:Nat)]?).getD default) with ntmps:=20,results:=#[.tmp 6],body:=some tq}
def Gg:Array Func:=(Tryz.prog).funcs.setIfInBounds 95 po
abbrev Qg:Program:=gp Tryz.prog Gg
def uB(Q:aj):Nat->ai->List ai
 |0,g=>[g]
 |n+1,g=>g::uB Q n (nx Q true g)
def tJ(Q:aj)(cs:List al):Nat->ai->List ai
 |0,g=>[lg g.frame cs]
 |n+1,g=>lg g.frame cs::tJ Q cs n (nx Q true g)
def wD(Q:aj)(f:au):Nat->ai->Bool
 |0,_=>true
 |n+1,g=>g.frame.fn==f&&wD Q f n (nx Q true g)
structure fN(Q:aj)(f:au)(n:Nat)(fr:al)(cs:List al):Prop where
 aav:bJ Q true n (lg fr cs)
 WG:uB Q n (lg fr cs)=tJ Q cs n (lg fr cs)
 fns:wD Q f n (lg fr cs)=true
theorem H5{Q:aj}{Goal:al->List al->af->Prop}(c:∀fr cs w,Goal fr cs w->fr.fn≠f){cs:List al}(w:af):∀(n:Nat) (g:ai),bJ Q true n g->uB Q n g=tJ Q cs n g->wD Q f n g=true->eL Q Goal g.frame cs w (aW Q true n g).frame cs w
 |0,g,_,_,_=>.refl _ _ _
 |n+1,g,hs,e,i=>by
  obtain⟨h1,j,k⟩:=hs.step;simp only[uB,tJ,ack]at e;simp only[wD,No,abt]at i;have l:=e.1;have o:nx Q true g=lg (nx Q true g).frame cs:=by
   have:=e.2;cases n<;>simp only[uB,tJ,ack,acb]at this
   .exact this
   .exact this.1
  refine .step w.tape #[] (λp=>c _ _ _ p i.1) ?_ (H5 c w n (nx Q true g) k e.2 i.2);rw[<-l,<-o];exact j w
def fN.run{Q:aj}{Goal:al->List al->af->Prop}{n:Nat}{fr fr':al}{cs:List al}(h:fN Q f n fr cs)(c:∀fr cs w,Goal fr cs w->fr.fn≠f)(e:(aW Q true n (lg fr cs)).frame=fr')(w:af):eL Q Goal fr cs w fr' cs w:=
 e▸H5 c w n (lg fr cs) h.aav h.WG h.fns
def frQ(id n:Nat)(ts:aa):Frame:={fn:=95,tmps:=ts,todo:=Il Qg 95 id n,defers:=[],mode:=.run,kind:=.normal}
def qT(x0 x1 x2:ag)(xs:Nat->ag):Array Value:=#[x0,x1,x2,xs 3,xs 4,xs 5,xs 6,xs 7,xs 8,xs 9,xs 10,xs 11,xs 12,xs 13,xs 14,xs 15,xs 16,xs 17,xs 18,xs 19]
def eO:GStep->Bool
 |.go .. =>true
 |_=>false
abbrev fQ:FuncId:=95
section
variable (x0 x1 x2:ag) (a n:Int) (xs:Nat->ag) (cs:List al)
def un:Nat->Value:=λ_=>undef
theorem Ol:fN Qg fQ 2 (Frame.enter Qg fQ #[x0,x1,x2] .normal) cs:=⟨λw=>zk,zk,zk⟩
theorem Z5:(aW Qg true 2 (lg (Frame.enter Qg fQ #[x0,x1,x2] .normal) cs)).frame=frQ 0 0 (qT x0 x1 x2 un):=zk
theorem TW(w:af)(h:eO (stepG Qg true (lg (frQ 0 0 (qT x0 x1 x2 un)) cs) w)=true): ∃a,x0=.i a:=by
 have c:∀x,eO (stepG Qg true (lg (frQ 0 0 (qT x x1 x2 un)) cs) w)=false->x0=x->False:=λx j e=>zg;cases x0 with
 |int k a=>cases k<;>first|exact⟨a,rfl⟩|exact(c _ zk rfl).elim
 |pointer p=>cases p<;>exact(c _ zk rfl).elim
 |_=>exact(c _ zk rfl).elim
theorem MQ:fN Qg fQ 1 (frQ 0 0 (qT (.i a) x1 x2 xs)) cs:=⟨λw=>zk,zk,zk⟩
theorem Mr:(aW Qg true 1 (lg (frQ 0 0 (qT (.i a) x1 x2 xs)) cs)).frame=frQ 0 1 (qT (.i a) x1 x2 (upd xs 16 (.bool (decide (a<0))))):=zk
theorem Y2(w:af)(h:eO (stepG Qg true (lg (frQ 0 1 (qT x0 x1 x2 xs)) cs) w)=true): ∃n,x1=.i n:=by
 have c:∀x,eO (stepG Qg true (lg (frQ 0 1 (qT x0 x x2 xs)) cs) w)=false->x1=x->False:=λx j e=>zg;cases x1 with
 |int k a=>cases k<;>first|exact⟨a,rfl⟩|exact(c _ zk rfl).elim
 |pointer p=>cases p<;>exact(c _ zk rfl).elim
 |_=>exact(c _ zk rfl).elim
theorem aal:fN Qg fQ 5 (frQ 0 1 (qT x0 (.i n) x2 xs)) cs:=⟨λw=>zk,zk,zk⟩
def jc(b1 b2 b3 b4:Bool)(xs:Nat->ag):Nat->Value:=upd (upd (upd (upd xs 10 (.bool b1)) 11 (.bool b2)) 12 (.bool b3)) 13 (.bool b4)
theorem Wp:(aW Qg true 5 (lg (frQ 0 1 (qT x0 (.i n) x2 xs)) cs)).frame=frQ 0 6 (qT x0 (.i n) x2 (jc (decide (n=1)) (decide (n=4)) (decide (n=16)) (decide (n=64)) (upd xs 17 (.bool (decide (n<0)))))):=zk
end
end
end Go.Proofs.YtldmcdeibiclkaaGreat.U
