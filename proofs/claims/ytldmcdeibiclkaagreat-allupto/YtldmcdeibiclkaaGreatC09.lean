/-
  Toward all_holds
-/
import Derived.Test.YtldmcdeibiclkaaGreatC08
import Derived.Test.YtldmcdeibiclkaaGreatC01
set_option linter.all false
noncomputable section
set_option maxRecDepth 100000
set_option maxHeartbeats 20000000
namespace Go.Proofs.YtldmcdeibiclkaaGreat.U
variable {v v1:af}{t:Trace}{gs:Array ai}{σ:Wk}{g g1 h:ai}{es:Array Event}{xs:Nat->ag}{s':PS}{ow:Nat->Prop}{j d B:Nat}{mt mt':Mt}{P:aj}{m:Bool}{fn:au}{pos:String}{x:kD}
section
open Go.Conc
open Go.ConcN (upd upd_same upd_ne sumTo sumTo_upd sumTo_congr RelBy)
theorem bh.run{n:Nat}(h:bh P m n g g1)(h1:g1.status=.running):g.status=.running:=by
 cases h with
 |refl=>exact h1
 |step hs _ _=>exact hs
theorem bh.eJ{n:Nat}(h:bh P m n g g1):(n=0/\g=g1)\/∃k g',n=k+1/\(∀w,stepG P m g w=.go g' w #[])/\bh P m k g' g1:=by
 cases h with
 |refl=>grind
 |step _ hs h=>grind
section
variable {L:aR}{T:bw}{Goal:al->List al->af->Prop}{X:PC L}
theorem iQ.nM{v2:af}(h:iQ T Goal X ow d g v σ)(hs:v<=v2.heap.size)(f:∀t,(∃r,X.E.ρ r t)\/ow t->v2.heap[t]?=v.heap[t]?):iQ T Goal X ow d g v2 σ:=by
 cases σ with
 |text i l xs s=>obtain⟨a,b,Y,c,e⟩:=h;exact⟨a,b,Y,c,e.nM hs f⟩
 |lz i l xs s=>obtain⟨a,b,Y,c,e⟩:=h;exact⟨a,b,Y,c,e.nM hs f⟩
 |_=>exact h
theorem GA(p:Pl)(xs:Nat->ag)(l:List Nat):(bO p xs l).status=.running:=zk
theorem iQ.status(h:iQ T Goal X ow d g v σ):(σ.parked=false/\(g.status=.running\/g.status=.finished))\/(∃xs,σ=.eB xs/\g=kg X xs):=by
 cases σ with
 |load n=>exact .inl ⟨rfl,.inl (h.1.run (Bf _).2.1)⟩
 |recv n xs=>exact .inl ⟨rfl,.inl (h.1.run (Bq _ _).2.1)⟩
 |eB xs=>exact .inr ⟨xs,rfl,h.1⟩
 |woken xs=>exact .inl ⟨rfl,.inl (by rw[h.1])⟩
 |draw n i xs=>exact .inl ⟨rfl,.inl (h.1.run (FC _ _))⟩
 |ops i l xs=>exact .inl ⟨rfl,.inl (by rw[h.1];exact GA _ _ _)⟩
 |text i l xs s=>obtain⟨_,_,Y,_,a⟩:=h;exact .inl ⟨rfl,.inl a.running⟩
 |lz i l xs s=>obtain⟨_,_,Y,_,a⟩:=h;exact .inl ⟨rfl,.inl a.running⟩
 |conv n xs=>exact .inl ⟨rfl,.inl (h.1.run (zM _ _).2.1)⟩
 |rz xs=>exact .inl ⟨rfl,.inl (by rw[h.1];exact F4 _ _)⟩
 |fC n xs=>exact .inl ⟨rfl,.inl (h.1.run (EV _ _))⟩
 |add n xs=>exact .inl ⟨rfl,.inl (h.1.run (yH _ _).2.1)⟩
 |iI n xs=>exact .inl ⟨rfl,.inl (h.1.run (zQ _ _ _).2.1)⟩
 |ft n xs=>exact .inl ⟨rfl,.inl (h.1.run (BU _ _ _).2.1)⟩
 |iu n xs=>exact .inl ⟨rfl,.inl (h.1.run (AH _ _ _).2.1)⟩
 |quit q=>exact .inl ⟨rfl,(show QuitsD Pg q d g from h).status⟩
def uS(X:PC L):ue X.p=#[rcase X.M.cN (.i 0)]:=rfl
theorem iQ.woken(h:iQ T Goal X ow d g v σ)(a f:ai)(c:σ.parked=true->∃cap b s r e,v1.heap[X.M.cN]?=some (.chan cap b false s r e)):Go.Conc.woken Pg a f v1 g=g:=by
 rcases h.status with⟨_,hs⟩|⟨xs,rfl,rfl⟩
 .unfold Go.Conc.woken;split
  .exact again_running _ hs
  .rfl
 .obtain⟨cap,b,s,r,e,c⟩:=c rfl;unfold kg;rw[uS];exact woken_recv_open _ _ c
theorem LV(c:al)(cs:List al)(wg:Nat){k:Nat}(h:2<=k/\k<=4):(tX c cs wg (k*bM:Nat)).status=.running:=by
 rcases (show k=2\/k=3\/k=4 by omega) with rfl|rfl|rfl<;>kernel_rfl
theorem BR(c:al)(cs:List al)(wg:Nat)(ys:Nat->ag){k:Nat}(h:1<=k/\k<=4):bg Pg true (ry c cs wg ys (k*bM:Nat)):=by
 rcases (show k=1\/k=2\/k=3\/k=4 by omega) with rfl|rfl|rfl|rfl<;>exact⟨λw=>zk,zk,zk⟩
theorem C2(c:al)(cs:List al)(wg:Nat)(ys:Nat->ag){k:Nat}(h:1<=k/\k<=4):bg Pg true (xR c cs wg ys (k*bM:Nat)):=by
 rcases (show k=1\/k=2\/k=3\/k=4 by omega) with rfl|rfl|rfl|rfl<;>exact⟨λw=>zk,zk,zk⟩
theorem P7(c:al)(cs:List al)(wg:Nat)(ys:Nat->ag){k:Nat}(h:1<=k/\k<=4):(tC c cs wg ys (k*bM:Nat)).status=.running:=by
 rcases (show k=1\/k=2\/k=3\/k=4 by omega) with rfl|rfl|rfl|rfl<;>kernel_rfl
def bl.nW(O:bl T Goal X):X.nW=1\/X.nW=4:=O.nw.imp (·.2) (·.2)
theorem cZ.status(O:bl T Goal X)(a:cZ X h mt):(oG mt=false/\h.status=.running)\/∃xs ys,mt=.blk xs ys/\h= {lI (X.wc xs) X.ds X.M.wg ys with status:=.blocked}:=by
 cases mt with
 |fC i n xs=>exact .inl ⟨rfl,a.1.run (aak _ _ _)⟩
 |add i n xs=>exact .inl ⟨rfl,a.1.run (FJ _ _ _).2.1⟩
 |cv i n xs=>exact .inl ⟨rfl,a.1.run (KH _ _ _).2.1⟩
 |rd i xs=>exact .inl ⟨rfl,by rw[a.1];exact Ny _ _ _⟩
 |en1 i n xs=>exact .inl ⟨rfl,a.1.run (TH _ _ _)⟩
 |en i n k xs=>exact .inl ⟨rfl,a.1.run (LV _ _ _ a.2.2)⟩
 |go i n xs=>exact .inl ⟨rfl,a.1.run (QL _ _ _ ⟨O.nW,a.2⟩)⟩
 |ld j n xs=>exact .inl ⟨rfl,a.1.run (FI _ _ _ _).2.1⟩
 |sd j n xs=>exact .inl ⟨rfl,a.1.run (Ha _ _ _ _).2.1⟩
 |lc n xs=>exact .inl ⟨rfl,bh.run a (Kp _ _ _ _).2.1⟩
 |cl xs=>exact .inl ⟨rfl,by rw[show h=_ from a];exact(DR _ _ _ _).2.1⟩
 |wd n xs=>exact .inl ⟨rfl,bh.run a (Xx _ _ _)⟩
 |wl n xs ys=>exact .inl ⟨rfl,bh.run a (El _ _ _ _).2.1⟩
 |zen n xs ys=>exact .inl ⟨rfl,bh.run a (OE _ _ _ _)⟩
 |zc n xs ys=>exact .inl ⟨rfl,bh.run a (Hs _ _ _ _).2.1⟩
 |za xs ys=>exact .inl ⟨rfl,by rw[show h=_ from a];exact MK _ _ _ _⟩
 |gV k n xs ys=>exact .inl ⟨rfl,a.1.run (BR _ _ _ _ a.2).2.1⟩
 |hcv k n xs ys=>exact .inl ⟨rfl,a.1.run (C2 _ _ _ _ a.2).2.1⟩
 |hwr k xs ys=>exact .inl ⟨rfl,by rw[a.1];exact P7 _ _ _ _ a.2⟩
 |fG n xs ys=>exact .inl ⟨rfl,bh.run a (Bv _ _ _ _).2.1⟩
 |blk xs ys=>exact .inr ⟨xs,ys,rfl,a⟩
 |l2 n xs ys=>exact .inl ⟨rfl,bh.run a (GY _ _ _ _).2.1⟩
 |en2 n xs ys=>exact .inl ⟨rfl,bh.run a (O7 _ _ _ _)⟩
 |ac n xs ys=>exact .inl ⟨rfl,bh.run a (Io _ _ _ _).2.1⟩
 |aq xs ys=>exact .inl ⟨rfl,by rw[show h=_ from a];exact OA _ _ _ _⟩
 |fin n xs=>exact .inl ⟨rfl,bh.run a (Hv _ _ _ _).2.1⟩
theorem cZ.woken(O:bl T Goal X)(b:cZ X h mt)(a c:ai)(v1:af): ∃mt',cZ X (Go.Conc.woken Pg a c v1 h) mt'/\(mt'=mt\/∃xs ys,mt=.blk xs ys/\mt'=.fG 0 xs ys)/\(mayWake Pg a=true->c.status=.running->oG mt'=false):=by
 rcases b.status O with⟨hb,hs⟩|⟨xs,ys,rfl,rfl⟩
 .exact⟨mt,by rw[woken_run hs];exact b,.inl rfl,λ_ _=>hb⟩
 .unfold Go.Conc.woken;split
  .refine⟨.fG 0 xs ys,?_,.inr ⟨xs,ys,rfl,rfl⟩,λ_ _=>rfl⟩;show bh Pg true 0 _ _;have e:Goroutine.again v1 {lI (X.wc xs) X.ds X.M.wg ys with status:=.blocked}=lI (X.wc xs) X.ds X.M.wg ys:=rfl;rw[e];exact .refl _
  grind
theorem ofEvents_g{g:Nat}{op:MemOp}(h:op∈MemOp.ofEvents g fn pos es):op.g=g:=by
 obtain⟨e,_,rfl⟩:=Go.Conc.mem_ofEvents h;rfl
theorem Gs.Pu{s:PS}(H:Gs T Goal X s gs v t)(O:bl T Goal X){h1:ai}(C:cZ X h1 s'.mt)(hs:v<=v1.heap.size)(D:∀b,((∃r,X.E.ρ r b)\/∃k,k<s.j/\s.ow k b)->v1.heap[b]?=v.heap[b]?)(c:∀k,k<s.j->(s.ws k).parked=true->∃cap o a b F,v1.heap[X.M.cN]?=some (.chan cap o false a b F))(w:s'.j=s.j)(G:s'.ws=s.ws)(I:s'.ow=s.ow)(J:s'.q=s.q)(fn:au)(pos:String):
  Gs T Goal X s' ((gs.map (Go.Conc.woken Pg h h1 v1)).setIfInBounds 0 h1) v1 (t++MemOp.ofEvents 0 fn pos es):=by
 have p:0<gs.size:=by rw[H.size];have:=O.n0;omega
 have e:∀i,i≠0->Deaf (t++MemOp.ofEvents 0 fn pos es) i=Deaf t i:=λi hi=>Deaf_other t (Ne.symm hi) _ λop u=>ofEvents_g u;refine⟨by simp[H.size,w],⟨h1,by simp[p],C⟩,λk l=>?_,λi g hi K n=>?_,λi hi=>?_⟩
 .rw[w]at l;obtain⟨g,n,z⟩:=H.work k l;have f:0≠X.n0+k:=by have:=O.n0;omega
  refine⟨g,?_,?_⟩
  .rw[abA f,abX,n];simp only[aca];rw[z.woken h h1 (c k l)]
  .rw[e _ (by omega),G,I];exact z.nM hs λb hb=>D b (hb.imp id λx=>⟨k,l,x⟩)
 .have f:0≠i:=by omega
  rw[abA f,abX]at n;obtain⟨y,N,rfl⟩:=abD.1 n;have A:=H.lN i y hi K N;rw[woken_quitsD A,e _ (by omega),J];exact A
 .rw[e i (by simp at hi;omega)];exact H.above i (by simpa using hi)
theorem Gs.gO{s:PS}(H:Gs T Goal X s gs v t)(O:bl T Goal X){k:Nat}(V:k<s.j)(z:iQ T Goal X (s'.ow k) (deafBehind (Deaf t (X.n0+k)) es) g1 v1 (s'.ws k))(hs:v<=v1.heap.size)(A:∀b,((∃r,X.E.ρ r b)\/∃i,i<s.j/\i≠k/\s.ow i b)->v1.heap[b]?=v.heap[b]?)(e:∀i,i<s.j->(s.ws i).parked=true->∃cap l a b C,v1.heap[X.M.cN]?=some (.chan cap l false a b C))(D:∀h,gs[0]?=some h->cZ X h s.mt->cZ X (Go.Conc.woken Pg g g1 v1 h) s'.mt)(o:s'.j=s.j)(F:∀i,i≠k->s'.ws i=s.ws i)(G:∀i,i≠k->s'.ow i=s.ow i)(I:s'.q=s.q):
  Gs T Goal X s' ((gs.map (Go.Conc.woken Pg g g1 v1)).setIfInBounds (X.n0+k) g1) v1 (t++MemOp.ofEvents (X.n0+k) fn pos es):=by
 have J:=O.n0;have K:X.n0+k<gs.size:=by rw[H.size];omega
 have f:∀i,i≠X.n0+k->Deaf (t++MemOp.ofEvents (X.n0+k) fn pos es) i=Deaf t i:=λi hi=>Deaf_other t (Ne.symm hi) _ λop n=>ofEvents_g n;obtain⟨h,N,Q⟩:=H.main;refine⟨by simp[H.size,o],⟨_,?_,D h N Q⟩,λi hi=>?_,λi x hi R p=>?_,λi hi=>?_⟩
 .grind
 .rw[o]at hi;by_cases c:i=k
  .subst c;refine⟨g1,by grind,?_⟩;rw[Deaf_own];exact z
  .obtain⟨x,S,u⟩:=H.work i hi;refine⟨x,?_,?_⟩
   .rw[abA (by omega),abX,S];simp only[aca];rw[u.woken g g1 (e i hi)]
   .rw[f _ (by omega),F i c,G i c];exact u.nM hs λb hb=>A b (hb.imp id λx=>⟨i,hi,c,x⟩)
 .rw[abA (by omega),abX]at p;obtain⟨y,U,rfl⟩:=abD.1 p;have w:=H.lN i y hi R U;rw[woken_quitsD w,f _ (by omega),I];exact w
 .simp only[acW,Array.size_map]at hi;rw[f i (by omega)];exact H.above i hi
end
end
section
open Go.Conc
open Go.ConcN (upd upd_same upd_ne sumTo sumTo_upd sumTo_congr RelBy)
section
variable {L:aR}{T:bw}{Goal:al->List al->af->Prop}{X:PC L}
theorem Z2(O:bl T Goal X){s:PS}(h1:∀i b,i<s.j->s.ow i b->X.M.wg<b/\b<v)(l:∀i i' b,i<s.j->i'<s.j->s.ow i b->s.ow i' b->i=i'):Cd (jF X s):=by
 have n:=O.bT;have o:=O.cN;have p:=O.bN;have q:=O.cB;have r:=O.bB;have u:=O.wg;refine⟨?_,?_,?_,?_⟩
 .rintro k k' b ⟨i,hi,rfl,hb⟩ ⟨i',e,rfl,f⟩;grind
 .rintro k b ⟨i,hi,rfl,hb⟩ a
  have:=(h1 i b hi hb).1;rcases a with⟨a,_⟩|a|a|a<;>omega
 .rintro k b ⟨i,hi,rfl,hb⟩ c
  have:=(h1 i b hi hb).1;rcases c with c|c|c<;>omega
 .intro b a c;rcases a with⟨a,_⟩|a|a|a<;>rcases c with c|c|c<;>omega
theorem Tr.step{s s':PS}{v v1:af}{t:Trace}(H:Tr X s v t)(O:bl T Goal X){g:Nat}(J:g=0\/gS X s g){es:Array Event}{fn:au}{pos:String}(hj:s'.j=s.j)(hv:v<=v1.heap.size)(l:∀i b,i<s.j->s'.ow i b->s.ow i b\/(v<=b/\b<v1/\g=X.n0+i))(N:X.M.wg<v)(E:∀e∈es,∀a,(MemAct.ofEvent e).touch?=some a->a.loc.isMemory=true/\pg (jF X s') g a)(z:∀e∈es,(MemAct.ofEvent e).low v1)(hrel:∀k,k<s.j->(s'.ws k).rel=true->∃r,RelBy (cO X) (t++MemOp.ofEvents g fn pos es) (X.n0+k) r)(F:∀e∈es,e.loc≠.mark (.release (cO X)))(K:(if g=0 then deafBehind (Deaf t 0) es else Deaf t 0)=s'.mt.deaf)(A:∀n xs,s'.mt=.fin n xs->∃q,(t++MemOp.ofEvents g fn pos es).act? q=some (.mark (.acquire (cO X)))/\(t++MemOp.ofEvents g fn pos es).g? q=some 0/\(t++MemOp.ofEvents g fn pos es).heard q/\∀k,k<s.j->∃r,RelBy (cO X) (t++MemOp.ofEvents g fn pos es) (X.n0+k) r/\r<q):
  Tr X s' v1 (t++MemOp.ofEvents g fn pos es):=by
 have u:∀i b,i<s'.j->s'.ow i b->X.M.wg<b/\b<v1:=λi b hi hb=>by
  rw[hj]at hi;rcases l i b hi hb with hb|⟨C,Q,_⟩
  .have:=H.own i b hi hb;omega
  .omega
 have f:∀i i' b,i<s'.j->i'<s'.j->s'.ow i b->s'.ow i' b->i=i':=λi i' b hi o hb p=>by
  rw[hj]at hi o;rcases l i b hi hb with hb|⟨C,Q,Z⟩<;>rcases l i' b o p with p|⟨R,S,U⟩
  .exact H.apart i i' b hi o hb p
  .have:=(H.own i b hi hb).2;omega
  .have:=(H.own i' b o p).2;omega
  .omega
 have w:(λk=>k=0\/gS X s' k)=(λk=>k=0\/gS X s k):=by funext k;simp only[gS,hj]
 have G:gS X s'=gS X s:=by funext k;simp only[gS,hj]
 refine⟨?_,u,f,λk V=>hrel k (hj▸V),?_,?_,λn xs e=>hj▸A n xs e⟩
 .rw[w,G];have C:TP (jF X s') X.Sh (λk=>k=0\/gS X s k) (gS X s) v1 t:=by
   refine H.tp.grow hv (λk b=>?_) (λb hb=>.inl hb) (λb hb=>.inl hb) (λb hb=>hb);rintro⟨i,hi,rfl,hb⟩;rw[hj]at hi;rcases l i b hi hb with hb|⟨C,_⟩
   .exact .inl ⟨i,hi,rfl,hb⟩
   .exact .inr C
  refine C.app (Z2 O (v:=v1) u f) (k:=g) J J (λop c=>ofEvents_g c) (λop c a W=>?_) (λop c=>?_)
  .obtain⟨e,D,rfl⟩:=Go.Conc.mem_ofEvents c;exact E e D a W
  .obtain⟨e,D,rfl⟩:=Go.Conc.mem_ofEvents c;exact z e D
 .refine H.norel.app λop c=>?_;obtain⟨e,D,rfl⟩:=Go.Conc.mem_ofEvents c;intro y
  have:=F e D;obtain⟨loc,wr,Y⟩:=e;simp only at y;cases loc with
  |mark m=>simp only[MemAct.ofEvent,MemAct.mark.injEq]at y;exact this (by rw[y])
  |cell a=>simp[MemAct.ofEvent]at y
  |obj r=>cases wr<;>cases Y<;>simp[MemAct.ofEvent]at y
  |output=>simp[MemAct.ofEvent]at y
  |goroutines=>simp[MemAct.ofEvent]at y
 .by_cases I:g=0
  .subst I;rw[Deaf_own];simpa using K
  .rw[Deaf_other t I _ λop c=>ofEvents_g c];simpa[I] using K
theorem yC{s:PS}(H:Tr X s v t){g:Nat}{u:Trace}(c:∀op∈u,op.g=g){k:Nat}(e:k<s.j)(a:g≠X.n0+k)(b:(s.ws k).rel=true): ∃r,RelBy (cO X) (t++u) (X.n0+k) r:=by
 obtain⟨r,b⟩:=H.rel k e b;exact⟨r,RelBy.appOther b c a⟩
def tB(Goal:al->List al->af->Prop)(X:PC L)(s' s:PS):Prop:=
 s'.phi X<s.phi X\/(s'.phi X=s.phi X/\pT (pd Qg Goal) 4 s'.lB s.lB)\/(s'.phi X=s.phi X/\s'.lB=s.lB/\s'.yl X<s.yl X)
structure vX(σ σ':Wk):Prop where
 aI:σ'.aI=σ.aI
 cnt:σ'.cnt=σ.cnt
 tree:σ'.tree=σ.tree
 dr:σ'.dr=σ.dr
 parked:σ'.parked=σ.parked
 rel:σ'.rel=σ.rel
def jP(mt mt':Mt):Prop:=mt'=mt\/∃xs ys,mt=.blk xs ys/\mt'=.fG 0 xs ys
theorem jP.facts(h:jP mt mt'):(∀c,mt'.aI c=mt.aI c)/\mt'.dh X=mt.dh X/\mt'.on X=mt.on X/\mt'.shut=mt.shut/\mt'.gm=mt.gm/\mt'.deaf=mt.deaf/\lV mt'=lV mt/\kH mt'=kH mt/\(oG mt=false->oG mt'=false)/\mt'.idle<=mt.idle+1/\(∀k n xs ys,mt'=.gV k n xs ys->mt=.gV k n xs ys)/\∀n xs,mt'=.fin n xs->mt=.fin n xs:=by
 rcases h with rfl|⟨xs,ys,rfl,rfl⟩
 .grind
 .refine⟨λ_=>rfl,rfl,rfl,rfl,rfl,rfl,rfl,rfl,λ_=>rfl,by simp[Mt.idle],λ_ _ _ _ h=>(by cases h),λ_ _ h=>(by cases h)⟩
def PS.wk(s:PS)(mt:Mt)(k:Nat)(σ:Wk)(ow:Nat->Prop):PS:={s with mt:=mt,ws:=upd s.ws k σ,ow:=upd s.ow k ow}
def PS.gw(s:PS)(mt:Mt)(k:Nat)(σ:Wk)(ow:Nat->Prop):(s.wk mt k σ ow).ws k=σ/\(s.wk mt k σ ow).ow k=ow:=⟨upd_same ..,upd_same ..⟩
def PS.iO(s:PS)(mt:Mt){k i:Nat}(σ:Wk)(ow:Nat->Prop)(h:i≠k):(s.wk mt k σ ow).ws i=s.ws i/\(s.wk mt k σ ow).ow i=s.ow i:=⟨upd_ne _ _ h,upd_ne _ _ h⟩
def PS.qd(s:PS)(mt:Mt){k:Nat}(b:k<s.j)(σ:Wk)(ow:Nat->Prop)(a:Wk->Nat):sumTo s.j (λi=>a ((s.wk mt k σ ow).ws i))+a (s.ws k)=sumTo s.j (λi=>a (s.ws i))+a σ:=sumTo_upd s.ws σ a b
def PS.oX(s:PS)(mt:Mt){k:Nat}(a:k<s.j)(σ:Wk)(ow:Nat->Prop):(s.wk mt k σ ow).c+(s.ws k).cnt=s.c+σ.cnt:=sumTo_upd s.ws σ Wk.cnt a
theorem PS.FE(s:PS)(mt:Mt){k:Nat}(σ:Wk)(ow:Nat->Prop)(h:σ.tree=(s.ws k).tree):(s.wk mt k σ ow).lB=s.lB:=by
 funext i;unfold PS.lB;by_cases hi:i=k
 .subst hi;rw[(s.gw mt i σ ow).1,h];rfl
 .rw[(s.iO mt σ ow hi).1];rfl
theorem Ac.tZ{s:PS}(H:Ac X s)(n:jP s.mt mt'){k:Nat}(hl:vX (s.ws k) σ)(ow:Nat->Prop):Ac X (s.wk mt' k σ ow):=by
 obtain⟨_,b,o,c,_⟩:=n.facts (X:=X);have a:∀i,((s.wk mt' k σ ow).ws i).dr=(s.ws i).dr/\((s.wk mt' k σ ow).ws i).parked=(s.ws i).parked/\((s.wk mt' k σ ow).ws i).aI=(s.ws i).aI:=λi=>by
  by_cases hi:i=k
  .subst hi;rw[(s.gw mt' i σ ow).1];exact⟨hl.dr,hl.parked,hl.aI⟩
  .rw[(s.iO mt' σ ow hi).1];grind
 refine⟨H.on.trans o.symm,b▸H.dh,(H.nf).trans b.symm,λi hi=>?_,?_,H.gC,H.okB,λi hi f=>?_,λi hi l=>?_⟩
 .rcases H.cover i (b▸hi) with h|h|⟨k',p,q⟩
  .exact .inl h
  .exact .inr (.inl h)
  .exact .inr (.inr ⟨k',p,(a k').1.trans q⟩)
 .have e:sumTo s.j (λi=>if ((s.wk mt' k σ ow).ws i).dr.isSome then 1 else 0)=sumTo s.j (λi=>if (s.ws i).dr.isSome then 1 else 0):=sumTo_congr λi _=>by rw[(a i).1]
  show s.dW.length+sumTo s.j (λi=>if ((s.wk mt' k σ ow).ws i).dr.isSome then 1 else 0)+s.fA.length<=mt'.dh X;rw[e,b];exact H.count
 .rw[(a i).2.1]at f
  have:=H.eB i hi f;exact⟨this.1,c.trans this.2⟩
 .rw[(a i).2.2]at l
  have:=H.gone i hi l;exact⟨c.trans this.1,this.2⟩
theorem Wg.tZ(X:PC L){s:PS}(H:Wg s)(z:jP s.mt mt'){k:Nat}(A:k<s.j)(hl:vX (s.ws k) σ)(ow:Nat->Prop):Wg (s.wk mt' k σ ow):=by
 obtain⟨_,_,_,_,C,_,y,r,D,_,w,_⟩:=z.facts (X:=X);have u:(s.wk mt' k σ ow).c=s.c:=by have:=s.oX mt' A σ ow;rw[hl.cnt]at this;omega
 have p:∀i,((s.wk mt' k σ ow).ws i).aI=(s.ws i).aI:=λi=>by
  by_cases hi:i=k
  .subst hi;rw[(s.gw mt' i σ ow).1];exact hl.aI
  .rw[(s.iO mt' σ ow hi).1]
 cases H with
 |opn a b f l o=>exact .opn (y.trans a) (λi hi=>by rw[p i];exact b i hi) (by rw[u];show s.st=(s.c+mt'.gm)*bM;rw[C];exact f) l (λk n xs ys e=>by rw[u];exact o k n xs ys (w k n xs ys e))
 |eX a b f l o=>exact .eX (r.trans a) (λi hi=>by rw[p i];exact b i hi) (by rw[u];exact f) (by rw[u];exact l) o
 |last q a b f l o E F=>exact .last q (r.trans a) b (by rw[p q];exact f) (by rw[p q];exact l) (λi hi G=>by rw[p i];exact o i hi G) (by rw[p q];exact E) F
 |gZ a b f l o=>exact .gZ (r.trans a) (D b) (λi hi=>by rw[p i];exact f i hi) l o
 |done a b f l o=>exact .done (y.trans a) (r.trans b) (λi hi=>by rw[p i];exact f i hi) l o
theorem Wd.same{s:PS}(H:Wd X s v)(a:s'.dW=s.dW)(b:s'.mt.shut=s.mt.shut)(c:s'.mt.dh X=s.mt.dh X)(e:s'.rN=s.rN)(f:s'.fA=s.fA)(i:s'.st=s.st)(k:s'.sm=s.sm):Wd X s' v:=
 ⟨H.old,H.size,H.bT,H.bN,H.bB,by rw[a,b,c,e];exact H.cN,by rw[f];exact H.cB,by rw[i,k];exact H.wg,H.tape,H.os,H.output⟩
def Wd.at{s:PS}(H:Wd X s v)(d:Nat):Wd X s (v.at d):=⟨H.old,H.size,H.bT,H.bN,H.bB,H.cN,H.cB,H.wg,H.tape,H.os,H.output⟩
def Tr.at{s:PS}(H:Tr X s v t)(d:Nat):Tr X s (v.at d) t:=⟨H.tp,H.own,H.apart,H.rel,H.norel,H.d0,H.acq⟩
theorem Gs.at{s:PS}(H:Gs T Goal X s gs v t)(d:Nat):Gs T Goal X s gs (v.at d) t:=
 ⟨H.size,H.main,λk a=>let ⟨g,hg,hw⟩:=H.work k a;⟨g,hg,hw.nM zf λ_ _=>rfl⟩,H.lN,H.above⟩
def PI.at{s:PS}(H:PI T Goal X s gs v t)(d:Nat):PI T Goal X s gs (v.at d) t:=⟨H.gs.at d,H.wd.at d,H.ac,H.wg,H.tr.at d⟩
end
end
section
open Go.Conc
open Go.ConcN (upd upd_same upd_ne sumTo sumTo_upd sumTo_congr RelBy)
section
variable {L:aR}{T:bw}{Goal:al->List al->af->Prop}{X:PC L}
def ct(T:bw)(Goal:al->List al->af->Prop)(X:PC L)(s:PS)(gs:Array ai)(v:af)(sl:Option (Nat×Nat))(t:Trace)(i:Nat):Prop:=
 ∃s' gs' v' ops,runT Pg (crowd gs v sl) i=(.next (crowd gs' v' sl),ops)/\PI T Goal X s' gs' v' (t++ops)/\tB Goal X s' s
theorem jB{s:PS}{k:Nat}(a:k<s.j)(f:σ.aI<(s.ws k).aI)(l:σ.cnt=(s.ws k).cnt)(mt':Mt)(b:jP s.mt mt')(ow:Nat->Prop)(st sm:Nat):tB Goal X {s.wk mt' k σ ow with st:=st,sm:=sm} s:=by
 refine .inl ?_;have o:=s.qd mt' a σ ow Wk.aI;have p:=s.oX mt' a σ ow;have e:({s.wk mt' k σ ow with st:=st,sm:=sm}:PS).c=s.c:=by
  show(s.wk mt' k σ ow).c=s.c;omega
 unfold PS.phi;rw[e];have q:=(b.facts (X:=X)).1 s.c;show mt'.aI s.c+sumTo s.j (λi=>((s.wk mt' k σ ow).ws i).aI)+12*s.c+60*(X.E.n-s.rN)<s.mt.aI s.c+sumTo s.j (λi=>(s.ws i).aI)+12*s.c+60*(X.E.n-s.rN);omega
theorem gO(O:bl T Goal X){s:PS}{sl:Option (Nat×Nat)}(H:PI T Goal X s gs v t){k:Nat}(F:k<s.j)(Y:gs[X.n0+k]?=some g)(e:stepG Pg false g v=.go g1 v1 es)(σ:Wk)(ow:Nat->Prop)(st sm:Nat)(Z:iQ T Goal X ow (deafBehind (Deaf t (X.n0+k)) es) g1 v1 σ)(hs:v.heap.size<=v1.heap.size)(p:∀b,b<v.heap.size->¬s.ow k b->b≠X.M.wg->v1.heap[b]?=v.heap[b]?)(ab:∀b,ow b->s.ow k b\/(v.heap.size<=b/\b<v1.heap.size))(q:v1.heap[X.M.wg]?=some (.cells #[.int .u64 st,.int .u32 sm] 206))(G:v1.tape=v.tape/\v1.os=v.os/\v1.output=v.output)(I:∀mt',jP s.mt mt'->Ac X (s.wk mt' k σ ow))(J:∀mt',jP s.mt mt'->(mayWake Pg g=true->g1.status=.running->oG mt'=false)->Wg {s.wk mt' k σ ow with st:=st,sm:=sm})(N:∀e∈es,∀a,(MemAct.ofEvent e).touch?=some a->a.loc.isMemory=true/\pg (jF X (s.wk s.mt k σ ow)) (X.n0+k) a)(u:∀e∈es,(MemAct.ofEvent e).low v1.heap.size)(hrel:σ.rel=true->∃r,RelBy (cO X) (t++MemOp.ofEvents (X.n0+k) g.frame.fn g.frame.place es) (X.n0+k) r)(Q:∀e∈es,e.loc≠.mark (.release (cO X)))(w:∀n xs,s.mt=.fin n xs->False)(y:∀mt',jP s.mt mt'->tB Goal X {s.wk mt' k σ ow with st:=st,sm:=sm} s):ct T Goal X s gs v sl t (X.n0+k):=by
 have ad:=O.n0;have e1:=O.bT;have e2:=O.cN;have e3:=O.bN;have e4:=O.cB;have e5:=O.bB;have e6:=O.wg;have z:(X.n0+k==0)=false:=by simp;omega
 have A:=runT_crowd_go (P:=Pg) (sl:=sl) (i:=X.n0+k) Y (by rw[z];exact e);obtain⟨h,h0,hM⟩:=H.gs.main;obtain⟨mt',R,o,S⟩:=hM.woken O g g1 v1;have f:=jP.facts (X:=X) o;have C:∀b,b<=X.M.wg->¬s.ow k b:=λb hb ho=>by have:=(H.tr.own k b F ho).1;omega
 have c:∀b,b<X.M.wg->v1.heap[b]?=v.heap[b]? :=λb hb=>p b (by have:=H.wd.size;omega) (C b (by omega)) (by omega);refine⟨{s.wk mt' k σ ow with st:=st,sm:=sm},_,v1,_,A,⟨?_,?_,?_,J mt' o S,?_⟩,y mt' o⟩
 .refine H.gs.gO O F (s':={s.wk mt' k σ ow with st:=st,sm:=sm}) ?_ hs ?_ ?_ ?_ rfl (λi hi=>(s.iO mt' σ ow hi).1) (λi hi=>(s.iO mt' σ ow hi).2) rfl
  .show iQ T Goal X ((s.wk mt' k σ ow).ow k) _ g1 v1 ((s.wk mt' k σ ow).ws k);rw[(s.gw mt' k σ ow).1,(s.gw mt' k σ ow).2];exact Z
  .rintro b (⟨r,U⟩|⟨i,hi,l,hb⟩)
   .exact c b (by have:=(O.K.dq r b U).2;omega)
   .have h1:=H.tr.own i b hi hb;exact p b h1.2 (λhx=>l (H.tr.apart i k b hi F hb hx)) (by omega)
  .intro i hi hp;have V:=H.wd.cN;rw[(H.ac.eB i hi hp).2,<-c _ (by omega)]at V;grind
  .intro h' D _;rw[h0]at D;cases D;exact R
 .refine⟨⟨IT H.wd.old.1 hs,λb hb=>by rw[c b (by omega)];exact H.wd.old.2 b hb⟩,abc H.wd.size hs,?_,?_,?_,?_,?_,q,G.1.trans H.wd.tape,G.2.1.trans H.wd.os,G.2.2.trans H.wd.output⟩
  .rw[c _ (by omega)];exact H.wd.bT
  .rw[c _ (by omega)];exact H.wd.bN
  .rw[c _ (by omega)];exact H.wd.bB
  .rw[c _ (by omega)];show _=some (Obj.chan X.E.n (s.dW.map X.num).toArray mt'.shut (mt'.dh X) s.rN false);rw[f.2.1,f.2.2.2.1];exact H.wd.cN
  .obtain⟨sB,h⟩:=H.wd.cB;exact⟨sB,by rw[c _ (by omega)];exact h⟩
 .have:=I mt' o;exact⟨this.on,this.dh,this.nf,this.cover,this.count,this.gC,this.okB,this.eB,this.gone⟩
 .refine H.tr.step O (s':={s.wk mt' k σ ow with st:=st,sm:=sm}) (.inr ⟨by omega,by omega⟩) rfl hs (λi b hi hb=>?_) H.wd.size N u (λi hi U=>?_) Q ?_ (λn xs h=>(w n xs (f.2.2.2.2.2.2.2.2.2.2.2 n xs h)).elim)
  .by_cases l:i=k
   .subst l;have an:ow b:=by have:=(s.gw mt' i σ ow).2;rw[<-this];exact hb
    grind
   .have:=(s.iO mt' σ ow l).2;grind
  .by_cases l:i=k
   .subst l
    have:=(s.gw mt' i σ ow).1;grind
   .have:=(s.iO mt' σ ow l).1;exact yC H.tr (λop W=>ofEvents_g W) hi (by omega) (by rw[<-this];exact U)
  .rw[AT (by omega),H.tr.d0];exact f.2.2.2.2.2.1.symm
theorem oL(O:bl T Goal X){s:PS}{sl:Option (Nat×Nat)}(H:PI T Goal X s gs v t)(l:∀n xs,s.mt=.fin n xs->False){k:Nat}(f:k<s.j)(y:gs[X.n0+k]?=some g)(e:∀w,stepG Pg false g w=.go g1 w #[])(hl:vX (s.ws k) σ)(hi:σ.idle+1=(s.ws k).idle)(z:iQ T Goal X (s.ow k) (Deaf t (X.n0+k)) g1 v σ):ct T Goal X s gs v sl t (X.n0+k):=by
 refine gO O H f y (e v) σ (s.ow k) s.st s.sm z zf (λ_ _ _ _=>rfl) (λb hb=>.inl hb) H.wd.wg ⟨rfl,rfl,rfl⟩ (λmt' o=>H.ac.tZ o hl _) (λmt' o _=>?_) (λe a=>by simp at a) (λe a=>by simp at a) (λp=>?_) (λe a=>by simp at a) l (λmt' o=>?_)
 .exact H.wg.tZ X o f hl _
 .obtain⟨r,p⟩:=H.tr.rel k f (hl.rel▸p);exact⟨r,RelBy.still p λop u=>by obtain⟨e,a,_⟩:=Go.Conc.mem_ofEvents u;simp at a⟩
 .have A:=s.qd mt' f σ (s.ow k) Wk.aI;have C:=s.oX mt' f σ (s.ow k);have D:=s.qd mt' f σ (s.ow k) Wk.idle;rw[hl.aI]at A;rw[hl.cnt]at C;have F:=o.facts (X:=X);have G:(s.wk mt' k σ (s.ow k)).c=s.c:=zo;refine .inr (.inr ⟨?_,s.FE mt' σ (s.ow k) hl.tree,?_⟩)
  .show mt'.aI (s.wk mt' k σ (s.ow k)).c+sumTo s.j (λi=>((s.wk mt' k σ (s.ow k)).ws i).aI)+12*(s.wk mt' k σ (s.ow k)).c+60*(X.E.n-s.rN)=s.mt.aI s.c+sumTo s.j (λi=>(s.ws i).aI)+12*s.c+60*(X.E.n-s.rN);grind
  .show mt'.idle+2*sumTo s.j (λi=>((s.wk mt' k σ (s.ow k)).ws i).idle)+2*sumTo X.n0 s.q<s.mt.idle+2*sumTo s.j (λi=>(s.ws i).idle)+2*sumTo X.n0 s.q;omega
end
end
section
open Go.Conc
open Go.ConcN (upd upd_same upd_ne sumTo sumTo_upd sumTo_congr RelBy)
section
variable {L:aR}{T:bw}{Goal:al->List al->af->Prop}{X:PC L}
theorem Ac.wk{s:PS}(H:Ac X s){k:Nat}(ow:Nat->Prop)(hj:σ.dr=(s.ws k).dr)(o:σ.parked=true->s.dW= []/\s.mt.shut=false)(p:σ.aI<=7->s.mt.shut=true/\s.dW= []):∀mt',jP s.mt mt'->Ac X (s.wk mt' k σ ow):=by
 intro mt' q;obtain⟨_,l,r,n,_⟩:=q.facts (X:=X);have c:∀i,((s.wk mt' k σ ow).ws i).dr=(s.ws i).dr:=λi=>by
  by_cases hi:i=k
  .subst hi;rw[(s.gw mt' i σ ow).1];exact hj
  .rw[(s.iO mt' σ ow hi).1]
 refine⟨H.on.trans r.symm,l▸H.dh,(H.nf).trans l.symm,λi hi=>?_,?_,H.gC,H.okB,λi hi a=>?_,λi hi f=>?_⟩
 .rcases H.cover i (l▸hi) with h|h|⟨k',u,w⟩
  .exact .inl h
  .exact .inr (.inl h)
  .exact .inr (.inr ⟨k',u,(c k').trans w⟩)
 .have e:sumTo s.j (λi=>if ((s.wk mt' k σ ow).ws i).dr.isSome then 1 else 0)=sumTo s.j (λi=>if (s.ws i).dr.isSome then 1 else 0):=sumTo_congr λi _=>by rw[c i]
  show s.dW.length+sumTo s.j (λi=>if ((s.wk mt' k σ ow).ws i).dr.isSome then 1 else 0)+s.fA.length<=mt'.dh X;rw[e,l];exact H.count
 .by_cases b:i=k
  .subst b;rw[(s.gw mt' i σ ow).1]at a;exact⟨(o a).1,n.trans (o a).2⟩
  .rw[(s.iO mt' σ ow b).1]at a
   have:=H.eB i hi a;exact⟨this.1,n.trans this.2⟩
 .by_cases b:i=k
  .subst b;rw[(s.gw mt' i σ ow).1]at f;exact⟨n.trans (p f).1,(p f).2⟩
  .rw[(s.iO mt' σ ow b).1]at f
   have:=H.gone i hi f;exact⟨n.trans this.1,this.2⟩
theorem Wg.iW(X:PC L){s:PS}(H:Wg s){k:Nat}(p:k<s.j)(ow:Nat->Prop)(h1:4<=(s.ws k).aI)(w:4<=σ.aI)(E:σ.cnt=(s.ws k).cnt):∀mt',jP s.mt mt'->Wg {s.wk mt' k σ ow with st:=s.st,sm:=s.sm}:=by
 intro mt' y;obtain⟨_,_,_,_,z,_,A,C,F,_,r,_⟩:=y.facts (X:=X);have a:(s.wk mt' k σ ow).c=s.c:=by have:=s.oX mt' p σ ow;omega
 have u:∀i,rK s->i<s.j->((s.wk mt' k σ ow).ws i).aI=0\/4<=((s.wk mt' k σ ow).ws i).aI:=λi D hi=>by
  by_cases o:i=k
  .subst o;rw[(s.gw mt' i σ ow).1];exact .inr w
  .rw[(s.iO mt' σ ow o).1];exact D i hi
 cases H with
 |opn a1 a2 b f l=>exact .opn (A.trans a1) (λi hi=>u i a2 hi) (by show s.st=((s.wk mt' k σ ow).c+mt'.gm)*bM;rw[a,z];exact b) f (λq n xs ys e=>by show(s.wk mt' k σ ow).c<=q;rw[a];exact l q n xs ys (r q n xs ys e))
 |eX a1 a2 b f l=>exact .eX (C.trans a1) (λi hi=>u i a2 hi) (by show 1<=(s.wk mt' k σ ow).c;rw[a];exact b) (by show s.st=(s.wk mt' k σ ow).c*bM+1;rw[a];exact f) l
 |last q a1 a2 b f l G I=>
  grind
 |gZ a1 a2 b f l=>have:=b k p;omega
 |done a1 a2 b f l=>have:=b k p;omega
theorem Ck(O:bl T Goal X)(s':PS)(g b:Nat)(hb:b=X.M.bT\/b=X.M.bN\/b=X.M.bB):∀e∈(#[⟨.cell (.a b 0),false,false⟩]:Array Event),∀a,(MemAct.ofEvent e).touch?=some a->a.loc.isMemory=true/\pg (jF X s') g a:=by
 have _:=O;intro e f a i;simp at f;subst f;simp only[MemAct.ofEvent,MemAct.touch?,aaX]at i;subst i;refine⟨rfl,λc k=>?_⟩;simp only[blk,aaX]at k;subst k;exact .inr (.inl ⟨.inr hb,rfl,rfl⟩)
theorem qg{a:Addr}(h:a.block<B)(wr b:Bool):(MemAct.ofEvent ⟨.cell a,wr,b⟩).low B:=by
 simp only[MemAct.ofEvent,MemAct.low,Loc.low];exact h
theorem DN(p:Pl)(xs:Nat->ag)(l:List Nat):(bO p xs l).frame.fn=128:=zk
theorem Ed(b:Nat):seen Pg 128 #[⟨.cell (.a b 0),false,false⟩]=#[⟨.cell (.a b 0),false,false⟩]:=zk
theorem MU(O:bl T Goal X){s:PS}{sl:Option (Nat×Nat)}(H:PI T Goal X s gs v t)(c:∀n xs,s.mt=.fin n xs->False){k:Nat}(f:k<s.j)(hσ:s.ws k=.load 0):ct T Goal X s gs v sl t (X.n0+k):=by
 obtain⟨g,r,q⟩:=H.gs.work k f;rw[hσ]at q;obtain⟨i,u⟩:=q;cases i;have z:=O.wg;have A:=O.bN;have y:v.cell? (.a X.M.bN 0)=some (.chan (some X.M.cN)):=by simp[World.cell?,H.wd.bN]
 have e:=bg.value (Bf X.p) (Qv X.p (.chan (some X.M.cN))) (w:=v) (w':=v) (es:=#[⟨.cell (.a X.M.bN 0),false,false⟩]) ⟨y,rfl,rfl⟩;rw[SP]at e;have C:(s.ws k).aI=10:=zx;refine gO O H f r e (.recv 5 λ_=>undef) (s.ow k) s.st s.sm ⟨?_,u⟩ zf (λ_ _ _ _=>rfl) (λb hb=>.inl hb) H.wd.wg ⟨rfl,rfl,rfl⟩
  (H.ac.wk _ zx zc (λh=>by simp[Wk.aI]at h)) (λmt' l _=>H.wg.iW X f _ zo (by simp[Wk.aI]) zx mt' l)
  (Ck O _ _ _ (.inr (.inl rfl))) (λe o=>by simp at o;subst o;exact qg (show X.M.bN<v by have:=H.wd.size;omega) _ _) zc (λe o=>zg) c (λmt' l=>jB f (by rw[hσ];simp[Wk.aI]) zx mt' l _ _ _)
 have:=(T9 X.p).bu;rw[UM]at this;exact this
theorem SB(O:bl T Goal X){s:PS}{sl:Option (Nat×Nat)}(H:PI T Goal X s gs v t)(f:∀n xs,s.mt=.fin n xs->False){k:Nat}(q:k<s.j){i:Nat}(hσ:s.ws k=.draw 0 i xs):ct T Goal X s gs v sl t (X.n0+k):=by
 obtain⟨g,A,y⟩:=H.gs.work k q;rw[hσ]at y;obtain⟨r,C,hi,D⟩:=y;cases r;have u:=Ps (v.tape v.drawn (.order 128 4));have e:=Lr X.p xs v;generalize Region.schedule true nF (v.tape v.drawn (.order 128 4))=l at u e;simp only[whole,No,abb,abK]at u;obtain⟨⟨a,z⟩,hlen⟩:=u;have c:∀j,j<8->l.contains j=false->False:=λj hj h=>by
  grind
 have E:(s.ws k).aI=60:=zx;refine gO O H q A e (.ops i l xs) (s.ow k) s.st s.sm ⟨rfl,C,?_,a,hi,D,λh=>(c 0 zo h).elim,λh=>(c 1 zo h).elim,λh=>(c 2 zo h).elim,λh=>(c 3 zo h).elim,λh=>(c 4 zo h).elim,λh=>(c 5 zo h).elim,λh=>(c 6 zo h).elim⟩ zf (λ_ _ _ _=>rfl) (λb hb=>.inl hb) H.wd.wg ⟨rfl,rfl,rfl⟩
  (H.ac.wk _ zx zc (λh=>by simp[Wk.aI]at h;omega)) (λmt' w _=>H.wg.iW X q _ zo (by simp only[Wk.aI];omega) zx mt' w)
  (λe o=>by simp at o) (λe o=>by simp at o) zc (λe o=>by simp at o) f (λmt' w=>jB q (by rw[hσ];simp only[Wk.aI];omega) zx mt' w _ _ _)
 grind
theorem sr{l:List Nat}(h:kh (j::l)=true):pR j l=true/\kh l=true:=by
 simpa[kh] using h
theorem p6{l:List Nat}{m:Nat}(h:l.contains m=true):l≠[]:=by rintro rfl;simp at h
theorem uR(O:bl T Goal X){s:PS}{sl:Option (Nat×Nat)}(H:PI T Goal X s gs v t)(q:∀n xs,s.mt=.fin n xs->False){k:Nat}(r:k<s.j){i:Nat}{l:List Nat}{c:Nat->ag}(hσ:s.ws k=.ops i (j::l) xs)(e:stepG Pg false (bO X.p xs (j::l)) v=.go (bO X.p c l) v es)(f:es=#[]\/∃b,(b=X.M.bT\/b=X.M.bN\/b=X.M.bB)/\es=#[⟨.cell (.a b 0),false,false⟩])(u:l≠[])(C:yk Goal X i l c):ct T Goal X s gs v sl t (X.n0+k):=by
 obtain⟨g,D,z⟩:=H.gs.work k r;rw[hσ]at z;obtain⟨rfl,A,_,_⟩:=z;have E:=O.wg;have F:=O.bN;have G:=O.bT;have I:=O.bB;have J:(s.ws k).aI=21+2*(l.length+1):=zx;have w:deafBehind (Deaf t (X.n0+k)) es=0:=by
  rcases f with rfl|⟨b,_,rfl⟩
  .exact A
  .exact A
 refine gO O H r D e (.ops i l c) (s.ow k) s.st s.sm ⟨rfl,w,u,C⟩ zf (λ_ _ _ _=>rfl) (λb hb=>.inl hb) H.wd.wg ⟨rfl,rfl,rfl⟩
  (H.ac.wk _ zx zc (λh=>by simp only[Wk.aI]at h;omega)) (λmt' y _=>H.wg.iW X r _ zo (by simp only[Wk.aI];omega) zx mt' y) ?_ ?_ zc ?_ q (λmt' y=>jB r (by rw[hσ];simp only[Wk.aI,abi];omega) zx mt' y _ _ _)
 .rcases f with rfl|⟨b,hb,rfl⟩
  .intro e o;simp at o
  .exact Ck O _ _ b hb
 .rcases f with rfl|⟨b,hb,rfl⟩
  .intro e o;simp at o
  .intro e o;simp at o;subst o;exact qg (show b<v by have:=H.wd.size;omega) _ _
 grind
theorem uh(O:bl T Goal X){s:PS}{sl:Option (Nat×Nat)}(H:PI T Goal X s gs v t)(f:∀n xs,s.mt=.fin n xs->False){k:Nat}(q:k<s.j){i:Nat}{l:List Nat}(hσ:s.ws k=.ops i (j::l) xs)(hj:j=0\/j=1\/j=2\/j=3\/j=6):ct T Goal X s gs v sl t (X.n0+k):=by
 obtain⟨g,F,D⟩:=H.gs.work k q;rw[hσ]at D;obtain⟨_,_,_,b⟩:=D;obtain⟨r,o⟩:=sr b.kh;rcases hj with rfl|rfl|rfl|rfl|rfl
 .have c:=p6 (m:=7) r;have y:v.cell? (.a X.M.bB 0)=some (.chan (some X.M.cB)):=by simp[World.cell?,H.wd.bB]
  have e:=bg.value (SD X.p xs l) (XG X.p xs l (.chan (some X.M.cB))) (w:=v) (w':=v) (es:=#[⟨.cell (.a X.M.bB 0),false,false⟩]) ⟨y,rfl,rfl⟩;rw[QS,DN,Ed]at e;refine uR O H f q hσ e (.inr ⟨_,.inr (.inr rfl),rfl⟩) c ⟨o,b.lt,b.x4,λ_=>rfl,λh=>b.d1 zg,λh=>b.d2 zg,λh=>b.d3 zg,λh u=>b.d4 zg zg,λh=>b.d5 zg,λh=>b.d6 zg⟩
 .have c:=p6 (m:=6) r;have e:=(Vy X.p xs l).step.2.1 v;rw[Vi]at e;refine uR O H f q hσ e (.inl rfl) c ⟨o,b.lt,b.x4,λh=>b.d0 zg,λ_=>b.x4,λh=>b.d2 zg,λh=>b.d3 zg,λh u=>b.d4 zg zg,λh=>b.d5 zg,λh=>b.d6 zg⟩
 .have c:=p6 (m:=4) r;have y:v.cell? (.a X.M.bT 0)=some X.M.ja:=by simp[World.cell?,H.wd.bT]
  have e:=bg.value (NC X.p xs l) (RN X.p xs l X.M.ja) (w:=v) (w':=v) (es:=#[⟨.cell (.a X.M.bT 0),false,false⟩]) ⟨y,rfl,rfl⟩;rw[XM,DN,Ed]at e;refine uR O H f q hσ e (.inr ⟨_,.inl rfl,rfl⟩) c ⟨o,b.lt,b.x4,λh=>b.d0 zg,λh=>b.d1 zg,λ_=>O.ja,λh=>b.d3 zg,λh u=>b.d4 zg zg,λh=>b.d5 zg,λh=>b.d6 zg⟩
 .have c:=p6 (m:=4) r;have e:=(aap X.p xs l).step.2.1 v;rw[Y4]at e;refine uR O H f q hσ e (.inl rfl) c ⟨o,b.lt,b.x4,λh=>b.d0 zg,λh=>b.d1 zg,λh=>b.d2 zg,λ_=>b.x4,λh u=>b.d4 zg zg,λh=>b.d5 zg,λh=>b.d6 zg⟩
 .simp only[pR,No,Bool.not_eq_true']at r;have c:=p6 (m:=7) r.2;have z:=b.d1 zg;have A:=b.d5 zg;have C:upd (upd xs 10 (X.num i)) 14 (.int .u64 (X.a i))=xs:=by
   rw[<-z,mC,<-A,mC]
  have e:=(SZ X.p xs l (IntKind.i64.wrap (X.E.first+i)) (X.a i)).step.2.1 v;rw[U1]at e;change stepG Pg false (bO X.p (upd (upd xs 10 (X.num i)) 14 (.int .u64 (X.a i))) (6::l)) v=.go (bO X.p (upd (upd (upd xs 10 (X.num i)) 14 (.int .u64 (X.a i))) 15 (X.iK i)) l) v #[]at e;rw[C]at e;refine uR O H f q hσ e (.inl rfl) c ⟨o,b.lt,b.x4,λh=>b.d0 zg,λh=>b.d1 zg,λh=>b.d2 zg,λh=>b.d3 zg,λh u=>b.d4 zg zg,λh=>b.d5 zg,λ_=>rfl⟩
end
end
section
open Go.Conc
open Go.ConcN (upd upd_same upd_ne sumTo sumTo_upd sumTo_congr RelBy)
section
variable {L:aR}{T:bw}{Goal:al->List al->af->Prop}{X:PC L}
theorem wR{b Wg:Nat->Prop}(h:∀e∈es,lX b Wg e)(d:Nat):deafBehind d es=d:=deafBehind_still (λe c=>by
 rcases h e c with⟨a,wr,rfl,_⟩|⟨r,wr,rfl,_⟩|rfl<;>exact⟨zp,zp⟩) d
theorem xT(O:bl T Goal X){k:Nat}(q:k<s'.j)(p:s'.ow k=ow)(f:∀b,ow b->b<v1)(hv:X.E.v0<=v1.heap.size)(h:∀e∈es,lX (λt=>(∃r,X.E.ρ r t)\/ow t) ow e):
  (∀e∈es,∀a,(MemAct.ofEvent e).touch?=some a->a.loc.isMemory=true/\pg (jF X s') (X.n0+k) a)/\(∀e∈es,(MemAct.ofEvent e).low v1)/\∀e∈es,e.loc≠.mark (.release (cO X)):=by
 have ro:∀b,(∃r,X.E.ρ r b)->(jF X s').ro b:=λb ⟨r,o⟩=>.inl ⟨(O.K.dq r b o).2,O.E9 r b o⟩;have own:∀b,ow b->(jF X s').ow (X.n0+k) b:=λb hb=>⟨k,q,rfl,by rw[p];exact hb⟩
 have low:∀b,(∃r,X.E.ρ r b)\/ow b->b<v1:=λb hb=>hb.elim (λ⟨r,o⟩=>abc (O.K.dq r b o).2 hv) (f b);refine⟨λe i a l=>?_,λe i=>?_,λe i=>?_⟩
 .rcases h e i with⟨c,wr,rfl,n,s⟩|⟨r,wr,rfl,n,s⟩|rfl
  .simp only[MemAct.ofEvent,MemAct.touch?,aaX]at l;subst l;refine⟨rfl,λb hb=>?_⟩;simp only[blk,aaX]at hb;grind
  .simp only[MemAct.ofEvent,MemAct.touch?,aaX]at l;subst l;refine⟨rfl,λb hb=>?_⟩;simp only[blk,aaX]at hb;grind
  .simp[MemAct.ofEvent,MemAct.touch?]at l
 .rcases h e i with⟨c,wr,rfl,n,_⟩|⟨r,wr,rfl,n,_⟩|rfl
  .exact qg (low _ n) _ _
  .simp only[MemAct.ofEvent,MemAct.low,Loc.low];exact low _ n
  .trivial
 .rcases h e i with⟨c,wr,rfl,_⟩|⟨r,wr,rfl,_⟩|rfl<;>simp
theorem Fs(O:bl T Goal X){s:PS}{sl:Option (Nat×Nat)}(H:PI T Goal X s gs v t)(f:∀n xs,s.mt=.fin n xs->False){k:Nat}(o:k<s.j){i:Nat}{l:List Nat}(hσ:s.ws k=.ops i (j::l) xs)(hj:j=4\/j=5):ct T Goal X s gs v sl t (X.n0+k):=by
 obtain⟨g,y,z⟩:=H.gs.work k o;rw[hσ]at z;obtain⟨rfl,C,_,q⟩:=z;obtain⟨D,E⟩:=sr q.kh;have F:(s.ws k).aI=21+2*(l.length+1):=zx;rcases hj with rfl|rfl
 .simp only[pR,No,Bool.not_eq_true']at D;obtain⟨Y,st,g1,e,r,u⟩:=ZC O.A O.K (O.pC i q.lt) X.p l (q.d2 zg) (q.d3 zg) H.wd.old;exact gO O H o y e (.text i l xs st) (s.ow k) s.st s.sm ⟨C,q,Y,r,u.low _ λ_ h=>h.elim⟩ zf (λ_ _ _ _=>rfl) (λb hb=>.inl hb) H.wd.wg ⟨rfl,rfl,rfl⟩
   (H.ac.wk _ zx zc (λh=>by simp only[Wk.aI]at h;omega)) (λmt' c _=>H.wg.iW X o _ zo (by simp only[Wk.aI];omega) zx mt' c) (λe a=>by simp at a) (λe a=>by simp at a) zc (λe a=>by simp at a) f (λmt' c=>jB o (by rw[hσ];simp only[Wk.aI,abi];omega) zx mt' c _ _ _)
 .simp only[pR,No,Bool.not_eq_true']at D;obtain⟨G,w,c⟩:=q.d4 zg zp;obtain⟨Y,st,g1,e,r,u⟩:=M3 O.A O.K c X.p l w H.wd.old;exact gO O H o y e (.lz i l xs st) (s.ow k) s.st s.sm ⟨C,q,Y,r,u.low _ λ_ h=>h.elim⟩ zf (λ_ _ _ _=>rfl) (λb hb=>.inl hb) H.wd.wg ⟨rfl,rfl,rfl⟩
   (H.ac.wk _ zx zc (λh=>by simp only[Wk.aI]at h;omega)) (λmt' c _=>H.wg.iW X o _ zo (by simp only[Wk.aI];omega) zx mt' c) (λe a=>by simp at a) (λe a=>by simp at a) zc (λe a=>by simp at a) f (λmt' c=>jB o (by rw[hσ];simp only[Wk.aI,abi];omega) zx mt' c _ _ _)
theorem FK{s:PS}{k:Nat}(a:k<s.j)(q:s.j<=4){b:kD}(r:σ.aI=(s.ws k).aI)(u:σ.cnt=(s.ws k).cnt)(f:(s.ws k).tree=some x)(e:σ.tree=some b)(l:pd Qg Goal b x)(mt':Mt)(o:jP s.mt mt')(ow:Nat->Prop)(st sm:Nat):tB Goal X {s.wk mt' k σ ow with st:=st,sm:=sm} s:=by
 have w:=s.qd mt' a σ ow Wk.aI;have y:=s.oX mt' a σ ow;have p:(s.wk mt' k σ ow).c=s.c:=zo;have z:=(o.facts (X:=X)).1 s.c;refine .inr (.inl ⟨?_,k,zo,x,b,?_,?_,l,λi hi=>?_⟩)
 .show mt'.aI (s.wk mt' k σ ow).c+sumTo s.j (λi=>((s.wk mt' k σ ow).ws i).aI)+12*(s.wk mt' k σ ow).c+60*(X.E.n-s.rN)=s.mt.aI s.c+sumTo s.j (λi=>(s.ws i).aI)+12*s.c+60*(X.E.n-s.rN);rw[p];omega
 .simp[PS.lB,a,f]
 .show (if k<s.j then ((s.wk mt' k σ ow).ws k).tree else none)=some b;rw[(s.gw mt' k σ ow).1];simp[a,e]
 .show (if i<s.j then ((s.wk mt' k σ ow).ws i).tree else none)=if i<s.j then (s.ws i).tree else none
  rw[(s.iO mt' σ ow hi).1]
theorem EY(O:bl T Goal X){s:PS}(H:Ac X s)(G:Gs T Goal X s gs v t):s.j<=4:=by
 have c:=O.nw;have a:=H.on;obtain⟨h,_,b⟩:=G.main;cases hmt:s.mt<;>rw[hmt]at a b<;>simp only[Mt.on]at a<;>simp only[cZ]at b<;>omega
theorem Db(O:bl T Goal X){s:PS}{sl:Option (Nat×Nat)}(H:PI T Goal X s gs v t)(w:∀n xs,s.mt=.fin n xs->False){k:Nat}(f:k<s.j){i:Nat}{l:List Nat}(hσ:s.ws k=.text i l xs x\/s.ws k=.lz i l xs x):ct T Goal X s gs v sl t (X.n0+k):=by
 obtain⟨g,V,W⟩:=H.gs.work k f;have h4:=EY O H.ac H.gs;have e6:=O.wg;have hold:=H.wd.old.1;have D: ¬s.ow k X.M.wg:=λh=>by have:=(H.tr.own k _ f h).1;omega
 rcases hσ with hσ|hσ
 .rw[hσ]at W;obtain⟨K,q,Y,N,Z⟩:=W;have hr:(s.ws k).aI=22+2*l.length:=zx;rcases Z.step O.A with⟨g1,v1,fs,Q,e,E,hn,o⟩|⟨xv,y,fs,w1,e,r,z,R,_,C⟩
  .have c:=xT O (s':=s.wk s.mt k (.text i l xs Q) λb=>s.ow k b\/(v<=b/\b<v1)) f (s.gw s.mt k _ _).2 (v1:=v1) (λb hb=>hb.elim (λh=>abc (H.tr.own k b f h).2 o.grow) (·.2)) (IT hold o.grow) o.qy;exact gO O H f V e (.text i l xs Q) _ s.st s.sm ⟨by rw[wR o.qy];exact K,q,Y,N,E⟩ o.grow (λb hb F _=>o.ix b hb F) (λb hb=>hb) (by rw[o.ix _ H.wd.size D];exact H.wd.wg) ⟨o.tape,o.os,o.output⟩
    (H.ac.wk _ zx zc (λh=>by simp only[Wk.aI]at h;omega)) (λmt' u _=>H.wg.iW X f _ zo (by simp only[Wk.aI];omega) zx mt' u) c.1 c.2.1 zc c.2.2 w (λmt' u=>FK f h4 zx zx zx rfl hn mt' u _ _ _)
  .obtain⟨S,rfl,U⟩:=XF O.A N r z;obtain rfl:=R S rfl;have c:=xT O (s':=s.wk s.mt k (.ops i l (upd xs 13 (.s S))) (s.ow k)) f (s.gw s.mt k _ _).2 (v1:=v) (λb hb=>(H.tr.own k b f hb).2) hold C;obtain⟨J,G⟩:=sr q.kh;simp only[pR,No,Bool.not_eq_true']at J;have I:=p6 (m:=5) J.2;have e':stepG Pg false g v=.go (bO X.p (upd xs 13 (.s S)) l) v fs:=by rw[<-NI];exact e
   exact gO O H f V e' (.ops i l (upd xs 13 (.s S))) (s.ow k) s.st s.sm ⟨rfl,by rw[wR C];exact K,I,G,q.lt,q.x4,λh=>q.d0 zg,λh=>q.d1 zg,λh=>q.d2 zg,λh=>q.d3 zg,λ_ _=>⟨S,rfl,U⟩,λh=>(by rw[J.2]at h;cases h),λh=>q.d6 zg⟩ zf (λ_ _ _ _=>rfl) (λb hb=>.inl hb) H.wd.wg ⟨rfl,rfl,rfl⟩
    (H.ac.wk _ zx zc (λh=>by simp only[Wk.aI]at h;omega)) (λmt' u _=>H.wg.iW X f _ zo (by simp only[Wk.aI];omega) zx mt' u) c.1 c.2.1 zc c.2.2 w (λmt' u=>jB f (by rw[hσ];simp only[Wk.aI];omega) zx mt' u _ _ _)
 .rw[hσ]at W;obtain⟨K,q,Y,N,Z⟩:=W;have hr:(s.ws k).aI=22+2*l.length:=zx;rcases Z.step O.A with⟨g1,v1,fs,Q,e,E,hn,o⟩|⟨xv,y,fs,w1,e,r,z,_,hint,C⟩
  .have c:=xT O (s':=s.wk s.mt k (.lz i l xs Q) λb=>s.ow k b\/(v<=b/\b<v1)) f (s.gw s.mt k _ _).2 (v1:=v1) (λb hb=>hb.elim (λh=>abc (H.tr.own k b f h).2 o.grow) (·.2)) (IT hold o.grow) o.qy;exact gO O H f V e (.lz i l xs Q) _ s.st s.sm ⟨by rw[wR o.qy];exact K,q,Y,N,E⟩ o.grow (λb hb F _=>o.ix b hb F) (λb hb=>hb) (by rw[o.ix _ H.wd.size D];exact H.wd.wg) ⟨o.tape,o.os,o.output⟩
    (H.ac.wk _ zx zc (λh=>by simp only[Wk.aI]at h;omega)) (λmt' u _=>H.wg.iW X f _ zo (by simp only[Wk.aI];omega) zx mt' u) c.1 c.2.1 zc c.2.2 w (λmt' u=>FK f h4 zx zx zx rfl hn mt' u _ _ _)
  .obtain rfl:=aaz O.A N r;obtain rfl:=hint (X.a i) rfl;have c:=xT O (s':=s.wk s.mt k (.ops i l (upd xs 14 (.int .u64 (X.a i)))) (s.ow k)) f (s.gw s.mt k _ _).2 (v1:=v) (λb hb=>(H.tr.own k b f hb).2) hold C;obtain⟨J,G⟩:=sr q.kh;simp only[pR,No,Bool.not_eq_true']at J;have I:=p6 (m:=6) J.2;have e':stepG Pg false g v=.go (bO X.p (upd xs 14 (.int .u64 (X.a i))) l) v fs:=by rw[<-RV];exact e
   exact gO O H f V e' (.ops i l (upd xs 14 (.int .u64 (X.a i)))) (s.ow k) s.st s.sm ⟨rfl,by rw[wR C];exact K,I,G,q.lt,q.x4,λh=>q.d0 zg,λh=>q.d1 zg,λh=>q.d2 zg,λh=>q.d3 zg,λh h5=>q.d4 zg zp,λ_=>rfl,λh=>q.d6 zg⟩ zf (λ_ _ _ _=>rfl) (λb hb=>.inl hb) H.wd.wg ⟨rfl,rfl,rfl⟩
    (H.ac.wk _ zx zc (λh=>by simp only[Wk.aI]at h;omega)) (λmt' u _=>H.wg.iW X f _ zo (by simp only[Wk.aI];omega) zx mt' u) c.1 c.2.1 zc c.2.2 w (λmt' u=>jB f (by rw[hσ];simp only[Wk.aI];omega) zx mt' u _ _ _)
end
end
section
open Go.Conc
open Go.ConcN (upd upd_same upd_ne sumTo sumTo_upd sumTo_congr le_sumTo RelBy)
section
variable {L:aR}{T:bw}{Goal:al->List al->af->Prop}{X:PC L}
theorem Wd.shape{s:PS}{v:af}(H:Wd X s v):v.shape? X.M.wg=some (206,2):=by simp[World.shape?,H.wg]
theorem Wd.cell0{s:PS}(H:Wd X s v):v.cell? (.a X.M.wg 0)=some (.int .u64 s.st):=by simp[World.cell?,H.wg]
theorem Wd.Fv{s:PS}(H:Wd X s v):v.cell? (.a X.M.wg 1)=some (.int .u32 s.sm):=by simp[World.cell?,H.wg]
theorem Wd.frozen{s:PS}{v:af}(H:Wd X s v)(o:Nat):v.frozen? (.a X.M.wg o)=false:=by simp[World.frozen?,H.wg]
theorem Wd.yJ{s:PS}(H:Wd X s v)(st:Nat):(v.setCell (.a X.M.wg 0) (.int .u64 st)).heap[X.M.wg]?=.c #[.int .u64 st,.int .u32 s.sm] 206:=by simp[World.setCell,abR,H.wg]
theorem Wd.Gj{s:PS}(H:Wd X s v)(sm:Nat):(v.setCell (.a X.M.wg 1) (.int .u32 sm)).heap[X.M.wg]?=.c #[.int .u64 s.st,.int .u32 sm] 206:=by simp[World.setCell,abR,H.wg]
theorem nz(v:af)(b o:Nat)(x:ag):(v.setCell (.a b o) x).heap.size=v.heap.size/\∀c,c≠b->(v.setCell (.a b o) x).heap[c]?=v.heap[c]? :=
 ⟨by simp[World.setCell],λc e=>by simp[World.setCell,abR,Ne.symm e]⟩
theorem sH{g:Nat}(i:X.M.wg<B)(h:∀e∈es,(∃o wr,e=⟨.cell (.a X.M.wg o),wr,true⟩)\/e=bt .disable\/e=bt .enable\/e=bt (.releaseMerge (cO X))):
  (∀e∈es,∀a,(MemAct.ofEvent e).touch?=some a->a.loc.isMemory=true/\pg (jF X s') g a)/\(∀e∈es,(MemAct.ofEvent e).low B)/\∀e∈es,e.loc≠.mark (.release (cO X)):=by
 refine⟨λe c a f=>?_,λe c=>?_,λe c=>?_⟩
 .rcases h e c with⟨o,wr,rfl⟩|rfl|rfl|rfl
  .simp only[MemAct.ofEvent,MemAct.touch?,aaX]at f;subst f;refine⟨rfl,λb hb=>?_⟩;simp only[blk,aaX]at hb;subst hb;exact .inr (.inr ⟨.inl rfl,zp,zp⟩)
  .simp[bt,MemAct.ofEvent,MemAct.touch?]at f
  .simp[bt,MemAct.ofEvent,MemAct.touch?]at f
  .simp[bt,MemAct.ofEvent,MemAct.touch?]at f
 .rcases h e c with⟨o,wr,rfl⟩|rfl|rfl|rfl
  .exact qg i _ _
  .trivial
  .trivial
  .exact i
 .rcases h e c with⟨o,wr,rfl⟩|rfl|rfl|rfl<;>simp[bt]
theorem aaH{a:Addr}{k:Nat}(c:Deaf t k=0)(fn:au)(pos:String): ∃r,RelBy a (t++MemOp.ofEvents k fn pos #[bt (.releaseMerge a)]) k r:=by
 have e:MemOp.ofEvents k fn pos #[bt (.releaseMerge a)]=#[{g:=k,fn,pos,act:=.mark (.releaseMerge a)}]:=by simp[ofEvents_eq,bt,MemAct.ofEvent]
 rw[e];have b:(t++#[({g:=k,fn,pos,act:=.mark (.releaseMerge a)}:MemOp)])[t.size]?=some {g:=k,fn,pos,act:=.mark (.releaseMerge a)}:=zg;refine⟨t.size,by simp[Trace.act?,b],by simp[Trace.g?,b],⟨k,by simp[Trace.g?,b],by rw[deaf_old zf];exact c⟩,λi hi f=>?_⟩;have:(t++#[({g:=k,fn,pos,act:=.mark (.releaseMerge a)}:MemOp)]).g? i=none:=by simp[Trace.g?];omega
 grind
theorem Qw(O:bl T Goal X){s:PS}{sl:Option (Nat×Nat)}(H:PI T Goal X s gs v t)(a:∀n xs,s.mt=.fin n xs->False){k:Nat}(c:k<s.j)(hσ:s.ws k=.conv 0 xs):ct T Goal X s gs v sl t (X.n0+k):=by
 obtain⟨g,q,o⟩:=H.gs.work k c;rw[hσ]at o;obtain⟨i,r⟩:=o;cases i;have e:=bg.value (zM (cD X.p xs::ic X.p xs) X.M.wg) (Us _ _) (w:=v) (w':=v) (es:=#[]) ⟨H.wd.shape,H.wd.shape,rfl,rfl⟩;rw[fY]at e;have u:(s.ws k).aI=7:=zx;exact gO O H c q e (.rz xs) (s.ow k) s.st s.sm ⟨rfl,r⟩ zf (λ_ _ _ _=>rfl) (λb hb=>.inl hb) H.wd.wg ⟨rfl,rfl,rfl⟩
  (H.ac.wk _ zx zc (λ_=>H.ac.gone k c zo)) (λmt' l _=>H.wg.iW X c _ zo (by simp[Wk.aI]) zx mt' l) (λe f=>by simp at f) (λe f=>by simp at f) zc (λe f=>by simp at f) a (λmt' l=>jB c (by rw[hσ];simp[Wk.aI]) zx mt' l _ _ _)
theorem SF(O:bl T Goal X){s:PS}{sl:Option (Nat×Nat)}(H:PI T Goal X s gs v t)(c:∀n xs,s.mt=.fin n xs->False){k:Nat}(f:k<s.j)(hσ:s.ws k=.rz xs):ct T Goal X s gs v sl t (X.n0+k):=by
 obtain⟨g,q,l⟩:=H.gs.work k f;rw[hσ]at l;obtain⟨rfl,o⟩:=l;have e:=YU (cD X.p xs::ic X.p xs) X.M.wg v;have r:(s.ws k).aI=6:=zx;have a:=sH (X:=X) (s':=s.wk s.mt k (.fC 3 xs) (s.ow k)) (g:=X.n0+k) H.wd.size (es:=#[bt (.releaseMerge (cO X))]) (λe u=>zg);exact gO O H f q e (.fC 3 xs) (s.ow k) s.st s.sm ⟨(YI _ _).bu,o⟩ zf (λ_ _ _ _=>rfl) (λb hb=>.inl hb) H.wd.wg ⟨rfl,rfl,rfl⟩
  (H.ac.wk _ zx zc (λ_=>H.ac.gone k f zo)) (λmt' i _=>H.wg.iW X f _ zo (by simp[Wk.aI]) zx mt' i) a.1 a.2.1 (λ_=>aaH o _ _) a.2.2 c (λmt' i=>jB f (by rw[hσ];simp[Wk.aI]) zx mt' i _ _ _)
theorem WI(O:bl T Goal X){s:PS}{sl:Option (Nat×Nat)}(H:PI T Goal X s gs v t)(f:∀n xs,s.mt=.fin n xs->False){k:Nat}(c:k<s.j)(hσ:s.ws k=.fC 0 xs):ct T Goal X s gs v sl t (X.n0+k):=by
 obtain⟨g,w,u⟩:=H.gs.work k c;rw[hσ]at u;obtain⟨i,y⟩:=u;cases i;have e:=XC (cD X.p xs::ic X.p xs) X.M.wg v;have z:(s.ws k).aI=5:=zx;have a:=sH (X:=X) (s':=s.wk s.mt k (.add 34 xs) (s.ow k)) (g:=X.n0+k) H.wd.size (es:=#[bt .disable]) (λe l=>zg);obtain⟨r,hrel⟩:=H.tr.rel k c zx;exact gO O H c w e (.add 34 xs) (s.ow k) s.st s.sm ⟨NX _ _,by rw[y];rfl⟩ zf (λ_ _ _ _=>rfl) (λb hb=>.inl hb) H.wd.wg ⟨rfl,rfl,rfl⟩
  (H.ac.wk _ zx zc (λ_=>H.ac.gone k c zo)) (λmt' o _=>H.wg.iW X c _ zo (by simp[Wk.aI]) zx mt' o) a.1 a.2.1 (λ_=>⟨r,RelBy.still hrel λop q=>by obtain⟨e,l,rfl⟩:=Go.Conc.mem_ofEvents q;simp at l;subst l;rfl⟩) a.2.2 f (λmt' o=>jB c (by rw[hσ];simp[Wk.aI]) zx mt' o _ _ _)
theorem aae(O:bl T Goal X){s:PS}{sl:Option (Nat×Nat)}(H:PI T Goal X s gs v t)(u:∀n xs,s.mt=.fin n xs->False){k:Nat}(o:k<s.j){q:Nat}(hσ:s.ws k=.quit q)(C:gs[X.n0+k]?=some g)(l:g.status=.running):ct T Goal X s gs v sl t (X.n0+k):=by
 obtain⟨M,w,y⟩:=H.gs.work k o;rw[C]at w;cases w;rw[hσ]at y;cases q with
 |zero=>rw[y.1]at l;cases l
 |succ q=>
  rcases y with⟨G,_⟩|⟨_,g1,es,f,z,I⟩
  .grind
  have hl:vX (s.ws k) (.quit q):=by rw[hσ];exact⟨rfl,rfl,rfl,rfl,rfl,rfl⟩
  obtain⟨r,hrel⟩:=H.tr.rel k o zx;refine gO O H o C (z v) (.quit q) (s.ow k) s.st s.sm I zf (λ_ _ _ _=>rfl) (λb hb=>.inl hb) H.wd.wg ⟨rfl,rfl,rfl⟩ (λmt' f=>H.ac.tZ f hl _) (λmt' f _=>H.wg.tZ X f o hl _) (λe p a D=>by rw[touch_mute (f e p)]at D;cases D) (λe p=>low_mute (f e p) _) (λ_=>⟨r,RelBy.still hrel λop A=>by obtain⟨e,p,rfl⟩:=Go.Conc.mem_ofEvents A;exact touch_mute (f e p)⟩) (λe p h=>?_) u (λmt' f=>?_)
  .have:=f e p;obtain⟨loc,wr,N⟩:=e;simp only at h;subst h;simp[Event.mute]at this
  .have J:=s.qd mt' o (.quit q) (s.ow k) Wk.aI;have K:=s.oX mt' o (.quit q) (s.ow k);have Q:=s.qd mt' o (.quit q) (s.ow k) Wk.idle;rw[hl.aI]at J;rw[hl.cnt]at K;have hid:(s.ws k).idle=q+1:=zx;have F:(Wk.quit q).idle=q:=rfl;have G:=f.facts (X:=X);have R:(s.wk mt' k (.quit q) (s.ow k)).c=s.c:=zo;refine .inr (.inr ⟨?_,s.FE mt' (.quit q) (s.ow k) hl.tree,?_⟩)
   .show mt'.aI (s.wk mt' k (.quit q) (s.ow k)).c+sumTo s.j (λi=>((s.wk mt' k (.quit q) (s.ow k)).ws i).aI)+12*(s.wk mt' k (.quit q) (s.ow k)).c+60*(X.E.n-s.rN)=s.mt.aI s.c+sumTo s.j (λi=>(s.ws i).aI)+12*s.c+60*(X.E.n-s.rN);grind
   .show mt'.idle+2*sumTo s.j (λi=>((s.wk mt' k (.quit q) (s.ow k)).ws i).idle)+2*sumTo X.n0 s.q<s.mt.idle+2*sumTo s.j (λi=>(s.ws i).idle)+2*sumTo X.n0 s.q;omega
end
end
end Go.Proofs.YtldmcdeibiclkaaGreat.U
