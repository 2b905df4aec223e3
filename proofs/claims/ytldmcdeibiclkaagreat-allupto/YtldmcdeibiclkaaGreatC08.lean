/-
  Toward all_holds
-/
import Derived.Test.YtldmcdeibiclkaaGreatC07
import Derived.Conc.CrowdComm
import Derived.Test.YtldmcdeibiclkaaGreatC01
set_option linter.all false
noncomputable section
set_option maxRecDepth 100000
set_option maxHeartbeats 20000000
namespace Go.Proofs.YtldmcdeibiclkaaGreat.U
variable {v w:af}{X:Nat->ag}{x:ag}
section
open Go.Conc
open Go.ConcN (upd)
structure Pl where
 wg:Nat
 bN:Nat
 bB:Nat
 bT:Nat
 cN:Nat
 cB:Nat
def pQ(p:Pl):Goroutine:=
 {frame:={(default:al) with fn:=Pg.funcs.size,defers:=[{target:=.fn (.func 128) #[ptr p.wg,ptr p.bN,ptr p.bB,ptr p.bT],args:=#[]}],mode:=.panicking [goexitEntry]},callers:=[],status:=.running,dying:=none}
theorem YP(p:Pl):bJ Pg false 7 (pQ p):=zl
def sY(p:Pl):Goroutine:=aW Pg false 7 (pQ p)
theorem Bf(p:Pl):bg Pg false (sY p):=⟨λw=>zk,zk,zk⟩
theorem Qv(p:Pl)(v:ag):feed Pg (bG (sY p)) [.val v]=some ([.ld .plain (.a p.bN 0)],.inl (.value v)):=zk
theorem SP(p:Pl)(b:Nat):seen Pg (sY p).frame.fn #[⟨.cell (.a b 0),false,false⟩]=#[⟨.cell (.a b 0),false,false⟩]:=zk
def yr(p:Pl):Goroutine:=gP (sY p) ((sY p).frame.finish (.chan (some p.cN)))
theorem T9(p:Pl):bJ Pg false 5 (yr p):=zl
def KJ(p:Pl)(xs:Nat->ag):Array Value:=#[ptr p.wg,ptr p.bN,ptr p.bB,ptr p.bT,xs 4,.chan (some p.cN),xs 6,xs 7,xs 8,xs 9,xs 10,xs 11,xs 12,xs 13,xs 14,xs 15]
def Dq(g:ai)(ts:aa):Goroutine:={g with frame:={g.frame with tmps:=ts}}
def iV(p:Pl)(xs:Nat->ag):Goroutine:=Dq (aW Pg false 5 (yr p)) (KJ p xs)
theorem UM(p:Pl):aW Pg false 5 (yr p)=iV p (λ_=>undef):=zk
theorem Bq(p:Pl)(xs:Nat->ag):bg Pg false (iV p xs):=⟨λw=>zk,zk,zk⟩
def ue(p:Pl):Array CommCase:=#[{chan:=.chan (some p.cN),send:=none,zero:=.i 0}]
theorem T4(p:Pl)(xs:Nat->ag):feed Pg (bG (iV p xs)) []=some ([],.inl (.comm (ue p) true (.recv true))):=zk
def wh(p:Pl)(xs:Nat->ag)(n:Int):Goroutine:=(iV p xs).finishComm Pg (ue p) (.recv true) 0 (.i n) true
theorem GG(p:Pl)(xs:Nat->ag)(n:Int):bJ Pg false 11 (wh p xs n):=zl
def DW:Goroutine:=aW Pg false 11 (wh ⟨0,0,0,0,0,0⟩ (λ_=>undef) 0)
def rR(p:Pl)(xs:Nat->ag):Goroutine:=Dq (aW Pg false 11 (wh p (λ_=>undef) 0)) (KJ p xs)
def kY(xs:Nat->ag)(n:Int):Nat->Value:=upd (upd (upd (upd xs 6 (.tuple #[.i n,.bool true])) 7 (.bool true)) 8 (.i n)) 4 (.i n)
theorem IK(p:Pl)(xs:Nat->ag)(n:Int):aW Pg false 11 (wh p xs n)=rR p (kY xs n):=zk
def nF:Array Oper:=match DW.frame.todo with|.code (.region _ ops _)::_=>ops|_=>#[]
def kR:List Item:=match DW.frame.todo with|_::k=>k|_=>[]
def bO(p:Pl)(xs:Nat->ag)(l:List Nat):Goroutine:={rR p xs with frame:={(rR p xs).frame with todo:=.inRegion nF l::kR}}
theorem FC(p:Pl)(xs:Nat->ag):(rR p xs).status=.running:=zk
theorem Lr(p:Pl)(xs:Nat->ag)(w:af):stepG Pg false (rR p xs) w=.go (bO p xs (Region.schedule true nF (w.tape w.drawn (.order 128 4)))) {w with drawn:=w.drawn+1} #[]:=zk
section
variable (p:Pl) (xs:Nat->ag) (rest:List Nat)
theorem SD:bg Pg false (bO p xs (0::rest)):=⟨λw=>zk,zk,zk⟩
theorem XG(v:ag):feed Pg (bG (bO p xs (0::rest))) [.val v]=some ([.ld .plain (.a p.bB 0)],.inl (.value v)):=zk
theorem QS(v:ag):gP (bO p xs (0::rest)) ((bO p xs (0::rest)).frame.finish v)=bO p (upd xs 9 v) rest:=zk
theorem Vy:bJ Pg false 1 (bO p xs (1::rest)):=zl
theorem Vi:nx Pg false (bO p xs (1::rest))=bO p (upd xs 10 (xs 4)) rest:=zk
theorem NC:bg Pg false (bO p xs (2::rest)):=⟨λw=>zk,zk,zk⟩
theorem RN(v:ag):feed Pg (bG (bO p xs (2::rest))) [.val v]=some ([.ld .plain (.a p.bT 0)],.inl (.value v)):=zk
theorem XM(v:ag):gP (bO p xs (2::rest)) ((bO p xs (2::rest)).frame.finish v)=bO p (upd xs 11 v) rest:=zk
theorem aap:bJ Pg false 1 (bO p xs (3::rest)):=zl
theorem Y4:nx Pg false (bO p xs (3::rest))=bO p (upd xs 12 (xs 4)) rest:=zk
theorem SS:bg Pg false (bO p xs (4::rest)):=⟨λw=>zk,zk,zk⟩
theorem NI(v:ag):gP (bO p xs (4::rest)) ((bO p xs (4::rest)).frame.finish v)=bO p (upd xs 13 v) rest:=zk
theorem RV(v:ag):gP (bO p xs (5::rest)) ((bO p xs (5::rest)).frame.finish v)=bO p (upd xs 14 v) rest:=zk
theorem SZ(n d:Int):bJ Pg false 1 (bO p (upd (upd xs 10 (.i n)) 14 (.int .u64 d)) (6::rest)):=zl
theorem U1(n d:Int):nx Pg false (bO p (upd (upd xs 10 (.i n)) 14 (.int .u64 d)) (6::rest))=bO p (upd (upd (upd xs 10 (.i n)) 14 (.int .u64 d)) 15 (.agg #[.i n,.int .u64 d])) rest:=zk
theorem Zf:bg Pg false (bO p xs (7::rest)):=⟨λw=>zk,zk,zk⟩
theorem YY:feed Pg (bG (bO p xs (7::rest))) []=some ([],.inl (.comm #[{chan:=xs 9,send:=some (xs 15),zero:=.tuple #[]}] true .send)):=zk
end
theorem Uh(p:Pl)(xs:Nat->ag):bJ Pg false 5 (bO p xs []):=zl
theorem PU(p:Pl)(xs:Nat->ag):aW Pg false 5 (bO p xs [])=iV p xs:=zk
def xe(p:Pl)(xs:Nat->ag):Goroutine:=(iV p xs).finishComm Pg (ue p) (.recv true) 0 (.i 0) false
theorem Q1(p:Pl)(xs:Nat->ag):bJ Pg false 10 (xe p xs):=zl
def cD(p:Pl)(xs:Nat->ag):Frame:=(aW Pg false 10 (xe p xs)).callers.headD default
def ic(p:Pl)(xs:Nat->ag):List Frame:=(aW Pg false 10 (xe p xs)).callers.tail
theorem Vq(p:Pl)(xs:Nat->ag):aW Pg false 10 (xe p xs)=Cc (cD p xs::ic p xs) p.wg:=zk
theorem Bg(p:Pl)(xs:Nat->ag):QuitsD Pg 5 0 (back (cD p xs) (ic p xs)):=J7 5 0 _ (λw=>zk) zk zk zk
end
section
open Go.Conc
open Go.ConcN (upd upd_same upd_ne)
theorem Mv(p:Pl)(xs:Nat->ag)(rest:List Nat):bG (bO p xs (4::rest))=(do let d ←Deferred.ofValue (xs 11) #[xs 12];invoke d.target d.args):=zk
theorem KS(p:Pl)(xs:Nat->ag)(rest:List Nat)(w:af):stepG Pg false (bO p xs (5::rest)) w=.go {frame:=Frame.enter Pg 84 #[xs 13] .normal,callers:=(bO p xs (5::rest)).frame::(bO p xs (5::rest)).callers,status:=.running,dying:=none} w #[]:=zk
section
variable {L:aR}{T:bw}{Goal:al->List al->af->Prop}
def tS(E:Entry L)(v:af):Prop:=E.v0.heap.size<=v.heap.size/\∀s,s<E.v0.heap.size->v.heap[s]?=E.v0.heap[s]?
theorem ZC(A:gh L T Goal){E:Entry L}(K:jo L E){i:Nat}{a:Int}(hj:xu Goal E i a)(p:Pl){xs:Nat->ag}(rest:List Nat)(b:xs 11=E.y2)(g:xs 12=.i (IntKind.i64.wrap (E.first+i)))(hv:tS E v):
  ∃X s g1,stepG Pg false (bO p xs (4::rest)) v=.go g1 v #[]/\X 7=.int .u64 a/\iF L T Goal E (qF E 5 0 X) ((bO p xs (4::rest)).frame::(bO p xs (4::rest)).callers) (λ_=>False) s g1 v:=by
 obtain⟨X,w,hs,C,D,q⟩:=hj;obtain⟨f,O,h,vs,l,Q,F,y,G,H,e⟩:=AS A K 5 (.inr rfl) hs C;obtain⟨d1,d2⟩:=q.obj K v (λr s m=>hv.2 s (K.dq r s m).2) hv.1;have z:=Mv p xs rest;rw[b,g,F]at z;obtain⟨⟨fn,I,J,N⟩,_⟩:=A.stat.cY.tw f y;have m:(bG (bO p xs (4::rest))).runT Pg v #[]=(.ok (.enter f (h++#[.i (IntKind.i64.wrap (E.first+i))]++l)) v,#[]):=by
  rw[z];exact Fu (P:=Pg) I J N _ _ _
 refine⟨X,⟨_,_,w⟩,_,bg.enter (SS p xs rest) m rfl,D,Safe.next hs (A.jS rfl) w.tape e,⟨[],rfl⟩,⟨gW E.ρ,?_,λr t o=>.inl (nV.1 o),λr t o=>absurd o wa⟩,q⟩;exact xp A.stat A.fl y G H (qF E 5 0 X::E.cs++ [wall]) _ K.bi (K.gl A.stat) d1 d2
def zU(Goal:al->List al->af->Prop)(E:Entry L)(a:Int)(t:ah):Prop:=∃X w,Safe Qg Goal (qF E 5 2 X) E.cs w/\X 8=.s t/\X 7=.int .u64 a/\jl E w
theorem XF(A:gh L T Goal){E:Entry L}{a:Int}(b:X 7=.int .u64 a)(hs:Safe Qg Goal ((qF E 5 0 X).finish x) E.cs w)(f:jl E w): ∃t,x=.s t/\zU Goal E a t:=by
 rw[show(qF E 5 0 X).finish x=qF E 5 1 (upd X 8 x) from EZ ..]at hs;obtain⟨t,rfl⟩:=F1 _ _ _ _ _ _ _ (A.eO hs rfl);have r:=A.eQ (H6 (.i E.first) (.i E.n) E.x2 X E.cs t) (EM (.i E.first) (.i E.n) E.x2 X E.cs t) w;exact⟨t,rfl,_,w,Safe.run hs r,rfl,b,f⟩
theorem M3(A:gh L T Goal){E:Entry L}(K:jo L E){a:Int}{t:ah}(m:zU Goal E a t)(p:Pl){xs:Nat->ag}(rest:List Nat)(f:xs 13=.s t)(hv:tS E v):
  ∃X s g1,stepG Pg false (bO p xs (5::rest)) v=.go g1 v #[]/\X 7=.int .u64 a/\iF L T Goal E (qF E 5 2 X) ((bO p xs (5::rest)).frame::(bO p xs (5::rest)).callers) (λ_=>False) s g1 v:=by
 obtain⟨X,w,hs,o,q,g⟩:=m;have e:=Ir (.i E.first) (.i E.n) E.x2 X E.cs w;rw[o]at e;have z:TR L (gW E.ρ) 84 #[.s t] #[.s t]:=⟨rfl,λi x y b h=>by
  cases i with
  |zero=>
   rw[A.sum.2];simp at b h;subst b h;exact VR.string t
  |succ i=>simp at b⟩
 obtain⟨d1,d2⟩:=g.obj K v (λr s C=>hv.2 s (K.dq r s C).2) hv.1;have l:=KS p xs rest v;rw[f]at l;refine⟨X,⟨_,_,w⟩,_,l,q,Safe.next hs (A.jS rfl) w.tape e,⟨[],rfl⟩,⟨gW E.ρ,?_,λr t b=>.inl (nV.1 b),λr t b=>absurd b wa⟩,g⟩;exact xp A.stat A.fl A.sum.1 (λe=>A.sD (e▸A.sum.1)) z (qF E 5 2 X::E.cs++ [wall]) _ K.bi (K.gl A.stat) d1 d2
theorem aaz(A:gh L T Goal){E:Entry L}{a:Int}(N:X 7=.int .u64 a)(hs:Safe Qg Goal ((qF E 5 2 X).finish x) E.cs w):x=.int .u64 a:=by
 rw[Eu]at hs;generalize g:upd X 9 x=X5 at hs;have h:X5 7=.int .u64 a:=by rw[<-g];exact N
 have q:X5 9=x:=by rw[<-g];rfl
 have y:=A.eQ (Fy (.i E.first) (.i E.n) E.x2 X5 E.cs) (JM (.i E.first) (.i E.n) E.x2 X5 E.cs) w;have J:=Safe.run hs y;have K:upd X5 7 (.int .u64 a)=X5:=by rw[<-h];exact mC X5 7
 rw[<-K]at J;have z:=A.eQ (Em (.i E.first) (.i E.n) E.x2 X5 E.cs a) (Dy (.i E.first) (.i E.n) E.x2 X5 E.cs a) w;have b:=Safe.run J z;rw[K]at b;generalize l:upd X5 18 (.bool (decide (a<0)))=X6 at b;have C:X6 7=.int .u64 a:=by rw[<-l];exact h
 have D:X6 9=x:=by rw[<-l];exact q
 have F:upd X6 9 x=X6:=by rw[<-D];exact mC X6 9
 rw[<-F]at b;obtain⟨f,rfl⟩:=CL _ _ _ _ _ _ _ (A.eO b rfl);rw[F]at b;have G:qE a f X6=X6:=by
  unfold qE;rw[show upd X6 7 (.int .u64 a)=X6 by rw[<-C];exact mC X6 7];exact F
 have m:=A.eQ (Iy (.i E.first) (.i E.n) E.x2 X6 E.cs a f) (Fc (.i E.first) (.i E.n) E.x2 X6 E.cs a f) w;rw[G]at m;have o:=Safe.run b m;have H:a=f:=by
  refine aco λI=>?_;rw[show(!decide (a=f))=true by simp[I]]at o;have rb:=A.eQ (Ge (.i E.first) (.i E.n) E.x2 (upd X6 19 (.bool (decide (f<0)))) E.cs) rfl w;have O:=Safe.run o rb
  have:=A.eO (fr:=vF (.i E.first) (.i E.n) E.x2 (upd X6 19 (.bool (decide (f<0)))) E.cs) O (Jv ..);rw[Eb]at this;cases this
 rw[H]
end
end
section
open Go.Conc
open Go.ConcN (upd upd_same upd_ne)
def uG(m:Region.Mode)(ops:Array Oper):Nat->Array Bool->List Nat->List (List Nat)
 |0,_,acc=>[acc.reverse]
 |fuel+1,listed,acc=>
  let rs:=(List.range ops.size).filter λi=>!listed.getD i true&&((ops[i]?).map (·.after.all λe=>!Region.binds m e||listed.getD e.on false)).getD false
  if rs.isEmpty then [acc.reverse] else rs.flatMap λi=>uG m ops fuel (listed.setIfInBounds i true) (i::acc)
theorem F5(m:Region.Mode)(ops:Array Oper):∀(fuel t:Nat) (listed:Array Bool) (acc:List Nat),Region.linearise.go m ops fuel t listed acc∈uG m ops fuel listed acc
 |0,_,_,acc=>by simp[Region.linearise.go,uG]
 |fuel+1,t,listed,acc=>by
  simp only[Region.linearise.go,uG];generalize b:((List.range ops.size).filter λi=>!listed.getD i true&&((ops[i]?).map (·.after.all λe=>!Region.binds m e||listed.getD e.on false)).getD false)=rs;by_cases h:rs= []
  .subst h;simp
  .have hl:=List.length_pos_iff.2 h;have a:t%rs.length<rs.length:=Nat.mod_lt _ hl;rw[abG a];have f:rs.isEmpty=false:=by simp[h]
   simp only[f,abf,abd,abO];exact⟨_,IS a,F5 m ops fuel _ _ _⟩
def pR:Nat->List Nat->Bool
 |0,r=>r.contains 7
 |1,r=>r.contains 6
 |2,r=>r.contains 4
 |3,r=>r.contains 4
 |4,r=>!r.contains 2&&!r.contains 3&&r.contains 5
 |5,r=>!r.contains 4&&r.contains 6
 |6,r=>!r.contains 1&&!r.contains 5&&r.contains 7
 |7,r=>r.isEmpty
 |_,_=>false
def kh:List Nat->Bool
 |[]=>true
 |j::r=>pR j r&&kh r
def whole(l:List Nat):Bool:=kh l&&(List.range 8).all l.contains&&decide (l.length=8)
theorem QY:(uG .any nF 8 (Array.replicate 8 false) []).all whole=true:=zk
theorem Ur:nF.size=8:=zk
theorem Ps(t:Nat):whole (Region.schedule true nF t)=true:=by
 have h:Region.schedule true nF t=Region.linearise .any nF t:=by simp[Region.schedule]
 rw[h]
 have:=F5 .any nF 8 t (Array.replicate 8 false) [];unfold Region.linearise;rw[Ur];exact abK.1 QY _ this
section
variable {α:Type}{R:α->α->Prop}
def pT(R:α->α->Prop)(n:Nat)(f' f:Nat->Option α):Prop:=∃k,k<n/\∃s s',f k=some s/\f' k=some s'/\R s' s/\∀j,j≠k->f' j=f j
theorem AP:∀(n:Nat) (f:Nat->Option α),(∀k,k<n->∀s,f k=some s->Acc R s)->Acc (pT R n) f
 |0,f,_=>Acc.intro _ λg ⟨k,a,_⟩=>absurd a zo
 |n+1,f,h=>by
  have key:∀(x:Option α),(∀s,x=some s->Acc R s)->∀f:Nat->Option α,f n=x->(∀k,k<n->∀s,f k=some s->Acc R s)->Acc (pT R (n+1)) f:=by
   have inner:∀(x:Option α),(∀s b,x=some s->R b s->∀f:Nat->Option α,f n=some b->(∀k,k<n->∀s,f k=some s->Acc R s)->Acc (pT R (n+1)) f)->∀f:Nat->Option α,Acc (pT R n) f->f n=x->(∀k,k<n->∀s,f k=some s->Acc R s)->Acc (pT R (n+1)) f:=by
    intro x q f D;induction D with
    |intro f _ y=>
     intro l a;refine Acc.intro _ λg hs=>?_;obtain⟨k,E,s,b,z,A,m,F⟩:=hs;by_cases G:k=n
     .grind
     .refine y g ⟨k,zo,s,b,z,A,m,F⟩ zg λj hj u C=>?_;by_cases o:j=k
      .subst o;rw[A]at C;cases C;exact(a j hj s z).inv m
      grind
   intro x q f l a;cases x with
   |none=>exact inner none zc f (AP n f a) l a
   |some s=>
    have hs:=q s rfl;induction hs generalizing f with
    |intro s _ y=>
     refine inner (some s) (λJ b e m g H I=>?_) f (AP n f a) l a;grind
  grind
end
end
section
open Go.Conc
section
variable (c:al) (cs:List al) (wg:Nat)
def pz:Goroutine:={frame:=c.finish unit,callers:=cs,status:=.running,dying:=none}
def yi(g:ai):Goroutine:={g with frame:={g.frame with defers:=[]}}
def mX(b:Nat):Value:=.pointer (.a b 1)
def zY:Goroutine:=uP 127 #[ptr wg,.i 1] (c::cs)
theorem Uz:bJ Pg true 12 (zY c cs wg):=zl
def oK:Goroutine:=aW Pg true 12 (zY c cs wg)
theorem aaq(w:af):stepG Pg true (oK c cs wg) w=.go (fin (oK c cs wg) unit) w #[bt .disable]:=zk
theorem aak:(oK c cs wg).status=.running:=zk
theorem OG:bJ Pg true 11 (fin (oK c cs wg) unit):=zl
def tM:Goroutine:=aW Pg true 11 (fin (oK c cs wg) unit)
theorem LP(w:af):stepG Pg true (tM c cs wg) w=.go (fin (tM c cs wg) (.bool false)) w #[]:=zk
theorem SO:(tM c cs wg).status=.running:=zk
theorem LO:bJ Pg true 22 (fin (tM c cs wg) (.bool false)):=zl
def tj:Goroutine:=aW Pg true 22 (fin (tM c cs wg) (.bool false))
def T0:bh Pg true (11+(1+22)) (fin (oK c cs wg) unit) (tj c cs wg):=(OG c cs wg).bu.trans ((bh.one (SO c cs wg) (LP c cs wg)).trans (LO c cs wg).bu)
theorem FJ:bg Pg true (tj c cs wg):=⟨λw=>zk,zk,zk⟩
def more(st:Int):Int:=IntKind.u64.wrap (st+4294967296)
theorem QO(st:Int):feed Pg (bG (tj c cs wg)) [.val (.int .u64 st)]=some ([.mk (.extern 189),.ld .atomic (.a wg 0),.st .atomic (.a wg 0) (.int .u64 (more st))],.inl (.value (.int .u64 (more st)))):=zk
theorem Xu(a:Addr):seen Pg (tj c cs wg).frame.fn #[bt (.extern 189),⟨.cell a,false,true⟩,⟨.cell a,true,true⟩]=#[⟨.cell a,false,true⟩,⟨.cell a,true,true⟩]:=zk
def wH(st:Int):Goroutine:=fin (tj c cs wg) (.int .u64 st)
theorem YR:bJ Pg true 52 (wH c cs wg 4294967296):=zl
def oa:Goroutine:=aW Pg true 52 (wH c cs wg 4294967296)
theorem KH:bg Pg true (oa c cs wg):=⟨λw=>zk,zk,zk⟩
theorem QI:feed Pg (bG (oa c cs wg)) [lr,lr]=some ([.shp wg,.shp wg],.inl (.value (mX wg))):=zk
theorem Tb(w:af):stepG Pg true (fin (oa c cs wg) (mX wg)) w=.go (fin (fin (oa c cs wg) (mX wg)) unit) w #[bt (.read (.a wg 1))]:=zk
theorem Ny:(fin (oa c cs wg) (mX wg)).status=.running:=zk
theorem UG:bJ Pg true 39 (fin (fin (oa c cs wg) (mX wg)) unit):=zl
def uA:Goroutine:=aW Pg true 39 (fin (fin (oa c cs wg) (mX wg)) unit)
theorem UI(w:af):stepG Pg true (uA c cs wg) w=.go (yi (uA c cs wg)) w #[bt .enable]:=zk
theorem TH:(uA c cs wg).status=.running:=zk
theorem Lq:bh Pg true 1 (yi (uA c cs wg)) (pz c cs):=bh.one zk λw=>zk
def tX(st:Int):Goroutine:=aW Pg true 87 (wH c cs wg st)
end
end
section
open Go.Conc
section
variable (c:al) (cs:List al) (wg:Nat) (xs:Nat->ag)
def zn:Goroutine:=uP 130 #[ptr wg] (c::cs)
theorem Qx:bJ Pg true 3 (zn c cs wg):=zl
def oI:Goroutine:=aW Pg true 3 (zn c cs wg)
theorem Mq(w:af):stepG Pg true (oI c cs wg) w=.go (fin (oI c cs wg) unit) w #[bt .disable]:=zk
theorem Xx:(oI c cs wg).status=.running:=zk
theorem MN:bJ Pg true 3 (fin (oI c cs wg) unit):=zl
def Vc(wg:Nat)(xs:Nat->ag):Array Value:=#[ptr wg,xs 1,xs 2,xs 3,xs 4,xs 5,xs 6,xs 7,xs 8,xs 9,xs 10,xs 11,xs 12,xs 13,xs 14,xs 15,xs 16,xs 17,xs 18,xs 19,xs 20,xs 21,xs 22,xs 23,xs 24,xs 25,xs 26,xs 27,xs 28,xs 29,xs 30,xs 31,xs 32,xs 33,xs 34,xs 35,xs 36,xs 37,xs 38,xs 39,xs 40,xs 41,xs 42,xs 43,xs 44,xs 45,xs 46,xs 47,xs 48,xs 49,xs 50,xs 51,xs 52,xs 53,xs 54,xs 55,xs 56,xs 57,xs 58,xs 59,xs 60,xs 61,xs 62,xs 63,xs 64,xs 65,xs 66,xs 67,xs 68,xs 69,xs 70,xs 71,xs 72,xs 73,xs 74,xs 75,xs 76,xs 77,xs 78,xs 79,xs 80,xs 81,xs 82,xs 83]
def Cj:Goroutine:={(aW Pg true 3 (fin (oI c cs wg) unit)) with frame:={(aW Pg true 3 (fin (oI c cs wg) unit)).frame with tmps:=Vc wg xs}}
def yu(g:ai):Nat->Value:=λi=>g.frame.tmps.getD i undef
theorem Lo:aW Pg true 3 (fin (oI c cs wg) unit)=Cj c cs wg (yu (aW Pg true 3 (fin (oI c cs wg) unit))):=zk
theorem Dt:bJ Pg true 16 (Cj c cs wg xs):=zl
def rY:Goroutine:=aW Pg true 16 (Cj c cs wg xs)
theorem El:bg Pg true (rY c cs wg xs):=⟨λw=>zk,zk,zk⟩
theorem aar(st:Int):feed Pg (bG (rY c cs wg xs)) [.val (.int .u64 st)]=some ([.mk (.extern 190),.ld .atomic (.a wg 0)],.inl (.value (.int .u64 st))):=zk
theorem Ya(a:Addr):seen Pg (rY c cs wg xs).frame.fn #[bt (.extern 190),⟨.cell a,false,true⟩]=#[⟨.cell a,false,true⟩]:=zk
def xj(st:Int):Goroutine:=fin (rY c cs wg xs) (.int .u64 st)
theorem Tn:bJ Pg true 31 (xj c cs wg xs 0):=zl
def tf:Goroutine:=aW Pg true 31 (xj c cs wg xs 0)
theorem X4(w:af):stepG Pg true (tf c cs wg xs) w=.go (fin (tf c cs wg xs) unit) w #[bt .enable]:=zk
theorem OE:(tf c cs wg xs).status=.running:=zk
theorem Yk:bJ Pg true 3 (fin (tf c cs wg xs) unit):=zl
def nO:Goroutine:=aW Pg true 3 (fin (tf c cs wg xs) unit)
theorem Hs:bg Pg true (nO c cs wg xs):=⟨λw=>zk,zk,zk⟩
theorem KZ:feed Pg (bG (nO c cs wg xs)) [lr,lr]=some ([.shp wg,.shp wg],.inl (.value (ptr wg))):=zk
theorem Yc(w:af):stepG Pg true (fin (nO c cs wg xs) (ptr wg)) w=.go (fin (fin (nO c cs wg xs) (ptr wg)) unit) w #[bt (.acquire (.a wg 0))]:=zk
theorem MK:(fin (nO c cs wg xs) (ptr wg)).status=.running:=zk
theorem WN:bJ Pg true 20 (fin (fin (nO c cs wg xs) (ptr wg)) unit):=zl
theorem XY:aW Pg true 20 (fin (fin (nO c cs wg xs) (ptr wg)) unit)=pz c cs:=zk
end
end
section
open Go.Conc
section
variable (c:al) (cs:List al) (wg:Nat) (xs:Nat->ag)
def ry(st:Int):Goroutine:=aW Pg true 48 (xj c cs wg xs st)
def Df(st:Int):Goroutine:=fin (ry c cs wg xs st) (.bool true)
def E4(st:Int):Goroutine:=fin (ry c cs wg xs st) (.bool false)
def xR(st:Int):Goroutine:=aW Pg true 19 (Df c cs wg xs st)
def tC(st:Int):Goroutine:=fin (xR c cs wg xs st) (mX wg)
def lI:Goroutine:=JW Pg 130 19 4 (#[ptr wg,xs 1,xs 2,xs 3,xs 4,xs 5,xs 6,xs 7,xs 8,xs 9,xs 10,xs 11,xs 12,xs 13,xs 14,xs 15,xs 16,xs 17,xs 18,xs 19,xs 20,xs 21,xs 22,xs 23,xs 24,xs 25,xs 26,xs 27,xs 28,xs 29,xs 30,xs 31,xs 32,xs 33,xs 34,xs 35,xs 36,xs 37,xs 38,xs 39,xs 40,xs 41,xs 42,xs 43,xs 44,xs 45,xs 46,xs 47,xs 48,xs 49,xs 50,xs 51,xs 52,xs 53,xs 54,xs 55,xs 56,xs 57,xs 58,xs 59,xs 60,xs 61,xs 62,xs 63,xs 64,xs 65,xs 66,xs 67,xs 68,xs 69,mX wg,.bool false,xs 72,xs 73,xs 74,xs 75,xs 76,xs 77,xs 78,xs 79,xs 80,xs 81,xs 82,xs 83]) (c::cs)
theorem GD(a:Addr):seen Pg 171 #[bt (.extern 192),⟨.cell a,false,true⟩,⟨.cell a,true,true⟩]=#[⟨.cell a,false,true⟩,⟨.cell a,true,true⟩]/\seen Pg 171 #[bt (.extern 192),⟨.cell a,false,true⟩]=#[⟨.cell a,false,true⟩]:=⟨zk,zk⟩
theorem Bv:bg Pg true (lI c cs wg xs):=⟨λw=>zk,zk,zk⟩
theorem Y5:feed Pg (bG (lI c cs wg xs)) [.val (.int .u32 0)]=some ([.mk (.extern 173),.mk .disable,.ld .atomic (.a wg 1)],.inr .blocked):=zk
theorem LU:feed Pg (bG (lI c cs wg xs)) [.val (.int .u32 1)]=some ([.mk (.extern 173),.mk .disable,.ld .atomic (.a wg 1),.st .atomic (.a wg 1) (.int .u32 0),.mk .enable],.inl (.value unit)):=zk
theorem Ld(a:Addr):seen Pg 130 #[bt (.extern 173),bt .disable,⟨.cell a,false,true⟩,⟨.cell a,true,true⟩,bt .enable]=#[bt .disable,⟨.cell a,false,true⟩,⟨.cell a,true,true⟩,bt .enable]/\seen Pg 130 #[]=#[]:=⟨zk,zk⟩
theorem YJ:bJ Pg true 16 (fin (lI c cs wg xs) unit):=zl
def tE:Goroutine:=aW Pg true 16 (fin (lI c cs wg xs) unit)
theorem GY:bg Pg true (tE c cs wg xs):=⟨λw=>zk,zk,zk⟩
theorem S3:feed Pg (bG (tE c cs wg xs)) [.val (.int .u64 0)]=some ([.mk (.extern 190),.ld .atomic (.a wg 0)],.inl (.value (.int .u64 0))):=zk
theorem OM(a:Addr):seen Pg (tE c cs wg xs).frame.fn #[bt (.extern 190),⟨.cell a,false,true⟩]=#[⟨.cell a,false,true⟩]:=zk
theorem Sj:bJ Pg true 11 (fin (tE c cs wg xs) (.int .u64 0)):=zl
def tA:Goroutine:=aW Pg true 11 (fin (tE c cs wg xs) (.int .u64 0))
theorem NO(w:af):stepG Pg true (tA c cs wg xs) w=.go (fin (tA c cs wg xs) unit) w #[bt .enable]:=zk
theorem O7:(tA c cs wg xs).status=.running:=zk
theorem U8:bJ Pg true 3 (fin (tA c cs wg xs) unit):=zl
def oe:Goroutine:=aW Pg true 3 (fin (tA c cs wg xs) unit)
theorem Io:bg Pg true (oe c cs wg xs):=⟨λw=>zk,zk,zk⟩
theorem MD:feed Pg (bG (oe c cs wg xs)) [lr,lr]=some ([.shp wg,.shp wg],.inl (.value (ptr wg))):=zk
theorem N6(w:af):stepG Pg true (fin (oe c cs wg xs) (ptr wg)) w=.go (fin (fin (oe c cs wg xs) (ptr wg)) unit) w #[bt (.acquire (.a wg 0))]:=zk
theorem OA:(fin (oe c cs wg xs) (ptr wg)).status=.running:=zk
end
end
section
open Go.Conc
open Go.ConcN (upd)
structure Mn extends Pl where
 first:Int
 count:Int
 fn:Fn
 ca:aa
 cb:aa
def Mn.ja(M:Mn):Value:=.func M.fn M.ca M.cb
def mT(M:Mn)(xs:Nat->ag):Array Value:=#[.i M.first,.i M.count,M.ja,xs 3,xs 4,ptr M.bT,xs 6,ptr M.bN,ptr M.bB,ptr M.wg,xs 10,xs 11,xs 12,xs 13,xs 14,xs 15,xs 16,xs 17,xs 18,xs 19,xs 20,xs 21,xs 22,xs 23,xs 24,xs 25,xs 26,xs 27,xs 28,xs 29,xs 30,xs 31,xs 32,xs 33,xs 34,xs 35,xs 36,xs 37,xs 38,xs 39,xs 40,xs 41,xs 42,xs 43,xs 44,xs 45,xs 46,xs 47,xs 48,xs 49,xs 50]
def gM(M:Mn)(id n:Nat)(xs:Nat->ag)(cs:List al):Goroutine:=JW Pg 95 id n (mT M xs) cs
section
variable (M:Mn) (xs:Nat->ag) (c:al) (cs:List al)
def m0:Goroutine:=uP 95 #[.i M.first,.i M.count,M.ja] (c::cs)
theorem Xz:bJ Pg true 2 (m0 M c cs):=zl
def pF:Goroutine:=aW Pg true 2 (m0 M c cs)
theorem Yv:bg Pg true (pF M c cs):=⟨λw=>zk,zk,zk⟩
theorem NM(r:Nat):feed Pg (bG (pF M c cs)) [.ref r]=some ([.nw (.cells #[M.ja] 98)],.inl (.value (ptr r))):=zk
theorem Pa:bJ Pg true 5 (fin (pF M c cs) (ptr M.bT)):=zl
def vp:Goroutine:=aW Pg true 5 (fin (pF M c cs) (ptr M.bT))
theorem Rb:bg Pg true (vp M c cs):=⟨λw=>zk,zk,zk⟩
def uK:Goroutine:=fin (vp M c cs) (.chan (some M.cN))
theorem QV:bg Pg true (uK M c cs):=⟨λw=>zk,zk,zk⟩
theorem LQ(r:Nat):feed Pg (bG (uK M c cs)) [.ref r]=some ([.nw (.cells #[.chan none] 197)],.inl (.value (ptr r))):=zk
def om:Goroutine:=fin (uK M c cs) (ptr M.bN)
theorem M9:bg Pg true (om M c cs):=⟨λw=>zk,zk,zk⟩
theorem Y9:feed Pg (bG (om M c cs)) []=some ([.st .plain (.a M.bN 0) (.chan (some M.cN))],.inl .skip):=zk
theorem Nj:bJ Pg true 4 (fin (om M c cs) unit):=zl
def vd:Goroutine:=aW Pg true 4 (fin (om M c cs) unit)
theorem Zr:bg Pg true (vd M c cs):=⟨λw=>zk,zk,zk⟩
def uH:Goroutine:=fin (vd M c cs) (.chan (some M.cB))
theorem Rm:bg Pg true (uH M c cs):=⟨λw=>zk,zk,zk⟩
theorem T7(r:Nat):feed Pg (bG (uH M c cs)) [.ref r]=some ([.nw (.cells #[.chan none] 198)],.inl (.value (ptr r))):=zk
def nC:Goroutine:=fin (uH M c cs) (ptr M.bB)
theorem Rx:bg Pg true (nC M c cs):=⟨λw=>zk,zk,zk⟩
theorem Lz:feed Pg (bG (nC M c cs)) []=some ([.st .plain (.a M.bB 0) (.chan (some M.cB))],.inl .skip):=zk
theorem Ov:bJ Pg true 3 (fin (nC M c cs) unit):=zl
def uN:Goroutine:=aW Pg true 3 (fin (nC M c cs) unit)
theorem MC:bg Pg true (uN M c cs):=⟨λw=>zk,zk,zk⟩
theorem Y0(r:Nat):feed Pg (bG (uN M c cs)) [.ref r]=some ([.nw (.cells #[.int .u64 0,.int .u32 0] 206)],.inl (.value (ptr r))):=zk
def vz:Goroutine:=fin (uN M c cs) (ptr M.wg)
end
def Rh(_:Mn)(n i:Int)(xs:Nat->ag):Nat->Value:=upd (upd xs 18 (.i n)) 19 (.i i)
def pW(g:ai):Nat->Value:=λi=>g.frame.tmps.getD i undef
section
variable (M:Mn) (xs:Nat->ag) (cs:List al)
def jH(n i:Int):Goroutine:=gM M 5 0 (Rh M n i xs) cs
def ya(n i:Int):Frame:=(aW Pg true 9 (jH M xs cs n i)).frame
def lW(n i:Int):Goroutine:=aW Pg true 3 (pz (ya M xs cs n i) cs)
def tH{n:Nat}{g g':ai}(h:bJ Pg true n g)(e:aW Pg true n g=g'):bh Pg true n g g':=e▸h.bu
theorem uE{n i:Nat}(h:(n=1\/n=4)/\i<n):(n=1/\i=0)\/(n=4/\i=0)\/(n=4/\i=1)\/(n=4/\i=2)\/(n=4/\i=3):=zo
variable {n i:Nat}
theorem RF(h:(n=1\/n=4)/\i<n):bh Pg true 10 (jH M xs cs n i) (zY (ya M xs cs n i) cs M.wg):=by
 rcases uE h with⟨rfl,rfl⟩|⟨rfl,rfl⟩|⟨rfl,rfl⟩|⟨rfl,rfl⟩|⟨rfl,rfl⟩<;>exact tH (λw=>zk) zk
theorem Mp(h:(n=1\/n=4)/\i<n):bh Pg true 3 (pz (ya M xs cs n i) cs) (lW M xs cs n i):=by
 rcases uE h with⟨rfl,rfl⟩|⟨rfl,rfl⟩|⟨rfl,rfl⟩|⟨rfl,rfl⟩|⟨rfl,rfl⟩<;>exact tH (λw=>zk) rfl
theorem Pe(h:(n=1\/n=4)/\i<n)(w:af):stepG Pg true (lW M xs cs n i) w=.spawn (fin (lW M xs cs n i) unit) (pQ M.toPl) w #[]:=by
 rcases uE h with⟨rfl,rfl⟩|⟨rfl,rfl⟩|⟨rfl,rfl⟩|⟨rfl,rfl⟩|⟨rfl,rfl⟩<;>kernel_rfl
theorem QL(h:(n=1\/n=4)/\i<n):(lW M xs cs n i).status=.running:=by
 rcases uE h with⟨rfl,rfl⟩|⟨rfl,rfl⟩|⟨rfl,rfl⟩|⟨rfl,rfl⟩|⟨rfl,rfl⟩<;>kernel_rfl
theorem UE(h:(n=1\/n=4)/\i<n): ∃a,bh Pg true 9 (fin (lW M xs cs n i) unit) (jH M a cs n ((i+1:Nat):Int)):=by
 refine⟨pW (aW Pg true 9 (fin (lW M xs cs n i) unit)),?_⟩;rcases uE h with⟨rfl,rfl⟩|⟨rfl,rfl⟩|⟨rfl,rfl⟩|⟨rfl,rfl⟩|⟨rfl,rfl⟩<;>exact tH (λw=>zk) zk
end
end
section
open Go.Conc
open Go.ConcN (upd)
section
variable (c:al) (cs:List al) (wg:Nat) (xs:Nat->ag)
theorem XH:bJ Pg true 10 (fin (fin (oe c cs wg xs) (ptr wg)) unit):=zl
theorem Pn:aW Pg true 10 (fin (fin (oe c cs wg xs) (ptr wg)) unit)=pz c cs:=zk
end
section
variable (M:Mn) (xs:Nat->ag) (cs:List al) (j:Int)
def Ik(M:Mn)(j:Int)(xs:Nat->ag):Nat->Value:=upd (upd xs 24 (.i M.count)) 25 (.i j)
def oY:Goroutine:=gM M 10 0 (Ik M j xs) cs
theorem WO:bJ Pg true 15 (jH M xs cs 1 1):=zl
theorem Yj:bJ Pg true 15 (jH M xs cs 4 4):=zl
theorem Xy:aW Pg true 15 (jH M xs cs 1 1)=oY M (pW (aW Pg true 15 (jH M xs cs 1 1))) cs 0:=zk
theorem Wn:aW Pg true 15 (jH M xs cs 4 4)=oY M (pW (aW Pg true 15 (jH M xs cs 4 4))) cs 0:=zk
def um(b:Bool):Goroutine:=gM M 10 1 (upd (Ik M j xs) 26 (.bool b)) cs
theorem Nz:bJ Pg true 1 (oY M xs cs j):=zl
theorem QE:aW Pg true 1 (oY M xs cs j)=um M xs cs j (decide (j<M.count)):=zk
theorem Qu:bJ Pg true 12 (um M xs cs j true):=zl
def pV:Goroutine:=aW Pg true 12 (um M xs cs j true)
theorem FI:bg Pg true (pV M xs cs j):=⟨λw=>zk,zk,zk⟩
theorem NY(v:ag):feed Pg (bG (pV M xs cs j)) [.val v]=some ([.ld .plain (.a M.bN 0)],.inl (.value v)):=zk
theorem UB:(pV M xs cs j).frame.fn=95:=zk
theorem Yr:bJ Pg true 3 (fin (pV M xs cs j) (.chan (some M.cN))):=zl
def jY:Goroutine:=aW Pg true 3 (fin (pV M xs cs j) (.chan (some M.cN)))
theorem Ha:bg Pg true (jY M xs cs j):=⟨λw=>zk,zk,zk⟩
def xF(M:Mn)(j:Int):Array CommCase:=#[{chan:=.chan (some M.cN),send:=.i (IntKind.i64.wrap (M.first+j)),zero:=.tuple #[]}]
theorem Lv:feed Pg (bG (jY M xs cs j)) []=some ([],.inl (.comm (xF M j) true .send)):=zk
def py:Goroutine:=(jY M xs cs j).finishComm Pg (xF M j) .send 0 undef false
theorem Yh:bJ Pg true 9 (py M xs cs j):=zl
theorem SU:aW Pg true 9 (py M xs cs j)=oY M (pW (aW Pg true 9 (py M xs cs j))) cs (IntKind.i64.wrap (j+1)):=zk
theorem XP:bJ Pg true 6 (um M xs cs j false):=zl
def rD:Goroutine:=aW Pg true 6 (um M xs cs j false)
theorem Kp:bg Pg true (rD M xs cs j):=⟨λw=>zk,zk,zk⟩
theorem PJ(v:ag):feed Pg (bG (rD M xs cs j)) [.val v]=some ([.ld .plain (.a M.bN 0)],.inl (.value v)):=zk
theorem Vb:(rD M xs cs j).frame.fn=95:=zk
def kz:Goroutine:=fin (rD M xs cs j) (.chan (some M.cN))
theorem DR:bg Pg true (kz M xs cs j):=⟨λw=>zk,zk,zk⟩
theorem ZQ(a:Nat)(b:aa)(s r:Nat)(f:Bool):feed Pg (bG (kz M xs cs j)) [.obj (.chan a b false s r f)]=some ([.gt M.cN,.pt M.cN (.chan a b true s r f)],.inl (.value unit)):=zk
theorem Wy:(kz M xs cs j).frame.fn=95:=zk
theorem VA:mayWake Pg (kz M xs cs j)=true:=zk
theorem Uk:bJ Pg true 4 (fin (kz M xs cs j) unit):=zl
def Aa:Frame:=(aW Pg true 3 (fin (kz M xs cs j) unit)).frame
theorem Q7:aW Pg true 4 (fin (kz M xs cs j) unit)=zn (Aa M xs cs j) cs M.wg:=zk
theorem wW(b:Nat):seen Pg 95 #[⟨.cell (.a b 0),false,false⟩]=#[⟨.cell (.a b 0),false,false⟩]:=zk
theorem Bm(a:Addr):seen Pg 95 #[⟨.cell a,true,false⟩]=#[⟨.cell a,true,false⟩]:=zk
theorem Jl(r:Nat):seen Pg 95 #[⟨.obj r,false,true⟩,⟨.obj r,true,true⟩]=#[⟨.obj r,false,true⟩,⟨.obj r,true,true⟩]:=zk
theorem Xm(a b:Addr):seen Pg 95 #[⟨.cell a,true,false⟩,⟨.cell b,true,false⟩]=#[⟨.cell a,true,false⟩,⟨.cell b,true,false⟩]:=zk
theorem GK(a:Addr):seen Pg 95 #[⟨.cell a,false,false⟩]=#[⟨.cell a,false,false⟩]:=zk
end
end
section
open Go.Conc
open Go.ConcN (upd)
section
variable (M:Mn) (xs:Nat->ag) (cs:List al) (j:Int)
def mB:Goroutine:=pz (Aa M xs cs j) cs
theorem G5:bJ Pg true 3 (mB M xs cs j):=zl
def pf:Goroutine:=aW Pg true 3 (mB M xs cs j)
theorem Hv:bg Pg true (pf M xs cs j):=⟨λw=>zk,zk,zk⟩
theorem NA(v:ag):feed Pg (bG (pf M xs cs j)) [.val v]=some ([.ld .plain (.a M.bB 0)],.inl (.value v)):=zk
theorem MT:(pf M xs cs j).frame.fn=95:=zk
def ou:Goroutine:=fin (pf M xs cs j) (.chan (some M.cB))
theorem Om:bg Pg true (ou M xs cs j):=⟨λw=>zk,zk,zk⟩
theorem LY(a:Nat)(b:aa)(s r:Nat)(f:Bool):feed Pg (bG (ou M xs cs j)) [.obj (.chan a b false s r f)]=some ([.gt M.cB,.pt M.cB (.chan a b true s r f)],.inl (.value unit)):=zk
theorem QA:(ou M xs cs j).frame.fn=95:=zk
theorem Ym:bJ Pg true 4 (fin (ou M xs cs j) unit):=zl
def o9:Goroutine:=aW Pg true 4 (fin (ou M xs cs j) unit)
theorem Pq:bg Pg true (o9 M xs cs j):=⟨λw=>zk,zk,zk⟩
end
section
variable (M:Mn) (xs:Nat->ag) (cs:List al) (j:Int) (d n:Nat)
def lE(d n:Nat):Value:=.l d n n
theorem Ng:bJ Pg true 5 (fin (o9 M xs cs j) (lE d n)):=zl
def oh:Goroutine:=aW Pg true 5 (fin (o9 M xs cs j) (lE d n))
theorem S6:bg Pg true (oh M xs cs j d n):=⟨λw=>zk,zk,zk⟩
theorem Q9(v:ag):feed Pg (bG (oh M xs cs j d n)) [.val v]=some ([.ld .plain (.a M.bB 0)],.inl (.value v)):=zk
theorem Vu:(oh M xs cs j d n).frame.fn=95:=zk
theorem M4:bJ Pg true 5 (fin (oh M xs cs j d n) (.chan (some M.cB))):=zl
def Pd(M:Mn)(d n:Nat)(xs:Nat->ag):Nat->Value:=upd (upd xs 38 (.chan (some M.cB))) 11 (lE d n)
def ij:Goroutine:=gM M 19 0 (Pd M d n xs) cs
theorem LZ:aW Pg true 5 (fin (oh M xs cs j d n) (.chan (some M.cB)))=ij M (pW (aW Pg true 5 (fin (oh M xs cs j d n) (.chan (some M.cB))))) cs d n:=zk
theorem wM:bg Pg true (ij M xs cs d n):=⟨λw=>zk,zk,zk⟩
def zF:Value:=.agg #[.i 0,.int .u64 0]
def A1(M:Mn):Array CommCase:=#[{chan:=.chan (some M.cB),send:=none,zero:=zF}]
theorem Es:feed Pg (bG (ij M xs cs d n)) []=some ([],.inl (.comm (A1 M) true (.recv true))):=zk
def wC(s e:Int):Goroutine:=(ij M xs cs d n).finishComm Pg (A1 M) (.recv true) 0 (.agg #[.i s,.int .u64 e]) true
variable (s e:Int) (r:Nat)
theorem Yu:bJ Pg true 9 (wC M xs cs d n s e):=zl
def ux:Goroutine:=aW Pg true 9 (wC M xs cs d n s e)
theorem Nc:bg Pg true (ux M xs cs d n s e):=⟨λw=>zk,zk,zk⟩
theorem ZO:feed Pg (bG (ux M xs cs d n s e)) [.ref r]=some ([.nw (.cells #[.i 0,.int .u64 0] 209)],.inl (.value (ptr r))):=zk
def nT:Goroutine:=fin (ux M xs cs d n s e) (ptr r)
theorem V9:bg Pg true (nT M xs cs d n s e r):=⟨λw=>zk,zk,zk⟩
theorem YQ:feed Pg (bG (nT M xs cs d n s e r)) []=some ([.st .plain (.a r 0) (.i s),.st .plain (.a r 1) (.int .u64 e)],.inl .skip):=zk
theorem Q6:(nT M xs cs d n s e r).frame.fn=95:=zk
theorem Yz:bJ Pg true 4 (fin (nT M xs cs d n s e r) unit):=zl
def oz:Goroutine:=aW Pg true 4 (fin (nT M xs cs d n s e r) unit)
theorem Lj:bg Pg true (oz M xs cs d n s e r):=⟨λw=>zk,zk,zk⟩
theorem QB(v:ag):feed Pg (bG (oz M xs cs d n s e r)) [.val v]=some ([.ld .plain (.a r 0)],.inl (.value v)):=zk
theorem K2:(oz M xs cs d n s e r).frame.fn=95:=zk
theorem UX:bJ Pg true 3 (fin (oz M xs cs d n s e r) (.i s)):=zl
def rX:Goroutine:=aW Pg true 3 (fin (oz M xs cs d n s e r) (.i s))
theorem OY:bg Pg true (rX M xs cs d n s e r):=⟨λw=>zk,zk,zk⟩
theorem TE(v:ag):feed Pg (bG (rX M xs cs d n s e r)) [.val v]=some ([.ld .plain (.a r 1)],.inl (.value v)):=zk
theorem Qr:(rX M xs cs d n s e r).frame.fn=95:=zk
def sI:Goroutine:=fin (rX M xs cs d n s e r) (.int .u64 e)
theorem L9:bg Pg true (sI M xs cs d n s e r):=⟨λw=>zk,zk,zk⟩
theorem Lt:bG (sI M xs cs d n s e r)=(Instr.indexAt 158 (lE d n) (.i (IntKind.i64.wrap (s-M.first))) >>=λv=>pure (.value v)):=zk
variable (k:Nat)
def oq:Goroutine:=fin (sI M xs cs d n s e r) (.pointer (.a d k))
theorem Vj:bg Pg true (oq M xs cs d n s e r k):=⟨λw=>zk,zk,zk⟩
theorem Ui:feed Pg (bG (oq M xs cs d n s e r k)) []=some ([.st .plain (.a d k) (.int .u64 e)],.inl .skip):=zk
theorem PZ:(oq M xs cs d n s e r k).frame.fn=95:=zk
theorem TI:bJ Pg true 5 (fin (oq M xs cs d n s e r k) unit):=zl
theorem ZZ:aW Pg true 5 (fin (oq M xs cs d n s e r k) unit)=ij M (pW (aW Pg true 5 (fin (oq M xs cs d n s e r k) unit))) cs d n:=zk
end
section
variable (M:Mn) (xs:Nat->ag) (c:al) (cs:List al) (d n:Nat)
def mZ:Goroutine:=(ij M xs (c::cs) d n).finishComm Pg (A1 M) (.recv true) 0 zF false
theorem SY:bJ Pg true 12 (mZ M xs c cs d n):=zl
theorem Ri:aW Pg true 12 (mZ M xs c cs d n)= {frame:=c.finish (lE d n),callers:=cs,status:=.running,dying:=none}:=zk
end
end
section
open Go.Conc
open Go.ConcN (upd upd_same upd_ne sumTo sumTo_upd sumTo_congr RelBy)
section
variable {Λ:qS}{Sh live Wk:Nat->Prop}{B:Nat}{t u:Trace}
theorem TP.still(h:TP Λ Sh live Wk B t):∀(l:List MemOp),(∀op∈l,op.act.touch?=none)->(∀op∈l,op.act.low B)->TP Λ Sh live Wk B (t++l.toArray):=by
 intro l;induction l generalizing t with
 |nil=>grind
 |cons x l b=>
  intro f hl;have e:t++(x::l).toArray=(t++#[x])++l.toArray:=by apply Array.ext';simp
  rw[e];refine b (h.mute (k:=x.g) (λop a=>by simp at a;rw[a]) (λop a=>zg) (λop a=>zg)) (λop a=>f op (by simp[a])) (λop a=>hl op (by simp[a]))
theorem RelBy.still{a:Addr}{k r:Nat}(h:RelBy a t k r)(m:∀op∈u,op.act.touch?=none):RelBy a (t++u) k r:=by
 refine h.app λi hi _ b=>?_;obtain⟨x,f,_⟩:=b;obtain⟨op,g,l⟩:=touch_of f;grind
def sf(x:MemAct):Prop:=x≠.mark .disable/\x≠.mark .enable
theorem oQ(t:Trace)(g:Nat):∀(l:List MemOp),(∀op∈l,sf op.act)->Deaf (t++l.toArray) g=Deaf t g:=by
 intro l hl;rw[Deaf_append];have:∀(l:List MemOp) (d:Nat),(∀op∈l,sf op.act)->l.foldl (deafStep g) d=d:=by
  intro l;induction l with
  |nil=>intro d _;rfl
  |cons y l a=>
   intro d h;rw[acJ];have b:deafStep g d y=d:=by
    have:=h y zp;unfold deafStep;split
    .rename_i e;exact absurd e this.1
    .rename_i e;exact absurd e this.2
    .rfl
   grind
 exact this l _ hl
end
end
section
open Go.Conc
open Go.ConcN (upd upd_same upd_ne sumTo sumTo_upd sumTo_congr RelBy)
structure PC(L:aR) where
 E:Entry L
 M:Mn
 c:al
 cs:List al
 n0:Nat
 nW:Nat
 a:Nat->Int
 Sh:Nat->Prop
 g0:Array ai
section
variable {L:aR}
def PC.p(X:PC L):Pl:=X.M.toPl
def PC.num(X:PC L)(i:Nat):Value:=.i (IntKind.i64.wrap (X.E.first+i))
def PC.iK(X:PC L)(i:Nat):Value:=.agg #[X.num i,.int .u64 (X.a i)]
structure bl(T:bw)(Goal:al->List al->af->Prop)(X:PC L):Prop where
 A:gh L T Goal
 K:jo L X.E
 pC:∀i,i<X.E.n->xu Goal X.E i (X.a i)
 first:X.M.first=X.E.first
 count:X.M.count=X.E.n
 ja:X.M.ja=X.E.y2
 nn:X.E.n=1\/X.E.n=4\/X.E.n=16\/X.E.n=64
 nw:(X.E.n=1/\X.nW=1)\/(X.E.n≠1/\X.nW=4)
 bT:X.M.bT=X.E.v0
 cN:X.M.cN=X.E.v0+1
 bN:X.M.bN=X.E.v0+2
 cB:X.M.cB=X.E.v0+3
 bB:X.M.bB=X.E.v0+4
 wg:X.M.wg=X.E.v0+5
 n0:0<X.n0
 sh:∀b,X.Sh b->b<X.E.v0
 E9:∀r s,X.E.ρ r s->¬X.Sh s
inductive Wk where
 |load (n:Nat)
 |recv (n:Nat) (xs:Nat->ag)
 |eB (xs:Nat->ag)
 |woken (xs:Nat->ag)
 |draw (n i:Nat) (xs:Nat->ag)
 |ops (i:Nat) (l:List Nat) (xs:Nat->ag)
 |text (i:Nat) (l:List Nat) (xs:Nat->ag) (s:kD)
 |lz (i:Nat) (l:List Nat) (xs:Nat->ag) (s:kD)
 |conv (n:Nat) (xs:Nat->ag)
 |rz (xs:Nat->ag)
 |fC (n:Nat) (xs:Nat->ag)
 |add (n:Nat) (xs:Nat->ag)
 |iI (n:Nat) (xs:Nat->ag)
 |ft (n:Nat) (xs:Nat->ag)
 |iu (n:Nat) (xs:Nat->ag)
 |quit (q:Nat)
def Wk.aI:Wk->Nat
 |.load _=>10|.recv .. =>9|.woken _=>9|.eB _=>8|.conv .. =>7|.rz _=>6|.fC .. =>5|.add .. =>4|.iI .. =>3|.ft .. =>2|.iu .. =>1|.quit _=>0
 |.draw .. =>60
 |.ops _ l _=>21+2*l.length
 |.text _ l _ _=>22+2*l.length
 |.lz _ l _ _=>22+2*l.length
def Wk.idle:Wk->Nat
 |.load n=>n|.recv n _=>n|.draw n _ _=>n|.conv n _=>n|.fC n _=>n|.add n _=>n|.iI n _=>n|.ft n _=>n|.iu n _=>n|.quit q=>q
 |_=>0
def Wk.tree:Wk->Option kD
 |.text _ _ _ s=>some s
 |.lz _ _ _ s=>some s
 |_=>none
def Wk.cnt:Wk->Nat
 |.iI .. |.ft .. |.iu .. |.quit _=>0
 |_=>1
def Wk.dr:Wk->Option Nat
 |.draw _ i _=>some i
 |.ops i _ _=>some i
 |.text i _ _ _=>some i
 |.lz i _ _ _=>some i
 |_=>none
def Wk.parked:Wk->Bool
 |.eB _=>true
 |_=>false
def Wk.rel:Wk->Bool
 |.fC .. |.add .. |.iI .. |.ft .. |.iu .. |.quit _=>true
 |_=>false
structure yk(Goal:al->List al->af->Prop)(X:PC L)(i:Nat)(l:List Nat)(xs:Nat->ag):Prop where
 kh:kh l=true
 lt:i<X.E.n
 x4:xs 4=X.num i
 d0:l.contains 0=false->xs 9=.chan (some X.M.cB)
 d1:l.contains 1=false->xs 10=X.num i
 d2:l.contains 2=false->xs 11=X.E.y2
 d3:l.contains 3=false->xs 12=X.num i
 d4:l.contains 4=false->l.contains 5=true->∃t,xs 13=.s t/\zU Goal X.E (X.a i) t
 d5:l.contains 5=false->xs 14=.int .u64 (X.a i)
 d6:l.contains 6=false->xs 15=X.iK i
def below(X:PC L)(xs:Nat->ag)(l:List Nat):List Frame:=(bO X.p xs l).frame::(bO X.p xs l).callers
def kg(X:PC L)(xs:Nat->ag):Goroutine:=parked (iV X.p xs) (ue X.p) (.recv true)
def iQ(T:bw)(Goal:al->List al->af->Prop)(X:PC L)(ow:Nat->Prop)(d:Nat)(g:ai)(v:af):Wk->Prop
 |.load n=>bh Pg false n g (sY X.p)/\d=0
 |.recv n xs=>bh Pg false n g (iV X.p xs)/\d=0
 |.eB xs=>g=kg X xs/\d=0
 |.woken xs=>g= {kg X xs with status:=.running}/\d=0
 |.draw n i xs=>bh Pg false n g (rR X.p xs)/\d=0/\i<X.E.n/\xs 4=X.num i
 |.ops i l xs=>g=bO X.p xs l/\d=0/\l≠[]/\yk Goal X i l xs
 |.text i l xs s=>d=0/\yk Goal X i (4::l) xs/\∃Y,Y 7=.int .u64 (X.a i)/\iF L T Goal X.E (qF X.E 5 0 Y) (below X xs (4::l)) ow s g v
 |.lz i l xs s=>d=0/\yk Goal X i (5::l) xs/\∃Y,Y 7=.int .u64 (X.a i)/\iF L T Goal X.E (qF X.E 5 2 Y) (below X xs (5::l)) ow s g v
 |.conv n xs=>bh Pg false n g (wo (cD X.p xs::ic X.p xs) X.M.wg)/\d=0
 |.rz xs=>g=rI (cD X.p xs::ic X.p xs) X.M.wg/\d=0
 |.fC n xs=>bh Pg false n g (qO (cD X.p xs::ic X.p xs) X.M.wg)/\d=0
 |.add n xs=>bh Pg false n g (sq (cD X.p xs::ic X.p xs) X.M.wg)/\d=1
 |.iI n xs=>bh Pg false n g (sV (cD X.p xs) (ic X.p xs) X.M.wg)/\d=1
 |.ft n xs=>bh Pg false n g (sj (cD X.p xs) (ic X.p xs) X.M.wg)/\d=1
 |.iu n xs=>bh Pg false n g (px (cD X.p xs) (ic X.p xs) X.M.wg)/\d=1
 |.quit q=>QuitsD Pg q d g
inductive Mt where
 |fC (i n:Nat) (xs:Nat->ag)|add (i n:Nat) (xs:Nat->ag)|cv (i n:Nat) (xs:Nat->ag)|rd (i:Nat) (xs:Nat->ag)|en1 (i n:Nat) (xs:Nat->ag)|en (i n k:Nat) (xs:Nat->ag)|go (i n:Nat) (xs:Nat->ag)
 |ld (j n:Nat) (xs:Nat->ag)|sd (j n:Nat) (xs:Nat->ag)|lc (n:Nat) (xs:Nat->ag)|cl (xs:Nat->ag)
 |wd (n:Nat) (xs:Nat->ag)|wl (n:Nat) (xs ys:Nat->ag)|zen (n:Nat) (xs ys:Nat->ag)|zc (n:Nat) (xs ys:Nat->ag)|za (xs ys:Nat->ag)
 |gV (k n:Nat) (xs ys:Nat->ag)|hcv (k n:Nat) (xs ys:Nat->ag)|hwr (k:Nat) (xs ys:Nat->ag)|fG (n:Nat) (xs ys:Nat->ag)|blk (xs ys:Nat->ag)
 |l2 (n:Nat) (xs ys:Nat->ag)|en2 (n:Nat) (xs ys:Nat->ag)|ac (n:Nat) (xs ys:Nat->ag)|aq (xs ys:Nat->ag)|fin (n:Nat) (xs:Nat->ag)
def bM:Nat:=4294967296
def Mt.aI(c:Nat):Mt->Nat
 |.fC i _ _=>2060+100*(4-i)|.add i _ _=>2050+100*(4-i)|.cv i _ _=>2045+100*(4-i)|.rd i _=>2044+100*(4-i)|.en1 i _ _=>2040+100*(4-i)|.en i _ _ _=>2040+100*(4-i)|.go i _ _=>2030+100*(4-i)
 |.ld j _ _=>202+3*(64-j)|.sd j _ _=>201+3*(64-j)|.lc .. =>190|.cl _=>180|.wd .. =>160|.wl .. =>140|.gV k _ _ _=>if k=c then 130 else 141
 |.zen .. =>120|.zc .. =>119|.za .. =>118|.hcv .. =>129|.hwr .. =>128|.fG .. =>127|.blk .. =>127|.l2 .. =>126|.en2 .. =>125|.ac .. =>124|.aq .. =>123|.fin .. =>0
def Mt.idle:Mt->Nat
 |.fC _ n _=>n|.add _ n _=>n|.cv _ n _=>n|.en1 _ n _=>n|.en _ n _ _=>n|.go _ n _=>n|.ld _ n _=>n|.sd _ n _=>n|.lc n _=>n|.wd n _=>n|.wl n _ _=>n|.zen n _ _=>n|.zc n _ _=>n
 |.gV _ n _ _=>n|.hcv _ n _ _=>n|.fG n _ _=>n+1|.l2 n _ _=>n|.en2 n _ _=>n|.ac n _ _=>n|.fin n _=>n
 |_=>0
def Mt.dh(X:PC L):Mt->Nat
 |.fC .. |.add .. |.cv .. |.rd .. |.en1 .. |.en .. |.go .. =>0
 |.ld j _ _=>j
 |.sd j _ _=>j
 |_=>X.E.n
def Mt.on(X:PC L):Mt->Nat
 |.fC i _ _=>i|.add i _ _=>i|.cv i _ _=>i|.rd i _=>i|.en1 i _ _=>i|.en i _ _ _=>i|.go i _ _=>i
 |_=>X.nW
def Mt.shut:Mt->Bool
 |.fC .. |.add .. |.cv .. |.rd .. |.en1 .. |.en .. |.go .. |.ld .. |.sd .. |.lc .. |.cl _=>false
 |_=>true
def Mt.gm:Mt->Nat
 |.cv .. |.rd .. |.en1 .. |.en .. |.go .. =>1
 |_=>0
def Mt.deaf:Mt->Nat
 |.add .. |.cv .. |.rd .. |.en1 .. |.en .. |.wl .. |.zen .. |.gV .. |.hcv .. |.hwr .. |.fG .. |.blk .. |.l2 .. |.en2 .. =>1
 |_=>0
def PC.ds(X:PC L):List Frame:=X.c::X.cs
def PC.mc(X:PC L)(i:Nat)(xs:Nat->ag):Frame:=ya X.M xs X.ds X.nW i
def PC.wc(X:PC L)(xs:Nat->ag):Frame:=Aa X.M xs X.ds X.E.n
def cZ(X:PC L)(h:ai):Mt->Prop
 |.fC i n xs=>bh Pg true n h (oK (X.mc i xs) X.ds X.M.wg)/\i<X.nW
 |.add i n xs=>bh Pg true n h (tj (X.mc i xs) X.ds X.M.wg)/\i<X.nW
 |.cv i n xs=>bh Pg true n h (oa (X.mc i xs) X.ds X.M.wg)/\i<X.nW
 |.rd i xs=>h=fin (oa (X.mc i xs) X.ds X.M.wg) (mX X.M.wg)/\i<X.nW
 |.en1 i n xs=>bh Pg true n h (uA (X.mc i xs) X.ds X.M.wg)/\i<X.nW
 |.en i n k xs=>bh Pg true n h (tX (X.mc i xs) X.ds X.M.wg (k*bM:Nat))/\i<X.nW/\2<=k/\k<=4
 |.go i n xs=>bh Pg true n h (lW X.M xs X.ds X.nW i)/\i<X.nW
 |.ld j n xs=>bh Pg true n h (pV X.M xs X.ds j)/\j<X.E.n
 |.sd j n xs=>bh Pg true n h (jY X.M xs X.ds j)/\j<X.E.n
 |.lc n xs=>bh Pg true n h (rD X.M xs X.ds X.E.n)
 |.cl xs=>h=kz X.M xs X.ds X.E.n
 |.wd n xs=>bh Pg true n h (oI (X.wc xs) X.ds X.M.wg)
 |.wl n xs ys=>bh Pg true n h (rY (X.wc xs) X.ds X.M.wg ys)
 |.zen n xs ys=>bh Pg true n h (tf (X.wc xs) X.ds X.M.wg ys)
 |.zc n xs ys=>bh Pg true n h (nO (X.wc xs) X.ds X.M.wg ys)
 |.za xs ys=>h=fin (nO (X.wc xs) X.ds X.M.wg ys) (ptr X.M.wg)
 |.gV k n xs ys=>bh Pg true n h (ry (X.wc xs) X.ds X.M.wg ys (k*bM:Nat))/\1<=k/\k<=4
 |.hcv k n xs ys=>bh Pg true n h (xR (X.wc xs) X.ds X.M.wg ys (k*bM:Nat))/\1<=k/\k<=4
 |.hwr k xs ys=>h=tC (X.wc xs) X.ds X.M.wg ys (k*bM:Nat)/\1<=k/\k<=4
 |.fG n xs ys=>bh Pg true n h (lI (X.wc xs) X.ds X.M.wg ys)
 |.blk xs ys=>h= {lI (X.wc xs) X.ds X.M.wg ys with status:=.blocked}
 |.l2 n xs ys=>bh Pg true n h (tE (X.wc xs) X.ds X.M.wg ys)
 |.en2 n xs ys=>bh Pg true n h (tA (X.wc xs) X.ds X.M.wg ys)
 |.ac n xs ys=>bh Pg true n h (oe (X.wc xs) X.ds X.M.wg ys)
 |.aq xs ys=>h=fin (oe (X.wc xs) X.ds X.M.wg ys) (ptr X.M.wg)
 |.fin n xs=>bh Pg true n h (pf X.M xs X.ds X.E.n)
structure PS where
 mt:Mt
 j:Nat
 ws:Nat->Wk
 ow:Nat->Nat->Prop
 q:Nat->Nat
 dW:List Nat
 rN:Nat
 fA:List Nat
 st:Nat
 sm:Nat
def PS.c(s:PS):Nat:=sumTo s.j λk=>(s.ws k).cnt
def PS.phi(X:PC L)(s:PS):Nat:=s.mt.aI s.c+sumTo s.j (λk=>(s.ws k).aI)+12*s.c+60*(X.E.n-s.rN)
def PS.lB(s:PS):Nat->Option kD:=λk=>if k<s.j then (s.ws k).tree else none
def PS.yl(X:PC L)(s:PS):Nat:=s.mt.idle+2*sumTo s.j (λk=>(s.ws k).idle)+2*sumTo X.n0 s.q
structure Gs(T:bw)(Goal:al->List al->af->Prop)(X:PC L)(s:PS)(gs:Array ai)(v:af)(t:Trace):Prop where
 size:gs.size=X.n0+s.j
 main: ∃h,gs[0]?=some h/\cZ X h s.mt
 work:∀k,k<s.j->∃g,gs[X.n0+k]?=some g/\iQ T Goal X (s.ow k) (Deaf t (X.n0+k)) g v (s.ws k)
 lN:∀i g,0<i->i<X.n0->gs[i]?=some g->QuitsD Pg (s.q i) (Deaf t i) g
 above:∀i,gs.size<=i->Deaf t i=0
structure Wd(X:PC L)(s:PS)(v:af):Prop where
 old:tS X.E v
 size:X.M.wg<v
 bT:v.heap[X.M.bT]?=.c #[X.M.ja] 98
 bN:v.heap[X.M.bN]?=.c #[.chan (some X.M.cN)] 197
 bB:v.heap[X.M.bB]?=.c #[.chan (some X.M.cB)] 198
 cN:v.heap[X.M.cN]?=some (.chan X.E.n (s.dW.map X.num).toArray s.mt.shut (s.mt.dh X) s.rN false)
 cB: ∃sB,v.heap[X.M.cB]?=some (.chan X.E.n (s.fA.map X.iK).toArray false sB 0 false)
 wg:v.heap[X.M.wg]?=.c #[.int .u64 s.st,.int .u32 s.sm] 206
 tape:v.tape=X.E.v0.tape
 os:v.os=X.E.v0.os
 output:v.output=X.E.v0.output
structure Ac(X:PC L)(s:PS):Prop where
 on:s.j=s.mt.on X
 dh:s.mt.dh X<=X.E.n
 nf:s.rN+s.dW.length=s.mt.dh X
 cover:∀i,i<s.mt.dh X->i∈s.dW\/i∈s.fA\/∃k,k<s.j/\(s.ws k).dr=some i
 count:s.dW.length+sumTo s.j (λk=>if (s.ws k).dr.isSome then 1 else 0)+s.fA.length<=s.mt.dh X
 gC:∀i∈s.dW,i<X.E.n
 okB:∀i∈s.fA,i<X.E.n
 eB:∀k,k<s.j->(s.ws k).parked=true->s.dW= []/\s.mt.shut=false
 gone:∀k,k<s.j->(s.ws k).aI<=7->s.mt.shut=true/\s.dW= []
def lV:Mt->Bool
 |.gV .. |.wl .. |.wd .. |.lc .. |.cl _|.ld .. |.sd .. |.fC .. |.add .. |.cv .. |.rd .. |.en1 .. |.en .. |.go .. =>true
 |_=>false
def kH:Mt->Bool
 |.hcv .. |.hwr .. |.fG .. |.blk .. =>true
 |_=>false
def oG:Mt->Bool
 |.blk .. =>true
 |_=>false
def rK(s:PS):Prop:=∀k,k<s.j->(s.ws k).aI=0\/4<=(s.ws k).aI
def sQ(s:PS):Prop:=∀k,k<s.j->(s.ws k).aI=0
inductive Wg (s:PS):Prop
 |opn:lV s.mt=true->rK s->s.st=(s.c+s.mt.gm)*bM->s.sm=0->(∀k n xs ys,s.mt=.gV k n xs ys->s.c<=k)->Wg s
 |eX:kH s.mt=true->rK s->1<=s.c->s.st=s.c*bM+1->s.sm=0->Wg s
 |last (k:Nat):kH s.mt=true->k<s.j->1<=(s.ws k).aI->(s.ws k).aI<=3->(∀i,i<s.j->i≠k->(s.ws i).aI=0)->s.st=(if (s.ws k).aI=1 then 0 else 1)->s.sm=0->Wg s
 |gZ:kH s.mt=true->oG s.mt=false->sQ s->s.st=0->s.sm=1->Wg s
 |done:lV s.mt=false->kH s.mt=false->sQ s->s.st=0->s.sm=0->Wg s
def jF(X:PC L)(s:PS):qS where
 ro b:=(b<X.E.v0/\¬X.Sh b)\/b=X.M.bT\/b=X.M.bN\/b=X.M.bB
 ow k b:=∃i,i<s.j/\k=X.n0+i/\s.ow i b
 qu b:=b=X.M.wg\/b=X.M.cN\/b=X.M.cB
def gS(X:PC L)(s:PS)(k:Nat):Prop:=X.n0<=k/\k<X.n0+s.j
abbrev cO(X:PC L):Addr:=(.a X.M.wg 0)
structure Tr(X:PC L)(s:PS)(v:af)(t:Trace):Prop where
 tp:TP (jF X s) X.Sh (λk=>k=0\/gS X s k) (gS X s) v t
 own:∀i b,i<s.j->s.ow i b->X.M.wg<b/\b<v
 apart:∀i i' b,i<s.j->i'<s.j->s.ow i b->s.ow i' b->i=i'
 rel:∀k,k<s.j->(s.ws k).rel=true->∃r,RelBy (cO X) t (X.n0+k) r
 norel:NoRelease (cO X) t
 d0:Deaf t 0=s.mt.deaf
 acq:∀n xs,s.mt=.fin n xs->∃q,t.act? q=some (.mark (.acquire (cO X)))/\t.g? q=some 0/\t.heard q/\∀k,k<s.j->∃r,RelBy (cO X) t (X.n0+k) r/\r<q
structure PI(T:bw)(Goal:al->List al->af->Prop)(X:PC L)(s:PS)(gs:Array ai)(v:af)(t:Trace):Prop where
 gs:Gs T Goal X s gs v t
 wd:Wd X s v
 ac:Ac X s
 wg:Wg s
 tr:Tr X s v t
end
end
end Go.Proofs.YtldmcdeibiclkaaGreat.U
