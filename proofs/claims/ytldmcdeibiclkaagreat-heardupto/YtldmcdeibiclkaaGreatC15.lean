/-
  Toward all_holds
-/
import Derived.Test.YtldmcdeibiclkaaGreatC14
import Derived.Conc.LeavingOf
import Derived.Below
import Derived.Test.YtldmcdeibiclkaaGreatC06
import Derived.Shelf.SlGeneric
import Derived.Shelf.SlIter.Nil
import Derived.Shelf.SortM.Plain
import Derived.Shelf.SortM.SortNone
import Derived.Ground.GgzProg
import Derived.Ground.SlgmProg
import Derived.Calls
import Derived.Test.YtldmcdeibiclkaaGreatC01
import Derived.WalkKit
import Derived.WalkSpells
import Derived.WalkLawsBesides
import Derived.Deep.QuietTactic
import Derived.BigQuiet
import Derived.Deep.RegionHeld3
import Derived.Sort.Grow
import Derived.ChangeArms
import Derived.Conc.Beside
import Derived.Deep.AppendLies
import Derived.Laws.AppendOwn
import Derived.Laws.Entries
import Derived.Laws.Rows
import Derived.Laws.Sem
import Derived.Laws.World
import Derived.Lib.Strings
import Derived.OwnWalk
import Derived.RunT
import Derived.Tactics
import Derived.WalkSmall
import GoSem.Core.Machine
import GoSem.Machine.Report
set_option linter.all false
noncomputable section
set_option maxRecDepth 100000
set_option maxHeartbeats 20000000
namespace Go.Proofs
def AI:=@Go.Calls.mono
def By:=@Go.heap_alloc_new
def aaO:=@Go.RowKit.Below.heap_alloc
def aaP:=@Go.RowKit.Below.refl
def aaR:=@Go.RowKit.Below.drew
def aaS:=@Go.RowKit.Below.heap_setCell
def aaT:=@Go.World.news_of_block
def aaU:=@Go.RowKit.Below.alloc
def aaV:=@Go.World.ownsRow.alloc
def aaY:=@Go.info_parts
def abg:=@Go.below_drewN
def abh:=@Go.World.ownsRow_nil
def abl:=@Go.GStep.go.injEq
def abm:=@Go.RowKit.Below.setCell
def abn:=@Go.bodyPost_ret
def abp:=@Go.World.cell?_alloc_lt
def abq:=@Go.wpList_append_lies
def abz:=@Go.Conc.mem_ofEvents
def abH:=@Go.Sem.run_bind
def abP:=@Go.RowKit.ownsRow_setCell_below
def abW:=@Go.run_underlying
def abY:=@Go.Result.andThen_ok
def acC:=@Go.Lib.toList_data
def acI:=@Go.Goroutine.mk.injEq
def acS:=@Go.World.size_drew
def acT:=@Go.DataW.trod_int
def acY:=@Go.Sem.runT.eq_5
end Go.Proofs
namespace Go.Proofs.YtldmcdeibiclkaaGreat.U
variable {f:au}
section
open Go.Conc
theorem aaE{P:aj}{fr:al}(a:fr.kind=.normal)(h:P.inits.idxOf? fr.fn=none)(v:ag)(w:af):doReturn P true fr [] none v w=.ended (.done v) w:=by
 simp[doReturn,a,h]
def xz(J:String->ag)(K:List Nat)(W:af)(f:au)(Φ:ag->af->Prop)(y:ag)(W':af):Prop:=
 ∃x w1 τ',Φ x w1/\CR (dA J) τ' ((dA J).res f) x y/\nL (mj K W) τ' W W'/\∀r s,τ'.un r s->∃o q,w1.heap[r]?=some o/\W'.heap[s]?=some q/\KR (dA J) (CC Pg (dA J) ez) τ' r s o q
def pE(J:String->ag)(K:List Nat)(V W:af):Prop:=V.heap.size=W.heap.size/\∀b∈K,∃zs:Array (ag×ag),∃e g,V.heap[b]?=some (.cells (zs.map (·.1)) e g)/\W.heap[b]?=some (.cells (zs.map (·.2)) e g)/\∀z∈zs,FV J z.1 z.2
theorem pE.flat{J:String->ag}{K:List Nat}{V W:af}(h:pE J K V W):∀b∈K,Cz V b:=λb hb=>by
 obtain⟨zs,e,g,a,_,c⟩:=h.2 b hb;refine⟨_,e,g,a,λx d π=>?_⟩;obtain⟨z,i,rfl⟩:=acF.1 d;exact(c z i).self rfl
section
variable {K:List Nat}{V W:af}{J:String->ag}
theorem Xs(n:∀g,g<ez.ng->g∈K/\g<W)(c:pE J K V W)(o:(dA J).fn f)(p:f≠fQ)(d:∀i,(dA J).dC f i=.any){args:aa}(l:∀v∈args,qB K W v):
  kC Pg Gg (dA J) ez (λ_=>False) [] (mj K W) (Frame.enter Qg f args .normal) [] (bare K V) #[G (Frame.enter Pg f args .normal) []] W #[] (λ_=>0):=by
 refine⟨⟨_,rfl,⟨⟨?_,⟨rfl,rfl⟩,⟨rfl,rfl⟩,⟨rfl,rfl⟩,[],[],rfl,rfl,.nil _,rfl⟩,?_,?_,λr s h=>?_,λr s h=>?_⟩⟩,leavers_one _ _,?_,λr s _ h=>h,λs h=>h.elim⟩
 .refine jC.enter yA o (Gv d l) (λk j=>?_);have:(if f==fQ then some 3 else none)=some k:=j;grind
 .exact GC K W
 .exact KD n
 .obtain⟨rfl,_,b⟩:=mS.1 h;exact⟨by rw[uy,c.1];exact b,b⟩
 .obtain⟨rfl,j,b⟩:=mS.1 h;obtain⟨zs,e,g,q,u,x⟩:=c.2 r j;refine⟨_,_,by rw[q9 j];exact q,u,λ_=>.cells e g ⟨zs,rfl,rfl,λz y=>(x z y).vr rfl⟩,λh=>h.elim,λh=>h.elim⟩
 .have:=past_nil;exact⟨this.clean,λi a l=>by simp[touchAt,Trace.act?]at l,this.over,this.hears,λop m=>by simp at m⟩
theorem OT(h0:∀g,g<ez.ng->g∈K/\g<W)(j:pE J K V W)(hf:(dA J).fn f)(k:f≠fQ)(R:Pg.inits.idxOf? f=none)(l:∀i,(dA J).dC f i=.any){args:aa}(ha:∀v∈args,qB K W v){Φ:ag->af->Prop}(S:∀v w (t:Nat->Question->Nat),Φ v w->Φ v {w with tape:=t})(hc:∀t:Nat->Question->Nat,Calls Qg f args {bare K V with tape:=t} λe w'=>∃v,e=.r v/\Φ v w'):
  ∃M last o w' B,runNT Pg (M+1) (solo (G (Frame.enter Pg f args .normal) []) W) #[]=(.ended o w',B)/\runN Pg M (solo (G (Frame.enter Pg f args .normal) []) W)=.next last/\step Pg last=.ended o w'/\Go.Conc.Good Pg (xz J K W f Φ) last o w' B:=by
 have m:=MS (W:=V) (λg T=>by rw[j.1];exact h0 g T) j.flat (f:=f) hf l (λv hv=>(ha v hv).imp id λ⟨a,n,c,e,h1,h2⟩=>⟨a,n,c,e,h1,by rw[j.1];exact h2⟩) S hc;have T:∀fr cs w,AG Qg f Φ fr cs w->cs= []/\fr.fn≠fQ:=λfr cs w h=>⟨h.1,by rw[h.2.1];exact k⟩
 obtain⟨N,U,v',C,B,q',τ',D,ar,w1,X,hr,hb,p,b⟩:=(VD Dp (LS T []) m).1 _ W none _ _ _ _ (Xs h0 j hf k l ha);obtain⟨rfl,q,u,E,fn,x,F,⟨tp,H⟩,Y⟩:=p;obtain⟨h,Z,Q⟩:=hb.main;have z:Pg.funcs[D.fn]?=some fn:=by
  rw[q,<-BS k];exact F
 have I:Goes Pg true AtRel (λ_ _ _=>False) (AtEnd Pg (lJ X) v' (xz J K W f Φ)) 0 h v':=by
  rintro _ ⟨d,rfl⟩;obtain⟨y,fs,hy,ab,av,A,L,ad⟩:=(Q.at d).last Dp true (show D.fn≠ez.cA by rw[q];exact k) ⟨u,E,rfl⟩ z H;refine⟨Q.g.status.2,y,fs,?_,λe he=>FW (ab e he) ?_ ?_,x,w1,τ',Y,?_,?_,?_⟩
  .rw[ad];have an:=L.trans q;rw[aaE A (by rw[an];exact R)];simp[GStep.after]
  .rintro s ⟨r,hx⟩ ao;exact hb.apart r s hx ao
  .rintro s ⟨r,hx⟩;exact(Q.dq r s hx).2
  .grind
  .exact⟨b.grow,b.tape,b.os,b.output,b.ix,b.more,b.new⟩
  .exact Q.obj
 obtain⟨M,last,o,w',aq,e1,e2,e3,e4⟩:=beside_ends (P:=Pg) (sl:=C) (λw w' es h=>h.elim) Z hb.iP hb.o7 I;have O:runNT Pg N (solo (G (Frame.enter Pg f args .normal) []) W) #[]=(.next (crowd U v' C),B):=hr;refine⟨N+M,last,o,w',aq,?_,?_,e3,e4⟩
 .rw[show N+M+1=N+(M+1) by omega,runNT_add,O];exact e1
 .rw[<-runNT_fst _ _ _ #[],runNT_add,O];rw[<-runNT_fst _ _ _ B]at e2;exact e2
end
end
end Go.Proofs.YtldmcdeibiclkaaGreat.U
namespace Go.Proofs.YtldmcdeibiclkaaGreat.U
variable {J:String->ag}{W:af}
open Go.RowKit
section
open Go.Conc
def aQ(v:ag):Prop:=(∃k n,v=.int k n)\/∃s,v=.s s
theorem aQ.fv{v:ag}(h:aQ v):FV J v v:=by
 rcases h with⟨k,n,rfl⟩|⟨s,rfl⟩
 .exact .int k n
 .exact .string s
theorem Gb(c:aa)(held:Nat->Prop)(k:Nat)(o:∀i v,held i->c[i]?=some v->aQ v):
  ∃(zs:Array (ag×ag)) (ls:ae),zs.map (·.2)=c/\(∀J,Speaks J k ls->∀z∈zs,FV J z.1 z.2)/\∀i v,held i->c[i]?=some v->(zs.map (·.1))[i]?=some v:=by
 have key:∀(l:ae) (d k:Nat),(∀i v,held (d+i)->l[i]?=some v->aQ v)->∃(zs:List (ag×ag)) (ls:ae),zs.map (·.2)=l/\(∀J,Speaks J k ls->∀z∈zs,FV J z.1 z.2)/\∀i v,held (d+i)->l[i]?=some v->(zs.map (·.1))[i]?=some v:=by
  intro l;induction l with
  |nil=>simp_all
  |cons u l m=>
   intro d k hl;have j:∀i v,held (d+1+i)->l[i]?=some v->aQ v:=λi v b g=>hl (i+1) v zg (by simpa using g);by_cases p:held d
   .have q:=hl 0 u (by simpa using p) zp;obtain⟨zs,ls,e,b,g⟩:=m (d+1) k j;refine⟨(u,u)::zs,ls,by simp[e],λJ h z a=>?_,λi v hi hv=>?_⟩
    .rcases abk.1 a with rfl|a
     .exact q.fv
     .exact b J h z a
    grind
   .obtain⟨x,n,r⟩:=X9 _ u (Nat.lt_succ_self _) k;obtain⟨zs,ls,e,b,g⟩:=m (d+1) (k+n.length) j;refine⟨(x,u)::zs,n++ls,by simp[e],λJ h z a=>?_,λi v hi hv=>?_⟩
    .rcases abk.1 a with rfl|a
     .exact r J h.left
     .exact b J h.right z a
    grind
 obtain⟨zs,ls,e,b,g⟩:=key c.toList 0 k (λi v b g=>o i v (by simpa using b) (by simpa using g));refine⟨zs.toArray,ls,zg,λJ h z a=>b J h z (by simpa using a),λi v hi hv=>?_⟩;grind
theorem Ub{b0 bs:Nat}(held:Nat->Nat->Prop){c0 cb:aa}{g h:ak}{j fb:Nat×Nat}(c:W.heap[b0]?=some (.cells c0 g j))(hb:W.heap[bs]?=some (.cells cb h fb))(q:∀r i v,held r i->W.cell? (.a r i)=some v->aQ v):
  ∃J V,pE J [b0,bs] V W/\∀r,r∈[b0,bs]->∀i v,held r i->W.cell? (.a r i)=some v->V.cell? (.a r i)=some v:=by
 obtain⟨u,d,k,A,B⟩:=Gb c0 (held b0) 0 (λi v hi hv=>q b0 i v hi (by simp[World.cell?,c,hv]));obtain⟨x,lb,l,C,pb⟩:=Gb cb (held bs) d.length (λi v hi hv=>q bs i v hi (by simp[World.cell?,hb,hv]));have D:=(IN.1 c).1;have m:=(IN.1 hb).1;have y:Speaks (λs=>(d++lb).getD s.length (.i 0)) 0 (d++lb):=λi hi=>by simp[PH]
 refine⟨λs=>(d++lb).getD s.length (.i 0),{W with heap:=(W.heap.setIfInBounds b0 (.cells (u.map (·.1)) g j)).setIfInBounds bs (.cells (x.map (·.1)) h fb)},⟨zp,λb n=>?_⟩,λr E i v hi hv=>?_⟩
 .by_cases e:b=bs
  .subst e;refine⟨x,h,fb,by simp[m],by rw[hb,l],λz o=>C _ (by simpa using y.right) z o⟩
  .have p:b=b0:=by simpa[e] using n
   subst p;refine⟨u,g,j,?_,by rw[c,k],λz o=>A _ y.left z o⟩;grind
 .by_cases e:r=bs
  .subst e;simp only[World.cell?,hb]at hv
   have:=pb i v hi (by simpa using hv);simp only[World.cell?];grind
  .have p:r=b0:=by simpa[e] using E
   subst p;simp only[World.cell?,c]at hv
   have:=B i v hi (by simpa using hv);simp only[World.cell?];grind
theorem MV{K:List Nat}{V B:af}{f:au}{x0 y:ag}(d:pE J K V W)(i:(dA J).res f=.any)(C:∀π y,VR (dA J) π x0 y->y=x0)(h:xz J K W f (λx w1=>x=x0/\∀k,k<V.heap.size->w1.heap[k]?=(bare K V).heap[k]?) y B):y=x0/\Go.RowKit.Below W.heap.size W B:=by
 obtain⟨x,w1,τ',⟨rfl,n⟩,j,a,l⟩:=h;rw[i]at j;refine⟨C _ _ j,a.os,a.tape,a.output,a.grow,λk p=>?_⟩;by_cases b:k∈K
 .have D:(mj K W).all k k:=⟨rfl,b,p⟩
  have m:=a.more.all _ _ D;obtain⟨o,q,c,E,s⟩:=l k k (.inl m);rw[n k (by rw[d.1];exact p),q9 b]at c;obtain⟨zs,e,g,u,F,H⟩:=d.2 k b;rw[u]at c;cases c
  have:=s.all m;generalize c:Obj.cells (zs.map (·.1)) e g=o at this;cases this with
  |cells Q S v=>
   cases c;obtain⟨ys,I,L,M⟩:=v;rw[E,F,L];congr 2;exact zG (R:=VR (dA J) τ'.all) I.symm (λz N y A=>(H z N).one rfl y A) M
  |_=>cases c
 .exact a.ix k p λr O=>b (by
   obtain⟨e,u,_⟩:=mS.1 O;exact e▸u)
end
end Go.Proofs.YtldmcdeibiclkaaGreat.U
section
namespace Go.Proofs
variable {f:Nat}{fn:Func}
def aC.prog:Program:=Go.Proofs.YtldmcdeibiclkaaGreat.U.Qg
def aC.is:aC.prog=Go.Proofs.YtldmcdeibiclkaaGreat.U.gp Tryz.prog Go.Proofs.YtldmcdeibiclkaaGreat.U.Gg:=rfl
section
variable (P:aj) (G:Array Func) (t:ak) (w:af)
def aC.My:(Go.Proofs.YtldmcdeibiclkaaGreat.U.gp P G).depth=P.depth:=rfl
def aC.ZY:(Go.Proofs.YtldmcdeibiclkaaGreat.U.gp P G).underlying t=P.underlying t:=rfl
def aC.IV:(Go.Proofs.YtldmcdeibiclkaaGreat.U.gp P G).funcs=G:=rfl
def aC.Im:Sem.run P Go.program w=.ok P w:=rfl
theorem aC.Eo:Sem.run (Go.Proofs.YtldmcdeibiclkaaGreat.U.gp P G) (typeInfo t) w=Sem.run P (typeInfo t) w:=by
 simp only[typeInfo,abH,aC.Im,abY,Go.Proofs.YtldmcdeibiclkaaGreat.U.ED];cases P.info? t<;>rfl
theorem aC.IL:Sem.run (Go.Proofs.YtldmcdeibiclkaaGreat.U.gp P G) (underlying t) w=Sem.run P (underlying t) w:=by
 simp only[underlying,abH,aC.Im,abY,Go.Proofs.YtldmcdeibiclkaaGreat.U.Js];cases P.underlying t<;>rfl
theorem aC.Lu:Sem.run (Go.Proofs.YtldmcdeibiclkaaGreat.U.gp P G) (sizeOf t) w=Sem.run P (sizeOf t) w:=by
 simp only[sizeOf,abH,aC.Eo];cases Sem.run P (typeInfo t) w<;>rfl
theorem aC.UJ(P Q:aj)(w:af)(x:Unsupported):Sem.run P (unsupported x:Sem ag) w=Sem.run Q (unsupported x:Sem ag) w:=by unfold unsupported;rfl
theorem aC.U4:Sem.run (Go.Proofs.YtldmcdeibiclkaaGreat.U.gp P G) (zeroValue t) w=Sem.run P (zeroValue t) w:=by
 unfold zeroValue;rw[abH,abH,aC.Eo];congr 1;funext i w;cases i.zero with
 |some v=>simp only[Sem.run_pure]
 |none=>exact aC.UJ _ _ _ _
theorem aC.Og:Sem.run (Go.Proofs.YtldmcdeibiclkaaGreat.U.gp P G) (isAgg t) w=Sem.run P (isAgg t) w:=by
 unfold isAgg;rw[abH,abH,aC.IL];congr 1;funext i w;cases i<;>simp only[Sem.run_pure]
end
section
variable (t:ak) (w:af)
@[simp]theorem aC.fF:Sem.run aC.prog (sizeOf t) w=Sem.run Tryz.prog (sizeOf t) w:=by rw[aC.is];exact aC.Lu _ _ t w
@[simp]theorem aC.aaL:Sem.run aC.prog (underlying t) w=Sem.run Tryz.prog (underlying t) w:=by rw[aC.is];exact aC.IL _ _ t w
@[simp]theorem aC.fM:Sem.run aC.prog (isAgg t) w=Sem.run Tryz.prog (isAgg t) w:=by rw[aC.is];exact aC.Og _ _ t w
theorem aC.cJ:Sem.run aC.prog (zeroValue t) w=Sem.run Tryz.prog (zeroValue t) w:=by rw[aC.is];exact aC.U4 _ _ t w
@[simp]theorem aC.dn:aC.prog.underlying t=Tryz.prog.underlying t:=by rw[aC.is];exact aC.ZY _ _ t
@[simp]theorem aC.aaK(d:Nat):aC.prog.eqGuardType d t=Tryz.prog.eqGuardType d t:=by rw[aC.is];exact Go.Proofs.YtldmcdeibiclkaaGreat.U.xg _ _ d t
@[simp]theorem aC.aaM:aC.prog.depth=Tryz.prog.depth:=by rw[aC.is];exact aC.My _ _
end
theorem aC.ZR(h:f≠95):aC.prog.funcs[f]?=Tryz.prog.funcs[f]? :=by
 rw[aC.is,aC.IV,Go.Proofs.YtldmcdeibiclkaaGreat.U.Gg];rw[abA (Ne.symm h)]
theorem aC.UF{P:aj}{f:au}(h1:P.funcs[f]?=some fn)(a:(fn.name== "runtime.NumGoroutine")=false)(b:fn.body.isNone=false)(args:aa)(w:af):Sem.run P (callFunc f args) w=.ok (.enter f args) w:=by
 rw[<-Sem.runT_fst _ _ _ #[]];unfold callFunc;show(((Go.program).bind _).runT P w #[]).1=_;rw[Sem.runT_bind'];simp only[Go.program,Sem.runT,h1,a,b,abf,abd];rfl
def aC.aP(h:aC.prog.funcs[f]?=some fn)(h1:(fn.name== "runtime.NumGoroutine")=false)(a:fn.body.isNone=false)(args:aa)(w:af):Sem.run aC.prog (callFunc f args) w=.ok (.enter f args) w:=
 aC.UF h h1 a args w
def aC.aN{n:Nat}{x:Func}(h:Tryz.prog.funcs[n]?=some x)(a:n≠95):aC.prog.funcs[n]?=some x:=(aC.ZR a).trans h
namespace aC
def zzz{α β:Type}{f g h:α->β}(p:∀w,f w=g w)(q:∀w,g w=h w)(w:α):f w=h w:=(p w).trans (q w)
def underlying0:=(dn 0).trans Tryz.underlying0
def sizeOf0:=zzz (fF 0) Tryz.sizeOf0
def isAgg0:=zzz (fM 0) Tryz.isAgg0
def underlying3:=(dn 3).trans Tryz.underlying3
def sizeOf3:=zzz (fF 3) Tryz.sizeOf3
def isAgg3:=zzz (fM 3) Tryz.isAgg3
def underlying4:=(dn 4).trans Tryz.underlying4
def sizeOf4:=zzz (fF 4) Tryz.sizeOf4
def isAgg4:=zzz (fM 4) Tryz.isAgg4
def underlying5:=(dn 5).trans Tryz.underlying5
def sizeOf5:=zzz (fF 5) Tryz.sizeOf5
def isAgg5:=zzz (fM 5) Tryz.isAgg5
def underlying9:=(dn 9).trans Tryz.underlying9
def sizeOf9:=zzz (fF 9) Tryz.sizeOf9
def isAgg9:=zzz (fM 9) Tryz.isAgg9
def underlying26:=(dn 26).trans Tryz.underlying26
def underlying27:=(dn 27).trans Tryz.underlying27
def sizeOf27:=zzz (fF 27) Tryz.sizeOf27
def isAgg27:=zzz (fM 27) Tryz.isAgg27
def underlying28:=(dn 28).trans Tryz.underlying28
def underlying34:=(dn 34).trans Tryz.underlying34
def underlying43:=(dn 43).trans Tryz.underlying43
def underlying55:=(dn 55).trans Tryz.underlying55
def sizeOf55:=zzz (fF 55) Tryz.sizeOf55
def isAgg55:=zzz (fM 55) Tryz.isAgg55
def underlying63:=(dn 63).trans Tryz.underlying63
def sizeOf63:=zzz (fF 63) Tryz.sizeOf63
def isAgg63:=zzz (fM 63) Tryz.isAgg63
def underlying64:=(dn 64).trans Tryz.underlying64
def underlying67:=(dn 67).trans Tryz.underlying67
def underlying70:=(dn 70).trans Tryz.underlying70
def underlying71:=(dn 71).trans Tryz.underlying71
def sizeOf71:=zzz (fF 71) Tryz.sizeOf71
def isAgg71:=zzz (fM 71) Tryz.isAgg71
def underlying72:=(dn 72).trans Tryz.underlying72
def sizeOf72:=zzz (fF 72) Tryz.sizeOf72
def isAgg72:=zzz (fM 72) Tryz.isAgg72
def underlying88:=(dn 88).trans Tryz.underlying88
def underlying107:=(dn 107).trans Tryz.underlying107
def underlying108:=(dn 108).trans Tryz.underlying108
def sizeOf117:=zzz (fF 117) Tryz.sizeOf117
def isAgg117:=zzz (fM 117) Tryz.isAgg117
def underlying119:=(dn 119).trans Tryz.underlying119
def sizeOf119:=zzz (fF 119) Tryz.sizeOf119
def isAgg119:=zzz (fM 119) Tryz.isAgg119
def underlying124:=(dn 124).trans Tryz.underlying124
def sizeOf124:=zzz (fF 124) Tryz.sizeOf124
def isAgg124:=zzz (fM 124) Tryz.isAgg124
def underlying126:=(dn 126).trans Tryz.underlying126
def underlying140:=(dn 140).trans Tryz.underlying140
def underlying147:=(dn 147).trans Tryz.underlying147
def sizeOf147:=zzz (fF 147) Tryz.sizeOf147
def isAgg147:=zzz (fM 147) Tryz.isAgg147
def underlying149:=(dn 149).trans Tryz.underlying149
def sizeOf149:=zzz (fF 149) Tryz.sizeOf149
def isAgg149:=zzz (fM 149) Tryz.isAgg149
def underlying155:=(dn 155).trans Tryz.underlying155
def sizeOf155:=zzz (fF 155) Tryz.sizeOf155
def isAgg155:=zzz (fM 155) Tryz.isAgg155
def underlying156:=(dn 156).trans Tryz.underlying156
def sizeOf156:=zzz (fF 156) Tryz.sizeOf156
def isAgg156:=zzz (fM 156) Tryz.isAgg156
def underlying158:=(dn 158).trans Tryz.underlying158
def underlying165:=(dn 165).trans Tryz.underlying165
def underlying169:=(dn 169).trans Tryz.underlying169
def underlying180:=(dn 180).trans Tryz.underlying180
def underlying184:=(dn 184).trans Tryz.underlying184
def sizeOf184:=zzz (fF 184) Tryz.sizeOf184
def isAgg184:=zzz (fM 184) Tryz.isAgg184
def underlying185:=(dn 185).trans Tryz.underlying185
def sizeOf185:=zzz (fF 185) Tryz.sizeOf185
def isAgg185:=zzz (fM 185) Tryz.isAgg185
def underlying189:=(dn 189).trans Tryz.underlying189
def sizeOf189:=zzz (fF 189) Tryz.sizeOf189
def isAgg189:=zzz (fM 189) Tryz.isAgg189
def underlying192:=(dn 192).trans Tryz.underlying192
def sizeOf192:=zzz (fF 192) Tryz.sizeOf192
def isAgg192:=zzz (fM 192) Tryz.isAgg192
def underlying225:=(dn 225).trans Tryz.underlying225
def sizeOf225:=zzz (fF 225) Tryz.sizeOf225
def isAgg225:=zzz (fM 225) Tryz.isAgg225
def underlying228:=(dn 228).trans Tryz.underlying228
def sizeOf228:=zzz (fF 228) Tryz.sizeOf228
def isAgg228:=zzz (fM 228) Tryz.isAgg228
def underlying254:=(dn 254).trans Tryz.underlying254
def sizeOf254:=zzz (fF 254) Tryz.sizeOf254
def isAgg254:=zzz (fM 254) Tryz.isAgg254
def underlying255:=(dn 255).trans Tryz.underlying255
def sizeOf255:=zzz (fF 255) Tryz.sizeOf255
def isAgg255:=zzz (fM 255) Tryz.isAgg255
@[simp]def zeroValue0:=zzz (cJ 0) Tryz.zeroValue0
@[simp]def zeroValue3:=zzz (cJ 3) Tryz.zeroValue3
@[simp]def zeroValue4:=zzz (cJ 4) Tryz.zeroValue4
@[simp]def zeroValue5:=zzz (cJ 5) Tryz.zeroValue5
@[simp]def zeroValue9:=zzz (cJ 9) Tryz.zeroValue9
@[simp]def zeroValue27:=zzz (cJ 27) Tryz.zeroValue27
@[simp]def zeroValue30:=zzz (cJ 30) Tryz.zeroValue30
@[simp]def zeroValue34:=zzz (cJ 34) Tryz.zeroValue34
@[simp]def zeroValue36:=zzz (cJ 36) Tryz.zeroValue36
@[simp]def zeroValue45:=zzz (cJ 45) Tryz.zeroValue45
@[simp]def zeroValue47:=zzz (cJ 47) Tryz.zeroValue47
@[simp]def zeroValue55:=zzz (cJ 55) Tryz.zeroValue55
@[simp]def zeroValue61:=zzz (cJ 61) Tryz.zeroValue61
@[simp]def zeroValue63:=zzz (cJ 63) Tryz.zeroValue63
@[simp]def zeroValue67:=zzz (cJ 67) Tryz.zeroValue67
@[simp]def zeroValue70:=zzz (cJ 70) Tryz.zeroValue70
@[simp]def zeroValue71:=zzz (cJ 71) Tryz.zeroValue71
@[simp]def zeroValue72:=zzz (cJ 72) Tryz.zeroValue72
@[simp]def zeroValue74:=zzz (cJ 74) Tryz.zeroValue74
@[simp]def zeroValue82:=zzz (cJ 82) Tryz.zeroValue82
@[simp]def zeroValue88:=zzz (cJ 88) Tryz.zeroValue88
@[simp]def zeroValue104:=zzz (cJ 104) Tryz.zeroValue104
@[simp]def zeroValue110:=zzz (cJ 110) Tryz.zeroValue110
@[simp]def zeroValue115:=zzz (cJ 115) Tryz.zeroValue115
@[simp]def zeroValue117:=zzz (cJ 117) Tryz.zeroValue117
@[simp]def zeroValue119:=zzz (cJ 119) Tryz.zeroValue119
@[simp]def zeroValue124:=zzz (cJ 124) Tryz.zeroValue124
@[simp]def zeroValue139:=zzz (cJ 139) Tryz.zeroValue139
@[simp]def zeroValue147:=zzz (cJ 147) Tryz.zeroValue147
@[simp]def zeroValue149:=zzz (cJ 149) Tryz.zeroValue149
@[simp]def zeroValue152:=zzz (cJ 152) Tryz.zeroValue152
@[simp]def zeroValue155:=zzz (cJ 155) Tryz.zeroValue155
@[simp]def zeroValue156:=zzz (cJ 156) Tryz.zeroValue156
@[simp]def zeroValue167:=zzz (cJ 167) Tryz.zeroValue167
@[simp]def zeroValue171:=zzz (cJ 171) Tryz.zeroValue171
@[simp]def zeroValue178:=zzz (cJ 178) Tryz.zeroValue178
@[simp]def zeroValue184:=zzz (cJ 184) Tryz.zeroValue184
@[simp]def zeroValue185:=zzz (cJ 185) Tryz.zeroValue185
@[simp]def zeroValue189:=zzz (cJ 189) Tryz.zeroValue189
@[simp]def zeroValue192:=zzz (cJ 192) Tryz.zeroValue192
@[simp]def zeroValue212:=zzz (cJ 212) Tryz.zeroValue212
@[simp]def zeroValue217:=zzz (cJ 217) Tryz.zeroValue217
@[simp]def zeroValue220:=zzz (cJ 220) Tryz.zeroValue220
@[simp]def zeroValue225:=zzz (cJ 225) Tryz.zeroValue225
@[simp]def zeroValue228:=zzz (cJ 228) Tryz.zeroValue228
@[simp]def zeroValue254:=zzz (cJ 254) Tryz.zeroValue254
@[simp]def zeroValue255:=zzz (cJ 255) Tryz.zeroValue255
@[simp]def func6:=aN Tryz.func6 zd
def ntmps6:=Tryz.ntmps6
@[simp]def func7:=aN Tryz.func7 zd
def ntmps7:=Tryz.ntmps7
@[simp]def func8:=aN Tryz.func8 zd
def ntmps8:=Tryz.ntmps8
@[simp]def func9:=aN Tryz.func9 zd
def ntmps9:=Tryz.ntmps9
@[simp]def func10:=aN Tryz.func10 zd
def ntmps10:=Tryz.ntmps10
@[simp]def func11:=aN Tryz.func11 zd
def ntmps11:=Tryz.ntmps11
@[simp]def func12:=aN Tryz.func12 zd
def ntmps12:=Tryz.ntmps12
def results12:=Tryz.results12
@[simp]def func13:=aN Tryz.func13 zd
def ntmps13:=Tryz.ntmps13
@[simp]def func14:=aN Tryz.func14 zd
def ntmps14:=Tryz.ntmps14
@[simp]def func15:=aN Tryz.func15 zd
def ntmps15:=Tryz.ntmps15
@[simp]def func16:=aN Tryz.func16 zd
def ntmps16:=Tryz.ntmps16
@[simp]def func17:=aN Tryz.func17 zd
def ntmps17:=Tryz.ntmps17
@[simp]def func18:=aN Tryz.func18 zd
def ntmps18:=Tryz.ntmps18
@[simp]def func19:=aN Tryz.func19 zd
def ntmps19:=Tryz.ntmps19
@[simp]def func20:=aN Tryz.func20 zd
def ntmps20:=Tryz.ntmps20
@[simp]def func21:=aN Tryz.func21 zd
def ntmps21:=Tryz.ntmps21
@[simp]def func22:=aN Tryz.func22 zd
def ntmps22:=Tryz.ntmps22
@[simp]def func23:=aN Tryz.func23 zd
def ntmps23:=Tryz.ntmps23
@[simp]def func24:=aN Tryz.func24 zd
def ntmps24:=Tryz.ntmps24
@[simp]def func25:=aN Tryz.func25 zd
def ntmps25:=Tryz.ntmps25
@[simp]def func26:=aN Tryz.func26 zd
def ntmps26:=Tryz.ntmps26
@[simp]def func27:=aN Tryz.func27 zd
def ntmps27:=Tryz.ntmps27
@[simp]def func28:=aN Tryz.func28 zd
def ntmps28:=Tryz.ntmps28
def results28:=Tryz.results28
@[simp]def func29:=aN Tryz.func29 zd
def ntmps29:=Tryz.ntmps29
@[simp]def func30:=aN Tryz.func30 zd
def ntmps30:=Tryz.ntmps30
@[simp]def func31:=aN Tryz.func31 zd
def ntmps31:=Tryz.ntmps31
@[simp]def func32:=aN Tryz.func32 zd
def ntmps32:=Tryz.ntmps32
@[simp]def func33:=aN Tryz.func33 zd
def ntmps33:=Tryz.ntmps33
def results33:=Tryz.results33
@[simp]def func34:=aN Tryz.func34 zd
def ntmps34:=Tryz.ntmps34
@[simp]def func35:=aN Tryz.func35 zd
def ntmps35:=Tryz.ntmps35
@[simp]def func36:=aN Tryz.func36 zd
def ntmps36:=Tryz.ntmps36
@[simp]def func37:=aN Tryz.func37 zd
def ntmps37:=Tryz.ntmps37
@[simp]def func38:=aN Tryz.func38 zd
def ntmps38:=Tryz.ntmps38
def results38:=Tryz.results38
@[simp]def func39:=aN Tryz.func39 zd
def ntmps39:=Tryz.ntmps39
@[simp]def func40:=aN Tryz.func40 zd
def ntmps40:=Tryz.ntmps40
def results40:=Tryz.results40
@[simp]def func41:=aN Tryz.func41 zd
def ntmps41:=Tryz.ntmps41
@[simp]def func42:=aN Tryz.func42 zd
def ntmps42:=Tryz.ntmps42
@[simp]def func43:=aN Tryz.func43 zd
def ntmps43:=Tryz.ntmps43
def results43:=Tryz.results43
@[simp]def func44:=aN Tryz.func44 zd
def ntmps44:=Tryz.ntmps44
@[simp]def func45:=aN Tryz.func45 zd
def ntmps45:=Tryz.ntmps45
@[simp]def func46:=aN Tryz.func46 zd
def ntmps46:=Tryz.ntmps46
@[simp]def func47:=aN Tryz.func47 zd
def ntmps47:=Tryz.ntmps47
@[simp]def func48:=aN Tryz.func48 zd
def ntmps48:=Tryz.ntmps48
@[simp]def func49:=aN Tryz.func49 zd
def ntmps49:=Tryz.ntmps49
@[simp]def func50:=aN Tryz.func50 zd
def ntmps50:=Tryz.ntmps50
@[simp]def func51:=aN Tryz.func51 zd
def ntmps51:=Tryz.ntmps51
@[simp]def func52:=aN Tryz.func52 zd
def ntmps52:=Tryz.ntmps52
@[simp]def func53:=aN Tryz.func53 zd
def ntmps53:=Tryz.ntmps53
@[simp]def func54:=aN Tryz.func54 zd
def ntmps54:=Tryz.ntmps54
@[simp]def func55:=aN Tryz.func55 zd
def ntmps55:=Tryz.ntmps55
@[simp]def func56:=aN Tryz.func56 zd
def ntmps56:=Tryz.ntmps56
@[simp]def func57:=aN Tryz.func57 zd
def ntmps57:=Tryz.ntmps57
@[simp]def func58:=aN Tryz.func58 zd
def ntmps58:=Tryz.ntmps58
@[simp]def func59:=aN Tryz.func59 zd
def ntmps59:=Tryz.ntmps59
@[simp]def func60:=aN Tryz.func60 zd
def ntmps60:=Tryz.ntmps60
def results60:=Tryz.results60
end aC
abbrev aC.f61:=Tryz.f61
namespace aC
@[simp]def func61:=aN Tryz.func61 zd
def ntmps61:=Tryz.ntmps61
@[simp]def func62:=aN Tryz.func62 zd
def ntmps62:=Tryz.ntmps62
@[simp]def func63:=aN Tryz.func63 zd
@[simp]def func64:=aN Tryz.func64 zd
def ntmps64:=Tryz.ntmps64
@[simp]def func65:=aN Tryz.func65 zd
def ntmps65:=Tryz.ntmps65
@[simp]def func66:=aN Tryz.func66 zd
def ntmps66:=Tryz.ntmps66
def results66:=Tryz.results66
@[simp]def func67:=aN Tryz.func67 zd
def ntmps67:=Tryz.ntmps67
@[simp]def func68:=aN Tryz.func68 zd
def ntmps68:=Tryz.ntmps68
@[simp]def func69:=aN Tryz.func69 zd
def ntmps69:=Tryz.ntmps69
@[simp]def func70:=aN Tryz.func70 zd
def ntmps70:=Tryz.ntmps70
@[simp]def func71:=aN Tryz.func71 zd
def ntmps71:=Tryz.ntmps71
@[simp]def func72:=aN Tryz.func72 zd
def ntmps72:=Tryz.ntmps72
@[simp]def func73:=aN Tryz.func73 zd
def ntmps73:=Tryz.ntmps73
@[simp]def func74:=aN Tryz.func74 zd
def ntmps74:=Tryz.ntmps74
@[simp]def func75:=aN Tryz.func75 zd
def ntmps75:=Tryz.ntmps75
@[simp]def func76:=aN Tryz.func76 zd
def ntmps76:=Tryz.ntmps76
@[simp]def func77:=aN Tryz.func77 zd
def ntmps77:=Tryz.ntmps77
@[simp]def func78:=aN Tryz.func78 zd
def ntmps78:=Tryz.ntmps78
@[simp]def func79:=aN Tryz.func79 zd
def ntmps79:=Tryz.ntmps79
@[simp]def func80:=aN Tryz.func80 zd
def ntmps80:=Tryz.ntmps80
@[simp]def func81:=aN Tryz.func81 zd
def ntmps81:=Tryz.ntmps81
@[simp]def func82:=aN Tryz.func82 zd
def ntmps82:=Tryz.ntmps82
@[simp]def func83:=aN Tryz.func83 zd
def ntmps83:=Tryz.ntmps83
@[simp]def func84:=aN Tryz.func84 zd
def ntmps84:=Tryz.ntmps84
@[simp]def func85:=aN Tryz.func85 zd
def ntmps85:=Tryz.ntmps85
end aC
abbrev aC.f86:=Tryz.f86
namespace aC
@[simp]def func86:=aN Tryz.func86 zd
def ntmps86:=Tryz.ntmps86
@[simp]def func87:=aN Tryz.func87 zd
def ntmps87:=Tryz.ntmps87
@[simp]def func88:=aN Tryz.func88 zd
def ntmps88:=Tryz.ntmps88
@[simp]def func89:=aN Tryz.func89 zd
def ntmps89:=Tryz.ntmps89
@[simp]def func90:=aN Tryz.func90 zd
def ntmps90:=Tryz.ntmps90
end aC
abbrev aC.f91:=Tryz.f91
@[simp] abbrev aC.func91:=aC.aN Tryz.func91 (by decide)
@[simp] abbrev aC.func92:=aC.aN Tryz.func92 (by decide)
abbrev aC.ntmps92:=Tryz.ntmps92
abbrev aC.f93:=Tryz.f93
@[simp] abbrev aC.func93:=aC.aN Tryz.func93 (by decide)
abbrev aC.f94:=Tryz.f94
namespace aC
@[simp]def func94:=aN Tryz.func94 zd
@[simp]def func96:=aN Tryz.func96 zd
def ntmps96:=Tryz.ntmps96
@[simp]def func97:=aN Tryz.func97 zd
def ntmps97:=Tryz.ntmps97
@[simp]def func98:=aN Tryz.func98 zd
def ntmps98:=Tryz.ntmps98
@[simp]def func99:=aN Tryz.func99 zd
def ntmps99:=Tryz.ntmps99
@[simp]def func100:=aN Tryz.func100 zd
def ntmps100:=Tryz.ntmps100
def results100:=Tryz.results100
@[simp]def func101:=aN Tryz.func101 zd
def ntmps101:=Tryz.ntmps101
def results101:=Tryz.results101
@[simp]def func102:=aN Tryz.func102 zd
def ntmps102:=Tryz.ntmps102
@[simp]def func103:=aN Tryz.func103 zd
def ntmps103:=Tryz.ntmps103
@[simp]def func104:=aN Tryz.func104 zd
def ntmps104:=Tryz.ntmps104
@[simp]def func105:=aN Tryz.func105 zd
def ntmps105:=Tryz.ntmps105
@[simp]def func106:=aN Tryz.func106 zd
def ntmps106:=Tryz.ntmps106
@[simp]def func107:=aN Tryz.func107 zd
def ntmps107:=Tryz.ntmps107
@[simp]def func108:=aN Tryz.func108 zd
def ntmps108:=Tryz.ntmps108
def results108:=Tryz.results108
@[simp]def func109:=aN Tryz.func109 zd
def ntmps109:=Tryz.ntmps109
@[simp]def func110:=aN Tryz.func110 zd
def ntmps110:=Tryz.ntmps110
end aC
abbrev aC.f111:=Tryz.f111
@[simp] abbrev aC.func111:=aC.aN Tryz.func111 (by decide)
abbrev aC.ntmps111:=Tryz.ntmps111
abbrev aC.f112:=Tryz.f112
@[simp] abbrev aC.func112:=aC.aN Tryz.func112 (by decide)
abbrev aC.f113:=Tryz.f113
@[simp] abbrev aC.func113:=aC.aN Tryz.func113 (by decide)
abbrev aC.f114:=Tryz.f114
@[simp] abbrev aC.func114:=aC.aN Tryz.func114 (by decide)
abbrev aC.f115:=Tryz.f115
@[simp] abbrev aC.func115:=aC.aN Tryz.func115 (by decide)
abbrev aC.f116:=Tryz.f116
@[simp] abbrev aC.func116:=aC.aN Tryz.func116 (by decide)
abbrev aC.f117:=Tryz.f117
@[simp] abbrev aC.func117:=aC.aN Tryz.func117 (by decide)
abbrev aC.f118:=Tryz.f118
namespace aC
@[simp]def func118:=aN Tryz.func118 zd
@[simp]def func119:=aN Tryz.func119 zd
@[simp]def func120:=aN Tryz.func120 zd
def ntmps120:=Tryz.ntmps120
@[simp]def func121:=aN Tryz.func121 zd
def ntmps121:=Tryz.ntmps121
end aC
abbrev aC.f122:=Tryz.f122
namespace aC
@[simp]def func122:=aN Tryz.func122 zd
@[simp]def func123:=aN Tryz.func123 zd
def ntmps123:=Tryz.ntmps123
@[simp]def func124:=aN Tryz.func124 zd
def ntmps124:=Tryz.ntmps124
end aC
abbrev aC.f125:=Tryz.f125
@[simp] abbrev aC.func125:=aC.aN Tryz.func125 (by decide)
abbrev aC.f126:=Tryz.f126
namespace aC
@[simp]def func126:=aN Tryz.func126 zd
@[simp]def func131:=aN Tryz.func131 zd
def ntmps131:=Tryz.ntmps131
@[simp]def func132:=aN Tryz.func132 zd
def ntmps132:=Tryz.ntmps132
@[simp]def func133:=aN Tryz.func133 zd
def ntmps133:=Tryz.ntmps133
@[simp]def func134:=aN Tryz.func134 zd
def ntmps134:=Tryz.ntmps134
@[simp]def func135:=aN Tryz.func135 zd
def ntmps135:=Tryz.ntmps135
@[simp]def func136:=aN Tryz.func136 zd
def ntmps136:=Tryz.ntmps136
@[simp]def func137:=aN Tryz.func137 zd
def ntmps137:=Tryz.ntmps137
@[simp]def func138:=aN Tryz.func138 zd
def ntmps138:=Tryz.ntmps138
@[simp]def func139:=aN Tryz.func139 zd
def ntmps139:=Tryz.ntmps139
@[simp]def func140:=aN Tryz.func140 zd
def ntmps140:=Tryz.ntmps140
end aC
abbrev aC.f141:=Tryz.f141
@[simp] abbrev aC.func141:=aC.aN Tryz.func141 (by decide)
@[simp] abbrev aC.func142:=aC.aN Tryz.func142 (by decide)
@[simp] abbrev aC.func143:=aC.aN Tryz.func143 (by decide)
abbrev aC.f144:=Tryz.f144
@[simp] abbrev aC.func144:=aC.aN Tryz.func144 (by decide)
abbrev aC.f145:=Tryz.f145
@[simp] abbrev aC.func145:=aC.aN Tryz.func145 (by decide)
abbrev aC.f146:=Tryz.f146
@[simp] abbrev aC.func146:=aC.aN Tryz.func146 (by decide)
abbrev aC.f147:=Tryz.f147
@[simp] abbrev aC.func147:=aC.aN Tryz.func147 (by decide)
abbrev aC.f148:=Tryz.f148
@[simp] abbrev aC.func148:=aC.aN Tryz.func148 (by decide)
abbrev aC.f149:=Tryz.f149
@[simp] abbrev aC.func149:=aC.aN Tryz.func149 (by decide)
abbrev aC.f150:=Tryz.f150
@[simp] abbrev aC.func150:=aC.aN Tryz.func150 (by decide)
abbrev aC.f151:=Tryz.f151
@[simp] abbrev aC.func151:=aC.aN Tryz.func151 (by decide)
abbrev aC.f152:=Tryz.f152
@[simp] abbrev aC.func152:=aC.aN Tryz.func152 (by decide)
abbrev aC.f153:=Tryz.f153
@[simp] abbrev aC.func153:=aC.aN Tryz.func153 (by decide)
abbrev aC.f154:=Tryz.f154
@[simp] abbrev aC.func154:=aC.aN Tryz.func154 (by decide)
abbrev aC.f155:=Tryz.f155
namespace aC
@[simp]def func155:=aN Tryz.func155 zd
@[simp]def func174:=aN Tryz.func174 zd
def ntmps174:=Tryz.ntmps174
@[simp]def func175:=aN Tryz.func175 zd
def ntmps175:=Tryz.ntmps175
@[simp]def func176:=aN Tryz.func176 zd
def ntmps176:=Tryz.ntmps176
@[simp]def func177:=aN Tryz.func177 zd
def ntmps177:=Tryz.ntmps177
def results177:=Tryz.results177
@[simp]def func178:=aN Tryz.func178 zd
def ntmps178:=Tryz.ntmps178
@[simp]def func179:=aN Tryz.func179 zd
def ntmps179:=Tryz.ntmps179
@[simp]def func180:=aN Tryz.func180 zd
def ntmps180:=Tryz.ntmps180
@[simp]def func181:=aN Tryz.func181 zd
def ntmps181:=Tryz.ntmps181
@[simp]def func182:=aN Tryz.func182 zd
def ntmps182:=Tryz.ntmps182
def results182:=Tryz.results182
end aC
abbrev aC.f183:=Tryz.f183
@[simp] abbrev aC.func183:=aC.aN Tryz.func183 (by decide)
abbrev aC.f184:=Tryz.f184
@[simp] abbrev aC.func184:=aC.aN Tryz.func184 (by decide)
abbrev aC.f185:=Tryz.f185
@[simp] abbrev aC.func185:=aC.aN Tryz.func185 (by decide)
abbrev aC.f186:=Tryz.f186
@[simp] abbrev aC.func186:=aC.aN Tryz.func186 (by decide)
abbrev aC.f187:=Tryz.f187
namespace aC
@[simp]def func187:=aN Tryz.func187 zd
@[simp]def func193:=aN Tryz.func193 zd
def ntmps193:=Tryz.ntmps193
@[simp]def func194:=aN Tryz.func194 zd
def ntmps194:=Tryz.ntmps194
def results194:=Tryz.results194
@[simp]def func195:=aN Tryz.func195 zd
def ntmps195:=Tryz.ntmps195
@[simp]def func196:=aN Tryz.func196 zd
def ntmps196:=Tryz.ntmps196
end aC
abbrev aC.f197:=Tryz.f197
namespace aC
@[simp]def func197:=aN Tryz.func197 zd
@[simp]def func198:=aN Tryz.func198 zd
def ntmps198:=Tryz.ntmps198
@[simp]def call7:=aP func7 rfl rfl
@[simp]def call8:=aP func8 rfl rfl
@[simp]def call9:=aP func9 rfl rfl
@[simp]def call10:=aP func10 rfl rfl
@[simp]def call11:=aP func11 rfl rfl
@[simp]def call12:=aP func12 rfl rfl
@[simp]def call13:=aP func13 rfl rfl
@[simp]def call14:=aP func14 rfl rfl
@[simp]def call15:=aP func15 rfl rfl
@[simp]def call16:=aP func16 rfl rfl
@[simp]def call17:=aP func17 rfl rfl
@[simp]def call18:=aP func18 rfl rfl
@[simp]def call19:=aP func19 rfl rfl
@[simp]def call20:=aP func20 rfl rfl
@[simp]def call21:=aP func21 rfl rfl
@[simp]def call22:=aP func22 rfl rfl
@[simp]def call23:=aP func23 rfl rfl
@[simp]def call24:=aP func24 rfl rfl
@[simp]def call25:=aP func25 rfl rfl
@[simp]def call26:=aP func26 rfl rfl
@[simp]def call27:=aP func27 rfl rfl
@[simp]def call28:=aP func28 rfl rfl
@[simp]def call29:=aP func29 rfl rfl
@[simp]def call30:=aP func30 rfl rfl
@[simp]def call31:=aP func31 rfl rfl
@[simp]def call32:=aP func32 rfl rfl
@[simp]def call33:=aP func33 rfl rfl
@[simp]def call34:=aP func34 rfl rfl
@[simp]def call35:=aP func35 rfl rfl
@[simp]def call36:=aP func36 rfl rfl
@[simp]def call37:=aP func37 rfl rfl
@[simp]def call38:=aP func38 rfl rfl
@[simp]def call39:=aP func39 rfl rfl
@[simp]def call40:=aP func40 rfl rfl
@[simp]def call41:=aP func41 rfl rfl
@[simp]def call42:=aP func42 rfl rfl
@[simp]def call43:=aP func43 rfl rfl
@[simp]def call44:=aP func44 rfl rfl
@[simp]def call45:=aP func45 rfl rfl
@[simp]def call46:=aP func46 rfl rfl
@[simp]def call47:=aP func47 rfl rfl
@[simp]def call48:=aP func48 rfl rfl
@[simp]def call49:=aP func49 rfl rfl
@[simp]def call50:=aP func50 rfl rfl
@[simp]def call51:=aP func51 rfl rfl
@[simp]def call52:=aP func52 rfl rfl
@[simp]def call53:=aP func53 rfl rfl
@[simp]def call54:=aP func54 rfl rfl
@[simp]def call55:=aP func55 rfl rfl
@[simp]def call56:=aP func56 rfl rfl
@[simp]def call57:=aP func57 rfl rfl
@[simp]def call58:=aP func58 rfl rfl
@[simp]def call59:=aP func59 rfl rfl
@[simp]def call60:=aP func60 rfl rfl
@[simp]def call61:=aP func61 rfl rfl
@[simp]def call62:=aP func62 rfl rfl
@[simp]def call63:=aP func63 rfl rfl
@[simp]def call64:=aP func64 rfl rfl
@[simp]def call65:=aP func65 rfl rfl
@[simp]def call66:=aP func66 rfl rfl
@[simp]def call67:=aP func67 rfl rfl
@[simp]def call68:=aP func68 rfl rfl
@[simp]def call69:=aP func69 rfl rfl
@[simp]def call70:=aP func70 rfl rfl
@[simp]def call71:=aP func71 rfl rfl
@[simp]def call72:=aP func72 rfl rfl
@[simp]def call73:=aP func73 rfl rfl
@[simp]def call74:=aP func74 rfl rfl
@[simp]def call75:=aP func75 rfl rfl
@[simp]def call76:=aP func76 rfl rfl
@[simp]def call77:=aP func77 rfl rfl
@[simp]def call78:=aP func78 rfl rfl
@[simp]def call79:=aP func79 rfl rfl
@[simp]def call80:=aP func80 rfl rfl
@[simp]def call81:=aP func81 rfl rfl
@[simp]def call82:=aP func82 rfl rfl
@[simp]def call83:=aP func83 rfl rfl
@[simp]def call84:=aP func84 rfl rfl
@[simp]def call85:=aP func85 rfl rfl
@[simp]def call86:=aP func86 rfl rfl
@[simp]def call87:=aP func87 rfl rfl
@[simp]def call88:=aP func88 rfl rfl
@[simp]def call89:=aP func89 rfl rfl
@[simp]def call90:=aP func90 rfl rfl
@[simp]def call91:=aP func91 rfl rfl
@[simp]def call92:=aP func92 rfl rfl
@[simp]def call93:=aP func93 rfl rfl
@[simp]def call94:=aP func94 rfl rfl
@[simp]def call96:=aP func96 rfl rfl
@[simp]def call97:=aP func97 rfl rfl
@[simp]def call98:=aP func98 rfl rfl
@[simp]def call99:=aP func99 rfl rfl
@[simp]def call100:=aP func100 rfl rfl
@[simp]def call101:=aP func101 rfl rfl
@[simp]def call102:=aP func102 rfl rfl
@[simp]def call103:=aP func103 rfl rfl
@[simp]def call104:=aP func104 rfl rfl
@[simp]def call105:=aP func105 rfl rfl
@[simp]def call106:=aP func106 rfl rfl
@[simp]def call107:=aP func107 rfl rfl
@[simp]def call108:=aP func108 rfl rfl
@[simp]def call109:=aP func109 rfl rfl
@[simp]def call110:=aP func110 rfl rfl
@[simp]def call111:=aP func111 rfl rfl
@[simp]def call120:=aP func120 rfl rfl
@[simp]def call121:=aP func121 rfl rfl
@[simp]def call123:=aP func123 rfl rfl
@[simp]def call124:=aP func124 rfl rfl
@[simp]def call131:=aP func131 rfl rfl
@[simp]def call132:=aP func132 rfl rfl
@[simp]def call133:=aP func133 rfl rfl
@[simp]def call134:=aP func134 rfl rfl
@[simp]def call135:=aP func135 rfl rfl
@[simp]def call136:=aP func136 rfl rfl
@[simp]def call137:=aP func137 rfl rfl
@[simp]def call138:=aP func138 rfl rfl
@[simp]def call139:=aP func139 rfl rfl
@[simp]def call140:=aP func140 rfl rfl
@[simp]def call174:=aP func174 rfl rfl
@[simp]def call175:=aP func175 rfl rfl
@[simp]def call176:=aP func176 rfl rfl
@[simp]def call177:=aP func177 rfl rfl
@[simp]def call178:=aP func178 rfl rfl
@[simp]def call179:=aP func179 rfl rfl
@[simp]def call180:=aP func180 rfl rfl
@[simp]def call181:=aP func181 rfl rfl
@[simp]def call182:=aP func182 rfl rfl
@[simp]def call193:=aP func193 rfl rfl
@[simp]def call194:=aP func194 rfl rfl
@[simp]def call195:=aP func195 rfl rfl
@[simp]def call196:=aP func196 rfl rfl
@[simp]def call198:=aP func198 rfl rfl
end aC
end Go.Proofs
end
namespace Go.Proofs
section
open Go.Shelf
def aC.Ht:Go.Shelf.Ren:=⟨fun|7=>94|10=>126|n=>n,fun|23=>63|26=>9|3=>74|28=>156|0=>0|27=>155|33=>71|4=>4|n=>n,fun|n=>n⟩
theorem aC.Ds:Go.Proofs.SlLaysZ.n7 aC.prog aC.Ht:={
 mixed:=by kernel_rfl
 f7:=⟨aC.f94.name,by decide,aC.func94.trans (congrArg some (by kernel_rfl))⟩
 f10:=⟨aC.f126.name,by decide,aC.func126.trans (congrArg some (by kernel_rfl))⟩
 t0:=aC.underlying0
 a0:=aC.isAgg0
 z0:=aC.sizeOf0
 v0:=aC.zeroValue0
 t4:=aC.underlying4
 a4:=aC.isAgg4
 z4:=aC.sizeOf4
 v4:=aC.zeroValue4
 t23:=aC.underlying63
 a23:=aC.isAgg63
 z23:=aC.sizeOf63
 v23:=aC.zeroValue63
 t26:=aC.underlying9
 a26:=aC.isAgg9
 z26:=aC.sizeOf9
 v26:=aC.zeroValue9
 t27:=aC.underlying155
 a27:=aC.isAgg155
 z27:=aC.sizeOf155
 v27:=aC.zeroValue155
 t28:=aC.underlying156
 a28:=aC.isAgg156
 z28:=aC.sizeOf156
 v28:=aC.zeroValue156
 t33:=aC.underlying71
 a33:=aC.isAgg71
 z33:=aC.sizeOf71
 v33:=aC.zeroValue71}
def aC.CI:Go.Shelf.Ren:=⟨fun|6=>93|8=>125|9=>91|11=>155|13=>87|12=>122|23=>119|24=>120|14=>146|15=>147|16=>148|17=>149|18=>150|19=>151|20=>152|21=>153|22=>154|25=>184|26=>142|27=>143|28=>185|29=>186|30=>187|31=>197|n=>n,fun|26=>9|28=>156|24=>27|0=>0|3=>3|37=>147|48=>192|50=>55|4=>4|40=>185|39=>184|45=>189|5=>5|9=>9|51=>225|55=>228|57=>254|58=>255|33=>71|n=>n,fun|n=>n⟩
theorem aC.Ue:Go.Proofs.SlLaysZ.n6 aC.prog aC.CI:={
 mixed:=by kernel_rfl
 f6:=⟨aC.f93.name,by decide,aC.func93.trans (congrArg some (by kernel_rfl))⟩
 f8:=⟨aC.f125.name,by decide,aC.func125.trans (congrArg some (by kernel_rfl))⟩
 f11:=⟨aC.f155.name,by decide,aC.func155.trans (congrArg some (by kernel_rfl))⟩
 t0:=aC.underlying0
 a0:=aC.isAgg0
 z0:=aC.sizeOf0
 v0:=aC.zeroValue0
 t24:=aC.underlying27
 a24:=aC.isAgg27
 z24:=aC.sizeOf27
 v24:=aC.zeroValue27
 t26:=aC.underlying9
 a26:=aC.isAgg9
 z26:=aC.sizeOf9
 v26:=aC.zeroValue9
 t28:=aC.underlying156
 a28:=aC.isAgg156
 z28:=aC.sizeOf156
 v28:=aC.zeroValue156
 i26:=by kernel_rfl}
def aC.Uy:Go.Shelf.Ren:=⟨fun|6=>91|8=>87|9=>122|19=>119|20=>120|21=>146|22=>147|23=>148|24=>149|25=>150|26=>151|27=>152|28=>153|29=>154|36=>184|31=>142|32=>143|37=>185|38=>186|39=>187|41=>197|n=>n,fun|27=>27|29=>9|3=>3|32=>147|26=>27|0=>0|44=>192|46=>55|4=>4|36=>185|35=>184|41=>189|5=>5|9=>9|53=>225|57=>228|63=>254|64=>255|n=>n,fun|n=>n⟩
theorem aC.wU:Go.Proofs.SlLaysM.n6 aC.prog aC.Uy:={
 mixed:=by kernel_rfl
 f6:=⟨aC.f91.name,by decide,aC.func91.trans (congrArg some (by kernel_rfl))⟩
 f8:=aC.func87.trans (congrArg some (by kernel_rfl))
 f9:=⟨aC.f122.name,by decide,aC.func122.trans (congrArg some (by kernel_rfl))⟩
 f19:=aC.func119.trans (congrArg some (by kernel_rfl))
 f20:=aC.func120.trans (congrArg some (by kernel_rfl))
 f21:=⟨aC.f146.name,by decide,aC.func146.trans (congrArg some (by kernel_rfl))⟩
 f22:=⟨aC.f147.name,by decide,aC.func147.trans (congrArg some (by kernel_rfl))⟩
 f23:=⟨aC.f148.name,by decide,aC.func148.trans (congrArg some (by kernel_rfl))⟩
 f24:=⟨aC.f149.name,by decide,aC.func149.trans (congrArg some (by kernel_rfl))⟩
 f25:=⟨aC.f150.name,by decide,aC.func150.trans (congrArg some (by kernel_rfl))⟩
 f26:=⟨aC.f151.name,by decide,aC.func151.trans (congrArg some (by kernel_rfl))⟩
 f27:=⟨aC.f152.name,by decide,aC.func152.trans (congrArg some (by kernel_rfl))⟩
 f28:=⟨aC.f153.name,by decide,aC.func153.trans (congrArg some (by kernel_rfl))⟩
 f29:=⟨aC.f154.name,by decide,aC.func154.trans (congrArg some (by kernel_rfl))⟩
 f31:=aC.func142.trans (congrArg some (by kernel_rfl))
 f32:=aC.func143.trans (congrArg some (by kernel_rfl))
 f36:=⟨aC.f184.name,by decide,aC.func184.trans (congrArg some (by kernel_rfl))⟩
 f37:=⟨aC.f185.name,by decide,aC.func185.trans (congrArg some (by kernel_rfl))⟩
 f38:=⟨aC.f186.name,by decide,aC.func186.trans (congrArg some (by kernel_rfl))⟩
 f39:=⟨aC.f187.name,by decide,aC.func187.trans (congrArg some (by kernel_rfl))⟩
 f41:=⟨aC.f197.name,by decide,aC.func197.trans (congrArg some (by kernel_rfl))⟩
 t0:=aC.underlying0
 a0:=aC.isAgg0
 z0:=aC.sizeOf0
 v0:=aC.zeroValue0
 t3:=aC.underlying3
 a3:=aC.isAgg3
 z3:=aC.sizeOf3
 v3:=aC.zeroValue3
 t4:=aC.underlying4
 a4:=aC.isAgg4
 z4:=aC.sizeOf4
 v4:=aC.zeroValue4
 t5:=aC.underlying5
 a5:=aC.isAgg5
 z5:=aC.sizeOf5
 v5:=aC.zeroValue5
 t9:=aC.underlying9
 a9:=aC.isAgg9
 z9:=aC.sizeOf9
 v9:=aC.zeroValue9
 t26:=aC.underlying27
 a26:=aC.isAgg27
 z26:=aC.sizeOf27
 v26:=aC.zeroValue27
 t27:=aC.underlying27
 a27:=aC.isAgg27
 z27:=aC.sizeOf27
 v27:=aC.zeroValue27
 t29:=aC.underlying9
 a29:=aC.isAgg9
 z29:=aC.sizeOf9
 v29:=aC.zeroValue9
 t32:=aC.underlying147
 a32:=aC.isAgg147
 z32:=aC.sizeOf147
 v32:=aC.zeroValue147
 t35:=aC.underlying184
 a35:=aC.isAgg184
 z35:=aC.sizeOf184
 v35:=aC.zeroValue184
 t36:=aC.underlying185
 a36:=aC.isAgg185
 z36:=aC.sizeOf185
 v36:=aC.zeroValue185
 t41:=aC.underlying189
 a41:=aC.isAgg189
 z41:=aC.sizeOf189
 v41:=aC.zeroValue189
 t44:=aC.underlying192
 a44:=aC.isAgg192
 z44:=aC.sizeOf192
 v44:=aC.zeroValue192
 t46:=aC.underlying55
 a46:=aC.isAgg55
 z46:=aC.sizeOf55
 v46:=aC.zeroValue55
 t53:=aC.underlying225
 a53:=aC.isAgg225
 z53:=aC.sizeOf225
 v53:=aC.zeroValue225
 t57:=aC.underlying228
 a57:=aC.isAgg228
 z57:=aC.sizeOf228
 v57:=aC.zeroValue228
 t63:=aC.underlying254
 a63:=aC.isAgg254
 z63:=aC.sizeOf254
 v63:=aC.zeroValue254
 t64:=aC.underlying255
 a64:=aC.isAgg255
 z64:=aC.sizeOf255
 v64:=aC.zeroValue255}
end
end Go.Proofs
namespace Go.Proofs.YtldmcdeibiclkaaGreatQ
abbrev Ctx:=Nat->Int
abbrev aG:=Nat×Int×ah
abbrev aG.rep(v:aG):Nat:=v.1
abbrev aG.n(v:aG):Int:=v.2.1
abbrev aG.val(v:aG):ByteArray:=v.2.2
abbrev bz(c:Ctx):Value:=.agg (.k c)
def dT(v:aG):List Value:=[.i v.rep,.i v.n,.s v.val]
def gT(c:Ctx)(v:aG):Bool:=decide (v.n<=c v.rep)
def aO(a b:Ctx):Ctx:=λi=>max (a i) (b i)
def gC(n:Int):Bool:=decide (0<=n/\n<=1000000)
def cR(c:Ctx):Bool:=gC (c 0)&&(gC (c 1)&&(gC (c 2)&&gC (c 3)))
def lj(c n:Int):Int:=(if c<0 then -(c+1) else c)%n
theorem ET(c n:Int)(a:1<=n):0<=lj c n/\lj c n<n:=
 ⟨Int.emod_nonneg _ zo,Int.emod_lt_of_pos _ zo⟩
theorem dR{r:Nat}(h:r<4):r=0\/r=1\/r=2\/r=3:=zo
theorem sO{k:IntKind}{a b:Int}(h:a=b):Ending.returned (.int k a)=.r (.int k b):=by rw[h]
theorem im{a b:Bool}(h:a=b):Ending.returned (.bool a)=.r (.bool b):=by rw[h]
end Go.Proofs.YtldmcdeibiclkaaGreatQ
namespace Go.Proofs.YtldmcdeibiclkaaGreatQ
open Go.RowKit
def oT(b:UInt8):Bool:=decide (97<=b.toNat/\b.toNat<=122)
def bq(s:ah):Bool:=decide (1<=s.size/\s.size<=8)&&s.data.toList.all oT
theorem tL(s:ah)(w:af)(hs:s.size<=maxLen):
  Calls aC.prog 30 #[.s s] w λe w'=>e=.r (.bool (decide (s.size<=12)))/\w'=w:=by
 unfold maxLen at hs;go_enter aC.func30,aC.ntmps30;go_wp2;go_ret;exact⟨im zt,rfl⟩
theorem Ea(x y:Int)(w:af):
  Calls aC.prog 89 #[.i x,.i y] w λe w'=>e=.r (.i (if x<y then -1 else if y<x then 1 else 0))/\w'=w:=by
 by_cases a:x<y
 .go_enter aC.func89,aC.ntmps89;go_wp2;go_ret;exact⟨rfl,rfl⟩
 .by_cases b:y<x
  .go_enter aC.func89,aC.ntmps89;go_wp2;go_ret;exact⟨rfl,rfl⟩
  .go_enter aC.func89,aC.ntmps89;go_wp2;go_ret;exact⟨rfl,rfl⟩
theorem IE{s:ah}(h1:1<=s.size)(a:s.size<=8)(h:∀j (h:j<s.size),oT s[j]=true):bq s=true:=by
 simp only[bq,No,abb,abK];refine⟨⟨h1,a⟩,λx b=>?_⟩;obtain⟨j,hj,rfl⟩:=List.mem_iff_getElem.1 b;exact h j (by simpa using hj)
theorem FP{s:ah}{j:Nat}(hj:j<s.size)(h: ¬(97<=s[j].toNat/\s[j].toNat<=122)):bq s=false:=by
 simp only[bq,Bool.and_eq_false_iff];right;rw[List.all_eq_false];exact⟨s[j],by simp[ByteArray.getElem_eq_getElem_data],by simpa[oT] using h⟩
theorem IH{s:ah}(h: ¬(1<=s.size/\s.size<=8)):bq s=false:=by
 simp only[bq,Bool.and_eq_false_iff];grind
theorem lH(s:ah)(w:af)(hs:s.size<=maxLen):
  Calls aC.prog 29 #[.s s] w λe w'=>e=.r (.bool (bq s))/\w'=w:=by
 unfold maxLen at hs;by_cases hl:1<=s.size/\s.size<=8
 .obtain⟨l,m⟩:=hl;go_enter aC.func29,aC.ntmps29;go_wp2;go_loop [14] (λi=>∃k:Nat,k<=s.size/\i=.i k/\Hid (∀j (h:j<s.size),j<k->oT s[j]=true)) (λi=>s.size-(intOf i).toNat)
  case atStart=>exact⟨0,zo,rfl,λj hj=>zo⟩
  case round=>
   obtain⟨k,q,rfl,b⟩:=hrel;by_cases n:k<s.size
   .by_cases hb:97<=s[k].toNat/\s[k].toNat<=122
    .obtain⟨o,p⟩:=hb;have c:Hid (∀j (h:j<s.size),j<k+1->oT s[j]=true):=λj h hj=>by
      by_cases e:j=k
      .subst e;exact abJ ⟨o,p⟩
      .exact b.out j h zo
     go_wp2;exact⟨⟨k+1,zo,by go_num,c⟩,zi⟩
    .have a:Hid _:=FP n hb;have d:s[k].toNat<97\/122<s[k].toNat:=zo;clear hb b;rcases d with d|d
     .go_wp2;go_ret;exact⟨im a.out.symm,rfl⟩
     .go_wp2;go_ret;exact⟨im a.out.symm,rfl⟩
   .have a:Hid _:=IE l m λj h=>b.out j h zo;clear b;go_wp2;go_ret;exact⟨im a.out.symm,rfl⟩
 .have a:Hid _:=IH hl;have g:s.size<1\/8<s.size:=zo;clear hl;rcases g with g|g
  .go_enter aC.func29,aC.ntmps29;go_wp2;go_ret;exact⟨im a.out.symm,rfl⟩
  .go_enter aC.func29,aC.ntmps29;go_wp2;go_ret;exact⟨im a.out.symm,rfl⟩
def lY(x y:Int):Int:=if x=0 then y else x
theorem MH(b g cap:Nat)(x y:Int)(w:af)(s:w.cell? (.a b g)=.i x)(h1:w.cell? (.a b (g+1))=.i y):
  Calls aC.prog 88 #[.slice (.a b g) 2 cap] w λe w'=>e=.r (.i (lY x y))/\w'=w:=by
 go_enter aC.func88,aC.ntmps88;go_wp2;go_loop [8] (λi=>∃k:Nat,k<=2/\i=.i k/\Hid ((0<k->x=0)/\(1<k->y=0))) (λi=>2-(intOf i).toNat)
 case atStart=>exact⟨0,zo,rfl,λh=>zo,λh=>zo⟩
 case round=>
  obtain⟨k,u,rfl,c⟩:=hrel;by_cases m:k<2
  .have l:k=0\/k=1:=zo;rcases l with rfl|rfl
   .by_cases d:x=0
    .subst d;go_wp2;exact⟨⟨1,zo,rfl,λ_=>by trivial,λh=>zo⟩,by simp[intOf]⟩
    .have n:(x==0)=false:=by simp[d]
     have o:(x !=0)=true:=by simp[d]
     go_wp2;go_ret;exact⟨sO (by simp[lY,d]),rfl⟩
   .have d:=c.out.1 zo;subst d;by_cases j:y=0
    .subst j;go_wp2;exact⟨⟨2,zo,rfl,λ_=>by trivial,λ_=>by trivial⟩,by simp[intOf]⟩
    .have p:(y==0)=false:=by simp[j]
     have q:(y !=0)=true:=by simp[j]
     go_wp2;go_ret;exact⟨sO (by simp[lY]),rfl⟩
  .obtain rfl:k=2:=zo;have d:=c.out.1 zo;have j:=c.out.2 zo;subst d j;go_wp2;go_ret;exact⟨sO (by simp[lY]),rfl⟩
def ir(x y:Int):Int:=if x<y then -1 else if y<x then 1 else 0
def je(a b:aG):Int:=lY (ir a.rep b.rep) (ir a.n b.n)
theorem Af(a b rb c:Int)(j vb:ah)(w:af):
  Calls aC.prog 62 #[.agg #[.i a,.i b,.s j],.agg #[.i rb,.i c,.s vb]] w λe w'=>e=.r (.i (lY (ir a rb) (ir b c)))/\∃q h,w'=Go.Sort.grow (w.drewN q) h:=by
 have d:∀W,Calls aC.prog 89 #[.i a,.i rb] W λe w'=>e=.r (.i (ir a rb))/\w'=W:=λW=>Ea a rb W;have g:∀W,Calls aC.prog 89 #[.i b,.i c] W λe w'=>e=.r (.i (ir b c))/\w'=W:=λW=>Ea b c W;have k:Hid _:=d;have l:Hid _:=g;clear d g;generalize ir a rb=r1 at*;generalize ir b c=r2 at*;go_enter aC.func62,aC.ntmps62;go_wp2;go_region_held3 (λw'=>w'.cell? ⟨w.heap.size,0,none⟩=some (.int .i64 a)/\w'.cell? ⟨w.heap.size,1,none⟩=some (.int .i64 b)/\w'.cell? ⟨w.heap.size+1,0,none⟩=some (.int .i64 rb)/\w'.cell? ⟨w.heap.size+1,1,none⟩=some (.int .i64 c)) (go_keep) (first
  |(go_at_call_of 89 (Value.int .i64 a);refine(k.out _).mono ?_;rintro e w' ⟨rfl,rfl⟩)
  |(go_at_call_of 89 (Value.int .i64 b);refine(l.out _).mono ?_;rintro e w' ⟨rfl,rfl⟩)
  |(go_at_call 88;refine(MH _ _ _ r1 r2 _ (by go_simp) (by go_simp)).mono ?_;rintro e w' ⟨rfl,rfl⟩))
 go_wp2;go_ret;exact⟨rfl,1,_,by rw[Go.Sort.alloc_eq_grow,Go.Sort.alloc_eq_grow,Go.Sort.alloc_eq_grow,Go.Sort.grow_grow,Go.Sort.grow_grow];rfl⟩
end Go.Proofs.YtldmcdeibiclkaaGreatQ
