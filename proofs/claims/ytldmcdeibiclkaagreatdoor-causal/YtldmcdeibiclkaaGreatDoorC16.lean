/-
  Toward causal_holds: VALUES THAT HOLD NO PLACE OF THE LONE ONE's: what foreign cells of an argument's block bec
-/
import Derived.Test.YtldmcdeibiclkaaGreatDoorC14
import Derived.Test.YtldmcdeibiclkaaGreatDoorC15
import Derived.Conc.LeavingOf
import Derived.Below
import Derived.Test.YtldmcdeibiclkaaGreatDoorC06
import Derived.Calls
import Derived.WalkKit
import Derived.WalkSpells
import Derived.WalkLawsBesides
import Derived.Deep.QuietTactic
import Derived.BigQuiet
import Derived.Conc.Beside
import Derived.Conc.Events
import Derived.Deep.AppendLies
import Derived.Deep.DrawnRows
import Derived.Laws.AppendOwn
import Derived.Laws.Entries
import Derived.Laws.Rows
import Derived.Laws.Sem
import Derived.Laws.World
import Derived.OwnWalk
import Derived.RunT
import Derived.Tactics
import Derived.WalkSmall
import GoSem.Core.Machine
import GoSem.Machine.Report
set_option linter.unusedVariables false
set_option linter.unusedSimpArgs false
set_option maxRecDepth 100000
set_option maxHeartbeats 20000000
namespace Go.Proofs
abbrev By:=@Go.RowKit.Below.refl
abbrev BY:=@Go.Calls.mono
abbrev IS:=@Go.heap_alloc_new
abbrev OF:=@Go.RowKit.Below.heap_alloc
abbrev XX:=@Go.RowKit.Below.drew
abbrev XY:=@Go.RowKit.Below.alloc
abbrev Yc:=@Go.World.ownsRow.alloc
abbrev Yf:=@Go.RowKit.ownsRow_setCell_below
abbrev Yg:=@Go.RowKit.Below.setCell
abbrev Yi:=@Go.GStep.go.injEq
abbrev Yj:=@Go.RowKit.Below.heap_setCell
abbrev Yk:=@Go.info_parts
abbrev Yo:=@Go.World.news_of_block
abbrev Yy:=@Go.Conc.mem_ofEvents
abbrev YB:=@Go.bodyPost_ret
abbrev YC:=@Go.Sem.run_bind
abbrev YU:=@Go.Result.andThen_ok
abbrev Y5:=@Go.run_underlying
abbrev Y6:=@Go.World.ownsRow_nil
abbrev Zi:=@Go.World.size_drew
abbrev Zq:=@Go.wpList_append_lies
abbrev Zr:=@Go.below_drewN
abbrev Zs:=@Go.Sem.run_pure
abbrev Zt:=@Go.Sem.runT_bind'
abbrev ZD:=@Go.World.cell?_of_block
abbrev ZK:=@Go.Goroutine.mk.injEq
abbrev ZN:=@Go.World.cell?_alloc_lt
abbrev ZO:=@Go.Sem.runT.eq_5
abbrev Z0:=@Go.wp_at_zero
abbrev Z1:=@Go.wp_at_succ
abbrev Z4:=@Go.step_append_lies
abbrev Z6:=@Go.World.block_lt_of_cell?
end Go.Proofs
namespace Go.Proofs.YtldmcdeibiclkaaGreatDoor.U
set_option maxRecDepth 100000
inductive FV (J:String->Value):Value->Value->Prop
 |bg (s:String):(∀c,J s≠.agg c)->(∀c,J s≠.tuple c)->(∀b,J s≠.bool b)->FV J (.func (.method s) #[.nilIface] #[]) (J s)
 |bool (b:Bool):FV J (.bool b) (.bool b)
 |int (k:IntKind) (n:Int):FV J (.int k n) (.int k n)
 |string (s:ByteArray):FV J (.string s) (.string s)
 |agg (xs:Array (Value×Value)):(∀z∈xs,FV J z.1 z.2)->FV J (.agg (xs.map (·.1))) (.agg (xs.map (·.2)))
 |tuple (xs:Array (Value×Value)):(∀z∈xs,FV J z.1 z.2)->FV J (.tuple (xs.map (·.1))) (.tuple (xs.map (·.2)))
theorem FV.vr{J:String->Value}{L:aB}(hL:L.bg=J){π:Nat->Nat->Prop}{x y:Value}(h:FV J x y):VR L π x y:=by
 subst hL
 induction h with
 |bg s a b c=>exact .bg s a b c
 |bool b=>exact .bool b
 |int k n=>exact .int k n
 |string s=>exact .string s
 |agg xs _ ih=>exact .agg xs ih
 |tuple xs _ ih=>exact .tuple xs ih
theorem FV.self{J:String->Value}{L:aB}(hL:L.bg=jl){π:Nat->Nat->Prop}{x y:Value}(h:FV J x y):VR L π x x:=by
 induction h with
 |bg s a b c=>
  have:=VR.bg (L:=L) (π:=π) s (λc e=>by rw[hL] at e;cases e) (λc e=>by rw[hL] at e;cases e) (λb e=>by rw[hL] at e;cases e)
  rw[hL] at this
  exact this
 |bool b=>exact .bool b
 |int k n=>exact .int k n
 |string s=>exact .string s
 |agg xs _ ih=>
  have:=VR.agg (L:=L) (π:=π) (xs.map λz=>(z.1,z.1)) (λz hz=>by
   obtain⟨q,hq,rfl⟩:=YQ.1 hz
   exact ih q hq)
  simpa[Array.map_map,Zh] using this
 |tuple xs _ ih=>
  have:=VR.tuple (L:=L) (π:=π) (xs.map λz=>(z.1,z.1)) (λz hz=>by
   obtain⟨q,hq,rfl⟩:=YQ.1 hz
   exact ih q hq)
  simpa[Array.map_map,Zh] using this
theorem wS{R:Value->Value->Prop}{xs ys:Array (Value×Value)}(e:ys.map (·.1)=xs.map (·.1))(h:∀z∈xs,∀y,R z.1 y->y=z.2)(hy:∀z∈ys,R z.1 z.2):ys.map (·.2)=xs.map (·.2):=by
 have hs:ys.size=xs.size:=by simpa using congrArg Array.size e
 apply ZA (by simpa using hs)
 intro i h1 h2
 have i1:i< ys.size:=by simpa using h1
 have i2:i< xs.size:=by simpa using h2
 have ei:ys[i].1=xs[i].1:=by
  have:=congrArg (λa:Array Value=>a[i]?) e
  simpa[i1,i2] using this
 simp only[Array.getElem_map]
 refine h xs[i] (aaf i2) _ ?_
 rw[←ei]
 exact hy _ (aaf i1)
theorem FV.one{J:String->Value}{L:aB}(hL:L.bg=J){π:Nat->Nat->Prop}{x y:Value}(h:FV J x y):∀y',VR L π x y'->y'=y:=by
 subst hL
 induction h with
 |bg s a b c=>intro y' h;generalize hx:(Value.func (.method s) #[.nilIface] #[])=x at h;cases h<;>first|(cases hx;rfl)|cases hx
 |bool b=>intro y' h;cases h;rfl
 |int k n=>intro y' h;cases h;rfl
 |string s=>intro y' h;cases h;rfl
 |agg xs _ ih=>
  intro y' h
  generalize hx:Value.agg (xs.map (·.1))=x at h
  cases h with
  |agg ys hy=>
   congr 1
   exact wS (R:=VR L π) (by injection hx with hx;exact hx.symm) ih hy
  |_=>cases hx
 |tuple xs _ ih=>
  intro y' h
  generalize hx:Value.tuple (xs.map (·.1))=x at h
  cases h with
  |tuple ys hy=>
   congr 1
   exact wS (R:=VR L π) (by injection hx with hx;exact hx.symm) ih hy
  |_=>cases hx
def nm(k:Nat):String:=String.ofList (List.replicate k default)
theorem Vj(k:Nat):(nm k).length=k:=by simp[nm]
def Speaks(J:String->Value)(k:Nat)(ls:List Value):Prop:=∀i,i< ls.length->J (nm (k+i))=ls.getD i (.int .i64 0)
theorem Speaks.left{J:String->Value}{k:Nat}{a b:List Value}(h:Speaks J k (a++b)):Speaks J k a:=λi hi=>by
 rw[h i (by simp;omega)]
 simp[List.getD,YW hi]
theorem Speaks.right{J:String->Value}{k:Nat}{a b:List Value}(h:Speaks J k (a++b)):Speaks J (k+a.length) b:=λi hi=>by
 rw[Nat.add_assoc,h (a.length+i) (by simp;omega)]
 simp[List.getD,Yx]
theorem xu(n:Nat)(hv:∀v:Value,SizeOf.sizeOf v< n->∀k,∃x ls,∀J,Speaks J k ls->FV J x v):∀(l:List Value),(∀v∈l,SizeOf.sizeOf v< n)->∀k,∃(zs:List (Value×Value)) (ls:List Value),zs.map (·.2)=l/\∀J,Speaks J k ls->∀z∈zs,FV J z.1 z.2
 |[],_,k=>⟨[],[],rfl,λJ _ z hz=>by simp at hz⟩
 |v::l,h,k=>by
  obtain⟨x,l1,h1⟩:=hv v (h v (by simp)) k
  obtain⟨zs,l2,e2,h2⟩:=xu n hv l (λu hu=>h u (by simp[hu])) (k+l1.length)
  refine⟨(x,v)::zs,l1++l2,by simp[e2],λJ hJ z hz=>?_⟩
  rcases Yv.1 hz with rfl|hz
  ·exact h1 J hJ.left
  ·exact h2 J hJ.right z hz
theorem KF(n:Nat):∀v:Value,SizeOf.sizeOf v< n->∀k,∃x ls,∀J,Speaks J k ls->FV J x v:=by
 induction n with
 |zero=>intro v h;omega
 |succ n ih=>
  intro v hs k
  have other:(∀c,v≠.agg c)->(∀c,v≠.tuple c)->(∀b,v≠.bool b)->∃x ls,∀J,Speaks J k ls->FV J x v:=λa b c=>
   ⟨.func (.method (nm k)) #[.nilIface] #[],[v],λJ hJ=>by
    have e:J (nm k)=v:=by simpa using hJ 0 (by simp)
    have:=FV.bg (J:=J) (nm k) (by rw[e];exact a) (by rw[e];exact b) (by rw[e];exact c)
    rw[e] at this
    exact this⟩
  cases v with
  |bool b=>exact⟨.bool b,[],λJ _=> .bool b⟩
  |agg c=>
   have hc:∀v∈c.toList,SizeOf.sizeOf v< n:=λv hv=>by
    have h1:=Array.sizeOf_lt_of_mem (aao.1 hv)
    have h2:SizeOf.sizeOf (Value.agg c)=1+SizeOf.sizeOf c:=by simp
    omega
   obtain⟨zs,ls,e,h⟩:=xu n ih c.toList hc k
   refine⟨.agg (zs.toArray.map (·.1)),ls,λJ hJ=>?_⟩
   have:=FV.agg (J:=J) zs.toArray (λz hz=>h J hJ z (by simpa using hz))
   have e2:zs.toArray.map (·.2)=c:=by apply Zo;simpa using e
   rw[e2] at this
   exact this
  |tuple c=>
   have hc:∀v∈c.toList,SizeOf.sizeOf v< n:=λv hv=>by
    have h1:=Array.sizeOf_lt_of_mem (aao.1 hv)
    have h2:SizeOf.sizeOf (Value.tuple c)=1+SizeOf.sizeOf c:=by simp
    omega
   obtain⟨zs,ls,e,h⟩:=xu n ih c.toList hc k
   refine⟨.tuple (zs.toArray.map (·.1)),ls,λJ hJ=>?_⟩
   have:=FV.tuple (J:=J) zs.toArray (λz hz=>h J hJ z (by simpa using hz))
   have e2:zs.toArray.map (·.2)=c:=by apply Zo;simpa using e
   rw[e2] at this
   exact this
  |_=>exact other (λc e=>by cases e) (λc e=>by cases e) (λb e=>by cases e)
section
open Go.Conc
set_option maxRecDepth 100000
theorem JN{P:Program}{fr:Frame}(hk:fr.kind= .normal)(h:P.inits.idxOf? fr.fn=none)(v:Value)(w:World):doReturn P true fr [] none v w= .ended (.done v) w:=by
 simp[doReturn,hk,h]
def tN(J:String->Value)(K:List Nat)(W:World)(f:FuncId)(Φ:Value->World->Prop)(y:Value)(W':World):Prop:=
 ∃x w1 τ',Φ x w1/\CR (cG J) τ' ((cG J).res f) x y/\lP (kr K W) τ' W W'/\∀r s,τ'.un r s->∃o q,w1.heap[r]? =some o/\W'.heap[s]? =some q/\KR (cG J) (CC Pg (cG J) dR) τ' r s o q
def nV(J:String->Value)(K:List Nat)(V W:World):Prop:=V.heap.size=W.heap.size/\∀b∈K,∃zs:Array (Value×Value),∃e g,V.heap[b]? =some (.cells (zs.map (·.1)) e g)/\W.heap[b]? =some (.cells (zs.map (·.2)) e g)/\∀z∈zs,FV J z.1 z.2
theorem nV.flat{J:String->Value}{K:List Nat}{V W:World}(h:nV J K V W):∀b∈K,Fa V b:=λb hb=>by
 obtain⟨zs,e,g,h1,_,h3⟩:=h.2 b hb
 refine⟨_,e,g,h1,λx hx π=>?_⟩
 obtain⟨z,hz,rfl⟩:=YQ.1 hx
 exact (h3 z hz).self rfl
section
variable {K:List Nat} {V W:World} {J:String->Value}
theorem Ua(h0:0∈K)(hs:0< W.heap.size)(hbl:nV J K V W){f:FuncId}(hf:(cG J).fn f)(hnp:f≠fQ)(hcol:∀i,(cG J).cM f i= .any){args:Array Value}(ha:∀v∈args,oZ K W v):
  jy Pg Gg (cG J) dR (λ_=>False) [] (kr K W) (Frame.enter Qg f args .normal) [] (bare K V) #[G (Frame.enter Pg f args .normal) []] W #[] (λ_=>0):=by
 refine⟨⟨_,rfl,⟨⟨?_,⟨rfl,rfl⟩,⟨rfl,rfl⟩,⟨rfl,rfl⟩,[],[],rfl,rfl,.nil _,rfl⟩,?_,?_,λr s h=>?_,λr s h=>?_⟩⟩,leavers_one _ _,?_,λr s _ h=>h,λs h=>h.elim⟩
 ·refine iJ.enter wX hf (AH hcol ha) (λk hk=>?_)
  have:(if f==fQ then some 3 else none)=some k:=hk
  rw[AS (by simpa using hnp)] at this
  cases this
 ·exact ze K W
 ·exact E4 h0 hs rfl
 ·obtain⟨rfl,_,hlt⟩:=kS.1 h
  exact⟨by rw[uy,hbl.1];exact hlt,hlt⟩
 ·obtain⟨rfl,hk,hlt⟩:=kS.1 h
  obtain⟨zs,e,g,h1,h2,h3⟩:=hbl.2 r hk
  refine⟨_,_,by rw[nO hk];exact h1,h2,λ_=> .cells e g ⟨zs,rfl,rfl,λz hz=>(h3 z hz).vr rfl⟩,λh=>h.elim,λh=>h.elim⟩
 ·have:=past_nil
  exact⟨this.clean,λi a ha=>by simp[touchAt,Trace.act?] at ha,this.over,this.hears,λop ag=>by simp at ag⟩
theorem Ue(h0:0∈K)(hs:0< W.heap.size)(hbl:nV J K V W){f:FuncId}(hf:(cG J).fn f)(hnp:f≠fQ)(hin:Pg.inits.idxOf? f=none)(hcol:∀i,(cG J).cM f i= .any){args:Array Value}(ha:∀v∈args,oZ K W v){Φ:Value->World->Prop}(hΦ:∀v w (t:Nat->Question->Nat),Φ v w->Φ v {w with tape:=t})(hc:∀t:Nat->Question->Nat,Calls Qg f args {bare K V with tape:=t} λe w'=>∃v,e= .returned v/\Φ v w'):
  ∃M last o w' t',runNT Pg (M+1) (solo (G (Frame.enter Pg f args .normal) []) W) #[]=(.ended o w',t')/\runN Pg M (solo (G (Frame.enter Pg f args .normal) []) W)= .next last/\step Pg last= .ended o w'/\Go.Conc.Good Pg (tN J K W f Φ) last o w' t':=by
 have hsafe:=Ko (W:=V) h0 (by rw[hbl.1];exact hs) hbl.flat (f:=f) hf hcol (λv hv=>(ha v hv).imp id λ⟨a,n,c,e,h1,h2⟩=>⟨a,n,c,e,h1,by rw[hbl.1];exact h2⟩) hΦ hc
 have hg:∀fr cs w,vc Qg f Φ fr cs w->cs= []/\fr.fn≠fQ:=λfr cs w h=>⟨h.1,by rw[h.2.1];exact hnp⟩
 obtain⟨N,gs',v',sl',t',q',τ',fr',cs',w1,Sh',hr,hb,hgoal,hwent⟩:=(Hv Bl (KB hg []) hsafe).1 _ W none _ _ _ _ (Ua h0 hs hbl hf hnp hcol ha)
 obtain⟨rfl,hfn,hmode,hdef,fn,x,hfun,⟨tp,hres⟩,hφ⟩:=hgoal
 obtain⟨h,hh0,hS⟩:=hb.main
 have hfun':Pg.funcs[fr'.fn]? =some fn:=by
  rw[hfn,←yo hnp];exact hfun
 have hend:Goes Pg true AtRel (λ_ _ _=>False) (AtEnd Pg (jO Sh') v'.heap.size (tN J K W f Φ)) 0 h v':=by
  rintro _ ⟨d,rfl⟩
  obtain⟨y,fs,hy,hev,hcl,hkind,hfn2,hst⟩:=(hS.at d).last Bl true (show fr'.fn≠dR.bI by rw[hfn];exact hnp) ⟨hmode,hdef,rfl⟩ hfun' hres
  refine⟨hS.g.status.2,y,fs,?_,λe he=>FL (hev e he) ?_ ?_,x,w1,τ',hφ,?_,?_,?_⟩
  ·rw[hst]
   have hff:h.frame.fn=f:=hfn2.trans hfn
   rw[JN hkind (by rw[hff];exact hin)]
   simp[GStep.after]
  ·rintro s ⟨r,hx⟩ hsh
   exact hb.apart r s hx hsh
  ·rintro s ⟨r,hx⟩
   exact (hS.cf r s hx).2
  ·have hy':CR (cG J) τ' ((cG J).res fr'.fn) x y:=hy
   rw[hfn] at hy'
   exact hy'
  ·exact⟨hwent.grow,hwent.tape,hwent.os,hwent.output,hwent.gh,hwent.more,hwent.new⟩
  ·exact hS.obj
 obtain⟨M,last,o,w',t'',e1,e2,e3,e4⟩:=beside_ends (P:=Pg) (sl:=sl') (λw w' es h=>h.elim) hh0 hb.gV hb.mO hend
 have hr':runNT Pg N (solo (G (Frame.enter Pg f args .normal) []) W) #[]=(.next (crowd gs' v' sl'),t'):=hr
 refine⟨N+M,last,o,w',t'',?_,?_,e3,e4⟩
 ·rw[show N+M+1=N+(M+1) by omega,runNT_add,hr']
  exact e1
 ·rw[←runNT_fst _ _ _ #[],runNT_add,hr']
  rw[←runNT_fst _ _ _ t'] at e2
  exact e2
end
end
end Go.Proofs.YtldmcdeibiclkaaGreatDoor.U
namespace Go.Proofs.YtldmcdeibiclkaaGreatDoor.U
open Go.RowKit
section
open Go.Conc
set_option maxRecDepth 100000
def aU(v:Value):Prop:=(∃k n,v= .int k n)\/∃s,v= .string s
theorem aU.fv{J:String->Value}{v:Value}(h:aU v):FV J v v:=by
 rcases h with ⟨k,n,rfl⟩|⟨s,rfl⟩
 ·exact .int k n
 ·exact .string s
theorem y7(c:Array Value)(held:Nat->Prop)(k:Nat)(hh:∀i v,held i->c[i]? =some v->aU v):
  ∃(zs:Array (Value×Value)) (ls:List Value),zs.map (·.2)=c/\(∀J,Speaks J k ls->∀z∈zs,FV J z.1 z.2)/\∀i v,held i->c[i]? =some v->(zs.map (·.1))[i]? =some v:=by
 have key:∀(l:List Value) (i0 k:Nat),(∀i v,held (i0+i)->l[i]? =some v->aU v)->∃(zs:List (Value×Value)) (ls:List Value),zs.map (·.2)=l/\(∀J,Speaks J k ls->∀z∈zs,FV J z.1 z.2)/\∀i v,held (i0+i)->l[i]? =some v->(zs.map (·.1))[i]? =some v:=by
  intro l
  induction l with
  |nil=>intro i0 k _;exact⟨[],[],rfl,λJ _ z hz=>by simp at hz,λi v _ h=>by simp at h⟩
  |cons u l ih=>
   intro i0 k hl
   have hl':∀i v,held (i0+1+i)->l[i]? =some v->aU v:=λi v h1 h2=>hl (i+1) v (by rwa [show i0+(i+1)=i0+1+i by omega]) (by simpa using h2)
   by_cases h0:held i0
   ·have hu:=hl 0 u (by simpa using h0) (by simp)
    obtain⟨zs,ls,e,h1,h2⟩:=ih (i0+1) k hl'
    refine⟨(u,u)::zs,ls,by simp[e],λJ hJ z hz=>?_,λi v hi hv=>?_⟩
    ·rcases Yv.1 hz with rfl|hz
     ·exact hu.fv
     ·exact h1 J hJ z hz
    ·cases i with
     |zero=>simpa using hv
     |succ i=>
      simp only[YI,List.getElem?_cons_succ] at hv ⊢
      exact h2 i v (by rwa [show i0+1+i=i0+(i+1) by omega]) hv
   ·obtain⟨x,l1,hx⟩:=KF _ u (Nat.lt_succ_self _) k
    obtain⟨zs,ls,e,h1,h2⟩:=ih (i0+1) (k+l1.length) hl'
    refine⟨(x,u)::zs,l1++ls,by simp[e],λJ hJ z hz=>?_,λi v hi hv=>?_⟩
    ·rcases Yv.1 hz with rfl|hz
     ·exact hx J hJ.left
     ·exact h1 J hJ.right z hz
    ·cases i with
     |zero=>exact absurd hi (by simpa using h0)
     |succ i=>
      simp only[YI,List.getElem?_cons_succ] at hv ⊢
      exact h2 i v (by rwa [show i0+1+i=i0+(i+1) by omega]) hv
 obtain⟨zs,ls,e,h1,h2⟩:=key c.toList 0 k (λi v h1 h2=>hh i v (by simpa using h1) (by simpa using h2))
 refine⟨zs.toArray,ls,by apply Zo;simpa using e,λJ hJ z hz=>h1 J hJ z (by simpa using hz),λi v hi hv=>?_⟩
 have:=h2 i v (by simpa using hi) (by simpa using hv)
 simpa using this
theorem Mg{W:World}{bs:Nat}(held:Nat->Nat->Prop){c0 cb:Array Value}{e0 eb:TypeId}{f0 fb:Nat×Nat}(h0:W.heap[0]? =some (.cells c0 e0 f0))(hb:W.heap[bs]? =some (.cells cb eb fb))(hh:∀r i v,held r i->W.cell? ⟨r,i,none⟩=some v->aU v):
  ∃J V,nV J [0,bs] V W/\∀r,r∈[0,bs]->∀i v,held r i->W.cell? ⟨r,i,none⟩=some v->V.cell? ⟨r,i,none⟩=some v:=by
 obtain⟨z0,l0,e0',q0,p0⟩:=y7 c0 (held 0) 0 (λi v hi hv=>hh 0 i v hi (by simp[World.cell?,h0,hv]))
 obtain⟨zb,lb,eb',qb,pb⟩:=y7 cb (held bs) l0.length (λi v hi hv=>hh bs i v hi (by simp[World.cell?,hb,hv]))
 have hl0:=(IN.1 h0).1
 have hlb:=(IN.1 hb).1
 have hJ:Speaks (λs=>(l0++lb).getD s.length (.int .i64 0)) 0 (l0++lb):=λi hi=>by simp[Vj]
 refine⟨λs=>(l0++lb).getD s.length (.int .i64 0),{W with heap:=(W.heap.setIfInBounds 0 (.cells (z0.map (·.1)) e0 f0)).setIfInBounds bs (.cells (zb.map (·.1)) eb fb)},⟨by simp,λb hbm=>?_⟩,λr hr i v hi hv=>?_⟩
 ·by_cases e:b=bs
  ·subst e
   refine⟨zb,eb,fb,by simp[hlb],by rw[hb,eb'],λz hz=>qb _ (by simpa using hJ.right) z hz⟩
  ·have e2:b=0:=by simpa[e] using hbm
   subst e2
   refine⟨z0,e0,f0,?_,by rw[h0,e0'],λz hz=>q0 _ hJ.left z hz⟩
   show ((W.heap.setIfInBounds 0 _).setIfInBounds bs _)[0]? =_
   rw[Ye (Ne.symm e)]
   simp[hl0]
 ·by_cases e:r=bs
  ·subst e
   simp only[World.cell?,hb] at hv
   have:=pb i v hi (by simpa using hv)
   simp only[World.cell?]
   rw[YT (by simpa using hlb)]
   simpa using this
  ·have e2:r=0:=by simpa[e] using hr
   subst e2
   simp only[World.cell?,h0] at hv
   have:=p0 i v hi (by simpa using hv)
   simp only[World.cell?]
   rw[Ye (Ne.symm e),YT hl0]
   simpa using this
theorem QU{J:String->Value}{K:List Nat}{V W W':World}{f:FuncId}{x0 y:Value}(hbl:nV J K V W)(hres:(cG J).res f= .any)(hx:∀π y,VR (cG J) π x0 y->y=x0)(h:tN J K W f (λx w1=>x=x0/\∀k,k< V.heap.size->w1.heap[k]? =(bare K V).heap[k]?) y W'):y=x0/\Go.RowKit.Below W.heap.size W W':=by
 obtain⟨x,w1,τ',⟨rfl,hw1⟩,hcr,hwent,hobj⟩:=h
 rw[hres] at hcr
 refine⟨hx _ _ hcr,hwent.os,hwent.tape,hwent.output,hwent.grow,λk hk=>?_⟩
 by_cases hkK:k∈K
 ·have ht:(kr K W).all k k:=⟨rfl,hkK,hk⟩
  have ht':=hwent.more.all _ _ ht
  obtain⟨o,q,ho,hq,hkr⟩:=hobj k k (.inl ht')
  rw[hw1 k (by rw[hbl.1];exact hk),nO hkK] at ho
  obtain⟨zs,e,g,h1,h2,h3⟩:=hbl.2 k hkK
  rw[h1] at ho
  cases ho
  have:=hkr.all ht'
  generalize ho:Obj.cells (zs.map (·.1)) e g=o at this
  cases this with
  |cells e' f' hxr=>
   cases ho
   obtain⟨ys,ex,ey,hy⟩:=hxr
   rw[hq,h2,ey]
   congr 2
   exact wS (R:=VR (cG J) τ'.all) ex.symm (λz hz y hzy=>(h3 z hz).one rfl y hzy) hy
  |_=>cases ho
 ·exact hwent.gh k hk λr hr=>hkK (by
   obtain⟨e,h1,_⟩:=kS.1 hr
   exact e ▸ h1)
end
end Go.Proofs.YtldmcdeibiclkaaGreatDoor.U
namespace Go.Proofs
section
noncomputable def aa.prog:Program:=Go.Proofs.YtldmcdeibiclkaaGreatDoor.U.Qg
theorem aa.is:aa.prog=Go.Proofs.YtldmcdeibiclkaaGreatDoor.U.gp Tryz.prog Go.Proofs.YtldmcdeibiclkaaGreatDoor.U.Gg:=rfl
section
variable (P:Program) (G:Array Func) (t:TypeId) (w:World)
theorem aa.G3:(Go.Proofs.YtldmcdeibiclkaaGreatDoor.U.gp P G).depth=P.depth:=rfl
theorem aa.Gz:(Go.Proofs.YtldmcdeibiclkaaGreatDoor.U.gp P G).underlying t=P.underlying t:=rfl
theorem aa.Al:(Go.Proofs.YtldmcdeibiclkaaGreatDoor.U.gp P G).funcs=G:=rfl
theorem aa.Dn:Sem.run P Go.program w= .ok P w:=rfl
theorem aa.Cd:Sem.run (Go.Proofs.YtldmcdeibiclkaaGreatDoor.U.gp P G) (typeInfo t) w=Sem.run P (typeInfo t) w:=by
 simp only[typeInfo,YC,aa.Dn,YU,Go.Proofs.YtldmcdeibiclkaaGreatDoor.U.Fh]
 cases P.info? t<;>rfl
theorem aa.Eu:Sem.run (Go.Proofs.YtldmcdeibiclkaaGreatDoor.U.gp P G) (underlying t) w=Sem.run P (underlying t) w:=by
 simp only[underlying,YC,aa.Dn,YU,Go.Proofs.YtldmcdeibiclkaaGreatDoor.U.Am]
 cases P.underlying t<;>rfl
theorem aa.U7:Sem.run (Go.Proofs.YtldmcdeibiclkaaGreatDoor.U.gp P G) (sizeOf t) w=Sem.run P (sizeOf t) w:=by
 simp only[sizeOf,YC,aa.Cd]
 cases Sem.run P (typeInfo t) w<;>rfl
theorem aa.Ss(P Q:Program)(w:World)(x:Unsupported):Sem.run P (unsupported x:Sem Value) w=Sem.run Q (unsupported x:Sem Value) w:=by unfold unsupported;rfl
theorem aa.Ha:Sem.run (Go.Proofs.YtldmcdeibiclkaaGreatDoor.U.gp P G) (zeroValue t) w=Sem.run P (zeroValue t) w:=by
 unfold zeroValue
 rw[YC,YC,aa.Cd]
 congr 1
 funext i w
 cases i.zero with
 |some v=>simp only[Zs]
 |none=>exact aa.Ss _ _ _ _
theorem aa.PF:Sem.run (Go.Proofs.YtldmcdeibiclkaaGreatDoor.U.gp P G) (isAgg t) w=Sem.run P (isAgg t) w:=by
 unfold isAgg
 rw[YC,YC,aa.Eu]
 congr 1
 funext i w
 cases i<;>simp only[Zs]
end
section
variable (t:TypeId) (w:World)
@[simp] theorem aa.eh:Sem.run aa.prog (sizeOf t) w=Sem.run Tryz.prog (sizeOf t) w:=by rw[aa.is];exact aa.U7 _ _ t w
@[simp] theorem aa.XV:Sem.run aa.prog (underlying t) w=Sem.run Tryz.prog (underlying t) w:=by rw[aa.is];exact aa.Eu _ _ t w
@[simp] theorem aa.ec:Sem.run aa.prog (isAgg t) w=Sem.run Tryz.prog (isAgg t) w:=by rw[aa.is];exact aa.PF _ _ t w
theorem aa.b9:Sem.run aa.prog (zeroValue t) w=Sem.run Tryz.prog (zeroValue t) w:=by rw[aa.is];exact aa.Ha _ _ t w
@[simp] theorem aa.cz:aa.prog.underlying t=Tryz.prog.underlying t:=by rw[aa.is];exact aa.Gz _ _ t
@[simp] theorem aa.XU(d:Nat):aa.prog.eqGuardType d t=Tryz.prog.eqGuardType d t:=by rw[aa.is];exact Go.Proofs.YtldmcdeibiclkaaGreatDoor.U.ug _ _ d t
@[simp] theorem aa.XT:aa.prog.depth=Tryz.prog.depth:=by rw[aa.is];exact aa.G3 _ _
end
theorem aa.Ov{f:Nat}(h:f≠68):aa.prog.funcs[f]? =Tryz.prog.funcs[f]? :=by
 rw[aa.is,aa.Al,Go.Proofs.YtldmcdeibiclkaaGreatDoor.U.Gg]
 rw[Ye (Ne.symm h)]
theorem aa.M5{P:Program}{f:FuncId}{fn:Func}(h1:P.funcs[f]? =some fn)(h2:(fn.name== "runtime.NumGoroutine")=false)(h3:fn.body.isNone=false)(args:Array Value)(w:World):Sem.run P (callFunc f args) w= .ok (.enter f args) w:=by
 rw[←Sem.runT_fst _ _ _ #[]]
 unfold callFunc
 show (((Go.program).bind _).runT P w #[]).1=_
 rw[Zt]
 simp only[Go.program,Sem.runT,h1,h2,h3,Yd,Yb]
 rfl
theorem aa.aK{f:Nat}{fn:Func}(h:aa.prog.funcs[f]? =some fn)(h1:(fn.name== "runtime.NumGoroutine")=false)(h2:fn.body.isNone=false)(args:Array Value)(w:World):Sem.run aa.prog (callFunc f args) w= .ok (.enter f args) w:=
 aa.M5 h h1 h2 args w
theorem aa.az{n:Nat}{x:Func}(h:Tryz.prog.funcs[n]? =some x)(hn:n≠68):aa.prog.funcs[n]? =some x:=(aa.Ov hn).trans h
abbrev aa.underlying0:=(aa.cz 0).trans Tryz.underlying0
abbrev aa.sizeOf0(w:World):=(aa.eh 0 w).trans (Tryz.sizeOf0 w)
abbrev aa.isAgg0(w:World):=(aa.ec 0 w).trans (Tryz.isAgg0 w)
abbrev aa.underlying3:=(aa.cz 3).trans Tryz.underlying3
abbrev aa.sizeOf3(w:World):=(aa.eh 3 w).trans (Tryz.sizeOf3 w)
abbrev aa.isAgg3(w:World):=(aa.ec 3 w).trans (Tryz.isAgg3 w)
abbrev aa.underlying4:=(aa.cz 4).trans Tryz.underlying4
abbrev aa.sizeOf4(w:World):=(aa.eh 4 w).trans (Tryz.sizeOf4 w)
abbrev aa.isAgg4(w:World):=(aa.ec 4 w).trans (Tryz.isAgg4 w)
abbrev aa.underlying5:=(aa.cz 5).trans Tryz.underlying5
abbrev aa.sizeOf5(w:World):=(aa.eh 5 w).trans (Tryz.sizeOf5 w)
abbrev aa.isAgg5(w:World):=(aa.ec 5 w).trans (Tryz.isAgg5 w)
abbrev aa.underlying9:=(aa.cz 9).trans Tryz.underlying9
abbrev aa.sizeOf9(w:World):=(aa.eh 9 w).trans (Tryz.sizeOf9 w)
abbrev aa.isAgg9(w:World):=(aa.ec 9 w).trans (Tryz.isAgg9 w)
abbrev aa.underlying22:=(aa.cz 22).trans Tryz.underlying22
abbrev aa.underlying30:=(aa.cz 30).trans Tryz.underlying30
abbrev aa.underlying31:=(aa.cz 31).trans Tryz.underlying31
abbrev aa.underlying33:=(aa.cz 33).trans Tryz.underlying33
abbrev aa.underlying34:=(aa.cz 34).trans Tryz.underlying34
abbrev aa.underlying36:=(aa.cz 36).trans Tryz.underlying36
abbrev aa.underlying38:=(aa.cz 38).trans Tryz.underlying38
abbrev aa.sizeOf38(w:World):=(aa.eh 38 w).trans (Tryz.sizeOf38 w)
abbrev aa.isAgg38(w:World):=(aa.ec 38 w).trans (Tryz.isAgg38 w)
abbrev aa.underlying44:=(aa.cz 44).trans Tryz.underlying44
abbrev aa.sizeOf44(w:World):=(aa.eh 44 w).trans (Tryz.sizeOf44 w)
abbrev aa.isAgg44(w:World):=(aa.ec 44 w).trans (Tryz.isAgg44 w)
abbrev aa.underlying48:=(aa.cz 48).trans Tryz.underlying48
abbrev aa.sizeOf48(w:World):=(aa.eh 48 w).trans (Tryz.sizeOf48 w)
abbrev aa.isAgg48(w:World):=(aa.ec 48 w).trans (Tryz.isAgg48 w)
abbrev aa.underlying55:=(aa.cz 55).trans Tryz.underlying55
abbrev aa.sizeOf55(w:World):=(aa.eh 55 w).trans (Tryz.sizeOf55 w)
abbrev aa.isAgg55(w:World):=(aa.ec 55 w).trans (Tryz.isAgg55 w)
abbrev aa.underlying67:=(aa.cz 67).trans Tryz.underlying67
abbrev aa.underlying71:=(aa.cz 71).trans Tryz.underlying71
abbrev aa.underlying74:=(aa.cz 74).trans Tryz.underlying74
abbrev aa.underlying98:=(aa.cz 98).trans Tryz.underlying98
abbrev aa.sizeOf98(w:World):=(aa.eh 98 w).trans (Tryz.sizeOf98 w)
abbrev aa.isAgg98(w:World):=(aa.ec 98 w).trans (Tryz.isAgg98 w)
abbrev aa.underlying102:=(aa.cz 102).trans Tryz.underlying102
abbrev aa.underlying103:=(aa.cz 103).trans Tryz.underlying103
abbrev aa.sizeOf103(w:World):=(aa.eh 103 w).trans (Tryz.sizeOf103 w)
abbrev aa.isAgg103(w:World):=(aa.ec 103 w).trans (Tryz.isAgg103 w)
abbrev aa.underlying104:=(aa.cz 104).trans Tryz.underlying104
abbrev aa.sizeOf104(w:World):=(aa.eh 104 w).trans (Tryz.sizeOf104 w)
abbrev aa.isAgg104(w:World):=(aa.ec 104 w).trans (Tryz.isAgg104 w)
abbrev aa.underlying119:=(aa.cz 119).trans Tryz.underlying119
abbrev aa.underlying126:=(aa.cz 126).trans Tryz.underlying126
abbrev aa.underlying130:=(aa.cz 130).trans Tryz.underlying130
abbrev aa.sizeOf144(w:World):=(aa.eh 144 w).trans (Tryz.sizeOf144 w)
abbrev aa.isAgg144(w:World):=(aa.ec 144 w).trans (Tryz.isAgg144 w)
abbrev aa.underlying146:=(aa.cz 146).trans Tryz.underlying146
abbrev aa.sizeOf146(w:World):=(aa.eh 146 w).trans (Tryz.sizeOf146 w)
abbrev aa.isAgg146(w:World):=(aa.ec 146 w).trans (Tryz.isAgg146 w)
abbrev aa.underlying147:=(aa.cz 147).trans Tryz.underlying147
abbrev aa.underlying154:=(aa.cz 154).trans Tryz.underlying154
abbrev aa.sizeOf154(w:World):=(aa.eh 154 w).trans (Tryz.sizeOf154 w)
abbrev aa.isAgg154(w:World):=(aa.ec 154 w).trans (Tryz.isAgg154 w)
abbrev aa.underlying155:=(aa.cz 155).trans Tryz.underlying155
abbrev aa.sizeOf155(w:World):=(aa.eh 155 w).trans (Tryz.sizeOf155 w)
abbrev aa.isAgg155(w:World):=(aa.ec 155 w).trans (Tryz.isAgg155 w)
abbrev aa.underlying175:=(aa.cz 175).trans Tryz.underlying175
abbrev aa.sizeOf175(w:World):=(aa.eh 175 w).trans (Tryz.sizeOf175 w)
abbrev aa.isAgg175(w:World):=(aa.ec 175 w).trans (Tryz.isAgg175 w)
abbrev aa.underlying177:=(aa.cz 177).trans Tryz.underlying177
abbrev aa.sizeOf177(w:World):=(aa.eh 177 w).trans (Tryz.sizeOf177 w)
abbrev aa.isAgg177(w:World):=(aa.ec 177 w).trans (Tryz.isAgg177 w)
abbrev aa.underlying186:=(aa.cz 186).trans Tryz.underlying186
abbrev aa.sizeOf186(w:World):=(aa.eh 186 w).trans (Tryz.sizeOf186 w)
abbrev aa.isAgg186(w:World):=(aa.ec 186 w).trans (Tryz.isAgg186 w)
abbrev aa.underlying199:=(aa.cz 199).trans Tryz.underlying199
abbrev aa.sizeOf199(w:World):=(aa.eh 199 w).trans (Tryz.sizeOf199 w)
abbrev aa.isAgg199(w:World):=(aa.ec 199 w).trans (Tryz.isAgg199 w)
abbrev aa.underlying200:=(aa.cz 200).trans Tryz.underlying200
abbrev aa.sizeOf200(w:World):=(aa.eh 200 w).trans (Tryz.sizeOf200 w)
abbrev aa.isAgg200(w:World):=(aa.ec 200 w).trans (Tryz.isAgg200 w)
abbrev aa.underlying225:=(aa.cz 225).trans Tryz.underlying225
abbrev aa.sizeOf225(w:World):=(aa.eh 225 w).trans (Tryz.sizeOf225 w)
abbrev aa.isAgg225(w:World):=(aa.ec 225 w).trans (Tryz.isAgg225 w)
abbrev aa.underlying228:=(aa.cz 228).trans Tryz.underlying228
abbrev aa.sizeOf228(w:World):=(aa.eh 228 w).trans (Tryz.sizeOf228 w)
abbrev aa.isAgg228(w:World):=(aa.ec 228 w).trans (Tryz.isAgg228 w)
abbrev aa.underlying242:=(aa.cz 242).trans Tryz.underlying242
abbrev aa.sizeOf242(w:World):=(aa.eh 242 w).trans (Tryz.sizeOf242 w)
abbrev aa.isAgg242(w:World):=(aa.ec 242 w).trans (Tryz.isAgg242 w)
abbrev aa.underlying243:=(aa.cz 243).trans Tryz.underlying243
abbrev aa.sizeOf243(w:World):=(aa.eh 243 w).trans (Tryz.sizeOf243 w)
abbrev aa.isAgg243(w:World):=(aa.ec 243 w).trans (Tryz.isAgg243 w)
@[simp] abbrev aa.zeroValue0(w:World):=(aa.b9 0 w).trans (Tryz.zeroValue0 w)
@[simp] abbrev aa.zeroValue3(w:World):=(aa.b9 3 w).trans (Tryz.zeroValue3 w)
@[simp] abbrev aa.zeroValue4(w:World):=(aa.b9 4 w).trans (Tryz.zeroValue4 w)
@[simp] abbrev aa.zeroValue5(w:World):=(aa.b9 5 w).trans (Tryz.zeroValue5 w)
@[simp] abbrev aa.zeroValue9(w:World):=(aa.b9 9 w).trans (Tryz.zeroValue9 w)
@[simp] abbrev aa.zeroValue25(w:World):=(aa.b9 25 w).trans (Tryz.zeroValue25 w)
@[simp] abbrev aa.zeroValue29(w:World):=(aa.b9 29 w).trans (Tryz.zeroValue29 w)
@[simp] abbrev aa.zeroValue38(w:World):=(aa.b9 38 w).trans (Tryz.zeroValue38 w)
@[simp] abbrev aa.zeroValue44(w:World):=(aa.b9 44 w).trans (Tryz.zeroValue44 w)
@[simp] abbrev aa.zeroValue48(w:World):=(aa.b9 48 w).trans (Tryz.zeroValue48 w)
@[simp] abbrev aa.zeroValue55(w:World):=(aa.b9 55 w).trans (Tryz.zeroValue55 w)
@[simp] abbrev aa.zeroValue66(w:World):=(aa.b9 66 w).trans (Tryz.zeroValue66 w)
@[simp] abbrev aa.zeroValue71(w:World):=(aa.b9 71 w).trans (Tryz.zeroValue71 w)
@[simp] abbrev aa.zeroValue81(w:World):=(aa.b9 81 w).trans (Tryz.zeroValue81 w)
@[simp] abbrev aa.zeroValue82(w:World):=(aa.b9 82 w).trans (Tryz.zeroValue82 w)
@[simp] abbrev aa.zeroValue98(w:World):=(aa.b9 98 w).trans (Tryz.zeroValue98 w)
@[simp] abbrev aa.zeroValue102(w:World):=(aa.b9 102 w).trans (Tryz.zeroValue102 w)
@[simp] abbrev aa.zeroValue103(w:World):=(aa.b9 103 w).trans (Tryz.zeroValue103 w)
@[simp] abbrev aa.zeroValue104(w:World):=(aa.b9 104 w).trans (Tryz.zeroValue104 w)
@[simp] abbrev aa.zeroValue106(w:World):=(aa.b9 106 w).trans (Tryz.zeroValue106 w)
@[simp] abbrev aa.zeroValue115(w:World):=(aa.b9 115 w).trans (Tryz.zeroValue115 w)
@[simp] abbrev aa.zeroValue128(w:World):=(aa.b9 128 w).trans (Tryz.zeroValue128 w)
@[simp] abbrev aa.zeroValue132(w:World):=(aa.b9 132 w).trans (Tryz.zeroValue132 w)
@[simp] abbrev aa.zeroValue142(w:World):=(aa.b9 142 w).trans (Tryz.zeroValue142 w)
@[simp] abbrev aa.zeroValue144(w:World):=(aa.b9 144 w).trans (Tryz.zeroValue144 w)
@[simp] abbrev aa.zeroValue146(w:World):=(aa.b9 146 w).trans (Tryz.zeroValue146 w)
@[simp] abbrev aa.zeroValue151(w:World):=(aa.b9 151 w).trans (Tryz.zeroValue151 w)
@[simp] abbrev aa.zeroValue154(w:World):=(aa.b9 154 w).trans (Tryz.zeroValue154 w)
@[simp] abbrev aa.zeroValue155(w:World):=(aa.b9 155 w).trans (Tryz.zeroValue155 w)
@[simp] abbrev aa.zeroValue158(w:World):=(aa.b9 158 w).trans (Tryz.zeroValue158 w)
@[simp] abbrev aa.zeroValue163(w:World):=(aa.b9 163 w).trans (Tryz.zeroValue163 w)
@[simp] abbrev aa.zeroValue167(w:World):=(aa.b9 167 w).trans (Tryz.zeroValue167 w)
@[simp] abbrev aa.zeroValue175(w:World):=(aa.b9 175 w).trans (Tryz.zeroValue175 w)
@[simp] abbrev aa.zeroValue177(w:World):=(aa.b9 177 w).trans (Tryz.zeroValue177 w)
@[simp] abbrev aa.zeroValue186(w:World):=(aa.b9 186 w).trans (Tryz.zeroValue186 w)
@[simp] abbrev aa.zeroValue199(w:World):=(aa.b9 199 w).trans (Tryz.zeroValue199 w)
@[simp] abbrev aa.zeroValue200(w:World):=(aa.b9 200 w).trans (Tryz.zeroValue200 w)
@[simp] abbrev aa.zeroValue225(w:World):=(aa.b9 225 w).trans (Tryz.zeroValue225 w)
@[simp] abbrev aa.zeroValue228(w:World):=(aa.b9 228 w).trans (Tryz.zeroValue228 w)
@[simp] abbrev aa.zeroValue242(w:World):=(aa.b9 242 w).trans (Tryz.zeroValue242 w)
@[simp] abbrev aa.zeroValue243(w:World):=(aa.b9 243 w).trans (Tryz.zeroValue243 w)
@[simp] abbrev aa.func4:=aa.az Tryz.func4 (by decide)
abbrev aa.ntmps4:=Tryz.ntmps4
@[simp] abbrev aa.func7:=aa.az Tryz.func7 (by decide)
abbrev aa.ntmps7:=Tryz.ntmps7
@[simp] abbrev aa.func8:=aa.az Tryz.func8 (by decide)
abbrev aa.ntmps8:=Tryz.ntmps8
@[simp] abbrev aa.func9:=aa.az Tryz.func9 (by decide)
abbrev aa.ntmps9:=Tryz.ntmps9
@[simp] abbrev aa.func11:=aa.az Tryz.func11 (by decide)
abbrev aa.ntmps11:=Tryz.ntmps11
@[simp] abbrev aa.func12:=aa.az Tryz.func12 (by decide)
abbrev aa.ntmps12:=Tryz.ntmps12
@[simp] abbrev aa.func13:=aa.az Tryz.func13 (by decide)
abbrev aa.ntmps13:=Tryz.ntmps13
@[simp] abbrev aa.func14:=aa.az Tryz.func14 (by decide)
abbrev aa.ntmps14:=Tryz.ntmps14
@[simp] abbrev aa.func15:=aa.az Tryz.func15 (by decide)
abbrev aa.ntmps15:=Tryz.ntmps15
@[simp] abbrev aa.func16:=aa.az Tryz.func16 (by decide)
abbrev aa.ntmps16:=Tryz.ntmps16
@[simp] abbrev aa.func18:=aa.az Tryz.func18 (by decide)
abbrev aa.ntmps18:=Tryz.ntmps18
@[simp] abbrev aa.func20:=aa.az Tryz.func20 (by decide)
abbrev aa.ntmps20:=Tryz.ntmps20
@[simp] abbrev aa.func21:=aa.az Tryz.func21 (by decide)
abbrev aa.ntmps21:=Tryz.ntmps21
@[simp] abbrev aa.func22:=aa.az Tryz.func22 (by decide)
abbrev aa.ntmps22:=Tryz.ntmps22
abbrev aa.results22:=Tryz.results22
@[simp] abbrev aa.func23:=aa.az Tryz.func23 (by decide)
abbrev aa.ntmps23:=Tryz.ntmps23
@[simp] abbrev aa.func24:=aa.az Tryz.func24 (by decide)
abbrev aa.ntmps24:=Tryz.ntmps24
@[simp] abbrev aa.func25:=aa.az Tryz.func25 (by decide)
abbrev aa.ntmps25:=Tryz.ntmps25
@[simp] abbrev aa.func26:=aa.az Tryz.func26 (by decide)
abbrev aa.ntmps26:=Tryz.ntmps26
@[simp] abbrev aa.func27:=aa.az Tryz.func27 (by decide)
abbrev aa.ntmps27:=Tryz.ntmps27
@[simp] abbrev aa.func28:=aa.az Tryz.func28 (by decide)
abbrev aa.ntmps28:=Tryz.ntmps28
@[simp] abbrev aa.func29:=aa.az Tryz.func29 (by decide)
abbrev aa.ntmps29:=Tryz.ntmps29
@[simp] abbrev aa.func30:=aa.az Tryz.func30 (by decide)
abbrev aa.ntmps30:=Tryz.ntmps30
@[simp] abbrev aa.func31:=aa.az Tryz.func31 (by decide)
abbrev aa.ntmps31:=Tryz.ntmps31
@[simp] abbrev aa.func32:=aa.az Tryz.func32 (by decide)
abbrev aa.ntmps32:=Tryz.ntmps32
@[simp] abbrev aa.func34:=aa.az Tryz.func34 (by decide)
abbrev aa.ntmps34:=Tryz.ntmps34
@[simp] abbrev aa.func35:=aa.az Tryz.func35 (by decide)
abbrev aa.ntmps35:=Tryz.ntmps35
@[simp] abbrev aa.func36:=aa.az Tryz.func36 (by decide)
abbrev aa.ntmps36:=Tryz.ntmps36
@[simp] abbrev aa.func37:=aa.az Tryz.func37 (by decide)
abbrev aa.ntmps37:=Tryz.ntmps37
@[simp] abbrev aa.func38:=aa.az Tryz.func38 (by decide)
abbrev aa.ntmps38:=Tryz.ntmps38
@[simp] abbrev aa.func39:=aa.az Tryz.func39 (by decide)
abbrev aa.ntmps39:=Tryz.ntmps39
@[simp] abbrev aa.func40:=aa.az Tryz.func40 (by decide)
abbrev aa.ntmps40:=Tryz.ntmps40
abbrev aa.results40:=Tryz.results40
@[simp] abbrev aa.func41:=aa.az Tryz.func41 (by decide)
abbrev aa.ntmps41:=Tryz.ntmps41
@[simp] abbrev aa.func42:=aa.az Tryz.func42 (by decide)
abbrev aa.ntmps42:=Tryz.ntmps42
@[simp] abbrev aa.func43:=aa.az Tryz.func43 (by decide)
abbrev aa.ntmps43:=Tryz.ntmps43
@[simp] abbrev aa.func44:=aa.az Tryz.func44 (by decide)
abbrev aa.ntmps44:=Tryz.ntmps44
abbrev aa.results44:=Tryz.results44
@[simp] abbrev aa.func45:=aa.az Tryz.func45 (by decide)
abbrev aa.ntmps45:=Tryz.ntmps45
abbrev aa.results45:=Tryz.results45
@[simp] abbrev aa.func46:=aa.az Tryz.func46 (by decide)
abbrev aa.ntmps46:=Tryz.ntmps46
@[simp] abbrev aa.func47:=aa.az Tryz.func47 (by decide)
abbrev aa.ntmps47:=Tryz.ntmps47
@[simp] abbrev aa.func48:=aa.az Tryz.func48 (by decide)
abbrev aa.ntmps48:=Tryz.ntmps48
@[simp] abbrev aa.func49:=aa.az Tryz.func49 (by decide)
abbrev aa.ntmps49:=Tryz.ntmps49
@[simp] abbrev aa.func50:=aa.az Tryz.func50 (by decide)
abbrev aa.ntmps50:=Tryz.ntmps50
@[simp] abbrev aa.func51:=aa.az Tryz.func51 (by decide)
abbrev aa.ntmps51:=Tryz.ntmps51
@[simp] abbrev aa.func52:=aa.az Tryz.func52 (by decide)
abbrev aa.ntmps52:=Tryz.ntmps52
@[simp] abbrev aa.func53:=aa.az Tryz.func53 (by decide)
abbrev aa.ntmps53:=Tryz.ntmps53
@[simp] abbrev aa.func54:=aa.az Tryz.func54 (by decide)
abbrev aa.ntmps54:=Tryz.ntmps54
@[simp] abbrev aa.func55:=aa.az Tryz.func55 (by decide)
abbrev aa.ntmps55:=Tryz.ntmps55
abbrev aa.results55:=Tryz.results55
@[simp] abbrev aa.func56:=aa.az Tryz.func56 (by decide)
abbrev aa.ntmps56:=Tryz.ntmps56
abbrev aa.results56:=Tryz.results56
@[simp] abbrev aa.func57:=aa.az Tryz.func57 (by decide)
abbrev aa.ntmps57:=Tryz.ntmps57
@[simp] abbrev aa.func58:=aa.az Tryz.func58 (by decide)
abbrev aa.ntmps58:=Tryz.ntmps58
@[simp] abbrev aa.func59:=aa.az Tryz.func59 (by decide)
abbrev aa.ntmps59:=Tryz.ntmps59
@[simp] abbrev aa.func60:=aa.az Tryz.func60 (by decide)
abbrev aa.ntmps60:=Tryz.ntmps60
@[simp] abbrev aa.func61:=aa.az Tryz.func61 (by decide)
abbrev aa.ntmps61:=Tryz.ntmps61
@[simp] abbrev aa.func62:=aa.az Tryz.func62 (by decide)
abbrev aa.ntmps62:=Tryz.ntmps62
@[simp] abbrev aa.func63:=aa.az Tryz.func63 (by decide)
abbrev aa.ntmps63:=Tryz.ntmps63
@[simp] abbrev aa.func64:=aa.az Tryz.func64 (by decide)
abbrev aa.ntmps64:=Tryz.ntmps64
abbrev aa.results64:=Tryz.results64
noncomputable abbrev aa.f65:=Tryz.f65
@[simp] abbrev aa.func65:=aa.az Tryz.func65 (by decide)
abbrev aa.ntmps65:=Tryz.ntmps65
@[simp] abbrev aa.func66:=aa.az Tryz.func66 (by decide)
abbrev aa.ntmps66:=Tryz.ntmps66
@[simp] abbrev aa.func67:=aa.az Tryz.func67 (by decide)
@[simp] abbrev aa.func69:=aa.az Tryz.func69 (by decide)
abbrev aa.ntmps69:=Tryz.ntmps69
@[simp] abbrev aa.func70:=aa.az Tryz.func70 (by decide)
abbrev aa.ntmps70:=Tryz.ntmps70
noncomputable abbrev aa.f71:=Tryz.f71
@[simp] abbrev aa.func71:=aa.az Tryz.func71 (by decide)
noncomputable abbrev aa.f72:=Tryz.f72
@[simp] abbrev aa.func72:=aa.az Tryz.func72 (by decide)
@[simp] abbrev aa.func73:=aa.az Tryz.func73 (by decide)
abbrev aa.ntmps73:=Tryz.ntmps73
@[simp] abbrev aa.func74:=aa.az Tryz.func74 (by decide)
abbrev aa.ntmps74:=Tryz.ntmps74
@[simp] abbrev aa.func75:=aa.az Tryz.func75 (by decide)
abbrev aa.ntmps75:=Tryz.ntmps75
@[simp] abbrev aa.func76:=aa.az Tryz.func76 (by decide)
abbrev aa.ntmps76:=Tryz.ntmps76
@[simp] abbrev aa.func77:=aa.az Tryz.func77 (by decide)
abbrev aa.ntmps77:=Tryz.ntmps77
@[simp] abbrev aa.func78:=aa.az Tryz.func78 (by decide)
abbrev aa.ntmps78:=Tryz.ntmps78
@[simp] abbrev aa.func79:=aa.az Tryz.func79 (by decide)
abbrev aa.ntmps79:=Tryz.ntmps79
@[simp] abbrev aa.func80:=aa.az Tryz.func80 (by decide)
abbrev aa.ntmps80:=Tryz.ntmps80
@[simp] abbrev aa.func81:=aa.az Tryz.func81 (by decide)
abbrev aa.ntmps81:=Tryz.ntmps81
@[simp] abbrev aa.func82:=aa.az Tryz.func82 (by decide)
abbrev aa.ntmps82:=Tryz.ntmps82
@[simp] abbrev aa.func83:=aa.az Tryz.func83 (by decide)
abbrev aa.ntmps83:=Tryz.ntmps83
noncomputable abbrev aa.f84:=Tryz.f84
@[simp] abbrev aa.func84:=aa.az Tryz.func84 (by decide)
abbrev aa.ntmps84:=Tryz.ntmps84
@[simp] abbrev aa.func85:=aa.az Tryz.func85 (by decide)
abbrev aa.ntmps85:=Tryz.ntmps85
@[simp] abbrev aa.func86:=aa.az Tryz.func86 (by decide)
abbrev aa.ntmps86:=Tryz.ntmps86
@[simp] abbrev aa.func87:=aa.az Tryz.func87 (by decide)
abbrev aa.ntmps87:=Tryz.ntmps87
@[simp] abbrev aa.func92:=aa.az Tryz.func92 (by decide)
abbrev aa.ntmps92:=Tryz.ntmps92
@[simp] abbrev aa.func93:=aa.az Tryz.func93 (by decide)
abbrev aa.ntmps93:=Tryz.ntmps93
@[simp] abbrev aa.func94:=aa.az Tryz.func94 (by decide)
abbrev aa.ntmps94:=Tryz.ntmps94
noncomputable abbrev aa.f95:=Tryz.f95
@[simp] abbrev aa.func95:=aa.az Tryz.func95 (by decide)
noncomputable abbrev aa.f96:=Tryz.f96
@[simp] abbrev aa.func96:=aa.az Tryz.func96 (by decide)
noncomputable abbrev aa.f97:=Tryz.f97
@[simp] abbrev aa.func97:=aa.az Tryz.func97 (by decide)
@[simp] abbrev aa.func98:=aa.az Tryz.func98 (by decide)
abbrev aa.ntmps98:=Tryz.ntmps98
@[simp] abbrev aa.func99:=aa.az Tryz.func99 (by decide)
abbrev aa.ntmps99:=Tryz.ntmps99
@[simp] abbrev aa.func100:=aa.az Tryz.func100 (by decide)
abbrev aa.ntmps100:=Tryz.ntmps100
@[simp] abbrev aa.func101:=aa.az Tryz.func101 (by decide)
abbrev aa.ntmps101:=Tryz.ntmps101
abbrev aa.results101:=Tryz.results101
@[simp] abbrev aa.func102:=aa.az Tryz.func102 (by decide)
abbrev aa.ntmps102:=Tryz.ntmps102
@[simp] abbrev aa.func103:=aa.az Tryz.func103 (by decide)
abbrev aa.ntmps103:=Tryz.ntmps103
@[simp] abbrev aa.func104:=aa.az Tryz.func104 (by decide)
abbrev aa.ntmps104:=Tryz.ntmps104
@[simp] abbrev aa.func105:=aa.az Tryz.func105 (by decide)
abbrev aa.ntmps105:=Tryz.ntmps105
@[simp] abbrev aa.func106:=aa.az Tryz.func106 (by decide)
abbrev aa.ntmps106:=Tryz.ntmps106
abbrev aa.results106:=Tryz.results106
noncomputable abbrev aa.f107:=Tryz.f107
@[simp] abbrev aa.func107:=aa.az Tryz.func107 (by decide)
abbrev aa.ntmps107:=Tryz.ntmps107
noncomputable abbrev aa.f108:=Tryz.f108
@[simp] abbrev aa.func108:=aa.az Tryz.func108 (by decide)
noncomputable abbrev aa.f109:=Tryz.f109
@[simp] abbrev aa.func109:=aa.az Tryz.func109 (by decide)
noncomputable abbrev aa.f110:=Tryz.f110
@[simp] abbrev aa.func110:=aa.az Tryz.func110 (by decide)
noncomputable abbrev aa.f111:=Tryz.f111
@[simp] abbrev aa.func111:=aa.az Tryz.func111 (by decide)
noncomputable abbrev aa.f112:=Tryz.f112
@[simp] abbrev aa.func112:=aa.az Tryz.func112 (by decide)
noncomputable abbrev aa.f113:=Tryz.f113
@[simp] abbrev aa.func113:=aa.az Tryz.func113 (by decide)
noncomputable abbrev aa.f114:=Tryz.f114
@[simp] abbrev aa.func114:=aa.az Tryz.func114 (by decide)
@[simp] abbrev aa.func115:=aa.az Tryz.func115 (by decide)
@[simp] abbrev aa.func116:=aa.az Tryz.func116 (by decide)
abbrev aa.ntmps116:=Tryz.ntmps116
@[simp] abbrev aa.func117:=aa.az Tryz.func117 (by decide)
abbrev aa.ntmps117:=Tryz.ntmps117
noncomputable abbrev aa.f136:=Tryz.f136
@[simp] abbrev aa.func136:=aa.az Tryz.func136 (by decide)
noncomputable abbrev aa.f137:=Tryz.f137
@[simp] abbrev aa.func137:=aa.az Tryz.func137 (by decide)
@[simp] abbrev aa.func138:=aa.az Tryz.func138 (by decide)
abbrev aa.ntmps138:=Tryz.ntmps138
@[simp] abbrev aa.func139:=aa.az Tryz.func139 (by decide)
abbrev aa.ntmps139:=Tryz.ntmps139
abbrev aa.results139:=Tryz.results139
@[simp] abbrev aa.func140:=aa.az Tryz.func140 (by decide)
abbrev aa.ntmps140:=Tryz.ntmps140
@[simp] abbrev aa.func141:=aa.az Tryz.func141 (by decide)
abbrev aa.ntmps141:=Tryz.ntmps141
noncomputable abbrev aa.f142:=Tryz.f142
@[simp] abbrev aa.func142:=aa.az Tryz.func142 (by decide)
@[simp] abbrev aa.func143:=aa.az Tryz.func143 (by decide)
@[simp] abbrev aa.func144:=aa.az Tryz.func144 (by decide)
noncomputable abbrev aa.f145:=Tryz.f145
@[simp] abbrev aa.func145:=aa.az Tryz.func145 (by decide)
noncomputable abbrev aa.f146:=Tryz.f146
@[simp] abbrev aa.func146:=aa.az Tryz.func146 (by decide)
noncomputable abbrev aa.f152:=Tryz.f152
@[simp] abbrev aa.func152:=aa.az Tryz.func152 (by decide)
noncomputable abbrev aa.f153:=Tryz.f153
@[simp] abbrev aa.func153:=aa.az Tryz.func153 (by decide)
noncomputable abbrev aa.f154:=Tryz.f154
@[simp] abbrev aa.func154:=aa.az Tryz.func154 (by decide)
noncomputable abbrev aa.f155:=Tryz.f155
@[simp] abbrev aa.func155:=aa.az Tryz.func155 (by decide)
noncomputable abbrev aa.f156:=Tryz.f156
@[simp] abbrev aa.func156:=aa.az Tryz.func156 (by decide)
noncomputable abbrev aa.f157:=Tryz.f157
@[simp] abbrev aa.func157:=aa.az Tryz.func157 (by decide)
noncomputable abbrev aa.f158:=Tryz.f158
@[simp] abbrev aa.func158:=aa.az Tryz.func158 (by decide)
noncomputable abbrev aa.f159:=Tryz.f159
@[simp] abbrev aa.func159:=aa.az Tryz.func159 (by decide)
noncomputable abbrev aa.f160:=Tryz.f160
@[simp] abbrev aa.func160:=aa.az Tryz.func160 (by decide)
@[simp] abbrev aa.func161:=aa.az Tryz.func161 (by decide)
abbrev aa.ntmps161:=Tryz.ntmps161
noncomputable abbrev aa.f162:=Tryz.f162
@[simp] abbrev aa.func162:=aa.az Tryz.func162 (by decide)
noncomputable abbrev aa.f163:=Tryz.f163
@[simp] abbrev aa.func163:=aa.az Tryz.func163 (by decide)
noncomputable abbrev aa.f164:=Tryz.f164
@[simp] abbrev aa.func164:=aa.az Tryz.func164 (by decide)
noncomputable abbrev aa.f165:=Tryz.f165
@[simp] abbrev aa.func165:=aa.az Tryz.func165 (by decide)
noncomputable abbrev aa.f166:=Tryz.f166
@[simp] abbrev aa.func166:=aa.az Tryz.func166 (by decide)
noncomputable abbrev aa.f167:=Tryz.f167
@[simp] abbrev aa.func167:=aa.az Tryz.func167 (by decide)
@[simp] abbrev aa.call7:=aa.aK aa.func7 rfl rfl
@[simp] abbrev aa.call8:=aa.aK aa.func8 rfl rfl
@[simp] abbrev aa.call9:=aa.aK aa.func9 rfl rfl
@[simp] abbrev aa.call11:=aa.aK aa.func11 rfl rfl
@[simp] abbrev aa.call12:=aa.aK aa.func12 rfl rfl
@[simp] abbrev aa.call13:=aa.aK aa.func13 rfl rfl
@[simp] abbrev aa.call14:=aa.aK aa.func14 rfl rfl
@[simp] abbrev aa.call15:=aa.aK aa.func15 rfl rfl
@[simp] abbrev aa.call16:=aa.aK aa.func16 rfl rfl
@[simp] abbrev aa.call18:=aa.aK aa.func18 rfl rfl
@[simp] abbrev aa.call20:=aa.aK aa.func20 rfl rfl
@[simp] abbrev aa.call21:=aa.aK aa.func21 rfl rfl
@[simp] abbrev aa.call22:=aa.aK aa.func22 rfl rfl
@[simp] abbrev aa.call23:=aa.aK aa.func23 rfl rfl
@[simp] abbrev aa.call24:=aa.aK aa.func24 rfl rfl
@[simp] abbrev aa.call25:=aa.aK aa.func25 rfl rfl
@[simp] abbrev aa.call26:=aa.aK aa.func26 rfl rfl
@[simp] abbrev aa.call27:=aa.aK aa.func27 rfl rfl
@[simp] abbrev aa.call28:=aa.aK aa.func28 rfl rfl
@[simp] abbrev aa.call29:=aa.aK aa.func29 rfl rfl
@[simp] abbrev aa.call30:=aa.aK aa.func30 rfl rfl
@[simp] abbrev aa.call31:=aa.aK aa.func31 rfl rfl
@[simp] abbrev aa.call32:=aa.aK aa.func32 rfl rfl
@[simp] abbrev aa.call34:=aa.aK aa.func34 rfl rfl
@[simp] abbrev aa.call35:=aa.aK aa.func35 rfl rfl
@[simp] abbrev aa.call36:=aa.aK aa.func36 rfl rfl
@[simp] abbrev aa.call37:=aa.aK aa.func37 rfl rfl
@[simp] abbrev aa.call38:=aa.aK aa.func38 rfl rfl
@[simp] abbrev aa.call39:=aa.aK aa.func39 rfl rfl
@[simp] abbrev aa.call40:=aa.aK aa.func40 rfl rfl
@[simp] abbrev aa.call41:=aa.aK aa.func41 rfl rfl
@[simp] abbrev aa.call42:=aa.aK aa.func42 rfl rfl
@[simp] abbrev aa.call43:=aa.aK aa.func43 rfl rfl
@[simp] abbrev aa.call44:=aa.aK aa.func44 rfl rfl
@[simp] abbrev aa.call45:=aa.aK aa.func45 rfl rfl
@[simp] abbrev aa.call46:=aa.aK aa.func46 rfl rfl
@[simp] abbrev aa.call47:=aa.aK aa.func47 rfl rfl
@[simp] abbrev aa.call48:=aa.aK aa.func48 rfl rfl
@[simp] abbrev aa.call49:=aa.aK aa.func49 rfl rfl
@[simp] abbrev aa.call50:=aa.aK aa.func50 rfl rfl
@[simp] abbrev aa.call51:=aa.aK aa.func51 rfl rfl
@[simp] abbrev aa.call52:=aa.aK aa.func52 rfl rfl
@[simp] abbrev aa.call53:=aa.aK aa.func53 rfl rfl
@[simp] abbrev aa.call54:=aa.aK aa.func54 rfl rfl
@[simp] abbrev aa.call55:=aa.aK aa.func55 rfl rfl
@[simp] abbrev aa.call56:=aa.aK aa.func56 rfl rfl
@[simp] abbrev aa.call57:=aa.aK aa.func57 rfl rfl
@[simp] abbrev aa.call58:=aa.aK aa.func58 rfl rfl
@[simp] abbrev aa.call59:=aa.aK aa.func59 rfl rfl
@[simp] abbrev aa.call60:=aa.aK aa.func60 rfl rfl
@[simp] abbrev aa.call61:=aa.aK aa.func61 rfl rfl
@[simp] abbrev aa.call62:=aa.aK aa.func62 rfl rfl
@[simp] abbrev aa.call63:=aa.aK aa.func63 rfl rfl
@[simp] abbrev aa.call64:=aa.aK aa.func64 rfl rfl
@[simp] abbrev aa.call65:=aa.aK aa.func65 rfl rfl
@[simp] abbrev aa.call66:=aa.aK aa.func66 rfl rfl
@[simp] abbrev aa.call67:=aa.aK aa.func67 rfl rfl
@[simp] abbrev aa.call69:=aa.aK aa.func69 rfl rfl
@[simp] abbrev aa.call70:=aa.aK aa.func70 rfl rfl
@[simp] abbrev aa.call71:=aa.aK aa.func71 rfl rfl
@[simp] abbrev aa.call72:=aa.aK aa.func72 rfl rfl
@[simp] abbrev aa.call73:=aa.aK aa.func73 rfl rfl
@[simp] abbrev aa.call74:=aa.aK aa.func74 rfl rfl
@[simp] abbrev aa.call75:=aa.aK aa.func75 rfl rfl
@[simp] abbrev aa.call76:=aa.aK aa.func76 rfl rfl
@[simp] abbrev aa.call77:=aa.aK aa.func77 rfl rfl
@[simp] abbrev aa.call78:=aa.aK aa.func78 rfl rfl
@[simp] abbrev aa.call79:=aa.aK aa.func79 rfl rfl
@[simp] abbrev aa.call80:=aa.aK aa.func80 rfl rfl
@[simp] abbrev aa.call81:=aa.aK aa.func81 rfl rfl
@[simp] abbrev aa.call82:=aa.aK aa.func82 rfl rfl
@[simp] abbrev aa.call83:=aa.aK aa.func83 rfl rfl
@[simp] abbrev aa.call84:=aa.aK aa.func84 rfl rfl
@[simp] abbrev aa.call85:=aa.aK aa.func85 rfl rfl
@[simp] abbrev aa.call86:=aa.aK aa.func86 rfl rfl
@[simp] abbrev aa.call87:=aa.aK aa.func87 rfl rfl
@[simp] abbrev aa.call92:=aa.aK aa.func92 rfl rfl
@[simp] abbrev aa.call93:=aa.aK aa.func93 rfl rfl
@[simp] abbrev aa.call94:=aa.aK aa.func94 rfl rfl
@[simp] abbrev aa.call98:=aa.aK aa.func98 rfl rfl
@[simp] abbrev aa.call99:=aa.aK aa.func99 rfl rfl
@[simp] abbrev aa.call100:=aa.aK aa.func100 rfl rfl
@[simp] abbrev aa.call101:=aa.aK aa.func101 rfl rfl
@[simp] abbrev aa.call102:=aa.aK aa.func102 rfl rfl
@[simp] abbrev aa.call103:=aa.aK aa.func103 rfl rfl
@[simp] abbrev aa.call104:=aa.aK aa.func104 rfl rfl
@[simp] abbrev aa.call105:=aa.aK aa.func105 rfl rfl
@[simp] abbrev aa.call106:=aa.aK aa.func106 rfl rfl
@[simp] abbrev aa.call107:=aa.aK aa.func107 rfl rfl
@[simp] abbrev aa.call116:=aa.aK aa.func116 rfl rfl
@[simp] abbrev aa.call117:=aa.aK aa.func117 rfl rfl
@[simp] abbrev aa.call138:=aa.aK aa.func138 rfl rfl
@[simp] abbrev aa.call139:=aa.aK aa.func139 rfl rfl
@[simp] abbrev aa.call140:=aa.aK aa.func140 rfl rfl
@[simp] abbrev aa.call141:=aa.aK aa.func141 rfl rfl
@[simp] abbrev aa.call161:=aa.aK aa.func161 rfl rfl
end
end Go.Proofs
namespace Go.Proofs.YtldmcdeibiclkaaGreatDoorQ
abbrev Ctx:=Nat->Int
abbrev aj:=Nat×Int×ByteArray
abbrev aj.rep(v:aj):Nat:=v.1
abbrev aj.n(v:aj):Int:=v.2.1
abbrev aj.val(v:aj):ByteArray:=v.2.2
abbrev cA(c:Ctx):Value:= .agg #[.int .i64 (c 0),.int .i64 (c 1),.int .i64 (c 2),.int .i64 (c 3)]
def dw(v:aj):List Value:=[.int .i64 v.rep,.int .i64 v.n,.string v.val]
def gO(c:Ctx)(v:aj):Bool:=decide (v.n<=c v.rep)
def aL(a b:Ctx):Ctx:=λi=>max (a i) (b i)
def ew(n:Int):Bool:=decide (0<=n/\n<=1000000)
def fX(c:Ctx):Bool:=ew (c 0) && (ew (c 1) && (ew (c 2) && ew (c 3)))
def mV(c n:Int):Int:=(if c< 0 then -(c+1) else c) % n
theorem OT(c n:Int)(hn:1<=n):0<=mV c n/\mV c n< n:=
 ⟨ZZ _ (by omega),aae _ (by omega)⟩
theorem fg{r:Nat}(h:r< 4):r=0\/r=1\/r=2\/r=3:=by omega
theorem pQ{k:IntKind}{a b:Int}(h:a=b):Ending.returned (.int k a)= .returned (.int k b):=by rw[h]
theorem mx{a b:Bool}(h:a=b):Ending.returned (.bool a)= .returned (.bool b):=by rw[h]
end Go.Proofs.YtldmcdeibiclkaaGreatDoorQ
namespace Go.Proofs.YtldmcdeibiclkaaGreatDoorQ
open Go.RowKit
def oY(b:UInt8):Bool:=decide (97<=b.toNat/\b.toNat<=122)
def cL(s:ByteArray):Bool:=decide (1<=s.size/\s.size<=8) && s.data.toList.all oY
theorem vL(s:ByteArray)(w:World)(hs:s.size<=maxLen):
  Calls aa.prog 37 #[.string s] w λe w'=>e= .returned (.bool (decide (s.size<=12)))/\w'=w:=by
 unfold maxLen at hs
 go_enter aa.func37,aa.ntmps37
 go_wp2
 go_ret
 exact⟨mx (by simp;omega),rfl⟩
theorem Cx(x y:Int)(w:World):
  Calls aa.prog 87 #[.int .i64 x,.int .i64 y] w λe w'=>e= .returned (.int .i64 (if x< y then -1 else if y< x then 1 else 0))/\w'=w:=by
 by_cases h1:x< y
 ·go_enter aa.func87,aa.ntmps87
  go_wp2
  go_ret
  exact⟨rfl,rfl⟩
 ·by_cases h2:y< x
  ·go_enter aa.func87,aa.ntmps87
   go_wp2
   go_ret
   exact⟨rfl,rfl⟩
  ·go_enter aa.func87,aa.ntmps87
   go_wp2
   go_ret
   exact⟨rfl,rfl⟩
theorem K9{s:ByteArray}(h1:1<=s.size)(h2:s.size<=8)(h:∀j (h:j< s.size),oY s[j]=true):cL s=true:=by
 simp only[cL,IT,Yt,YY]
 refine⟨⟨h1,h2⟩,λx hx=>?_⟩
 obtain⟨j,hj,rfl⟩:=List.mem_iff_getElem.1 hx
 exact h j (by simpa using hj)
theorem XL{s:ByteArray}{j:Nat}(hj:j< s.size)(h: ¬ (97<=s[j].toNat/\s[j].toNat<=122)):cL s=false:=by
 simp only[cL,Bool.and_eq_false_iff]
 right
 rw[List.all_eq_false]
 exact⟨s[j],by simp[aam],by simpa[oY] using h⟩
theorem XS{s:ByteArray}(h: ¬ (1<=s.size/\s.size<=8)):cL s=false:=by
 simp only[cL,Bool.and_eq_false_iff]
 exact Or.inl (Z5 h)
theorem oH(s:ByteArray)(w:World)(hs:s.size<=maxLen):
  Calls aa.prog 36 #[.string s] w λe w'=>e= .returned (.bool (cL s))/\w'=w:=by
 unfold maxLen at hs
 by_cases hl:1<=s.size/\s.size<=8
 ·obtain⟨hl1,hl2⟩:=hl
  go_enter aa.func36,aa.ntmps36
  go_wp2
  go_loop [14] (λi=>∃k:Nat,k<=s.size/\i= .int .i64 k/\Hid (∀j (h:j< s.size),j< k->oY s[j]=true)) (λi=>s.size - (intOf i).toNat)
  case atStart=>exact⟨0,by omega,rfl,λj hj=>by omega⟩
  case round=>
   obtain⟨k,hk,rfl,hall⟩:=hrel
   by_cases hlt:k< s.size
   ·by_cases hb:97<=s[k].toNat/\s[k].toNat<=122
    ·obtain⟨hb1,hb2⟩:=hb
     have hall':Hid (∀j (h:j< s.size),j< k+1->oY s[j]=true):=λj h hj=>by
      by_cases e:j=k
      ·subst e;exact ZL ⟨hb1,hb2⟩
      ·exact hall.out j h (by omega)
     go_wp2
     exact⟨⟨k+1,by omega,by go_num,hall'⟩,by simp[intOf];omega⟩
    ·have hs':Hid (cL s=false):=XL hlt hb
     have hb':s[k].toNat< 97\/122< s[k].toNat:=by omega
     clear hb hall
     rcases hb' with hb'|hb'
     ·go_wp2
      go_ret
      exact⟨mx hs'.out.symm,rfl⟩
     ·go_wp2
      go_ret
      exact⟨mx hs'.out.symm,rfl⟩
   ·have hs':Hid (cL s=true):=K9 hl1 hl2 λj h=>hall.out j h (by omega)
    clear hall
    go_wp2
    go_ret
    exact⟨mx hs'.out.symm,rfl⟩
 ·have hs':Hid (cL s=false):=XS hl
  have hl':s.size< 1\/8< s.size:=by omega
  clear hl
  rcases hl' with hl'|hl'
  ·go_enter aa.func36,aa.ntmps36
   go_wp2
   go_ret
   exact⟨mx hs'.out.symm,rfl⟩
  ·go_enter aa.func36,aa.ntmps36
   go_wp2
   go_ret
   exact⟨mx hs'.out.symm,rfl⟩
end Go.Proofs.YtldmcdeibiclkaaGreatDoorQ
