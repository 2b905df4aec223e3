/-
  Toward causal_holds: THE POOL's MACHINE: a worker receives a number, waits for one, sends a digest.
-/
import Derived.Test.YtldmcdeibiclkaaGreatDoorC10
set_option linter.unusedVariables false
set_option linter.unusedSimpArgs false
set_option maxRecDepth 100000
set_option maxHeartbeats 20000000
namespace Go.Proofs.YtldmcdeibiclkaaGreatDoor.U
section
open Go.Conc
open Go.ConcN (upd upd_same upd_ne sumTo sumTo_upd sumTo_congr sumTo_le le_sumTo RelBy)
set_option maxRecDepth 100000
theorem Hx(p:Pl)(xs:Nat->Value):fA (gS p xs) (gS p xs).frame=gS p xs:=by kernel_rfl
theorem IH(p:Pl)(xs:Nat->Value):({gS p xs with status:= .running}:Goroutine)=gS p xs:=by kernel_rfl
theorem Ps(p:Pl)(xs:Nat->Value)(l:List Nat):fA (bj p xs l) (bj p xs l).frame=bj p xs l:=by kernel_rfl
theorem TV(p:Pl)(xs:Nat->Value)(cs:Array CommCase):(bj p xs [7]).finishComm Pg cs .send 0 undef false=bj p xs []:=by kernel_rfl
section
variable {L:aB} {T:aT} {Goal:Frame->List Frame->World->Prop} {X:PC L}
theorem vC(O:aP T Goal X){s:PS}{gs:Array Goroutine}{v:World}{t:Trace}(H:Gs T Goal X s gs v t){j:Nat}{g:Goroutine}(hg:gs[j]? =some g):(∃k xs,k< s.j/\j=X.n0+k/\s.ws k= .dh xs/\g=jD X xs)\/∀r b,offersAt g r b= []:=by
 have hlt:=(IN.1 hg).1
 rw[H.size] at hlt
 rcases ZF j with rfl|hpos
 ·obtain⟨h,h0,hM⟩:=H.main
  rw[hg] at h0
  cases h0
  refine .inr λr b=>?_
  rcases hM.status O with ⟨_,hs⟩|⟨xs,ys,_,rfl⟩
  ·exact offersAt_of_not_blocked (by rw[hs];simp) r b
  ·rfl
 ·rcases Yw j X.n0 with hj|hj
  ·have:=(H.jP j g hpos hj hg).status
   exact .inr λr b=>offersAt_of_not_blocked (by rcases this with h|h<;>rw[h]<;>simp) r b
  ·obtain⟨k,rfl⟩: ∃k,j=X.n0+k:=⟨j - X.n0,by omega⟩
   have hk:k< s.j:=by omega
   obtain⟨g',hg',hW⟩:=H.work k hk
   rw[hg] at hg'
   cases hg'
   rcases hW.status with ⟨_,hs⟩|⟨xs,h1,h2⟩
   ·exact .inr λr b=>offersAt_of_not_blocked (by rcases hs with h|h<;>rw[h]<;>simp) r b
   ·exact .inl ⟨k,xs,hk,rfl,h1,h2⟩
theorem Cf(O:aP T Goal X){s:PS}{gs:Array Goroutine}{v:World}{t:Trace}(H:Gs T Goal X s gs v t)(i r:Nat)(b:Bool)(h:b=true\/r≠X.M.cN):partners (gs.setIfInBounds i ph) r b= []:=by
 refine partners_nil λj g hg=>?_
 rcases getElem?_stand gs i j g hg with ⟨_,rfl⟩|⟨_,hg⟩
 ·rfl
 ·rcases vC O H hg with ⟨k,xs,_,_,_,rfl⟩|h'
  ·unfold jD
   rw[rG]
   rcases h with rfl|h
   ·exact offersAt_parked_recv' _ _ _ _ _
   ·cases b with
    |true=>exact offersAt_parked_recv' _ _ _ _ _
    |false=>rw[offersAt_parked_recv,AS (Ne.symm h)]
  ·exact h' r b
theorem Tr.still{s s':PS}{v v1:World}{t:Trace}(H:Tr X s v t)(e1:s'.j=s.j)(e2:s'.ow=s.ow)(e3:∀k,k< s.j->(s'.ws k).rel=true->(s.ws k).rel=true)(e4:s'.mt.deaf=s.mt.deaf)(e5:v1.heap.size=v.heap.size)(e6:∀n xs,s'.mt= .fin n xs->False){u:List MemOp}(h1:∀op∈u,op.act.touch? =none)(h2:∀op∈u,op.act.low v.heap.size)(h3:∀op∈u,o8 op.act)(h4:∀op∈u,op.act≠.mark (.release (bC X))):Tr X s' v1 (t++u.toArray):=by
 have hlots:iB X s'=iB X s:=by unfold iB;rw[e1,e2]
 have hwk:fp X s'=fp X s:=by funext k;simp only[fp,e1]
 refine⟨?_,?_,?_,λk hk hr=>?_,H.norel.app (λop ag=>h4 op (by simpa using ag)),by rw[nt t 0 u h3,H.d0,e4],λn xs h=>(e6 n xs h).elim⟩
 ·rw[hlots,hwk,e5]
  exact H.tp.still u h1 h2
 ·rw[e1,e2,e5];exact H.own
 ·rw[e1,e2];exact H.apart
 ·rw[e1] at hk
  obtain⟨r,hr⟩:=H.rel k hk (e3 k hk hr)
  exact⟨r,RelBy.still hr λop ag=>h1 op (by simpa using ag)⟩
theorem Gs.comm{s s':PS}{gs:Array Goroutine}{v v1:World}{t:Trace}(O:aP T Goal X)(H:Gs T Goal X s gs v t){k:Nat}(hk:k< s.j){g1:Goroutine}(e1:s'.j=s.j)(e2:∀i,i≠k->s'.ws i=s.ws i)(e3:s'.ow=s.ow)(e4:s'.mt=s.mt)(e5:s'.q=s.q){u:List MemOp}(h3:∀op∈u,o8 op.act)(hW:gK T Goal X (s.ow k) (Deaf t (X.n0+k)) g1 v1 (s'.ws k))(hs:v.heap.size<=v1.heap.size)(ho:∀b,((∃r,X.E.ρ r b)\/∃i,i< s.j/\s.ow i b)->v1.heap[b]? =v.heap[b]?):Gs T Goal X s' (gs.setIfInBounds (X.n0+k) g1) v1 (t++u.toArray):=by
 have hn0:=O.n0
 have hdf:∀i,Deaf (t++u.toArray) i=Deaf t i:=λi=>nt t i u h3
 obtain⟨h,h0,hM⟩:=H.main
 refine⟨by simp[H.size,e1],⟨h,by rw[Ye (by omega)];exact h0,by rw[e4];exact hM⟩,λi hi=>?_,λi x hi hn hg=>?_,λi hi=>?_⟩
 ·rw[e1] at hi
  rw[hdf,e3]
  by_cases hik:i=k
  ·subst hik
   exact⟨g1,by rw[YT (by rw[H.size];omega)],hW⟩
  ·obtain⟨x,hx,hw⟩:=H.work i hi
   refine⟨x,by rw[Ye (by omega)];exact hx,?_⟩
   rw[e2 i hik]
   exact hw.me hs λb hb=>ho b (hb.imp id λx=>⟨i,hi,x⟩)
 ·rw[Ye (by omega)] at hg
  rw[hdf,e5]
  exact H.jP i x hi hn hg
 ·rw[hdf]
  exact H.above i (by simpa using hi)
theorem rA(v:World)(c cap:Nat)(buf:Array Value)(cl:Bool)(s r:Nat)(tm:Bool)(hc:c< v.heap.size):(v.setChan c cap buf cl s r tm).heap.size=v.heap.size/\(v.setChan c cap buf cl s r tm).heap[c]? =some (.chan cap buf cl s r tm)/\(∀b,b≠c->(v.setChan c cap buf cl s r tm).heap[b]? =v.heap[b]?)/\(v.setChan c cap buf cl s r tm).tape=v.tape/\(v.setChan c cap buf cl s r tm).os=v.os/\(v.setChan c cap buf cl s r tm).output=v.output:=by
 refine⟨by simp[World.setChan],by simp[World.setChan,hc],λb hb=>by simp[World.setChan,Ye (Ne.symm hb)],rfl,rfl,rfl⟩
theorem D3{s:PS}{k:Nat}(hk:k< s.j)(σ:Wk):sumTo s.j (λi=>if ((upd s.ws k σ) i).bJ.isSome then 1 else 0)+(if (s.ws k).bJ.isSome then 1 else 0)=sumTo s.j (λi=>if (s.ws i).bJ.isSome then 1 else 0)+(if σ.bJ.isSome then 1 else 0):=
 sumTo_upd s.ws σ (λx=>if x.bJ.isSome then 1 else 0) hk
theorem Fo(O:aP T Goal X){s:PS}{gs:Array Goroutine}{v:World}{sl:Option (Nat×Nat)}{t:Trace}(H:PI T Goal X s gs v t)(hfin:∀n xs,s.mt= .fin n xs->False){k:Nat}(hk:k< s.j){xs:Nat->Value}(hσ:s.ws k= .recv 0 xs\/s.ws k= .woken xs):bA T Goal X s gs v sl t (X.n0+k):=by
 obtain⟨g,hg,hW⟩:=H.gs.work k hk
 have hn0:=O.n0
 have e2:=O.cN;have e6:=O.wg;have e4:=O.cB;have e1:=O.bT;have e3:=O.bN;have e5:=O.bB
 have hne0:(X.n0+k==0)=false:=by simp;omega
 have hd:Deaf t (X.n0+k)=0:=by
  rcases hσ with hσ|hσ<;>rw[hσ] at hW<;>exact hW.2
 have hr:(s.ws k).ah=9/\(s.ws k).bJ=none/\(s.ws k).cnt=1/\(s.ws k).tree=none:=by rcases hσ with hσ|hσ<;>rw[hσ]<;>exact⟨rfl,rfl,rfl,rfl⟩
 have e:stepG Pg (X.n0+k==0) g v= .comm (gS X.p xs) #[rcase X.M.cN (.int .i64 0)] true (.recv true) v #[]:=by
  have hc:=aI.comm (xr X.p xs) (Qc X.p xs) (w:=v) (w':=v) (es:=#[]) ⟨rfl,rfl⟩
  rw[eH,Hx] at hc
  rw[hne0]
  rcases hσ with hσ|hσ
  ·rw[hσ] at hW
   have hgl:=hW.1
   cases hgl
   exact hc
  ·rw[hσ] at hW
   rw[hW.1]
   unfold jD
   rw[stepG_tries,IH]
   exact hc
 have hz:∀fn pos,MemOp.ofEvents (X.n0+k) fn pos #[]=#[]:=λfn pos=>by simp[ofEvents_eq]
 have hcN:=H.wd.cN
 have hcl:X.M.cN< v.heap.size:=by have:=H.wd.size;omega
 have hpt:=Cf O H.gs (X.n0+k) X.M.cN true (.inl rfl)
 have aA:∀i b,i< s.j->s.ow i b->b≠X.M.cN:=λi b hi hb h=>by have:=(H.tr.own i b hi hb).1;omega
 cases hb:s.bZ with
 |cons i rest=>
  rw[hb] at hcN
  have hrun:=crowd_recv_buf (P:=Pg) (sl:=sl) hg e hcN (by simp) hpt
  obtain⟨c1,c2,c3,c4,c5,c6⟩:=rA v X.M.cN X.E.n (rest.map X.num).toArray s.mt.shut (s.mt.bu X) (s.rN+1) false hcl
  have ex:((i::rest).map X.num).toArray.extract 1 ((i::rest).map X.num).toArray.size=(rest.map X.num).toArray:=by simp[ZP]
  have eg:((i::rest).map X.num).toArray.getD 0 undef=X.num i:=by simp
  rw[ex,eg,hz,Zp] at hrun
  have hgot:=H.ac.kQ
  have hsent:=H.ac.bu
  rw[hb] at hgot
  simp only[Ys] at hgot
  have hin:i< X.E.n:=H.ac.ew i (by rw[hb];simp)
  let s':PS:={s with ws:=upd s.ws k (.draw 11 i (iW xs (IntKind.i64.wrap (X.E.first+i)))),bZ:=rest,rN:=s.rN+1}
  have hsw:∀m,m≠k->s'.ws m=s.ws m:=λm hm=>upd_ne _ _ hm
  have hsk:s'.ws k= .draw 11 i (iW xs (IntKind.i64.wrap (X.E.first+i))):=upd_same _ _ _
  refine⟨s',_,_,_,hrun,⟨?_,?_,?_,?_,?_⟩,.inl ?_⟩
  ·refine H.gs.comm O hk (s':=s') rfl hsw rfl rfl rfl (u:=[_,_]) ?_ ?_ (by rw[c1];exact AI _) ?_
   ·intro op ag;simp at ag;rcases ag with rfl|rfl<;>exact⟨by simp,by simp⟩
   ·rw[hsk]
    refine⟨?_,hd,hin,rfl⟩
    have hgd:=(zg X.p xs (IntKind.i64.wrap (X.E.first+i))).aD
    rw[Fg] at hgd
    exact hgd
   ·rintro b (⟨r,hr⟩|⟨m,hm,hb'⟩)
    ·exact c3 b (by have:=(O.K.cf r b hr).2;omega)
    ·exact c3 b (aA m b hm hb')
  ·refine⟨⟨by rw[c1];exact H.wd.old.1,λb hb'=>by rw[c3 b (by omega)];exact H.wd.old.2 b hb'⟩,by rw[c1];exact H.wd.size,?_,?_,?_,c2,?_,?_,H.wd.tape,H.wd.os,H.wd.output⟩
   ·rw[c3 _ (by omega)];exact H.wd.bT
   ·rw[c3 _ (by omega)];exact H.wd.bN
   ·rw[c3 _ (by omega)];exact H.wd.bB
   ·obtain⟨sB,h⟩:=H.wd.cB;exact⟨sB,by rw[c3 _ (by omega)];exact h⟩
   ·rw[c3 _ (by omega)];exact H.wd.wg
  ·have hjs:=D3 hk (.draw 11 i (iW xs (IntKind.i64.wrap (X.E.first+i))))
   have hcount:=H.ac.count
   rw[hb] at hcount
   simp only[Ys] at hcount
   rw[hr.2.1] at hjs
   refine⟨H.ac.on,H.ac.bu,by show s.rN+1+rest.length=s.mt.bu X;omega,λm hm=>?_,?_,λm hm=>H.ac.ew m (by rw[hb];simp[show m∈rest from hm]),H.ac.okB,λm hm hp=>?_,λm hm hrk=>?_⟩
   ·rcases H.ac.cover m hm with h|h|⟨k',h1,h2⟩
    ·rw[hb] at h
     rcases Yv.1 h with rfl|h
     ·exact .inr (.inr ⟨k,hk,by rw[hsk];rfl⟩)
     ·exact .inl h
    ·exact .inr (.inl h)
    ·refine .inr (.inr ⟨k',h1,?_⟩)
     have:k'≠k:=λe=>by rw[e,hr.2.1] at h2;cases h2
     rw[hsw k' this];exact h2
   ·show rest.length+sumTo s.j (λm=>if ((upd s.ws k (.draw 11 i (iW xs (IntKind.i64.wrap (X.E.first+i))))) m).bJ.isSome then 1 else 0)+s.cX.length<=s.mt.bu X
    have hjs':sumTo s.j (λm=>if ((upd s.ws k (.draw 11 i (iW xs (IntKind.i64.wrap (X.E.first+i))))) m).bJ.isSome then 1 else 0)+0=sumTo s.j (λm=>if (s.ws m).bJ.isSome then 1 else 0)+1:=hjs
    omega
   ·by_cases hmk:m=k
    ·subst hmk;rw[hsk] at hp;cases hp
    ·rw[hsw m hmk] at hp
     have:=(H.ac.dh m hm hp).1
     rw[hb] at this;cases this
   ·by_cases hmk:m=k
    ·subst hmk;rw[hsk] at hrk;simp[Wk.ah] at hrk
    ·rw[hsw m hmk] at hrk
     have:=(H.ac.gone m hm hrk).2
     rw[hb] at this;cases this
  ·have:=H.wg.ie X hk (σ:= .draw 11 i (iW xs (IntKind.i64.wrap (X.E.first+i)))) (s.ow k) (by omega) (by simp[Wk.ah]) (by rw[hr.2.2.1];rfl) s.mt (.inl rfl)
   cases this with
   |opn a1 a2 a3 a4 a5=>exact .opn a1 a2 a3 a4 a5
   |dK a1 a2 a3 a4 a5=>exact .dK a1 a2 a3 a4 a5
   |last q a1 a2 a3 a4 a5 a6 a7=>exact .last q a1 a2 a3 a4 a5 a6 a7
   |fC a1 a2 a3 a4 a5=>exact .fC a1 a2 a3 a4 a5
   |done a1 a2 a3 a4 a5=>exact .done a1 a2 a3 a4 a5
  ·refine H.tr.still (s':=s') rfl rfl (λm hm hrl=>?_) rfl c1 (λn xs h=>hfin n xs h) (u:=[_,_]) ?_ ?_ ?_ ?_
   ·by_cases hmk:m=k
    ·subst hmk;rw[hsk] at hrl;cases hrl
    ·rw[hsw m hmk] at hrl;exact hrl
   ·intro op ag;simp at ag;rcases ag with rfl|rfl<;>rfl
   ·intro op ag;simp at ag;rcases ag with rfl|rfl<;>exact hcl
   ·intro op ag;simp at ag;rcases ag with rfl|rfl<;>exact⟨by simp,by simp⟩
   ·intro op ag;simp at ag;rcases ag with rfl|rfl<;>simp
  ·have h1:=sumTo_upd s.ws (.draw 11 i (iW xs (IntKind.i64.wrap (X.E.first+i)))) Wk.ah hk
   have h2:=sumTo_upd s.ws (.draw 11 i (iW xs (IntKind.i64.wrap (X.E.first+i)))) Wk.cnt hk
   have h3:s'.c=s.c:=by show sumTo s.j (λm=>((upd s.ws k (.draw 11 i (iW xs (IntKind.i64.wrap (X.E.first+i))))) m).cnt)=_;unfold PS.c;have h2':sumTo s.j (λm=>((upd s.ws k (.draw 11 i (iW xs (IntKind.i64.wrap (X.E.first+i))))) m).cnt)+(s.ws k).cnt=sumTo s.j (λm=>(s.ws m).cnt)+1:=h2;omega
   show s.mt.ah s'.c+sumTo s.j (λm=>((upd s.ws k (.draw 11 i (iW xs (IntKind.i64.wrap (X.E.first+i))))) m).ah)+12*s'.c+60*(X.E.n - (s.rN+1))< s.mt.ah s.c+sumTo s.j (λm=>(s.ws m).ah)+12*s.c+60*(X.E.n - s.rN)
   rw[h3]
   have h1':sumTo s.j (λm=>((upd s.ws k (.draw 11 i (iW xs (IntKind.i64.wrap (X.E.first+i))))) m).ah)+(s.ws k).ah=sumTo s.j (λm=>(s.ws m).ah)+60:=h1
   have:X.E.n - s.rN=X.E.n - (s.rN+1)+1:=by omega
   have hw9:=hr.1
   omega
 |nil=>
  rw[hb] at hcN
  simp only[List.map_nil] at hcN
  cases hsh:s.mt.shut with
  |true=>
   rw[hsh] at hcN
   have hrun:=crowd_recv_closed (P:=Pg) (sl:=sl) hg e hcN hpt
   rw[hz,Zp] at hrun
   let s':PS:={s with ws:=upd s.ws k (.conv 21 xs)}
   have hsw:∀m,m≠k->s'.ws m=s.ws m:=λm hm=>upd_ne _ _ hm
   have hsk:s'.ws k= .conv 21 xs:=upd_same _ _ _
   have hwk:s'=s.wk s.mt k (.conv 21 xs) (s.ow k):=by
    show _=({s with mt:=s.mt,ws:=upd s.ws k (.conv 21 xs),ow:=upd s.ow k (s.ow k)}:PS)
    rw[show upd s.ow k (s.ow k)=s.ow from funext λb=>by unfold upd;split<;>simp_all]
   refine⟨s',_,_,_,hrun,⟨?_,H.wd.same rfl rfl rfl rfl rfl rfl rfl,?_,?_,?_⟩,?_⟩
   ·refine H.gs.comm O hk (s':=s') rfl hsw rfl rfl rfl (u:=[_]) ?_ ?_ (AI _) (λ_ _=>rfl)
    ·intro op ag;simp at ag;subst ag;exact⟨by simp,by simp⟩
    ·rw[hsk]
     refine⟨?_,hd⟩
     have h1:=(Ig X.p xs).aD
     rw[Nk] at h1
     exact h1.trans (Xl _ _).aD
   ·rw[hwk]
    exact H.ac.wk _ (by rw[hr.2.1];rfl) (λh=>by cases h) (λ_=>⟨hsh,hb⟩) s.mt (.inl rfl)
   ·rw[hwk]
    exact H.wg.ie X hk _ (by omega) (by simp[Wk.ah]) (by rw[hr.2.2.1];rfl) s.mt (.inl rfl)
   ·refine H.tr.still (s':=s') rfl rfl (λm hm hrl=>?_) rfl rfl (λn xs h=>hfin n xs h) (u:=[_]) ?_ ?_ ?_ ?_
    ·by_cases hmk:m=k
     ·subst hmk;rw[hsk] at hrl;cases hrl
     ·rw[hsw m hmk] at hrl;exact hrl
    ·intro op ag;simp at ag;subst ag;rfl
    ·intro op ag;simp at ag;subst ag;exact hcl
    ·intro op ag;simp at ag;subst ag;exact⟨by simp,by simp⟩
    ·intro op ag;simp at ag;subst ag;simp
   ·rw[hwk]
    exact iQ hk (by rw[hr.1];simp[Wk.ah]) (by rw[hr.2.2.1];rfl) s.mt (.inl rfl) _ s.st s.sm
  |false=>
   rw[hsh] at hcN
   have hrun:=crowd_waits (P:=Pg) (sl:=sl) hg e (λcc hcc=>by simp at hcc;subst hcc;exact ways_recv_none hcN hpt)
   rw[hz] at hrun
   let s':PS:={s with ws:=upd s.ws k (.dh xs)}
   have hsw:∀m,m≠k->s'.ws m=s.ws m:=λm hm=>upd_ne _ _ hm
   have hsk:s'.ws k= .dh xs:=upd_same _ _ _
   have hwk:s'=s.wk s.mt k (.dh xs) (s.ow k):=by
    show _=({s with mt:=s.mt,ws:=upd s.ws k (.dh xs),ow:=upd s.ow k (s.ow k)}:PS)
    rw[show upd s.ow k (s.ow k)=s.ow from funext λb=>by unfold upd;split<;>simp_all]
   refine⟨s',_,_,_,hrun,⟨?_,H.wd.same rfl rfl rfl rfl rfl rfl rfl,?_,?_,?_⟩,?_⟩
   ·refine H.gs.comm O hk (s':=s') rfl hsw rfl rfl rfl (u:=[]) (λop ag=>by cases ag) ?_ (AI _) (λ_ _=>rfl)
    rw[hsk]
    exact⟨rfl,hd⟩
   ·rw[hwk]
    exact H.ac.wk _ (by rw[hr.2.1];rfl) (λ_=>⟨hb,hsh⟩) (λh=>by simp[Wk.ah] at h) s.mt (.inl rfl)
   ·rw[hwk]
    exact H.wg.ie X hk _ (by omega) (by simp[Wk.ah]) (by rw[hr.2.2.1];rfl) s.mt (.inl rfl)
   ·refine H.tr.still (s':=s') rfl rfl (λm hm hrl=>?_) rfl rfl (λn xs h=>hfin n xs h) (u:=[]) (λop ag=>by cases ag) (λop ag=>by cases ag) (λop ag=>by cases ag) (λop ag=>by cases ag)
    by_cases hmk:m=k
    ·subst hmk;rw[hsk] at hrl;cases hrl
    ·rw[hsw m hmk] at hrl;exact hrl
   ·rw[hwk]
    exact iQ hk (by rw[hr.1];simp[Wk.ah]) (by rw[hr.2.2.1];rfl) s.mt (.inl rfl) _ s.st s.sm
end
end
section
open Go.Conc
open Go.ConcN (upd upd_same upd_ne sumTo sumTo_upd sumTo_congr sumTo_le le_sumTo RelBy)
section
variable {L:aB} {T:aT} {Goal:Frame->List Frame->World->Prop} {X:PC L}
theorem Wg.copy{s s':PS}(H:Wg s)(e1:s'.mt=s.mt)(e2:s'.j=s.j)(e3:s'.ws=s.ws)(e4:s'.st=s.st)(e5:s'.sm=s.sm):Wg s':=by
 have hc:s'.c=s.c:=by unfold PS.c;rw[e2,e3]
 cases H with
 |opn a1 a2 a3 a4 a5=>exact .opn (by rw[e1];exact a1) (λk hk=>by rw[e3];exact a2 k (e2 ▸ hk)) (by rw[e4,hc,e1];exact a3) (e5.trans a4) (λk n xs ys h=>by rw[hc];exact a5 k n xs ys (e1 ▸ h))
 |dK a1 a2 a3 a4 a5=>exact .dK (by rw[e1];exact a1) (λk hk=>by rw[e3];exact a2 k (e2 ▸ hk)) (by rw[hc];exact a3) (by rw[e4,hc];exact a4) (e5.trans a5)
 |last q a1 a2 a3 a4 a5 a6 a7=>exact .last q (by rw[e1];exact a1) (by rw[e2];exact a2) (by rw[e3];exact a3) (by rw[e3];exact a4) (λi hi hq=>by rw[e3];exact a5 i (e2 ▸ hi) hq) (by rw[e4,e3];exact a6) (e5.trans a7)
 |fC a1 a2 a3 a4 a5=>exact .fC (by rw[e1];exact a1) (by rw[e1];exact a2) (λk hk=>by rw[e3];exact a3 k (e2 ▸ hk)) (e4.trans a4) (e5.trans a5)
 |done a1 a2 a3 a4 a5=>exact .done (by rw[e1];exact a1) (by rw[e1];exact a2) (λk hk=>by rw[e3];exact a3 k (e2 ▸ hk)) (e4.trans a4) (e5.trans a5)
theorem Me(O:aP T Goal X){s:PS}{gs:Array Goroutine}{v:World}{sl:Option (Nat×Nat)}{t:Trace}(H:PI T Goal X s gs v t)(hfin:∀n xs,s.mt= .fin n xs->False){k:Nat}(hk:k< s.j){i:Nat}{l:List Nat}{xs:Nat->Value}(hσ:s.ws k= .ops i (7::l) xs):bA T Goal X s gs v sl t (X.n0+k):=by
 obtain⟨g,hg,hW⟩:=H.gs.work k hk
 rw[hσ] at hW
 obtain⟨rfl,hd,_,ho⟩:=hW
 obtain⟨hh,_⟩:=qv ho.jq
 simp only[mu,List.isEmpty_iff] at hh
 subst hh
 have hn0:=O.n0
 have e2:=O.cN;have e6:=O.wg;have e4:=O.cB;have e1:=O.bT;have e3:=O.bN;have e5:=O.bB
 have hne0:(X.n0+k==0)=false:=by simp;omega
 have x9:xs 9= .chan (some X.M.cB):=ho.d0 (by decide)
 have x15:xs 15=X.fY i:=ho.d6 (by decide)
 have hr:(s.ws k).ah=23/\(s.ws k).bJ=some i/\(s.ws k).cnt=1:=by rw[hσ];exact⟨rfl,rfl,rfl⟩
 have e:stepG Pg (X.n0+k==0) (bj X.p xs [7]) v= .comm (bj X.p xs [7]) #[scase X.M.cB (X.fY i) (.tuple #[])] true .send v #[]:=by
  have hc:=aI.comm (Hh X.p xs []) (Kj X.p xs []) (w:=v) (w':=v) (es:=#[]) ⟨rfl,rfl⟩
  rw[eH,Ps,x9,x15] at hc
  rw[hne0]
  exact hc
 have hz:∀fn pos,MemOp.ofEvents (X.n0+k) fn pos #[]=#[]:=λfn pos=>by simp[ofEvents_eq]
 obtain⟨sB,hcB⟩:=H.wd.cB
 have hcl:X.M.cB< v.heap.size:=by have:=H.wd.size;omega
 have hjs:=D3 hk (.recv 5 xs)
 have hcount:=H.ac.count
 have hsent:=H.ac.bu
 rw[hr.2.1] at hjs
 have hjs':sumTo s.j (λm=>if ((upd s.ws k (.recv 5 xs)) m).bJ.isSome then 1 else 0)+1=sumTo s.j (λm=>if (s.ws m).bJ.isSome then 1 else 0)+0:=hjs
 have hroom:(s.cX.map X.fY).toArray.size< X.E.n:=by simp;omega
 have hrun:=crowd_send_room (P:=Pg) (sl:=sl) hg e hcB hroom (Cf O H.gs (X.n0+k) X.M.cB false (.inr (by omega)))
 rw[hz,Zp,TV] at hrun
 have ep:(s.cX.map X.fY).toArray.push (X.fY i)=((s.cX++ [i]).map X.fY).toArray:=by simp
 rw[ep] at hrun
 obtain⟨c1,c2,c3,c4,c5,c6⟩:=rA v X.M.cB X.E.n ((s.cX++ [i]).map X.fY).toArray false (sB+1) 0 false hcl
 have aA:∀i b,i< s.j->s.ow i b->b≠X.M.cB:=λi b hi hb h=>by have:=(H.tr.own i b hi hb).1;omega
 let s':PS:={s with ws:=upd s.ws k (.recv 5 xs),cX:=s.cX++ [i]}
 have hsw:∀m,m≠k->s'.ws m=s.ws m:=λm hm=>upd_ne _ _ hm
 have hsk:s'.ws k= .recv 5 xs:=upd_same _ _ _
 refine⟨s',_,_,_,hrun,⟨?_,?_,?_,?_,?_⟩,.inl ?_⟩
 ·refine H.gs.comm O hk (s':=s') rfl hsw rfl rfl rfl (u:=[_,_]) ?_ ?_ (by rw[c1];exact AI _) ?_
  ·intro op ag;simp at ag;rcases ag with rfl|rfl<;>exact⟨by simp,by simp⟩
  ·rw[hsk]
   refine⟨?_,hd⟩
   have hgd:=(Ja X.p xs).aD
   rw[Ij] at hgd
   exact hgd
  ·rintro b (⟨r,hr⟩|⟨m,hm,hb'⟩)
   ·exact c3 b (by have:=(O.K.cf r b hr).2;omega)
   ·exact c3 b (aA m b hm hb')
 ·refine⟨⟨by rw[c1];exact H.wd.old.1,λb hb'=>by rw[c3 b (by omega)];exact H.wd.old.2 b hb'⟩,by rw[c1];exact H.wd.size,?_,?_,?_,?_,⟨sB+1,c2⟩,?_,H.wd.tape,H.wd.os,H.wd.output⟩
  ·rw[c3 _ (by omega)];exact H.wd.bT
  ·rw[c3 _ (by omega)];exact H.wd.bN
  ·rw[c3 _ (by omega)];exact H.wd.bB
  ·rw[c3 _ (by omega)];exact H.wd.cN
  ·rw[c3 _ (by omega)];exact H.wd.wg
 ·refine⟨H.ac.on,H.ac.bu,H.ac.kQ,λm hm=>?_,?_,H.ac.ew,λm hm=>?_,λm hm hp=>?_,λm hm hrk=>?_⟩
  ·rcases H.ac.cover m hm with h|h|⟨k',h1,h2⟩
   ·exact .inl h
   ·exact .inr (.inl (by show m∈s.cX++ [i];simp[h]))
   ·by_cases hkk:k'=k
    ·subst hkk
     rw[hr.2.1] at h2
     cases h2
     exact .inr (.inl (by show i∈s.cX++ [i];simp))
    ·exact .inr (.inr ⟨k',h1,by rw[hsw k' hkk];exact h2⟩)
  ·show s.bZ.length+sumTo s.j (λm=>if ((upd s.ws k (.recv 5 xs)) m).bJ.isSome then 1 else 0)+(s.cX++ [i]).length<=s.mt.bu X
   simp only[Yh,Ys,Zc]
   omega
  ·have hm':m∈s.cX++ [i]:=hm
   simp at hm'
   rcases hm' with h|rfl
   ·exact H.ac.okB m h
   ·exact ho.lt
  ·by_cases hmk:m=k
   ·subst hmk;rw[hsk] at hp;cases hp
   ·rw[hsw m hmk] at hp
    exact H.ac.dh m hm hp
  ·by_cases hmk:m=k
   ·subst hmk;rw[hsk] at hrk;simp[Wk.ah] at hrk
   ·rw[hsw m hmk] at hrk
    exact H.ac.gone m hm hrk
 ·have:=H.wg.ie X hk (σ:= .recv 5 xs) (s.ow k) (by omega) (by simp[Wk.ah]) (by rw[hr.2.2];rfl) s.mt (.inl rfl)
  exact this.copy rfl rfl rfl rfl rfl
 ·refine H.tr.still (s':=s') rfl rfl (λm hm hrl=>?_) rfl c1 (λn xs h=>hfin n xs h) (u:=[_,_]) ?_ ?_ ?_ ?_
  ·by_cases hmk:m=k
   ·subst hmk;rw[hsk] at hrl;cases hrl
   ·rw[hsw m hmk] at hrl;exact hrl
  ·intro op ag;simp at ag;rcases ag with rfl|rfl<;>rfl
  ·intro op ag;simp at ag;rcases ag with rfl|rfl<;>exact hcl
  ·intro op ag;simp at ag;rcases ag with rfl|rfl<;>exact⟨by simp,by simp⟩
  ·intro op ag;simp at ag;rcases ag with rfl|rfl<;>simp
 ·have h1:=sumTo_upd s.ws (.recv 5 xs) Wk.ah hk
  have h2:=sumTo_upd s.ws (.recv 5 xs) Wk.cnt hk
  have h1':sumTo s.j (λm=>((upd s.ws k (.recv 5 xs)) m).ah)+(s.ws k).ah=sumTo s.j (λm=>(s.ws m).ah)+9:=h1
  have h2':sumTo s.j (λm=>((upd s.ws k (.recv 5 xs)) m).cnt)+(s.ws k).cnt=sumTo s.j (λm=>(s.ws m).cnt)+1:=h2
  have h3:s'.c=s.c:=by show sumTo s.j (λm=>((upd s.ws k (.recv 5 xs)) m).cnt)=_;unfold PS.c;omega
  show s.mt.ah s'.c+sumTo s.j (λm=>((upd s.ws k (.recv 5 xs)) m).ah)+12*s'.c+60*(X.E.n - s.rN)< s.mt.ah s.c+sumTo s.j (λm=>(s.ws m).ah)+12*s.c+60*(X.E.n - s.rN)
  rw[h3]
  omega
theorem Ow(O:aP T Goal X){s:PS}{gs:Array Goroutine}{v:World}{sl:Option (Nat×Nat)}{t:Trace}(H:PI T Goal X s gs v t)(hfin:∀n xs,s.mt= .fin n xs->False){k:Nat}(hk:k< s.j){g:Goroutine}(hg:gs[X.n0+k]? =some g)(hrun:g.status= .running):bA T Goal X s gs v sl t (X.n0+k):=by
 obtain⟨g',hg',hW⟩:=H.gs.work k hk
 rw[hg] at hg'
 cases hg'
 cases hσ:s.ws k with
 |load n=>
  cases n with
  |zero=>exact UF O H hfin hk hσ
  |succ n=>
   rw[hσ] at hW
   rcases hW.1.dG with ⟨h,_⟩|⟨m,g1,h,hst,hgl⟩
   ·cases h
   ·cases h;exact lY O H hfin hk hg hst (σ:= .load n) (by rw[hσ];exact⟨rfl,rfl,rfl,rfl,rfl,rfl⟩) (by rw[hσ];rfl) ⟨hgl,hW.2⟩
 |recv n xs=>
  cases n with
  |zero=>exact Fo O H hfin hk (.inl hσ)
  |succ n=>
   rw[hσ] at hW
   rcases hW.1.dG with ⟨h,_⟩|⟨m,g1,h,hst,hgl⟩
   ·cases h
   ·cases h;exact lY O H hfin hk hg hst (σ:= .recv n xs) (by rw[hσ];exact⟨rfl,rfl,rfl,rfl,rfl,rfl⟩) (by rw[hσ];rfl) ⟨hgl,hW.2⟩
 |dh xs=>rw[hσ] at hW;rw[hW.1] at hrun;cases hrun
 |woken xs=>exact Fo O H hfin hk (.inr hσ)
 |draw n i xs=>
  cases n with
  |zero=>exact Uh O H hfin hk hσ
  |succ n=>
   rw[hσ] at hW
   rcases hW.1.dG with ⟨h,_⟩|⟨m,g1,h,hst,hgl⟩
   ·cases h
   ·cases h;exact lY O H hfin hk hg hst (σ:= .draw n i xs) (by rw[hσ];exact⟨rfl,rfl,rfl,rfl,rfl,rfl⟩) (by rw[hσ];rfl) ⟨hgl,hW.2⟩
 |ops i l xs=>
  cases l with
  |nil=>rw[hσ] at hW;exact absurd rfl hW.2.2.1
  |cons j l=>
   rw[hσ] at hW
   have hh:=(qv hW.2.2.2.jq).1
   match j,hh with
   |0,_=>exact rf O H hfin hk hσ (.inl rfl)
   |1,_=>exact rf O H hfin hk hσ (.inr (.inl rfl))
   |2,_=>exact rf O H hfin hk hσ (.inr (.inr (.inl rfl)))
   |3,_=>exact rf O H hfin hk hσ (.inr (.inr (.inr (.inl rfl))))
   |4,_=>exact Ea O H hfin hk hσ (.inl rfl)
   |5,_=>exact Ea O H hfin hk hσ (.inr rfl)
   |6,_=>exact rf O H hfin hk hσ (.inr (.inr (.inr (.inr rfl))))
   |7,_=>exact Me O H hfin hk hσ
 |text i l xs x=>exact Ct O H hfin hk (.inl hσ)
 |jG i l xs x=>exact Ct O H hfin hk (.inr hσ)
 |conv n xs=>
  cases n with
  |zero=>exact Qw O H hfin hk hσ
  |succ n=>
   rw[hσ] at hW
   rcases hW.1.dG with ⟨h,_⟩|⟨m,g1,h,hst,hgl⟩
   ·cases h
   ·cases h;exact lY O H hfin hk hg hst (σ:= .conv n xs) (by rw[hσ];exact⟨rfl,rfl,rfl,rfl,rfl,rfl⟩) (by rw[hσ];rfl) ⟨hgl,hW.2⟩
 |oT xs=>exact LJ O H hfin hk hσ
 |ef n xs=>
  cases n with
  |zero=>exact I6 O H hfin hk hσ
  |succ n=>
   rw[hσ] at hW
   rcases hW.1.dG with ⟨h,_⟩|⟨m,g1,h,hst,hgl⟩
   ·cases h
   ·cases h;exact lY O H hfin hk hg hst (σ:= .ef n xs) (by rw[hσ];exact⟨rfl,rfl,rfl,rfl,rfl,rfl⟩) (by rw[hσ];rfl) ⟨hgl,hW.2⟩
 |add n xs=>
  cases n with
  |zero=>exact Sx O H hfin hk hσ
  |succ n=>
   rw[hσ] at hW
   rcases hW.1.dG with ⟨h,_⟩|⟨m,g1,h,hst,hgl⟩
   ·cases h
   ·cases h;exact lY O H hfin hk hg hst (σ:= .add n xs) (by rw[hσ];exact⟨rfl,rfl,rfl,rfl,rfl,rfl⟩) (by rw[hσ];rfl) ⟨hgl,hW.2⟩
 |gT n xs=>
  cases n with
  |zero=>exact OH O H hfin hk hσ
  |succ n=>
   rw[hσ] at hW
   rcases hW.1.dG with ⟨h,_⟩|⟨m,g1,h,hst,hgl⟩
   ·cases h
   ·cases h;exact lY O H hfin hk hg hst (σ:= .gT n xs) (by rw[hσ];exact⟨rfl,rfl,rfl,rfl,rfl,rfl⟩) (by rw[hσ];rfl) ⟨hgl,hW.2⟩
 |gH n xs=>
  cases n with
  |zero=>exact WQ O H hfin hk hσ
  |succ n=>
   rw[hσ] at hW
   rcases hW.1.dG with ⟨h,_⟩|⟨m,g1,h,hst,hgl⟩
   ·cases h
   ·cases h;exact lY O H hfin hk hg hst (σ:= .gH n xs) (by rw[hσ];exact⟨rfl,rfl,rfl,rfl,rfl,rfl⟩) (by rw[hσ];rfl) ⟨hgl,hW.2⟩
 |gf n xs=>
  cases n with
  |zero=>exact Ry O H hfin hk hσ
  |succ n=>
   rw[hσ] at hW
   rcases hW.1.dG with ⟨h,_⟩|⟨m,g1,h,hst,hgl⟩
   ·cases h
   ·cases h;exact lY O H hfin hk hg hst (σ:= .gf n xs) (by rw[hσ];exact⟨rfl,rfl,rfl,rfl,rfl,rfl⟩) (by rw[hσ];rfl) ⟨hgl,hW.2⟩
 |quit q=>exact M8 O H hfin hk hσ hg hrun
theorem Su(O:aP T Goal X){s:PS}{gs:Array Goroutine}{v:World}{sl:Option (Nat×Nat)}{t:Trace}(H:PI T Goal X s gs v t)(hfin:∀n xs,s.mt= .fin n xs->False){i:Nat}(hi:0< i)(hin:i< X.n0){g:Goroutine}(hg:gs[i]? =some g)(hrun:g.status= .running):bA T Goal X s gs v sl t i:=by
 have hq:=H.gs.jP i g hi hin hg
 cases hqi:s.q i with
 |zero=>rw[hqi] at hq;rw[hq.1] at hrun;cases hrun
 |succ q=>
  rw[hqi] at hq
  rcases hq with ⟨hf,_⟩|⟨_,g1,es,hm,hst,hq⟩
  ·rw[hf] at hrun;cases hrun
  have hne0:(i==0)=false:=by simp;omega
  have hrunT:=runT_crowd_go (P:=Pg) (sl:=sl) (i:=i) hg (by rw[hne0];exact hst v)
  obtain⟨h,h0,hM⟩:=H.gs.main
  obtain⟨mt',hM',hml,_⟩:=hM.woken O g g1 v
  have hfacts:=jh.facts (X:=X) hml
  have hlt:i< gs.size:=(IN.1 hg).1
  have hdf:∀j,j≠i->Deaf (t++MemOp.ofEvents i g.frame.fn g.frame.place es) j=Deaf t j:=λj hj=>Deaf_other t (Ne.symm hj) _ λop ag=>ofEvents_g ag
  have htn:∀op∈MemOp.ofEvents i g.frame.fn g.frame.place es,op.act.touch? =none:=λop ag=>by obtain⟨e,he,rfl⟩:=Go.Conc.mem_ofEvents ag;exact touch_mute (hm e he)
  let s':PS:={s with mt:=mt',q:=upd s.q i q}
  have hsum:sumTo X.n0 (upd s.q i q)+(q+1)=sumTo X.n0 s.q+q:=by
   have:=sumTo_upd s.q q id hin
   simpa[hqi] using this
  refine⟨s',_,v,_,hrunT,⟨?_,H.wd.same rfl hfacts.2.2.2.1 hfacts.2.1 rfl rfl rfl rfl,?_,?_,?_⟩,.inr (.inr ⟨?_,rfl,?_⟩)⟩
  ·refine⟨by simp[H.gs.size,s'],⟨_,by rw[Ye (by omega),YL,h0];rfl,hM'⟩,λk hk=>?_,λj x hj hjn hx=>?_,λj hj=>?_⟩
   ·obtain⟨x,hx,hw⟩:=H.gs.work k hk
    refine⟨x,?_,by rw[hdf _ (by omega)];exact hw⟩
    rw[Ye (by omega),YL,hx]
    simp only[YO]
    rw[hw.woken g g1 (λhp=>?_)]
    have hcn:=H.wd.cN
    rw[(H.ac.dh k hk hp).2] at hcn
    exact⟨_,_,_,_,_,hcn⟩
   ·by_cases hji:i=j
    ·subst hji
     rw[YT (by simpa using hlt)] at hx
     obtain rfl:=YG hx
     show QuitsD Pg (upd s.q i q i) _ g1
     rw[upd_same,Deaf_own]
     exact hq
    ·rw[Ye hji,YL] at hx
     obtain⟨y,hy,rfl⟩:=Yq.1 hx
     have hqj:=H.gs.jP j y hj hjn hy
     show QuitsD Pg (upd s.q i q j) _ _
     rw[woken_quitsD hqj,upd_ne _ _ (Ne.symm hji),hdf _ (Ne.symm hji)]
     exact hqj
   ·simp only[YK,Array.size_map] at hj
    rw[hdf j (by omega)]
    exact H.gs.above j hj
  ·exact⟨H.ac.on.trans hfacts.2.2.1.symm,hfacts.2.1 ▸ H.ac.bu,H.ac.kQ.trans hfacts.2.1.symm,λm hm=>H.ac.cover m (hfacts.2.1 ▸ hm),by show _<=mt'.bu X;rw[hfacts.2.1];exact H.ac.count,H.ac.ew,H.ac.okB,λm hm hp=>⟨(H.ac.dh m hm hp).1,hfacts.2.2.2.1.trans (H.ac.dh m hm hp).2⟩,λm hm hr=>⟨hfacts.2.2.2.1.trans (H.ac.gone m hm hr).1,(H.ac.gone m hm hr).2⟩⟩
  ·obtain⟨_,_,_,_,f5,_,f7,f8,f9,_,f11,_⟩:=hfacts
   cases H.wg with
   |opn a1 a2 a3 a4 a5=>exact .opn (f7.trans a1) a2 (by show s.st=(s.c+mt'.eA)*aM;rw[f5];exact a3) a4 (λk n xs ys h=>a5 k n xs ys (f11 k n xs ys h))
   |dK a1 a2 a3 a4 a5=>exact .dK (f8.trans a1) a2 a3 a4 a5
   |last q a1 a2 a3 a4 a5 a6 a7=>exact .last q (f8.trans a1) a2 a3 a4 a5 a6 a7
   |fC a1 a2 a3 a4 a5=>exact .fC (f8.trans a1) (f9 a2) a3 a4 a5
   |done a1 a2 a3 a4 a5=>exact .done (f7.trans a1) (f8.trans a2) a3 a4 a5
  ·refine⟨?_,H.tr.own,H.tr.apart,λk hk hr=>?_,?_,?_,λn xs h=>(hfin n xs (hfacts.2.2.2.2.2.2.2.2.2.2.2 n xs h)).elim⟩
   ·exact H.tr.tp.mute (k:=i) (λop ag=>ofEvents_g ag) htn (λop ag=>by obtain⟨e,he,rfl⟩:=Go.Conc.mem_ofEvents ag;exact low_mute (hm e he) _)
   ·obtain⟨r,hr⟩:=H.tr.rel k hk hr
    exact⟨r,RelBy.still hr htn⟩
   ·refine H.tr.norel.app λop ag=>?_
    obtain⟨e,he,rfl⟩:=Go.Conc.mem_ofEvents ag
    have:=hm e he
    obtain⟨loc,wr,sy⟩:=e
    cases loc with
    |mark m=>cases m<;>simp_all[Event.mute,MemAct.ofEvent]
    |_=>simp[Event.mute] at this
   ·rw[hdf 0 (by omega),H.tr.d0]
    exact hfacts.2.2.2.2.2.1.symm
  ·show mt'.ah s.c+sumTo s.j (λk=>(s.ws k).ah)+12*s.c+60*(X.E.n - s.rN)=s.mt.ah s.c+sumTo s.j (λk=>(s.ws k).ah)+12*s.c+60*(X.E.n - s.rN)
   rw[hfacts.1]
  ·show mt'.idle+2*sumTo s.j (λk=>(s.ws k).idle)+2*sumTo X.n0 (upd s.q i q)< s.mt.idle+2*sumTo s.j (λk=>(s.ws k).idle)+2*sumTo X.n0 s.q
   have:=hfacts.2.2.2.2.2.2.2.2.2.1
   omega
end
end
section
open Go.Conc
open Go.ConcN (upd upd_same upd_ne sumTo sumTo_upd sumTo_congr sumTo_le le_sumTo RelBy)
section
variable {L:aB} {T:aT} {Goal:Frame->List Frame->World->Prop} {X:PC L}
theorem zV(O:aP T Goal X)(xs:Nat->Value){i:Nat}(hi:i< X.nW):aH Pg true 22 (dr X.M xs X.ds X.nW i) (lX (X.mc i xs) X.ds X.M.wg):=by
 have key:aH Pg true 10 (dr X.M xs X.ds X.nW i) (nB (X.mc i xs) X.ds X.M.wg):=by
  unfold PC.mc
  rcases O.nW with h|h<;>rw[h] at hi ⊢
  ·obtain rfl:i=0:=by omega
   have:=(XG X.M xs X.ds).aD
   rw[PZ] at this
   exact this
  ·rcases (show i=0\/i=1\/i=2\/i=3 by omega) with rfl|rfl|rfl|rfl
   ·have:=(Nn X.M xs X.ds).aD;rw[Wc] at this;exact this
   ·have:=(RP X.M xs X.ds).aD;rw[Lc] at this;exact this
   ·have:=(Tg X.M xs X.ds).aD;rw[UC] at this;exact this
   ·have:=(MF X.M xs X.ds).aD;rw[Q2] at this;exact this
 exact key.trans (Uc _ _ _).aD
theorem Du(O:aP T Goal X)(xs:Nat->Value){i:Nat}(hi:i< X.nW):aH Pg true 3 (iD (X.mc i xs) X.ds) (cC X.M xs X.ds X.nW i):=by
 unfold PC.mc
 rcases O.nW with h|h<;>rw[h] at hi ⊢
 ·obtain rfl:i=0:=by omega
  exact (JC X.M xs X.ds).aD
 ·rcases (show i=0\/i=1\/i=2\/i=3 by omega) with rfl|rfl|rfl|rfl
  ·exact (SN X.M xs X.ds).aD
  ·exact (KG X.M xs X.ds).aD
  ·exact (MS X.M xs X.ds).aD
  ·exact (GG X.M xs X.ds).aD
theorem I2(O:aP T Goal X)(xs:Nat->Value){i:Nat}(hi:i< X.nW):(∀w,stepG Pg true (cC X.M xs X.ds X.nW i) w= .spawn (fin (cC X.M xs X.ds X.nW i) unit) (j7 X.p) w #[])/\∃xs',aH Pg true 9 (fin (cC X.M xs X.ds X.nW i) unit) (dr X.M xs' X.ds X.nW ((i+1:Nat):Int)):=by
 rcases O.nW with h|h<;>rw[h] at hi ⊢
 ·obtain rfl:i=0:=by omega
  have:=(RG X.M xs X.ds).aD;rw[I5] at this
  exact⟨λw=>Qf X.M xs X.ds w,_,this⟩
 ·rcases (show i=0\/i=1\/i=2\/i=3 by omega) with rfl|rfl|rfl|rfl
  ·have:=(It X.M xs X.ds).aD;rw[Pk] at this
   exact⟨λw=>LM X.M xs X.ds w,_,this⟩
  ·have:=(I9 X.M xs X.ds).aD;rw[QZ] at this
   exact⟨λw=>UY X.M xs X.ds w,_,this⟩
  ·have:=(Lr X.M xs X.ds).aD;rw[VE] at this
   exact⟨λw=>Uf X.M xs X.ds w,_,this⟩
  ·have:=(T5 X.M xs X.ds).aD;rw[KM] at this
   exact⟨λw=>Ou X.M xs X.ds w,_,this⟩
theorem Bq(O:aP T Goal X)(xs:Nat->Value){j:Nat}(hj:j<=X.E.n):(j< X.E.n->aH Pg true 13 (mN X.M xs X.ds j) (mM X.M xs X.ds j))/\(j=X.E.n->aH Pg true 7 (mN X.M xs X.ds j) (o9 X.M xs X.ds X.E.n)):=by
 have _:=hj
 have h1:=(MM X.M xs X.ds j).aD
 rw[S6,O.count] at h1
 constructor
 ·intro h
  rw[show decide ((j:Int)< (X.E.n:Int))=true by simp;omega] at h1
  exact h1.trans (Vf X.M xs X.ds j).aD
 ·intro h
  subst h
  rw[show decide ((X.E.n:Int)< (X.E.n:Int))=false by simp] at h1
  exact h1.trans (KH X.M xs X.ds X.E.n).aD
theorem DQ(O:aP T Goal X)(xs:Nat->Value){i:Nat}(hi:i<=X.nW):(i< X.nW->aH Pg true 22 (dr X.M xs X.ds X.nW i) (lX (X.mc i xs) X.ds X.M.wg))/\(i=X.nW->∃xs',aH Pg true 28 (dr X.M xs X.ds X.nW i) (mM X.M xs' X.ds (0:Nat))):=by
 have _:=hi
 refine⟨λh=>zV O xs h,λh=>?_⟩
 subst h
 have hn:0< X.E.n:=by have:=O.nn;omega
 have key: ∃xs',aH Pg true 15 (dr X.M xs X.ds X.nW X.nW) (mN X.M xs' X.ds (0:Nat)):=by
  rcases O.nW with h|h<;>rw[h]
  ·have:=(Sp X.M xs X.ds).aD;rw[V9] at this;exact⟨_,this⟩
  ·have:=(RQ X.M xs X.ds).aD;rw[La] at this;exact⟨_,this⟩
 obtain⟨xs',h1⟩:=key
 exact⟨xs',h1.trans ((Bq O xs' (Y2 _)).1 hn)⟩
theorem B8(O:aP T Goal X){s s':PS}{gs:Array Goroutine}{v v1:World}{sl:Option (Nat×Nat)}{t:Trace}(H:PI T Goal X s gs v t){h h1:Goroutine}(h0:gs[0]? =some h){es:Array Event}(e:stepG Pg true h v= .go h1 v1 es)(hM:bY X h1 s'.mt)(e1:s'.j=s.j)(e2:s'.ws=s.ws)(e3:s'.ow=s.ow)(e4:s'.q=s.q)(e5:s'.bZ=s.bZ)(e6:s'.rN=s.rN)(e7:s'.cX=s.cX)(e8:s'.mt.bu X=s.mt.bu X)(e9:s'.mt.shut=s.mt.shut)(e10:s'.mt.on X=s.mt.on X)(hs:v1.heap.size=v.heap.size)(hoth:∀b,b≠X.M.wg->v1.heap[b]? =v.heap[b]?)(hwgb:v1.heap[X.M.wg]? =some (.cells #[.int .u64 s'.st,.int .u32 s'.sm] 188))(ht:v1.tape=v.tape/\v1.os=v.os/\v1.output=v.output)(hwg:Wg s')(hev:∀e∈es,∀a,(MemAct.ofEvent e).touch? =some a->a.loc.isMemory=true/\mA (iB X s') 0 a)(hlow:∀e∈es,(MemAct.ofEvent e).low v.heap.size)(aZ:∀e∈es,e.loc≠.mark (.release (bC X)))(hd:deafBehind s.mt.deaf es=s'.mt.deaf)(hacq:∀n xs,s'.mt= .fin n xs->∃q,(t++MemOp.ofEvents 0 h.frame.fn h.frame.place es).act? q=some (.mark (.acquire (bC X)))/\(t++MemOp.ofEvents 0 h.frame.fn h.frame.place es).g? q=some 0/\(t++MemOp.ofEvents 0 h.frame.fn h.frame.place es).heard q/\∀k,k< s.j->∃r,RelBy (bC X) (t++MemOp.ofEvents 0 h.frame.fn h.frame.place es) (X.n0+k) r/\r< q)(hdec:o7 Goal X s' s):bA T Goal X s gs v sl t 0:=by
 have hn0:=O.n0
 have b1:=O.bT;have b2:=O.cN;have b3:=O.bN;have b4:=O.cB;have b5:=O.bB;have b6:=O.wg
 have hrun:=runT_crowd_go (P:=Pg) (sl:=sl) (i:=0) h0 (show stepG Pg (0==0) h v=_ from e)
 refine⟨s',_,v1,_,hrun,⟨?_,?_,?_,hwg,?_⟩,hdec⟩
 ·refine H.gs.N8 O hM (by rw[hs];exact AI _) ?_ ?_ e1 e2 e3 e4 _ _
  ·rintro b (⟨r,hr⟩|⟨k,hk,hb⟩)
   ·exact hoth b (by have:=(O.K.cf r b hr).2;omega)
   ·exact hoth b (by have:=(H.tr.own k b hk hb).1;omega)
  ·intro i hi hp
   have hcn:=H.wd.cN
   rw[(H.ac.dh i hi hp).2,←hoth _ (by omega)] at hcn
   exact⟨_,_,_,_,_,hcn⟩
 ·refine⟨⟨by rw[hs];exact H.wd.old.1,λb hb=>by rw[hoth b (by omega)];exact H.wd.old.2 b hb⟩,by rw[hs];exact H.wd.size,?_,?_,?_,?_,?_,hwgb,ht.1.trans H.wd.tape,ht.2.1.trans H.wd.os,ht.2.2.trans H.wd.output⟩
  ·rw[hoth _ (by omega)];exact H.wd.bT
  ·rw[hoth _ (by omega)];exact H.wd.bN
  ·rw[hoth _ (by omega)];exact H.wd.bB
  ·rw[hoth _ (by omega),e5,e6,e8,e9];exact H.wd.cN
  ·obtain⟨sB,h⟩:=H.wd.cB;exact⟨sB,by rw[hoth _ (by omega),e7];exact h⟩
 ·refine⟨e1.trans (H.ac.on.trans e10.symm),e8 ▸ H.ac.bu,by rw[e5,e6,e8];exact H.ac.kQ,λm hm=>?_,?_,by rw[e5];exact H.ac.ew,by rw[e7];exact H.ac.okB,λm hm hp=>?_,λm hm hr=>?_⟩
  ·rw[e5,e7,e1,e2];exact H.ac.cover m (e8 ▸ hm)
  ·rw[e5,e7,e8,e1,e2];exact H.ac.count
  ·rw[e2] at hp;rw[e5,e9];exact H.ac.dh m (e1 ▸ hm) hp
  ·rw[e2] at hr;rw[e5,e9];exact H.ac.gone m (e1 ▸ hm) hr
 ·refine H.tr.step O (s':=s') (.inl rfl) e1 (by rw[hs];exact AI _) (λi b hi hb=> .inl (by rw[←e3];exact hb)) H.wd.size hev (λe he=>by rw[hs];exact hlow e he) (λk hk hr=>?_) aZ (by simp only[XZ];rw[H.tr.d0];exact hd) hacq
  rw[e2] at hr
  exact vK H.tr (λop ag=>ofEvents_g ag) hk (by omega) hr
structure Af(X:PC L)(mt mt':Mt):Prop where
 ah:∀c,mt'.ah c=mt.ah c
 bu:mt'.bu X=mt.bu X
 on:mt'.on X=mt.on X
 shut:mt'.shut=mt.shut
 eA:mt'.eA=mt.eA
 deaf:mt'.deaf=mt.deaf
 opn:kp mt'=kp mt
 dK:jA mt'=jA mt
 blk:lN mt'=lN mt
 fF:∀k n xs ys,mt'= .fF k n xs ys->∃n',mt= .fF k n' xs ys
 VW:∀n xs,mt'≠.fin n xs
theorem Wg.Qi{s:PS}{mt':Mt}(H:Wg s)(hm:Af X s.mt mt'):Wg {s with mt:=mt'}:=by
 cases H with
 |opn a1 a2 a3 a4 a5=>exact .opn (hm.opn.trans a1) a2 (by show s.st=(s.c+mt'.eA)*aM;rw[hm.eA];exact a3) a4 (λk n xs ys h=>by obtain⟨n',h'⟩:=hm.fF k n xs ys h;exact a5 k n' xs ys h')
 |dK a1 a2 a3 a4 a5=>exact .dK (hm.dK.trans a1) a2 a3 a4 a5
 |last q a1 a2 a3 a4 a5 a6 a7=>exact .last q (hm.dK.trans a1) a2 a3 a4 a5 a6 a7
 |fC a1 a2 a3 a4 a5=>exact .fC (hm.dK.trans a1) (hm.blk.trans a2) a3 a4 a5
 |done a1 a2 a3 a4 a5=>exact .done (hm.opn.trans a1) (hm.dK.trans a2) a3 a4 a5
theorem fO(O:aP T Goal X){s:PS}{gs:Array Goroutine}{v:World}{sl:Option (Nat×Nat)}{t:Trace}(H:PI T Goal X s gs v t){h h1:Goroutine}(h0:gs[0]? =some h)(e:∀w,stepG Pg true h w= .go h1 w #[]){mt':Mt}(hM:bY X h1 mt')(hm:Af X s.mt mt')(hi:mt'.idle+1=s.mt.idle):bA T Goal X s gs v sl t 0:=by
 refine B8 O H (s':={s with mt:=mt'}) h0 (e v) hM rfl rfl rfl rfl rfl rfl rfl hm.bu hm.shut hm.on rfl (λ_ _=>rfl) H.wd.wg ⟨rfl,rfl,rfl⟩ (H.wg.Qi hm) (λe he=>by simp at he) (λe he=>by simp at he) (λe he=>by simp at he) hm.deaf.symm (λn xs h=>absurd h (hm.VW n xs)) (.inr (.inr ⟨?_,rfl,?_⟩))
 ·show mt'.ah s.c+sumTo s.j (λk=>(s.ws k).ah)+12*s.c+60*(X.E.n - s.rN)=s.mt.ah s.c+sumTo s.j (λk=>(s.ws k).ah)+12*s.c+60*(X.E.n - s.rN)
  rw[hm.ah]
 ·show mt'.idle+2*sumTo s.j (λk=>(s.ws k).idle)+2*sumTo X.n0 s.q< s.mt.idle+2*sumTo s.j (λk=>(s.ws k).idle)+2*sumTo X.n0 s.q
  omega
theorem NB{s s':PS}(e1:s'.j=s.j)(e2:s'.ws=s.ws)(e6:s'.rN=s.rN)(h:s'.mt.ah s.c< s.mt.ah s.c):o7 Goal X s' s:=by
 refine .inl ?_
 have hc:s'.c=s.c:=by unfold PS.c;rw[e1,e2]
 unfold PS.phi
 rw[hc,e1,e2,e6]
 omega
end
end
section
open Go.Conc
open Go.ConcN (upd upd_same upd_ne sumTo sumTo_upd sumTo_congr sumTo_le le_sumTo RelBy)
theorem JQ:more 0=4294967296:=by kernel_rfl
theorem NU:more 4294967296=8589934592:=by kernel_rfl
theorem Th:more 8589934592=12884901888:=by kernel_rfl
theorem QT:more 12884901888=17179869184:=by kernel_rfl
theorem Sv{c:Nat}(h:c<=3):more (c*aM:Nat)=((c+1)*aM:Nat):=by
 rcases (show c=0\/c=1\/c=2\/c=3 by omega) with rfl|rfl|rfl|rfl
 ·exact JQ
 ·exact NU
 ·exact Th
 ·exact QT
section
variable (c:Frame) (cs:List Frame) (wg:Nat) (ys:Nat->Value) {k:Nat}
theorem Wv(h:2<=k/\k<=4):aG Pg true 87 (nP c cs wg (k*aM:Nat)):=by
 rcases (show k=2\/k=3\/k=4 by omega) with rfl|rfl|rfl
 ·exact Td c cs wg
 ·exact O0 c cs wg
 ·exact Hp c cs wg
theorem W7(h:2<=k/\k<=4)(w:World):stepG Pg true (gQ c cs wg (k*aM:Nat)) w= .go (kJ (gQ c cs wg (k*aM:Nat))) w #[aN .enable]:=by
 rcases (show k=2\/k=3\/k=4 by omega) with rfl|rfl|rfl
 ·exact VY c cs wg w
 ·exact Lk c cs wg w
 ·exact TQ c cs wg w
theorem Is(h:2<=k/\k<=4):aH Pg true 1 (kJ (gQ c cs wg (k*aM:Nat))) (iD c cs):=by
 rcases (show k=2\/k=3\/k=4 by omega) with rfl|rfl|rfl
 ·exact Qr c cs wg
 ·exact QK c cs wg
 ·exact Iq c cs wg
theorem SR(h:1<=k/\k<=4):aG Pg true 48 (mD c cs wg ys (k*aM:Nat)):=by
 rcases (show k=1\/k=2\/k=3\/k=4 by omega) with rfl|rfl|rfl|rfl
 ·exact RH c cs wg ys
 ·exact WE c cs wg ys
 ·exact Pm c cs wg ys
 ·exact F6 c cs wg ys
theorem AL(h:1<=k/\k<=4):(dq c cs wg ys (k*aM:Nat)).frame.fn=133:=by
 rcases (show k=1\/k=2\/k=3\/k=4 by omega) with rfl|rfl|rfl|rfl
 ·rw[show ((1*aM:Nat):Int)=4294967296 from rfl];exact FO c cs wg ys
 ·rw[show ((2*aM:Nat):Int)=8589934592 from rfl];exact Xa c cs wg ys
 ·rw[show ((3*aM:Nat):Int)=12884901888 from rfl];exact Rq c cs wg ys
 ·rw[show ((4*aM:Nat):Int)=17179869184 from rfl];exact Jn c cs wg ys
theorem Uq(h:1<=k/\k<=4):feed Pg (aJ (dq c cs wg ys (k*aM:Nat))) [cP,.fz false,.val (.int .u64 (k*aM:Nat))]=some ([.mk (.extern 151),.shp wg,.fz ⟨wg,0,none⟩,.ld .atomic ⟨wg,0,none⟩,.st .atomic ⟨wg,0,none⟩ (.int .u64 (k*aM+1:Nat))],.inl (.value (.bool true))):=by
 rcases (show k=1\/k=2\/k=3\/k=4 by omega) with rfl|rfl|rfl|rfl
 ·rw[show ((1*aM:Nat):Int)=4294967296 from rfl,show ((1*aM+1:Nat):Int)=4294967296+1 from rfl];exact OY c cs wg ys
 ·rw[show ((2*aM:Nat):Int)=8589934592 from rfl,show ((2*aM+1:Nat):Int)=8589934592+1 from rfl];exact M4 c cs wg ys
 ·rw[show ((3*aM:Nat):Int)=12884901888 from rfl,show ((3*aM+1:Nat):Int)=12884901888+1 from rfl];exact GS c cs wg ys
 ·rw[show ((4*aM:Nat):Int)=17179869184 from rfl,show ((4*aM+1:Nat):Int)=17179869184+1 from rfl];exact Ms c cs wg ys
theorem Tm{d:Nat}(h:1<=k/\k<=4)(hd:d< k):feed Pg (aJ (dq c cs wg ys (k*aM:Nat))) [cP,.fz false,.val (.int .u64 (d*aM:Nat))]=some ([.mk (.extern 151),.shp wg,.fz ⟨wg,0,none⟩,.ld .atomic ⟨wg,0,none⟩],.inl (.value (.bool false))):=by
 rcases (show (k=1/\d=0)\/(k=2/\d=0)\/(k=2/\d=1)\/(k=3/\d=0)\/(k=3/\d=1)\/(k=3/\d=2)\/(k=4/\d=0)\/(k=4/\d=1)\/(k=4/\d=2)\/(k=4/\d=3) by omega) with ⟨rfl,rfl⟩|⟨rfl,rfl⟩|⟨rfl,rfl⟩|⟨rfl,rfl⟩|⟨rfl,rfl⟩|⟨rfl,rfl⟩|⟨rfl,rfl⟩|⟨rfl,rfl⟩|⟨rfl,rfl⟩|⟨rfl,rfl⟩
 ·rw[show ((1*aM:Nat):Int)=4294967296 from rfl,show ((0*aM:Nat):Int)=0 from rfl];exact Rv c cs wg ys
 ·rw[show ((2*aM:Nat):Int)=8589934592 from rfl,show ((0*aM:Nat):Int)=0 from rfl];exact GX c cs wg ys
 ·rw[show ((2*aM:Nat):Int)=8589934592 from rfl,show ((1*aM:Nat):Int)=4294967296 from rfl];exact Xx c cs wg ys
 ·rw[show ((3*aM:Nat):Int)=12884901888 from rfl,show ((0*aM:Nat):Int)=0 from rfl];exact K8 c cs wg ys
 ·rw[show ((3*aM:Nat):Int)=12884901888 from rfl,show ((1*aM:Nat):Int)=4294967296 from rfl];exact Sm c cs wg ys
 ·rw[show ((3*aM:Nat):Int)=12884901888 from rfl,show ((2*aM:Nat):Int)=8589934592 from rfl];exact MH c cs wg ys
 ·rw[show ((4*aM:Nat):Int)=17179869184 from rfl,show ((0*aM:Nat):Int)=0 from rfl];exact Lg c cs wg ys
 ·rw[show ((4*aM:Nat):Int)=17179869184 from rfl,show ((1*aM:Nat):Int)=4294967296 from rfl];exact XN c cs wg ys
 ·rw[show ((4*aM:Nat):Int)=17179869184 from rfl,show ((2*aM:Nat):Int)=8589934592 from rfl];exact RI c cs wg ys
 ·rw[show ((4*aM:Nat):Int)=17179869184 from rfl,show ((3*aM:Nat):Int)=12884901888 from rfl];exact OM c cs wg ys
theorem We(h:1<=k/\k<=4): ∃ys',aH Pg true (9+16) (jr c cs wg ys (k*aM:Nat)) (pU c cs wg ys'):=by
 rcases (show k=1\/k=2\/k=3\/k=4 by omega) with rfl|rfl|rfl|rfl
 ·have:=(KL c cs wg ys).aD;rw[MB] at this;exact⟨_,this.trans (rT _ _ _ _).aD⟩
 ·have:=(Ub c cs wg ys).aD;rw[JS] at this;exact⟨_,this.trans (rT _ _ _ _).aD⟩
 ·have:=(QC c cs wg ys).aD;rw[PE] at this;exact⟨_,this.trans (rT _ _ _ _).aD⟩
 ·have:=(S9 c cs wg ys).aD;rw[K6] at this;exact⟨_,this.trans (rT _ _ _ _).aD⟩
theorem JE(h:1<=k/\k<=4):aG Pg true 19 (pS c cs wg ys (k*aM:Nat)):=by
 rcases (show k=1\/k=2\/k=3\/k=4 by omega) with rfl|rfl|rfl|rfl
 ·exact Rr c cs wg ys
 ·exact TX c cs wg ys
 ·exact F7 c cs wg ys
 ·exact Tk c cs wg ys
theorem Wx(h:1<=k/\k<=4):feed Pg (aJ (j5 c cs wg ys (k*aM:Nat))) [cP,cP]=some ([.shp wg,.shp wg],.inl (.value (jd wg))):=by
 rcases (show k=1\/k=2\/k=3\/k=4 by omega) with rfl|rfl|rfl|rfl
 ·exact QW c cs wg ys
 ·exact SC c cs wg ys
 ·exact JO c cs wg ys
 ·exact QY c cs wg ys
theorem Lh(h:1<=k/\k<=4)(w:World):stepG Pg true (dC c cs wg ys (k*aM:Nat)) w= .go (fin (dC c cs wg ys (k*aM:Nat)) unit) w #[aN (.write ⟨wg,1,none⟩)]:=by
 rcases (show k=1\/k=2\/k=3\/k=4 by omega) with rfl|rfl|rfl|rfl
 ·exact Rt c cs wg ys w
 ·exact T0 c cs wg ys w
 ·exact KA c cs wg ys w
 ·exact WV c cs wg ys w
theorem Ml(h:1<=k/\k<=4): ∃ys',aH Pg true 23 (fin (dC c cs wg ys (k*aM:Nat)) unit) (iz c cs wg ys'):=by
 rcases (show k=1\/k=2\/k=3\/k=4 by omega) with rfl|rfl|rfl|rfl
 ·have:=(Qt c cs wg ys).aD;rw[ND] at this;exact⟨_,this⟩
 ·have:=(Sd c cs wg ys).aD;rw[JG] at this;exact⟨_,this⟩
 ·have:=(MR c cs wg ys).aD;rw[XF] at this;exact⟨_,this⟩
 ·have:=(PY c cs wg ys).aD;rw[PW] at this;exact⟨_,this⟩
end
section
variable {L:aB} {T:aT} {Goal:Frame->List Frame->World->Prop} {X:PC L}
def qt(X:PC L)(e:Event):Prop:=(∃o wr,e=⟨.cell ⟨X.M.wg,o,none⟩,wr,true⟩)\/e=aN .disable\/e=aN .enable\/(∃o,e=aN (.read ⟨X.M.wg,o,none⟩))\/(∃o,e=aN (.write ⟨X.M.wg,o,none⟩))\/e=aN (.acquire (bC X))\/e=⟨.cell ⟨X.M.bN,0,none⟩,false,false⟩
theorem L5(O:aP T Goal X){s':PS}{B:Nat}(hB:X.M.wg< B){es:Array Event}(h:∀e∈es,qt X e):
  (∀e∈es,∀a,(MemAct.ofEvent e).touch? =some a->a.loc.isMemory=true/\mA (iB X s') 0 a)/\(∀e∈es,(MemAct.ofEvent e).low B)/\∀e∈es,e.loc≠.mark (.release (bC X)):=by
 have b3:=O.bN;have b6:=O.wg
 refine⟨λe he a ha=>?_,λe he=>?_,λe he=>?_⟩
 ·rcases h e he with ⟨o,wr,rfl⟩|rfl|rfl|⟨o,rfl⟩|⟨o,rfl⟩|rfl|rfl
  ·simp only[MemAct.ofEvent,MemAct.touch?,X2] at ha
   subst ha
   refine⟨rfl,λb hb=>?_⟩
   simp only[blk,X2] at hb
   subst hb
   exact .inr (.inr ⟨.inl rfl,by simp,by simp⟩)
  ·simp[aN,MemAct.ofEvent,MemAct.touch?] at ha
  ·simp[aN,MemAct.ofEvent,MemAct.touch?] at ha
  ·simp only[aN,MemAct.ofEvent,MemAct.touch?,X2] at ha
   subst ha
   refine⟨rfl,λb hb=>?_⟩
   simp only[blk,X2] at hb
   subst hb
   exact .inr (.inr ⟨.inl rfl,by simp,λ_=>rfl⟩)
  ·simp only[aN,MemAct.ofEvent,MemAct.touch?,X2] at ha
   subst ha
   refine⟨rfl,λb hb=>?_⟩
   simp only[blk,X2] at hb
   subst hb
   exact .inr (.inr ⟨.inl rfl,by simp,λ_=>rfl⟩)
  ·simp[aN,MemAct.ofEvent,MemAct.touch?] at ha
  ·exact uZ O s' 0 X.M.bN (.inr (.inl rfl)) _ (by simp) a ha
 ·rcases h e he with ⟨o,wr,rfl⟩|rfl|rfl|⟨o,rfl⟩|⟨o,rfl⟩|rfl|rfl
  ·exact oN hB _ _
  ·trivial
  ·trivial
  ·exact hB
  ·exact hB
  ·exact hB
  ·exact oN (show X.M.bN< B by omega) _ _
 ·rcases h e he with ⟨o,wr,rfl⟩|rfl|rfl|⟨o,rfl⟩|⟨o,rfl⟩|rfl|rfl<;>simp[aN]
theorem eu(O:aP T Goal X){s:PS}{gs:Array Goroutine}{v v1:World}{sl:Option (Nat×Nat)}{t:Trace}(H:PI T Goal X s gs v t){h h1:Goroutine}(h0:gs[0]? =some h){es:Array Event}(e:stepG Pg true h v= .go h1 v1 es)(mt':Mt)(st sm:Nat)(hM:bY X h1 mt')(same:mt'.bu X=s.mt.bu X/\mt'.shut=s.mt.shut/\mt'.on X=s.mt.on X)(hv:(v1=v/\st=s.st/\sm=s.sm)\/(v1=v.setCell ⟨X.M.wg,0,none⟩ (.int .u64 st)/\sm=s.sm)\/(v1=v.setCell ⟨X.M.wg,1,none⟩ (.int .u32 sm)/\st=s.st))(hwg:Wg {s with mt:=mt',st:=st,sm:=sm})(hes:∀e∈es,qt X e)(hd:deafBehind s.mt.deaf es=mt'.deaf)(hacq:(∀n xs,mt'≠.fin n xs)\/(pw s/\s.mt.deaf=0/\es=#[aN (.acquire (bC X))]))(hdec:mt'.ah s.c< s.mt.ah s.c\/(mt'.ah s.c=s.mt.ah s.c/\mt'.idle< s.mt.idle)):bA T Goal X s gs v sl t 0:=by
 obtain⟨p1,p2,p3⟩:=L5 O (s':={s with mt:=mt',st:=st,sm:=sm}) H.wd.size hes
 have hw:v1.heap.size=v.heap.size/\(∀b,b≠X.M.wg->v1.heap[b]? =v.heap[b]?)/\v1.heap[X.M.wg]? =some (.cells #[.int .u64 st,.int .u32 sm] 188)/\(v1.tape=v.tape/\v1.os=v.os/\v1.output=v.output):=by
  rcases hv with ⟨rfl,rfl,rfl⟩|⟨rfl,rfl⟩|⟨rfl,rfl⟩
  ·exact⟨rfl,λ_ _=>rfl,H.wd.wg,rfl,rfl,rfl⟩
  ·exact⟨(lr v X.M.wg 0 _).1,(lr v X.M.wg 0 _).2,H.wd.xx st,rfl,rfl,rfl⟩
  ·exact⟨(lr v X.M.wg 1 _).1,(lr v X.M.wg 1 _).2,H.wd.Ci sm,rfl,rfl,rfl⟩
 refine B8 O H (s':={s with mt:=mt',st:=st,sm:=sm}) h0 e hM rfl rfl rfl rfl rfl rfl rfl same.1 same.2.1 same.2.2 hw.1 hw.2.1 hw.2.2.1 hw.2.2.2 hwg p1 p2 p3 hd (λn xs hf=>?_) ?_
 ·rcases hacq with hn|⟨ha,hdf,rfl⟩
  ·exact absurd hf (hn n xs)
  ·have eo:MemOp.ofEvents 0 h.frame.fn h.frame.place #[aN (.acquire (bC X))]=#[{g:=0,fn:=h.frame.fn,pos:=h.frame.place,act:= .mark (.acquire (bC X))}]:=by simp[ofEvents_eq,aN,MemAct.ofEvent]
   rw[eo]
   refine⟨t.size,by simp[Trace.act?],by simp[Trace.g?],⟨0,by simp[Trace.g?],by rw[deaf_old (AI _)];exact H.tr.d0.trans hdf⟩,λk hk=>?_⟩
   obtain⟨r,hr⟩:=H.tr.rel k hk (by
    have:=ha k hk
    cases hσ:s.ws k<;>rw[hσ] at this<;>simp[Wk.ah] at this<;>rfl)
   have hlt:r< t.size:=by
    have:=hr.g
    unfold Trace.g? at this
    obtain⟨z,hz,_⟩:=Yq.1 this
    exact lt_size_of_getElem? hz
   exact⟨r,RelBy.still hr λop ag=>by simp at ag;rw[ag];rfl,hlt⟩
 ·rcases hdec with h|⟨h,h'⟩
  ·exact NB rfl rfl rfl h
  ·refine .inr (.inr ⟨?_,rfl,?_⟩)
   ·show mt'.ah s.c+sumTo s.j (λk=>(s.ws k).ah)+12*s.c+60*(X.E.n - s.rN)=s.mt.ah s.c+sumTo s.j (λk=>(s.ws k).ah)+12*s.c+60*(X.E.n - s.rN)
    rw[h]
   ·show mt'.idle+2*sumTo s.j (λk=>(s.ws k).idle)+2*sumTo X.n0 s.q< s.mt.idle+2*sumTo s.j (λk=>(s.ws k).idle)+2*sumTo X.n0 s.q
    omega
end
end
end Go.Proofs.YtldmcdeibiclkaaGreatDoor.U
