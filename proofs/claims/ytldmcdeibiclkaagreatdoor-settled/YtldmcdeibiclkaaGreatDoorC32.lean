/-
  The statement of Settled: the row, and its tied card: for every list of numbers and every number the answer is true, and the list reads behind the call as it read before; the keys are laid by the program's own text; on every tape and in every order in which the goroutines run.
-/
import Derived.Test.YtldmcdeibiclkaaGreatDoorCards
import Derived.Test.YtldmcdeibiclkaaGreatDoorTie
import Derived.Test.YtldmcdeibiclkaaGreatDoorC15
import Derived.Test.YtldmcdeibiclkaaGreatDoorC31
import Derived.WalkKit
import Derived.ProofKit
import Derived.OpenShut
import Derived.LaidMore
import Derived.ChangeSlices
import Derived.Deep.DeepHandedRow
import Derived.Conc.Holds
set_option linter.unusedVariables false
set_option linter.unusedSimpArgs false
set_option maxRecDepth 100000
set_option maxHeartbeats 20000000
section
namespace Go
open Go.Conc
section
variable {H:Type}{enc:TypeId×Value->H}
theorem Qh{a:Assume}{C:Checked}{os:Os}{f:FuncId}{fn:Func}{s:ChangeSpec}{conds:List PathCond}{apart fresh handsOn again:Bool}{laid:List (String×DataW Unit)}(own:ownKnob C.prog.godebug=none)(started:os.Started)(hfn:C.prog.funcs[f]?=some fn)(witness: ∃(w:World) (tape:Tape) (i:Input),w.os=os/\(w.forCall tape i).Shaped C.prog/\i.vars= []/\Input.okWide C.prog (w.forCall tape i) .any w.heap.size f i/\
   (OpenSpec.ofChange s).preRow enc C.prog fn conds apart laid (w.forCall tape i).memory i.args/\a.holds C.prog (lone (Frame.enter C.prog f i.args .normal) [] (w.forCall tape i)))(runs:∀(W:World) (base:Nat) (args:Array Value) (ds gs:List (DataW H)) (before:List MemPlace),
   (∀(j:Nat) t v,fn.params[j]?=some t->args[j]?=some v->Value.okWide C.prog W .any base t v)->
   DataW.Whole enc C.prog fn.params.toList s.vars apart W args.toList ds gs before->
   laidMetH C.prog laid W->
   ∃M last o w' t',runNT C.prog (M+1) (solo (G (Frame.enter C.prog f args .normal) []) W) #[]=(.ended o w',t')/\runN C.prog M (solo (G (Frame.enter C.prog f args .normal) []) W)=.next last/\
    step C.prog last=.ended o w'/\Conc.Good C.prog (λv W'=>s.post enc C.prog fn apart fresh handsOn again W args v W') last o w' t'):
  ReturnsInLeavingWide a C os f .any ((OpenSpec.ofChange s).preRow enc C.prog fn conds apart laid) (s.post enc C.prog fn apart fresh handsOn again):=by
 refine returnsInLeavingWide_of_good own started witness ?_;intro w tape i _ _ _ hok hpre _;obtain⟨_,_,_,fn',hfn',_,_,_,_,dD⟩:=hok;have e:fn'=fn:=Option.some.inj (hfn'.symm.trans hfn);subst e;obtain⟨⟨hp,hl⟩,_⟩:=hpre;obtain⟨ds,gs,before,hw,_,_⟩:=OpenSpec.pre_parts hp;have hw':=DataW.Whole.of_heap (w':=w.forCall tape i) (by rfl) hw;obtain⟨M,last,o,w',t',h1,h2,h3,h4⟩:=runs (w.forCall tape i) w.heap.size i.args ds gs before dD hw' (hl.of_heap (by rfl));exact⟨M,last,o,w',t',h1,h2,h3,h4.mono λv hp=>ChangeSpec.post_blind hp⟩
end
end Go
namespace Go.Proofs.YtldmcdeibiclkaaGreatDoor.SettledRow
variable {W:World}
open Go.ChangeShapes Go.WideShapes Go.ChangeAt Go.RowKit Go.Conc
open Go.Proofs.YtldmcdeibiclkaaGreatDoor.U (oD FV uT fQ Pg cR bare sV oT o5)
open Go.Proofs.YtldmcdeibiclkaaGreatDoorQ (dY mP cV)
theorem own:ownKnob Tryz.prog.godebug=none:=by kernel_rfl
theorem laidOut:laidOutB Tryz.prog=true:=by kernel_rfl
theorem JL:Tryz.prog.globalNamed "attune/attunekeep.keys" =some 0:=by kernel_rfl
theorem Iz:(Tryz.prog.globals[0]?).map (·.type)=some 76:=by kernel_rfl
theorem PB:Tryz.prog.cellsOf 9=1:=by kernel_rfl
theorem Jr:Tryz.prog.cellsOf 3=1:=by kernel_rfl
def nF:Nat->ByteArray
 |0=>⟨#[97]⟩
 |1=>⟨#[98]⟩
 |_=>⟨#[122,122]⟩
theorem zS{s:ByteArray}{l:List UInt8}(h:s.data.toList=l):s=⟨l.toArray⟩:=by
 cases s with
 |mk d=>
  congr 1;exact Array.ext' (by simpa using h)
theorem G8:(∀k,k<3->cV (nF k)=true/\(nF k).size<=8)/\∀k l,k<3->l<3->nF k=nF l->k=l:=by
 refine⟨λk hk=>?_,λk l hk hl e=>?_⟩
 ·rcases (show k=0\/k=1\/k=2 by omega) with rfl|rfl|rfl<;>exact⟨by decide,by decide⟩
 ·rcases (show k=0\/k=1\/k=2 by omega) with rfl|rfl|rfl<;>rcases (show l=0\/l=1\/l=2 by omega) with rfl|rfl|rfl<;>first|rfl|exact absurd e (by decide)
theorem Ic(h:laidMetH Tryz.prog Rows.settledRow.laid W):∀i,i<3->W.cell? ⟨0,i,none⟩=some (.string (nF i)):=by
 rw[MakeChecks.laidMetH_plain _ _ _ (by kernel_rfl)]at h;obtain⟨ps,⟨g0,t0,cs0,f0,p0,q0,hg0,ht0,hv0,hd0,_,_⟩,_⟩:=h;obtain rfl:=Option.some.inj (JL.symm.trans hg0);obtain rfl:=Option.some.inj (Iz.symm.trans ht0);obtain⟨xs,m1,hm1,hx1,hlen,hn3,hel⟩:=DataW.trod_array Tryz.underlying76 hd0;have hxs:xs.map (·.1)= [.lit (.string [97]),.lit (.string [98]),.lit (.string [122,122])]:=by
  have:=congrArg (·.1) hx1;simp only[Rows.laid_attune_attunekeep_keys]at this;injection this with this;exact this.symm
 have each:∀i,i<3->∃s:ByteArray,W.cell? ⟨0,i,none⟩=some (.string s)/\(xs.map (·.1))[i]?=some (.lit (.string s.data.toList)):=by
  intro i hi;have h1:=hel i hi;rw[List.getElem?_eq_getElem (by omega)]at h1;obtain⟨s,e1,e2,_⟩:=DataW.trod_string Tryz.underlying9 h1;refine⟨s,?_,?_⟩
  ·rw[World.var?_cell hg0 hv0 i];rw[PB,Nat.mul_one]at e1
   have:=congrArg (·[0]?) e1;simpa using this
  ·rw[List.getElem?_map,List.getElem?_eq_getElem (by omega),Option.map_some,e2]
 intro i hi;obtain⟨s,h1,h2⟩:=each i hi;rw[hxs]at h2;rw[h1];rcases (show i=0\/i=1\/i=2 by omega) with rfl|rfl|rfl
 ·have h3:s.data.toList= [97]:=by simpa using h2.symm
  rw[zS h3];rfl
 ·have h3:s.data.toList= [98]:=by simpa using h2.symm
  rw[zS h3];rfl
 ·have h3:s.data.toList= [122,122]:=by simpa using h2.symm
  rw[zS h3];rfl
theorem RY{b:Nat}{x:TypeId×Nat}(h:W.shape? b=some x): ∃c e f,W.heap[b]?=some (.cells c e f):=by
 unfold World.shape? at h;split at h
 ·rename_i c e f hx;exact⟨_,_,_,hx⟩
 ·cases h
theorem runs{ad:Option Addr}{len cap:Nat}{lv:Int}(hk:∀i,i<3->W.cell? ⟨0,i,none⟩=some (.string (nF i)))(had:ad=none/\len=0\/∃b off c e f,ad=some ⟨b,off,none⟩/\W.heap[b]?=some (.cells c e f)/\∀j,j<len->∃z:Int,W.cell? ⟨b,off+j,none⟩=some (.int .i64 z)/\-9223372036854775808<=z/\z<=9223372036854775807)(hlen:len<=9223372036854775807)(hlv: -9223372036854775808<=lv/\lv<=9223372036854775807):
  ∃M last o w' t',runNT Tryz.prog (M+1) (solo (G (Frame.enter Tryz.prog 6 #[.slice ad len cap,.int .i64 lv] .normal) []) W) #[]=(.ended o w',t')/\runN Tryz.prog M (solo (G (Frame.enter Tryz.prog 6 #[.slice ad len cap,.int .i64 lv] .normal) []) W)=.next last/\
   step Tryz.prog last=.ended o w'/\Conc.Good Tryz.prog (λv W'=>v=.bool true/\Below W.heap.size W W') last o w' t':=by
 obtain⟨c0,e0,f0,h0⟩: ∃c e f,W.heap[0]?=some (.cells c e f):=by
  have h1:=hk 0 (by omega);unfold World.cell? at h1;split at h1
  ·rename_i c e f hx;exact⟨_,_,_,hx⟩
  ·cases h1
 have hs0:0<W.heap.size:=(Array.getElem?_eq_some_iff.1 h0).1;obtain⟨bs,off,cb,eb,fb,hb,hcode,had2⟩: ∃bs off c e f,W.heap[bs]?=some (.cells c e f)/\(∀j,j<len->∃z:Int,W.cell? ⟨bs,off+j,none⟩=some (.int .i64 z)/\-9223372036854775808<=z/\z<=9223372036854775807)/\(ad=none/\len=0\/ad=some ⟨bs,off,none⟩):=by
  rcases had with⟨rfl,rfl⟩|⟨b,off,c,e,f,rfl,h1,h2⟩
  ·exact⟨0,0,c0,e0,f0,h0,λj hj=>by omega,.inl ⟨rfl,rfl⟩⟩
  ·exact⟨b,off,c,e,f,h1,h2,.inr rfl⟩
 obtain⟨J,V,hbl,hheld⟩:=U.Qx (W:=W) (bs:=bs) (λr i=>(r=0/\i<3)\/(r=bs/\off<=i/\i<off+len)) h0 hb (λr i v hri hv=>by
  rcases hri with⟨rfl,hi⟩|⟨rfl,h1,h2⟩
  ·rw[hk i hi]at hv;cases hv;exact .inr ⟨_,rfl⟩
  ·obtain⟨z,hz,_⟩:=hcode (i-off) (by omega);rw[show off+(i-off)=i by omega,hv]at hz;cases hz;exact .inl ⟨_,_,rfl⟩)
 have hbs:bs<W.heap.size:=(Array.getElem?_eq_some_iff.1 hb).1;have hcell:∀(t:Nat->Question->Nat) r,r∈[0,bs]->∀i,World.cell? {bare [0,bs] V with tape:=t} ⟨r,i,none⟩=V.cell? ⟨r,i,none⟩:=λt r hr i=>by
  have:(bare [0,bs] V).heap[r]?=V.heap[r]? :=oT hr;simp only[World.cell?,this]
 have hcalls:∀t:Nat->Question->Nat,Calls U.Qg 6 #[.slice ad len cap,.int .i64 lv] {bare [0,bs] V with tape:=t} λe w'=>∃v,e=.returned v/\(v=.bool true/\∀k,k<V.heap.size->w'.heap[k]?=(bare [0,bs] V).heap[k]?):=λt=>by
  have hsz:({bare [0,bs] V with tape:=t}:World).heap.size=W.heap.size:=by
   show (bare [0,bs] V).heap.size=_;rw[sV,hbl.1]
  have hka:dY {bare [0,bs] V with tape:=t} nF:=⟨λk hk3=>by
   rw[hcell t 0 (by simp)];exact hheld 0 (by simp) k _ (.inl ⟨rfl,hk3⟩) (hk k hk3),G8.1,G8.2⟩
  have hca:mP {bare [0,bs] V with tape:=t} ad len:=by
   rcases had2 with⟨_,h⟩|h
   ·exact .inl h
   ·refine .inr ⟨bs,off,h,λj hj=>?_⟩;obtain⟨z,hz,hr⟩:=hcode j hj;exact⟨z,by rw[hcell t bs (by simp)];exact hheld bs (by simp) _ _ (.inr ⟨rfl,by omega,by omega⟩) hz,hr⟩
  have hq:=Go.Proofs.YtldmcdeibiclkaaGreatDoorQ.Tk ad len cap lv nF {bare [0,bs] V with tape:=t} hka hca hlen (λhpos b off' e=>by
   rcases had2 with⟨_,h⟩|h
   ·omega
   ·rw[h]at e;cases e;rw[hsz];exact hbs) (by rw[hsz];exact hs0) hlv
  rw[aa.is]at hq;refine hq.mono ?_;rintro e w' ⟨rfl,hb⟩;refine⟨_,rfl,rfl,λk hk=>?_⟩;exact hb.block k (by rw[hsz,<-hbl.1];exact hk)
 obtain⟨M,last,o,w',t',r1,r2,r3,r4⟩:=U.Mp (J:=J) (K:=[0,bs]) (V:=V) (W:=W) (by simp) hs0 hbl (f:=6) (show U.ef.fb 6=true by kernel_rfl) (by decide) (by kernel_rfl) (λi=>by rfl)
  (args:=#[.slice ad len cap,.int .i64 lv]) (λv hv=>by
   simp only[List.mem_toArray,List.mem_cons,List.not_mem_nil,or_false]at hv;rcases hv with rfl|rfl
   ·rcases had2 with⟨h,_⟩|h
    ·subst h;exact .inl rfl
    ·subst h;exact .inr ⟨_,_,_,rfl,by simp,hbs⟩
   ·exact .inl rfl)
  (Φ:=λx w1=>x=.bool true/\∀k,k<V.heap.size->w1.heap[k]?=(bare [0,bs] V).heap[k]?) (λ_ _ _ h=>h) hcalls
 exact⟨M,last,o,w',t',r1,r2,r3,r4.mono λv hp=>U.Pa hbl (by kernel_rfl) (λπ y h=>by cases h;rfl) hp⟩
theorem Qk(H:Type)(enc:TypeId×Value->H)(W:World)(base:Nat)(args:Array Value)(ds gs:List (DataW H))(before:List MemPlace)(dD:∀(j:Nat) t v,Tryz.f6.params[j]?=some t->args[j]?=some v->Value.okWide Tryz.prog W .any base t v)(hW:DataW.Whole enc Tryz.prog Tryz.f6.params.toList Rows.settledSpec.vars false W args.toList ds gs before)(hL:laidMetH Tryz.prog Rows.settledRow.laid W):
  ∃M last o w' t',runNT Tryz.prog (M+1) (solo (G (Frame.enter Tryz.prog 6 args .normal) []) W) #[]=(.ended o w',t')/\runN Tryz.prog M (solo (G (Frame.enter Tryz.prog 6 args .normal) []) W)=.next last/\
   step Tryz.prog last=.ended o w'/\Conc.Good Tryz.prog (λv W'=>Rows.settledSpec.post enc Tryz.prog Tryz.f6 false true false false W args v W') last o w' t':=by
 have hW':=hW;obtain⟨p,q,hA0,hV,rfl,hfz,hnd⟩:=hW;have hA:DataW.TrodAll enc Tryz.prog W 0 (λ_=>true) true Tryz.f6.params.toList args.toList ds p:=hA0;rw[Tryz.params6]at hA dD;obtain⟨v0,vs0,d0,ds0,p0,q0,hargs,rfl,rfl,t0,r0⟩:=trodAll_cons hA;obtain⟨v1,vs1,d1,ds1,p1,q1,rfl,rfl,rfl,t1,r1⟩:=trodAll_cons r0;obtain⟨rfl,rfl,rfl⟩:=trodAll_nil r1;obtain rfl:args=#[v0,v1]:=by cases args;simp_all
 obtain⟨rfl,rfl⟩:=trodVars_none hV;have o0:=dD 0 22 v0 rfl rfl;obtain⟨a0,len,cap,rfl⟩:=okWide_slice Tryz.underlying22 o0;obtain⟨lv,rfl,rfl,rfl,wl⟩:=open_int Tryz.underlying3 (dD 1 3 v1 rfl rfl) t1;have hK:=Ic hL;have hlt:∀x∈p0,x.block<W.heap.size:=λx hx=>by simpa using hW'.lt x (by simp[hx])
 have rng:∀z:Int,(Lit.int .i64 z).wf=true->-9223372036854775808<=z/\z<=9223372036854775807:=λz hw=>by
  simp[Lit.wf,IntKind.min,IntKind.max,IntKind.bits,IntKind.signed]at hw;omega
 have walk: ∃M last o w' t',runNT Tryz.prog (M+1) (solo (G (Frame.enter Tryz.prog 6 #[.slice a0 len cap,.int .i64 lv] .normal) []) W) #[]=(.ended o w',t')/\runN Tryz.prog M (solo (G (Frame.enter Tryz.prog 6 #[.slice a0 len cap,.int .i64 lv] .normal) []) W)=.next last/\
   step Tryz.prog last=.ended o w'/\Conc.Good Tryz.prog (λv W'=>v=.bool true/\Below W.heap.size W W') last o w' t':=by
  obtain⟨fuel,hf⟩:=t0;have hblk:∀a,a0=some a->a.spot=none/\∃c e f,W.heap[a.block]?=some (.cells c e f):=λa e=>by
   subst e;simp only[Value.okWide,Tryz.underlying22,Cell.okWide,Cell.ok]at o0;obtain⟨_,_,_,hsp,row,cells,hsh,_⟩:=o0;exact⟨hsp,RY hsh⟩
  rcases open_ints Tryz.underlying22 Tryz.underlying3 Jr hf with⟨hcs,_⟩|⟨a,len',cap',zs,hcs,_,hl,hm,hz,_,hcell,hwz⟩
  ·simp[Value.cells]at hcs;obtain⟨rfl,rfl,rfl⟩:=hcs;exact runs hK (.inl ⟨rfl,rfl⟩) (by omega) (rng lv wl)
  ·simp[Value.cells]at hcs;obtain⟨rfl,rfl,rfl⟩:=hcs;simp only[if_true]at hz;have hmax:len<=9223372036854775807:=by unfold maxLen at hm;omega
   obtain⟨hsp,c,e,f,hh⟩:=hblk a rfl;obtain⟨b,off,spot⟩:=a;obtain rfl:spot=none:=hsp;have hcell':∀j,j<zs.length->W.cell? ⟨b,off+j,none⟩=some (.int .i64 (zs.getD j 0)):=λj hj=>by rw[<-add_plain];exact hcell j hj
   refine runs hK (.inr ⟨b,off,c,e,f,rfl,hh,λj hj=>⟨zs.getD j 0,hcell' j (by omega),?_⟩⟩) hmax (rng lv wl);exact rng _ (hwz (zs.getD j 0) (by
    rw[List.getD_eq_getElem?_getD,List.getElem?_eq_getElem (by omega)];exact List.getElem_mem _))
 clear hA0;obtain⟨M,last,o,w',t',h1,h2,h3,h4⟩:=walk;refine⟨M,last,o,w',t',h1,h2,h3,h4.mono λv ⟨hv,hb⟩=>?_⟩;subst hv;refine⟨_,_,_,[],p0++([]++ []),[],hW',?_,?_,rfl,hb.frame _,λh=>by cases h⟩
 ·exact trodAll_cons_mk (shut_bool Tryz.underlying4 _) trodAll_mk0
 ·exact trodAll_cons_mk (Below.trod laidOut (by kernel_rfl) (of_decide_eq_true (by kernel_rfl)) t0 hb hlt) (trodAll_cons_mk (Below.trod laidOut (by kernel_rfl) (of_decide_eq_true (by kernel_rfl)) t1 hb (λx hx=>by simp at hx)) trodAll_mk0)
theorem NG(os:Os):laidMet Tryz.prog Rows.settledRow.laid ((World.doorLaid Tryz.prog 400 os).forCall (λ_ _=>0) ⟨#[],#[.slice none 0 0,.int .i64 0],[]⟩).memory:=
 laidMet_of_run' 8 (by kernel_rfl) (by kernel_rfl)
theorem reads(os:Os){H:Type}(enc:TypeId×Value->H): ∃places,DataW.whole enc Tryz.prog ((World.doorLaid Tryz.prog 400 os).forCall (λ_ _=>0) ⟨#[],#[.slice none 0 0,.int .i64 0],[]⟩).memory Tryz.f6.params.toList Rows.settledSpec.vars false #[Value.slice none 0 0,.int .i64 0].toList 8=some ([.nil,.lit (.int .i64 0)],[],places):=
 ⟨[],by kernel_rfl⟩
theorem lifted(os:Os)(started:os.Started)(H:Type)(enc:TypeId×Value->H):
  ReturnsInLeavingWide {} Tryz.checked os 6 .any ((OpenSpec.ofChange Rows.settledSpec).preRow enc Tryz.prog Tryz.f6 Rows.settledRow.domain false Rows.settledRow.laid) (Rows.settledSpec.post enc Tryz.prog Tryz.f6 false true false false):=by
 obtain⟨places,hx⟩:=reads os enc;refine Qh (C:=Tryz.checked) (s:=Rows.settledSpec) own started Tryz.func6
  (witness_row_at (enc:=enc) (C:=Tryz.checked) false (World.doorLaid Tryz.prog 400 os) #[.slice none 0 0,.int .i64 0] rfl (by kernel_rfl) (by kernel_rfl) (by kernel_rfl)
   (OpenSpec.preRow_of_cond 8 hx (by kernel_rfl) (λk hk=>by cases hk) (by kernel_rfl) (NG os))) ?_
 intro W base args ds gs before dD hW hL;exact Qk H enc W base args ds gs before dD hW hL
theorem said:Rows.SettledSaid:=
 OpenClaim.holds_of_wide_leaving 6 Tryz.f6 rfl rfl rfl rfl rfl rfl rfl ⟨rfl,rfl,rfl,rfl,rfl⟩ rfl rfl rfl rfl rfl (by kernel_rfl) Tryz.func6 (by kernel_rfl)
  (of_decide_eq_true (by kernel_rfl)) (by unfold Func.isWrapper;first|(rw[if_pos (by decide+kernel)];kernel_rfl)|(rw[if_neg (by decide+kernel)];exact⟨rfl,rfl⟩))
  (λos started H enc _=>by rw[OpenClaim.pre_eq_preRow];exact lifted os started H enc)
theorem plain(f:FuncId)(fn:Func)(hf:Tryz.pinned.checked.prog.funcNamed "attune/attunekeep.Settled" =some f)(hfn:Tryz.pinned.checked.prog.funcs[f]?=some fn):
  true=Tryz.pinned.checked.prog.looks []/\∀(j:Nat) t,fn.params[j]?=some t->Tryz.pinned.checked.prog.wantsStandIn t=false:=by
 obtain rfl:f=6:=Option.some.inj ((show Tryz.prog.funcNamed "attune/attunekeep.Settled" =some 6 by kernel_rfl).symm.trans hf)|>.symm;obtain rfl:fn=Tryz.f6:=(Option.some.inj (Tryz.func6.symm.trans hfn)).symm;refine⟨by kernel_rfl,λj t ht=>?_⟩;rw[Tryz.params6]at ht;have hm:t=22\/t=3:=by simpa using Array.mem_of_getElem? ht
 rcases hm with rfl|rfl
 ·exact (show Tryz.prog.wantsStandIn 22=false by kernel_rfl)
 ·exact (show Tryz.prog.wantsStandIn 3=false by kernel_rfl)
end Go.Proofs.YtldmcdeibiclkaaGreatDoor.SettledRow
namespace Go.Proofs.YtldmcdeibiclkaaGreatDoor
theorem settled_holds:Rows.SettledCardSaid:=
 ⟨Claim7.tied_new_at .later [.data] true (Claim7.new_of_sixth SettledRow.said _ true rfl ⟨rfl,rfl⟩ (by kernel_rfl) (by kernel_rfl) SettledRow.plain) (by kernel_rfl),(λD hD=>by cases hD),settled_row_tie,(λh=>by cases h),(by kernel_rfl)⟩
end Go.Proofs.YtldmcdeibiclkaaGreatDoor
end
