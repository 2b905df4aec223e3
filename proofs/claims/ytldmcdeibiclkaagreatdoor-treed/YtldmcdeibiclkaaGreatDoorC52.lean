/-
  The statement of Treed: the row, and its tied card: for every list of numbers and every two numbers the answer is true, and the list reads behind the call as it read before; the keys are laid by the program's own text; on every tape and in every order in which the goroutines run.
-/
import Derived.Test.YtldmcdeibiclkaaGreatDoorCards
import Derived.Test.YtldmcdeibiclkaaGreatDoorTie
import Derived.Test.YtldmcdeibiclkaaGreatDoorC33
import Derived.Test.YtldmcdeibiclkaaGreatDoorC51
import Derived.WalkKit
import Derived.ProofKit
import Derived.OpenShut
import Derived.LaidMore
import Derived.ChangeSlices
import Derived.Deep.DeepHandedRow
import Derived.Conc.Holds
set_option linter.unusedVariables false
set_option linter.unusedSimpArgs false
set_option maxRecDepth 4000
section
namespace Go
open Go.Conc
section
variable {H:Type} {enc:TypeId×Value→H}
theorem returnsInLeavingWide_of_laid {a:Assume} {C:Checked} {os:Os} {f:FuncId} {fn:Func} {s:ChangeSpec} {conds:List PathCond} {apart fresh handsOn again:Bool} {laid:List (String×DataW Unit)}
  (own:ownKnob C.prog.godebug=none) (started:os.Started) (hfn:C.prog.funcs[f]? =some fn)
  (witness: ∃(w:World) (tape:Tape) (i:Input),w.os=os∧(w.forCall tape i).Shaped C.prog∧i.vars= []∧Input.okWide C.prog (w.forCall tape i) .any w.heap.size f i∧
   (OpenSpec.ofChange s).preRow enc C.prog fn conds apart laid (w.forCall tape i).memory i.args∧a.holds C.prog (lone (Frame.enter C.prog f i.args .normal) [] (w.forCall tape i)))
  (runs: ∀(W:World) (base:Nat) (args:Array Value) (ds gs:List (DataW H)) (before:List MemPlace),
   (∀(j:Nat) t v,fn.params[j]? =some t→args[j]? =some v→Value.okWide C.prog W .any base t v)→
   DataW.Whole enc C.prog fn.params.toList s.vars apart W args.toList ds gs before→
   laidMetH C.prog laid W→
   ∃M last o w' t',runNT C.prog (M+1) (solo (G (Frame.enter C.prog f args .normal) []) W) #[]=(.ended o w',t')∧runN C.prog M (solo (G (Frame.enter C.prog f args .normal) []) W)= .next last∧
    step C.prog last= .ended o w'∧Conc.Good C.prog (fun v W'=>s.post enc C.prog fn apart fresh handsOn again W args v W') last o w' t'):
  ReturnsInLeavingWide a C os f .any ((OpenSpec.ofChange s).preRow enc C.prog fn conds apart laid) (s.post enc C.prog fn apart fresh handsOn again):=by
 refine returnsInLeavingWide_of_good own started witness ?_
 intro w tape i _ _ _ hok hpre _
 obtain ⟨_,_,_,fn',hfn',_,_,_,_,hval⟩:=hok
 have e:fn'=fn:=Option.some.inj (hfn'.symm.trans hfn)
 subst e
 obtain ⟨⟨hp,hl⟩,_⟩:=hpre
 obtain ⟨ds,gs,before,hw,_,_⟩:=OpenSpec.pre_parts hp
 have hw':=DataW.Whole.of_heap (w':=w.forCall tape i) (by rfl) hw
 obtain ⟨M,last,o,w',t',h1,h2,h3,h4⟩:=runs (w.forCall tape i) w.heap.size i.args ds gs before hval hw' (hl.of_heap (by rfl))
 exact ⟨M,last,o,w',t',h1,h2,h3,h4.mono fun v hp=>ChangeSpec.post_blind hp⟩
end
end Go
namespace Go.Proofs.YtldmcdeibiclkaaGreatDoor.TreedRow
open Go.ChangeShapes Go.WideShapes Go.ChangeAt Go.RowKit Go.Conc
open Go.Proofs.YtldmcdeibiclkaaGreatDoor.U (Blur FV Behind fQ Pg lMain bare bare_size bare_in ArgOk)
open Go.Proofs.YtldmcdeibiclkaaGreatDoorQ (KeysAt CodeAt keyB)
theorem own:ownKnob Tryz.prog.godebug=none:=by kernel_rfl
theorem laidOut:laidOutB Tryz.prog=true:=by kernel_rfl
theorem gKeys:Tryz.prog.globalNamed "attune/attunekeep.keys" =some 0:=by kernel_rfl
theorem gKeysType:(Tryz.prog.globals[0]?).map (·.type)=some 76:=by kernel_rfl
theorem cellsStr:Tryz.prog.cellsOf 9=1:=by kernel_rfl
theorem cellsInt:Tryz.prog.cellsOf 3=1:=by kernel_rfl
def ksV:Nat→ByteArray
 |0=>⟨#[97]⟩
 |1=>⟨#[98]⟩
 |_=>⟨#[122,122]⟩
theorem bytes_of {s:ByteArray} {l:List UInt8} (h:s.data.toList=l):s=⟨l.toArray⟩:=by
 cases s with
 |mk d=>
  congr 1
  exact Array.ext' (by simpa using h)
theorem keys_fine:(∀k,k< 3→keyB (ksV k)=true∧(ksV k).size≤8)∧∀k l,k< 3→l< 3→ksV k=ksV l→k=l:=by
 refine ⟨fun k hk=>?_,fun k l hk hl e=>?_⟩
 ·rcases (show k=0∨k=1∨k=2 by omega) with rfl|rfl|rfl<;> exact ⟨by decide,by decide⟩
 ·rcases (show k=0∨k=1∨k=2 by omega) with rfl|rfl|rfl<;> rcases (show l=0∨l=1∨l=2 by omega) with rfl|rfl|rfl<;> first|rfl|exact absurd e (by decide)
theorem keys_of_laid {W:World} (h:laidMetH Tryz.prog Rows.treedRow.laid W): ∀i,i< 3→W.cell? ⟨0,i,none⟩=some (.string (ksV i)):=by
 rw [MakeChecks.laidMetH_plain _ _ _ (by kernel_rfl)] at h
 obtain ⟨ps,⟨g0,t0,cs0,f0,p0,q0,hg0,ht0,hv0,hd0,_,_⟩,_⟩:=h
 obtain rfl:=Option.some.inj (gKeys.symm.trans hg0)
 obtain rfl:=Option.some.inj (gKeysType.symm.trans ht0)
 obtain ⟨xs,m1,hm1,hx1,hlen,hn3,hel⟩:=DataW.trod_array Tryz.underlying76 hd0
 have hxs:xs.map (·.1)= [.lit (.string [97]),.lit (.string [98]),.lit (.string [122,122])]:=by
  have:=congrArg (·.1) hx1
  simp only [Rows.laid_attune_attunekeep_keys] at this
  injection this with this
  exact this.symm
 have each: ∀i,i< 3→∃s:ByteArray,W.cell? ⟨0,i,none⟩=some (.string s)∧(xs.map (·.1))[i]? =some (.lit (.string s.data.toList)):=by
  intro i hi
  have h1:=hel i hi
  rw [List.getElem?_eq_getElem (by omega)] at h1
  obtain ⟨s,e1,e2,_⟩:=DataW.trod_string Tryz.underlying9 h1
  refine ⟨s,?_,?_⟩
  ·rw [World.var?_cell hg0 hv0 i]
   rw [cellsStr,Nat.mul_one] at e1
   have:=congrArg (·[0]?) e1
   simpa using this
  ·rw [List.getElem?_map,List.getElem?_eq_getElem (by omega),Option.map_some,e2]
 intro i hi
 obtain ⟨s,h1,h2⟩:=each i hi
 rw [hxs] at h2
 rw [h1]
 rcases (show i=0∨i=1∨i=2 by omega) with rfl|rfl|rfl
 ·have h3:s.data.toList= [97]:=by simpa using h2.symm
  rw [bytes_of h3];rfl
 ·have h3:s.data.toList= [98]:=by simpa using h2.symm
  rw [bytes_of h3];rfl
 ·have h3:s.data.toList= [122,122]:=by simpa using h2.symm
  rw [bytes_of h3];rfl
theorem shape_cells {W:World} {b:Nat} {x:TypeId×Nat} (h:W.shape? b=some x): ∃c e f,W.heap[b]? =some (.cells c e f):=by
 unfold World.shape? at h
 split at h
 ·rename_i c e f hx
  exact ⟨_,_,_,hx⟩
 ·cases h
theorem runs {W:World} {ad:Option Addr} {len cap:Nat} {lv nn:Int} (hk: ∀i,i< 3→W.cell? ⟨0,i,none⟩=some (.string (ksV i)))
  (had:ad=none∧len=0∨∃b off c e f,ad=some ⟨b,off,none⟩∧W.heap[b]? =some (.cells c e f)∧∀j,j< len→∃z:Int,W.cell? ⟨b,off+j,none⟩=some (.int .i64 z)∧-9223372036854775808≤z∧z≤9223372036854775807)
  (hlen:len≤9223372036854775807) (hlv: -9223372036854775808≤lv∧lv≤9223372036854775807) (hnn: -9223372036854775808≤nn∧nn≤9223372036854775807):
  ∃M last o w' t',runNT Tryz.prog (M+1) (solo (G (Frame.enter Tryz.prog 3 #[.slice ad len cap,.int .i64 lv,.int .i64 nn] .normal) []) W) #[]=(.ended o w',t')∧runN Tryz.prog M (solo (G (Frame.enter Tryz.prog 3 #[.slice ad len cap,.int .i64 lv,.int .i64 nn] .normal) []) W)= .next last∧
   step Tryz.prog last= .ended o w'∧Conc.Good Tryz.prog (fun v W'=>v= .bool true∧Below W.heap.size W W') last o w' t':=by
 obtain ⟨c0,e0,f0,h0⟩: ∃c e f,W.heap[0]? =some (.cells c e f):=by
  have h1:=hk 0 (by omega)
  unfold World.cell? at h1
  split at h1
  ·rename_i c e f hx
   exact ⟨_,_,_,hx⟩
  ·cases h1
 have hs0:0< W.heap.size:=(Array.getElem?_eq_some_iff.1 h0).1
 obtain ⟨bs,off,cb,eb,fb,hb,hcode,had2⟩: ∃bs off c e f,W.heap[bs]? =some (.cells c e f)∧(∀j,j< len→∃z:Int,W.cell? ⟨bs,off+j,none⟩=some (.int .i64 z)∧-9223372036854775808≤z∧z≤9223372036854775807)∧(ad=none∧len=0∨ad=some ⟨bs,off,none⟩):=by
  rcases had with ⟨rfl,rfl⟩|⟨b,off,c,e,f,rfl,h1,h2⟩
  ·exact ⟨0,0,c0,e0,f0,h0,fun j hj=>by omega,.inl ⟨rfl,rfl⟩⟩
  ·exact ⟨b,off,c,e,f,h1,h2,.inr rfl⟩
 obtain ⟨J,V,hbl,hheld⟩:=U.blur_world (W:=W) (bs:=bs) (fun r i=>(r=0∧i< 3)∨(r=bs∧off≤i∧i< off+len)) h0 hb (fun r i v hri hv=>by
  rcases hri with ⟨rfl,hi⟩|⟨rfl,h1,h2⟩
  ·rw [hk i hi] at hv
   cases hv
   exact .inr ⟨_,rfl⟩
  ·obtain ⟨z,hz,_⟩:=hcode (i - off) (by omega)
   rw [show off+(i - off)=i by omega,hv] at hz
   cases hz
   exact .inl ⟨_,_,rfl⟩)
 have hbs:bs< W.heap.size:=(Array.getElem?_eq_some_iff.1 hb).1
 have hcell: ∀(t:Nat→Question→Nat) r,r∈[0,bs]→∀i,World.cell? {bare [0,bs] V with tape:=t} ⟨r,i,none⟩=V.cell? ⟨r,i,none⟩:=fun t r hr i=>by
  have:(bare [0,bs] V).heap[r]? =V.heap[r]? :=bare_in hr
  simp only [World.cell?,this]
 have hcalls: ∀t:Nat→Question→Nat,Calls U.Qg 3 #[.slice ad len cap,.int .i64 lv,.int .i64 nn] {bare [0,bs] V with tape:=t} fun e w'=>∃v,e= .returned v∧(v= .bool true∧∀k,k< V.heap.size→w'.heap[k]? =(bare [0,bs] V).heap[k]?):=fun t=>by
  have hsz:({bare [0,bs] V with tape:=t}:World).heap.size=W.heap.size:=by
   show (bare [0,bs] V).heap.size=_
   rw [bare_size,hbl.1]
  have hka:KeysAt {bare [0,bs] V with tape:=t} ksV:=⟨fun k hk3=>by
   rw [hcell t 0 (by simp)]
   exact hheld 0 (by simp) k _ (.inl ⟨rfl,hk3⟩) (hk k hk3),keys_fine.1,keys_fine.2⟩
  have hca:CodeAt {bare [0,bs] V with tape:=t} ad len:=by
   rcases had2 with ⟨_,h⟩|h
   ·exact .inl h
   ·refine .inr ⟨bs,off,h,fun j hj=>?_⟩
    obtain ⟨z,hz,hr⟩:=hcode j hj
    exact ⟨z,by rw [hcell t bs (by simp)];exact hheld bs (by simp) _ _ (.inr ⟨rfl,by omega,by omega⟩) hz,hr⟩
  have hq:=Go.Proofs.YtldmcdeibiclkaaGreatDoorQ.treed_true ad len cap lv nn ksV {bare [0,bs] V with tape:=t} hka hca hlen (fun hpos b off' e=>by
   rcases had2 with ⟨_,h⟩|h
   ·omega
   ·rw [h] at e
    cases e
    rw [hsz];exact hbs) (by rw [hsz];exact hs0) hlv hnn
  rw [Qry.is] at hq
  refine hq.mono ?_
  rintro e w' ⟨rfl,hb⟩
  refine ⟨_,rfl,rfl,fun k hk=>?_⟩
  exact hb.block k (by rw [hsz,← hbl.1];exact hk)
 obtain ⟨M,last,o,w',t',r1,r2,r3,r4⟩:=U.run_good (J:=J) (K:=[0,bs]) (V:=V) (W:=W) (by simp) hs0 hbl (f:=3) (show U.tMain.fb 3=true by kernel_rfl) (by decide) (by kernel_rfl) (fun i=>by rfl)
  (args:=#[.slice ad len cap,.int .i64 lv,.int .i64 nn]) (fun v hv=>by
   simp only [List.mem_toArray,List.mem_cons,List.not_mem_nil,or_false] at hv
   rcases hv with rfl|rfl|rfl
   ·rcases had2 with ⟨h,_⟩|h
    ·subst h;exact .inl rfl
    ·subst h;exact .inr ⟨_,_,_,rfl,by simp,hbs⟩
   ·exact .inl rfl
   ·exact .inl rfl)
  (Φ:=fun x w1=>x= .bool true∧∀k,k< V.heap.size→w1.heap[k]? =(bare [0,bs] V).heap[k]?) (fun _ _ _ h=>h) hcalls
 exact ⟨M,last,o,w',t',r1,r2,r3,r4.mono fun v hp=>U.behind_below hbl (by kernel_rfl) (fun π y h=>by cases h;rfl) hp⟩
set_option maxRecDepth 100000 in
theorem contract (H:Type) (enc:TypeId×Value→H) (W:World) (base:Nat) (args:Array Value) (ds gs:List (DataW H)) (before:List MemPlace)
  (hval: ∀(j:Nat) t v,Tryz.f3.params[j]? =some t→args[j]? =some v→Value.okWide Tryz.prog W .any base t v)
  (hW:DataW.Whole enc Tryz.prog Tryz.f3.params.toList Rows.treedSpec.vars false W args.toList ds gs before) (hL:laidMetH Tryz.prog Rows.treedRow.laid W):
  ∃M last o w' t',runNT Tryz.prog (M+1) (solo (G (Frame.enter Tryz.prog 3 args .normal) []) W) #[]=(.ended o w',t')∧runN Tryz.prog M (solo (G (Frame.enter Tryz.prog 3 args .normal) []) W)= .next last∧
   step Tryz.prog last= .ended o w'∧Conc.Good Tryz.prog (fun v W'=>Rows.treedSpec.post enc Tryz.prog Tryz.f3 false true false false W args v W') last o w' t':=by
 have hW':=hW
 obtain ⟨p,q,hA0,hV,rfl,hfz,hnd⟩:=hW
 have hA:DataW.TrodAll enc Tryz.prog W 0 (fun _=>true) true Tryz.f3.params.toList args.toList ds p:=hA0
 rw [Tryz.params3] at hA hval
 obtain ⟨v0,vs0,d0,ds0,p0,q0,hargs,rfl,rfl,t0,r0⟩:=trodAll_cons hA
 obtain ⟨v1,vs1,d1,ds1,p1,q1,rfl,rfl,rfl,t1,r1⟩:=trodAll_cons r0
 obtain ⟨v2,vs2,d2,ds2,p2,q2,rfl,rfl,rfl,t2,r2⟩:=trodAll_cons r1
 obtain ⟨rfl,rfl,rfl⟩:=trodAll_nil r2
 obtain rfl:args=#[v0,v1,v2]:=by cases args;simp_all
 obtain ⟨rfl,rfl⟩:=trodVars_none hV
 have o0:=hval 0 22 v0 rfl rfl
 obtain ⟨a0,len,cap,rfl⟩:=okWide_slice Tryz.underlying22 o0
 obtain ⟨lv,rfl,rfl,rfl,wl⟩:=open_int Tryz.underlying3 (hval 1 3 v1 rfl rfl) t1
 obtain ⟨nn,rfl,rfl,rfl,wn⟩:=open_int Tryz.underlying3 (hval 2 3 v2 rfl rfl) t2
 have hK:=keys_of_laid hL
 have hlt: ∀x∈p0,x.block< W.heap.size:=fun x hx=>by simpa using hW'.lt x (by simp [hx])
 have rng: ∀z:Int,(Lit.int .i64 z).wf=true→-9223372036854775808≤z∧z≤9223372036854775807:=fun z hw=>by
  simp [Lit.wf,IntKind.min,IntKind.max,IntKind.bits,IntKind.signed] at hw
  omega
 have walk: ∃M last o w' t',runNT Tryz.prog (M+1) (solo (G (Frame.enter Tryz.prog 3 #[.slice a0 len cap,.int .i64 lv,.int .i64 nn] .normal) []) W) #[]=(.ended o w',t')∧runN Tryz.prog M (solo (G (Frame.enter Tryz.prog 3 #[.slice a0 len cap,.int .i64 lv,.int .i64 nn] .normal) []) W)= .next last∧
   step Tryz.prog last= .ended o w'∧Conc.Good Tryz.prog (fun v W'=>v= .bool true∧Below W.heap.size W W') last o w' t':=by
  obtain ⟨fuel,hf⟩:=t0
  have hblk: ∀a,a0=some a→a.spot=none∧∃c e f,W.heap[a.block]? =some (.cells c e f):=fun a e=>by
   subst e
   simp only [Value.okWide,Tryz.underlying22,Cell.okWide,Cell.ok] at o0
   obtain ⟨_,_,_,hsp,row,cells,hsh,_⟩:=o0
   exact ⟨hsp,shape_cells hsh⟩
  rcases open_ints Tryz.underlying22 Tryz.underlying3 cellsInt hf with ⟨hcs,_⟩|⟨a,len',cap',zs,hcs,_,hl,hm,hz,_,hcell,hwz⟩
  ·simp [Value.cells] at hcs
   obtain ⟨rfl,rfl,rfl⟩:=hcs
   exact runs hK (.inl ⟨rfl,rfl⟩) (by omega) (rng lv wl) (rng nn wn)
  ·simp [Value.cells] at hcs
   obtain ⟨rfl,rfl,rfl⟩:=hcs
   simp only [if_true] at hz
   have hmax:len≤9223372036854775807:=by unfold maxLen at hm;omega
   obtain ⟨hsp,c,e,f,hh⟩:=hblk a rfl
   obtain ⟨b,off,spot⟩:=a
   obtain rfl:spot=none:=hsp
   have hcell': ∀j,j< zs.length→W.cell? ⟨b,off+j,none⟩=some (.int .i64 (zs.getD j 0)):=fun j hj=>by rw [← add_plain];exact hcell j hj
   refine runs hK (.inr ⟨b,off,c,e,f,rfl,hh,fun j hj=>⟨zs.getD j 0,hcell' j (by omega),?_⟩⟩) hmax (rng lv wl) (rng nn wn)
   exact rng _ (hwz (zs.getD j 0) (by
    rw [List.getD_eq_getElem?_getD,List.getElem?_eq_getElem (by omega)];exact List.getElem_mem _))
 clear hA0
 obtain ⟨M,last,o,w',t',h1,h2,h3,h4⟩:=walk
 refine ⟨M,last,o,w',t',h1,h2,h3,h4.mono fun v ⟨hv,hb⟩=>?_⟩
 subst hv
 refine ⟨_,_,_,[],p0++([]++([]++ [])),[],hW',?_,?_,rfl,hb.frame _,fun h=>by cases h⟩
 ·exact trodAll_cons_mk (shut_bool Tryz.underlying4 _) trodAll_mk0
 ·exact trodAll_cons_mk (Below.trod laidOut (by kernel_rfl) (of_decide_eq_true (by kernel_rfl)) t0 hb hlt)
   (trodAll_cons_mk (Below.trod laidOut (by kernel_rfl) (of_decide_eq_true (by kernel_rfl)) t1 hb (fun x hx=>by simp at hx))
    (trodAll_cons_mk (Below.trod laidOut (by kernel_rfl) (of_decide_eq_true (by kernel_rfl)) t2 hb (fun x hx=>by simp at hx)) trodAll_mk0))
theorem laid_met (os:Os):laidMet Tryz.prog Rows.treedRow.laid ((World.doorLaid Tryz.prog 400 os).forCall (fun _ _=>0) ⟨#[],#[.slice none 0 0,.int .i64 0,.int .i64 0],[]⟩).memory:=
 laidMet_of_run' 8 (by kernel_rfl) (by kernel_rfl)
theorem reads (os:Os) {H:Type} (enc:TypeId×Value→H): ∃places,DataW.whole enc Tryz.prog ((World.doorLaid Tryz.prog 400 os).forCall (fun _ _=>0) ⟨#[],#[.slice none 0 0,.int .i64 0,.int .i64 0],[]⟩).memory Tryz.f3.params.toList Rows.treedSpec.vars false #[Value.slice none 0 0,.int .i64 0,.int .i64 0].toList 8=some ([.nil,.lit (.int .i64 0),.lit (.int .i64 0)],[],places):=
 ⟨[],by kernel_rfl⟩
set_option maxRecDepth 100000 in
theorem lifted (os:Os) (started:os.Started) (H:Type) (enc:TypeId×Value→H):
  ReturnsInLeavingWide {} Tryz.checked os 3 .any ((OpenSpec.ofChange Rows.treedSpec).preRow enc Tryz.prog Tryz.f3 Rows.treedRow.domain false Rows.treedRow.laid) (Rows.treedSpec.post enc Tryz.prog Tryz.f3 false true false false):=by
 obtain ⟨places,hx⟩:=reads os enc
 refine returnsInLeavingWide_of_laid (C:=Tryz.checked) (s:=Rows.treedSpec) own started Tryz.func3
  (witness_row_at (enc:=enc) (C:=Tryz.checked) false (World.doorLaid Tryz.prog 400 os) #[.slice none 0 0,.int .i64 0,.int .i64 0] rfl (by kernel_rfl) (by kernel_rfl) (by kernel_rfl)
   (OpenSpec.preRow_of_cond 8 hx (by kernel_rfl) (fun k hk=>by cases hk) (by kernel_rfl) (laid_met os))) ?_
 intro W base args ds gs before hval hW hL
 exact contract H enc W base args ds gs before hval hW hL
theorem said:Rows.TreedSaid:=
 OpenClaim.holds_of_wide_leaving 3 Tryz.f3 rfl rfl rfl rfl rfl rfl rfl ⟨rfl,rfl,rfl,rfl,rfl⟩ rfl rfl rfl rfl rfl (by kernel_rfl) Tryz.func3 (by kernel_rfl)
  (of_decide_eq_true (by kernel_rfl)) (by unfold Func.isWrapper;first|(rw [if_pos (by decide+kernel)];kernel_rfl)|(rw [if_neg (by decide+kernel)];exact ⟨rfl,rfl⟩))
  (fun os started H enc _=>by rw [OpenClaim.pre_eq_preRow];exact lifted os started H enc)
theorem plain (f:FuncId) (fn:Func) (hf:Tryz.pinned.checked.prog.funcNamed "attune/attunekeep.Treed" =some f) (hfn:Tryz.pinned.checked.prog.funcs[f]? =some fn):
  true=Tryz.pinned.checked.prog.looks []∧∀(j:Nat) t,fn.params[j]? =some t→Tryz.pinned.checked.prog.wantsStandIn t=false:=by
 obtain rfl:f=3:=Option.some.inj ((show Tryz.prog.funcNamed "attune/attunekeep.Treed" =some 3 by kernel_rfl).symm.trans hf)|>.symm
 obtain rfl:fn=Tryz.f3:=(Option.some.inj (Tryz.func3.symm.trans hfn)).symm
 refine ⟨by kernel_rfl,fun j t ht=>?_⟩
 rw [Tryz.params3] at ht
 have hm:t=22∨t=3:=by simpa using Array.mem_of_getElem? ht
 rcases hm with rfl|rfl
 ·exact (show Tryz.prog.wantsStandIn 22=false by kernel_rfl)
 ·exact (show Tryz.prog.wantsStandIn 3=false by kernel_rfl)
end Go.Proofs.YtldmcdeibiclkaaGreatDoor.TreedRow
namespace Go.Proofs.YtldmcdeibiclkaaGreatDoor
theorem treed_holds:Rows.TreedCardSaid:=
 ⟨Claim7.tied_new_at .later [.data] true (Claim7.new_of_sixth TreedRow.said _ true rfl ⟨rfl,rfl⟩ (by kernel_rfl) (by kernel_rfl) TreedRow.plain) (by kernel_rfl),(fun D hD=>by cases hD),treed_row_tie,(fun h=>by cases h),(by kernel_rfl)⟩
end Go.Proofs.YtldmcdeibiclkaaGreatDoor
end
