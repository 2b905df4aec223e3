/-
  Toward: treed_holds, each node's digest is that of its children's, for every argument of Treed. FROM THE LONE ONE's CONTRACT TO A GOOD RUN OF THE MACHINE, on whatever tape.
  AN ARGUMENT's BLOCK AND THE VARIABLES' BLOCK BESIDE BLURRED ONES; AND WHAT A GOOD RUN LEAVES.
-/
import Derived.Test.YtldmcdeibiclkaaGreatDoorC32
import Derived.Conc.LeavingOf
import Derived.Below
set_option linter.unusedVariables false
set_option linter.unusedSimpArgs false
set_option maxRecDepth 4000
section
namespace Go.Proofs.YtldmcdeibiclkaaGreatDoor.U
open Go.Conc
set_option maxRecDepth 100000
theorem ret_main {P:Program} {fr:Frame} (hk:fr.kind= .normal) (h:P.inits.idxOf? fr.fn=none) (v:Value) (w:World):doReturn P true fr [] none v w= .ended (.done v) w:=by
 simp [doReturn,hk,h]
def Behind (J:String→Value) (K:List Nat) (W:World) (f:FuncId) (Φ:Value→World→Prop) (y:Value) (W':World):Prop:=
 ∃x w1 τ',Φ x w1∧CR (lMain J) τ' ((lMain J).res f) x y∧Went (tau0 K W) τ' W W'∧∀r s,τ'.un r s→∃o q,w1.heap[r]? =some o∧W'.heap[s]? =some q∧KR (lMain J) (CC Pg (lMain J) tMain) τ' r s o q
def Blur (J:String→Value) (K:List Nat) (V W:World):Prop:=V.heap.size=W.heap.size∧∀b∈K,∃zs:Array (Value×Value),∃e g,V.heap[b]? =some (.cells (zs.map (·.1)) e g)∧W.heap[b]? =some (.cells (zs.map (·.2)) e g)∧∀z∈zs,FV J z.1 z.2
theorem Blur.flat {J:String→Value} {K:List Nat} {V W:World} (h:Blur J K V W): ∀b∈K,FlatAt V b:=fun b hb=>by
 obtain ⟨zs,e,g,h1,_,h3⟩:=h.2 b hb
 refine ⟨_,e,g,h1,fun x hx π=>?_⟩
 obtain ⟨z,hz,rfl⟩:=Array.mem_map.1 hx
 exact (h3 z hz).self rfl
section
variable {K:List Nat} {V W:World} {J:String→Value}
theorem begin0 (h0:0∈K) (hs:0< W.heap.size) (hbl:Blur J K V W) {f:FuncId} (hf:(lMain J).fn f) (hnp:f≠fQ) (hcol: ∀i,(lMain J).col f i= .any) {args:Array Value} (ha: ∀v∈args,ArgOk K W v):
  Beside0 Pg Gg (lMain J) tMain (fun _=>False) [] (tau0 K W) (Frame.enter Qg f args .normal) [] (bare K V) #[G (Frame.enter Pg f args .normal) []] W #[] (fun _=>0):=by
 refine ⟨⟨_,rfl,⟨⟨?_,⟨rfl,rfl⟩,⟨rfl,rfl⟩,⟨rfl,rfl⟩,[],[],rfl,rfl,.nil _,rfl⟩,?_,?_,fun r s h=>?_,fun r s h=>?_⟩⟩,leavers_one _ _,?_,fun r s _ h=>h,fun s h=>h.elim⟩
 ·refine TopR.enter let_main hf (arg_tr hcol ha) (fun k hk=>?_)
  have:(if f==fQ then some 3 else none)=some k:=hk
  rw [if_neg (by simpa using hnp)] at this
  cases this
 ·exact tau0_fit K W
 ·exact tau0_flat h0 hs rfl
 ·obtain ⟨rfl,_,hlt⟩:=tau0_un.1 h
  exact ⟨by rw [bare_size,hbl.1];exact hlt,hlt⟩
 ·obtain ⟨rfl,hk,hlt⟩:=tau0_un.1 h
  obtain ⟨zs,e,g,h1,h2,h3⟩:=hbl.2 r hk
  refine ⟨_,_,by rw [bare_in hk];exact h1,h2,fun _=> .cells e g ⟨zs,rfl,rfl,fun z hz=>(h3 z hz).vr rfl⟩,fun h=>h.elim,fun h=>h.elim⟩
 ·have:=past_nil
  exact ⟨this.clean,fun i a ha=>by simp [touchAt,Trace.act?] at ha,this.over,this.hears,fun op hop=>by simp at hop⟩
theorem run_good (h0:0∈K) (hs:0< W.heap.size) (hbl:Blur J K V W) {f:FuncId} (hf:(lMain J).fn f) (hnp:f≠fQ) (hin:Pg.inits.idxOf? f=none) (hcol: ∀i,(lMain J).col f i= .any) {args:Array Value} (ha: ∀v∈args,ArgOk K W v)
  {Φ:Value→World→Prop} (hΦ: ∀v w (t:Nat→Question→Nat),Φ v w→Φ v {w with tape:=t}) (hc: ∀t:Nat→Question→Nat,Calls Qg f args {bare K V with tape:=t} fun e w'=>∃v,e= .returned v∧Φ v w'):
  ∃M last o w' t',runNT Pg (M+1) (solo (G (Frame.enter Pg f args .normal) []) W) #[]=(.ended o w',t')∧runN Pg M (solo (G (Frame.enter Pg f args .normal) []) W)= .next last∧step Pg last= .ended o w'∧Go.Conc.Good Pg (Behind J K W f Φ) last o w' t':=by
 have hsafe:=q_safe (W:=V) h0 (by rw [hbl.1];exact hs) hbl.flat (f:=f) hf hcol (fun v hv=>(ha v hv).imp id fun ⟨a,n,c,e,h1,h2⟩=>⟨a,n,c,e,h1,by rw [hbl.1];exact h2⟩) hΦ hc
 have hg: ∀fr cs w,GoalOf Qg f Φ fr cs w→cs= []∧fr.fn≠fQ:=fun fr cs w h=>⟨h.1,by rw [h.2.1];exact hnp⟩
 obtain ⟨N,gs',v',sl',t',q',τ',fr',cs',w1,Sh',hr,hb,hgoal,hwent⟩:=(walk_pools stat_main (pool_here hg []) hsafe).1 _ W none _ _ _ _ (begin0 h0 hs hbl hf hnp hcol ha)
 obtain ⟨rfl,hfn,hmode,hdef,fn,x,hfun,⟨tp,hres⟩,hφ⟩:=hgoal
 obtain ⟨h,hh0,hS⟩:=hb.main
 have hfun':Pg.funcs[fr'.fn]? =some fn:=by
  rw [hfn,← Gg_ne hnp];exact hfun
 have hend:Goes Pg true AtRel (fun _ _ _=>False) (AtEnd Pg (ShunB Sh') v'.heap.size (Behind J K W f Φ)) 0 h v':=by
  rintro _ ⟨d,rfl⟩
  obtain ⟨y,fs,hy,hev,hcl,hkind,hfn2,hst⟩:=(hS.at d).last stat_main true (show fr'.fn≠tMain.pool by rw [hfn];exact hnp) ⟨hmode,hdef,rfl⟩ hfun' hres
  refine ⟨hS.g.status.2,y,fs,?_,fun e he=>evL_of (hev e he) ?_ ?_,x,w1,τ',hφ,?_,?_,?_⟩
  ·rw [hst]
   have hff:h.frame.fn=f:=hfn2.trans hfn
   rw [ret_main hkind (by rw [hff];exact hin)]
   simp [GStep.after]
  ·rintro s ⟨r,hx⟩ hsh
   exact hb.apart r s hx hsh
  ·rintro s ⟨r,hx⟩
   exact (hS.dom r s hx).2
  ·have hy':CR (lMain J) τ' ((lMain J).res fr'.fn) x y:=hy
   rw [hfn] at hy'
   exact hy'
  ·exact ⟨hwent.grow,hwent.tape,hwent.os,hwent.output,hwent.away,hwent.more,hwent.new⟩
  ·exact hS.obj
 obtain ⟨M,last,o,w',t'',e1,e2,e3,e4⟩:=beside_ends (P:=Pg) (sl:=sl') (fun w w' es h=>h.elim) hh0 hb.leavers hb.past hend
 have hr':runNT Pg N (solo (G (Frame.enter Pg f args .normal) []) W) #[]=(.next (crowd gs' v' sl'),t'):=hr
 refine ⟨N+M,last,o,w',t'',?_,?_,e3,e4⟩
 ·rw [show N+M+1=N+(M+1) by omega,runNT_add,hr']
  exact e1
 ·rw [← runNT_fst _ _ _ #[],runNT_add,hr']
  rw [← runNT_fst _ _ _ t'] at e2
  exact e2
end
end Go.Proofs.YtldmcdeibiclkaaGreatDoor.U
end
section
namespace Go.Proofs.YtldmcdeibiclkaaGreatDoor.U
open Go.Conc
open Go.RowKit
set_option maxRecDepth 100000
def flatV (v:Value):Prop:=(∃k n,v= .int k n)∨∃s,v= .string s
theorem flatV.fv {J:String→Value} {v:Value} (h:flatV v):FV J v v:=by
 rcases h with ⟨k,n,rfl⟩|⟨s,rfl⟩
 ·exact .int k n
 ·exact .string s
theorem blur_row (c:Array Value) (held:Nat→Prop) (k:Nat) (hh: ∀i v,held i→c[i]? =some v→flatV v):
  ∃(zs:Array (Value×Value)) (ls:List Value),zs.map (·.2)=c∧(∀J,Speaks J k ls→∀z∈zs,FV J z.1 z.2)∧∀i v,held i→c[i]? =some v→(zs.map (·.1))[i]? =some v:=by
 have key: ∀(l:List Value) (i0 k:Nat),(∀i v,held (i0+i)→l[i]? =some v→flatV v)→∃(zs:List (Value×Value)) (ls:List Value),zs.map (·.2)=l∧(∀J,Speaks J k ls→∀z∈zs,FV J z.1 z.2)∧∀i v,held (i0+i)→l[i]? =some v→(zs.map (·.1))[i]? =some v:=by
  intro l
  induction l with
  |nil=>intro i0 k _;exact ⟨[],[],rfl,fun J _ z hz=>by simp at hz,fun i v _ h=>by simp at h⟩
  |cons u l ih=>
   intro i0 k hl
   have hl': ∀i v,held (i0+1+i)→l[i]? =some v→flatV v:=fun i v h1 h2=>hl (i+1) v (by rwa [show i0+(i+1)=i0+1+i by omega]) (by simpa using h2)
   by_cases h0:held i0
   ·have hu:=hl 0 u (by simpa using h0) (by simp)
    obtain ⟨zs,ls,e,h1,h2⟩:=ih (i0+1) k hl'
    refine ⟨(u,u)::zs,ls,by simp [e],fun J hJ z hz=>?_,fun i v hi hv=>?_⟩
    ·rcases List.mem_cons.1 hz with rfl|hz
     ·exact hu.fv
     ·exact h1 J hJ z hz
    ·cases i with
     |zero=>simpa using hv
     |succ i=>
      simp only [List.map_cons,List.getElem?_cons_succ] at hv ⊢
      exact h2 i v (by rwa [show i0+1+i=i0+(i+1) by omega]) hv
   ·obtain ⟨x,l1,hx⟩:=blur _ u (Nat.lt_succ_self _) k
    obtain ⟨zs,ls,e,h1,h2⟩:=ih (i0+1) (k+l1.length) hl'
    refine ⟨(x,u)::zs,l1++ls,by simp [e],fun J hJ z hz=>?_,fun i v hi hv=>?_⟩
    ·rcases List.mem_cons.1 hz with rfl|hz
     ·exact hx J hJ.left
     ·exact h1 J hJ.right z hz
    ·cases i with
     |zero=>exact absurd hi (by simpa using h0)
     |succ i=>
      simp only [List.map_cons,List.getElem?_cons_succ] at hv ⊢
      exact h2 i v (by rwa [show i0+1+i=i0+(i+1) by omega]) hv
 obtain ⟨zs,ls,e,h1,h2⟩:=key c.toList 0 k (fun i v h1 h2=>hh i v (by simpa using h1) (by simpa using h2))
 refine ⟨zs.toArray,ls,by apply Array.ext';simpa using e,fun J hJ z hz=>h1 J hJ z (by simpa using hz),fun i v hi hv=>?_⟩
 have:=h2 i v (by simpa using hi) (by simpa using hv)
 simpa using this
theorem blur_world {W:World} {bs:Nat} (held:Nat→Nat→Prop) {c0 cb:Array Value} {e0 eb:TypeId} {f0 fb:Nat×Nat} (h0:W.heap[0]? =some (.cells c0 e0 f0)) (hb:W.heap[bs]? =some (.cells cb eb fb)) (hh: ∀r i v,held r i→W.cell? ⟨r,i,none⟩=some v→flatV v):
  ∃J V,Blur J [0,bs] V W∧∀r,r∈[0,bs]→∀i v,held r i→W.cell? ⟨r,i,none⟩=some v→V.cell? ⟨r,i,none⟩=some v:=by
 obtain ⟨z0,l0,e0',q0,p0⟩:=blur_row c0 (held 0) 0 (fun i v hi hv=>hh 0 i v hi (by simp [World.cell?,h0,hv]))
 obtain ⟨zb,lb,eb',qb,pb⟩:=blur_row cb (held bs) l0.length (fun i v hi hv=>hh bs i v hi (by simp [World.cell?,hb,hv]))
 have hl0:=(Array.getElem?_eq_some_iff.1 h0).1
 have hlb:=(Array.getElem?_eq_some_iff.1 hb).1
 have hJ:Speaks (fun s=>(l0++lb).getD s.length (.int .i64 0)) 0 (l0++lb):=fun i hi=>by simp [nm_length]
 refine ⟨fun s=>(l0++lb).getD s.length (.int .i64 0),{W with heap:=(W.heap.setIfInBounds 0 (.cells (z0.map (·.1)) e0 f0)).setIfInBounds bs (.cells (zb.map (·.1)) eb fb)},⟨by simp,fun b hbm=>?_⟩,fun r hr i v hi hv=>?_⟩
 ·by_cases e:b=bs
  ·subst e
   refine ⟨zb,eb,fb,by simp [hlb],by rw [hb,eb'],fun z hz=>qb _ (by simpa using hJ.right) z hz⟩
  ·have e2:b=0:=by simpa [e] using hbm
   subst e2
   refine ⟨z0,e0,f0,?_,by rw [h0,e0'],fun z hz=>q0 _ hJ.left z hz⟩
   show ((W.heap.setIfInBounds 0 _).setIfInBounds bs _)[0]? =_
   rw [Array.getElem?_setIfInBounds_ne (Ne.symm e)]
   simp [hl0]
 ·by_cases e:r=bs
  ·subst e
   simp only [World.cell?,hb] at hv
   have:=pb i v hi (by simpa using hv)
   simp only [World.cell?]
   rw [Array.getElem?_setIfInBounds_self_of_lt (by simpa using hlb)]
   simpa using this
  ·have e2:r=0:=by simpa [e] using hr
   subst e2
   simp only [World.cell?,h0] at hv
   have:=p0 i v hi (by simpa using hv)
   simp only [World.cell?]
   rw [Array.getElem?_setIfInBounds_ne (Ne.symm e),Array.getElem?_setIfInBounds_self_of_lt hl0]
   simpa using this
theorem behind_below {J:String→Value} {K:List Nat} {V W W':World} {f:FuncId} {x0 y:Value} (hbl:Blur J K V W) (hres:(lMain J).res f= .any) (hx: ∀π y,VR (lMain J) π x0 y→y=x0)
  (h:Behind J K W f (fun x w1=>x=x0∧∀k,k< V.heap.size→w1.heap[k]? =(bare K V).heap[k]?) y W'):y=x0∧Go.RowKit.Below W.heap.size W W':=by
 obtain ⟨x,w1,τ',⟨rfl,hw1⟩,hcr,hwent,hobj⟩:=h
 rw [hres] at hcr
 refine ⟨hx _ _ hcr,hwent.os,hwent.tape,hwent.output,hwent.grow,fun k hk=>?_⟩
 by_cases hkK:k∈K
 ·have ht:(tau0 K W).all k k:=⟨rfl,hkK,hk⟩
  have ht':=hwent.more.all _ _ ht
  obtain ⟨o,q,ho,hq,hkr⟩:=hobj k k (.inl ht')
  rw [hw1 k (by rw [hbl.1];exact hk),bare_in hkK] at ho
  obtain ⟨zs,e,g,h1,h2,h3⟩:=hbl.2 k hkK
  rw [h1] at ho
  cases ho
  have:=hkr.all ht'
  generalize ho:Obj.cells (zs.map (·.1)) e g=o at this
  cases this with
  |cells e' f' hxr=>
   cases ho
   obtain ⟨ys,ex,ey,hy⟩:=hxr
   rw [hq,h2,ey]
   congr 2
   exact rows_one (R:=VR (lMain J) τ'.all) ex.symm (fun z hz y hzy=>(h3 z hz).one rfl y hzy) hy
  |_=>cases ho
 ·exact hwent.away k hk fun r hr=>hkK (by
   obtain ⟨e,h1,_⟩:=tau0_un.1 hr
   exact e ▸ h1)
end Go.Proofs.YtldmcdeibiclkaaGreatDoor.U
end
