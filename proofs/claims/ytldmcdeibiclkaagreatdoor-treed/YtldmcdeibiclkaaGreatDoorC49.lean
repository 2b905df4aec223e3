/-
  Toward: treed_holds, each node's digest is that of its children's, for every argument of Treed. How a memory, and a list of one, are built.
  The net behind a Get that is remembered.
  Contract: local.
-/
import Derived.Test.YtldmcdeibiclkaaGreatDoorC45
import Derived.Laws.Tables
import Derived.Test.YtldmcdeibiclkaaGreatDoorC46
import Derived.Test.YtldmcdeibiclkaaGreatDoorC48
set_option linter.unusedVariables false
set_option linter.unusedSimpArgs false
set_option maxRecDepth 4000
section
namespace Go.Proofs.YtldmcdeibiclkaaGreatDoorQ
open Go.RowKit
theorem foldl_set_get: ∀(vs:List Value) (s off:Nat) (cells:Array Value) (t:Nat),
  ((vs.zipIdx s).foldl (fun cs (p:Value×Nat)=>cs.setIfInBounds (off+p.2) p.1) cells)[t]? =if off+s≤t∧t< off+s+vs.length∧t< cells.size then vs[t - off - s]? else cells[t]?
 |[],s,off,cells,t=>by
  simp only [List.zipIdx_nil,List.foldl_nil,List.length_nil]
  rw [if_neg (by omega)]
 |v::vs,s,off,cells,t=>by
  simp only [List.zipIdx_cons,List.foldl_cons]
  rw [foldl_set_get vs (s+1) off _ t,Array.getElem?_setIfInBounds,Array.size_setIfInBounds]
  by_cases h:off+s=t
  ·subst h
   rw [if_neg (by omega),if_pos rfl]
   by_cases h2:off+s< cells.size
   ·rw [if_pos h2,if_pos ⟨by omega,by rw [List.length_cons];omega,h2⟩,show off+s - off - s=0 by omega];rfl
   ·rw [if_neg h2,if_neg (by omega),Array.getElem?_eq_none (by omega)]
  ·rw [if_neg h]
   by_cases h3:off+(s+1)≤t∧t< off+(s+1)+vs.length∧t< cells.size
   ·rw [if_pos h3,if_pos ⟨by omega,by rw [List.length_cons];omega,h3.2.2⟩,show t - off - s=(t - off - (s+1))+1 by omega]
    rfl
   ·rw [if_neg h3,if_neg (by rw [List.length_cons];omega)]
theorem foldl_set_size: ∀(l:List (Value×Nat)) (off:Nat) (cells:Array Value),(l.foldl (fun cs (p:Value×Nat)=>cs.setIfInBounds (off+p.2) p.1) cells).size=cells.size
 |[],_,_=>rfl
 |p::l,off,cells=>by rw [List.foldl_cons,foldl_set_size l,Array.size_setIfInBounds]
theorem fill_one (place:Nat→Option (Nat×Nat)) (cells cs:Array Value) (i off:Nat) (rest:List (Nat×Value)) (hp:place i=some (off,cs.size)) (hs:off+cs.size≤cells.size):
  ∃cells':Array Value,Instr.fill place cells ((i,.agg cs)::rest)=Instr.fill place cells' rest∧cells'.size=cells.size∧∀t,cells'[t]? =if off≤t∧t< off+cs.size then cs[t - off]? else cells[t]? :=by
 refine ⟨(cs.zipIdx.foldl (fun cs' (p:Value×Nat)=>cs'.setIfInBounds (off+p.2) p.1) cells),?_,?_,fun t=>?_⟩
 ·have hc:(Value.agg cs).cells=cs:=rfl
  rw [Instr.fill,hp]
  simp only [hc]
  rw [if_neg (by simp;omega)]
 ·rw [← Array.foldl_toList]
  exact foldl_set_size _ off cells
 ·rw [← Array.foldl_toList,Array.toList_zipIdx]
  have:=foldl_set_get cs.toList 0 off cells t
  rw [this]
  simp only [Nat.add_zero,Array.length_toList,Nat.sub_zero,Array.getElem?_toList]
  by_cases h:off≤t∧t< off+cs.size
  ·rw [if_pos ⟨h.1,h.2,by omega⟩,if_pos h]
  ·rw [if_neg (fun e=>h ⟨e.1,e.2.1⟩),if_neg h]
theorem Qry.builtMem (a b:Array Value):Qry.prog.built 74 [(0,.agg a),(1,.agg b)]=Instr.fill (fun x=>[(0,4),(4,80)][x]?) zMem [(0,.agg a),(1,.agg b)]:=by kernel_rfl
theorem build_mem (w:World) (a b:Array Value) (ha:a.size=4) (hb:b.size=80):(Instr.build 74 #[(0,.agg a),(1,.agg b)]).run Qry.prog w= .ok (.agg (a++b)) w:=by
 refine run_build (P:=Qry.prog) w _ _ _ ?_
 rw [Qry.builtMem]
 obtain ⟨c1,h1,s1,g1⟩:=fill_one (fun x=>[(0,4),(4,80)][x]?) zMem a 0 0 [(1,.agg b)] (by rw [ha];rfl) (by rw [ha,zMem_size];omega)
 obtain ⟨c2,h2,s2,g2⟩:=fill_one (fun x=>[(0,4),(4,80)][x]?) c1 b 1 4 [] (by rw [hb];rfl) (by rw [hb,s1,zMem_size];omega)
 rw [h1,h2,Instr.fill]
 congr 1
 apply Array.ext_getElem?
 intro t
 rw [g2,g1,hb,ha,Array.getElem?_append,ha]
 rw [zMem_size] at s1
 by_cases h4:t< 4
 ·rw [if_neg (by omega),if_pos (by omega),if_pos h4];rfl
 ·rw [if_neg h4]
  by_cases h84:t< 84
  ·rw [if_pos (by omega)]
  ·rw [if_neg (by omega),if_neg (by omega),Array.getElem?_eq_none (by rw [zMem_size];omega),Array.getElem?_eq_none (by omega)]
theorem fill_whole (base cs:Array Value) (hb:base.size=1*84) (hs:cs.size=84):Instr.fill (fun i=>some (i*84,84)) base [(0,.agg cs)]=some cs:=by
 obtain ⟨c1,h1,s1,g1⟩:=fill_one (fun i=>some (i*84,84)) base cs 0 0 [] (by rw [hs]) (by rw [hs];omega)
 rw [h1,Instr.fill]
 congr 1
 apply Array.ext_getElem?
 intro t
 rw [g1,hs]
 by_cases h:t< 84
 ·rw [if_pos (by omega)];rfl
 ·rw [if_neg (by omega),Array.getElem?_eq_none (by omega),Array.getElem?_eq_none (by omega)]
theorem Qry.sizeOfMem:(Qry.prog.info? 74).map (fun i=>(i.zero,i.size,i.bytes))=some (some (.agg zMem),84,112):=by kernel_rfl
theorem buildSlice_mem (w:World) (cs:Array Value) (hs:cs.size=84):(Instr.buildSlice 36 1 #[(0,.agg cs)]).run Qry.prog w= .ok (.slice (some ⟨w.heap.size,0,none⟩) 1 1) (w.alloc (.cells cs 74)):=by
 obtain ⟨i0,hi0,hz0,hz1,hz2⟩:=info_parts Qry.sizeOfMem
 have hu:Qry.prog.underlying 36=some (.slice 74):=Qry.underlying36
 have hf:Instr.fill (fun i=>some (i*84,84)) ((Array.range (1*84)).map ((Value.agg zMem).cells[· % (Value.agg zMem).cells.size]!)) [(0,.agg cs)]=some cs:=fill_whole _ cs (by rw [Array.size_map,Array.size_range]) hs
 simp [Instr.buildSlice,run_underlying hu,sizeOf,typeInfo,zeroValue,hi0,hz0,hz1,hf,newRow]
end Go.Proofs.YtldmcdeibiclkaaGreatDoorQ
end
section
namespace Go.Proofs.YtldmcdeibiclkaaGreatDoorQ
open Go.RowKit
def NetG.remember (g:NetG) (ks:Nat→ByteArray) (i k gg ca:Nat) (A:Array Value):NetG:=
 {g with
  mem:=fun l=>if l=k then g.mem k++ [((g.K i (ks k)).1,g.kn i k)] else g.mem l
  gm:=fun l=>if l=k then gg else g.gm l
  capm:=fun l=>if l=k then ca else g.capm l
  A:=A}
theorem NetInv.remember {ks:Nat→ByteArray} {g:NetG} (hI:NetInv ks g) {i k gg ca:Nat} (A:Array Value) (hi:i< g.nr) (hk:k< 3) (hl:(g.mem k).length< 30):NetInv ks (g.remember ks i k gg ca A) where
 hnr:=hI.hnr
 hlen:=hI.hlen
 hseq:=hI.hseq
 hval:=hI.hval
 hby:=hI.hby
 hgood:=hI.hgood
 hown:=hI.hown
 hex:=hI.hex
 hgone:=hI.hgone
 hmemG:=fun l m hl' hm=>by
  simp only [NetG.remember] at hm ⊢
  by_cases e:l=k
  ·subst e
   rw [if_pos rfl] at hm
   rcases List.mem_append.1 hm with hm|hm
   ·exact hI.hmemG l m hl' hm
   ·rw [List.mem_singleton.1 hm];exact hI.hgood i l hi hk
  ·rw [if_neg e] at hm;exact hI.hmemG l m hl' hm
 hmemN:=fun l hl'=>by
  simp only [NetG.remember]
  by_cases e:l=k
  ·subst e
   rw [if_pos rfl,List.length_append,List.length_singleton];omega
  ·rw [if_neg e];exact hI.hmemN l hl'
 hkok:=hI.hkok
theorem NetAt.remember {B:Nat} {w w2:World} {bt:Nat} {g:NetG} {ks:Nat→ByteArray} {i k gg ca:Nat} {A:Array Value} (hN:NetAt B w bt g) (hF:Fr (fun b=>b=bt∨b=g.gm k) w w2) (hk:k< 3) (hL:0< (g.mem k).length)
  (hmp: ∀l,l< 3→0< (g.mem l).length) (hT:w2.heap[bt]? =some (.cells A 42)) (hA:A.size=1939) (hmv:A[1922+k]? =some (.slice (some ⟨gg,0,none⟩) ((g.mem k).length+1) ca)) (ho: ∀q,q≠1922+k→A[q]? =g.A[q]?)
  (hmem:w2.ownsRow B 74 84 (.slice (some ⟨gg,0,none⟩) ((g.mem k).length+1) ca) ((g.mem k).length+1) (flatM (g.mem k)++encM ((g.K i (ks k)).1,g.kn i k))) (hgg:gg=g.gm k∨w.heap.size≤gg):NetAt B w2 bt (g.remember ks i k gg ca A):=by
 have hgmk: ∀l,l< 3→∃cur,w.heap[g.gm l]? =some (.cells cur 74 (0,0)):=fun l hl=>by
  rcases (hN.hmem l hl).2 with ⟨h1,_⟩|⟨g',cap,cur,hv,_,hh,_⟩
  ·cases h1
  ·cases hv;exact ⟨cur,hh⟩
 obtain ⟨curk,hck⟩:=hgmk k hk
 have hcell: ∀{b:Nat} {C:Array Value} {t:TypeId} {fr:Nat×Nat},w.heap[b]? =some (.cells C t fr)→t≠42→t≠74→¬ (b=bt∨b=g.gm k):=fun hb h1 h2 h=>by
  rcases h with e|e
  ·rw [e,hN.hT] at hb;cases hb;exact h1 rfl
  ·rw [e,hck] at hb;cases hb;exact h2 rfl
 have hmap: ∀{b:Nat} {es:Array MapEntry} {clock:Nat},w.heap[b]? =some (.map es clock)→¬ (b=bt∨b=g.gm k):=fun hb h=>by
  rcases h with e|e
  ·rw [e,hN.hT] at hb;cases hb
  ·rw [e,hck] at hb;cases hb
 exact {
  hB:=hN.hB
  hT:=hT
  hA:=hA
  h0:=by show A[0]? =_;rw [ho 0 (by omega)];exact hN.h0
  hR:=hF.heap hN.hR (hcell hN.hR (by decide) (by decide))
  hRi:=hN.hRi
  hrep:=fun j hj=>by
   refine hF.rep (hN.hrep j hj) ?_ (fun n hn=>?_) (fun b cur hb=>hcell hb (by decide) (by decide))
   ·obtain ⟨⟨C,hC,_⟩,_⟩:=hN.hrep j hj
    exact hcell hC (by decide) (by decide)
   ·obtain ⟨es,clock,hm⟩:=hN.map hj hn
    exact hmap hm
  hdis:=hN.hdis
  h1:=by show A[1]? =_;rw [ho 1 (by omega)];exact hN.h1
  hw:=hF.row' hN.hw (fun b cur hb=>hcell hb (by decide) (by decide))
  hkn:=fun j l q hj hl hq=>by show A[2+j*240+l*80+q]? =_;rw [ho _ (by omega)];exact hN.hkn j l q hj hl hq
  hgo:=fun j l q hj hl hq=>by show A[962+j*240+l*80+q]? =_;rw [ho _ (by omega)];exact hN.hgo j l q hj hl hq
  hmv:=fun l hl=>by
   simp only [NetG.remember,NetG.mv]
   by_cases e:l=k
   ·subst e
    simp only [if_true,List.length_append,List.length_singleton];exact hmv
   ·simp only [if_neg e];rw [ho _ (by omega)];exact hN.hmv l hl
  hmem:=fun l hl=>by
   simp only [NetG.remember,NetG.mv]
   by_cases e:l=k
   ·subst e
    simp only [if_true,List.length_append,List.length_singleton,flatM_append]
    rw [show flatM [((g.K i (ks l)).1,g.kn i l)]=encM ((g.K i (ks l)).1,g.kn i l) by simp [flatM]]
    exact hmem
   ·simp only [if_neg e]
    refine hF.row (hN.hmem l hl) (fun g' o l' c hv h=>?_)
    cases hv
    rcases h with h|h
    ·obtain ⟨cur,hc⟩:=hgmk l hl
     rw [h,hN.hT] at hc;cases hc
    ·exact e (hN.hgm l k hl hk h)
  hgm:=fun l l' hl hl' he=>by
   simp only [NetG.remember] at he
   by_cases e:l=k
   ·by_cases e':l'=k
    ·rw [e,e']
    ·simp only [if_pos e,if_neg e'] at he
     rcases hgg with h|h
     ·rw [h] at he;rw [e];exact hN.hgm k l' hk hl' he
     ·obtain ⟨cur,hc⟩:=hgmk l' hl'
      have:=(Array.getElem?_eq_some_iff.1 hc).1
      omega
   ·by_cases e':l'=k
    ·simp only [if_neg e,if_pos e'] at he
     rcases hgg with h|h
     ·rw [h] at he;rw [e'];exact hN.hgm l k hl hk he
     ·obtain ⟨cur,hc⟩:=hgmk l hl
      have:=(Array.getElem?_eq_some_iff.1 hc).1
      omega
    ·simp only [if_neg e,if_neg e'] at he
     exact hN.hgm l l' hl hl' he
  hcnt:=fun j l hj hl=>by show A[1927+j*3+l]? =_;rw [ho _ (by omega)];exact hN.hcnt j l hj hl}
def okBld:Value→Value→Prop
 | .agg a,.agg b=>a.size=4∧b.size=80
 |_,_=>False
def bldM:Value→Value→Value
 | .agg a,.agg b=> .agg (a++b)
 |_,_=>undef
theorem okBld_agg (a b:Array Value):okBld (.agg a) (.agg b)=(a.size=4∧b.size=80):=rfl
theorem bldM_agg (a b:Array Value):bldM (.agg a) (.agg b)= .agg (a++b):=rfl
theorem build_exec (f:Operand→Value) (d:Option Tmp) (x y:Operand) (ty:TypeId) (pos:String) (aft:Array Edge) (gd:Option (Nat×Bool)) (w:World) (h:okBld (f x) (f y)):
  (execOp f {dst:=d,op:= .build 74 #[(0,x),(1,y)],type:=ty,pos:=pos,after:=aft,guard:=gd}).run Qry.prog w= .ok (.value (bldM (f x) (f y))) w:=by
 unfold okBld at h
 split at h
 ·rename_i a b hx hy
  rw [hx,hy,bldM_agg]
  unfold execOp
  simp only [List.map_toArray,List.map_cons,List.map_nil,hx,hy,Sem.run_bind,build_mem w a b h.1 h.2,Result.andThen_ok]
  rfl
 ·exact h.elim
def okBS:Value→Prop
 | .agg cs=>cs.size=84
 |_=>False
def aggC:Value→Array Value
 | .agg cs=>cs
 |_=>#[]
theorem okBS_agg (cs:Array Value):okBS (.agg cs)=(cs.size=84):=rfl
theorem aggC_agg (cs:Array Value):aggC (.agg cs)=cs:=rfl
theorem bslice_wp (d:Option Tmp) (x:Operand) (ty:TypeId) (pos:String) (aft:Array Edge) (gd:Option (Nat×Bool)) (a:Act) (w:World) (K:Act→World→Prop) (Q:Exit→Act→World→Prop) (h:okBS (a.eval x)):
  Oper.wp Qry.prog {dst:=d,op:= .buildSlice 36 1 #[(0,x)],type:=ty,pos:=pos,after:=aft,guard:=gd} a w K Q=K (a.put d (.slice (some ⟨w.heap.size,0,none⟩) 1 1)) (w.alloc (.cells (aggC (a.eval x)) 74)):=by
 unfold okBS at h
 split at h
 ·rename_i cs hx
  rw [hx,aggC_agg]
  unfold Oper.wp execOp
  simp only [List.map_toArray,List.map_cons,List.map_nil,hx,Sem.run_bind,buildSlice_mem w cs h,Result.andThen_ok]
  rfl
 ·exact h.elim
theorem encM_arr (c:Ctx) (s:Nat→Bool): #[Value.int .i64 (c 0),.int .i64 (c 1),.int .i64 (c 2),.int .i64 (c 3)]++bits s=(encM (c,s)).toArray:=by
 apply Array.ext'
 simp [encM]
end Go.Proofs.YtldmcdeibiclkaaGreatDoorQ
end
section
namespace Go.Proofs.YtldmcdeibiclkaaGreatDoorQ
open Go.RowKit
attribute [local go_sem ↓] load_set Go.wp_at_zero Go.wp_at_succ build_exec bslice_wp
attribute [local go_sem] okB_ptr ldB_ptr rdB_drew hasB_drew okBld_agg bldM_agg okBS_agg aggC_agg bits_size encM_length
theorem mem_append_done {B:Nat} {wc w2:World} {bt n size o gk gg L ck:Nat} {u v':Value} {xs:List Value} {A1 C:Array Value} {t0:TypeId}
  (hgrow:((wc.alloc (.cells C t0)).drew).grownBy w2 (Value.slice (some ⟨gk,0,none⟩) L ck).ownBlock) (hT2:w2.heap[bt]? =some (.cells A1 42)) (hown:w2.ownsRow B 74 size v' n xs) (hat:(Value.slice (some ⟨gk,0,none⟩) L ck).ownBlock=some gg∨gg=wc.heap.size+1):
  (w2.setCell ⟨bt,o,none⟩ u).ownsRow B 74 size v' n xs∧Fr (fun b=>b=bt∨b=gk) wc (w2.setCell ⟨bt,o,none⟩ u)∧(gg=gk∨wc.heap.size≤gg):=by
 refine ⟨?_,?_,?_⟩
 ·exact (Fr.setCell (X:=fun b=>b=bt) (Fr.refl _ w2) (Or.inr rfl) u).row' hown (fun b cur hb e=>by rw [e,hT2] at hb;exact absurd (tag_ne hb) (by decide))
 ·exact Fr.setCell (((Fr.refl (fun b=>b=bt∨b=gk) wc).alloc _).drew.grown hgrow (fun q hq _=>by cases hq;exact Or.inr rfl)) (Or.inr (Or.inl rfl)) u
 ·rcases hat with h|h
  ·cases h;exact Or.inl rfl
  ·exact Or.inr (by omega)
theorem remember_done {B:Nat} {w wc w2:World} {bt bx n cap at' k:Nat} {ad:Option Addr} {g:NetG} (hN:NetAt B wc bt g) (hJ:Jx w bx ad n cap wc) (hD:DiceAt w bx ad n cap at') (hB:B≤bx) (hnb:0< n→∀b off,ad=some ⟨b,off,none⟩→b< B) (hk:k< 3) (hF:Fr (fun b=>b=bt∨b=g.gm k) wc w2):
  Below B w w2∧∃at2,DiceAt w2 bx ad n cap at2:=by
 obtain ⟨hgB,cur,hgc⟩:=row_block (hN.hmem k hk) (g.gm k) rfl
 have hbw:B≤wc.heap.size:=by
  have:=hN.hB.1
  have:=(Array.getElem?_eq_some_iff.1 hN.hT).1
  omega
 have hb:Below B w w2:=(hJ.toBelow hB).trans (hF.toBelow (fun b e=>by
  rcases e with e|e
  ·rw [e];exact hN.hB.1
  ·rw [e];exact hgB) hbw)
 refine ⟨hb,dice_fr hD hJ hF (fun e=>?_) hnb hb⟩
 obtain ⟨_,⟨a,_,h3⟩,_⟩:=hJ
 rcases e with e|e
 ·rw [e,hN.hT] at h3;exact absurd (tag_ne h3) (by decide)
 ·rw [e,hgc] at h3;exact absurd (tag_ne h3) (by decide)
set_option maxRecDepth 100000 in
set_option maxHeartbeats 20000000 in
theorem local_true (B bt bx n cap at':Nat) (ad:Option Addr) (g:NetG) (ks:Nat→ByteArray) (w:World) (hN:NetAt B w bt g) (hI:NetInv ks g) (hK:KeysAt w ks) (hD:DiceAt w bx ad n cap at') (hnb:0< n→∀b off,ad=some ⟨b,off,none⟩→b< B) (hB:B≤bx) (hB0:0< B):
  Calls Qry.prog 8 #[.pointer (some ⟨bt,0,none⟩),.pointer (some ⟨bx,0,none⟩)] w fun e w'=>e= .returned (.bool true)∧Below B w w'∧∃g',g'.nr=g.nr∧NetAt B w' bt g'∧NetInv ks g'∧∃at2,DiceAt w' bx ad n cap at2:=by
 have hnb':0< n→∀b off,ad=some ⟨b,off,none⟩→b≠bx:=fun h0 b off h=>by have:=hnb h0 b off h;omega
 have HJ:Hid (∀w',Jx w bx ad n cap w'→NetAt B w' bt g):=fun w' h=>hN.fr h.1 (hN.apart_tag hD.1 (by decide) (by decide) (by decide) (by decide) (by decide) (by decide))
 have HDice:Hid (∀w',Jx w bx ad n cap w'→∃at2,DiceAt w' bx ad n cap at2):=fun w' h=>h.dice hD.2.2.1 hD.2.2.2 hnb'
 have HNx:Hid (∀(m:Int) W,1≤m→m≤1000→Jx w bx ad n cap W→Calls Qry.prog 14 #[.pointer (some ⟨bx,0,none⟩),.int .i64 m] W fun e w'=>∃r:Nat,e= .returned (.int .i64 r)∧(r:Int)< m∧Jx w bx ad n cap w'):=by
  intro m W h1 h2 hJW
  obtain ⟨a,hW⟩:=HDice.out W hJW
  refine (next_any bx ad n cap a m W hW hnb' h1 h2).mono ?_
  rintro e w' ⟨r,at2,rfl,hr,hd,_,hg,hz⟩
  exact ⟨r,rfl,hr,Jx.next hJW hg hd⟩
 have J0:Hid (Jx w bx ad n cap w):=Jx.start hD
 have HI:Hid (NetInv ks g):=hI
 have HKA:Hid (KeysAt w ks):=hK
 have c0:w.cell? ⟨bt,0,none⟩=some (.slice (some ⟨g.br,0,none⟩) g.nr g.capr):=by rw [(cells_of0 hN.hT).1];exact hN.h0
 have hnr1:(1:Int)≤(g.nr:Int):=by have:=hI.hnr;omega
 have hnr4:(g.nr:Int)≤4:=by have:=hI.hnr;omega
 obtain ⟨wad,wcap,hwv⟩:=row_len hN.hw
 have HT1:Hid (∀w',Jx w bx ad n cap w'→w'.cell? ⟨bt,1,none⟩=some (.slice wad g.ws.length wcap)):=fun w' h=>by rw [(cells_of0 (HJ.out w' h).hT).1,(HJ.out w' h).h1,hwv]
 have HPuts:Hid (∀(W:World) (i k:Nat),Jx w bx ad n cap W→i< g.nr→k< 3→g.ws.length< 80→Calls Qry.prog 24 #[.pointer (some ⟨bt,0,none⟩),.pointer (some ⟨bx,0,none⟩),.int .i64 i,.int .i64 k] W fun e w'=>e= .returned (.bool true)∧Below B w w'∧∃g',g'.nr=g.nr∧NetAt B w' bt g'∧NetInv ks g'∧∃at2,DiceAt w' bx ad n cap at2):=fun W i k hW hi hk hl=>by
  obtain ⟨a,hDW⟩:=HDice.out W hW
  refine (puts_true B bt bx n cap a i k ad g ks W (HJ.out W hW) hI (hK.below hB0 (hW.toBelow hB)) hDW hnb hB hB0 hi hk hl).mono ?_
  rintro e w' ⟨rfl,hb,hr⟩
  exact ⟨rfl,(hW.toBelow hB).trans hb,hr⟩
 have HDels:Hid (∀(W:World) (i k:Nat),Jx w bx ad n cap W→i< g.nr→k< 3→Calls Qry.prog 25 #[.pointer (some ⟨bt,0,none⟩),.pointer (some ⟨bx,0,none⟩),.int .i64 i,.int .i64 k] W fun e w'=>e= .returned (.bool true)∧Below B w w'∧∃g',g'.nr=g.nr∧NetAt B w' bt g'∧NetInv ks g'∧∃at2,DiceAt w' bx ad n cap at2):=fun W i k hW hi hk=>by
  obtain ⟨a,hDW⟩:=HDice.out W hW
  refine (deletes_true B bt bx n cap a i k ad g ks W (HJ.out W hW) hI (hK.below hB0 (hW.toBelow hB)) hDW hnb hB hB0 hi hk).mono ?_
  rintro e w' ⟨rfl,hb,hr⟩
  exact ⟨rfl,(hW.toBelow hB).trans hb,hr⟩
 have HD0:Hid (DiceAt w bx ad n cap at'):=hD
 clear hN hI hK hD hwv
 go_enter Qry.func8,Qry.ntmps8
 go_wp2_with (first
  |(go_at_call_of 14 (Value.int IntKind.i64 (g.nr:Int));refine Calls.mono (HNx.out (g.nr:Int) _ hnr1 (by omega) J0.out) ?_;rintro e w1 ⟨ii,rfl,hii,hJ1⟩;have J1:Hid (Jx w bx ad n cap w1):=hJ1;clear hJ1)
  |(go_at_call_of 14 (Value.int IntKind.i64 (3:Int));refine Calls.mono (HNx.out 3 _ (by omega) (by omega) J1.out) ?_;rintro e w2 ⟨kk,rfl,hkk,hJ2⟩;have J2:Hid (Jx w bx ad n cap w2):=hJ2;clear hJ2)
  |(go_at_call_of 14 (Value.int IntKind.i64 (8:Int));refine Calls.mono (HNx.out 8 _ (by omega) (by omega) J2.out) ?_;rintro e w3 ⟨cc,rfl,hcc,hJ3⟩;have J3:Hid (Jx w bx ad n cap w3):=hJ3;have t1:=HT1.out _ hJ3;clear hJ3)
  |(go_at_call 24;refine Calls.mono (HPuts.out _ ii kk J3.out (by omega) (by omega) (by omega)) ?_;rintro e w4 ⟨rfl,hres⟩;have HRes:Hid _:=hres;clear hres)
  |(go_at_call 25;refine Calls.mono (HDels.out _ ii kk J3.out (by omega) (by omega)) ?_;rintro e w4 ⟨rfl,hres⟩;have HRes:Hid _:=hres;clear hres))
 ·go_ret
  exact ⟨rfl,HRes.out⟩
 ·go_ret
  exact ⟨rfl,HRes.out⟩
 ·go_ret
  exact ⟨rfl,HRes.out⟩
 have hii':ii< g.nr:=by omega
 have hkk':kk< 3:=by omega
 have hii0:(0:Int)≤(ii:Int):=by omega
 have hkk0:(0:Int)≤(kk:Int):=by omega
 have hii4:(ii:Int)< 4:=by omega
 have N3:Hid (NetAt B w3 bt g):=HJ.out _ J3.out
 have K3:Hid (KeysAt w3 ks):=HKA.out.below hB0 (J3.out.toBelow hB)
 have hmk:Hid (∀w',Below w3.heap.size w3 w'→w'.cell? ⟨bt,0,none⟩=some (.slice (some ⟨g.br,0,none⟩) g.nr g.capr)∧w'.cell? ⟨g.br,ii,none⟩=some (.pointer (some ⟨g.b ii,0,none⟩))∧w'.cell? ⟨0,kk,none⟩=some (.string (ks kk))∧RepAt w' (g.b ii) (g.bm ii) ii (g.K ii)):=fun w' hw=>
  ⟨cell_keep (by rw [(cells_of0 N3.out.hT).1];exact N3.out.h0) hw,cell_keep (by rw [(cells_of0 N3.out.hR).1];exact N3.out.hRi ii hii') hw,cell_keep (K3.out.cell kk hkk') hw,(N3.out.hrep ii hii').below hw⟩
 have hget:Hid (∀W,RepAt W (g.b ii) (g.bm ii) ii (g.K ii)→Calls Qry.prog 22 #[.pointer (some ⟨g.b ii,0,none⟩),.string (ks kk)] W fun e w'=>∃v',e= .returned (.tuple #[v',ctxV (g.K ii (ks kk)).1,.int .i64 0])∧w'.ownsRow W.heap.size 71 3 v' (g.K ii (ks kk)).2.length (flatV (g.K ii (ks kk)).2)∧Below W.heap.size W w'):=fun W hW=>get_ok (g.b ii) ii (g.bm ii) (g.K ii) (ks kk) W hW (HI.out.hkok ii hii') (K3.out.key kk hkk').1 (K3.out.key kk hkk').2
 have hw3:Hid (w.heap.size≤w3.heap.size):=J3.out.1.size
 clear t1 HPuts HDels HNx
 generalize hcx:(g.K ii (ks kk)).1=cx at*
 have HCX:Hid _:=hcx
 clear hcx
 go_cut [8,9,10] from 46 to 61 (fun lv pv ev wx=>ev= .int .i64 0∧∃q,pv= .pointer (some ⟨q,0,none⟩)∧wx.cell? ⟨q,0,none⟩=some (.int .i64 (cx 0))∧wx.cell? ⟨q,1,none⟩=some (.int .i64 (cx 1))∧wx.cell? ⟨q,2,none⟩=some (.int .i64 (cx 2))∧wx.cell? ⟨q,3,none⟩=some (.int .i64 (cx 3))∧Jx w bx ad n cap wx)
 case first=>
  go_region_held3 (fun w'=>w'.cell? ⟨bt,0,none⟩=some (.slice (some ⟨g.br,0,none⟩) g.nr g.capr)∧w'.cell? ⟨g.br,ii,none⟩=some (.pointer (some ⟨g.b ii,0,none⟩))∧w'.cell? ⟨0,kk,none⟩=some (.string (ks kk))∧RepAt w' (g.b ii) (g.bm ii) ii (g.K ii))
   ((refine hmk.out _ ?_;first|(simp (maxDischargeDepth:=12) [Below.refl,Below.drew,Below.alloc,Below.setCell];done)|(simp (maxDischargeDepth:=12) [Below.refl,Below.drew,Below.alloc,Below.setCell,B4,z4];done)))
   (first|(go_at_call 22;refine Calls.mono (hget.out _ (by go_split_ands;assumption)) ?_;rintro e w4 ⟨v',rfl,hown,hb4⟩;obtain ⟨q1,q2⟩:=oldReads hb4;have B4:Below w3.heap.size w3 w4:=afterAny hb4 (by simp (maxDischargeDepth:=12) [Below.refl,Below.drew,Below.alloc]);have z4:=B4.size;have y4:=hb4.size;(try simp only [World.size_drew,size_allocW] at y4);(try (have h4:w4.heap[w3.heap.size]? =some (.cells #[.int .i64 0,.int .i64 0,.int .i64 0,.int .i64 0] 66):=heap_keep (W:=w3.drew.alloc (.cells #[.int .i64 0,.int .i64 0,.int .i64 0,.int .i64 0] 66)) (heap_alloc_new w3.drew _) hb4));clear hown hb4))
  ·go_wp2_with fail
   go_meet
   have e:=(cells_of0 (heap_alloc_new w4 (.cells #[.int .i64 (cx 0),.int .i64 (cx 1),.int .i64 (cx 2),.int .i64 (cx 3)] 66))).1
   exact ⟨rfl,w4.heap.size,rfl,e 0,e 1,e 2,e 3,(J3.out.below B4).alloc _⟩
  ·go_wp2_with fail
   go_meet
   have e:=(cells_of0 (heap_set (o:=3) (v:= .int .i64 (cx 3)) (heap_set (o:=2) (v:= .int .i64 (cx 2)) (heap_set (o:=1) (v:= .int .i64 (cx 1)) (heap_set (o:=0) (v:= .int .i64 (cx 0)) h4))))).1
   exact ⟨rfl,w3.heap.size,rfl,e 0,e 1,e 2,e 3,((((J3.out.below B4).setCell hw3.out _).setCell hw3.out _).setCell hw3.out _).setCell hw3.out _⟩
 case rest=>
  obtain ⟨rfl,q,rfl,e0,e1,e2,e3,hJ⟩:=hcut
  have HJC:Hid (Jx w bx ad n cap wc):=hJ
  clear N3 K3 hmk hget
  have NC:Hid (NetAt B wc bt g):=HJ.out _ hJ
  have tm:wc.cell? ⟨bt,1922+kk,none⟩=some (.slice (some ⟨g.gm kk,0,none⟩) (g.mem kk).length (g.capm kk)):=by rw [(cells_of0 NC.out.hT).1];exact NC.out.hmv kk hkk'
  have hL:=HI.out.hmemN kk hkk'
  by_cases h30:(g.mem kk).length< 30
  ·have h30':((g.mem kk).length:Int)< 30:=by omega
   have hi4n:ii< 4:=by omega
   obtain ⟨r1,q1⟩:=rdB_of (w:=wc) (b:=bt) (o:=2+ii*240+kk*80) (s:=g.kn ii kk) (fun j hj=>by rw [(cells_of0 NC.out.hT).1];exact NC.out.hkn ii kk j hi4n hkk' hj)
   have hE:=encM_arr cx (g.kn ii kk)
   have hT:=NC.out.hT
   have hbt:=(Array.getElem?_eq_some_iff.1 hT).1
   have HT:Hid (wc.heap[bt]? =some (.cells g.A 42)):=hT
   have hAs:=NC.out.hA
   have WC:Hid (wc.ownsRow B 74 84 (.slice (some ⟨g.gm kk,0,none⟩) (g.mem kk).length (g.capm kk)) (g.mem kk).length (flatM (g.mem kk))):=NC.out.hmem kk hkk'
   have hgb:Hid (∃cur,wc.heap[g.gm kk]? =some (.cells cur 74 (0,0))):=(row_block WC.out _ rfl).2
   have hbtn:Hid (¬ g.gm kk=bt):=fun e=>by
    obtain ⟨cur,hc⟩:=hgb.out
    rw [e,HT.out] at hc;exact absurd (tag_ne hc) (by decide)
   have hBs:Hid (B≤wc.heap.size):=by
    have h1:=NC.out.hB.1
    show _≤_;omega
   have hone:Hid (∀u∈encM (cx,g.kn ii kk),u.oneCell'=true):=encM_one _
   obtain ⟨i0,hi0,hz0,hz1,hz2⟩:=info_parts Qry.sizeOfMem
   clear hT hJ
   go_wp2
   go_cut [] from 69 to 92 (fun wx=>∃A2 ga ca,wx.heap[bt]? =some (.cells A2 42)∧A2.size=1939∧A2[1922+kk]? =some (.slice (some ⟨ga,0,none⟩) ((g.mem kk).length+1) ca)∧(∀q,q≠1922+kk→A2[q]? =g.A[q]?)∧wx.ownsRow B 74 84 (.slice (some ⟨ga,0,none⟩) ((g.mem kk).length+1) ca) ((g.mem kk).length+1) (flatM (g.mem kk)++encM (cx,g.kn ii kk))∧Fr (fun b=>b=bt∨b=g.gm kk) wc wx∧(ga=g.gm kk∨wc.heap.size≤ga))
   case first=>
    go_region_law (first|(refine step_append_lies _ rfl _ _ _ rfl B 74 i0 _ 84 112 Qry.underlying36 hi0 hz0 hz1 hz2 zMem_size (by omega) (.slice (some ⟨g.gm kk,0,none⟩) (g.mem kk).length (g.capm kk)) _ _ rfl ((World.ownsRow.drew WC.out).alloc _) ⟨wc.heap.size,0,none⟩ 1 1 (encM (cx,g.kn ii kk)) rfl (encM_length _) (World.news_of_block (cs:=(encM (cx,g.kn ii kk)).toArray) (t:=74) (fr:=(0,0)) (heap_alloc_new wc.drew _)) hone.out (by omega) (by unfold maxLen;omega) (by omega) (by have:=hBs.out;simp;omega) (wc.heap.size+1) (by simp) ?_;intro gg capn w2 hown2 hgrow hat hlt2;have T2:w2.heap[bt]? =some (.cells g.A 42):=(by rw [hgrow.block bt (by simp;omega) (fun e=>hbtn.out (by cases e;rfl))];show (wc.alloc _).heap[bt]? =_;rw [Below.heap_alloc _ _ _ hbt];exact HT.out);have s1:w2.cell? ⟨bt,1922+kk,none⟩=some g.A[1922+kk]:=(by rw [(cells_of0 T2).1];exact Array.getElem?_eq_getElem (by omega));have s2:w2.frozen? ⟨bt,1922+kk,none⟩=false:=(cells_of0 T2).2 _;have HT2:Hid (w2.heap[bt]? =some (.cells g.A 42)):=T2;have HO2:Hid _:=mem_append_done (o:=1922+kk) (u:= .slice (some ⟨gg,0,none⟩) ((g.mem kk).length+1) capn) hgrow T2 hown2 hat;clear T2 hown2 hgrow hat hlt2))
    all_goals
     go_wp2_with fail
     go_meet
     obtain ⟨d1,d2,d3⟩:=HO2.out
     refine ⟨_,gg,capn,heap_set HT2.out,?_,?_,?_,d1,d2,d3⟩
     ·rw [Array.size_setIfInBounds];exact hAs
     ·rw [Array.getElem?_setIfInBounds,if_pos rfl,if_pos (by omega)]
     ·intro q hq
      rw [Array.getElem?_setIfInBounds,if_neg (fun e=>hq e.symm)]
   case rest=>
    have HC:Hid _:=hcut
    clear hcut r1 q1 hE tm e0 e1 e2 e3
    go_wp2
    go_ret
    obtain ⟨A2,ga,ca,b1,b2,b3,b4,b5,b6,b7⟩:=HC.out
    obtain ⟨f1,f2⟩:=remember_done NC.out HJC.out HD0.out hB hnb hkk' b6
    refine ⟨rfl,f1,g.remember ks ii kk ga ca A2,rfl,NC.out.remember b6 hkk' (by omega) (fun l hl=>(HI.out.hmemN l hl).1) b1 b2 b3 b4 ?_ b7,HI.out.remember A2 hii' hkk' h30,f2⟩
    rw [HCX.out];exact b5
  ·have h30': ¬ ((g.mem kk).length:Int)< 30:=by omega
   clear hJ
   go_wp2
   go_ret
   exact ⟨rfl,HJC.out.toBelow hB,g,rfl,NC.out,HI.out,HDice.out _ HJC.out⟩
end Go.Proofs.YtldmcdeibiclkaaGreatDoorQ
end
