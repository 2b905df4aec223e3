/-
  Toward: treed_holds, each node's digest is that of its children's, for every argument of Treed. Contract: all: what is in one of two sets.
  A frame: many cells of a block set.
  Contract: right: where a replica's versions are the writes that are known of and not gone, in order, the answer is true.
  Contract: everywhere: where right answers true of each replica, the answer is true.
  The plain mathematics of the statement Beside: the versions that a context has not seen, among those that are expected.
  The plain mathematics of the statement Beside: the versions that are expected stand in their order, and a row in that order that holds the same versions is the same row.
  The plain mathematics of the statement Beside: what a write makes of the versions that are expected.
  The plain mathematics of the statement Beside: a context and a set of writes say the same, and stay so.
-/
import Derived.Test.YtldmcdeibiclkaaGreatDoorC43
import Derived.Test.YtldmcdeibiclkaaGreatDoorC42
import Derived.Deep.MidRow
import Derived.Deep.CutRange
set_option linter.unusedVariables false
set_option linter.unusedSimpArgs false
set_option maxRecDepth 4000
section
namespace Go.Proofs.YtldmcdeibiclkaaGreatDoorQ
open Go.RowKit
def bits (s:Nat→Bool):Array Value:=((List.range 80).map fun j=>Value.bool (s j)).toArray
theorem bits_size (s:Nat→Bool):(bits s).size=80:=by simp [bits]
theorem bits_get (s:Nat→Bool) (j:Nat) (h:j< 80):(bits s)[j]? =some (.bool (s j)):=by simp [bits,h]
theorem new2 (w:World) (X Y Z:Obj):(((w.alloc X).alloc Y).alloc Z).heap[w.heap.size+1]? =some Y:=by
 rw [Below.heap_alloc _ _ _ (by simp)]
 simpa using heap_alloc_new (w.alloc X) Y
theorem bits_cong {s t:Nat→Bool} (h: ∀j,j< 80→s j=t j):bits s=bits t:=by
 apply Array.ext_getElem?
 intro j
 by_cases hj:j< 80
 ·rw [bits_get _ _ hj,bits_get _ _ hj,h j hj]
 ·rw [Array.getElem?_eq_none (by rw [bits_size];omega),Array.getElem?_eq_none (by rw [bits_size];omega)]
theorem range_bits {w:World} {b:Nat} {C:Array Value} {t:TypeId} {fr:Nat×Nat} (h:w.heap[b]? =some (.cells C t fr)):w.rangeAt b 0 C.toList:=fun j v hv=>by
 simp only [World.cell?,h,Nat.zero_add]
 simpa using hv
theorem Qry.sizeSet:(Qry.prog.info? 33).map (·.size)=some 80:=by kernel_rfl
theorem bits_one (s:Nat→Bool): ∀v∈(bits s).toList,v.oneCell'=true:=by
 intro v hv
 simp [bits] at hv
 obtain ⟨j,_,rfl⟩:=hv
 rfl
theorem store_bits {w:World} {b:Nat} {C:Array Value} {t:TypeId} (hC:C.size=80) (h:w.heap[b]? =some (.cells C t)) (s:Nat→Bool):
  (storeCells ⟨b,0,none⟩ (bits s).toList).run Qry.prog w= .ok () (w.setCells b 0 (bits s).toList):=by
 obtain ⟨e,f⟩:=cells_of0 h
 have:=run_storeCells_cells (P:=Qry.prog) b 0 (bits s).toList 0 w (fun j hj=>by
   have hj':j< 80:=by simpa [bits_size] using hj
   simp [e,hC,hj']) (fun j hj=>by simpa using f j) (bits_one s)
 simpa using this
theorem after_set (b:Nat) (t:TypeId): ∀(vs:List Value) (o:Nat) (w:World) (C:Array Value),w.heap[b]? =some (.cells C t)→∃C',(w.setCells b o vs).heap[b]? =some (.cells C' t)∧C'.size=C.size∧∀j,C'[j]? =if o≤j∧j< o+vs.length∧j< C.size then vs[j - o]? else C[j]?
 |[],o,w,C,h=>⟨C,by simpa [World.setCells] using h,rfl,fun j=>by rw [if_neg (by simp;omega)]⟩
 |v::vs,o,w,C,h=>by
  obtain ⟨C',h1,h2,h3⟩:=after_set b t vs (o+1) (w.setCell ⟨b,o,none⟩ v) (C.setIfInBounds o v) (heap_set h)
  refine ⟨C',by rw [World.setCells];exact h1,by simpa using h2,fun j=>?_⟩
  rw [h3,Array.getElem?_setIfInBounds,Array.size_setIfInBounds]
  by_cases h5:o=j
  ·subst h5
   rw [if_neg (by omega),if_pos rfl]
   by_cases h6:o< C.size
   ·rw [if_pos h6,if_pos (by simp;omega)];simp
   ·rw [if_neg h6,if_neg (by omega)];rw [Array.getElem?_eq_none (by omega)]
  ·rw [if_neg h5]
   by_cases h6:o+1≤j∧j< o+1+vs.length∧j< C.size
   ·rw [if_pos h6,if_pos (by simp;omega)]
    rw [show j - o=(j - (o+1))+1 by omega];simp
   ·rw [if_neg h6,if_neg (by simp;omega)]
theorem after_bits {w:World} {b:Nat} {C:Array Value} {t:TypeId} (h:w.heap[b]? =some (.cells C t)) (F:Array Value) (hs:C.size=F.size):(w.setCells b 0 F.toList).heap[b]? =some (.cells F t):=by
 obtain ⟨C',h1,h2,h3⟩:=after_set b t F.toList 0 w C h
 rw [h1]
 congr 2
 apply Array.ext_getElem?
 intro j
 rw [h3]
 by_cases hj:j< F.size
 ·rw [if_pos ⟨by omega,by simp;omega,by omega⟩];simp
 ·rw [if_neg (by simp;omega),Array.getElem?_eq_none (by omega),Array.getElem?_eq_none (by omega)]
theorem below_setCells {B:Nat} {a:World} {b:Nat}: ∀(vs:List Value) {w:World},Below B a w→B≤b→∀o,Below B a (w.setCells b o vs)
 |[],_,h,_,_=>h
 |v::vs,_,h,hb,o=>by rw [World.setCells];exact below_setCells vs (h.setCell (p:=⟨b,o,none⟩) hb v) hb (o+1)
def AllRel (w:World) (a b:Nat→Bool) (k:Nat) (wr:World):Prop:=
 wr.heap[w.heap.size]? =some (.cells (bits fun j=>if j< k then a j||b j else a j) 33)∧wr.heap[w.heap.size+1]? =some (.cells (bits b) 33)∧wr.heap[w.heap.size+1+1]? =some (.cells zSet 33)∧Below w.heap.size w wr
theorem bits_set (s:Nat→Bool) (k:Nat) (v:Bool) (hk:k< 80):(bits s).setIfInBounds k (.bool v)=bits fun j=>if j=k then v else s j:=by
 apply Array.ext_getElem?
 intro j
 rw [Array.getElem?_setIfInBounds,bits_size]
 by_cases h:j< 80
 ·rw [bits_get _ _ h]
  by_cases e:k=j
  ·subst e;rw [bits_get _ _ hk];simp [hk]
  ·rw [if_neg e,bits_get _ _ h,if_neg (Ne.symm e)]
 ·have h1:(bits s)[j]? =none:=by rw [Array.getElem?_eq_none];rw [bits_size];omega
  have h2:(bits fun j=>if j=k then v else s j)[j]? =none:=by rw [Array.getElem?_eq_none];rw [bits_size];omega
  rw [h1,h2,if_neg (by omega)]
theorem AllRel.step {w wr:World} {a b:Nat→Bool} {k:Nat} (h:AllRel w a b k wr) (hk:k< 80):AllRel w a b (k+1) (wr.setCell ⟨w.heap.size,k,none⟩ (.bool (a k||b k))):=by
 obtain ⟨h1,h2,h3,h4⟩:=h
 refine ⟨?_,?_,?_,h4.setCell (Nat.le_refl _) _⟩
 ·rw [heap_set h1,bits_set _ _ _ hk]
  congr 2
  congr 1
  funext j
  by_cases e:j=k
  ·subst e;simp
  ·by_cases hl:j< k
   ·simp [e,hl,Nat.lt_succ_of_lt hl]
   ·have: ¬ j< k+1:=by omega
    simp [e,hl,this]
 ·rw [Below.heap_setCell _ _ _ _ (by simp)];exact h2
 ·rw [Below.heap_setCell _ _ _ _ (by simp;omega)];exact h3
set_option maxRecDepth 100000 in
set_option maxHeartbeats 400000 in
theorem all_any (a b:Nat→Bool) (w:World):
  Calls Qry.prog 45 #[.agg (bits a),.agg (bits b)] w fun e w'=>e= .returned (.agg (bits fun j=>a j||b j))∧Below w.heap.size w w':=by
 have hz:=Qry.zeroSetV
 go_enter Qry.func45,Qry.ntmps45
 go_wp2
 go_loopw [5] (fun i wr=>∃k:Nat,k≤80∧i= .int .i64 k∧AllRel w a b k wr) (fun i _=>80 - (intOf i).toNat)
 case atStart=>exact ⟨0,by omega,rfl,new1 w _ _ _,by simpa using new2 w _ _ _,new3 w _ _ _,(((Below.refl _ _).alloc (Nat.le_refl _) _).alloc (by simp) _).alloc (by simp;omega) _⟩
 case round=>
  obtain ⟨k,hk,rfl,hrel⟩:=hrel
  by_cases hlt:k< 80
  ·have g1:(k:Int)< 80:=by omega
   have g0:(0:Int)≤(k:Int):=by omega
   obtain ⟨e0,f0⟩:=cells_of0 hrel.1
   obtain ⟨e1,f1⟩:=cells_of0 hrel.2.1
   have r0:wr.cell? ⟨w.heap.size,k,none⟩=some (.bool (a k)):=by rw [e0,bits_get _ _ hlt];simp
   have r1:wr.cell? ⟨w.heap.size+1,k,none⟩=some (.bool (b k)):=by rw [e1,bits_get _ _ hlt]
   have w0:=f0 k
   have hst:Hid _:=hrel.step hlt
   clear e0 f0 e1 f1 hrel
   cases ha:a k with
   |true=>
    rw [ha] at r0 hst
    go_wp2
    exact ⟨⟨k+1,by omega,by go_num,hst.out⟩,by simp [intOf];omega⟩
   |false=>
    rw [ha] at r0 hst
    rw [Bool.false_or] at hst
    go_wp2
    exact ⟨⟨k+1,by omega,by go_num,hst.out⟩,by simp [intOf];omega⟩
  ·obtain rfl:k=80:=by omega
   have hbits:(bits fun j=>if j< 80 then a j||b j else a j)=bits fun j=>a j||b j:=bits_cong fun j hj=>by simp [hj]
   have h1:=hrel.1
   rw [hbits] at h1
   have HR:Hid _:=hrel
   have hrange:=range_bits h1
   clear hrel hbits h1
   go_wp2_with fail
   refine wp_load_mid 33 _ rfl w.heap.size 0 rfl _ _ hrange Qry.underlying33 rfl (by rw [Qry.sizeSet,Array.length_toList,bits_size]) ?_
   have hs80:(bits fun j=>a j||b j).size=80:=bits_size _
   have hst:=store_bits zSet_size HR.out.2.2.1 (fun j=>a j||b j)
   generalize hF:(bits fun j=>a j||b j)=F at*
   have HF:Hid _:=hF
   clear hF
   go_wp2
   have hfin:=after_bits HR.out.2.2.1 F (by rw [zSet_size,hs80])
   refine bodyPost_ret (v:= .agg F) ?_ rfl ⟨by rw [HF.out],?_⟩
   ·have hl:=run_loadVar_mid (P:=Qry.prog) (wr.setCells (w.heap.size+1+1) 0 F.toList) (w.heap.size+1+1) 0 33 F.toList _ (range_bits hfin) Qry.underlying33 rfl (by rw [Qry.sizeSet,Array.length_toList,hs80])
    rw [Array.toArray_toList] at hl
    simp [results,Qry.results45,asAddr,hl]
   ·exact below_setCells _ HR.out.2.2.2 (by omega) _
end Go.Proofs.YtldmcdeibiclkaaGreatDoorQ
end
section
namespace Go.Proofs.YtldmcdeibiclkaaGreatDoorQ
open Go.RowKit
section
variable {X Y:Nat→Prop} {w w1 w2:World}
theorem Fr.setCells (h:Fr X w w1) {b:Nat} (hb:w.heap.size≤b∨X b): ∀(vs:List Value) (o:Nat),Fr X w (w1.setCells b o vs):=by
 intro vs
 induction vs generalizing w1 with
 |nil=>intro o;exact h
 |cons v vs ih=>intro o;rw [World.setCells];exact ih (h.setCell hb v) (o+1)
end
end Go.Proofs.YtldmcdeibiclkaaGreatDoorQ
end
section
namespace Go.Proofs.YtldmcdeibiclkaaGreatDoorQ
open Go.RowKit
abbrev Wr:=Nat×Nat×Int×ByteArray
def encW (x:Wr):List Value:=[.int .i64 x.1,.int .i64 x.2.1,.int .i64 x.2.2.1,.string x.2.2.2]
def flatW (l:List Wr):List Value:=l.flatMap encW
theorem neqVer (W:World) (r n:Int) (s:ByteArray):(binOp .neq 71 (.agg #[.int .i64 r,.int .i64 n,.string s]) (.agg #[.int .i64 r,.int .i64 n,.string s])).run Qry.prog W= .ok (.bool false) W:=by
 have u3:=Qry.underlying3
 have u9:=Qry.underlying9
 have a3:=Qry.isAgg3
 have z3:=Qry.sizeOf3
 have a9:=Qry.isAgg9
 have z9:=Qry.sizeOf9
 have hS:Qry.prog.underlying 71=some (.struct (Qry.prog.fieldsOf 71)):=by kernel_rfl
 have hp:Qry.prog.stoodInHeld 71=false:=by kernel_rfl
 rw [run_neq_struct,show (10000:Nat)=9999+1 from rfl,run_equalIn_agg W 9999 71 _ _ hS hp]
 simp only [Program.fieldsOf,Qry.underlying71]
 go_simp
def ofBy (ws:List Wr) (kn go:Nat→Bool) (k b m:Nat):List Ver:=
 (List.range m).flatMap fun j=>match ws[j]? with
  |some x=>if x.2.1=k∧x.1=b∧kn j=true∧go j=false then [(b,x.2.2.1,x.2.2.2)] else []
  |none=>[]
def expected (ws:List Wr) (kn go:Nat→Bool) (k:Nat):List Ver:=(List.range 4).flatMap fun b=>ofBy ws kn go k b ws.length
theorem row_cell {w:World} {B:Nat} {e:TypeId} {size:Nat} {v:Value} {n:Nat} {xs:List Value} (h:w.ownsRow B e size v n xs) (hn:0< n):
  ∃g cap,v= .slice (some ⟨g,0,none⟩) n cap∧n≤cap∧cap≤maxLen∧∀t u,t< n*size→xs[t]? =some u→w.cell? ⟨g,t,none⟩=some u:=by
 rcases h.2 with ⟨_,h0⟩|⟨g,cap,cur,hv,_,hh,hnc,hc,_,ht⟩
 ·omega
 ·refine ⟨g,cap,hv,hnc,hc,fun t u htl hu=>?_⟩
  rw [← ht,List.getElem?_take,if_pos htl] at hu
  simp only [World.cell?,hh]
  simpa using hu
theorem row_len {w:World} {B:Nat} {e:TypeId} {size:Nat} {v:Value} {n:Nat} {xs:List Value} (h:w.ownsRow B e size v n xs): ∃ad cap,v= .slice ad n cap:=by
 rcases h.2 with ⟨h1,h2⟩|⟨g,cap,cur,hv,_⟩
 ·exact ⟨_,_,by rw [h1,h2]⟩
 ·exact ⟨_,_,hv⟩
theorem ofBy_hit {ws:List Wr} {kn go:Nat→Bool} {k b j:Nat} {x:Wr} (hx:ws[j]? =some x) (h1:x.2.1=k) (h2:x.1=b) (h3:kn j=true) (h4:go j=false):ofBy ws kn go k b (j+1)=ofBy ws kn go k b j++ [(b,x.2.2.1,x.2.2.2)]:=by
 simp [ofBy,List.range_succ,List.flatMap_append,hx,h1,h2,h3,h4]
theorem ofBy_miss {ws:List Wr} {kn go:Nat→Bool} {k b j:Nat} {x:Wr} (hx:ws[j]? =some x) (h: ¬ (x.2.1=k∧x.1=b∧kn j=true∧go j=false)):ofBy ws kn go k b (j+1)=ofBy ws kn go k b j:=by
 simp only [ofBy,List.range_succ,List.flatMap_append,List.flatMap_cons,List.flatMap_nil,hx,if_neg h,List.append_nil]
structure RightIn (w:World) (bt br b:Nat) (bm:Nat→Nat) (i nr capr num:Nat) (A R:Array Value) (wv:Value) (K:Know) (ws:List Wr) (kn go:Nat→Nat→Bool) (ks:Nat→ByteArray):Prop where
 hT:w.heap[bt]? =some (.cells A 42)
 h0:A[0]? =some (.slice (some ⟨br,0,none⟩) nr capr)
 hR:w.heap[br]? =some (.cells R 29)
 hi:i< nr∧i< 4∧nr≤4
 hRi:R[i]? =some (.pointer (some ⟨b,0,none⟩))
 hrep:RepAt w b bm num K
 hK:KOk K
 h1:A[1]? =some wv
 hw:w.ownsRow 0 115 4 wv ws.length (flatW ws)
 hlen:ws.length≤80
 hkn: ∀k j,k< 3→j< 80→A[2+i*240+k*80+j]? =some (.bool (kn k j))
 hgo: ∀k j,k< 3→j< 80→A[962+i*240+k*80+j]? =some (.bool (go k j))
 hks: ∀k,k< 3→w.cell? ⟨0,k,none⟩=some (.string (ks k))∧keyB (ks k)=true∧(ks k).size≤8
 hex: ∀k,k< 3→(K (ks k)).2=expected ws (kn k) (go k) k
end Go.Proofs.YtldmcdeibiclkaaGreatDoorQ
end
section
namespace Go.Proofs.YtldmcdeibiclkaaGreatDoorQ
open Go.RowKit
end Go.Proofs.YtldmcdeibiclkaaGreatDoorQ
end
section
namespace Go.Proofs.YtldmcdeibiclkaaGreatDoorQ
theorem filter_flatMap' {α β:Type} (p:β→Bool) (f:α→List β): ∀l:List α,(l.flatMap f).filter p=l.flatMap fun a=>(f a).filter p
 |[]=>rfl
 |a::l=>by simp only [List.flatMap_cons,List.filter_append,filter_flatMap' p f l]
theorem flatMap_congr' {α β:Type} {f g:α→List β}: ∀l:List α,(∀a∈l,f a=g a)→l.flatMap f=l.flatMap g
 |[],_=>rfl
 |a::l,h=>by
  simp only [List.flatMap_cons]
  rw [h a (by simp),flatMap_congr' l fun b hb=>h b (by simp [hb])]
theorem unseen_expected {ws:List Wr} {kn go m:Nat→Bool} {c:Ctx} {k:Nat} (hm: ∀(j:Nat) (x:Wr),ws[j]? =some x→x.2.1=k→(m j=true↔x.2.2.1≤c x.1)):
  unseenL (expected ws kn go k) c=expected ws kn (fun j=>go j||m j) k:=by
 unfold unseenL expected
 rw [filter_flatMap']
 refine flatMap_congr' _ fun b _=>?_
 unfold ofBy
 rw [filter_flatMap']
 refine flatMap_congr' _ fun j _=>?_
 cases hx:ws[j]? with
 |none=>rfl
 |some x=>
  simp only
  by_cases h1:x.2.1=k
  ·by_cases h2:x.1=b
   ·have h:=hm j x hx h1
    subst h2
    by_cases h3:kn j=true
    ·by_cases h4:go j=true
     ·simp [h4]
     ·by_cases h5:m j=true
      ·have h6:=h.1 h5
       simp [h1,h3,h4,h5,seenB,h6]
      ·have h6: ¬ x.2.2.1≤c x.1:=fun e=>h5 (h.2 e)
       simp [h1,h3,h4,h5,seenB]
       exact Int.not_le.1 h6
    ·simp [h3]
   ·simp [h2]
  ·simp [h1]
end Go.Proofs.YtldmcdeibiclkaaGreatDoorQ
end
section
namespace Go.Proofs.YtldmcdeibiclkaaGreatDoorQ
def NumOk (ws:List Wr):Prop:=∀(i j:Nat) (x y:Wr),i< j→ws[i]? =some x→ws[j]? =some y→x.1=y.1→x.2.1=y.2.1→x.2.2.1< y.2.2.1
theorem pairwise_weaken {α:Type} {R S:α→α→Prop} (h: ∀a b,R a b→S a b): ∀{l:List α},l.Pairwise R→l.Pairwise S
 |[],_=>List.Pairwise.nil
 |_::_,hl=>List.pairwise_cons.2 ⟨fun b hb=>h _ _ ((List.pairwise_cons.1 hl).1 b hb),pairwise_weaken h (List.pairwise_cons.1 hl).2⟩
theorem mem_ofBy {ws:List Wr} {kn go:Nat→Bool} {k b m:Nat} {v:Ver} (h:v∈ofBy ws kn go k b m): ∃j x,j< m∧ws[j]? =some x∧x.2.1=k∧x.1=b∧kn j=true∧go j=false∧v=(b,x.2.2.1,x.2.2.2):=by
 simp only [ofBy,List.mem_flatMap,List.mem_range] at h
 obtain ⟨j,hj,hv⟩:=h
 cases hx:ws[j]? with
 |none=>simp [hx] at hv
 |some x=>
  simp only [hx] at hv
  by_cases hc:x.2.1=k∧x.1=b∧kn j=true∧go j=false
  ·rw [if_pos hc] at hv
   exact ⟨j,x,hj,hx,hc.1,hc.2.1,hc.2.2.1,hc.2.2.2,by simpa using hv⟩
  ·rw [if_neg hc] at hv;cases hv
theorem ofBy_sorted {ws:List Wr} (hN:NumOk ws) (kn go:Nat→Bool) (k b:Nat): ∀m,(ofBy ws kn go k b m).Pairwise fun u v=>u.1=v.1∧u.2.1< v.2.1
 |0=>by simp [ofBy]
 |m+1=>by
  have ih:=ofBy_sorted hN kn go k b m
  cases hx:ws[m]? with
  |none=>
   have:ofBy ws kn go k b (m+1)=ofBy ws kn go k b m:=by simp [ofBy,List.range_succ,List.flatMap_append,hx]
   rw [this];exact ih
  |some x=>
   by_cases h:x.2.1=k∧x.1=b∧kn m=true∧go m=false
   ·rw [ofBy_hit hx h.1 h.2.1 h.2.2.1 h.2.2.2,List.pairwise_append]
    refine ⟨ih,List.pairwise_singleton _ _,fun u hu v hv=>?_⟩
    obtain ⟨j,y,hj,hy,y1,y2,_,_,rfl⟩:=mem_ofBy hu
    obtain rfl:v=(b,x.2.2.1,x.2.2.2):=by simpa using hv
    exact ⟨rfl,hN j m y x hj hy hx (by rw [y2,h.2.1]) (by rw [y1,h.1])⟩
   ·rw [ofBy_miss hx h];exact ih
theorem ltV_iff (a b:Ver):ltV a b=true↔a.1< b.1∨a.1=b.1∧a.2.1< b.2.1:=by simp [ltV]
theorem expected_sorted {ws:List Wr} (hN:NumOk ws) (kn go:Nat→Bool) (k:Nat):(expected ws kn go k).Pairwise fun u v=>ltV u v=true:=by
 unfold expected
 rw [List.pairwise_flatMap]
 refine ⟨fun b _=>pairwise_weaken (fun _ _ h=>(ltV_iff _ _).2 (Or.inr h)) (ofBy_sorted hN kn go k b ws.length),?_⟩
 have hr:(List.range 4).Pairwise (· < ·):=List.pairwise_lt_range
 refine pairwise_weaken (fun b c hbc u hu v hv=>?_) hr
 obtain ⟨_,_,_,_,_,_,_,_,rfl⟩:=mem_ofBy hu
 obtain ⟨_,_,_,_,_,_,_,_,rfl⟩:=mem_ofBy hv
 exact (ltV_iff _ _).2 (Or.inl hbc)
theorem sorted_eq: ∀(a b:List Ver),a.Perm b→a.Pairwise (fun u v=>ltV v u=false)→b.Pairwise (fun u v=>ltV u v=true)→a=b
 |[],b,hp,_,_=>by rw [List.nil_perm.1 hp]
 |u::a,[],hp,_,_=>by simpa using hp.length_eq
 |u::a,v::b,hp,ha,hb=>by
  have hu:u∈v::b:=hp.subset (by simp)
  have hv:v∈u::a:=hp.symm.subset (by simp)
  have huv:u=v:=by
   rcases List.mem_cons.1 hu with h|h
   ·exact h
   ·rcases List.mem_cons.1 hv with h'|h'
    ·exact h'.symm
    ·have h1:=(List.pairwise_cons.1 hb).1 u h
     have h2:=(List.pairwise_cons.1 ha).1 v h'
     rw [h1] at h2;cases h2
  subst huv
  rw [sorted_eq a b (List.Perm.cons_inv hp) (List.pairwise_cons.1 ha).2 (List.pairwise_cons.1 hb).2]
end Go.Proofs.YtldmcdeibiclkaaGreatDoorQ
end
section
namespace Go.Proofs.YtldmcdeibiclkaaGreatDoorQ
theorem ofBy_congr {ws ws':List Wr} {kn go kn' go':Nat→Bool} {k b m:Nat} (hw: ∀j,j< m→ws'[j]? =ws[j]?) (hk: ∀j,j< m→((kn' j=true∧go' j=false)↔(kn j=true∧go j=false))):ofBy ws' kn' go' k b m=ofBy ws kn go k b m:=by
 unfold ofBy
 refine flatMap_congr' _ fun j hj=>?_
 have hj':=List.mem_range.1 hj
 rw [hw j hj']
 cases ws[j]? with
 |none=>rfl
 |some x=>
  simp only
  have h:=hk j hj'
  by_cases h1:x.2.1=k∧x.1=b
  ·by_cases h2:kn j=true∧go j=false
   ·rw [if_pos ⟨h1.1,h1.2,(h.2 h2).1,(h.2 h2).2⟩,if_pos ⟨h1.1,h1.2,h2.1,h2.2⟩]
   ·rw [if_neg (fun e=>h2 (h.1 ⟨e.2.2.1,e.2.2.2⟩)),if_neg (fun e=>h2 ⟨e.2.2.1,e.2.2.2⟩)]
  ·rw [if_neg (fun e=>h1 ⟨e.1,e.2.1⟩),if_neg (fun e=>h1 ⟨e.1,e.2.1⟩)]
theorem four (f:Nat→List Ver):(List.range 4).flatMap f=f 0++(f 1++(f 2++f 3)):=by
 simp [List.range_succ]
theorem perm_mid (a r:List Ver) (x:Ver):((a++ [x])++r).Perm ((a++r)++ [x]):=by
 rw [List.append_assoc,List.append_assoc]
 exact List.perm_append_comm.append_left _
theorem expected_put {ws:List Wr} {kn go kn' go':Nat→Bool} {k i:Nat} {n:Int} {val:ByteArray} (hi:i< 4)
  (hk: ∀j,j< ws.length→((kn' j=true∧go' j=false)↔(kn j=true∧go j=false))) (hk1:kn' ws.length=true) (hg1:go' ws.length=false):
  (expected (ws++ [(i,k,n,val)]) kn' go' k).Perm (expected ws kn go k++ [(i,n,val)]):=by
 have hw: ∀j,j< ws.length→(ws++ [(i,k,n,val)])[j]? =ws[j]? :=fun j hj=>List.getElem?_append_left hj
 have hl:(ws++ [(i,k,n,val)])[ws.length]? =some (i,k,n,val):=by simp
 have hof: ∀b,ofBy (ws++ [(i,k,n,val)]) kn' go' k b (ws++ [(i,k,n,val)]).length=ofBy ws kn go k b ws.length++(if i=b then [(b,n,val)] else []):=by
  intro b
  rw [List.length_append,List.length_singleton]
  by_cases e:i=b
  ·rw [ofBy_hit hl rfl e hk1 hg1,ofBy_congr hw hk,if_pos e]
  ·rw [ofBy_miss hl (fun h=>e h.2.1),ofBy_congr hw hk,if_neg e,List.append_nil]
 unfold expected
 rw [four,four,hof,hof,hof,hof]
 generalize ofBy ws kn go k 0 ws.length=f0
 generalize ofBy ws kn go k 1 ws.length=f1
 generalize ofBy ws kn go k 2 ws.length=f2
 generalize ofBy ws kn go k 3 ws.length=f3
 rcases lt4 hi with rfl|rfl|rfl|rfl
 ·rw [if_pos rfl,if_neg (by omega),if_neg (by omega),if_neg (by omega)]
  simp only [List.append_nil]
  exact perm_mid _ _ _
 ·rw [if_neg (by omega),if_pos rfl,if_neg (by omega),if_neg (by omega)]
  simp only [List.append_nil]
  rw [List.append_assoc f0]
  exact (perm_mid _ _ _).append_left _
 ·rw [if_neg (by omega),if_neg (by omega),if_pos rfl,if_neg (by omega)]
  simp only [List.append_nil]
  rw [List.append_assoc f0,List.append_assoc f1]
  exact ((perm_mid _ _ _).append_left _).append_left _
 ·rw [if_neg (by omega),if_neg (by omega),if_neg (by omega),if_pos rfl]
  simp only [List.append_nil,List.append_assoc]
  exact List.Perm.refl _
theorem put_expected {ws:List Wr} {kn go m kn' go':Nat→Bool} {k i:Nat} {n:Int} {val:ByteArray} {c:Ctx} {l l':List Ver} (hi:i< 4) (hl:l=expected ws kn go k)
  (hm: ∀(j:Nat) (x:Wr),ws[j]? =some x→x.2.1=k→(m j=true↔x.2.2.1≤c x.1))
  (hp:l'.Perm (unseenL l c++ [(i,n,val)])) (hs:l'.Pairwise fun a b=>ltV b a=false) (hN:NumOk (ws++ [(i,k,n,val)]))
  (hkn: ∀j,j< ws.length→kn' j=(kn j||m j)) (hgo: ∀j,j< ws.length→go' j=(go j||m j)) (hk1:kn' ws.length=true) (hg1:go' ws.length=false):
  l'=expected (ws++ [(i,k,n,val)]) kn' go' k:=by
 rw [hl,unseen_expected hm] at hp
 refine sorted_eq _ _ (hp.trans (expected_put (kn:=kn) (go:=fun j=>go j||m j) hi (fun j hj=>?_) hk1 hg1).symm) hs (expected_sorted hN _ _ _)
 rw [hkn j hj,hgo j hj]
 cases kn j<;> cases go j<;> cases m j<;> simp
theorem delete_expected {ws:List Wr} {kn go m kn' go':Nat→Bool} {k:Nat} {c:Ctx}
  (hm: ∀(j:Nat) (x:Wr),ws[j]? =some x→x.2.1=k→(m j=true↔x.2.2.1≤c x.1))
  (hkn: ∀j,j< ws.length→kn' j=(kn j||m j)) (hgo: ∀j,j< ws.length→go' j=(go j||m j)):
  unseenL (expected ws kn go k) c=expected ws kn' go' k:=by
 rw [unseen_expected hm]
 unfold expected
 refine flatMap_congr' _ fun b _=>(ofBy_congr (fun _ _=>rfl) fun j hj=>?_).symm
 rw [hkn j hj,hgo j hj]
 cases kn j<;> cases go j<;> cases m j<;> simp
end Go.Proofs.YtldmcdeibiclkaaGreatDoorQ
end
section
namespace Go.Proofs.YtldmcdeibiclkaaGreatDoorQ
def cntW:List Wr→Nat→Nat→Int
 |[],_,_=>0
 |x::ws,b,k=>(if x.1=b∧x.2.1=k then 1 else 0)+cntW ws b k
theorem cntW_append (a c:List Wr) (b k:Nat):cntW (a++c) b k=cntW a b k+cntW c b k:=by
 induction a with
 |nil=>simp [cntW]
 |cons x a ih=>simp only [List.cons_append,cntW,ih];omega
theorem cntW_nonneg (a:List Wr) (b k:Nat):0≤cntW a b k:=by
 induction a with
 |nil=>simp [cntW]
 |cons x a ih=>simp only [cntW];split<;> omega
theorem cntW_le (a:List Wr) (b k:Nat):cntW a b k≤a.length:=by
 induction a with
 |nil=>simp [cntW]
 |cons x a ih=>simp only [cntW,List.length_cons];split<;> omega
def SeqOk (ws:List Wr):Prop:=∀(j:Nat) (x:Wr),ws[j]? =some x→x.2.2.1=cntW (ws.take j) x.1 x.2.1+1
theorem cntW_take_mono (ws:List Wr) (b k:Nat) {i j:Nat} (h:i≤j):cntW (ws.take i) b k≤cntW (ws.take j) b k:=by
 obtain ⟨d,rfl⟩:=Nat.exists_eq_add_of_le h
 rw [List.take_add,cntW_append]
 have:=cntW_nonneg ((ws.drop i).take d) b k
 omega
theorem SeqOk.num {ws:List Wr} (h:SeqOk ws):NumOk ws:=by
 intro i j x y hij hx hy h1 h2
 have e1:=h i x hx
 have e2:=h j y hy
 have hi:i< ws.length:=(List.getElem?_eq_some_iff.1 hx).1
 have hxi:ws[i]=x:=(List.getElem?_eq_some_iff.1 hx).2
 have e3:cntW (ws.take (i+1)) x.1 x.2.1=cntW (ws.take i) x.1 x.2.1+1:=by
  rw [List.take_succ_eq_append_getElem hi,cntW_append,hxi];simp [cntW]
 have e4:=cntW_take_mono ws x.1 x.2.1 (show i+1≤j from hij)
 rw [← h1,← h2] at e2
 omega
theorem SeqOk.snoc {ws:List Wr} (h:SeqOk ws) (i k:Nat) (val:ByteArray):SeqOk (ws++ [(i,k,cntW ws i k+1,val)]):=by
 intro j x hx
 by_cases hj:j< ws.length
 ·rw [List.getElem?_append_left hj] at hx
  rw [List.take_append_of_le_length (by omega)]
  exact h j x hx
 ·have hl:j=ws.length:=by
   have:=(List.getElem?_eq_some_iff.1 hx).1
   simp at this;omega
  subst hl
  obtain rfl:(i,k,cntW ws i k+1,val)=x:=by simpa using hx
  simp
theorem SeqOk.le {ws:List Wr} (h:SeqOk ws) {j:Nat} {x:Wr} (hx:ws[j]? =some x):1≤x.2.2.1∧x.2.2.1≤cntW ws x.1 x.2.1:=by
 have e:=h j x hx
 have hj:j< ws.length:=(List.getElem?_eq_some_iff.1 hx).1
 have hxj:ws[j]=x:=(List.getElem?_eq_some_iff.1 hx).2
 have e3:cntW (ws.take (j+1)) x.1 x.2.1=cntW (ws.take j) x.1 x.2.1+1:=by
  rw [List.take_succ_eq_append_getElem hj,cntW_append,hxj];simp [cntW]
 have e4:=cntW_take_mono ws x.1 x.2.1 (show j+1≤ws.length from hj)
 rw [List.take_length] at e4
 have:=cntW_nonneg (ws.take j) x.1 x.2.1
 omega
def Good (ws:List Wr) (k:Nat) (c:Ctx) (kn:Nat→Bool):Prop:=
 (∀(j:Nat) (x:Wr),ws[j]? =some x→(kn j=true↔x.2.1=k∧x.2.2.1≤c x.1))∧(∀j,ws.length≤j→kn j=false)∧∀b,0≤c b∧c b≤cntW ws b k
theorem Good.join {ws:List Wr} {k:Nat} {c d:Ctx} {kn m:Nat→Bool} (h:Good ws k c kn) (h':Good ws k d m):Good ws k (bothC c d) (fun j=>kn j||m j):=by
 refine ⟨fun j x hx=>?_,fun j hj=>?_,fun b=>?_⟩
 ·have e1:=h.1 j x hx
  have e2:=h'.1 j x hx
  simp only [Bool.or_eq_true,bothC]
  rw [e1,e2]
  constructor
  ·rintro (⟨a,b⟩|⟨a,b⟩)
   ·exact ⟨a,by omega⟩
   ·exact ⟨a,by omega⟩
  ·rintro ⟨a,b⟩
   by_cases q:x.2.2.1≤c x.1
   ·exact Or.inl ⟨a,q⟩
   ·exact Or.inr ⟨a,by omega⟩
 ·simp [h.2.1 j hj,h'.2.1 j hj]
 ·have e1:=h.2.2 b
  have e2:=h'.2.2 b
  simp only [bothC];omega
theorem Good.other {ws:List Wr} {k:Nat} {c:Ctx} {kn:Nat→Bool} (h:Good ws k c kn) (i k':Nat) (val:ByteArray):Good (ws++ [(i,k',cntW ws i k'+1,val)]) k c kn:=by
 refine ⟨fun j x hx=>?_,fun j hj=>h.2.1 j (by simp at hj;omega),fun b=>?_⟩
 ·by_cases hj:j< ws.length
  ·rw [List.getElem?_append_left hj] at hx
   exact h.1 j x hx
  ·have hl:j=ws.length:=by
    have:=(List.getElem?_eq_some_iff.1 hx).1
    simp at this;omega
   subst hl
   obtain rfl:(i,k',cntW ws i k'+1,val)=x:=by simpa using hx
   rw [h.2.1 _ (Nat.le_refl _)]
   simp only [Bool.false_eq_true,false_iff,not_and]
   intro e
   subst e
   have:=(h.2.2 i).2
   omega
 ·have:=h.2.2 b
  have e:=cntW_nonneg [(i,k',cntW ws i k'+1,val)] b k
  rw [cntW_append];omega
theorem Good.put {ws:List Wr} {k i:Nat} {c:Ctx} {kn kn':Nat→Bool} {val:ByteArray} (hS:SeqOk ws) (h:Good ws k c kn) (hi:c i=cntW ws i k)
  (h1: ∀j,j< ws.length→kn' j=kn j) (h2:kn' ws.length=true) (h3: ∀j,ws.length< j→kn' j=false):Good (ws++ [(i,k,cntW ws i k+1,val)]) k (bump c i) kn':=by
 refine ⟨fun j x hx=>?_,fun j hj=>h3 j (by simp at hj;omega),fun b=>?_⟩
 ·by_cases hj:j< ws.length
  ·rw [List.getElem?_append_left hj] at hx
   rw [h1 j hj,h.1 j x hx]
   refine and_congr_right fun e=>?_
   unfold bump
   by_cases q:x.1=i
   ·rw [if_pos q,q,hi]
    have hle:=(hS.le hx).2
    rw [q,e] at hle
    constructor<;> intro<;> omega
   ·rw [if_neg q]
  ·have hl:j=ws.length:=by
    have:=(List.getElem?_eq_some_iff.1 hx).1
    simp at this;omega
   subst hl
   obtain rfl:(i,k,cntW ws i k+1,val)=x:=by simpa using hx
   rw [h2]
   simp [bump,hi]
 ·have:=h.2.2 b
  rw [cntW_append]
  unfold bump
  by_cases q:b=i
  ·subst q;rw [if_pos rfl];simp [cntW];omega
  ·rw [if_neg q]
   have e:=cntW_nonneg [(i,k,cntW ws i k+1,val)] b k
   omega
end Go.Proofs.YtldmcdeibiclkaaGreatDoorQ
end
