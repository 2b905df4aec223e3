/-
  Toward: treed_holds, each node's digest is that of its children's, for every argument of Treed. The map of a replica: what a lookup and an update of a map with texts as keys come to.
  Contract: keep: a key's state is laid into the replica's map; nothing else that was there turns.
  Contracts: maps.Keys and slices.Sorted on a segment's map: its keys, by rising bytes, in new memory.
-/
import Derived.Test.YtldmcdeibiclkaaGreatDoorC35
import Derived.Laws.StructEq
import Derived.Test.YtldmcdeibiclkaaGreatDoorC37
import Derived.Deep.RegionHeld3
set_option linter.unusedVariables false
set_option linter.unusedSimpArgs false
set_option maxRecDepth 4000
section
namespace Go.Proofs.YtldmcdeibiclkaaGreatDoorQ
open Go.RowKit
theorem bytes_beq (a b:ByteArray):(a==b)=decide (a=b):=by
 rw [beq_toListBytes,Bool.eq_iff_iff]
 simp only [ByteArray.toList_eq,beq_iff_eq,Array.toList_inj,decide_eq_true_eq]
 exact ⟨fun h=>by cases a;cases b;simp_all,fun h=>by rw [h]⟩
def KeysOk (es:List MapEntry):Prop:=∀e∈es,∃k,e.key= .string k
def entAt:List MapEntry→ByteArray→Option Value
 |[],_=>none
 |e::es,s=>match e.key with
  | .string k=>if s=k then some e.val else entAt es s
  |_=>entAt es s
theorem findNow_none (s:ByteArray): ∀(es:List MapEntry) (i:Nat),KeysOk es→entAt es s=none→Instr.findNow .string (.string s) es i=some none
 |[],_,_,_=>rfl
 |e::es,i,hk,h=>by
  obtain ⟨k,he⟩:=hk e (by simp)
  simp only [entAt,he] at h
  by_cases hs:s=k
  ·rw [if_pos hs] at h;cases h
  ·rw [if_neg hs] at h
   have hsb:(s==k)=false:=by rw [bytes_beq];simpa using hs
   simp only [Instr.findNow,Instr.sameNow,he,hsb]
   exact findNow_none s es (i+1) (fun e' h'=>hk e' (by simp [h'])) h
theorem findNow_some (s:ByteArray) (v:Value): ∀(es:List MapEntry) (i:Nat),KeysOk es→entAt es s=some v→∃j,j< es.length∧Instr.findNow .string (.string s) es i=some (some (i+j,v))∧(es[j]?).map (·.key)=some (.string s)
 |[],_,_,h=>by cases h
 |e::es,i,hk,h=>by
  obtain ⟨k,he⟩:=hk e (by simp)
  simp only [entAt,he] at h
  by_cases hs:s=k
  ·rw [if_pos hs] at h
   cases h
   subst hs
   exact ⟨0,by simp,by simp [Instr.findNow,Instr.sameNow,he,bytes_beq],by simp [he]⟩
  ·rw [if_neg hs] at h
   have hsb:(s==k)=false:=by rw [bytes_beq];simpa using hs
   obtain ⟨j,hj,hf,hkey⟩:=findNow_some s v es (i+1) (fun e' h'=>hk e' (by simp [h'])) h
   refine ⟨j+1,by simpa using hj,?_,by simpa using hkey⟩
   simp only [Instr.findNow,Instr.sameNow,he,hsb]
   rw [hf]
   congr 3
   omega
theorem checkKey_string (w:World) (b:Bool) (n:Nat) (s:ByteArray):(Instr.checkKey b (n+1) 9 (.string s)).run Qry.prog w= .ok () w:=by
 have hs:Qry.prog.underlying 9=some .string:=Qry.underlying9
 simp only [Instr.checkKey,Sem.run_bind,run_underlying hs,Result.andThen_ok]
 rfl
abbrev zeroSt:Value:= .agg #[.int .i64 0,.int .i64 0,.int .i64 0,.int .i64 0,.slice none 0 0]
theorem lookup_run (w:World) (bm:Nat) (es:Array MapEntry) (clock:Nat) (s:ByteArray) (hm:w.heap[bm]? =some (.map es clock)) (hk:KeysOk es.toList):
  (Instr.lookup 98 (.map (some bm)) (.string s) false).run Qry.prog w= .ok ((entAt es.toList s).getD zeroSt) w:=by
 have hu:Qry.prog.underlying 98=some (.map 9 106):=Qry.underlying98
 have hs:Qry.prog.underlying 9=some .string:=Qry.underlying9
 have hck: ∀b,(Instr.checkKey b 10000 9 (.string s)).run Qry.prog w= .ok () w:=fun b=>checkKey_string w b 9999 s
 cases he:entAt es.toList s with
 |none=>
  have hf:=findNow_none s es.toList 0 hk he
  simp [Instr.lookup,run_underlying hu,run_underlying hs,getObj,Sem.run,hm,hck,Instr.findKey,hf]
 |some v=>
  obtain ⟨j,hj,hf,hkey⟩:=findNow_some s v es.toList 0 hk he
  simp [Instr.lookup,run_underlying hu,run_underlying hs,getObj,Sem.run,hm,hck,Instr.findKey,hf]
theorem entAt_append (t:ByteArray) (e:MapEntry) (k:ByteArray) (he:e.key= .string k): ∀es:List MapEntry,KeysOk es→entAt (es++ [e]) t=(entAt es t).or (if t=k then some e.val else none)
 |[],_=>by simp [entAt,he]
 |x::es,hk=>by
  obtain ⟨q,hq⟩:=hk x (by simp)
  simp only [List.cons_append,entAt,hq]
  by_cases h:t=q
  ·simp [h]
  ·rw [if_neg h,if_neg h]
   exact entAt_append t e k he es (fun e' h'=>hk e' (by simp [h']))
theorem findNow_ge (s:ByteArray): ∀(es:List MapEntry) (i q:Nat) (v:Value),Instr.findNow .string (.string s) es i=some (some (q,v))→i≤q
 |[],i,q,v,h=>by simp [Instr.findNow] at h
 |e::es,i,q,v,h=>by
  simp only [Instr.findNow] at h
  split at h
  ·simp at h;omega
  ·have:=findNow_ge s es (i+1) q v h;omega
  ·cases h
theorem entAt_modify (s t:ByteArray) (v v':Value) (f:MapEntry→MapEntry) (hfk: ∀e,(f e).key= .string s) (hfv: ∀e,(f e).val=v'): ∀(es:List MapEntry) (i j:Nat),KeysOk es→Instr.findNow .string (.string s) es i=some (some (i+j,v))→entAt (es.modify j f) t=(if t=s then some v' else entAt es t)∧KeysOk (es.modify j f)
 |[],i,j,_,h=>by simp [Instr.findNow] at h
 |e::es,i,j,hk,h=>by
  obtain ⟨k,he⟩:=hk e (by simp)
  by_cases hs:s=k
  ·subst hs
   simp only [Instr.findNow,Instr.sameNow,he,bytes_beq,decide_true] at h
   have hj:j=0:=by simp at h;omega
   subst hj
   refine ⟨?_,?_⟩
   ·simp only [List.modify_zero_cons,entAt,hfk,hfv,he]
    by_cases h':t=s<;> simp [h']
   ·intro x hx
    simp only [List.modify_zero_cons,List.mem_cons] at hx
    rcases hx with rfl|hx
    ·exact ⟨s,hfk e⟩
    ·exact hk x (by simp [hx])
  ·have hsb:(s==k)=false:=by rw [bytes_beq];simpa using hs
   simp only [Instr.findNow,Instr.sameNow,he,hsb] at h
   have hj:1≤j:=by
    rcases Nat.eq_zero_or_pos j with h0|h0
    ·subst h0
     have:=findNow_ge s es (i+1) _ _ h
     omega
    ·exact h0
   obtain ⟨j',rfl⟩: ∃j',j=j'+1:=⟨j - 1,by omega⟩
   rw [show i+(j'+1)=i+1+j' by omega] at h
   obtain ⟨h1,h2⟩:=entAt_modify s t v v' f hfk hfv es (i+1) j' (fun e' h'=>hk e' (by simp [h'])) h
   refine ⟨?_,?_⟩
   ·simp only [List.modify_succ_cons,entAt,he]
    rw [h1]
    by_cases h':t=k
    ·simp [h']
     intro q;exact absurd q (fun q=>hs q.symm)
    ·simp [h']
   ·intro x hx
    simp only [List.modify_succ_cons,List.mem_cons] at hx
    rcases hx with rfl|hx
    ·exact ⟨k,he⟩
    ·exact h2 x hx
def Stamp (Q:ByteArray→Prop) (es:List MapEntry) (clock:Nat):Prop:=
 (es.map (·.key)).Nodup∧(es.map (·.born)).Nodup∧(∀e∈es,e.born< clock)∧∀e∈es,∃k,e.key= .string k∧Q k
theorem entAt_none {s:ByteArray}: ∀{es:List MapEntry},KeysOk es→entAt es s=none→∀e∈es,e.key≠.string s
 |[],_,_,e,he=>by simp at he
 |x::es,hk,h,e,he=>by
  obtain ⟨q,hq⟩:=hk x (by simp)
  simp only [entAt,hq] at h
  by_cases hs:s=q
  ·rw [if_pos hs] at h;cases h
  ·rw [if_neg hs] at h
   simp only [List.mem_cons] at he
   rcases he with rfl|he
   ·rw [hq];intro e;injection e with e;exact hs e.symm
   ·exact entAt_none (fun e' h'=>hk e' (by simp [h'])) h e he
theorem map_modify {α β:Type} (g:α→β) (f:α→α) (l:List α) (j:Nat) (h: ∀x,l[j]? =some x→g (f x)=g x):(l.modify j f).map g=l.map g:=by
 apply List.ext_getElem?
 intro i
 simp only [List.getElem?_map,List.getElem?_modify]
 by_cases e:j=i
 ·subst e
  simp only [if_true]
  cases hx:l[j]? with
  |none=>rfl
  |some x=>simp [h x hx]
 ·simp [e]
def setMap (w:World) (bm:Nat) (es:Array MapEntry) (clock:Nat):World:={w with heap:=w.heap.setIfInBounds bm (.map es clock)}
theorem mapUpdate_run (bm:Nat) (es:Array MapEntry) (clock:Nat) (s:ByteArray) (v:Value) (hk:KeysOk es.toList):
  ∃es' clock',(∀w:World,w.heap[bm]? =some (.map es clock)→(Instr.mapUpdate 98 (.map (some bm)) (.string s) v).run Qry.prog w= .ok () (setMap w bm es' clock'))∧KeysOk es'.toList∧(∀t,entAt es'.toList t=if t=s then some v else entAt es.toList t)∧∀Q,Q s→Stamp Q es.toList clock→Stamp Q es'.toList clock':=by
 have hu:Qry.prog.underlying 98=some (.map 9 106):=Qry.underlying98
 have hs:Qry.prog.underlying 9=some .string:=Qry.underlying9
 have hck: ∀w b,(Instr.checkKey b 10000 9 (.string s)).run Qry.prog w= .ok () w:=fun w b=>checkKey_string w b 9999 s
 cases he:entAt es.toList s with
 |none=>
  have hf:=findNow_none s es.toList 0 hk he
  refine ⟨es.push {key:= .string s,val:=v,born:=clock},clock+1,?_,?_,?_,?_⟩
  ·intro w hm
   simp [Instr.mapUpdate,run_underlying hu,run_underlying hs,getObj,setObj,Sem.run,hm,hck,Instr.findKey,hf,setMap]
  ·intro x hx
   simp at hx
   rcases hx with hx|rfl
   ·exact hk x (by simpa using hx)
   ·exact ⟨s,rfl⟩
  ·intro t
   rw [Array.toList_push,entAt_append t _ s rfl _ hk]
   by_cases h:t=s
   ·subst h;simp [he]
   ·simp [h]
  ·rintro Q hQ ⟨s1,s2,s3,s4⟩
   rw [Array.toList_push]
   refine ⟨?_,?_,fun e h=>?_,fun e h=>?_⟩
   ·rw [List.map_append,List.nodup_append]
    refine ⟨s1,by simp,fun a ha b hb=>?_⟩
    simp at hb
    subst hb
    obtain ⟨x,hx,rfl⟩:=List.mem_map.1 ha
    exact entAt_none hk he x hx
   ·rw [List.map_append,List.nodup_append]
    refine ⟨s2,by simp,fun a ha b hb=>?_⟩
    simp at hb
    subst hb
    obtain ⟨x,hx,rfl⟩:=List.mem_map.1 ha
    exact Nat.ne_of_lt (s3 x hx)
   ·simp only [List.mem_append,List.mem_singleton] at h
    rcases h with h|rfl
    ·have:=s3 e h;omega
    ·exact Nat.lt_succ_self _
   ·simp only [List.mem_append,List.mem_singleton] at h
    rcases h with h|rfl
    ·exact s4 e h
    ·exact ⟨s,rfl,hQ⟩
 |some u=>
  obtain ⟨j,hj,hf,hkey⟩:=findNow_some s u es.toList 0 hk he
  have hkj:(es[j]?).map (·.key)=some (.string s):=by simpa using hkey
  have hsb:Instr.sameBits 10000 (.string s) (.string s)=true:=by simp [Instr.sameBits,bytes_beq]
  refine ⟨es.modify j fun e=>{e with key:= .string s,val:=v},clock,?_,?_,?_,?_⟩
  ·intro w hm
   simp [Instr.mapUpdate,run_underlying hu,run_underlying hs,getObj,setObj,Sem.run,hm,hck,Instr.findKey,hf,hkj,Instr.keyThatStays,hsb,setMap]
  ·rw [Array.toList_modify]
   exact (entAt_modify s s u v _ (fun _=>rfl) (fun _=>rfl) es.toList 0 j hk hf).2
  ·intro t
   rw [Array.toList_modify]
   exact (entAt_modify s t u v _ (fun _=>rfl) (fun _=>rfl) es.toList 0 j hk hf).1
  ·rintro Q hQ ⟨s1,s2,s3,s4⟩
   rw [Array.toList_modify]
   have ek:(es.toList.modify j fun e=>{e with key:= .string s,val:=v}).map (·.key)=es.toList.map (·.key):=map_modify _ _ _ _ fun x hx=>by
    rw [hx] at hkey
    simp at hkey
    exact hkey.symm
   have eb:(es.toList.modify j fun e=>{e with key:= .string s,val:=v}).map (·.born)=es.toList.map (·.born):=map_modify _ _ _ _ fun x hx=>rfl
   refine ⟨by rw [ek];exact s1,by rw [eb];exact s2,fun e h=>?_,fun e h=>?_⟩
   ·have:e.born∈(es.toList.modify j fun e=>{e with key:= .string s,val:=v}).map (·.born):=List.mem_map.2 ⟨e,h,rfl⟩
    rw [eb] at this
    obtain ⟨x,hx,e1⟩:=List.mem_map.1 this
    rw [← e1];exact s3 x hx
   ·have:e.key∈(es.toList.modify j fun e=>{e with key:= .string s,val:=v}).map (·.key):=List.mem_map.2 ⟨e,h,rfl⟩
    rw [ek] at this
    obtain ⟨x,hx,e1⟩:=List.mem_map.1 this
    obtain ⟨k,hk1,hk2⟩:=s4 x hx
    exact ⟨k,by rw [← e1];exact hk1,hk2⟩
end Go.Proofs.YtldmcdeibiclkaaGreatDoorQ
end
section
namespace Go.Proofs.YtldmcdeibiclkaaGreatDoorQ
open Go.RowKit
abbrev Know:=ByteArray→Ctx×List Ver
def RepBlk (w:World) (b:Nat) (bm:Nat→Nat) (num:Nat):Prop:=
 ∃A:Array Value,w.heap[b]? =some (.cells A 101)∧A[0]? =some (.int .i64 num)∧∀n,n< 64→A[n+1]? =some (.map (some (bm n)))
def SegAt (w:World) (m n:Nat) (K:Know):Prop:=
 ∃es clock,w.heap[m]? =some (.map es clock)∧KeysOk es.toList∧(∀s,segN s=n→∃sv,(entAt es.toList s).getD zeroSt=stV (K s).1 sv∧VSl w sv (K s).2)∧Stamp (fun k=>segN k=n∧k.size≤281474976710656∧keyB k=true) es.toList clock
def RepAt (w:World) (b:Nat) (bm:Nat→Nat) (num:Nat) (K:Know):Prop:=
 RepBlk w b bm num∧(∀n,n< 64→SegAt w (bm n) n K)∧∀n m,n< 64→m< 64→bm n=bm m→n=m
def updK (K:Know) (s:ByteArray) (x:Ctx×List Ver):Know:=fun t=>if t=s then x else K t
theorem VSl.keep {w w':World} {sv:Value} {l:List Ver} (h:VSl w sv l) (hk: ∀g,g< w.heap.size→(∃cur,w.heap[g]? =some (.cells cur 144 (0,0)))→w'.heap[g]? =w.heap[g]?):VSl w' sv l:=by
 obtain ⟨h1,h2⟩:=h
 refine ⟨h1,?_⟩
 rcases h2 with h2|⟨g,cap,cur,hv,hg,hh,r⟩
 ·exact Or.inl h2
 ·exact Or.inr ⟨g,cap,cur,hv,hg,by rw [hk g (Array.getElem?_eq_some_iff.1 hh).1 ⟨cur,hh⟩];exact hh,r⟩
theorem RepBlk.lt {w:World} {b num:Nat} {bm:Nat→Nat} (h:RepBlk w b bm num):b< w.heap.size:=by
 obtain ⟨A,h1,_⟩:=h;exact (Array.getElem?_eq_some_iff.1 h1).1
theorem SegAt.lt {w:World} {m n:Nat} {K:Know} (h:SegAt w m n K):m< w.heap.size:=by
 obtain ⟨es,clock,h1,_⟩:=h;exact (Array.getElem?_eq_some_iff.1 h1).1
theorem RepBlk.num {w:World} {b num:Nat} {bm:Nat→Nat} (h:RepBlk w b bm num):w.cell? ⟨b,0,none⟩=some (.int .i64 num):=by
 obtain ⟨A,h1,h2,_⟩:=h;simp [World.cell?,h1,h2]
theorem RepBlk.seg {w:World} {b num:Nat} {bm:Nat→Nat} (h:RepBlk w b bm num) {n:Nat} (hn:n< 64):w.cell? ⟨b,n+1,none⟩=some (.map (some (bm n))):=by
 obtain ⟨A,h1,_,h2⟩:=h;simp [World.cell?,h1,h2 n hn]
theorem RepAt.keep {w w':World} {b num:Nat} {bm:Nat→Nat} {K:Know} (h:RepAt w b bm num K) (hb:w'.heap[b]? =w.heap[b]?) (hm: ∀n,n< 64→w'.heap[bm n]? =w.heap[bm n]?) (hk: ∀g,g< w.heap.size→(∃cur,w.heap[g]? =some (.cells cur 144 (0,0)))→w'.heap[g]? =w.heap[g]?):RepAt w' b bm num K:=by
 obtain ⟨⟨A,h1,h2⟩,h3,h4⟩:=h
 refine ⟨⟨A,by rw [hb];exact h1,h2⟩,fun n hn=>?_,h4⟩
 obtain ⟨es,clock,e1,e2,e3,e4⟩:=h3 n hn
 refine ⟨es,clock,by rw [hm n hn];exact e1,e2,fun s hs=>?_,e4⟩
 obtain ⟨sv,h5,h6⟩:=e3 s hs
 exact ⟨sv,h5,h6.keep hk⟩
theorem RepAt.below {w w':World} {b num:Nat} {bm:Nat→Nat} {K:Know} (h:RepAt w b bm num K) (hb:Below w.heap.size w w'):RepAt w' b bm num K:=
 h.keep (hb.block _ h.1.lt) (fun n hn=>hb.block _ (h.2.1 n hn).lt) fun g hg _=>hb.block g hg
set_option maxRecDepth 100000 in
set_option maxHeartbeats 1000000 in
theorem keep_err (b:Nat) (key:ByteArray) (c:Ctx) (sv:Value) (e:Int) (w:World) (he:(e==0)=false):
  Calls Qry.prog 42 #[.pointer (some ⟨b,0,none⟩),.string key,stV c sv,.int .i64 e] w fun r w'=>r= .returned (.int .i64 e)∧Below w.heap.size w w':=by
 go_enter Qry.func42,Qry.ntmps42
 go_wp2
 go_ret
 exact ⟨rfl,(Below.refl _ _).alloc (Nat.le_refl _) _⟩
theorem cell_keep {W w1:World} {p:Addr} {v:Value} (h:W.cell? p=some v) (hb:Below W.heap.size W w1):w1.cell? p=some v:=by
 rw [hb.cell (World.block_lt_of_cell? W p h)];exact h
theorem heap_keep {W w1:World} {k:Nat} {o:Obj} (h:W.heap[k]? =some o) (hb:Below W.heap.size W w1):w1.heap[k]? =some o:=by
 rw [hb.block k (Array.getElem?_eq_some_iff.1 h).1];exact h
theorem below_keep {w W w1:World} (h:Below w.heap.size w W) (hb:Below W.heap.size W w1):Below w.heap.size w w1:=h.trans (hb.mono h.size)
theorem setMap_same {w:World} {bm:Nat} {es:Array MapEntry} {clock:Nat} (h:bm< w.heap.size):(setMap w bm es clock).heap[bm]? =some (.map es clock):=by
 simp [setMap,h]
theorem setMap_other {w:World} {bm k:Nat} {es:Array MapEntry} {clock:Nat} (h:k≠bm):(setMap w bm es clock).heap[k]? =w.heap[k]? :=by
 simp only [setMap,Array.getElem?_setIfInBounds]
 rw [if_neg (Ne.symm h)]
theorem rep_set {w w1:World} {b num:Nat} {bm:Nat→Nat} {K:Know} {key:ByteArray} {c:Ctx} {sv:Value} {l:List Ver} {es es':Array MapEntry} {clock clock':Nat} (hB:Below w.heap.size w w1)
  (h:RepAt w b bm num K) (hm:w.heap[bm (segN key)]? =some (.map es clock)) (hk':KeysOk es'.toList)
  (he: ∀t,entAt es'.toList t=if t=key then some (stV c sv) else entAt es.toList t) (hst: ∀Q,Q key→Stamp Q es.toList clock→Stamp Q es'.toList clock') (hks:key.size≤281474976710656∧keyB key=true) (hv:VSl w sv l):
  RepAt (setMap w1 (bm (segN key)) es' clock') b bm num (updK K key (c,l))∧w.grownBy (setMap w1 (bm (segN key)) es' clock') (some (bm (segN key))):=by
 have hblt:=h.1.lt
 have hmlt:=(Array.getElem?_eq_some_iff.1 hm).1
 have hseg:=segN_lt key
 obtain ⟨⟨A,hA,hA2⟩,hS,hinj⟩:=h
 have hne:b≠bm (segN key):=fun e=>by rw [e,hm] at hA;cases hA
 have hvk: ∀sv l,VSl w sv l→VSl (setMap w1 (bm (segN key)) es' clock') sv l:=fun sv l h=>h.keep fun g hg ⟨cur,hc⟩=>by
  rw [setMap_other (fun e=>by rw [e,hm] at hc;cases hc),hB.block g hg]
 refine ⟨⟨⟨A,?_,hA2⟩,fun n hn=>?_,hinj⟩,?_⟩
 ·rw [setMap_other hne,hB.block b hblt];exact hA
 ·by_cases hns:n=segN key
  ·subst hns
   obtain ⟨es0,clock0,e1,e2,e3,e4⟩:=hS _ hseg
   rw [hm] at e1
   cases e1
   refine ⟨es',clock',setMap_same (Nat.lt_of_lt_of_le hmlt hB.size),hk',fun s hs=>?_,hst _ ⟨rfl,hks⟩ e4⟩
   rw [he]
   by_cases h:s=key
   ·rw [if_pos h]
    exact ⟨sv,by simp [updK,h],by simpa [updK,h] using hvk _ _ hv⟩
   ·rw [if_neg h]
    obtain ⟨sv',h1,h2⟩:=e3 s hs
    exact ⟨sv',by simpa [updK,h] using h1,by simpa [updK,h] using hvk _ _ h2⟩
  ·have hl:=(hS n hn).lt
   obtain ⟨es0,clock0,e1,e2,e3,e4⟩:=hS n hn
   refine ⟨es0,clock0,?_,e2,fun s hs=>?_,e4⟩
   ·rw [setMap_other (fun e=>hns (hinj _ _ hn hseg e)),hB.block _ hl];exact e1
   ·have hsk:s≠key:=fun e=>hns (by rw [← hs,e])
    obtain ⟨sv',h1,h2⟩:=e3 s hs
    exact ⟨sv',by simpa [updK,hsk] using h1,by simpa [updK,hsk] using hvk _ _ h2⟩
 ·refine ⟨hB.os,hB.tape,hB.output,by simpa [setMap] using hB.size,fun k hk hn=>?_⟩
  rw [setMap_other (fun e=>hn (by rw [e])),hB.block k hk]
theorem undrew {W w0 w1:World} (hb:Below W.heap.size W w1) (e1:W.heap=w0.heap) (e2:W.os=w0.os) (e3:W.tape=w0.tape) (e4:W.output=w0.output):Below w0.heap.size w0 w1:=
 ⟨hb.os.trans e2,hb.tape.trans e3,hb.output.trans e4,by rw [← e1];exact hb.size,fun k hk=>by rw [← e1];exact hb.block k (by rw [e1];exact hk)⟩
set_option maxRecDepth 100000 in
set_option maxHeartbeats 400000 in
theorem segOf_any (b num:Nat) (bm:Nat→Nat) (key:ByteArray) (w:World) (hs:key.size≤maxLen) (h:RepBlk w b bm num):
  Calls Qry.prog 39 #[.pointer (some ⟨b,0,none⟩),.string key] w fun e w'=>e= .returned (.map (some (bm (segN key))))∧∃q,w'=w.drewN q:=by
 have HS:Hid _:=fun W=>segmentOf_any key W hs
 have hl:=segN_lt key
 have hc:=h.seg hl
 generalize segN key=n at*
 have hl':(n:Int)< 64:=by omega
 have hl0:(0:Int)≤(n:Int):=by omega
 have hc':w.cell? ⟨b,1+n,none⟩=some (.map (some (bm n))):=by rw [Nat.add_comm];exact hc
 clear h
 go_enter Qry.func39,Qry.ntmps39
 go_wp2
 go_quiet ((go_at_call 62;refine Calls.mono (HS.out _) ?_;rintro e w' ⟨rfl,rfl⟩;exact ⟨rfl,_,rfl⟩))
 go_wp2
 go_ret
 exact ⟨rfl,_,rfl⟩
set_option maxRecDepth 100000 in
set_option maxHeartbeats 1000000 in
theorem keep_ok (b num:Nat) (bm:Nat→Nat) (K:Know) (key:ByteArray) (c:Ctx) (sv:Value) (l:List Ver) (w:World) (hs:key.size≤281474976710656∧keyB key=true) (h:RepAt w b bm num K) (hv:VSl w sv l):
  Calls Qry.prog 42 #[.pointer (some ⟨b,0,none⟩),.string key,stV c sv,.int .i64 0] w fun r w'=>r= .returned (.int .i64 0)∧RepAt w' b bm num (updK K key (c,l))∧w.grownBy w' (some (bm (segN key))):=by
 have hs1:=hs.1
 obtain ⟨es,clock,hm,hk,_⟩:=h.2.1 _ (segN_lt key)
 obtain ⟨es',clock',hrun,hk',hent,hstp⟩:=mapUpdate_run (bm (segN key)) es clock key (stV c sv) hk
 have HF:Hid (∀w1,Below w.heap.size w w1→RepAt (setMap w1 (bm (segN key)) es' clock') b bm num (updK K key (c,l))∧w.grownBy (setMap w1 (bm (segN key)) es' clock') (some (bm (segN key)))):=fun w1 hB=>rep_set hB h hm hk' hent hstp hs hv
 have HSeg:Hid (∀w1,Below w.heap.size w w1→Calls Qry.prog 39 #[.pointer (some ⟨b,0,none⟩),.string key] w1 fun e w'=>e= .returned (.map (some (bm (segN key))))∧∃q,w'=w1.drewN q):=fun w1 hB=>segOf_any b num bm key w1 (by unfold maxLen;omega) (h.below hB).1
 have HM:Hid (∀w1,Below w.heap.size w w1→w1.heap[bm (segN key)]? =some (.map es clock)):=fun w1 hB=>heap_keep hm hB
 have HC:Hid (∀w1,Below (w.alloc (.cells #[.int .i64 (c 0),.int .i64 (c 1),.int .i64 (c 2),.int .i64 (c 3),sv] 106)).heap.size (w.alloc (.cells #[.int .i64 (c 0),.int .i64 (c 1),.int .i64 (c 2),.int .i64 (c 3),sv] 106)) w1→∀o,w1.cell? ⟨w.heap.size,o,none⟩=#[Value.int .i64 (c 0),.int .i64 (c 1),.int .i64 (c 2),.int .i64 (c 3),sv][o]?):=fun w1 hB o=>by
  have:=heap_keep (heap_alloc_new w _) hB
  simp [World.cell?,this]
 have HA:Hid (∀w1,Below (w.alloc (.cells #[.int .i64 (c 0),.int .i64 (c 1),.int .i64 (c 2),.int .i64 (c 3),sv] 106)).heap.size (w.alloc (.cells #[.int .i64 (c 0),.int .i64 (c 1),.int .i64 (c 2),.int .i64 (c 3),sv] 106)) w1→Below w.heap.size w w1):=fun w1 hB=>below_keep ((Below.refl _ _).alloc (Nat.le_refl _) _) hB
 clear hent hv hk hk' h hm hstp
 generalize bm (segN key)=bms at*
 go_enter Qry.func42,Qry.ntmps42
 go_wp2
 go_region_with (first
  |(go_at_call 41;refine (clone_any key _ hs1).mono ?_;rintro e w1 ⟨rfl,hb1⟩;have hB0:=undrew (w0:=w.alloc (.cells #[.int .i64 (c 0),.int .i64 (c 1),.int .i64 (c 2),.int .i64 (c 3),sv] 106)) hb1 rfl rfl rfl rfl;have HB:Hid _:=HA.out _ hB0;have k1:=HC.out _ hB0;have k3:=HM.out _ HB.out;have hrun1:=hrun w1 k3;have hrun2:=fun q=>hrun (w1.drewN q) k3;clear hB0 hb1)
  |(go_at_call 39;refine Calls.mono (HSeg.out _ (by first|exact HB.out|exact ((Below.refl w.heap.size w).alloc (Nat.le_refl _) _).drew)) ?_;rintro e w2 ⟨rfl,q,rfl⟩))
 all_goals
  go_wp2
  go_ret
  exact ⟨rfl,HF.out _ (by first|exact HB.out|exact ⟨HB.out.os,HB.out.tape,HB.out.output,HB.out.size,HB.out.block⟩)⟩
end Go.Proofs.YtldmcdeibiclkaaGreatDoorQ
end
section
namespace Go.Proofs
open Go.RowKit Go.Maps Go.Sort Go.Shelf
namespace YtldmcdeibiclkaaGreatDoorQ
open Go.WideElems (Fit rd rg rd_mk)
theorem sortsS (m:Nat):AnyZ.SortsIn Qry.prog Qry.sortedS_ren Fence.wide m:=
 ⟨fun blk off cap ss W hH hblk hsz=>callsIn_wide.2 (AnyM.slices_Sort_string Qry.sortS blk off cap ss W hH hblk hsz),
  fun p cap W=>callsIn_wide.2 (AnyM.slices_Sort_string_none Qry.sortS p cap W)⟩
theorem keys_call (mb:Option Nat) (W:World):Calls Qry.prog 72 #[.map mb] W fun e w'=>e= .returned (.func (.func 97) #[] #[.pointer (some ⟨W.heap.size,0,none⟩)])∧w'=W.alloc (.cells #[.map mb] 98):=
 callsIn_wide.1 (AnyZ.keys_in Qry.keysS Fence.wide 5 trivial rfl mb W)
set_option maxHeartbeats 1000000 in
theorem sorted_call (b nn:Nat) (D0:DataW Unit) (R:Value→Option (DataW Unit×List MemPlace)) (w:World) (hown:w.ownsMap Qry.prog 9 R b nn D0) (hmax:Maps.size D0≤maxLen) (hbytes:Maps.size D0*16≤140737488355328):
  Calls Qry.prog 71 #[.func (.func 97) #[] #[.pointer (some ⟨w.heap.size,0,none⟩)]] (w.alloc (.cells #[.map (some b)] 98)) fun e w'=>∃(v:Value) (ss:List (List UInt8)),e= .returned v∧ss.Perm (strKeys D0)∧
   w'.ownsRow (w.heap.size+1) 9 1 v ss.length ((ss.mergeSort (fun x y=>decide (x≤y))).map encStr)∧Below (w.alloc (.cells #[.map (some b)] 98)).heap.size (w.alloc (.cells #[.map (some b)] 98)) w':=by
 have hbl:=hown.lt
 have hseq:SeqGives Fence.wide 2 Qry.prog 97 #[.pointer (some ⟨w.heap.size,0,none⟩)] encStr (fun ss=>ss.Perm (strKeys D0)) (Maps.size D0) (w.alloc (.cells #[.map (some b)] 98)):=
  AnyZ.keys_gives (ρ:=Qry.keysS_ren) {Qry.keysS with} Fence.wide _ trivial rfl (by omega) w.heap.size b nn D0 _ (by simp) (by simp) (by
   obtain ⟨es,clock,hb,Ft,hs,hD⟩:=hown
   exact ⟨es,clock,(Below.heap_alloc _ _ b hbl).trans hb,Ft,hs,hD⟩)
 have h:=AnyZ.sorted_in Qry.sortedS Fence.wide 5 trivial trivial trivial trivial rfl (by omega) (sortsS _) (enters_of Qry.func96 (by kernel_rfl) rfl) 97 #[.pointer (some ⟨w.heap.size,0,none⟩)] trivial (enters_of Qry.func97 (by kernel_rfl) rfl) _ _ hmax hbytes _ hseq
 refine (callsIn_wide.1 h).mono ?_
 rintro e w' ⟨v,ss,h1,h2,h3,_,h5⟩
 rw [show (w.alloc (.cells #[.map (some b)] 98)).heap.size=w.heap.size+1 by simp] at h3
 exact ⟨v,ss,h1,h2,h3,h5⟩
def keyL (e:MapEntry):List UInt8:=match e.key with
 | .string k=>k.data.toList
 |_=>[]
def namesOf (es:List MapEntry):List (List UInt8):=es.map keyL
def anyR:Value→Option (DataW Unit×List MemPlace):=fun _=>some (.nil,[])
theorem rg_key {e:MapEntry} {k:ByteArray} (he:e.key= .string k) (hk:k.size≤maxLen):rd Qry.prog 9 anyR e=some (.string k.data.toList,.nil):=by
 obtain ⟨key,val,born⟩:=e
 subst he
 exact rd_mk (R:=anyR) (yv:=(.nil,[])) (Go.WideMaps.keyOf_string_mk Qry.underlying9 hk) rfl
theorem owns_seg {w:World} {m:Nat} {es:Array MapEntry} {clock:Nat} {Q:ByteArray→Prop} (hm:w.heap[m]? =some (.map es clock)) (hst:Stamp Q es.toList clock) (hQ: ∀k,Q k→k.size≤maxLen) (hsz:es.size≤maxLen):
  ∃D0:DataW Unit,w.ownsMap Qry.prog 9 anyR m es.size D0∧Maps.size D0=es.size∧(strKeys D0).Perm (namesOf es.toList):=by
 obtain ⟨h1,h2,h3,h4⟩:=hst
 have hrd: ∀x∈es.toList,∃k,x.key= .string k∧rd Qry.prog 9 anyR x=some (.string k.data.toList,.nil):=fun x hx=>by
  obtain ⟨k,hk,hq⟩:=h4 x hx
  exact ⟨k,hk,rg_key hk (hQ k hq)⟩
 refine ⟨_,⟨es,clock,hm,⟨hsz,⟨h3,h2,h1⟩,fun x hx=>(hrd x hx).elim fun k hk=>⟨_,hk.2⟩⟩,Nat.le_refl _,rfl⟩,?_,?_⟩
 ·show List.length _=_
  rw [(Go.WideShapes.sorted_perm _).length_eq]
  simp
 ·show (List.map _ _).Perm _
  refine ((Go.WideShapes.sorted_perm _).map _).trans (List.Perm.of_eq ?_)
  rw [List.map_map,namesOf]
  apply List.map_congr_left
  intro x hx
  obtain ⟨k,hk,hr⟩:=hrd x hx
  simp [rg,hr,strOf,keyL,hk]
end YtldmcdeibiclkaaGreatDoorQ
end Go.Proofs
end
