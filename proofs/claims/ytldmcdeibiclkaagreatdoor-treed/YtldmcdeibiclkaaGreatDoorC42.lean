/-
  Toward: treed_holds, each node's digest is that of its children's, for every argument of Treed. Contract: slices.SortFunc over a row of versions, by their dots.
  Contract: slices.SortFunc on a row of versions that a call owns: the row then holds a permutation, sorted by dots; nothing else that was there turns.
  Contract: State.Put: the versions that were not seen, and the new one, sorted, in new memory.
  Contract: Delete of a key by a sound context.
  A frame: all blocks that were there, but those that are named, are as they were.
-/
import Derived.Test.YtldmcdeibiclkaaGreatDoorC37
import Derived.Test.YtldmcdeibiclkaaGreatDoorC35
import Derived.Test.YtldmcdeibiclkaaGreatDoorC39
set_option linter.unusedVariables false
set_option linter.unusedSimpArgs false
set_option maxRecDepth 4000
section
namespace Go.Proofs
open Go.Shelf Go.RowKit Go.Lib Go.Sort
namespace YtldmcdeibiclkaaGreatDoorQ
theorem cmpI_lt (x y:Int):cmpI x y< 0↔x< y:=by
 unfold cmpI;split<;> (try split)<;> omega
theorem cmpI_eq (x y:Int):cmpI x y=0↔x=y:=by
 unfold cmpI;split<;> (try split)<;> omega
def ltV (a b:Ver):Bool:=decide (a.rep< b.rep∨a.rep=b.rep∧a.n< b.n)
theorem ltOf_cmpV:ltOf cmpV=ltV:=by
 funext a b
 unfold ltOf cmpV ltV orI
 rw [decide_eq_decide]
 by_cases h:cmpI a.rep b.rep=0
 ·rw [if_pos h,cmpI_lt];have:=(cmpI_eq _ _).1 h;omega
 ·rw [if_neg h,cmpI_lt];have: ¬ (a.rep:Int)=b.rep:=fun e=>h ((cmpI_eq _ _).2 e);omega
theorem swoV:SWO (ltOf cmpV):=by
 rw [ltOf_cmpV]
 exact {irrefl:=fun x=>by simp [ltV],trans:=fun x y z h1 h2=>by simp [ltV] at*;omega,ntrans:=fun x y z h1 h2=>by simp [ltV] at*;omega}
theorem cmpLaysV (blk off size:Nat) (w:World):CmpLays Qry.prog 66 #[] encV 3 cmpV blk off size w:=
 fun _ _ _ _ (x y:Ver)=>byDot_any x.rep x.n y.rep y.n x.val y.val _
theorem sortV_any (blk off cap:Nat) (d:Array Ver) (w:World) (hH:HoldsK encV 3 w blk off d) (hblk:blk< w.heap.size) (hsz:d.size< 4611686018427387904):
  Calls Qry.prog 65 #[.slice (some ⟨blk,off,none⟩) d.size cap,.func (.func 66) #[] #[]] w fun e w'=>e= .returned (.tuple #[])∧∃d' n os,PermIn 0 d.size d d'∧SortedIn ltV 0 d.size d'∧w'=sortWorldK encV 3 w blk off n d' os:=by
 have eg: ∀args w,(callFunc 66 args).run Qry.prog w= .ok (.enter 66 args) w:=enters_of Qry.func66 (by kernel_rfl) rfl
 have hcon:=AnyQ.slices_SortFunc Qry.sortV 3 Qry.isAgg144 Qry.sizeOf144 encV (fun _=>rfl) (fun x v hv=>by simp [encV] at hv;rcases hv with rfl|rfl|rfl<;> rfl) cmpV swoV 66 #[] blk off cap d w eg (cmpLaysV blk off d.size w) hH hblk hsz
 rw [ltOf_cmpV] at hcon
 exact hcon
end YtldmcdeibiclkaaGreatDoorQ
end Go.Proofs
end
section
namespace Go.Proofs.YtldmcdeibiclkaaGreatDoorQ
open Go.Shelf Go.RowKit Go.Lib Go.Sort
theorem flat_eq (l:List Ver):(flatK encV 3 l.toArray).toList=flatV l:=by
 apply List.ext_getElem?
 intro t
 by_cases ht:t< l.length*3
 ·have hk:t / 3< l.length:=by omega
  obtain ⟨a,b,c⟩:=flatV_get l (t / 3) hk
  have e:(flatK encV 3 l.toArray).toList[t]? =some ((encV l[t / 3])[t % 3]!):=by
   have h1:=get_flatK encV 3 l.toArray t (by simpa using ht)
   rw [getElem!_pos _ t (by simpa using ht)] at h1
   rw [Array.getElem?_toList,Array.getElem?_eq_getElem (by simpa using ht),h1]
   congr 2
   simp [hk]
  rw [e]
  have h3:t % 3=0∨t % 3=1∨t % 3=2:=by omega
  rcases h3 with h3|h3|h3
  ·rw [h3];rw [show (flatV l)[t]? =(flatV l)[t / 3*3]? by congr 1;omega,a];rfl
  ·rw [h3];rw [show (flatV l)[t]? =(flatV l)[t / 3*3+1]? by congr 1;omega,b];rfl
  ·rw [h3];rw [show (flatV l)[t]? =(flatV l)[t / 3*3+2]? by congr 1;omega,c];rfl
 ·rw [List.getElem?_eq_none (by simp;omega),List.getElem?_eq_none (by rw [flatV_length];omega)]
theorem holds_of_owns {w:World} {g:Nat} {l:List Ver} {cur:Array Value} (hh:w.heap[g]? =some (.cells cur 144 (0,0))) (ht:cur.toList.take (l.length*3)=flatV l):HoldsK encV 3 w g 0 l.toArray:=by
 intro j hj
 have hj':j< l.length*3:=by simpa using hj
 refine ⟨?_,by simp [World.frozen?,hh]⟩
 simp only [World.cell?,hh,Nat.zero_add,id]
 rw [getElem!_pos _ j hj]
 have e1:(flatK encV 3 l.toArray).toList[j]? =some (flatK encV 3 l.toArray)[j]:=by rw [Array.getElem?_toList,Array.getElem?_eq_getElem hj]
 rw [flat_eq,← ht,List.getElem?_take,if_pos hj'] at e1
 simpa using e1
theorem sortV_own (B:Nat) (v:Value) (l:List Ver) (w:World) (h:w.ownsRow B 144 3 v l.length (flatV l)) (hn:0< l.length) (hsz:l.length< 1000000):
  Calls Qry.prog 65 #[v,.func (.func 66) #[] #[]] w fun e w'=>e= .returned (.tuple #[])∧∃l':List Ver,l'.Perm l∧l'.Pairwise (fun a b=>ltV b a=false)∧w'.ownsRow B 144 3 v l'.length (flatV l')∧w.grownBy w' v.ownBlock:=by
 obtain ⟨h1,h2⟩:=h
 rcases h2 with ⟨_,h2⟩|⟨g,cap,cur,rfl,hg,hh,hnc,hc,hs,ht⟩
 ·omega
 have hglt:g< w.heap.size:=(Array.getElem?_eq_some_iff.1 hh).1
 have hH:HoldsK encV 3 w g 0 l.toArray:=holds_of_owns hh ht
 refine (sortV_any g 0 cap l.toArray w hH hglt (by simp;omega)).mono ?_
 rintro e w' ⟨rfl,d',n,os,hp,hso,rfl⟩
 refine ⟨rfl,d'.toList,?_,?_,?_,?_⟩
 ·have:=hp.2.2
  have e:=hp.1
  simp only [List.size_toArray] at e this
  rw [Array.extract_eq_self_of_le (by omega),Array.extract_eq_self_of_le (by simp)] at this
  simpa using this
 ·rw [List.pairwise_iff_getElem]
  intro i j hi hj hij
  have:=hso i j (by omega) hij (by have:=hp.1;simp at this hj ⊢;omega)
  rw [getElem!_pos d' j (by simpa using hj),getElem!_pos d' i (by simpa using hi)] at this
  simpa using this
 ·have hsz':d'.size=l.length:=by simpa using hp.1
  have hb:(sortWorldK encV 3 w g 0 n d' os).heap[g]? =some (.cells (putCells id 0 (flatK encV 3 d') cur) 144 (0,0)):=by
   unfold sortWorldK
   rw [heap_grow_old _ _ (by simpa [putRowK,putRow,mapBlock,Sort.ahead] using hglt)]
   simp [putRowK,putRow,mapBlock,Sort.ahead,Array.getElem?_modify,hh,onCells]
  refine ⟨by rw [flatV_length],Or.inr ⟨g,cap,_,by simp [hsz'],hg,hb,by simp [hsz'];exact hnc,hc,by simp [putCells,hs],?_⟩⟩
  have hf:flatV d'.toList=(flatK encV 3 d').toList:=by rw [← flat_eq]
  rw [hf]
  apply List.ext_getElem?
  intro t
  by_cases htl:t< l.length*3
  ·rw [List.getElem?_take,if_pos (by simp [hsz'];exact htl),Array.getElem?_toList,Array.getElem?_toList]
   have hF:t< (flatK encV 3 d').size:=by simp [hsz'];exact htl
   have hC:t< cur.size:=by rw [hs];have:=Nat.mul_le_mul_right 3 hnc;omega
   simp only [putCells,Array.getElem?_mapIdx,Array.getElem?_eq_getElem hC,Option.map_some,Array.getElem?_eq_getElem hF]
   rw [if_pos ⟨by omega,by omega⟩]
   simp only [id,Nat.sub_zero]
   rw [getElem!_pos _ t hF]
  ·rw [List.getElem?_eq_none (by simp [hsz'];omega),List.getElem?_eq_none (by simp [hsz'];omega)]
 ·refine ⟨rfl,rfl,rfl,by simp [sortWorldK,putRowK,putRow,mapBlock,Sort.ahead],fun k hk hne=>?_⟩
  unfold sortWorldK
  rw [heap_grow_old _ _ (by simp [putRowK,putRow,mapBlock,Sort.ahead];omega)]
  simp only [putRowK,putRow,mapBlock,Sort.ahead,Array.getElem?_modify]
  rw [if_neg (fun e=>hne (by subst e;rfl))]
end Go.Proofs.YtldmcdeibiclkaaGreatDoorQ
end
section
namespace Go.Proofs.YtldmcdeibiclkaaGreatDoorQ
open Go.RowKit
def bump (c:Ctx) (r:Nat):Ctx:=fun i=>if i=r then c i+1 else c i
set_option maxRecDepth 100000 in
set_option maxHeartbeats 2000000 in
theorem stPut_limit (c:Ctx) (sv:Value) (l:List Ver) (rep:Nat) (val:ByteArray) (seen:Ctx) (w:World) (h:VSl w sv l) (hr: ∀v∈l,v.rep< 4) (hlen:l.length≤100000) (hrep:rep< 4)
  (hn:20≤(unseenL l seen).length∨(unseenL l seen).length< 20∧1000000≤bothC c seen rep):
  Calls Qry.prog 40 #[stV c sv,.int .i64 rep,.string val,ctxV seen] w fun e w'=>e= .returned (.tuple #[stV (fun _=>0) (.slice none 0 0),.int .i64 6])∧Below w.heap.size w w':=by
 obtain ⟨ad,cap,rfl,hcap⟩:=h.len
 have H3:Hid (∀a b d,VSl (((w.alloc a).alloc b).alloc d) (.slice ad l.length cap) l):=fun a b d=>((World.ownsRow.alloc h a).alloc b).alloc d
 have HR:Hid _:=hr
 clear h hr
 generalize hun:unseenL l seen=U at*
 have HU:Hid _:=hun
 clear hun
 rcases hn with hn|⟨hn,hm⟩
 ·rcases lt4 hrep with rfl|rfl|rfl|rfl
  all_goals
   go_enter Qry.func40,Qry.ntmps40
   go_wp2_with (first
    |(go_at_call 63;refine (unseenBy_any c _ l seen _ (H3.out _ _ _) HR.out hlen).mono ?_;rintro e w1 ⟨v',rfl,hown,hb⟩;rw [HU.out] at hown;obtain ⟨ad',cap',hv'⟩:=ownsRow_len hown;subst hv';simp at hb;obtain ⟨b0,b1,b2,f0,f1,f2⟩:=box3 hb;have HO:Hid _:=hown;have HB:Hid _:=hb;clear hown hb)
    |(go_at_call 64;refine (greater_any c seen _).mono ?_;rintro e w2 ⟨rfl,hb2⟩;have hb3:=HB.out.trans (hb2.mono (by have:=HB.out.size;simp at this;omega));obtain ⟨b0,b1,b2,f0,f1,f2⟩:=box3 hb3;have HB3:Hid _:=hb3;have HB2:Hid _:=hb2;have z2:w.heap.size+1+1< w2.heap.size:=(by have:=hb3.size;simp at this;omega);clear hb3 hb2))
   refine bodyPost_ret (v:= .tuple #[stV (fun _=>0) (.slice none 0 0),.int .i64 6]) ?_ rfl ⟨rfl,?_⟩
   ·simp [results,Qry.results40,go_sem,b2,z2]
   ·have base:Below w.heap.size w w2:=((((Below.refl _ _).alloc (Nat.le_refl _) _).alloc (by simp) _).alloc (by simp;omega) _).trans (HB3.out.mono (by omega))
    repeat' (with_reducible (first|exact base|refine Below.setCell ?_ ?_ _|refine Below.alloc ?_ ?_ _))
    all_goals (first|omega|(simp;omega))
 ·rcases lt4 hrep with rfl|rfl|rfl|rfl
  all_goals
   go_enter Qry.func40,Qry.ntmps40
   go_wp2_with (first
    |(go_at_call 63;refine (unseenBy_any c _ l seen _ (H3.out _ _ _) HR.out hlen).mono ?_;rintro e w1 ⟨v',rfl,hown,hb⟩;rw [HU.out] at hown;obtain ⟨ad',cap',hv'⟩:=ownsRow_len hown;subst hv';simp at hb;obtain ⟨b0,b1,b2,f0,f1,f2⟩:=box3 hb;have HO:Hid _:=hown;have HB:Hid _:=hb;clear hown hb)
    |(go_at_call 64;refine (greater_any c seen _).mono ?_;rintro e w2 ⟨rfl,hb2⟩;have hb3:=HB.out.trans (hb2.mono (by have:=HB.out.size;simp at this;omega));obtain ⟨b0,b1,b2,f0,f1,f2⟩:=box3 hb3;have HB3:Hid _:=hb3;have HB2:Hid _:=hb2;have z2:w.heap.size+1+1< w2.heap.size:=(by have:=hb3.size;simp at this;omega);clear hb3 hb2))
   refine bodyPost_ret (v:= .tuple #[stV (fun _=>0) (.slice none 0 0),.int .i64 6]) ?_ rfl ⟨rfl,?_⟩
   ·simp [results,Qry.results40,go_sem,b2,z2]
   ·have base:Below w.heap.size w w2:=((((Below.refl _ _).alloc (Nat.le_refl _) _).alloc (by simp) _).alloc (by simp;omega) _).trans (HB3.out.mono (by omega))
    repeat' (with_reducible (first|exact base|refine Below.setCell ?_ ?_ _|refine Below.alloc ?_ ?_ _))
    all_goals (first|omega|(simp;omega))
end Go.Proofs.YtldmcdeibiclkaaGreatDoorQ
end
section
namespace Go.Proofs.YtldmcdeibiclkaaGreatDoorQ
open Go.RowKit
theorem oldReads {W w1:World} (hb:Below W.heap.size W w1):(∀b o,b< W.heap.size→w1.cell? ⟨b,o,none⟩=W.cell? ⟨b,o,none⟩)∧(∀b o,b< W.heap.size→w1.frozen? ⟨b,o,none⟩=W.frozen? ⟨b,o,none⟩):=
 ⟨fun b o h=>hb.cell (p:=⟨b,o,none⟩) h,fun b o h=>hb.frozen (p:=⟨b,o,none⟩) h⟩
theorem segOf_below (b num:Nat) (bm:Nat→Nat) (key:ByteArray) (w:World) (hs:key.size≤maxLen) (h:RepBlk w b bm num):
  Calls Qry.prog 39 #[.pointer (some ⟨b,0,none⟩),.string key] w fun e w'=>e= .returned (.map (some (bm (segN key))))∧Below w.heap.size w w'∧w'.heap.size=w.heap.size:=by
 refine (segOf_any b num bm key w hs h).mono ?_
 rintro e w' ⟨rfl,q,rfl⟩
 exact ⟨rfl,below_drewN (Below.refl _ _) q,rfl⟩
theorem VSl.below {w W:World} {sv:Value} {l:List Ver} (h:VSl w sv l) (hb:Below w.heap.size w W):VSl W sv l:=h.keep fun g hg _=>hb.block g hg
theorem cells_of0 {w:World} {b:Nat} {A:Array Value} {t:TypeId} (h:w.heap[b]? =some (.cells A t)):(∀o,w.cell? ⟨b,o,none⟩=A[o]?)∧(∀o,w.frozen? ⟨b,o,none⟩=false):=
 ⟨fun o=>by simp [World.cell?,h],fun o=>by simp [World.frozen?,h]⟩
theorem afterAny {w W w3:World} (hb:Below W.heap.size W w3) (h:Below w.heap.size w W):Below w.heap.size w w3:=below_keep h hb
theorem afterSound {w w2:World} {A B:Array Value} {ta tb:TypeId} (hb2:Below ((w.alloc (.cells A ta)).alloc (.cells B tb)).heap.size ((w.alloc (.cells A ta)).alloc (.cells B tb)) w2):
  (∀o,w2.cell? ⟨w.heap.size+1,o,none⟩=B[o]?)∧Below w.heap.size w w2∧w.heap.size+1< w2.heap.size:=by
 have hsz:((w.alloc (.cells A ta)).alloc (.cells B tb)).heap.size=w.heap.size+2:=by simp
 rw [hsz] at hb2
 have e1:w2.heap[w.heap.size+1]? =some (.cells B tb):=by
  rw [hb2.block _ (by omega)]
  simpa using heap_alloc_new (w.alloc (.cells A ta)) (.cells B tb)
 exact ⟨fun o=>by simp [World.cell?,e1],(((Below.refl _ _).alloc (Nat.le_refl _) _).alloc (by simp) _).trans (hb2.mono (by omega)),(Array.getElem?_eq_some_iff.1 e1).1⟩
set_option maxRecDepth 100000 in
set_option maxHeartbeats 400000 in
theorem delete_none (b num:Nat) (bm:Nat→Nat) (K:Know) (key:ByteArray) (seen:Ctx) (w:World) (h:RepAt w b bm num K) (hK:KOk K) (hkey:keyB key=true) (hks:key.size≤8) (hseen:soundB seen=true)
  (hn:(unseenL (K key).2 seen).length=(K key).2.length):
  Calls Qry.prog 23 #[.pointer (some ⟨b,0,none⟩),.string key,ctxV seen] w fun e w'=>e= .returned (.int .i64 5)∧Below w.heap.size w w':=by
 have hb:=h.1
 obtain ⟨es,clock,hm,hk,hall,_⟩:=h.2.1 _ (segN_lt key)
 obtain ⟨sv,hent,hvs⟩:=hall key rfl
 obtain ⟨ad,cap,rfl,hcap⟩:=hvs.len
 have hlk: ∀W:World,W.heap[bm (segN key)]? =some (.map es clock)→(Instr.lookup 98 (.map (some (bm (segN key)))) (.string key) false).run Qry.prog W= .ok (stV (K key).1 (.slice ad (K key).2.length cap)) W:=fun W hW=>by
  rw [lookup_run W _ es clock key hW hk,hent]
 have HSeg:Hid (∀W,RepBlk W b bm num→Calls Qry.prog 39 #[.pointer (some ⟨b,0,none⟩),.string key] W fun e w'=>e= .returned (.map (some (bm (segN key))))∧Below W.heap.size W w'∧w'.heap.size=W.heap.size):=fun W hW=>segOf_below b num bm key W (by unfold maxLen;omega) hW
 have HBlk:Hid (∀W,Below w.heap.size w W→RepBlk W b bm num):=fun W hW=>(h.below hW).1
 have HL:Hid ((K key).2.length≤100000):=Nat.le_trans (hK key).2.1 (by decide)
 have HR:Hid (∀v∈(K key).2,v.rep< 4):=(hK key).1
 generalize (K key).1=c at*
 generalize (K key).2=l at*
 have HV:Hid _:=hvs
 have HN:Hid _:=hn
 have HCK:Hid _:=isKey_any key
 have HSO:Hid _:=sound_any seen
 clear hvs hall hent hK hn h
 generalize hbms:bm (segN key)=bms at*
 have HBMS:Hid _:=hbms
 clear hbms
 go_enter Qry.func23,Qry.ntmps23
 go_wp2_with (first
  |(go_at_call 36;refine (HCK.out _ (by unfold maxLen;omega)).mono ?_;rw [hkey];rintro e w1 ⟨rfl,rfl⟩)
  |(go_at_call 38;refine (HSO.out _).mono ?_;rw [hseen];rintro e w2 ⟨rfl,hb2⟩;obtain ⟨c2,hB2,hz2⟩:=afterSound hb2;clear hb2))
 have hmk:Hid (∀w',Below w2.heap.size w2 w'→RepBlk w' b bm num∧(Instr.lookup 98 (.map (some bms)) (.string key) false).run Qry.prog w'= .ok (stV c (.slice ad l.length cap)) w'∧VSl w' (.slice ad l.length cap) l∧w'.cell? ⟨w.heap.size+1,0,none⟩=some (.int .i64 (seen 0))∧w'.cell? ⟨w.heap.size+1,1,none⟩=some (.int .i64 (seen 1))∧w'.cell? ⟨w.heap.size+1,2,none⟩=some (.int .i64 (seen 2))∧w'.cell? ⟨w.heap.size+1,3,none⟩=some (.int .i64 (seen 3))):=fun w' hw=>
  ⟨HBlk.out _ (below_keep hB2 hw),hlk w' (heap_keep (heap_keep hm hB2) hw),(VSl.below HV.out hB2).below hw,cell_keep (c2 0) hw,cell_keep (c2 1) hw,cell_keep (c2 2) hw,cell_keep (c2 3) hw⟩
 have HB2:Hid _:=hB2
 clear hB2 c2 hlk
 go_region_held3 (fun w'=>RepBlk w' b bm num∧(Instr.lookup 98 (.map (some bms)) (.string key) false).run Qry.prog w'= .ok (stV c (.slice ad l.length cap)) w'∧VSl w' (.slice ad l.length cap) l∧w'.cell? ⟨w.heap.size+1,0,none⟩=some (.int .i64 (seen 0))∧w'.cell? ⟨w.heap.size+1,1,none⟩=some (.int .i64 (seen 1))∧w'.cell? ⟨w.heap.size+1,2,none⟩=some (.int .i64 (seen 2))∧w'.cell? ⟨w.heap.size+1,3,none⟩=some (.int .i64 (seen 3)))
  ((refine hmk.out _ ?_;first|(simp (maxDischargeDepth:=12) [Below.refl,Below.drew,Below.alloc,Below.setCell];done)|(simp (maxDischargeDepth:=12) [Below.refl,Below.drew,Below.alloc,Below.setCell,B5,y5];done)|(simp (maxDischargeDepth:=12) [Below.refl,Below.drew,Below.alloc,Below.setCell,B3,z3];done)))
  (first|(go_at_call 39;refine Calls.mono (HSeg.out _ (by go_split_ands;assumption)) ?_;rintro e w5 ⟨rfl,hb5,z5⟩;obtain ⟨s1,s2⟩:=oldReads hb5;(try simp only [World.size_drew,size_allocW] at z5);have B5:Below w2.heap.size w2 w5:=afterAny hb5 (by simp (maxDischargeDepth:=12) [Below.refl,Below.drew,Below.alloc]);have y5:=B5.size;clear hb5)|(go_at_call 44;refine (stDelete_none c _ l seen _ (by go_split_ands;assumption) HR.out HL.out HN.out).mono ?_;rintro e w3 ⟨rfl,hb3⟩;obtain ⟨q1,q2⟩:=oldReads hb3;have B3:Below w2.heap.size w2 w3:=afterAny hb3 (by simp (maxDischargeDepth:=12) [Below.refl,Below.drew,Below.alloc,B5,y5]);have z3:=B3.size;clear hb3))
 all_goals
  go_wp2_with (go_at_call 42;refine (keep_err b key (fun _=>0) (.slice none 0 0) 5 _ (by decide)).mono ?_;rintro e w4 ⟨rfl,hb4⟩;have B4:Below w2.heap.size w2 w4:=afterAny hb4 (by simp (maxDischargeDepth:=12) [Below.refl,Below.drew,Below.alloc,Below.setCell,B3,z3]);clear hb4)
  go_ret
  exact ⟨rfl,below_keep HB2.out B4⟩
theorem size_allocW (w:World) (X:Obj):(w.alloc X).heap.size=w.heap.size+1:=by simp
theorem grownBy_after {w W w4:World} {row:Option Nat} (h:Below w.heap.size w W) (hg:W.grownBy w4 row):w.grownBy w4 row:=
 ⟨hg.os.trans h.os,hg.tape.trans h.tape,hg.output.trans h.output,Nat.le_trans h.size hg.size,fun k hk hn=>(hg.block k (Nat.lt_of_lt_of_le hk h.size) hn).trans (h.block k hk)⟩
theorem VSl.of_own {w:World} {B:Nat} {v:Value} {l:List Ver} (h:w.ownsRow B 144 3 v l.length (flatV l)):VSl w v l:=ownsRow_base h (Nat.zero_le _)
set_option maxRecDepth 100000 in
set_option maxHeartbeats 400000 in
theorem delete_some (b num:Nat) (bm:Nat→Nat) (K:Know) (key:ByteArray) (seen:Ctx) (w:World) (h:RepAt w b bm num K) (hK:KOk K) (hkey:keyB key=true) (hks:key.size≤8) (hseen:soundB seen=true)
  (hn:(unseenL (K key).2 seen).length< (K key).2.length):
  Calls Qry.prog 23 #[.pointer (some ⟨b,0,none⟩),.string key,ctxV seen] w fun e w'=>e= .returned (.int .i64 0)∧RepAt w' b bm num (updK K key (bothC (K key).1 seen,unseenL (K key).2 seen))∧w.grownBy w' (some (bm (segN key))):=by
 have hb:=h.1
 have HRep:Hid _:=h
 obtain ⟨es,clock,hm,hk,hall,_⟩:=h.2.1 _ (segN_lt key)
 obtain ⟨sv,hent,hvs⟩:=hall key rfl
 obtain ⟨ad,cap,rfl,hcap⟩:=hvs.len
 have hlk: ∀W:World,W.heap[bm (segN key)]? =some (.map es clock)→(Instr.lookup 98 (.map (some (bm (segN key)))) (.string key) false).run Qry.prog W= .ok (stV (K key).1 (.slice ad (K key).2.length cap)) W:=fun W hW=>by
  rw [lookup_run W _ es clock key hW hk,hent]
 have HSeg:Hid (∀W,RepBlk W b bm num→Calls Qry.prog 39 #[.pointer (some ⟨b,0,none⟩),.string key] W fun e w'=>e= .returned (.map (some (bm (segN key))))∧Below W.heap.size W w'∧w'.heap.size=W.heap.size):=fun W hW=>segOf_below b num bm key W (by unfold maxLen;omega) hW
 have HBlk:Hid (∀W,Below w.heap.size w W→RepBlk W b bm num):=fun W hW=>(h.below hW).1
 have HL:Hid ((K key).2.length≤100000):=Nat.le_trans (hK key).2.1 (by decide)
 have HR:Hid (∀v∈(K key).2,v.rep< 4):=(hK key).1
 generalize (K key).1=c at*
 generalize (K key).2=l at*
 have HV:Hid _:=hvs
 have HN:Hid _:=hn
 have HCK:Hid _:=isKey_any key
 have HSO:Hid _:=sound_any seen
 clear hvs hall hent hK hn h
 generalize hbms:bm (segN key)=bms at*
 have HBMS:Hid _:=hbms
 clear hbms
 go_enter Qry.func23,Qry.ntmps23
 go_wp2_with (first
  |(go_at_call 36;refine (HCK.out _ (by unfold maxLen;omega)).mono ?_;rw [hkey];rintro e w1 ⟨rfl,rfl⟩)
  |(go_at_call 38;refine (HSO.out _).mono ?_;rw [hseen];rintro e w2 ⟨rfl,hb2⟩;obtain ⟨c2,hB2,hz2⟩:=afterSound hb2;clear hb2))
 have hmk:Hid (∀w',Below w2.heap.size w2 w'→RepBlk w' b bm num∧(Instr.lookup 98 (.map (some bms)) (.string key) false).run Qry.prog w'= .ok (stV c (.slice ad l.length cap)) w'∧VSl w' (.slice ad l.length cap) l∧w'.cell? ⟨w.heap.size+1,0,none⟩=some (.int .i64 (seen 0))∧w'.cell? ⟨w.heap.size+1,1,none⟩=some (.int .i64 (seen 1))∧w'.cell? ⟨w.heap.size+1,2,none⟩=some (.int .i64 (seen 2))∧w'.cell? ⟨w.heap.size+1,3,none⟩=some (.int .i64 (seen 3))):=fun w' hw=>
  ⟨HBlk.out _ (below_keep hB2 hw),hlk w' (heap_keep (heap_keep hm hB2) hw),(VSl.below HV.out hB2).below hw,cell_keep (c2 0) hw,cell_keep (c2 1) hw,cell_keep (c2 2) hw,cell_keep (c2 3) hw⟩
 have HB2:Hid _:=hB2
 clear hB2 c2 hlk
 go_region_held3 (fun w'=>RepBlk w' b bm num∧(Instr.lookup 98 (.map (some bms)) (.string key) false).run Qry.prog w'= .ok (stV c (.slice ad l.length cap)) w'∧VSl w' (.slice ad l.length cap) l∧w'.cell? ⟨w.heap.size+1,0,none⟩=some (.int .i64 (seen 0))∧w'.cell? ⟨w.heap.size+1,1,none⟩=some (.int .i64 (seen 1))∧w'.cell? ⟨w.heap.size+1,2,none⟩=some (.int .i64 (seen 2))∧w'.cell? ⟨w.heap.size+1,3,none⟩=some (.int .i64 (seen 3)))
  ((refine hmk.out _ ?_;first|(simp (maxDischargeDepth:=12) [Below.refl,Below.drew,Below.alloc,Below.setCell];done)|(simp (maxDischargeDepth:=12) [Below.refl,Below.drew,Below.alloc,Below.setCell,B5,y5];done)|(simp (maxDischargeDepth:=12) [Below.refl,Below.drew,Below.alloc,Below.setCell,B3,z3];done)))
  (first|(go_at_call 39;refine Calls.mono (HSeg.out _ (by go_split_ands;assumption)) ?_;rintro e w5 ⟨rfl,hb5,z5⟩;obtain ⟨s1,s2⟩:=oldReads hb5;(try simp only [World.size_drew,size_allocW] at z5);have B5:Below w2.heap.size w2 w5:=afterAny hb5 (by simp (maxDischargeDepth:=12) [Below.refl,Below.drew,Below.alloc]);have y5:=B5.size;clear hb5)|(go_at_call 44;refine (stDelete_some c _ l seen _ (by go_split_ands;assumption) HR.out HL.out HN.out).mono ?_;rintro e w3 ⟨v',rfl,hown,hb3⟩;obtain ⟨ad',cap',hv'⟩:=ownsRow_len hown;subst hv';have O3:=hown;(try simp only [World.size_drew,size_allocW,z5] at O3);clear hown;obtain ⟨q1,q2⟩:=oldReads hb3;have B3:Below w2.heap.size w2 w3:=afterAny hb3 (by simp (maxDischargeDepth:=12) [Below.refl,Below.drew,Below.alloc,B5,y5]);have z3:=B3.size;clear hb3))
 all_goals
  go_wp2_with (go_at_call 42;go_must (refine (keep_ok b num bm K key (bothC c seen) _ (unseenL l seen) _ ⟨by omega,hkey⟩ (RepAt.below HRep.out (below_keep HB2.out (by simp (maxDischargeDepth:=12) [Below.refl,Below.drew,Below.alloc,Below.setCell,B3,z3]))) (by first|(refine VSl.of_own (B:=w2.heap.size) ?_;simp (maxDischargeDepth:=12) [World.ownsRow.alloc,O3];done)|(refine VSl.of_own (B:=w2.heap.size+1) ?_;simp (maxDischargeDepth:=12) [ownsRow_setCell_below,O3];done))).mono ?_);rintro e w4 ⟨rfl,hrep4,hg4⟩;have B5:=grownBy_after (w:=w2) (by simp (maxDischargeDepth:=12) [Below.refl,Below.drew,Below.alloc,Below.setCell,B3,z3]) hg4;have HR4:Hid _:=hrep4;clear hrep4 hg4)
  go_ret
  exact ⟨rfl,HR4.out,by have g:=grownBy_after HB2.out B5;rw [HBMS.out] at g;exact g⟩
end Go.Proofs.YtldmcdeibiclkaaGreatDoorQ
end
section
namespace Go.Proofs.YtldmcdeibiclkaaGreatDoorQ
open Go.RowKit
structure Fr (X:Nat→Prop) (w w':World):Prop where
 os:w'.os=w.os
 tape:w'.tape=w.tape
 output:w'.output=w.output
 size:w.heap.size≤w'.heap.size
 block: ∀k,k< w.heap.size→¬ X k→w'.heap[k]? =w.heap[k]?
section
variable {X Y:Nat→Prop} {w w1 w2:World}
theorem Fr.refl (X:Nat→Prop) (w:World):Fr X w w:=⟨rfl,rfl,rfl,Nat.le_refl _,fun _ _ _=>rfl⟩
theorem Fr.trans (h:Fr X w w1) (h':Fr X w1 w2):Fr X w w2:=
 ⟨h'.os.trans h.os,h'.tape.trans h.tape,h'.output.trans h.output,Nat.le_trans h.size h'.size,fun k hk hn=>(h'.block k (Nat.lt_of_lt_of_le hk h.size) hn).trans (h.block k hk hn)⟩
theorem Fr.weaken (h:Fr X w w1) (hX: ∀k,X k→Y k):Fr Y w w1:=⟨h.os,h.tape,h.output,h.size,fun k hk hn=>h.block k hk fun e=>hn (hX k e)⟩
theorem Fr.below (h:Fr X w w1) (hb:Below w1.heap.size w1 w2):Fr X w w2:=
 ⟨hb.os.trans h.os,hb.tape.trans h.tape,hb.output.trans h.output,Nat.le_trans h.size hb.size,fun k hk hn=>(hb.block k (Nat.lt_of_lt_of_le hk h.size)).trans (h.block k hk hn)⟩
theorem Fr.of_below (hb:Below w.heap.size w w1):Fr X w w1:=(Fr.refl X w).below hb
theorem Fr.grown {row:Option Nat} (h:Fr X w w1) (hg:w1.grownBy w2 row) (hr: ∀k,row=some k→k< w.heap.size→X k):Fr X w w2:=
 ⟨hg.os.trans h.os,hg.tape.trans h.tape,hg.output.trans h.output,Nat.le_trans h.size hg.size,fun k hk hn=>(hg.block k (Nat.lt_of_lt_of_le hk h.size) (fun e=>hn (hr k e.symm hk))).trans (h.block k hk hn)⟩
theorem Fr.drew (h:Fr X w w1):Fr X w w1.drew:=⟨h.os,h.tape,h.output,h.size,h.block⟩
theorem Fr.drewN (h:Fr X w w1) (q:Nat):Fr X w (w1.drewN q):=⟨h.os,h.tape,h.output,h.size,h.block⟩
theorem Fr.alloc (h:Fr X w w1) (o:Obj):Fr X w (w1.alloc o):=h.below ((Below.refl _ _).alloc (Nat.le_refl _) o)
theorem Fr.setCell (h:Fr X w w1) {b o:Nat} (hb:w.heap.size≤b∨X b) (v:Value):Fr X w (w1.setCell ⟨b,o,none⟩ v):=
 ⟨h.os,h.tape,h.output,by simpa [World.setCell] using h.size,fun k hk hn=>by
  have hne:k≠b:=fun e=>by
   rcases hb with hb|hb
   ·omega
   ·exact hn (e ▸ hb)
  rw [Below.heap_setCell _ _ _ _ hne]
  exact h.block k hk hn⟩
theorem Fr.toBelow {B:Nat} (h:Fr X w w1) (hX: ∀k,X k→B≤k) (hB:B≤w.heap.size):Below B w w1:=
 ⟨h.os,h.tape,h.output,h.size,fun k hk=>h.block k (by omega) fun e=>by have:=hX k e;omega⟩
theorem Fr.heap (h:Fr X w w1) {k:Nat} {o:Obj} (hk:w.heap[k]? =some o) (hn: ¬ X k):w1.heap[k]? =some o:=by
 rw [h.block k (Array.getElem?_eq_some_iff.1 hk).1 hn];exact hk
theorem Fr.cell (h:Fr X w w1) {b o:Nat} {v:Value} (hc:w.cell? ⟨b,o,none⟩=some v) (hn: ¬ X b):w1.cell? ⟨b,o,none⟩=some v:=by
 rw [World.cell?_of_block (h.block b (World.block_lt_of_cell? w _ hc) hn)];exact hc
theorem Fr.row {B n size:Nat} {t:TypeId} {v:Value} {xs:List Value} (h:Fr X w w1) (hr:w.ownsRow B t size v n xs) (hn: ∀g o l c,v= .slice (some ⟨g,o,none⟩) l c→¬ X g):w1.ownsRow B t size v n xs:=by
 obtain ⟨h1,h2⟩:=hr
 refine ⟨h1,?_⟩
 rcases h2 with h2|⟨g,cap,cur,hv,hg,hh,r⟩
 ·exact Or.inl h2
 ·exact Or.inr ⟨g,cap,cur,hv,hg,h.heap hh (hn _ _ _ _ hv),r⟩
theorem Fr.rep {b num:Nat} {bm:Nat→Nat} {K:Know} (h:Fr X w w1) (hr:RepAt w b bm num K) (hb: ¬ X b) (hm: ∀n,n< 64→¬ X (bm n)) (hv: ∀g cur,w.heap[g]? =some (.cells cur 144 (0,0))→¬ X g):RepAt w1 b bm num K:=
 hr.keep (h.block _ hr.1.lt hb) (fun n hn=>h.block _ (hr.2.1 n hn).lt (hm n hn)) fun g hg ⟨cur,hc⟩=>h.block g hg (hv g cur hc)
end
end Go.Proofs.YtldmcdeibiclkaaGreatDoorQ
end
