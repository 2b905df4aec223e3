/-
  Toward: treed_holds, each node's digest is that of its children's, for every argument of Treed. Contract: segment.records: of each known key, by rising bytes, a record.
  Contract: told: the versions of a row, in new memory.
  The zero value of a replica.
  Contracts: New and Get.
-/
import Derived.Test.YtldmcdeibiclkaaGreatDoorC37
import Derived.Test.YtldmcdeibiclkaaGreatDoorC38
import Derived.Test.YtldmcdeibiclkaaGreatDoorC35
import Derived.Laws.MakeOwn
import Derived.Deep.RegionHeld3
import Derived.Test.YtldmcdeibiclkaaGreatDoorC34
import Derived.WalkKit
set_option linter.unusedVariables false
set_option linter.unusedSimpArgs false
set_option maxRecDepth 4000
section
namespace Go.Proofs.YtldmcdeibiclkaaGreatDoorQ
open Go.RowKit
open Go.Lib (strCells strCells_length strCells_oneCell)
theorem Qry.infoRec:(Qry.prog.info? 151).map (fun i=>(i.zero,i.size,i.bytes))=some (some (.agg #[.string ⟨#[]⟩,.int .i64 0,.int .i64 0,.int .i64 0,.int .i64 0,.slice none 0 0]),6,72):=by kernel_rfl
def srt (ss:List (List UInt8)):List (List UInt8):=ss.mergeSort fun x y=>decide (x≤y)
theorem srt_perm (ss:List (List UInt8)):(srt ss).Perm ss:=List.mergeSort_perm ss _
def bytesT (x:List UInt8):ByteArray:=⟨x.toArray⟩
theorem bytesT_data (k:ByteArray):bytesT k.data.toList=k:=by
 apply ByteArray.ext;simp [bytesT]
def recsOf (K:Know) (es:List MapEntry):List (ByteArray×Ctx×List Ver):=(srt (namesOf es)).map fun x=>(bytesT x,(K (bytesT x)).1,(K (bytesT x)).2)
def segB (l:List (ByteArray×Ctx×List Ver)):ByteArray:=l.foldl (fun s r=>s++recB r.1 r.2.1 r.2.2) ByteArray.empty
def Rc.tri (r:Rc):ByteArray×Ctx×List Ver:=(r.key,r.c,r.l)
theorem recsB_seg (rs:List Rc):recsB rs=segB (rs.map Rc.tri):=by
 simp [recsB,segB,List.foldl_map,Rc.tri]
theorem names_keys {es:List MapEntry} {Q:ByteArray→Prop} (h: ∀e∈es,∃k,e.key= .string k∧Q k) {x:List UInt8} (hx:x∈srt (namesOf es)):Q (bytesT x):=by
 rw [(srt_perm _).mem_iff,namesOf,List.mem_map] at hx
 obtain ⟨e,he,rfl⟩:=hx
 obtain ⟨k,hk,hq⟩:=h e he
 simpa [keyL,hk,bytesT_data] using hq
theorem row_lenS {w:World} {B size n:Nat} {t:TypeId} {v:Value} {xs:List Value} (h:w.ownsRow B t size v n xs): ∃ad cap,v= .slice ad n cap∧(cap:Int)≤9223372036854775807∧n≤cap:=by
 rcases h.2 with ⟨h1,h2⟩|⟨g,cap,cur,hv,_,_,h4,h3,_⟩
 ·exact ⟨_,_,by rw [h1,h2],by simp,by omega⟩
 ·exact ⟨_,_,hv,by unfold maxLen at h3;omega,h4⟩
theorem row_cell1 {w:World} {B n:Nat} {t:TypeId} {v:Value} {xs:List Value} (h:w.ownsRow B t 1 v n xs) {k:Nat} {x:Value} (hx:xs[k]? =some x): ∃g cap,v= .slice (some ⟨g,0,none⟩) n cap∧g< w.heap.size∧w.cell? ⟨g,k,none⟩=some x:=by
 have hk:k< n:=by
  have h1:=h.1
  have:=(List.getElem?_eq_some_iff.1 hx).1
  omega
 rcases h.2 with ⟨_,h2⟩|⟨g,cap,cur,hv,_,hh,hn,hc,hs,ht⟩
 ·omega
 ·refine ⟨g,cap,hv,(Array.getElem?_eq_some_iff.1 hh).1,?_⟩
  rw [← ht,List.getElem?_take,if_pos (by omega)] at hx
  simpa [World.cell?,hh] using hx
theorem sorted_seg {w:World} {m:Nat} {es:Array MapEntry} {clock:Nat} {Q:ByteArray→Prop} (hm:w.heap[m]? =some (.map es clock)) (hst:Stamp Q es.toList clock) (hQ: ∀k,Q k→k.size≤maxLen) (hsz:es.size≤300000000000):
  Calls Qry.prog 71 #[.func (.func 97) #[] #[.pointer (some ⟨w.heap.size,0,none⟩)]] (w.alloc (.cells #[.map (some m)] 98)) fun e w'=>∃v:Value,e= .returned v∧
   w'.ownsRow (w.heap.size+1) 9 1 v es.size ((srt (namesOf es.toList)).map encStr)∧Below w.heap.size w w':=by
 obtain ⟨D0,hown,hD,hperm⟩:=owns_seg hm hst hQ (by unfold maxLen;omega)
 refine (sorted_call m es.size D0 anyR w hown (by rw [hD];unfold maxLen;omega) (by rw [hD];omega)).mono ?_
 rintro e w1 ⟨v,ss,rfl,hp,hrow,hb⟩
 have hss:ss.mergeSort (fun x y=>decide (x≤y))=srt (namesOf es.toList):=mergeSort_of_perm (hp.trans hperm)
 have hl:ss.length=es.size:=by rw [(hp.trans hperm).length_eq,namesOf,List.length_map,Array.length_toList]
 rw [hss,hl] at hrow
 exact ⟨v,rfl,hrow,((Below.refl _ _).alloc (Nat.le_refl _) _).trans (hb.mono (by simp))⟩
set_option maxRecDepth 100000 in
set_option maxHeartbeats 4000000 in
theorem records_any (m n:Nat) (K:Know) (w:World) (es:Array MapEntry) (clock:Nat) (hm:w.heap[m]? =some (.map es clock)) (hk:KeysOk es.toList) (hall: ∀s,segN s=n→∃sv,(entAt es.toList s).getD zeroSt=stV (K s).1 sv∧VSl w sv (K s).2) (hst:Stamp (fun k=>segN k=n∧k.size≤281474976710656∧keyB k=true) es.toList clock) (hsz:es.size≤300000000000):
  Calls Qry.prog 49 #[.map (some m)] w fun e w'=>∃v rs,e= .returned v∧RSl w' w.heap.size v rs∧(∀r∈rs,VSl w' r.sv r.l)∧rs.map Rc.tri=recsOf K es.toList∧Below w.heap.size w w':=by
 obtain ⟨svf,hsv⟩: ∃svf:ByteArray→Value,∀s,segN s=n→(entAt es.toList s).getD zeroSt=stV (K s).1 (svf s)∧VSl w (svf s) (K s).2:=by
  have: ∀s,∃v,segN s=n→(entAt es.toList s).getD zeroSt=stV (K s).1 v∧VSl w v (K s).2:=fun s=>by
   by_cases hs:segN s=n
   ·obtain ⟨sv,h⟩:=hall s hs
    exact ⟨sv,fun _=>h⟩
   ·exact ⟨.slice none 0 0,fun h=>(hs h).elim⟩
  exact ⟨fun s=>(this s).choose,fun s hs=>(this s).choose_spec hs⟩
 have hseg: ∀x∈srt (namesOf es.toList),segN (bytesT x)=n:=fun x hx=>(names_keys hst.2.2.2 hx).1
 have hll:(srt (namesOf es.toList)).length=es.size:=by rw [(srt_perm _).length_eq,namesOf,List.length_map,Array.length_toList]
 have hmlt:m< w.heap.size:=(Array.getElem?_eq_some_iff.1 hm).1
 have HLk:Hid (∀s,segN s=n→∀W:World,W.heap[m]? =some (.map es clock)→(Instr.lookup 98 (.map (some m)) (.string s) false).run Qry.prog W= .ok (stV (K s).1 (svf s)) W):=fun s hs W hW=>by
  rw [lookup_run W m es clock s hW hk,(hsv s hs).1]
 have HM:Hid (w.heap[m]? =some (.map es clock)):=hm
 have HSv:Hid (∀s,segN s=n→VSl w (svf s) (K s).2):=fun s hs=>(hsv s hs).2
 have HSeg:Hid (∀x∈srt (namesOf es.toList),segN (bytesT x)=n):=hseg
 have HKeys:Hid _:=keys_call (some m) w
 have HSort:Hid _:=sorted_seg hm hst (fun k h=>by have:=h.2.1;unfold maxLen;omega) hsz
 have HRo:Hid (recsOf K es.toList=(srt (namesOf es.toList)).map fun x=>(bytesT x,(K (bytesT x)).1,(K (bytesT x)).2)):=rfl
 clear hsv hall hk hst hseg hm
 generalize recsOf K es.toList=ro at*
 obtain ⟨i0,hi0,hz0,hz1,hz2⟩:=info_parts Qry.infoRec
 go_enter Qry.func49,Qry.ntmps49
 go_wp2_with (first
  |(go_at_call 72;refine Calls.mono HKeys.out ?_;rintro e w1 ⟨rfl,rfl⟩)
  |(go_at_call 71;refine Calls.mono HSort.out ?_;rintro e w1 ⟨v1,rfl,hrow1,hb1⟩;obtain ⟨ad,cap,rfl,hcap,hlc⟩:=row_lenS hrow1;have HRow:Hid (w1.ownsRow (w.heap.size+1) 9 1 (.slice ad es.size cap) es.size ((srt (namesOf es.toList)).map encStr)):=hrow1;have HB1:Hid (Below w.heap.size w w1):=hb1;clear hrow1 hb1))
 clear HKeys HSort
 have hz1':=HB1.out.size
 obtain ⟨L,hL⟩: ∃L,L=srt (namesOf es.toList):=⟨_,rfl⟩
 rw [← hL] at hll HRow HSeg HRo
 clear hL
 obtain ⟨rs,hrs⟩: ∃rs:List Rc,rs=L.map fun x=>⟨bytesT x,(K (bytesT x)).1,svf (bytesT x),(K (bytesT x)).2⟩:=⟨_,rfl⟩
 have hrl:rs.length=es.size:=by rw [hrs,List.length_map,hll]
 have HGet:Hid (∀k (h:k< rs.length),rs[k].sv=svf rs[k].key∧rs[k].c=(K rs[k].key).1∧rs[k].l=(K rs[k].key).2∧segN rs[k].key=n∧(L.map encStr)[k]? =some (.string rs[k].key)):=fun k h=>by
  subst hrs
  rw [List.length_map] at h
  refine ⟨by simp,by simp,by simp,by simpa using HSeg.out _ (List.getElem_mem h),?_⟩
  rw [List.getElem?_map,List.getElem?_eq_getElem h]
  simp [encStr,bytesT]
 have HTri:Hid (rs.map Rc.tri=ro):=(show rs.map Rc.tri=ro by rw [HRo.out,hrs,List.map_map];rfl)
 have HVr:Hid (∀r∈rs,VSl w r.sv r.l):=fun r hr=>by
  subst hrs
  obtain ⟨x,hx,rfl⟩:=List.mem_map.1 hr
  exact HSv.out _ (HSeg.out x hx)
 clear hrs HRo HSeg
 go_loopw [3,10] (fun o i wr=>∃k:Nat,k≤rs.length∧i= .int .i64 k∧Hid (RSl wr w1.heap.size o (rs.take k))∧Hid (Below w1.heap.size w1 wr)) (fun _ i _=>rs.length - (intOf i).toNat)
 case atStart=>exact ⟨0,by omega,rfl,World.ownsRow_nil _ _ _ _,Below.refl _ _⟩
 case round=>
  obtain ⟨k,hk,rfl,hr,hb⟩:=hrel
  have HR:Hid (RSl wr w1.heap.size u3 (rs.take k)):=hr.out
  have HB:Hid (Below w1.heap.size w1 wr):=hb.out
  have hszr:=hb.out.size
  clear hr hb
  by_cases hlt:k< rs.length
  ·obtain ⟨e1,e2,e3,e4,e5⟩:=HGet.out k hlt
   obtain ⟨g,cap',hv',hgl,hc⟩:=row_cell1 HRow.out e5
   cases hv'
   have hcw:wr.cell? ⟨g,k,none⟩=some (.string rs[k].key):=(HB.out.cell (p:=⟨g,k,none⟩) hgl).trans hc
   have hmw:wr.heap[m]? =some (.map es clock):=(HB.out.block m (by omega)).trans ((HB1.out.block m hmlt).trans HM.out)
   have hlk:=HLk.out _ e4 wr hmw
   have hvk:VSl w rs[k].sv rs[k].l:=HVr.out _ (List.getElem_mem hlt)
   obtain ⟨adv,capv,hsvv⟩:=vsl_form hvk
   have HT:Hid (rs.take (k+1)=rs.take k++ [rs[k]]):=List.take_succ_eq_append_getElem hlt
   have HF:Hid (flatR [rs[k]]= [.string rs[k].key,.int .i64 (rs[k].c 0),.int .i64 (rs[k].c 1),.int .i64 (rs[k].c 2),.int .i64 (rs[k].c 3),.slice adv rs[k].l.length capv]):=(show flatR [rs[k]]= [.string rs[k].key,.int .i64 (rs[k].c 0),.int .i64 (rs[k].c 1),.int .i64 (rs[k].c 2),.int .i64 (rs[k].c 3),.slice adv rs[k].l.length capv] by rw [← hsvv];rfl)
   rw [← e1,← e2,hsvv] at hlk
   have htl:(rs.take k).length=k:=by rw [List.length_take];omega
   have HL1:Hid ((rs.take (k+1)).length=k+1):=(show (rs.take (k+1)).length=k+1 by rw [List.length_take];omega)
   have HRk:Hid (wr.ownsRow w1.heap.size 151 6 u3 k (flatR (rs.take k))):=(by have:=HR.out;unfold RSl at this;rw [htl] at this;exact this)
   clear HR e1 e2 e3 e4 e5 hvk hsvv hc hmw htl
   generalize hq:rs[k]=rk at*
   clear hq
   generalize rk.key=key at*
   generalize rk.c=c at*
   generalize rk.l.length=len at*
   have g63:(k:Int)< (es.size:Int):=by omega
   have k0:(0:Int)≤(k:Int):=by omega
   go_wp2_with (at_builtin;refine wpList_append_grew _ rfl _ _ _ rfl w1.heap.size 151 i0 _ 6 72 Qry.underlying119 hi0 hz0 hz1 hz2 rfl (by omega) u3 _ _ rfl (World.ownsRow.alloc HRk.out _) ⟨wr.heap.size,0,none⟩ 1 1 _ rfl (by rfl) (World.news_of_block (heap_alloc_new wr _)) (by simp [Value.oneCell']) (by omega) (by unfold maxLen;omega) (by omega) (by simp;omega) ?_;intro g2 cap2 w2 hown2 hgr2)
   refine ⟨⟨k+1,by omega,by go_num,?_,?_⟩,by simp [intOf];omega⟩
   ·show RSl _ _ _ _
    unfold RSl
    rw [HL1.out,HT.out,flatR_append,HF.out]
    exact hown2
   ·exact hgr2.toBelow (HB.out.alloc hszr _) (by simp;omega) (World.ownsRow.alloc HRk.out _)
  ·obtain rfl:k=rs.length:=by omega
   have HRe:Hid (RSl wr w1.heap.size u3 rs):=(by have:=HR.out;rw [List.take_length] at this;exact this)
   clear HR
   go_wp2
   go_ret
   refine ⟨_,rs,rfl,ownsRow_base HRe.out hz1',fun r hr=>?_,HTri.out,HB1.out.trans (HB.out.mono hz1')⟩
   exact ownsRow_below (HVr.out r hr) (HB1.out.trans (HB.out.mono hz1')) (Nat.le_refl _)
end Go.Proofs.YtldmcdeibiclkaaGreatDoorQ
end
section
namespace Go.Proofs.YtldmcdeibiclkaaGreatDoorQ
open Go.RowKit
theorem heap_set {w:World} {b o:Nat} {M:Array Value} {t:TypeId} {fr:Nat×Nat} {v:Value} (h:w.heap[b]? =some (.cells M t fr)):(w.setCell ⟨b,o,none⟩ v).heap[b]? =some (.cells (M.setIfInBounds o v) t fr):=by
 simp [World.setCell,Array.getElem?_modify,h]
theorem set_far {w:World} {b o b' o':Nat} {v:Value} (h:b'≠b):(w.setCell ⟨b,o,none⟩ v).cell? ⟨b',o',none⟩=w.cell? ⟨b',o',none⟩:=World.cell?_of_block (Below.heap_setCell w ⟨b,o,none⟩ v b' h)
theorem heap_set3 {w:World} {b o:Nat} {M:Array Value} {t:TypeId} {fr:Nat×Nat} {x y z:Value} (h:w.heap[b]? =some (.cells M t fr)):(((w.setCell ⟨b,o,none⟩ x).setCell ⟨b,o+1,none⟩ y).setCell ⟨b,o+2,none⟩ z).heap[b]? =some (.cells (((M.setIfInBounds o x).setIfInBounds (o+1) y).setIfInBounds (o+2) z) t fr):=
 heap_set (heap_set (heap_set h))
theorem take_set3 {M:Array Value} {k:Nat} {xs:List Value} {x y z:Value} (hs:k*3+2< M.size) (h:M.toList.take (k*3)=xs):(((M.setIfInBounds (k*3) x).setIfInBounds (k*3+1) y).setIfInBounds (k*3+2) z).toList.take ((k+1)*3)=xs++ [x,y,z]:=by
 subst h
 apply List.ext_getElem?
 intro t
 have hl:(M.toList.take (k*3)).length=k*3:=by simp;omega
 by_cases h1:t< k*3
 ·rw [List.getElem?_take,if_pos (by omega),List.getElem?_append_left (by omega),List.getElem?_take,if_pos h1]
  simp only [Array.getElem?_toList,Array.getElem?_setIfInBounds]
  rw [if_neg (by omega),if_neg (by omega),if_neg (by omega)]
 ·rw [List.getElem?_append_right (by omega),hl]
  by_cases h2:t< (k+1)*3
  ·rw [List.getElem?_take,if_pos h2]
   simp only [Array.getElem?_toList,Array.getElem?_setIfInBounds,Array.size_setIfInBounds]
   have h3:t=k*3∨t=k*3+1∨t=k*3+2:=by omega
   rcases h3 with rfl|rfl|rfl
   ·rw [if_neg (by omega),if_neg (by omega),if_pos rfl,if_pos (by omega)];simp
   ·rw [if_neg (by omega),if_pos rfl,if_pos (by omega)];simp
   ·rw [if_pos rfl,if_pos (by omega)];simp
  ·rw [List.getElem?_take,if_neg h2,List.getElem?_eq_none (by simp;omega)]
theorem Qry.infoApi:(Qry.prog.info? 71).map (fun i=>(i.zero,i.size,i.bytes))=some (some (.agg #[.int .i64 0,.int .i64 0,.string ⟨#[]⟩]),3,32):=by kernel_rfl
theorem flatV_take_succ (l:List Ver) (k:Nat) (h:k< l.length):flatV (l.take (k+1))=flatV (l.take k)++ [.int .i64 l[k].rep,.int .i64 l[k].n,.string l[k].val]:=by
 rw [List.take_succ_eq_append_getElem h,flatV_append]
 simp [flatV,encV]
theorem afterClone2 {wr w1:World} {bo k:Nat} {M:Array Value} {t:TypeId} {X:Obj} (hb1:Below ((wr.alloc X).drew).heap.size ((wr.alloc X).drew) w1) (hh:wr.heap[bo]? =some (.cells M t)) (hs:k*3+2< M.size):
  w1.heap[bo]? =some (.cells M t)∧(∃x,w1.cell? ⟨bo,k*3,none⟩=some x)∧(∃x,w1.cell? ⟨bo,k*3+1,none⟩=some x)∧(∃x,w1.cell? ⟨bo,k*3+2,none⟩=some x)∧(∀o,w1.frozen? ⟨bo,o,none⟩=false)∧Below wr.heap.size wr w1:=by
 have hlt:=(Array.getElem?_eq_some_iff.1 hh).1
 have hB:Below wr.heap.size wr w1:=(((Below.refl _ _).alloc (Nat.le_refl _) _).drew).trans (hb1.mono (by simp [World.drew]))
 have e:w1.heap[bo]? =some (.cells M t):=heap_keep hh hB
 refine ⟨e,⟨M[k*3],?_⟩,⟨M[k*3+1],?_⟩,⟨M[k*3+2],?_⟩,fun o=>by simp [World.frozen?,e],hB⟩
 ·simp only [World.cell?,e];simp
 ·simp only [World.cell?,e];simp
 ·simp only [World.cell?,e];simp
def ToldRel (w:World) (l:List Ver) (k:Nat) (wr:World):Prop:=
 ∃M:Array Value,wr.heap[w.heap.size]? =some (.cells M 71)∧M.size=l.length*3∧M.toList.take (k*3)=flatV (l.take k)∧Below w.heap.size w wr
set_option maxRecDepth 100000 in
set_option maxHeartbeats 1000000 in
theorem told_any (sv:Value) (l:List Ver) (w:World) (h:VSl w sv l) (hlen:l.length≤100000) (hval: ∀v∈l,v.val.size≤281474976710656):
  Calls Qry.prog 43 #[sv] w fun e w'=>∃v',e= .returned v'∧w'.ownsRow w.heap.size 71 3 v' l.length (flatV l)∧Below w.heap.size w w':=by
 obtain ⟨ad,cap,rfl,hcap⟩:=h.len
 obtain ⟨i0,hi0,hz0,hz1,hz2⟩:=info_parts Qry.infoApi
 have hmk:=run_make (P:=Qry.prog) w 67 71 i0 _ Qry.underlying67 hi0 hz0 .i64 .i64 l.length l.length (by omega) (by omega) (by rw [hz2];omega) (by omega)
 rw [hz1] at hmk
 simp only [Int.toNat_natCast] at hmk
 have hM:=size_madeCells (Value.agg #[.int .i64 0,.int .i64 0,.string ⟨#[]⟩]).cells (l.length*3)
 generalize madeCells (Value.agg #[.int .i64 0,.int .i64 0,.string ⟨#[]⟩]).cells (l.length*3)=M at hmk hM
 have H:Hid _:=h
 have HV:Hid _:=hval
 have HM:Hid _:=hM
 clear h hval hM hi0 hz0 hz1 hz2
 go_enter Qry.func43,Qry.ntmps43
 go_wp2
 go_loopw [11] (fun i wr=>∃k:Nat,k≤l.length∧i= .int .i64 k∧ToldRel w l k wr) (fun i _=>l.length - (intOf i).toNat)
 case atStart=>exact ⟨0,by omega,rfl,M,heap_alloc_new w _,HM.out,by simp [flatV],(Below.refl _ _).alloc (Nat.le_refl _) _⟩
 case round=>
  obtain ⟨k,hk,rfl,hrel⟩:=hrel
  by_cases hlt:k< l.length
  ·obtain ⟨g,cap',hsv',hg,_,_,c0,c1,c2⟩:=VSl.cells H.out hlt
   cases hsv'
   have hvk:Hid (l[k].val.size≤281474976710656):=HV.out _ (List.getElem_mem hlt)
   have hsn:Hid _:=flatV_take_succ l k hlt
   generalize l[k].rep=r at*
   generalize l[k].n=n at*
   generalize l[k].val=s at*
   have hs:=hvk.out
   obtain ⟨M',hh,hms,htk,hb⟩:=hrel
   have hbo:=(Array.getElem?_eq_some_iff.1 hh).1
   have d0:wr.cell? ⟨g,k*3,none⟩=some (.int .i64 r):=(hb.cell (p:=⟨g,k*3,none⟩) hg).trans c0
   have d1:wr.cell? ⟨g,k*3+1,none⟩=some (.int .i64 n):=(hb.cell (p:=⟨g,k*3+1,none⟩) hg).trans c1
   have d2:wr.cell? ⟨g,k*3+2,none⟩=some (.string s):=(hb.cell (p:=⟨g,k*3+2,none⟩) hg).trans c2
   have g63:(k:Int)< (l.length:Int):=by omega
   have k0:(0:Int)≤(k:Int):=by omega
   have Hc:Hid _:=And.intro c0 (And.intro c1 c2)
   have HH:Hid _:=And.intro hh (And.intro hms (And.intro htk hb))
   clear c0 c1 c2 hh hms htk hb
   have hm3:k*3+2< M'.size:=by rw [HH.out.2.1];omega
   have hH:=HH.out.1
   have hbn:wr.heap.size≠w.heap.size:=by omega
   go_wp2_with fail
   go_region_held3 (fun w'=>w'.cell? ⟨wr.heap.size,0,none⟩=some (.int .i64 r)∧w'.cell? ⟨wr.heap.size,1,none⟩=some (.int .i64 n)∧w'.cell? ⟨wr.heap.size,2,none⟩=some (.string s))
    (first|go_keep|(go_split_ands;exact ⟨cell_keep (by assumption) hb1,cell_keep (by assumption) hb1,cell_keep (by assumption) hb1⟩)|(go_split_ands;exact ⟨by rw [set_far hbn,set_far hbn,set_far hbn];assumption,by rw [set_far hbn,set_far hbn,set_far hbn];assumption,by rw [set_far hbn,set_far hbn,set_far hbn];assumption⟩))
    (first|(go_at_call 41;refine (clone_any s _ hs).mono ?_;rintro e w1 ⟨rfl,hb1⟩;obtain ⟨m0,⟨x0,m1⟩,⟨x1,m2⟩,⟨x2,m3⟩,m4,m5⟩:=afterClone2 hb1 hH hm3))
   go_wp2
   refine ⟨⟨k+1,by omega,by go_num,_,heap_set3 m0,by simp only [Array.size_setIfInBounds];exact HH.out.2.1,?_,?_⟩,by simp [intOf];omega⟩
   ·rw [hsn.out];exact take_set3 hm3 HH.out.2.2.1
   ·exact (((HH.out.2.2.2.trans (m5.mono HH.out.2.2.2.size)).setCell (Nat.le_refl _) _).setCell (Nat.le_refl _) _).setCell (Nat.le_refl _) _
  ·have hkl:k=l.length:=by omega
   have HK:Hid (List.take k l=l):=List.take_of_length_le (by omega)
   have HRel:Hid _:=hrel
   clear hrel
   go_wp2
   go_ret
   obtain ⟨M',hh,hms,htk,hb⟩:=HRel.out
   refine ⟨_,rfl,⟨by rw [flatV_length],Or.inr ⟨w.heap.size,l.length,M',rfl,Nat.le_refl _,hh,Nat.le_refl _,by unfold maxLen;omega,hms,?_⟩⟩,hb⟩
   rw [HK.out,hkl] at htk;exact htk
end Go.Proofs.YtldmcdeibiclkaaGreatDoorQ
end
section
namespace Go.Proofs.YtldmcdeibiclkaaGreatDoorQ
open Go.RowKit
theorem zero_of {P:Program} {t:TypeId} {z:Value} (h:(P.info? t).map (·.zero)=some (some z)) (w:World):(zeroValue t).run P w= .ok z w:=by
 cases hq:P.info? t with
 |none=>simp [hq] at h
 |some i=>
  have hz:i.zero=some z:=by simpa [hq] using h
  simp [zeroValue,typeInfo,hq,hz]
def zRep:Array Value:=#[Value.int .i64 0]++Array.replicate 64 (Value.map none)
theorem zRep_size:zRep.size=65:=by simp [zRep]
theorem zRep_ne:(zRep=#[])=False:=by simp [zRep]
theorem Qry.infoRep:(Qry.prog.info? 101).map (·.zero)=some (some (.agg zRep)):=by kernel_rfl
theorem Qry.zeroRep (w:World):(zeroValue 101).run Qry.prog w= .ok (.agg zRep) w:=zero_of Qry.infoRep w
end Go.Proofs.YtldmcdeibiclkaaGreatDoorQ
end
section
namespace Go.Proofs.YtldmcdeibiclkaaGreatDoorQ
open Go.RowKit
def noKeys:Know:=fun _=>(fun _=>0,[])
def KOk (K:Know):Prop:=∀s,(∀v∈(K s).2,v.rep< 4)∧(K s).2.length≤20∧(∀v∈(K s).2,v.val.size≤12)∧∀i,i< 4→0≤(K s).1 i∧(K s).1 i≤1000000
def NewRel (w:World) (num k:Nat) (bm:Nat→Nat) (wr:World):Prop:=
 (∃A:Array Value,wr.heap[w.heap.size]? =some (.cells A 101)∧A.size=65∧A[0]? =some (.int .i64 num)∧∀n,n< k→A[n+1]? =some (.map (some (bm n))))∧
 (∀n,n< k→w.heap.size< bm n∧wr.heap[bm n]? =some (.map #[] 0))∧(∀n m,n< k→m< k→bm n=bm m→n=m)∧Below w.heap.size w wr
theorem NewRel.step {w wr:World} {num k:Nat} {bm:Nat→Nat} (h:NewRel w num k bm wr) (hk:k< 64):
  NewRel w num (k+1) (fun n=>if n=k then wr.heap.size else bm n) ((wr.setCell ⟨w.heap.size,1+k,none⟩ (.map (some wr.heap.size))).alloc (.map #[] 0)):=by
 obtain ⟨⟨A,h1,h2,h3,h4⟩,h5,h6,h7⟩:=h
 have hlt:=(Array.getElem?_eq_some_iff.1 h1).1
 have hsz:(wr.setCell ⟨w.heap.size,1+k,none⟩ (.map (some wr.heap.size))).heap.size=wr.heap.size:=by simp [World.setCell]
 have hlts: ∀n,n< k→bm n< wr.heap.size:=fun n hn=>(Array.getElem?_eq_some_iff.1 (h5 n hn).2).1
 refine ⟨⟨A.setIfInBounds (k+1) (.map (some wr.heap.size)),by rw [Below.heap_alloc _ _ _ (by rw [hsz];exact hlt),Nat.add_comm];exact heap_set h1,by simpa using h2,?_,fun n hn=>?_⟩,fun n hn=>?_,fun n m hn hm he=>?_,(h7.setCell (Nat.le_refl _) _).alloc (by rw [hsz];exact h7.size) _⟩
 ·rw [Array.getElem?_setIfInBounds,if_neg (by omega)];exact h3
 ·rw [Array.getElem?_setIfInBounds]
  dsimp only
  by_cases e:n=k
  ·subst e;rw [if_pos rfl,if_pos (by omega),if_pos rfl]
  ·rw [if_neg (by omega),if_neg e];exact h4 n (by omega)
 ·dsimp only
  by_cases e:n=k
  ·subst e
   rw [if_pos rfl]
   refine ⟨hlt,?_⟩
   have:=heap_alloc_new (wr.setCell ⟨w.heap.size,1+n,none⟩ (.map (some wr.heap.size))) (.map #[] 0)
   rw [hsz] at this;exact this
  ·rw [if_neg e]
   have hn':n< k:=by omega
   refine ⟨(h5 n hn').1,?_⟩
   have hne:bm n≠w.heap.size:=by have:=(h5 n hn').1;omega
   rw [Below.heap_alloc _ _ _ (by rw [hsz];exact hlts n hn'),Below.heap_setCell _ _ _ _ hne]
   exact (h5 n hn').2
 ·by_cases e:n=k
  ·by_cases e':m=k
   ·rw [e,e']
   ·simp only [if_pos e,if_neg e'] at he
    have:=hlts m (by omega);omega
  ·by_cases e':m=k
   ·simp only [if_neg e,if_pos e'] at he
    have:=hlts n (by omega);omega
   ·simp only [if_neg e,if_neg e'] at he
    exact h6 n m (by omega) (by omega) he
set_option maxRecDepth 100000 in
set_option maxHeartbeats 1000000 in
theorem new_ok (n:Nat) (w:World) (hn:n< 4):
  Calls Qry.prog 20 #[.int .i64 n] w fun e w'=>∃b bm,e= .returned (.tuple #[.pointer (some ⟨b,0,none⟩),.int .i64 0])∧w.heap.size≤b∧(∀m,m< 64→w.heap.size≤bm m)∧RepAt w' b bm n noKeys∧Below w.heap.size w w':=by
 have hn':(n:Int)< 4:=by omega
 go_enter Qry.func20,Qry.ntmps20
 have hmm: ∀W:World,(Instr.makeMap 98 none).run Qry.prog W= .ok (.map (some W.heap.size)) (W.alloc (.map #[] 0)):=fun W=>rfl
 have hz:=Qry.zeroRep
 have hne:=zRep_ne
 go_wp2
 go_loopw [15] (fun iv wr=>∃k:Nat,k≤64∧iv= .int .i64 k∧∃bm,NewRel w n k bm wr) (fun iv _=>64 - (intOf iv).toNat)
 case atStart=>
  refine ⟨0,by omega,rfl,fun _=>0,⟨_,heap_alloc_new w _,by simp [zRep_size],by simp [zRep_size],fun n hn=>absurd hn (by omega)⟩,fun n hn=>absurd hn (by omega),fun n m hn=>absurd hn (by omega),(Below.refl _ _).alloc (Nat.le_refl _) _⟩
 case round=>
  obtain ⟨k,hk,rfl,bm,hrel⟩:=hrel
  by_cases hlt:k< 64
  ·have k1:(k:Int)< 64:=by omega
   have k0:(0:Int)≤(k:Int):=by omega
   have hst:Hid _:=hrel.step hlt
   obtain ⟨⟨A,h1,h2,_,_⟩,_⟩:=hrel
   have hblt:=(Array.getElem?_eq_some_iff.1 h1).1
   have hcell:(wr.alloc (.map #[] 0)).cell? ⟨w.heap.size,k+1,none⟩=some A[k+1]:=by
    rw [World.cell?_alloc_lt _ _ _ hblt];simp [World.cell?,h1]
   have hcell':(wr.alloc (.map #[] 0)).cell? ⟨w.heap.size,1+k,none⟩=some A[k+1]:=by rw [Nat.add_comm];exact hcell
   have hfr: ∀o,(wr.alloc (.map #[] 0)).frozen? ⟨w.heap.size,o,none⟩=false:=fun o=>by
    rw [World.frozen?_alloc_past _ _ _ hblt];simp [World.frozen?,h1]
   clear h1
   go_wp2
   refine ⟨⟨k+1,by omega,by go_num,fun n=>if n=k then wr.heap.size else bm n,?_⟩,by simp [intOf];omega⟩
   exact hst.out
  ·obtain rfl:k=64:=by omega
   have HR:Hid _:=hrel
   clear hrel
   go_wp2
   go_ret2
   obtain ⟨⟨A,h1,h2,h3,h4⟩,h5,h6,h7⟩:=HR.out
   exact ⟨w.heap.size,bm,rfl,Nat.le_refl _,fun m hm=>by have:=(h5 m hm).1;omega,⟨⟨A,h1,h3,h4⟩,fun m hm=>⟨#[],0,(h5 m hm).2,by simp [KeysOk],fun s _=>⟨.slice none 0 0,rfl,⟨rfl,Or.inl ⟨rfl,rfl⟩⟩⟩,by simp [Stamp]⟩,h6⟩,h7⟩
theorem afterTold {w w1:World} {q:Nat} {A B:Array Value} {ta tb:TypeId} (hb1:Below ((((w.alloc (.cells A ta)).drewN q).alloc (.cells B tb)).drew).heap.size ((((w.alloc (.cells A ta)).drewN q).alloc (.cells B tb)).drew) w1):
  (∀o,w1.cell? ⟨w.heap.size,o,none⟩=A[o]?)∧(∀o,w1.frozen? ⟨w.heap.size,o,none⟩=false)∧(∀o,w1.cell? ⟨w.heap.size+1,o,none⟩=B[o]?)∧Below (w.heap.size+2) ((w.alloc (.cells A ta)).alloc (.cells B tb)) w1:=by
 have hb2:Below ((w.alloc (.cells A ta)).alloc (.cells B tb)).heap.size ((w.alloc (.cells A ta)).alloc (.cells B tb)) w1:=undrew hb1 rfl rfl rfl rfl
 have hsz:((w.alloc (.cells A ta)).alloc (.cells B tb)).heap.size=w.heap.size+2:=by simp
 rw [hsz] at hb2
 have e0:w1.heap[w.heap.size]? =some (.cells A ta):=by
  rw [hb2.block _ (by omega),Below.heap_alloc _ _ _ (by simp)]
  exact heap_alloc_new w _
 have e1:w1.heap[w.heap.size+1]? =some (.cells B tb):=by
  rw [hb2.block _ (by omega)]
  simpa using heap_alloc_new (w.alloc (.cells A ta)) (.cells B tb)
 exact ⟨fun o=>by simp [World.cell?,e0],fun o=>by simp [World.frozen?,e0],fun o=>by simp [World.cell?,e1],hb2⟩
theorem two_new (w:World) (A B:Array Value) (ta tb:TypeId) (q o:Nat):((((w.alloc (.cells A ta)).drewN q).alloc (.cells B tb)).drew).cell? ⟨w.heap.size+1,o,none⟩=B[o]? :=by
 have e:(((w.alloc (.cells A ta)).drewN q).alloc (.cells B tb)).heap[w.heap.size+1]? =some (.cells B tb):=by
  have:=heap_alloc_new ((w.alloc (.cells A ta)).drewN q) (.cells B tb)
  have hs:((w.alloc (.cells A ta)).drewN q).heap.size=w.heap.size+1:=by simp
  rw [hs] at this;exact this
 have e':((((w.alloc (.cells A ta)).drewN q).alloc (.cells B tb)).drew).heap[w.heap.size+1]? =some (.cells B tb):=e
 simp only [World.cell?,e']
 simp
theorem two_new' (w:World) (A B:Array Value) (ta tb:TypeId) (q o:Nat):(((w.alloc (.cells A ta)).drewN q).alloc (.cells B tb)).cell? ⟨w.heap.size+1,o,none⟩=B[o]? :=two_new w A B ta tb q o
set_option maxRecDepth 100000 in
set_option maxHeartbeats 1000000 in
theorem get_ok (b num:Nat) (bm:Nat→Nat) (K:Know) (key:ByteArray) (w:World) (h:RepAt w b bm num K) (hK:KOk K) (hkey:keyB key=true) (hks:key.size≤8):
  Calls Qry.prog 22 #[.pointer (some ⟨b,0,none⟩),.string key] w fun e w'=>∃v',e= .returned (.tuple #[v',ctxV (K key).1,.int .i64 0])∧w'.ownsRow w.heap.size 71 3 v' (K key).2.length (flatV (K key).2)∧Below w.heap.size w w':=by
 obtain ⟨es,clock,hm,hk,hall,_⟩:=h.2.1 _ (segN_lt key)
 obtain ⟨sv,hent,hvs⟩:=hall key rfl
 obtain ⟨ad,cap,rfl,hcap⟩:=hvs.len
 have hlk: ∀W:World,W.heap[bm (segN key)]? =some (.map es clock)→(Instr.lookup 98 (.map (some (bm (segN key)))) (.string key) false).run Qry.prog W= .ok (stV (K key).1 (.slice ad (K key).2.length cap)) W:=fun W hW=>by
  rw [lookup_run W _ es clock key hW hk,hent]
 have hmlt:=(Array.getElem?_eq_some_iff.1 hm).1
 have hma: ∀X,(w.alloc X).heap[bm (segN key)]? =some (.map es clock):=fun X=>by
  rw [Below.heap_alloc _ _ _ hmlt];exact hm
 have HSeg:Hid (∀X,Calls Qry.prog 39 #[.pointer (some ⟨b,0,none⟩),.string key] (w.alloc X) fun e w'=>e= .returned (.map (some (bm (segN key))))∧∃q,w'=(w.alloc X).drewN q):=fun X=>segOf_any b num bm key _ (by unfold maxLen;omega) (h.below ((Below.refl _ _).alloc (Nat.le_refl _) X)).1
 have hck:=isKey_any key
 have HL:Hid ((K key).2.length≤100000):=Nat.le_trans (hK key).2.1 (by decide)
 have HS:Hid (∀v∈(K key).2,v.val.size≤281474976710656):=fun v hv=>by have:=(hK key).2.2.1 v hv;omega
 generalize (K key).1=c at*
 generalize (K key).2=l at*
 have HV:Hid _:=hvs
 have HCK:Hid _:=hck
 clear hvs hck hall hent hK h hm
 generalize bm (segN key)=bms at*
 go_enter Qry.func22,Qry.ntmps22
 go_wp2_with (first
  |(go_at_call 36;refine (HCK.out _ (by unfold maxLen;omega)).mono ?_;rw [hkey];rintro e w1 ⟨rfl,rfl⟩)
  |(go_at_call 39;refine Calls.mono (HSeg.out _) ?_;rintro e w0 ⟨rfl,q,rfl⟩))
 have hbn:w.heap.size+1≠w.heap.size:=by omega
 have HX:Hid (∀A B,VSl ((((w.alloc A).drewN q).alloc B).drew) (.slice ad l.length cap) l):=fun A B=>(show VSl ((((w.alloc A).drewN q).alloc B)) _ _ from World.ownsRow.alloc (show World.ownsRow ((w.alloc A).drewN q) 0 144 3 (.slice ad l.length cap) l.length (flatV l) from HV.out.alloc A) B).drew
 go_region_held3 (fun w'=>w'.cell? ⟨w.heap.size+1,0,none⟩=some (.int .i64 (c 0))∧w'.cell? ⟨w.heap.size+1,1,none⟩=some (.int .i64 (c 1))∧w'.cell? ⟨w.heap.size+1,2,none⟩=some (.int .i64 (c 2))∧w'.cell? ⟨w.heap.size+1,3,none⟩=some (.int .i64 (c 3))∧w'.cell? ⟨w.heap.size+1,4,none⟩=some (.slice ad l.length cap))
  (first|(simp [two_new'];done)|go_keep|(go_split_ands;exact ⟨cell_keep (by assumption) hb1,cell_keep (by assumption) hb1,cell_keep (by assumption) hb1,cell_keep (by assumption) hb1,cell_keep (by assumption) hb1⟩)|(go_split_ands;exact ⟨by rw [set_far hbn,set_far hbn,set_far hbn,set_far hbn];assumption,by rw [set_far hbn,set_far hbn,set_far hbn,set_far hbn];assumption,by rw [set_far hbn,set_far hbn,set_far hbn,set_far hbn];assumption,by rw [set_far hbn,set_far hbn,set_far hbn,set_far hbn];assumption,by rw [set_far hbn,set_far hbn,set_far hbn,set_far hbn];assumption⟩))
  (first|(go_at_call 43;refine (told_any _ l _ (HX.out _ _) HL.out HS.out).mono ?_;rintro e w1 ⟨v',rfl,hown,hb1⟩;obtain ⟨m0,m1,m2,m3⟩:=afterTold hb1;have HO:Hid _:=ownsRow_base hown (show w.heap.size+2≤_ by simp [World.drew]);have HB:Hid _:=m3;clear hown m3))
 all_goals
  go_wp2
  refine bodyPost_ret (v:= .tuple #[v',ctxV c,.int .i64 0]) ?_ rfl ⟨_,rfl,?_,?_⟩
  ·simp [results,Qry.results22,go_sem,m0]
  ·exact ownsRow_base (ownsRow_setCell_below (ownsRow_setCell_below (ownsRow_setCell_below (ownsRow_setCell_below HO.out (by simp) _) (by simp) _) (by simp) _) (by simp) _) (by omega)
  ·have base:Below w.heap.size w w1:=(((Below.refl _ _).alloc (Nat.le_refl _) _).alloc (by simp) _).trans (HB.out.mono (by omega))
   exact (((base.setCell (Nat.le_refl _) _).setCell (Nat.le_refl _) _).setCell (Nat.le_refl _) _).setCell (Nat.le_refl _) _
end Go.Proofs.YtldmcdeibiclkaaGreatDoorQ
end
