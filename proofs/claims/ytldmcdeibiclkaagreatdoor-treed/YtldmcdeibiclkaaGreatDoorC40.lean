/-
  Toward: treed_holds, each node's digest is that of its children's, for every argument of Treed. How many keys there can be; and how long the text of a segment can be.
  Contract: Replica.text: the text of a segment.
  Contract: tree.ofSegments of the lone one (a plain loop): the digests of so many segments.
  Contracts: tree.width, tree.Has, tree.ofNode, tree.ofParents, tree.Digest.
-/
import Derived.Test.YtldmcdeibiclkaaGreatDoorC39
set_option linter.unusedVariables false
set_option linter.unusedSimpArgs false
set_option maxRecDepth 4000
section
namespace Go.Proofs.YtldmcdeibiclkaaGreatDoorQ
open Go.RowKit
def codeL:List UInt8→Nat
 |[]=>0
 |b::l=>(b.toNat - 96)+27*codeL l
theorem codeL_lt: ∀l:List UInt8,(∀b∈l,keyByte b=true)→codeL l< 27 ^ l.length
 |[],_=>by simp [codeL]
 |b::l,h=>by
  have h1:=codeL_lt l fun x hx=>h x (by simp [hx])
  have h2:=h b (by simp)
  simp only [keyByte,decide_eq_true_eq] at h2
  rw [codeL,List.length_cons,Nat.pow_succ]
  omega
theorem codeL_inj: ∀l m:List UInt8,(∀b∈l,keyByte b=true)→(∀b∈m,keyByte b=true)→codeL l=codeL m→l=m
 |[],[],_,_,_=>rfl
 |[],b::m,_,h,e=>by
  have h2:=h b (by simp)
  simp only [keyByte,decide_eq_true_eq] at h2
  simp only [codeL] at e
  omega
 |b::l,[],h,_,e=>by
  have h2:=h b (by simp)
  simp only [keyByte,decide_eq_true_eq] at h2
  simp only [codeL] at e
  omega
 |b::l,c::m,h,h',e=>by
  have h2:=h b (by simp)
  have h3:=h' c (by simp)
  simp only [keyByte,decide_eq_true_eq] at h2 h3
  simp only [codeL] at e
  have e1:b.toNat=c.toNat:=by omega
  have e2:=codeL_inj l m (fun x hx=>h x (by simp [hx])) (fun x hx=>h' x (by simp [hx])) (by omega)
  rw [e2,UInt8.toNat_inj.1 e1]
theorem nodup_below: ∀(N:Nat) (l:List Nat),l.Nodup→(∀x∈l,x< N)→l.length≤N
 |0,l,_,h=>by
  cases l with
  |nil=>simp
  |cons x l=>exact absurd (h x (by simp)) (by omega)
 |N+1,l,hn,h=>by
  by_cases hm:N∈l
  ·have h1:=nodup_below N (l.erase N) (hn.erase N) fun x hx=>by
    have hx':=(hn.mem_erase_iff).1 hx
    have:=h x hx'.2
    have:=hx'.1
    omega
   rw [List.length_erase_of_mem hm] at h1
   omega
  ·have h1:=nodup_below N l hn fun x hx=>by
    have:=h x hx
    have:x≠N:=fun e=>hm (e ▸ hx)
    omega
   omega
theorem nodup_map {α β:Type} {f:α→β}: ∀{l:List α},l.Nodup→(∀x∈l,∀y∈l,f x=f y→x=y)→(l.map f).Nodup
 |[],_,_=>by simp
 |x::l,h,hi=>by
  rw [List.nodup_cons] at h
  rw [List.map_cons,List.nodup_cons]
  refine ⟨fun hm=>?_,nodup_map h.2 fun y hy z hz=>hi y (by simp [hy]) z (by simp [hz])⟩
  obtain ⟨y,hy,e⟩:=List.mem_map.1 hm
  have:=hi y (by simp [hy]) x (by simp) e
  exact h.1 (this ▸ hy)
theorem keyB_bytes {k:ByteArray} (h:keyB k=true):k.data.toList.length≤8∧∀b∈k.data.toList,keyByte b=true:=by
 simp only [keyB,Bool.and_eq_true,decide_eq_true_eq,List.all_eq_true] at h
 exact ⟨by rw [Array.length_toList];exact h.1.2,h.2⟩
theorem few_keys {es:List MapEntry} {Q:ByteArray→Prop} {clock:Nat} (h:Stamp Q es clock) (hQ: ∀k,Q k→keyB k=true):es.length≤282429536481:=by
 obtain ⟨h1,_,_,h4⟩:=h
 have hnd:(es.map fun e=>codeL (keyL e)).Nodup:=by
  rw [show (es.map fun e=>codeL (keyL e))=(es.map (·.key)).map fun v=>codeL (match v with| .string k=>k.data.toList|_=>[]) by rw [List.map_map];rfl]
  refine nodup_map h1 fun v hv v' hv' e=>?_
  obtain ⟨x,hx,rfl⟩:=List.mem_map.1 hv
  obtain ⟨x',hx',rfl⟩:=List.mem_map.1 hv'
  obtain ⟨k,hk,hq⟩:=h4 x hx
  obtain ⟨k',hk',hq'⟩:=h4 x' hx'
  rw [hk,hk'] at e ⊢
  have:=codeL_inj _ _ (keyB_bytes (hQ k hq)).2 (keyB_bytes (hQ k' hq')).2 e
  congr 1
  exact ByteArray.ext (Array.toList_inj.1 this)
 have:=nodup_below 282429536481 _ hnd fun x hx=>by
  obtain ⟨e,he,rfl⟩:=List.mem_map.1 hx
  obtain ⟨k,hk,hq⟩:=h4 e he
  have hb:=keyB_bytes (hQ k hq)
  have h5:=codeL_lt _ hb.2
  have h6:27 ^ k.data.toList.length≤27 ^ 8:=Nat.pow_le_pow_right (by omega) hb.1
  have h7:(27:Nat) ^ 8=282429536481:=by decide
  simp only [keyL,hk]
  omega
 simpa using this
theorem versB_bound {l:List Ver} (h: ∀v∈l,v.val.size≤12):(versB l).size≤18*l.length:=by
 have key: ∀(m:List Ver) (s:ByteArray),(∀v∈m,v.val.size≤12)→(m.foldl (fun s v=>s++verB v) s).size≤s.size+18*m.length:=fun m=>by
  induction m with
  |nil=>intro s _;simp
  |cons v m ih=>
   intro s hs
   have h1:=ih (s++verB v) fun x hx=>hs x (by simp [hx])
   have h2:=hs v (by simp)
   rw [ByteArray.size_append,verB_size] at h1
   rw [List.foldl_cons,List.length_cons]
   omega
 have:=key l ByteArray.empty h
 simpa [versB] using this
theorem segB_bound {l:List (ByteArray×Ctx×List Ver)} (h: ∀r∈l,r.1.size≤8∧r.2.2.length≤20∧∀v∈r.2.2,v.val.size≤12):(segB l).size≤389*l.length:=by
 have key: ∀(m:List (ByteArray×Ctx×List Ver)) (s:ByteArray),(∀r∈m,r.1.size≤8∧r.2.2.length≤20∧∀v∈r.2.2,v.val.size≤12)→(m.foldl (fun s r=>s++recB r.1 r.2.1 r.2.2) s).size≤s.size+389*m.length:=fun m=>by
  induction m with
  |nil=>intro s _;simp
  |cons r m ih=>
   intro s hs
   have h1:=ih (s++recB r.1 r.2.1 r.2.2) fun x hx=>hs x (by simp [hx])
   obtain ⟨h2,h3,h4⟩:=hs r (by simp)
   have h5:=versB_bound h4
   rw [ByteArray.size_append,recB_size] at h1
   rw [List.foldl_cons,List.length_cons]
   omega
 have:=key l ByteArray.empty h
 simpa [segB] using this
end Go.Proofs.YtldmcdeibiclkaaGreatDoorQ
end
section
namespace Go.Proofs.YtldmcdeibiclkaaGreatDoorQ
open Go.RowKit
open Go.Lib (strCells strCells_length strCells_oneCell Bytes)
theorem brow_convert {w:World} {B:Nat} {v:Value} {s:ByteArray} (h:BRow w B v s):(convert 48 9 v).run Qry.prog w= .ok (.string s) w:=by
 rcases h.2 with ⟨rfl,h0⟩|⟨g,cap,cur,rfl,_,hh,hn,_,hs,ht⟩
 ·obtain rfl:s=ByteArray.empty:=by
   apply ByteArray.ext
   have:s.data.size=0:=h0
   simpa using Array.eq_empty_of_size_eq_zero this
  simpa using Go.run_convert_bytes_nil (P:=Qry.prog) w 48 5 Qry.underlying48 Qry.underlying5 0 0 9 Qry.underlying9
 ·refine Go.Lib.run_convert_whole (P:=Qry.prog) w 48 5 9 Qry.underlying48 Qry.underlying5 Qry.underlying9 g 0 s (fun i hi=>?_) cap
  have e1:(strCells s)[i]? =some (.int .u8 (s[i].toNat:Int)):=by
   have hi':i< s.data.toList.length:=by rw [Array.length_toList];exact hi
   rw [strCells,List.getElem?_map,List.getElem?_eq_getElem hi']
   simp
   rfl
  rw [← ht,List.getElem?_take,if_pos (by omega)] at e1
  simpa [World.cell?,hh] using e1
def segEs (w:World) (m:Nat):List MapEntry:=match w.heap[m]? with
 |some (.map es _)=>es.toList
 |_=>[]
def textW (w:World) (bm:Nat→Nat) (K:Know) (n:Nat):ByteArray:=segB (recsOf K (segEs w (bm n)))
theorem textW_keep {w w':World} {bm:Nat→Nat} {K:Know} {n:Nat} (h:w'.heap[bm n]? =w.heap[bm n]?):textW w' bm K n=textW w bm K n:=by
 simp only [textW,segEs,h]
theorem recsOf_fine {K:Know} (hK:KOk K) {es:List MapEntry} {Q:ByteArray→Prop} {clock:Nat} (h:Stamp Q es clock) (hQ: ∀k,Q k→keyB k=true): ∀r∈recsOf K es,r.1.size≤8∧r.2.2.length≤20∧∀v∈r.2.2,v.val.size≤12:=fun r hr=>by
 obtain ⟨x,hx,rfl⟩:=List.mem_map.1 hr
 have:=keyB_bytes (names_keys (fun e he=>(h.2.2.2 e he).imp fun k hk=>⟨hk.1,hQ k hk.2⟩) hx)
 exact ⟨by simpa using this.1,(hK _).2.1,(hK _).2.2.1⟩
theorem recsOf_length (K:Know) (es:List MapEntry):(recsOf K es).length=es.length:=by
 rw [recsOf,List.length_map,(srt_perm _).length_eq,namesOf,List.length_map]
theorem textW_size {w:World} {b num:Nat} {bm:Nat→Nat} {K:Know} (h:RepAt w b bm num K) (hK:KOk K) {n:Nat} (hn:n< 64):(textW w bm K n).size≤109865089691109:=by
 obtain ⟨es,clock,hm,hk,hall,hst⟩:=h.2.1 n hn
 have h1:=segB_bound (recsOf_fine hK hst fun k h=>h.2.2)
 have h2:=few_keys hst fun k h=>h.2.2
 rw [recsOf_length] at h1
 simp only [textW,segEs,hm]
 omega
set_option maxRecDepth 100000 in
set_option maxHeartbeats 1000000 in
theorem text_any (b num n:Nat) (bm:Nat→Nat) (K:Know) (w:World) (h:RepAt w b bm num K) (hK:KOk K) (hn:n< 64):
  Calls Qry.prog 28 #[.pointer (some ⟨b,0,none⟩),.int .i64 n] w fun e w'=>e= .returned (.string (textW w bm K n))∧Below w.heap.size w w':=by
 have hc:=h.1.seg hn
 have hsz:=textW_size h hK hn
 obtain ⟨es,clock,hm,hk,hall,hst⟩:=h.2.1 n hn
 have HF:Hid (∀r∈recsOf K es.toList,r.1.size≤8∧r.2.2.length≤20∧∀v∈r.2.2,v.val.size≤12):=recsOf_fine hK hst fun k h=>h.2.2
 have h2:=few_keys hst fun k h=>h.2.2
 have HRec:Hid _:=records_any (bm n) n K w es clock hm hk hall hst (by rw [Array.length_toList] at h2;omega)
 have HT:Hid (textW w bm K n=segB (recsOf K es.toList)):=(show textW w bm K n=segB (recsOf K es.toList) by simp only [textW,segEs,hm])
 generalize textW w bm K n=tx at*
 have hl':(n:Int)< 64:=by omega
 have hl0:(0:Int)≤(n:Int):=by omega
 have hc':w.cell? ⟨b,1+n,none⟩=some (.map (some (bm n))):=by rw [Nat.add_comm];exact hc
 clear h hK hm hk hall hst h2 hc
 generalize bm n=m at*
 go_enter Qry.func28,Qry.ntmps28
 go_wp2_with (first
  |(go_at_call 49;refine Calls.mono HRec.out ?_;rintro e w1 ⟨rv,rs,rfl,hrow,hv,htri,hb1⟩;have HA:Hid _:=appendRecords_any w.heap.size rv rs w1 hrow (fun r hr=>⟨hv r hr,by have h3:=(HF.out (Rc.tri r) (by rw [← htri];exact List.mem_map_of_mem hr)).2.1;exact Nat.le_trans h3 (by decide)⟩) (by rw [recsB_seg,htri,← HT.out];omega);have HB1:Hid (Below w.heap.size w w1):=hb1;have HE:Hid (recsB rs=tx):=(show recsB rs=tx by rw [recsB_seg,htri,← HT.out]);clear hrow hv htri hb1)
  |(go_at_call 48;refine Calls.mono HA.out ?_;rintro e w2 ⟨v2,rfl,hrow2,hb2⟩;rw [HE.out] at hrow2;have hcv:=brow_convert hrow2;have HB2:Hid (Below w.heap.size w w2):=HB1.out.trans (hb2.mono HB1.out.size);clear hrow2 hb2))
 go_ret
 exact ⟨rfl,HB2.out⟩
end Go.Proofs.YtldmcdeibiclkaaGreatDoorQ
end
section
namespace Go.Proofs.YtldmcdeibiclkaaGreatDoorQ
open Go.RowKit
open Go.Lib (strCells strCells_length strCells_oneCell)
theorem Qry.infoU64:(Qry.prog.info? 44).map (fun i=>(i.zero,i.size,i.bytes))=some (some (.int .u64 0),1,8):=by kernel_rfl
def DRow (w:World) (B:Nat) (v:Value) (ds:List Int):Prop:=w.ownsRow B 44 1 v ds.length (ds.map (.int .u64))
theorem take_set1 {M:Array Value} {k:Nat} {xs:List Value} {x:Value} (hs:k< M.size) (h:M.toList.take k=xs):(M.setIfInBounds k x).toList.take (k+1)=xs++ [x]:=by
 subst h
 apply List.ext_getElem?
 intro t
 have hl:(M.toList.take k).length=k:=by simp;omega
 by_cases h1:t< k
 ·rw [List.getElem?_take,if_pos (by omega),List.getElem?_append_left (by omega),List.getElem?_take,if_pos h1]
  simp only [Array.getElem?_toList,Array.getElem?_setIfInBounds]
  rw [if_neg (by omega)]
 ·rw [List.getElem?_append_right (by omega),hl]
  by_cases h2:t=k
  ·subst h2
   rw [List.getElem?_take,if_pos (by omega)]
   simp only [Array.getElem?_toList,Array.getElem?_setIfInBounds]
   simp [hs]
  ·rw [List.getElem?_take,if_neg (by omega),List.getElem?_eq_none (by simp;omega)]
def DigRel (w:World) (f:Nat→Int) (n k:Nat) (wr:World):Prop:=
 ∃M:Array Value,wr.heap[w.heap.size]? =some (.cells M 44)∧M.size=n∧M.toList.take k=((List.range k).map f).map (.int .u64)∧Below w.heap.size w wr
theorem DigRel.row {w wr:World} {f:Nat→Int} {n:Nat} (h:DigRel w f n n wr) (hn:n≤maxLen):DRow wr w.heap.size (.slice (some ⟨w.heap.size,0,none⟩) n n) ((List.range n).map f):=by
 obtain ⟨M,h1,h2,h3,h4⟩:=h
 refine ⟨by simp,Or.inr ⟨w.heap.size,n,M,by simp,Nat.le_refl _,h1,by simp,hn,by omega,?_⟩⟩
 simpa using h3
theorem cell_there {w:World} {b k:Nat} {M:Array Value} {t:TypeId} (h:w.heap[b]? =some (.cells M t)) (hk:k< M.size):(∃x,w.cell? ⟨b,k,none⟩=some x)∧∀o,w.frozen? ⟨b,o,none⟩=false:=
 ⟨⟨M[k],by simp only [World.cell?,h];simp [hk]⟩,fun o=>by simp [World.frozen?,h]⟩
noncomputable def poolF:Func:={Tryz.f68 with ntmps:=20,results:=#[.tmp 6],body:=some YtldmcdeibiclkaaGreatDoor.U.poolBody}
theorem Qry.func68:Qry.prog.funcs[68]? =some poolF:=by
 rw [Qry.is,Qry.h_funcs,YtldmcdeibiclkaaGreatDoor.U.Gg,Array.getElem?_setIfInBounds_self,if_pos]
 ·rw [YtldmcdeibiclkaaGreatDoor.U.poolFn,Tryz.func68];rfl
 ·have:=Tryz.func68
  exact (Array.getElem?_eq_some_iff.1 this).1
theorem Qry.ntmps68:poolF.ntmps=20:=rfl
theorem Qry.results68:poolF.results=#[.tmp 6]:=rfl
attribute [local simp] Qry.results68
set_option maxRecDepth 100000 in
set_option maxHeartbeats 4000000 in
theorem ofSegments_any (b first c:Nat) (T:Nat→ByteArray) (w:World) (hT: ∀k:Nat,k< 64→∀W,Below w.heap.size w W→Calls Qry.prog 28 #[.pointer (some ⟨b,0,none⟩),.int .i64 k] W fun e w'=>e= .returned (.string (T k))∧Below W.heap.size W w')
  (hTs: ∀k,k< 64→(T k).size≤maxLen) (hc:c=1∨c=4∨c=16∨c=64) (hf:first+c≤64):
  Calls Qry.prog 68 #[.int .i64 first,.int .i64 c,.func (.func 28) #[.pointer (some ⟨b,0,none⟩)] #[]] w fun e w'=>∃v,e= .returned v∧DRow w' w.heap.size v ((List.range c).map fun i=>fnv (T (first+i)))∧Below w.heap.size w w':=by
 obtain ⟨i0,hi0,hz0,hz1,hz2⟩:=info_parts Qry.infoU64
 have hmk:=run_make (P:=Qry.prog) w 147 44 i0 _ Qry.underlying147 hi0 hz0 .i64 .i64 c c (by omega) (by omega) (by rw [hz2];omega) (by omega)
 rw [hz1] at hmk
 simp only [Int.toNat_natCast] at hmk
 have hM:=size_madeCells (Value.int .u64 0).cells (c*1)
 generalize madeCells (Value.int .u64 0).cells (c*1)=M at hmk hM
 have HM:Hid (M.size=c):=(show M.size=c by rw [hM,Nat.mul_one])
 have HT:Hid _:=hT
 have HTs:Hid _:=hTs
 clear hM hi0 hz0 hz1 hz2 hT hTs
 obtain ⟨b1,h1⟩: ∃x,((c:Int)==1)=x:=⟨_,rfl⟩
 obtain ⟨b2,h2⟩: ∃x,((c:Int)==4)=x:=⟨_,rfl⟩
 obtain ⟨b3,h3⟩: ∃x,((c:Int)==16)=x:=⟨_,rfl⟩
 obtain ⟨b4,h4⟩: ∃x,((c:Int)==64)=x:=⟨_,rfl⟩
 have HB:Hid ((b1||b2||b3||b4)=true):=(show (b1||b2||b3||b4)=true by
  rw [← h1,← h2,← h3,← h4]
  rcases hc with rfl|rfl|rfl|rfl<;> rfl)
 clear hc
 go_enter Qry.func68,Qry.ntmps68
 simp only [YtldmcdeibiclkaaGreatDoor.U.poolBody,YtldmcdeibiclkaaGreatDoor.U.qOp,YtldmcdeibiclkaaGreatDoor.U.qI,YtldmcdeibiclkaaGreatDoor.U.qU,YtldmcdeibiclkaaGreatDoor.U.qTest,YtldmcdeibiclkaaGreatDoor.U.qText,YtldmcdeibiclkaaGreatDoor.U.qSum]
 go_wp2
 all_goals
  clear h1 h2 h3 h4
  (try cases (show b1=true by assumption))
  (try cases (show b1=false by assumption))
  (try cases (show b2=true by assumption))
  (try cases (show b2=false by assumption))
  (try cases (show b3=true by assumption))
  (try cases (show b3=false by assumption))
  (try cases (show b4=true by assumption))
  (try cases (show b4=false by assumption))
 all_goals first
  |(exact absurd HB.out (by decide))
  |(exact absurd (show true=false by assumption) (by decide))
  |skip
 all_goals
  clear HB
  go_loopw [3] (fun i wr=>∃k:Nat,k≤c∧i= .int .i64 k∧Hid (DigRel w (fun i=>fnv (T (first+i))) c k wr)) (fun i _=>c - (intOf i).toNat)
  case atStart=>exact ⟨0,by omega,rfl,M,heap_alloc_new w _,HM.out,by simp,(Below.refl _ _).alloc (Nat.le_refl _) _⟩
  case round=>
   obtain ⟨k,hk,rfl,hrel⟩:=hrel
   by_cases hlt:k< c
   ·obtain ⟨M',hh,hms,htk,hb⟩:=hrel.out
    have hT1:=HT.out (first+k) (by omega)
    simp only [Int.natCast_add] at hT1
    have HT1:Hid (∀W,Below w.heap.size w W→Calls Qry.prog 28 #[.pointer (some ⟨b,0,none⟩),.int .i64 ((first:Int)+(k:Int))] W fun e w'=>e= .returned (.string (T (first+k)))∧Below W.heap.size W w'):=hT1
    have hsz:Hid ((T (first+k)).size≤maxLen):=HTs.out (first+k) (by omega)
    have HTk:Hid (((List.range (k+1)).map fun i=>fnv (T (first+i))).map (Value.int .u64)=((List.range k).map fun i=>fnv (T (first+i))).map (Value.int .u64)++ [.int .u64 (fnv (T (first+k)))]):=(show (((List.range (k+1)).map fun i=>fnv (T (first+i))).map (Value.int .u64))=_ by simp [List.range_succ])
    have hF:=fnvTo_range (T (first+k)) (T (first+k)).size
    have hF0:0≤fnv (T (first+k)):=hF.1
    have hF1:fnv (T (first+k))< 18446744073709551616:=hF.2
    clear hF hT1
    have HS:Hid (∀W,Calls Qry.prog 82 #[.string (T (first+k))] W fun e w'=>e= .returned (.int .u64 (fnv (T (first+k))))∧w'=W):=fun W=>sum_any _ W hsz.out
    generalize fnv (T (first+k))=F at*
    generalize T (first+k)=tx at*
    have HH:Hid (wr.heap[w.heap.size]? =some (.cells M' 44)∧M'.size=c∧M'.toList.take k=((List.range k).map fun i=>fnv (T (first+i))).map (.int .u64)∧Below w.heap.size w wr):=⟨hh,hms,htk,hb⟩
    have hbs:=hb.size
    have hbo:=(Array.getElem?_eq_some_iff.1 hh).1
    clear hh hms htk hb hrel
    have g63:(k:Int)< (c:Int):=by omega
    have k0:(0:Int)≤(k:Int):=by omega
    have f0:(0:Int)≤(first:Int):=by omega
    have fk:(first:Int)+(k:Int)< 64:=by omega
    go_wp2_with (first
     |(go_at_call 28;refine Calls.mono (HT1.out _ HH.out.2.2.2) ?_;rintro e w1 ⟨rfl,hb1⟩;have HB1:Hid (Below wr.heap.size wr w1):=hb1;clear hb1)
     |(go_at_call 28;refine Calls.mono (HT1.out _ (HH.out.2.2.2.trans (HB1.out.mono hbs))) ?_;rintro e w3 ⟨rfl,hb3⟩;have HB3:Hid (Below wr.heap.size wr w3):=HB1.out.trans (hb3.mono HB1.out.size);have m0:=heap_keep HH.out.1 HB3.out;obtain ⟨⟨x1,m1⟩,m2⟩:=cell_there (k:=k) m0 (by rw [HH.out.2.1];exact hlt);have HM0:Hid (w3.heap[w.heap.size]? =some (.cells M' 44)):=m0;clear hb3 m0)
     |(go_at_call 82;refine Calls.mono (HS.out _) ?_;rintro e w2 ⟨rfl,rfl⟩))
    refine ⟨⟨k+1,by omega,by go_num,_,heap_set HM0.out,by rw [Array.size_setIfInBounds];exact HH.out.2.1,?_,(HH.out.2.2.2.trans (HB3.out.mono hbs)).setCell (Nat.le_refl _) _⟩,by simp [intOf];omega⟩
    rw [HTk.out]
    exact take_set1 (by rw [HH.out.2.1];exact hlt) HH.out.2.2.1
   ·obtain rfl:k=c:=by omega
    have HR:Hid (DigRel w (fun i=>fnv (T (first+i))) k k wr):=hrel.out
    clear hrel
    go_wp2
    go_ret
    exact ⟨_,rfl,HR.out.row (by unfold maxLen;omega),HR.out.elim fun M' h=>h.2.2.2⟩
end Go.Proofs.YtldmcdeibiclkaaGreatDoorQ
end
section
namespace Go.Proofs.YtldmcdeibiclkaaGreatDoorQ
open Go.RowKit
open Go.Lib (strCells strCells_length strCells_oneCell)
theorem lt4' {n:Nat} (h:n≤3):n=0∨n=1∨n=2∨n=3:=by omega
theorem pow4_le {k:Nat} (h:k≤3):4 ^ k≤64∧1≤4 ^ k:=by
 rcases lt4' h with rfl|rfl|rfl|rfl<;> decide
set_option maxHeartbeats 1000000 in
theorem width_any (n:Nat) (hn:n≤3) (w:World):Calls Qry.prog 46 #[.int .i64 n] w fun e w'=>e= .returned (.int .i64 (4 ^ n:Nat))∧w'=w:=by
 go_enter Qry.func46,Qry.ntmps46
 go_wp2
 go_loop [3,5] (fun c i=>∃k:Nat,k≤n∧i= .int .i64 k∧c= .int .i64 (4 ^ k:Nat)) (fun _ i=>n - (intOf i).toNat)
 case atStart=>exact ⟨0,by omega,rfl,rfl⟩
 case round=>
  obtain ⟨k,hk,rfl,rfl⟩:=hrel
  by_cases hlt:k< n
  ·have g1:(k:Int)< (n:Int):=by omega
   have hp:=(pow4_le (k:=k) (by omega)).1
   have HP:Hid (4 ^ (k+1)=4 ^ k*4):=Nat.pow_succ ..
   generalize 4 ^ k=p at*
   go_wp2
   exact ⟨⟨k+1,by omega,by go_num,by rw [HP.out];go_num⟩,by simp [intOf];omega⟩
  ·obtain rfl:k=n:=by omega
   go_wp2
   go_ret
   exact ⟨rfl,rfl⟩
set_option maxRecDepth 100000 in
set_option maxHeartbeats 1000000 in
theorem has_any (l n:Nat) (hl:l≤4) (w:World):Calls Qry.prog 26 #[.int .i64 l,.int .i64 n] w fun e w'=>e= .returned (.bool (decide (l≤3∧n< 4 ^ l)))∧w'=w:=by
 have l0:(0:Int)≤(l:Int):=by omega
 have n0:(0:Int)≤(n:Int):=by omega
 by_cases h3:l≤3
 ·have l3:(l:Int)≤3:=by omega
  have HW:Hid (∀W,Calls Qry.prog 46 #[.int .i64 l] W fun e w'=>e= .returned (.int .i64 (4 ^ l:Nat))∧w'=W):=fun W=>width_any l h3 W
  have HD:Hid (decide (l≤3∧n< 4 ^ l)=decide (n< 4 ^ l)):=(show decide (l≤3∧n< 4 ^ l)=decide (n< 4 ^ l) by simp [h3])
  rw [HD.out]
  clear HD
  generalize 4 ^ l=p at*
  go_enter Qry.func26,Qry.ntmps26
  go_wp2_with (go_at_call 46;refine Calls.mono (HW.out _) ?_;rintro e w1 ⟨rfl,rfl⟩)
  go_ret
  exact ⟨rfl,rfl⟩
 ·obtain rfl:l=4:=by omega
  go_enter Qry.func26,Qry.ntmps26
  go_wp2
  go_ret
  exact ⟨rfl,rfl⟩
def nodeB (d:Nat→Int):Nat→ByteArray
 |0=>ByteArray.empty
 |k+1=>nodeB d k++digB (d k)
theorem digB_size (d:Int):(digB d).size=8:=digTo_size d 8
theorem nodeB_size (d:Nat→Int): ∀k,(nodeB d k).size=8*k
 |0=>rfl
 |k+1=>by rw [nodeB,ByteArray.size_append,nodeB_size d k,digB_size];omega
def nodeD (d:Nat→Int):Int:=fnv (nodeB d 4)
set_option maxRecDepth 100000 in
set_option maxHeartbeats 1000000 in
theorem ofNode_any (g off cap:Nat) (d:Nat→Int) (w:World) (hg:g< w.heap.size) (hc: ∀j,j< 4→w.cell? ⟨g,off+j,none⟩=some (.int .u64 (d j))) (hcap:(cap:Int)≤9223372036854775807):
  Calls Qry.prog 92 #[.slice (some ⟨g,off,none⟩) 4 cap] w fun e w'=>e= .returned (.int .u64 (nodeD d))∧Below w.heap.size w w':=by
 have HC:Hid _:=hc
 clear hc
 go_enter Qry.func92,Qry.ntmps92
 go_wp2
 go_loopw [3,8] (fun o i wr=>∃k:Nat,k≤4∧i= .int .i64 k∧Hid (BRow wr w.heap.size o (nodeB d k))∧Hid (Below w.heap.size w wr)) (fun _ i _=>4 - (intOf i).toNat)
 case atStart=>exact ⟨0,by omega,rfl,BRow.nil _ _,Below.refl _ _⟩
 case round=>
  obtain ⟨k,hk,rfl,hr,hb⟩:=hrel
  have HR:Hid (BRow wr w.heap.size u3 (nodeB d k)):=hr.out
  have HB:Hid (Below w.heap.size w wr):=hb.out
  have hsz:=hb.out.size
  clear hr hb
  by_cases hlt:k< 4
  ·have hcw:wr.cell? ⟨g,off+k,none⟩=some (.int .u64 (d k)):=(HB.out.cell (p:=⟨g,off+k,none⟩) hg).trans (HC.out k hlt)
   have g1:(k:Int)< 4:=by omega
   have g0:(0:Int)≤(k:Int):=by omega
   have HA:Hid _:=appendDigest_any w.heap.size u3 (nodeB d k) (d k) wr HR.out hsz (by rw [nodeB_size];omega)
   go_wp2_with (go_at_call 50;refine Calls.mono HA.out ?_;rintro e w1 ⟨v1,rfl,hr1,hg1⟩;have HR1:Hid (BRow w1 w.heap.size v1 (nodeB d (k+1))):=hr1;have HB1:Hid (Below w.heap.size w w1):=hg1.toBelow HB.out hsz HR.out;clear hr1 hg1)
   exact ⟨⟨k+1,by omega,by go_num,HR1.out,HB1.out⟩,by simp [intOf];omega⟩
  ·obtain rfl:k=4:=by omega
   have hcv:=brow_convert HR.out
   have HS:Hid (∀W,Calls Qry.prog 82 #[.string (nodeB d 4)] W fun e w'=>e= .returned (.int .u64 (nodeD d))∧w'=W):=fun W=>sum_any _ W (by rw [nodeB_size];decide)
   go_wp2_with (go_at_call 82;refine Calls.mono (HS.out _) ?_;rintro e w2 ⟨rfl,rfl⟩)
   go_ret
   exact ⟨rfl,HB.out⟩
theorem DRow.len {w:World} {B:Nat} {v:Value} {ds:List Int} (h:DRow w B v ds): ∃ad cap,v= .slice ad ds.length cap∧(cap:Int)≤9223372036854775807∧ds.length≤cap:=row_lenS h
theorem DRow.below {w w':World} {B:Nat} {v:Value} {ds:List Int} (h:DRow w B v ds) (hb:Below w.heap.size w w'):DRow w' B v ds:=ownsRow_below h hb (Nat.le_refl _)
set_option maxRecDepth 100000 in
set_option maxHeartbeats 4000000 in
theorem ofParents_any (B m:Nat) (v:Value) (f:Nat→Int) (w:World) (hm:1≤m∧m≤16) (h:DRow w B v ((List.range (m*4)).map f)):
  Calls Qry.prog 69 #[v] w fun e w'=>∃v',e= .returned v'∧DRow w' w.heap.size v' ((List.range m).map fun i=>nodeD fun j=>f (i*4+j))∧Below w.heap.size w w':=by
 obtain ⟨g,cap,rfl,hgl,hcells,hcap,hcl⟩: ∃g cap,v= .slice (some ⟨g,0,none⟩) (m*4) cap∧g< w.heap.size∧(∀k,k< m*4→w.cell? ⟨g,k,none⟩=some (.int .u64 (f k)))∧(cap:Int)≤9223372036854775807∧m*4≤cap:=by
  have hl:((List.range (m*4)).map f).length=m*4:=by simp
  have hget: ∀k,k< m*4→(((List.range (m*4)).map f).map (Value.int .u64))[k]? =some (.int .u64 (f k)):=fun k hk=>by simp [hk]
  unfold DRow at h
  rw [hl] at h
  obtain ⟨g,cap,hv,hg,_⟩:=row_cell1 h (hget 0 (by omega))
  obtain ⟨ad,cap',hv',hc1,hc2⟩:=row_lenS h
  rw [hv] at hv'
  cases hv'
  refine ⟨g,cap,hv,hg,fun k hk=>?_,hc1,hc2⟩
  obtain ⟨g',cap',hv',_,hc⟩:=row_cell1 h (hget k hk)
  rw [hv] at hv'
  cases hv'
  exact hc
 clear h
 obtain ⟨i0,hi0,hz0,hz1,hz2⟩:=info_parts Qry.infoU64
 have hmk:=run_make (P:=Qry.prog) w 147 44 i0 _ Qry.underlying147 hi0 hz0 .i64 .i64 m m (by omega) (by omega) (by rw [hz2];omega) (by omega)
 rw [hz1] at hmk
 simp only [Int.toNat_natCast] at hmk
 have hM:=size_madeCells (Value.int .u64 0).cells (m*1)
 generalize madeCells (Value.int .u64 0).cells (m*1)=M at hmk hM
 have HM:Hid (M.size=m):=(show M.size=m by rw [hM,Nat.mul_one])
 have HC:Hid _:=hcells
 clear hM hi0 hz0 hz1 hz2 hcells
 have hquo:Int.tdiv ((m*4:Nat):Int) 4=(m:Int):=by
  rw [Int.natCast_mul];exact Int.mul_tdiv_cancel _ (by decide)
 have hquo2:((m*4:Nat):Int) / 4=(m:Int):=by omega
 go_enter Qry.func69,Qry.ntmps69
 go_wp2
 clear hquo hquo2
 go_loopw [11] (fun i wr=>∃k:Nat,k≤m∧i= .int .i64 k∧Hid (DigRel w (fun i=>nodeD fun j=>f (i*4+j)) m k wr)) (fun i _=>m - (intOf i).toNat)
 case atStart=>exact ⟨0,by omega,rfl,M,heap_alloc_new w _,HM.out,by simp,(Below.refl _ _).alloc (Nat.le_refl _) _⟩
 case round=>
  obtain ⟨k,hk,rfl,hrel⟩:=hrel
  by_cases hlt:k< m
  ·obtain ⟨M',hh,hms,htk,hb⟩:=hrel.out
   have HTk:Hid (((List.range (k+1)).map fun i=>nodeD fun j=>f (i*4+j)).map (Value.int .u64)=((List.range k).map fun i=>nodeD fun j=>f (i*4+j)).map (Value.int .u64)++ [.int .u64 (nodeD fun j=>f (k*4+j))]):=(show (((List.range (k+1)).map fun i=>nodeD fun j=>f (i*4+j)).map (Value.int .u64))=_ by simp [List.range_succ])
   have HN:Hid _:=ofNode_any g (k*4) (cap - k*4) (fun j=>f (k*4+j)) wr (Nat.lt_of_lt_of_le hgl hb.size) (fun j hj=>(hb.cell (p:=⟨g,k*4+j,none⟩) hgl).trans (HC.out (k*4+j) (by omega))) (by omega)
   generalize (nodeD fun j=>f (k*4+j))=F at*
   have HH:Hid (wr.heap[w.heap.size]? =some (.cells M' 44)∧M'.size=m∧M'.toList.take k=((List.range k).map fun i=>nodeD fun j=>f (i*4+j)).map (.int .u64)∧Below w.heap.size w wr):=⟨hh,hms,htk,hb⟩
   have hbs:=hb.size
   have hbo:=(Array.getElem?_eq_some_iff.1 hh).1
   clear hh hms htk hb hrel
   have hsl: ∀W,(Instr.slice 147 (.slice (some ⟨g,0,none⟩) (m*4) cap) (some (.int .i64 ((k:Int)*4))) (some (.int .i64 (((k:Int)+1)*4))) none).run Qry.prog W= .ok (.slice (some ⟨g,k*4,none⟩) 4 (cap - k*4)) W:=fun W=>by
    have:=Go.Lib.run_slice_window (P:=Qry.prog) W 147 44 Qry.underlying147 Qry.sizeOf44 g 0 (m*4) cap (k*4) ((k+1)*4) (by omega) (by omega)
    rw [show (k+1)*4 - k*4=4 by omega,Nat.zero_add] at this
    simpa using this
   have g63:(k:Int)< (m:Int):=by omega
   have k0:(0:Int)≤(k:Int):=by omega
   go_wp2_with (go_at_call 92;refine Calls.mono HN.out ?_;rintro e w3 ⟨rfl,hb3⟩;have HB3:Hid (Below wr.heap.size wr w3):=hb3;have m0:=heap_keep HH.out.1 HB3.out;obtain ⟨⟨x1,m1⟩,m2⟩:=cell_there (k:=k) m0 (by rw [HH.out.2.1];exact hlt);have HM0:Hid (w3.heap[w.heap.size]? =some (.cells M' 44)):=m0;clear hb3 m0)
   refine ⟨⟨k+1,by omega,by go_num,_,heap_set HM0.out,by rw [Array.size_setIfInBounds];exact HH.out.2.1,?_,(HH.out.2.2.2.trans (HB3.out.mono hbs)).setCell (Nat.le_refl _) _⟩,by simp [intOf];omega⟩
   rw [HTk.out]
   exact take_set1 (by rw [HH.out.2.1];exact hlt) HH.out.2.2.1
  ·obtain rfl:k=m:=by omega
   have HR:Hid (DigRel w (fun i=>nodeD fun j=>f (i*4+j)) k k wr):=hrel.out
   clear hrel
   go_wp2
   go_ret
   exact ⟨_,rfl,HR.out.row (by unfold maxLen;omega),HR.out.elim fun M' h=>h.2.2.2⟩
end Go.Proofs.YtldmcdeibiclkaaGreatDoorQ
end
