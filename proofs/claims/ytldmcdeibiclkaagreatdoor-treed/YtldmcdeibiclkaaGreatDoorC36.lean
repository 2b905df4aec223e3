/-
  Toward: treed_holds, each node's digest is that of its children's, for every argument of Treed. Rows of bytes that a call builds by append: which blocks turn, and where the new row lies.
  Contracts: wire.AppendNumber, wire.appendText, wire.AppendDigest: bytes behind a row of bytes.
  Contracts: Record.appendTo, wire.AppendRecords: the bytes of records.
-/
import Derived.Deep.AppendLies
import Derived.Lib.AppendStr
import Derived.Lib.SlBytesRow
import Derived.Below
import Derived.Test.YtldmcdeibiclkaaGreatDoorC35
import Derived.Laws.BitsLemmas
set_option linter.unusedVariables false
set_option linter.unusedSimpArgs false
set_option maxRecDepth 4000
section
namespace Go.Proofs.YtldmcdeibiclkaaGreatDoorQ
open Go.RowKit
open Go.Lib (strCells strCells_length strCells_oneCell)
structure Grew (w w':World) (v v':Value):Prop where
 grown:w.grownBy w' v.ownBlock
 lies: ∀g,v'.ownBlock=some g→v.ownBlock=some g∨w.heap.size≤g
theorem Grew.refl (w:World) (v:Value):Grew w w v v:=⟨⟨rfl,rfl,rfl,Nat.le_refl _,fun _ _ _=>rfl⟩,fun _ h=>Or.inl h⟩
theorem Grew.trans {w w1 w2:World} {v v1 v2:Value} (h:Grew w w1 v v1) (h':Grew w1 w2 v1 v2):Grew w w2 v v2:=
 ⟨⟨h'.grown.os.trans h.grown.os,h'.grown.tape.trans h.grown.tape,h'.grown.output.trans h.grown.output,Nat.le_trans h.grown.size h'.grown.size,fun k hk hn=>(h'.grown.block k (Nat.lt_of_lt_of_le hk h.grown.size) fun e=>by
   rcases h.lies k e.symm with e1|e1
   ·exact hn e1.symm
   ·omega).trans (h.grown.block k hk hn)⟩,
  fun g hg=>by
   rcases h'.lies g hg with e1|e1
   ·exact h.lies g e1
   ·exact Or.inr (Nat.le_trans h.grown.size e1)⟩
theorem Grew.alloc {w w1:World} {v v1:Value} (h:Grew w w1 v v1) (o:Obj):Grew w (w1.alloc o) v v1:=
 ⟨⟨h.grown.os,h.grown.tape,h.grown.output,Nat.le_trans h.grown.size (by simp),fun k hk hn=>(Below.heap_alloc w1 o k (Nat.lt_of_lt_of_le hk h.grown.size)).trans (h.grown.block k hk hn)⟩,h.lies⟩
theorem Grew.below {w w1 w2:World} {v v1:Value} (h:Grew w w1 v v1) (hb:Below w1.heap.size w1 w2):Grew w w2 v v1:=
 ⟨⟨hb.os.trans h.grown.os,hb.tape.trans h.grown.tape,hb.output.trans h.grown.output,Nat.le_trans h.grown.size hb.size,fun k hk hn=>(hb.block k (Nat.lt_of_lt_of_le hk h.grown.size)).trans (h.grown.block k hk hn)⟩,h.lies⟩
theorem Grew.other {w w1:World} {v v1:Value} (h:Grew w w1 v v1) {B size n:Nat} {e:TypeId} {xs:List Value} (hr:w.ownsRow B e size v n xs) {b:Nat} {cs:Array Value} {t:TypeId} {fr:Nat×Nat} (hb:w.heap[b]? =some (.cells cs t fr)) (hne:t≠e):w1.heap[b]? =some (.cells cs t fr):=by
 rw [h.grown.block b (Array.getElem?_eq_some_iff.1 hb).1,hb]
 intro e1
 rcases hr.2 with ⟨rfl,_⟩|⟨g,cap,cur,rfl,_,hg,_⟩
 ·cases e1
 ·simp only [Value.ownBlock,Option.some.injEq] at e1
  subst e1
  rw [hb] at hg
  cases hg
  exact hne rfl
theorem Grew.map {w w1:World} {v v1:Value} (h:Grew w w1 v v1) {B size n:Nat} {e:TypeId} {xs:List Value} (hr:w.ownsRow B e size v n xs) {b:Nat} {es:Array MapEntry} {c:Nat} (hb:w.heap[b]? =some (.map es c)):w1.heap[b]? =some (.map es c):=by
 rw [h.grown.block b (Array.getElem?_eq_some_iff.1 hb).1,hb]
 intro e1
 rcases hr.2 with ⟨rfl,_⟩|⟨g,cap,cur,rfl,_,hg,_⟩
 ·cases e1
 ·simp only [Value.ownBlock,Option.some.injEq] at e1
  subst e1
  rw [hb] at hg
  cases hg
theorem Grew.nil {w w1:World} {v1:Value} (h:Grew w w1 (.slice none 0 0) v1):Below w.heap.size w w1:=
 ⟨h.grown.os,h.grown.tape,h.grown.output,h.grown.size,fun k hk=>h.grown.block k hk (by simp [Value.ownBlock])⟩
theorem Grew.toBelow {B:Nat} {w0 w w1:World} {v v1:Value} (h:Grew w w1 v v1) (hb:Below B w0 w) (hB:B≤w.heap.size) {size n:Nat} {e:TypeId} {xs:List Value} (hr:w.ownsRow B e size v n xs):Below B w0 w1:=
 hb.grown h.grown hB fun k hk=>by
  rcases hr.2 with ⟨rfl,_⟩|⟨g,cap,cur,rfl,hg,_⟩
  ·cases hk
  ·simp only [Value.ownBlock,Option.some.injEq] at hk;omega
section
variable {P:Program} (w:World)
theorem run_append_str (base:Nat) (t u ty e:TypeId) (i:TypeInfo) (ht:P.underlying t=some (.slice e)) (hu:P.underlying u=some .string) (hi:P.info? e=some i) (hz:i.zero=some (.int .u8 0))
  (hsize:i.size=1) (hby:i.bytes=1) (v:Value) (n:Nat) (xs:List Value) (hown:w.ownsRow base e 1 v n xs) (s:ByteArray) (h63:n+s.size≤maxLen) (hbytes:n+s.size≤140737488355328) (hbase:base≤w.heap.size):
  ∃v' w',(Builtin.append_ #[t,u] ty #[v,.string s]).run P w= .ok v' w'∧w'.ownsRow base e 1 v' (n+s.size) (xs++strCells s)∧Grew w w' v v':=by
 obtain ⟨v',w',hr,h2,h3,_⟩:=Go.Lib.run_append_own_string (P:=P) w base t u ty e i ht hu hi hz hsize hby v n xs hown s h63 hbytes hbase
 refine ⟨v',w',hr,h2,h3,fun g' hg'=>?_⟩
 rcases hown.2 with ⟨rfl,rfl⟩|⟨g,cap,cur,rfl,hbg,hg,hnc,hcm,hcs,htake⟩
 ·obtain ⟨v2,w2,hr2,h4,_⟩:=Go.Lib.run_append_own_string (P:=P) w w.heap.size t u ty e i ht hu hi hz hsize hby (.slice none 0 0) 0 xs ⟨hown.1,Or.inl ⟨rfl,rfl⟩⟩ s h63 hbytes (Nat.le_refl _)
  rw [hr] at hr2
  cases hr2
  right
  rcases h4.2 with ⟨rfl,_⟩|⟨g,cap,cur,rfl,hbg,_⟩
  ·cases hg'
  ·simp only [Value.ownBlock,Option.some.injEq] at hg';omega
 ·by_cases hroom:n+s.size≤cap
  ·have hcs':cur.size=cap:=by simpa using hcs
   have hr2:=Go.Lib.run_append_room_string (P:=P) w t u ty e i ht hu hi hsize g n cap cur hg s hroom (by omega)
   rw [hr] at hr2
   cases hr2
   exact Or.inl hg'
  ·have hxl:xs.length=n:=by simpa using hown.1
   have holds: ∀j u,xs[j]? =some u→w.cell? ((⟨g,0,none⟩:Addr).add j)=some u:=hown.cells (g:=g) rfl
   have hr2:=Go.Lib.run_append_grow_string (P:=P) w t u ty e i (.int .u8 0) ht hu hi hz ⟨g,0,none⟩ n cap xs (by rw [hsize];simpa using hxl) holds s (by omega) (by simp only [maxLen] at h63;omega) (by rw [hby];exact growslice_fits (by omega) (by omega))
   rw [hr] at hr2
   cases hr2
   simp only [Value.ownBlock,Option.some.injEq] at hg'
   right;omega
theorem wpList_append_str {ops:Array Oper} {rest:List Oper} {o:Oper} {a:Act} {Q:Exit→Act→World→Prop} (hgd:o.guard=none) (sl x:Operand) (t u:TypeId)
  (ho:o.op= .call {callee:= .builtin .append,args:=#[sl,x],argTypes:=#[t,u]})
  (base:Nat) (e:TypeId) (i:TypeInfo) (ht:P.underlying t=some (.slice e)) (hu:P.underlying u=some .string) (hi:P.info? e=some i) (hz:i.zero=some (.int .u8 0))
  (hsize:i.size=1) (hby:i.bytes=1)
  (v:Value) (n:Nat) (xs:List Value) (hs:a.eval sl=v) (hown:w.ownsRow base e 1 v n xs) (s:ByteArray) (hx:a.eval x= .string s)
  (h63:n+s.size≤maxLen) (hbytes:n+s.size≤140737488355328) (hbase:base≤w.heap.size)
  (h: ∀v' w',w'.ownsRow base e 1 v' (n+s.size) (xs++strCells s)→Grew w w' v v'→wpList P ops Q rest (a.put o.dst v') w'):wpList P ops Q (o::rest) a w:=by
 refine wpList_plain hgd fun K hK=>?_
 obtain ⟨v',w',hr,h2,h3⟩:=run_append_str (P:=P) w base t u o.type e i ht hu hi hz hsize hby v n xs hown s h63 hbytes hbase
 unfold Oper.wp execOp
 simp only [ho,resolve,invoke,builtin,Sem.run_bind,Sem.run_pure,Result.andThen_ok,List.map_toArray,List.map_cons,List.map_nil,hs,hx,hr]
 exact hK _ _ (h v' w' h2 h3)
theorem wpList_append_grew {ops:Array Oper} {rest:List Oper} {o:Oper} {a:Act} {Q:Exit→Act→World→Prop} (hgd:o.guard=none) (s x:Operand) (t:TypeId)
  (ho:o.op= .call {callee:= .builtin .append,args:=#[s,x],argTypes:=#[t,t]})
  (base:Nat) (e:TypeId) (i:TypeInfo) (z:Value) (size bytes:Nat) (ht:P.underlying t=some (.slice e)) (hi:P.info? e=some i) (hz:i.zero=some z)
  (hsize:i.size=size) (hby:i.bytes=bytes) (hzs:z.cells.size=size) (hsz:0< size)
  (v:Value) (n:Nat) (xs:List Value) (hs:a.eval s=v) (hown:w.ownsRow base e size v n xs)
  (ad:Addr) (m c:Nat) (news:List Value) (hx:a.eval x= .slice (some ad) m c) (hl:news.length=m*size) (hnews: ∀j u,news[j]? =some u→w.cell? (ad.add j)=some u) (h1: ∀u∈news,u.oneCell'=true)
  (hm:0< m) (h63:n+m≤maxLen) (hbytes:(n+m)*bytes≤140737488355328) (hbase:base≤w.heap.size)
  (h: ∀g cap w',w'.ownsRow base e size (.slice (some ⟨g,0,none⟩) (n+m) cap) (n+m) (xs++news)→Grew w w' v (.slice (some ⟨g,0,none⟩) (n+m) cap)→wpList P ops Q rest (a.put o.dst (.slice (some ⟨g,0,none⟩) (n+m) cap)) w'):wpList P ops Q (o::rest) a w:=
 wpList_append_lies w hgd s x t ho base e i z size bytes ht hi hz hsize hby hzs hsz v n xs hs hown ad m c news hx hl hnews h1 hm h63 hbytes hbase _ rfl fun g cap w' h2 h3 h4 _=>
  h g cap w' h2 ⟨h3,fun g' hg'=>by
   simp only [Value.ownBlock,Option.some.injEq] at hg'
   subst hg'
   rcases h4 with h4|h4
   ·exact Or.inl h4
   ·exact Or.inr (by omega)⟩
end
end Go.Proofs.YtldmcdeibiclkaaGreatDoorQ
end
section
namespace Go.Proofs.YtldmcdeibiclkaaGreatDoorQ
open Go.RowKit
open Go.Lib (strCells strCells_length strCells_oneCell)
theorem Qry.infoByte:(Qry.prog.info? 5).map (fun i=>(i.zero,i.size,i.bytes))=some (some (.int .u8 0),1,1):=by kernel_rfl
def BRow (w:World) (B:Nat) (v:Value) (s:ByteArray):Prop:=w.ownsRow B 5 1 v s.size (strCells s)
def byteOf (z:Int):UInt8:=UInt8.ofNat (z % 256).toNat
theorem byteOf_val (z:Int):((byteOf z).toNat:Int)=z % 256:=by
 have h1:=Int.emod_nonneg z (show (256:Int)≠0 by decide)
 have h2:=Int.emod_lt_of_pos z (show (0:Int)< 256 by decide)
 simp only [byteOf,UInt8.toNat_ofNat']
 omega
def numB (n:Int):ByteArray:=⟨#[byteOf (n / 16777216),byteOf (n / 65536),byteOf (n / 256),byteOf n]⟩
def oneB (n:Int):ByteArray:=⟨#[byteOf n]⟩
theorem numB_size (n:Int):(numB n).size=4:=rfl
theorem oneB_size (n:Int):(oneB n).size=1:=rfl
theorem strCells_append (a b:ByteArray):strCells (a++b)=strCells a++strCells b:=by
 simp [strCells,ByteArray.data_append]
theorem BRow.of {w:World} {B n:Nat} {v:Value} {s t:ByteArray} {xs:List Value} (h:w.ownsRow B 5 1 v (s.size+n) (strCells s++xs)) (hn:n=t.size) (hx:xs=strCells t):BRow w B v (s++t):=by
 subst hn hx
 unfold BRow
 rw [strCells_append,ByteArray.size_append]
 exact h
theorem BRow.nil (w:World) (B:Nat):BRow w B (.slice none 0 0) ByteArray.empty:=World.ownsRow_nil _ _ _ _
theorem BRow.below {w w':World} {B:Nat} {v:Value} {s:ByteArray} (h:BRow w B v s) (hb:Below w.heap.size w w'):BRow w' B v s:=ownsRow_below h hb (Nat.le_refl _)
theorem BRow.alloc {w:World} {B:Nat} {v:Value} {s:ByteArray} (h:BRow w B v s) (o:Obj):BRow (w.alloc o) B v s:=World.ownsRow.alloc h o
theorem BRow.len {w:World} {B:Nat} {v:Value} {s:ByteArray} (h:BRow w B v s): ∃ad cap,v= .slice ad s.size cap∧cap≤maxLen∧s.size≤cap:=by
 rcases h.2 with ⟨h1,h2⟩|⟨g,cap,cur,hv,_,_,h4,h3,_⟩
 ·exact ⟨_,_,by rw [h1,h2],by simp,by omega⟩
 ·exact ⟨_,_,hv,h3,h4⟩
theorem cells_numB (n:Int):strCells (numB n)= [.int .u8 (n / 16777216 % 256),.int .u8 (n / 65536 % 256),.int .u8 (n / 256 % 256),.int .u8 (n % 256)]:=by
 simp [strCells,numB,byteOf_val]
theorem cells_oneB (n:Int):strCells (oneB n)= [.int .u8 (n % 256)]:=by
 simp [strCells,oneB,byteOf_val]
set_option maxRecDepth 100000 in
set_option maxHeartbeats 400000 in
theorem appendNumber_any (B:Nat) (v:Value) (s:ByteArray) (n:Int) (w:World) (h:BRow w B v s) (hB:B≤w.heap.size) (hlen:s.size+4≤140737488355328):
  Calls Qry.prog 94 #[v,.int .i64 n] w fun e w'=>∃v',e= .returned v'∧BRow w' B v' (s++numB n)∧Grew w w' v v':=by
 obtain ⟨i0,hi0,hz0,hz1,hz2⟩:=info_parts Qry.infoByte
 have H:Hid (BRow w B v s):=h
 clear h
 go_enter Qry.func94,Qry.ntmps94
 go_wp2_with (at_builtin;refine wpList_append_grew _ rfl _ _ _ rfl B 5 i0 _ 1 1 Qry.underlying48 hi0 hz0 hz1 hz2 rfl (by omega) v _ _ rfl (World.ownsRow.alloc H.out _) ⟨w.heap.size,0,none⟩ 4 4 _ rfl (by rfl) (World.news_of_block (heap_alloc_new w _)) (by simp [Value.oneCell']) (by omega) (by unfold maxLen;omega) (by omega) (by simp;omega) ?_;intro g capn w1 hown hgr)
 go_ret
 refine ⟨_,rfl,BRow.of hown rfl ?_,(((Grew.refl w v).alloc _).trans hgr)⟩
 rw [cells_numB]
set_option maxRecDepth 100000 in
set_option maxHeartbeats 400000 in
theorem appendText_any (B:Nat) (v:Value) (s t:ByteArray) (w:World) (h:BRow w B v s) (hB:B≤w.heap.size) (hlen:s.size+1+t.size≤140737488355328):
  Calls Qry.prog 93 #[v,.string t] w fun e w'=>∃v',e= .returned v'∧BRow w' B v' (s++(oneB t.size++t))∧Grew w w' v v':=by
 obtain ⟨i0,hi0,hz0,hz1,hz2⟩:=info_parts Qry.infoByte
 have H:Hid (BRow w B v s):=h
 clear h
 go_enter Qry.func93,Qry.ntmps93
 go_wp2_with (first
  |(at_builtin;refine wpList_append_grew _ rfl _ _ _ rfl B 5 i0 _ 1 1 Qry.underlying48 hi0 hz0 hz1 hz2 rfl (by omega) v _ _ rfl (World.ownsRow.alloc H.out _) ⟨w.heap.size,0,none⟩ 1 1 _ rfl (by rfl) (World.news_of_block (heap_alloc_new w _)) (by simp [Value.oneCell']) (by omega) (by unfold maxLen;omega) (by omega) (by simp;omega) ?_;intro g capn w1 hown hgr;have HO:Hid _:=hown;have HG:Hid _:=hgr;clear hown hgr)
  |(at_builtin;refine wpList_append_str _ rfl _ _ _ _ rfl B 5 i0 Qry.underlying48 Qry.underlying9 hi0 hz0 hz1 hz2 _ _ _ rfl HO.out t rfl (by unfold maxLen;omega) (by omega) (by have:=HG.out.grown.size;simp at this;omega) ?_;intro v2 w2 hown2 hgr2))
 go_ret
 refine ⟨_,rfl,?_,(((Grew.refl w v).alloc _).trans HG.out).trans hgr2⟩
 rw [List.append_assoc,Nat.add_assoc] at hown2
 refine BRow.of hown2 (by rw [ByteArray.size_append,oneB_size]) ?_
 rw [strCells_append,cells_oneB]
def digTo (d:Int):Nat→ByteArray
 |0=>ByteArray.empty
 |k+1=>digTo d k++oneB (d / 2 ^ (56 - 8*k))
def digB (d:Int):ByteArray:=digTo d 8
theorem digTo_size (d:Int): ∀k,(digTo d k).size=k
 |0=>rfl
 |k+1=>by rw [digTo,ByteArray.size_append,digTo_size d k,oneB_size]
theorem ba_empty (s:ByteArray):s++ByteArray.empty=s:=by
 apply ByteArray.ext;simp
theorem ba_assoc (a b c:ByteArray):a++b++c=a++(b++c):=by
 apply ByteArray.ext;simp [ByteArray.data_append]
set_option maxRecDepth 100000 in
set_option maxHeartbeats 1000000 in
theorem appendDigest_any (B:Nat) (v:Value) (s:ByteArray) (d:Int) (w:World) (h:BRow w B v s) (hB:B≤w.heap.size) (hlen:s.size+8≤140737488355328):
  Calls Qry.prog 50 #[v,.int .u64 d] w fun e w'=>∃v',e= .returned v'∧BRow w' B v' (s++digB d)∧Grew w w' v v':=by
 obtain ⟨i0,hi0,hz0,hz1,hz2⟩:=info_parts Qry.infoByte
 have H:Hid (BRow w B v s):=h
 clear h
 go_enter Qry.func50,Qry.ntmps50
 go_wp2
 go_loopw [0,5] (fun o i wr=>∃k:Nat,k≤8∧i= .int .i64 (56 - 8*(k:Int))∧Hid (BRow wr B o (s++digTo d k))∧Hid (Grew w wr v o)) (fun _ i _=>((intOf i)+8).toNat)
 case atStart=>exact ⟨0,by omega,rfl,by show BRow _ _ _ _;rw [digTo,ba_empty];exact H.out,Grew.refl w v⟩
 case round=>
  obtain ⟨k,hk,rfl,hrow,hgr⟩:=hrel
  by_cases hlt:k< 8
  ·have g1:(0:Int)≤56 - 8*(k:Int):=by omega
   have g2:56 - 8*(k:Int)≤64:=by omega
   have hsz:B≤wr.heap.size:=by have:=hgr.out.grown.size;omega
   have hl2:(s++digTo d k).size+1≤140737488355328:=by rw [ByteArray.size_append,digTo_size];omega
   have HN:Hid ((56 - 8*(k:Int)).toNat=56 - 8*k):=(show (56 - 8*(k:Int)).toNat=56 - 8*k by omega)
   have HR:Hid (BRow wr B u0 (s++digTo d k)):=hrow.out
   have HG:Hid (Grew w wr v u0):=hgr.out
   clear hrow hgr
   generalize hst:s++digTo d k=st at*
   have HST:Hid (st=s++digTo d k):=hst.symm
   clear hst
   go_wp2_with (at_builtin;refine wpList_append_grew _ rfl _ _ _ rfl B 5 i0 _ 1 1 Qry.underlying48 hi0 hz0 hz1 hz2 rfl (by omega) u0 _ _ rfl (World.ownsRow.alloc HR.out _) ⟨wr.heap.size,0,none⟩ 1 1 _ rfl (by rfl) (World.news_of_block (heap_alloc_new wr _)) (by simp [Value.oneCell']) (by omega) (by unfold maxLen;omega) (by omega) (by simp;omega) ?_;intro g capn w1 hown hgr1)
   refine ⟨⟨k+1,by omega,by go_num,?_,(HG.out.alloc _).trans hgr1⟩,by simp [intOf];omega⟩
   show BRow _ _ _ _
   rw [digTo,← ba_assoc,← HST.out]
   refine BRow.of hown rfl ?_
   rw [cells_oneB,← HN.out]
  ·obtain rfl:k=8:=by omega
   have HR:Hid (BRow wr B u0 (s++digTo d 8)):=hrow.out
   have HG:Hid (Grew w wr v u0):=hgr.out
   clear hrow hgr
   go_wp2
   go_ret
   exact ⟨_,rfl,HR.out,HG.out⟩
end Go.Proofs.YtldmcdeibiclkaaGreatDoorQ
end
section
namespace Go.Proofs.YtldmcdeibiclkaaGreatDoorQ
open Go.RowKit
open Go.Lib (strCells strCells_length strCells_oneCell)
def txtB (t:ByteArray):ByteArray:=oneB t.size++t
def ctxTo (c:Ctx):Nat→ByteArray
 |0=>ByteArray.empty
 |k+1=>ctxTo c k++numB (c k)
def ctxB (c:Ctx):ByteArray:=ctxTo c 4
def verB (v:Ver):ByteArray:=oneB v.rep++(numB v.n++txtB v.val)
def versB (l:List Ver):ByteArray:=l.foldl (fun s v=>s++verB v) ByteArray.empty
def recB (key:ByteArray) (c:Ctx) (l:List Ver):ByteArray:=txtB key++(ctxB c++(numB l.length++versB l))
theorem txtB_size (t:ByteArray):(txtB t).size=1+t.size:=by rw [txtB,ByteArray.size_append,oneB_size]
theorem ctxTo_size (c:Ctx): ∀k,(ctxTo c k).size=4*k
 |0=>rfl
 |k+1=>by rw [ctxTo,ByteArray.size_append,ctxTo_size c k,numB_size];omega
theorem verB_size (v:Ver):(verB v).size=6+v.val.size:=by
 rw [verB,ByteArray.size_append,ByteArray.size_append,oneB_size,numB_size,txtB_size];omega
theorem versB_snoc (l:List Ver) (v:Ver):versB (l++ [v])=versB l++verB v:=by
 simp [versB,List.foldl_append]
theorem versB_take {l:List Ver} {k:Nat} (h:k< l.length):versB (l.take (k+1))=versB (l.take k)++verB l[k]:=by
 rw [List.take_succ_eq_append_getElem h,versB_snoc]
theorem versB_le (l:List Ver): ∀k,(versB (l.take k)).size≤(versB l).size:=fun k=>by
 have key: ∀(m:List Ver) (s:ByteArray),s.size≤(m.foldl (fun s v=>s++verB v) s).size:=fun m=>by
  induction m with
  |nil=>intro s;exact Nat.le_refl _
  |cons v m ih=>intro s;refine Nat.le_trans ?_ (ih (s++verB v));rw [ByteArray.size_append];omega
 conv=>rhs;rw [← List.take_append_drop k l]
 rw [versB,versB,List.foldl_append]
 exact key _ _
theorem recB_size (key:ByteArray) (c:Ctx) (l:List Ver):(recB key c l).size=21+key.size+(versB l).size:=by
 simp only [recB,ctxB,ByteArray.size_append,txtB_size,ctxTo_size,numB_size];omega
def encR (key:ByteArray) (c:Ctx) (sv:Value):List Value:=[.string key,.int .i64 (c 0),.int .i64 (c 1),.int .i64 (c 2),.int .i64 (c 3),sv]
theorem VSl.grew {w w':World} {B:Nat} {v v':Value} {s:ByteArray} {sv:Value} {l:List Ver} (h:VSl w sv l) (hr:BRow w B v s) (hg:Grew w w' v v'):VSl w' sv l:=by
 refine ⟨h.1,?_⟩
 rcases h.2 with h2|⟨g,cap,cur,hv,hb,hh,r⟩
 ·exact Or.inl h2
 ·exact Or.inr ⟨g,cap,cur,hv,hb,hg.other hr hh (by decide),r⟩
theorem cells_at {w:World} {b:Nat} {cs:Array Value} {t:TypeId} {fr:Nat×Nat} (h:w.heap[b]? =some (.cells cs t fr)) (o:Nat):w.cell? ⟨b,o,none⟩=cs[o]? :=by
 simp [World.cell?,h]
theorem alloc_new1 (w:World) (x o:Obj):((w.alloc x).alloc o).heap[w.heap.size+1]? =some o:=by
 have:=heap_alloc_new (w.alloc x) o
 simpa using this
set_option maxRecDepth 100000 in
set_option maxHeartbeats 4000000 in
theorem appendTo_any (B:Nat) (v:Value) (s key:ByteArray) (c:Ctx) (sv:Value) (l:List Ver) (w:World) (h:BRow w B v s) (hB:B≤w.heap.size) (hv:VSl w sv l) (hl:l.length≤100000) (hlen:s.size+(recB key c l).size≤140737488355328):
  Calls Qry.prog 70 #[.agg (encR key c sv).toArray,v] w fun e w'=>∃v',e= .returned v'∧BRow w' B v' (s++recB key c l)∧Grew w w' v v':=by
 obtain ⟨i0,hi0,hz0,hz1,hz2⟩:=info_parts Qry.infoByte
 rw [recB_size] at hlen
 obtain ⟨ad,cap,rfl,hcap⟩: ∃ad cap,sv= .slice ad l.length cap∧(cap:Int)≤9223372036854775807:=by
  rcases hv.2 with ⟨h1,h2⟩|⟨g,cap,cur,hv,_,_,_,h3,_⟩
  ·exact ⟨_,_,by rw [h1,h2],by simp⟩
  ·exact ⟨_,_,hv,by unfold maxLen at h3;omega⟩
 have H:Hid (BRow w B v s):=h
 have HV:Hid (VSl w (.slice ad l.length cap) l):=hv
 clear h hv
 have hb0:=heap_alloc_new w (.cells #[.string key,.int .i64 (c 0),.int .i64 (c 1),.int .i64 (c 2),.int .i64 (c 3),.slice ad l.length cap] 151)
 have HBx:Hid ((w.alloc (.cells #[.string key,.int .i64 (c 0),.int .i64 (c 1),.int .i64 (c 2),.int .i64 (c 3),.slice ad l.length cap] 151)).heap[w.heap.size]? =some (.cells #[.string key,.int .i64 (c 0),.int .i64 (c 1),.int .i64 (c 2),.int .i64 (c 3),.slice ad l.length cap] 151)):=hb0
 clear hb0
 have HA:Hid (BRow (w.alloc (.cells #[.string key,.int .i64 (c 0),.int .i64 (c 1),.int .i64 (c 2),.int .i64 (c 3),.slice ad l.length cap] 151)) B v s):=H.out.alloc _
 have HGA:Hid (Grew w (w.alloc (.cells #[.string key,.int .i64 (c 0),.int .i64 (c 1),.int .i64 (c 2),.int .i64 (c 3),.slice ad l.length cap] 151)) v v):=(Grew.refl w v).alloc _
 simp only [encR]
 go_enter Qry.func70,Qry.ntmps70
 go_wp2_with (go_at_call 93;refine (appendText_any B v s key _ HA.out (by simp;omega) (by omega)).mono ?_;rintro e w1 ⟨v1,rfl,hr1,hg1⟩;have hb1:=hg1.other HA.out HBx.out (by decide);have k1:=cells_at hb1 1;have k2:=cells_at hb1 2;have k3:=cells_at hb1 3;have k4:=cells_at hb1 4;have HB1:Hid (w1.heap[w.heap.size]? =some (.cells #[.string key,.int .i64 (c 0),.int .i64 (c 1),.int .i64 (c 2),.int .i64 (c 3),.slice ad l.length cap] 151)):=hb1;have HR1:Hid (BRow w1 B v1 (s++txtB key)):=hr1;have HG1:Hid (Grew w w1 v v1):=HGA.out.trans hg1;simp at k1 k2 k3 k4;clear hb1 hr1 hg1)
 have HKs:Hid (w1.cell? ⟨w.heap.size,1,none⟩=some (.int .i64 (c 0))∧w1.cell? ⟨w.heap.size,2,none⟩=some (.int .i64 (c 1))∧w1.cell? ⟨w.heap.size,3,none⟩=some (.int .i64 (c 2))∧w1.cell? ⟨w.heap.size,4,none⟩=some (.int .i64 (c 3))):=⟨k1,k2,k3,k4⟩
 clear k1 k2 k3 k4
 go_loopw [1,16] (fun o i wr=>∃k:Nat,k≤4∧i= .int .i64 k∧Hid (BRow wr B o (s++txtB key++ctxTo c k))∧Hid (Grew w wr v o)∧Hid (wr.heap[w.heap.size]? =some (.cells #[.string key,.int .i64 (c 0),.int .i64 (c 1),.int .i64 (c 2),.int .i64 (c 3),.slice ad l.length cap] 151))) (fun _ i _=>4 - (intOf i).toNat)
 case atStart=>exact ⟨0,by omega,rfl,by show BRow _ _ _ _;rw [ctxTo,ba_empty];exact HR1.out,HG1.out,HB1.out⟩
 case round=>
  obtain ⟨k,hk,rfl,hr,hg,hb⟩:=hrel
  have hsz:B≤wr.heap.size:=by have:=hg.out.grown.size;omega
  have HR:Hid (BRow wr B u1 (s++txtB key++ctxTo c k)):=hr.out
  have HG:Hid (Grew w wr v u1):=hg.out
  have HB:Hid (wr.heap[w.heap.size]? =some (.cells #[.string key,.int .i64 (c 0),.int .i64 (c 1),.int .i64 (c 2),.int .i64 (c 3),.slice ad l.length cap] 151)):=hb.out
  clear hr hg hb
  have hls:(s++txtB key++ctxTo c k).size+4≤140737488355328:=by rw [ByteArray.size_append,ByteArray.size_append,txtB_size,ctxTo_size];omega
  by_cases hlt:k< 4
  ·have HS:Hid (∀n:Int,n=c k→s++txtB key++ctxTo c k++numB n=s++txtB key++ctxTo c (k+1)):=fun n hn=>by rw [hn,ctxTo,ba_assoc]
   generalize hst:s++txtB key++ctxTo c k=st at*
   clear hst
   rcases lt4 hlt with rfl|rfl|rfl|rfl
   all_goals
    have hix:=index4
    go_wp2_with (go_at_call 94;refine (appendNumber_any B u1 st _ wr HR.out hsz hls).mono ?_;rintro e w2 ⟨v2,rfl,hr2,hg2⟩;have hb2:=hg2.other HR.out HB.out (by decide);have HB2:Hid (w2.heap[w.heap.size]? =some (.cells #[.string key,.int .i64 (c 0),.int .i64 (c 1),.int .i64 (c 2),.int .i64 (c 3),.slice ad l.length cap] 151)):=hb2;have HR2:Hid _:=hr2;have HG2:Hid (Grew w w2 v v2):=HG.out.trans hg2;clear hb2 hr2 hg2)
    have hr3:=HR2.out
    rw [HS.out _ rfl] at hr3
    exact ⟨⟨_,by omega,by go_num,hr3,HG2.out,HB2.out⟩,by simp [intOf]⟩
  ·obtain rfl:k=4:=by omega
   have HRc:Hid (BRow wr B u1 (s++txtB key++ctxB c)):=HR.out
   clear HR
   have hls':(s++txtB key++ctxB c).size+4+(versB l).size≤140737488355328:=by rw [ByteArray.size_append,ByteArray.size_append,txtB_size,ctxB,ctxTo_size];omega
   clear hls
   have k5:=cells_at HB.out 5
   simp at k5
   have HVr:Hid (VSl wr (.slice ad l.length cap) l):=HV.out.grew H.out HG.out
   have HE:Hid (s++txtB key++ctxB c++(numB l.length++versB l)=s++recB key c l):=(show s++txtB key++ctxB c++(numB l.length++versB l)=s++recB key c l by simp only [recB,ba_assoc])
   generalize hst:s++txtB key++ctxB c=st at*
   clear hst
   go_wp2_with (go_at_call 94;refine (appendNumber_any B u1 st _ wr HRc.out hsz (by omega)).mono ?_;rintro e w2 ⟨v2,rfl,hr2,hg2⟩;have hb2:=hg2.other HRc.out HB.out (by decide);have k6:=cells_at hb2 5;simp at k6;have HR2:Hid (BRow w2 B v2 (st++numB l.length)):=hr2;have HV2:Hid (VSl w2 (.slice ad l.length cap) l):=HVr.out.grew HRc.out hg2;have HG2:Hid (Grew w w2 v v2):=HG.out.trans hg2;clear hb2 hr2 hg2)
   have HS2:Hid (s++recB key c l=st++numB l.length++versB l):=(show s++recB key c l=st++numB l.length++versB l by rw [← HE.out,ba_assoc])
   clear HE HV HVr HRc HB k5 k6 HG
   have hsz2:B≤w2.heap.size:=by have:=HG2.out.grown.size;omega
   have hl2:(st++numB l.length).size+(versB l).size≤140737488355328:=by rw [ByteArray.size_append,numB_size];omega
   generalize hsu:st++numB l.length=su at*
   clear hsu
   go_loopw [1,33] (fun o i wz=>∃k:Nat,k≤l.length∧i= .int .i64 k∧Hid (BRow wz B o (su++versB (l.take k)))∧Hid (Grew w2 wz v2 o)) (fun _ i _=>l.length - (intOf i).toNat)
   case atStart=>exact ⟨0,by omega,rfl,by show BRow _ _ _ _;rw [List.take_zero,show versB []=ByteArray.empty from rfl,ba_empty];exact HR2.out,Grew.refl _ _⟩
   case round=>
    obtain ⟨k,hk,rfl,hr,hg⟩:=hrel
    have hsz:B≤wr.heap.size:=by have:=hg.out.grown.size;omega
    have HR:Hid (BRow wr B u1 (su++versB (l.take k))):=hr.out
    have HG:Hid (Grew w2 wr v2 u1):=hg.out
    clear hr hg
    by_cases hlt:k< l.length
    ·have HVz:VSl wr (.slice ad l.length cap) l:=HV2.out.grew HR2.out HG.out
     obtain ⟨g,cap',hsv',hgl,_,_,c0,c1,c2⟩:=VSl.cells HVz hlt
     cases hsv'
     have htk:=versB_le l (k+1)
     rw [versB_take hlt,ByteArray.size_append,verB_size] at htk
     have HT:Hid (su++versB (l.take k)++verB l[k]=su++versB (l.take (k+1))):=(show su++versB (l.take k)++verB l[k]=su++versB (l.take (k+1)) by rw [versB_take hlt,ba_assoc])
     have hls:(su++versB (l.take k)).size+6+l[k].val.size≤140737488355328:=by rw [ByteArray.size_append];omega
     clear htk HVz
     have HVe:Hid (verB l[k]=oneB l[k].rep++(numB l[k].n++txtB l[k].val)):=rfl
     generalize su++versB (l.take k)=sk at*
     generalize verB l[k]=vb at*
     generalize l[k].rep=r at*
     generalize l[k].n=n at*
     generalize l[k].val=val at*
     have g63:(k:Int)< (l.length:Int):=by omega
     have k0:(0:Int)≤(k:Int):=by omega
     have HRa:Hid (BRow (wr.alloc (.cells #[.int .i64 r,.int .i64 n,.string val] 144)) B u1 sk):=HR.out.alloc _
     have HBa:Hid ((wr.alloc (.cells #[.int .i64 r,.int .i64 n,.string val] 144)).heap[wr.heap.size]? =some (.cells #[.int .i64 r,.int .i64 n,.string val] 144)):=heap_alloc_new wr _
     go_wp2_with (first
      |(at_builtin;refine wpList_append_grew _ rfl _ _ _ rfl B 5 i0 _ 1 1 Qry.underlying48 hi0 hz0 hz1 hz2 rfl (by omega) u1 _ _ rfl (World.ownsRow.alloc HRa.out _) ⟨wr.heap.size+1,0,none⟩ 1 1 _ rfl (by rfl) (World.news_of_block (alloc_new1 wr _ _)) (by simp [Value.oneCell']) (by omega) (by unfold maxLen;omega) (by omega) (by simp;omega) ?_;intro g3 cap3 w3 hown3 hgr3;have HR3:Hid (BRow w3 B _ (sk++oneB r)):=BRow.of hown3 rfl (cells_oneB r).symm;have HG3:Hid (Grew wr w3 u1 _):=(((Grew.refl wr u1).alloc _).alloc _).trans hgr3;have hb3:=hgr3.other (World.ownsRow.alloc HRa.out _) ((Below.heap_alloc _ _ _ (by simp)).trans HBa.out) (by decide);have k7:=cells_at hb3 1;simp at k7;have hsz3:B≤w3.heap.size:=Nat.le_trans hsz HG3.out.grown.size;have HB3:Hid (w3.heap[wr.heap.size]? =some (.cells #[.int .i64 r,.int .i64 n,.string val] 144)):=hb3;clear hown3 hgr3 hb3)
      |(go_at_call 94;refine (appendNumber_any B _ _ _ w3 HR3.out hsz3 (by rw [ByteArray.size_append,oneB_size];omega)).mono ?_;rintro e w4 ⟨v4,rfl,hr4,hg4⟩;have hb4:=hg4.other HR3.out HB3.out (by decide);have k8:=cells_at hb4 2;simp at k8;have HR4:Hid (BRow w4 B v4 (sk++oneB r++numB n)):=hr4;have HG4:Hid (Grew wr w4 u1 v4):=HG3.out.trans hg4;have hsz4:B≤w4.heap.size:=Nat.le_trans hsz HG4.out.grown.size;clear hr4 hg4 hb4)
      |(go_at_call 93;refine (appendText_any B _ _ _ w4 HR4.out hsz4 (by rw [ByteArray.size_append,ByteArray.size_append,oneB_size,numB_size];omega)).mono ?_;rintro e w5 ⟨v5,rfl,hr5,hg5⟩;have HR5:Hid (BRow w5 B v5 (sk++oneB r++numB n++txtB val)):=hr5;have HG5:Hid (Grew wr w5 u1 v5):=HG4.out.trans hg5;clear hr5 hg5))
     refine ⟨⟨k+1,by omega,by go_num,?_,HG.out.trans HG5.out⟩,by simp [intOf];omega⟩
     show BRow _ _ _ _
     rw [← HT.out,HVe.out,← ba_assoc,← ba_assoc]
     exact HR5.out
    ·obtain rfl:k=l.length:=by omega
     have HRe:Hid (BRow wr B u1 (s++recB key c l)):=(by have:=HR.out;rw [List.take_length,← HS2.out] at this;exact this)
     go_wp2
     go_ret
     exact ⟨_,rfl,HRe.out,HG2.out.trans HG.out⟩
end Go.Proofs.YtldmcdeibiclkaaGreatDoorQ
end
