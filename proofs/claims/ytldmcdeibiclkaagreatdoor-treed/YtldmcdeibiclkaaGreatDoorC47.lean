/-
  Toward: treed_holds, each node's digest is that of its children's, for every argument of Treed. Contract: Put where it is refused: no key, or too many versions or writes.
  Contract: deletes.
-/
import Derived.Test.YtldmcdeibiclkaaGreatDoorC43
import Derived.Test.YtldmcdeibiclkaaGreatDoorC42
import Derived.Test.YtldmcdeibiclkaaGreatDoorC46
import Derived.Deep.DrawnRows
set_option linter.unusedVariables false
set_option linter.unusedSimpArgs false
set_option maxRecDepth 4000
section
namespace Go.Proofs.YtldmcdeibiclkaaGreatDoorQ
open Go.RowKit
set_option maxRecDepth 100000 in
set_option maxHeartbeats 2000000 in
theorem put_limit (b num:Nat) (bm:Nat→Nat) (K:Know) (key val:ByteArray) (seen:Ctx) (w:World) (h:RepAt w b bm num K) (hK:KOk K) (hkey:keyB key=true) (hks:key.size≤8) (hvs:val.size≤12) (hseen:soundB seen=true) (hnum:num< 4)
  (hn:20≤(unseenL (K key).2 seen).length∨(unseenL (K key).2 seen).length< 20∧1000000≤bothC (K key).1 seen num):
  Calls Qry.prog 21 #[.pointer (some ⟨b,0,none⟩),.string key,.string val,ctxV seen] w fun e w'=>e= .returned (.int .i64 6)∧Below w.heap.size w w':=by
 have hb:=h.1
 obtain ⟨es,clock,hm,hk,hall,_⟩:=h.2.1 _ (segN_lt key)
 obtain ⟨sv,hent,hvs0⟩:=hall key rfl
 obtain ⟨ad,cap,rfl,hcap⟩:=hvs0.len
 have hlk: ∀W:World,W.heap[bm (segN key)]? =some (.map es clock)→(Instr.lookup 98 (.map (some (bm (segN key)))) (.string key) false).run Qry.prog W= .ok (stV (K key).1 (.slice ad (K key).2.length cap)) W:=fun W hW=>by
  rw [lookup_run W _ es clock key hW hk,hent]
 have HSeg:Hid (∀W,RepBlk W b bm num→Calls Qry.prog 39 #[.pointer (some ⟨b,0,none⟩),.string key] W fun e w'=>e= .returned (.map (some (bm (segN key))))∧Below W.heap.size W w'∧w'.heap.size=W.heap.size):=fun W hW=>segOf_below b num bm key W (by unfold maxLen;omega) hW
 have hbc0:w.cell? ⟨b,0,none⟩=some (.int .i64 num):=hb.num
 have HBlk:Hid (∀W,Below w.heap.size w W→RepBlk W b bm num):=fun W hW=>(h.below hW).1
 have HL:Hid ((K key).2.length≤100000):=Nat.le_trans (hK key).2.1 (by decide)
 have HR:Hid (∀v∈(K key).2,v.rep< 4):=(hK key).1
 generalize (K key).1=c at*
 generalize (K key).2=l at*
 have HV:Hid _:=hvs0
 have HN:Hid _:=hn
 have HCK:Hid _:=isKey_any key
 have HCV:Hid _:=isValue_any val
 have HSO:Hid _:=sound_any seen
 have hvd:decide (val.size≤12)=true:=by simpa using hvs
 clear hvs0 hall hent hK hn h
 generalize hbms:bm (segN key)=bms at*
 have HBMS:Hid _:=hbms
 clear hbms
 go_enter Qry.func21,Qry.ntmps21
 go_wp2_with (first
  |(go_at_call 36;refine (HCK.out _ (by unfold maxLen;omega)).mono ?_;rw [hkey];rintro e w1 ⟨rfl,rfl⟩)
  |(go_at_call 37;refine (HCV.out _ (by unfold maxLen;omega)).mono ?_;rw [hvd];rintro e w1 ⟨rfl,rfl⟩)
  |(go_at_call 38;refine (HSO.out _).mono ?_;rw [hseen];rintro e w2 ⟨rfl,hb2⟩;obtain ⟨c2,hB2,hz2⟩:=afterSound hb2;clear hb2))
 have hmk:Hid (∀w',Below w2.heap.size w2 w'→RepBlk w' b bm num∧w'.cell? ⟨b,0,none⟩=some (.int .i64 num)∧(Instr.lookup 98 (.map (some bms)) (.string key) false).run Qry.prog w'= .ok (stV c (.slice ad l.length cap)) w'∧VSl w' (.slice ad l.length cap) l∧w'.cell? ⟨w.heap.size+1,0,none⟩=some (.int .i64 (seen 0))∧w'.cell? ⟨w.heap.size+1,1,none⟩=some (.int .i64 (seen 1))∧w'.cell? ⟨w.heap.size+1,2,none⟩=some (.int .i64 (seen 2))∧w'.cell? ⟨w.heap.size+1,3,none⟩=some (.int .i64 (seen 3))):=fun w' hw=>
  ⟨HBlk.out _ (below_keep hB2 hw),cell_keep (cell_keep hbc0 hB2) hw,hlk w' (heap_keep (heap_keep hm hB2) hw),(VSl.below HV.out hB2).below hw,cell_keep (c2 0) hw,cell_keep (c2 1) hw,cell_keep (c2 2) hw,cell_keep (c2 3) hw⟩
 have HB2:Hid _:=hB2
 clear hB2 c2 hlk
 go_region_held3 (fun w'=>RepBlk w' b bm num∧w'.cell? ⟨b,0,none⟩=some (.int .i64 num)∧(Instr.lookup 98 (.map (some bms)) (.string key) false).run Qry.prog w'= .ok (stV c (.slice ad l.length cap)) w'∧VSl w' (.slice ad l.length cap) l∧w'.cell? ⟨w.heap.size+1,0,none⟩=some (.int .i64 (seen 0))∧w'.cell? ⟨w.heap.size+1,1,none⟩=some (.int .i64 (seen 1))∧w'.cell? ⟨w.heap.size+1,2,none⟩=some (.int .i64 (seen 2))∧w'.cell? ⟨w.heap.size+1,3,none⟩=some (.int .i64 (seen 3)))
  ((refine hmk.out _ ?_;first|(simp (maxDischargeDepth:=12) [Below.refl,Below.drew,Below.alloc,Below.setCell];done)|(simp (maxDischargeDepth:=12) [Below.refl,Below.drew,Below.alloc,Below.setCell,B3,y3];done)|(simp (maxDischargeDepth:=12) [Below.refl,Below.drew,Below.alloc,Below.setCell,B6,y6];done)|(simp (maxDischargeDepth:=12) [Below.refl,Below.drew,Below.alloc,Below.setCell,B4,y4,y3,y6];done)))
  (first
   |(go_at_call 39;refine Calls.mono (HSeg.out _ (by go_split_ands;assumption)) ?_;rintro e w6 ⟨rfl,hb6,z6⟩;obtain ⟨s1,s2⟩:=oldReads hb6;(try simp only [World.size_drew,size_allocW] at z6);have B6:Below w2.heap.size w2 w6:=afterAny hb6 (by first|(simp (maxDischargeDepth:=12) [Below.refl,Below.drew,Below.alloc];done)|(simp (maxDischargeDepth:=12) [Below.refl,Below.drew,Below.alloc,B3,y3];done));have y6:=B6.size;(try (have x6:w2.heap.size< w6.heap.size:=by omega));(try (have x6':w3.heap.size< w6.heap.size:=by omega));clear hb6)
   |(go_at_call 41;refine (clone_any val _ (by omega)).mono ?_;rintro e w3 ⟨rfl,hb3⟩;obtain ⟨q1,q2⟩:=oldReads hb3;have B3:Below w2.heap.size w2 w3:=afterAny hb3 (by first|(simp (maxDischargeDepth:=12) [Below.refl,Below.drew,Below.alloc];done)|(simp (maxDischargeDepth:=12) [Below.refl,Below.drew,Below.alloc,B6,y6];done));have y3:=B3.size;have z3:=hb3.size;(try simp only [World.size_drew,size_allocW] at z3);(try (have x3:w2.heap.size< w3.heap.size:=by omega));(try (have x3':w6.heap.size< w3.heap.size:=by omega));clear hb3)
   |(go_at_call 40;refine (stPut_limit c _ l num val seen _ (by go_split_ands;assumption) HR.out HL.out hnum HN.out).mono ?_;rintro e w4 ⟨rfl,hb4⟩;obtain ⟨p1,p2⟩:=oldReads hb4;have B4:Below w2.heap.size w2 w4:=afterAny hb4 (by first|(simp (maxDischargeDepth:=12) [Below.refl,Below.drew,Below.alloc,B3,y3];done)|(simp (maxDischargeDepth:=12) [Below.refl,Below.drew,Below.alloc,B6,y6];done));have y4:=B4.size;clear hb4))
 all_goals
  go_wp2_with (go_at_call 42;go_must (refine (keep_err b key (fun _=>0) (.slice none 0 0) 6 _ (by decide)).mono ?_);rintro e w5 ⟨rfl,hb5⟩;have B5:Below w2.heap.size w2 w5:=afterAny hb5 (by simp (maxDischargeDepth:=12) [Below.refl,Below.drew,Below.alloc,Below.setCell,B4,y4,y3,y6]);clear hb5)
  go_ret
  exact ⟨rfl,below_keep HB2.out B5⟩
set_option maxRecDepth 100000 in
set_option maxHeartbeats 400000 in
theorem put_noKey (b:Nat) (key val:ByteArray) (seen:Ctx) (w:World) (hkey:keyB key=false) (hks:key.size≤8):
  Calls Qry.prog 21 #[.pointer (some ⟨b,0,none⟩),.string key,.string val,ctxV seen] w fun e w'=>e= .returned (.int .i64 2)∧Below w.heap.size w w':=by
 have HCK:Hid _:=isKey_any key
 go_enter Qry.func21,Qry.ntmps21
 go_wp2_with (go_at_call 36;refine (HCK.out _ (by unfold maxLen;omega)).mono ?_;rw [hkey];rintro e w1 ⟨rfl,rfl⟩)
 go_ret
 exact ⟨rfl,((Below.refl _ _).alloc (Nat.le_refl _) _).alloc (by simp) _⟩
end Go.Proofs.YtldmcdeibiclkaaGreatDoorQ
end
section
namespace Go.Proofs.YtldmcdeibiclkaaGreatDoorQ
open Go.RowKit
attribute [local go_sem ↓] load_mem store_mem load_mem_exec
attribute [local go_sem] okMem_ptr ldMem_ptr okSt_ptr stMem_ptr
attribute [local go_sem ↓] load_set store_set Go.wp_at_zero Go.wp_at_succ
attribute [local go_sem] okB_ptr ldB_ptr okStB_ptr stB_ptr rdB_drew hasB_drew thereB_drew
theorem KeysAt.below {w w':World} {ks:Nat→ByteArray} {B:Nat} (h:KeysAt w ks) (h0:0< B) (hb:Below B w w'):KeysAt w' ks:=
 ⟨fun k hk=>by rw [World.cell?_of_block (hb.block 0 h0)];exact h.cell k hk,h.key,h.ne⟩
theorem tag_ne {A C:Array Value} {s t:TypeId} {f h:Nat×Nat} (e:some (Obj.cells A s f)=some (Obj.cells C t h)):s=t:=by
 injection e with e
 injection e
theorem rep_bt {w w':World} {bt b num:Nat} {bm:Nat→Nat} {K:Know} {A:Array Value} (hR:RepAt w b bm num K) (hT:w.heap[bt]? =some (.cells A 42)) (hF:Fr (fun b=>b=bt) w w'):RepAt w' b bm num K:=by
 refine hF.rep hR (fun e=>?_) (fun n hn e=>?_) (fun q cur hc e=>?_)
 ·obtain ⟨⟨C,hC,_⟩,_⟩:=hR
  rw [e,hT] at hC;cases hC
 ·obtain ⟨es,clock,hm,_⟩:=hR.2.1 n hn
  rw [e,hT] at hm;cases hm
 ·rw [e,hT] at hc;cases hc
theorem dice_fr {X:Nat→Prop} {w w1 w2:World} {B bx n cap at':Nat} {ad:Option Addr} (hD:DiceAt w bx ad n cap at') (hJ:Jx w bx ad n cap w1) (hF:Fr X w1 w2) (hx: ¬ X bx) (hnb:0< n→∀b off,ad=some ⟨b,off,none⟩→b< B) (hb:Below B w w2): ∃at2,DiceAt w2 bx ad n cap at2:=by
 obtain ⟨_,⟨a,h2,h3⟩,_⟩:=hJ
 obtain ⟨_,_,hn,hc⟩:=hD
 refine ⟨a,hF.heap h3 hx,h2,hn,?_⟩
 rcases hc with hc|⟨b,off,rfl,hall⟩
 ·exact Or.inl hc
 ·refine Or.inr ⟨b,off,rfl,fun j hj=>?_⟩
  obtain ⟨z,hz,hr⟩:=hall j hj
  exact ⟨z,by rw [World.cell?_of_block (hb.block b (hnb (by omega) b off rfl))];exact hz,hr⟩
theorem deleted_done {B:Nat} {w wc w1 w2:World} {bt bx n cap at' i k:Nat} {ad:Option Addr} {g:NetG} {ks:Nat→ByteArray} {m:Mem} {A:Array Value} (hN0:NetAt B w bt g) (hJ:Jx w bx ad n cap wc) (hN:NetAt B wc bt g) (hD:DiceAt w bx ad n cap at') (hB:B≤bx) (hnb:0< n→∀b off,ad=some ⟨b,off,none⟩→b< B) (hi:i< g.nr) (hi4:i< 4) (hk:k< 3)
  (h1:Fr (fun b=>b=g.bm i (segN (ks k))) wc w1) (h2:Fr (fun b=>b=bt) w1 w2) (hT1:w1.heap[bt]? =some (.cells g.A 42)) (hT:w2.heap[bt]? =some (.cells A 42)) (hA:A.size=1939)
  (hR:RepAt w1 (g.b i) (g.bm i) i (updK (g.K i) (ks k) (bothC (g.K i (ks k)).1 m.1,unseenL (g.K i (ks k)).2 m.1)))
  (hg: ∀j,j< 80→A[962+i*240+k*80+j]? =some (.bool (g.go i k j||m.2 j))) (hkn: ∀j,j< 80→A[2+i*240+k*80+j]? =some (.bool (g.kn i k j||m.2 j)))
  (ho: ∀q,(q< 2+i*240+k*80∨2+i*240+k*80+80≤q)→(q< 962+i*240+k*80∨962+i*240+k*80+80≤q)→A[q]? =g.A[q]?):
  Below B w w2∧NetAt B w2 bt (g.deleted ks i k m A)∧∃at2,DiceAt w2 bx ad n cap at2:=by
 have hF:Fr (fun b=>b=bt∨b=g.bm i (segN (ks k))) wc w2:=(h1.weaken fun b e=>Or.inr e).trans (h2.weaken fun b e=>Or.inl e)
 have hbw:B≤wc.heap.size:=by
  have:=hN.hB.1
  have:=(Array.getElem?_eq_some_iff.1 hN.hT).1
  omega
 have hb:Below B w w2:=(hJ.toBelow hB).trans (hF.toBelow (fun b e=>by
  rcases e with e|e
  ·rw [e];exact hN.hB.1
  ·rw [e];exact hN.hB.2 i _ hi (segN_lt _)) hbw)
 refine ⟨hb,hN.deleted hF (fun b e=>e) hi hi4 hk (segN_lt _) hT hA (rep_bt hR hT1 h2) hg hkn ho,dice_fr hD hJ hF (fun e=>?_) hnb hb⟩
 obtain ⟨_,⟨a,_,h3⟩,_⟩:=hJ
 rcases e with e|e
 ·rw [e,hN.hT] at h3;exact absurd (tag_ne h3) (by decide)
 ·obtain ⟨es,clock,hm⟩:=hN.map hi (segN_lt (ks k))
  rw [e,hm] at h3;cases h3
theorem del_call {B:Nat} {w:World} {bt:Nat} {g:NetG} {ks:Nat→ByteArray} {i k:Nat} {m:Mem} (hN:NetAt B w bt g) (hI:NetInv ks g) (hK:KeysAt w ks) (hi:i< g.nr) (hk:k< 3) (hm:Good g.ws k m.1 m.2) (s:Bool) (hs:anyTo (fun j=>(g.kn i k j && !g.go i k j) && m.2 j) g.ws.length=s) (W:World) (hW:Below w.heap.size w W):
  Calls Qry.prog 23 #[.pointer (some ⟨g.b i,0,none⟩),.string (ks k),ctxV m.1] W fun e w'=>e= .returned (.int .i64 (if s=true then 0 else 5))∧W.grownBy w' (some (g.bm i (segN (ks k))))∧(s=false→Below W.heap.size W w')∧(s=true→RepAt w' (g.b i) (g.bm i) i (updK (g.K i) (ks k) (bothC (g.K i (ks k)).1 m.1,unseenL (g.K i (ks k)).2 m.1))):=by
 have hR:=(hN.hrep i hi).below hW
 have hKO:=hI.hkok i hi
 have hso:=hm.sound hI.hlen
 cases s with
 |false=>
  have:=unseen_none (fun j x hx h=>hI.known hi hk j x hx h) hm hs
  rw [← hI.hex i k hi hk] at this
  refine (delete_none (g.b i) i (g.bm i) (g.K i) (ks k) m.1 W hR hKO (hK.key k hk).1 (hK.key k hk).2 hso this).mono ?_
  rintro e w' ⟨rfl,hb⟩
  exact ⟨by simp,⟨hb.os,hb.tape,hb.output,hb.size,fun q hq _=>hb.block q hq⟩,fun _=>hb,fun h=>by cases h⟩
 |true=>
  have:=unseen_some (fun j x hx h=>hI.known hi hk j x hx h) hm hs
  rw [← hI.hex i k hi hk] at this
  refine (delete_some (g.b i) i (g.bm i) (g.K i) (ks k) m.1 W hR hKO (hK.key k hk).1 (hK.key k hk).2 hso this).mono ?_
  rintro e w' ⟨rfl,hr,hg⟩
  exact ⟨by simp,hg,(fun h=>by cases h),fun _=>hr⟩
set_option maxRecDepth 100000 in
set_option maxHeartbeats 1000000 in
theorem deletes_true (B bt bx n cap at' i k:Nat) (ad:Option Addr) (g:NetG) (ks:Nat→ByteArray) (w:World) (hN:NetAt B w bt g) (hI:NetInv ks g) (hK:KeysAt w ks) (hD:DiceAt w bx ad n cap at') (hnb:0< n→∀b off,ad=some ⟨b,off,none⟩→b< B) (hB:B≤bx) (hB0:0< B) (hi:i< g.nr) (hk:k< 3):
  Calls Qry.prog 25 #[.pointer (some ⟨bt,0,none⟩),.pointer (some ⟨bx,0,none⟩),.int .i64 i,.int .i64 k] w fun e w'=>e= .returned (.bool true)∧Below B w w'∧∃g',g'.nr=g.nr∧NetAt B w' bt g'∧NetInv ks g'∧∃at2,DiceAt w' bx ad n cap at2:=by
 have hL:=hI.hmemN k hk
 have hnb':0< n→∀b off,ad=some ⟨b,off,none⟩→b≠bx:=fun h0 b off h=>by have:=hnb h0 b off h;omega
 have HJ:Hid (∀w',Jx w bx ad n cap w'→NetAt B w' bt g):=fun w' h=>hN.fr h.1 (hN.apart_tag hD.1 (by decide) (by decide) (by decide) (by decide) (by decide) (by decide))
 have HDice:Hid (∀w',Jx w bx ad n cap w'→∃at2,DiceAt w' bx ad n cap at2):=fun w' h=>h.dice hD.2.2.1 hD.2.2.2 hnb'
 have Hmk:Hid (∀w',Jx w bx ad n cap w'→w'.cell? ⟨bt,1922+k,none⟩=some (.slice (some ⟨g.gm k,0,none⟩) (g.mem k).length (g.capm k))∧(∀r,r< (g.mem k).length→hasC w' (g.gm k) (r*84))∧(∀r,r< (g.mem k).length→rdC w' (g.gm k) (r*84)=encM (memD (g.mem k) r))∧∃at2,DiceAt w' bx ad n cap at2):=fun w' h=>
  ⟨((HJ.out w' h).memIn hk).1,((HJ.out w' h).memIn hk).2.1,((HJ.out w' h).memIn hk).2.2,HDice.out w' h⟩
 have HNext:Hid (∀W,(∃at2,DiceAt W bx ad n cap at2)→Calls Qry.prog 14 #[.pointer (some ⟨bx,0,none⟩),.int .i64 (g.mem k).length] W fun e w'=>∃(r at2:Nat),e= .returned (.int .i64 r)∧r< (g.mem k).length∧DiceAt w' bx ad n cap at2∧W.grownBy w' (some bx)):=by
  rintro W ⟨a,hW⟩
  refine (next_any bx ad n cap a (g.mem k).length W hW hnb' (by omega) (by omega)).mono ?_
  rintro e w' ⟨r,at2,rfl,hr,hd,_,hg,hz⟩
  exact ⟨r,at2,rfl,by omega,hd,hg⟩
 have J0:Hid (Jx w bx ad n cap w):=Jx.start hD
 have HI:Hid _:=hI
 have HKA:Hid _:=hK
 have k3:(k:Int)< 3:=by omega
 have k0:(0:Int)≤(k:Int):=by omega
 have hi4:(i:Int)< 4:=by have:=hI.hnr;omega
 have hi0:(0:Int)≤(i:Int):=by omega
 have hin:(i:Int)< (g.nr:Int):=by omega
 have hbx:bx< w.heap.size:=(Array.getElem?_eq_some_iff.1 hD.1).1
 have hz:=Qry.zeroMem
 have hst:=store_new
 have hL30:=hL.2
 have HD0:Hid _:=hD
 have HN0:Hid _:=hN
 clear hD hI hK hN hL
 generalize hgk:g.gm k=gk at*
 generalize hck:g.capm k=ck at*
 have HGK:Hid _:=And.intro hgk hck
 clear hgk hck
 go_enter Qry.func25,Qry.ntmps25
 go_wp2
 go_cut [9] from 13 to 30 (fun pv wx=>∃p r,pv= .pointer (some ⟨p,0,none⟩)∧w.heap.size≤p∧r< (g.mem k).length∧wx.heap[p]? =some (.cells (encM (memD (g.mem k) r)).toArray 74)∧Jx w bx ad n cap wx)
 case first=>
  go_region_held3 (fun w'=>w'.cell? ⟨bt,1922+k,none⟩=some (.slice (some ⟨gk,0,none⟩) (g.mem k).length ck)∧(∀r,r< (g.mem k).length→hasC w' gk (r*84))∧(∀r,r< (g.mem k).length→rdC w' gk (r*84)=encM (memD (g.mem k) r))∧∃at2,DiceAt w' bx ad n cap at2)
   ((refine Hmk.out _ ?_;first|(simp (maxDischargeDepth:=12) [Jx.drew,Jx.alloc,Jx.setCells,J0.out];done)|(simp (maxDischargeDepth:=12) [Jx.drew,Jx.alloc,Jx.setCells,J1,z1];done)))
   (first|(go_at_call 14;refine Calls.mono (HNext.out _ (by go_split_ands;assumption)) ?_;rintro e w1 ⟨r,at2,rfl,hr,hd,hg⟩;(try (have hkn:=kept_new (w:=w) hg hbx;have hs1:=store_enc zMem_size hkn));have J1:Jx w bx ad n cap w1:=Jx.next (by simp (maxDischargeDepth:=12) [Jx.drew,Jx.alloc,J0.out]) hg hd;have z1:=J1.1.size;clear hd hg))
  ·go_wp2_with fail
   go_meet
   exact ⟨w1.heap.size,r,rfl,z1,hr,after_enc zMem_size (heap_alloc_new w1 _) _,(J1.alloc _).setCells z1 _ _⟩
  ·go_wp2_with fail
   go_meet
   exact ⟨w.heap.size,r,rfl,Nat.le_refl _,hr,after_enc zMem_size hkn _,J1.setCells (Nat.le_refl _) _ _⟩
 case rest=>
  obtain ⟨p,r,rfl,hp,hr,hpc,hJ⟩:=hcut
  have HP:Hid _:=hpc
  have HJC:Hid _:=hJ
  have NC:Hid _:=HJ.out _ hJ
  have KC:Hid (KeysAt wc ks):=HKA.out.below hB0 (hJ.toBelow hB)
  have HM:Hid (Good g.ws k (memD (g.mem k) r).1 (memD (g.mem k) r).2):=HI.out.hmemG k _ hk (by rw [memD_eq _ _ hr];exact List.getElem_mem hr)
  clear hpc hJ Hmk HNext hst hz
  generalize memD (g.mem k) r=m at*
  obtain ⟨wad,wcap,hwv⟩:=row_len NC.out.hw
  have t1:wc.cell? ⟨bt,1,none⟩=some (.slice wad g.ws.length wcap):=by rw [(cells_of0 NC.out.hT).1,NC.out.h1,hwv]
  have HWV:Hid _:=hwv
  have hlen80:g.ws.length≤80:=HI.out.hlen
  clear hwv
  generalize hF:(fun j=>(g.kn i k j && !g.go i k j) && m.2 j)=F
  have HF:Hid (∀j,F j=((g.kn i k j && !g.go i k j) && m.2 j)):=fun j=>by rw [← hF]
  have HFF:Hid _:=hF
  clear hF
  go_wp2
  go_loop [10,11] (fun sv iv=>∃j:Nat,j≤g.ws.length∧iv= .int .i64 j∧sv= .bool (anyTo F j)) (fun _ iv=>g.ws.length - (intOf iv).toNat)
  case atStart=>exact ⟨0,by omega,rfl,rfl⟩
  case round=>
   obtain ⟨j,hj,rfl,hsv⟩:=hrel
   by_cases hjl:j< g.ws.length
   ·have j1:(j:Int)< (g.ws.length:Int):=by omega
    have j80:(j:Int)< 80:=by omega
    have j0:(0:Int)≤(j:Int):=by omega
    have hi4':i< 4:=by omega
    have kc:wc.cell? ⟨bt,2+i*240+k*80+j,none⟩=some (.bool (g.kn i k j)):=by rw [(cells_of0 NC.out.hT).1];exact NC.out.hkn i k j hi4' hk (by omega)
    have gc:wc.cell? ⟨bt,962+i*240+k*80+j,none⟩=some (.bool (g.go i k j)):=by rw [(cells_of0 NC.out.hT).1];exact NC.out.hgo i k j hi4' hk (by omega)
    have mc:wc.cell? ⟨p,4+j,none⟩=some (.bool (m.2 j)):=by rw [(cells_of0 HP.out).1];exact encM_bit m j (by omega)
    have hFj:=HF.out j
    have HA:Hid (anyTo F (j+1)=(anyTo F j||F j)):=rfl
    cases hs:anyTo F j with
    |true=>
     rw [hs] at hsv HA
     subst hsv
     go_wp2
     exact ⟨⟨j+1,by omega,by go_num,by rw [HA.out];rfl⟩,by simp [intOf];omega⟩
    |false=>
     rw [hs] at hsv HA
     subst hsv
     cases h1:g.kn i k j with
     |false=>
      rw [h1] at kc hFj
      have HA2:Hid (anyTo F (j+1)=false):=by show _=_;rw [HA.out,hFj];rfl
      clear hFj
      go_wp2
      exact ⟨⟨j+1,by omega,by go_num,by rw [HA2.out]⟩,by simp [intOf];omega⟩
     |true=>
      rw [h1] at kc hFj
      cases h2:g.go i k j with
      |true=>
       rw [h2] at gc hFj
       have HA2:Hid (anyTo F (j+1)=false):=by show _=_;rw [HA.out,hFj];rfl
       clear hFj
       go_wp2
       exact ⟨⟨j+1,by omega,by go_num,by rw [HA2.out]⟩,by simp [intOf];omega⟩
      |false=>
       rw [h2] at gc hFj
       have HA2:Hid (anyTo F (j+1)=m.2 j):=by show _=_;rw [HA.out,hFj];rfl
       clear hFj
       go_wp2
       exact ⟨⟨j+1,by omega,by go_num,by rw [HA2.out]⟩,by simp [intOf];omega⟩
   ·obtain rfl:j=g.ws.length:=by omega
    subst hsv
    go_wp2
    have HDel:Hid (∀s,anyTo F g.ws.length=s→∀W,Below wc.heap.size wc W→Calls Qry.prog 23 #[.pointer (some ⟨g.b i,0,none⟩),.string (ks k),ctxV m.1] W fun e w'=>e= .returned (.int .i64 (if s=true then 0 else 5))∧W.grownBy w' (some (g.bm i (segN (ks k))))∧(s=false→Below W.heap.size W w')∧(s=true→RepAt w' (g.b i) (g.bm i) i (updK (g.K i) (ks k) (bothC (g.K i (ks k)).1 m.1,unseenL (g.K i (ks k)).2 m.1)))):=fun s hs W hW=>
     del_call NC.out HI.out (KC.out) hi hk HM.out s (by rw [HFF.out];exact hs) W hW
    have hmap:=NC.out.map hi (segN_lt (ks k))
    have hcell:Hid (∀w',Fr (fun b=>b=g.bm i (segN (ks k))) wc w'→w'.cell? ⟨bt,0,none⟩=some (.slice (some ⟨g.br,0,none⟩) g.nr g.capr)∧w'.cell? ⟨g.br,i,none⟩=some (.pointer (some ⟨g.b i,0,none⟩))∧w'.cell? ⟨0,k,none⟩=some (.string (ks k))∧w'.cell? ⟨p,0,none⟩=some (.int .i64 (m.1 0))∧w'.cell? ⟨p,1,none⟩=some (.int .i64 (m.1 1))∧w'.cell? ⟨p,2,none⟩=some (.int .i64 (m.1 2))∧w'.cell? ⟨p,3,none⟩=some (.int .i64 (m.1 3))):=fun w' h=>by
     obtain ⟨es,clock,hm⟩:=hmap
     have ne: ∀{b C t},wc.heap[b]? =some (.cells C t)→¬ b=g.bm i (segN (ks k)):=fun h e=>by rw [e,hm] at h;cases h
     have hp:=(cells_of0 HP.out).1
     refine ⟨h.cell (by rw [(cells_of0 NC.out.hT).1];exact NC.out.h0) (ne NC.out.hT),h.cell (by rw [(cells_of0 NC.out.hR).1];exact NC.out.hRi i hi) (ne NC.out.hR),h.cell (KC.out.cell k hk) (fun e=>?_),h.cell (hp 0) (ne HP.out),h.cell (hp 1) (ne HP.out),h.cell (hp 2) (ne HP.out),h.cell (hp 3) (ne HP.out)⟩
     have:=NC.out.hB.2 i _ hi (segN_lt (ks k));omega
    have hnr4:g.nr≤4:=HI.out.hnr.2
    have F0:Hid (Fr (fun b=>b=g.bm i (segN (ks k))) wc wc):=Fr.refl _ _
    cases hs:anyTo F g.ws.length with
    |false=>
     have HD:=HDel.out _ hs
     have HDD:Hid _:=HD
     clear HD HDel
     go_wp2_with fail
     go_region_held3 (fun w'=>w'.cell? ⟨bt,0,none⟩=some (.slice (some ⟨g.br,0,none⟩) g.nr g.capr)∧w'.cell? ⟨g.br,i,none⟩=some (.pointer (some ⟨g.b i,0,none⟩))∧w'.cell? ⟨0,k,none⟩=some (.string (ks k))∧w'.cell? ⟨p,0,none⟩=some (.int .i64 (m.1 0))∧w'.cell? ⟨p,1,none⟩=some (.int .i64 (m.1 1))∧w'.cell? ⟨p,2,none⟩=some (.int .i64 (m.1 2))∧w'.cell? ⟨p,3,none⟩=some (.int .i64 (m.1 3)))
      ((refine hcell.out _ ?_;first|(simp [Fr.drew,F0.out];done)|(simp [Fr.drew,F1];done)))
      (first|(go_at_call 23;refine Calls.mono (HDD.out _ (by simp [Below.refl,Below.drew])) ?_;rintro e w1 ⟨rfl,hg1,hbel,hrep1⟩;have F1:Fr (fun b=>b=g.bm i (segN (ks k))) wc w1:=Fr.grown (Fr.drew F0.out) hg1 (fun b e _=>by cases e;rfl);have HB1:Hid (Below wc.drew.heap.size wc.drew w1):=hbel (by first|exact trivial|rfl);clear hg1 hbel hrep1))
     go_wp2
     go_ret
     have JF:=(Jx.drew HJC.out).below HB1.out
     exact ⟨rfl,JF.toBelow hB,g,rfl,HJ.out _ JF,HI.out,HDice.out _ JF⟩
    |true=>
     have HD:=HDel.out _ hs
     have HDD:Hid _:=HD
     clear HD HDel
     go_wp2_with fail
     go_region_held3 (fun w'=>w'.cell? ⟨bt,0,none⟩=some (.slice (some ⟨g.br,0,none⟩) g.nr g.capr)∧w'.cell? ⟨g.br,i,none⟩=some (.pointer (some ⟨g.b i,0,none⟩))∧w'.cell? ⟨0,k,none⟩=some (.string (ks k))∧w'.cell? ⟨p,0,none⟩=some (.int .i64 (m.1 0))∧w'.cell? ⟨p,1,none⟩=some (.int .i64 (m.1 1))∧w'.cell? ⟨p,2,none⟩=some (.int .i64 (m.1 2))∧w'.cell? ⟨p,3,none⟩=some (.int .i64 (m.1 3)))
      ((refine hcell.out _ ?_;first|(simp [Fr.drew,F0.out];done)|(simp [Fr.drew,F1];done)))
      (first|(go_at_call 23;refine Calls.mono (HDD.out _ (by simp [Below.refl,Below.drew])) ?_;rintro e w1 ⟨rfl,hg1,hbel,hrep1⟩;have F1:Fr (fun b=>b=g.bm i (segN (ks k))) wc w1:=Fr.grown (Fr.drew F0.out) hg1 (fun b e _=>by cases e;rfl);have HR1:Hid (RepAt w1 (g.b i) (g.bm i) i (updK (g.K i) (ks k) (bothC (g.K i (ks k)).1 m.1,unseenL (g.K i (ks k)).2 m.1))):=hrep1 (by first|exact trivial|rfl);clear hg1 hbel hrep1))
     have hm':=hmap
     obtain ⟨es,clock,hmp⟩:=hm'
     have T1:Hid (w1.heap[bt]? =some (.cells g.A 42)):=F1.heap NC.out.hT (fun e=>by have:=NC.out.hT;rw [e,hmp] at this;cases this)
     have P1:Hid (w1.heap[p]? =some (.cells (encM m).toArray 74)):=F1.heap HP.out (fun e=>by have:=HP.out;rw [e,hmp] at this;cases this)
     have HF1:Hid _:=F1
     have hi4n:i< 4:=by omega
     have hAs:=NC.out.hA
     obtain ⟨r1,q1⟩:=rdB_of (w:=w1) (b:=bt) (o:=962+i*240+k*80) (s:=g.go i k) (fun j hj=>by rw [(cells_of0 T1.out).1];exact NC.out.hgo i k j hi4n hk hj)
     obtain ⟨r2,q2⟩:=rdB_of (w:=w1) (b:=p) (o:=4) (s:=m.2) (fun j hj=>by rw [(cells_of0 P1.out).1];exact encM_bit m j hj)
     clear F1 hmp hmap
     go_wp2
     go_cut [] from 88 to 106 (fun wx=>∃A1,wx.heap[bt]? =some (.cells A1 42)∧A1.size=1939∧(∀j,j< 80→A1[962+i*240+k*80+j]? =some (.bool (g.go i k j||m.2 j)))∧(∀j,(j< 962+i*240+k*80∨962+i*240+k*80+80≤j)→A1[j]? =g.A[j]?)∧Fr (fun b=>b=bt) w1 wx)
     case first=>
      go_region_with (first|(go_at_call 45;refine (all_any (g.go i k) m.2 _).mono ?_;rintro e w2 ⟨rfl,hb2⟩;have B2:=undrew (w0:=w1) hb2 rfl rfl rfl rfl;have T2:=heap_keep T1.out B2;have t2:thereB w2 bt (962+i*240+k*80):=thereB_of T2 (by omega);have HT2:Hid _:=T2;have HB2:Hid _:=B2;clear hb2 B2 T2))
      all_goals
       go_wp2_with fail
       go_meet
       obtain ⟨A1,a1,a2,a3,a4⟩:=set_stored HT2.out (show 962+i*240+k*80+80≤g.A.size by omega) (fun j=>g.go i k j||m.2 j)
       exact ⟨A1,a1,by rw [a2];exact hAs,a3,a4,Fr.setCells (X:=fun b=>b=bt) (Fr.of_below HB2.out) (Or.inr rfl) _ _⟩
     case rest=>
      obtain ⟨A1,a1,a2,a3,a4,a5⟩:=hcut
      have HA1:Hid _:=And.intro a1 (And.intro a2 (And.intro a3 (And.intro a4 a5)))
      have P2:Hid _:=a5.heap P1.out (fun e=>by have:=P1.out;rw [e,T1.out] at this;exact absurd (tag_ne this) (by decide))
      clear r1 q1 r2 q2
      obtain ⟨r1,q1⟩:=rdB_of (w:=wc) (b:=bt) (o:=2+i*240+k*80) (s:=g.kn i k) (fun j hj=>by rw [(cells_of0 a1).1,a4 _ (by omega)];exact NC.out.hkn i k j hi4n hk hj)
      obtain ⟨r2,q2⟩:=rdB_of (w:=wc) (b:=p) (o:=4) (s:=m.2) (fun j hj=>by rw [(cells_of0 P2.out).1];exact encM_bit m j hj)
      clear a1 a3 a4 a5
      go_wp2
      go_cut [] from 106 to 124 (fun wx=>∃A2,wx.heap[bt]? =some (.cells A2 42)∧A2.size=1939∧(∀j,j< 80→A2[2+i*240+k*80+j]? =some (.bool (g.kn i k j||m.2 j)))∧(∀j,(j< 2+i*240+k*80∨2+i*240+k*80+80≤j)→A2[j]? =A1[j]?)∧Fr (fun b=>b=bt) w1 wx)
      case first=>
       go_region_with (first|(go_at_call 45;refine (all_any (g.kn i k) m.2 _).mono ?_;rintro e w2 ⟨rfl,hb2⟩;have B2:=undrew (w0:=wc) hb2 rfl rfl rfl rfl;have T2:=heap_keep HA1.out.1 B2;have t2:thereB w2 bt (2+i*240+k*80):=thereB_of T2 (by omega);have HT2:Hid _:=T2;have HB2:Hid _:=B2;clear hb2 B2 T2))
       all_goals
        go_wp2_with fail
        go_meet
        obtain ⟨A2,b1,b2,b3,b4⟩:=set_stored HT2.out (show 2+i*240+k*80+80≤A1.size by omega) (fun j=>g.kn i k j||m.2 j)
        exact ⟨A2,b1,by rw [b2];exact a2,b3,b4,Fr.setCells (X:=fun b=>b=bt) (HA1.out.2.2.2.2.below HB2.out) (Or.inr rfl) _ _⟩
      case rest=>
       have HC:Hid _:=hcut
       clear hcut r1 q1 r2 q2
       go_wp2
       go_ret
       obtain ⟨A2,b1,b2,b3,b4,b5⟩:=HC.out
       obtain ⟨_,_,a3,a4,_⟩:=HA1.out
       obtain ⟨hd1,hd2,hd3⟩:=deleted_done HN0.out HJC.out NC.out HD0.out hB hnb hi hi4n hk HF1.out b5 T1.out b1 b2 HR1.out (fun j hj=>by rw [b4 _ (by omega)];exact a3 j hj) b3 (fun q h1 h2=>by rw [b4 q h1,a4 q h2])
       exact ⟨rfl,hd1,g.deleted ks i k m A2,rfl,hd2,HI.out.deleted KC.out.ne A2 hi hk HM.out,hd3⟩
end Go.Proofs.YtldmcdeibiclkaaGreatDoorQ
end
