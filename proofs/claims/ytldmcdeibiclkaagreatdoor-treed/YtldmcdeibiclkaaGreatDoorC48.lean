/-
  Toward: treed_holds, each node's digest is that of its children's, for every argument of Treed. Contract: puts.
-/
import Derived.Test.YtldmcdeibiclkaaGreatDoorC46
import Derived.Test.YtldmcdeibiclkaaGreatDoorC47
import Derived.Deep.RegionLaw
import Derived.Laws.BytesArg
set_option linter.unusedVariables false
set_option linter.unusedSimpArgs false
set_option maxRecDepth 4000
section
namespace Go.Proofs.YtldmcdeibiclkaaGreatDoorQ
open Go.RowKit
attribute [local go_sem ↓] load_mem store_mem load_mem_exec
attribute [local go_sem] okMem_ptr ldMem_ptr okSt_ptr stMem_ptr
attribute [local go_sem ↓] load_set store_set Go.wp_at_zero Go.wp_at_succ
attribute [local go_sem] okB_ptr ldB_ptr okStB_ptr stB_ptr rdB_drew hasB_drew thereB_drew
theorem conv2 (W:World) (x y:Int):(convert 48 9 (.slice (some ⟨W.heap.size,0,none⟩) 2 2)).run Qry.prog (W.alloc (.cells #[.int .u8 x,.int .u8 y] 5))= .ok (.string (strOfNums [x,y])) (W.alloc (.cells #[.int .u8 x,.int .u8 y] 5)):=
 run_convert_bytes_arg (P:=Qry.prog) _ 48 5 Qry.underlying48 Qry.underlying5 W.heap.size 0 2 2 [x,y] rfl (fun j hj=>by
  have e:=(cells_of0 (heap_alloc_new W (.cells #[.int .u8 x,.int .u8 y] 5))).1
  rw [e]
  rcases (show j=0∨j=1 by omega) with rfl|rfl<;> rfl) 9 Qry.underlying9
theorem str2_size (x y:Int):(strOfNums [x,y]).size=2:=rfl
def leftN (g:NetG) (i k:Nat) (m:Mem):Nat:=cntTo (fun j=>(g.kn i k j && !g.go i k j) && !m.2 j) g.ws.length
theorem put_call_limit {B:Nat} {w:World} {bt:Nat} {g:NetG} {ks:Nat→ByteArray} {i k:Nat} {m:Mem} {val:ByteArray} (hN:NetAt B w bt g) (hI:NetInv ks g) (hK:KeysAt w ks) (hi:i< g.nr) (hk:k< 3) (hm:Good g.ws k m.1 m.2) (hv:val.size≤12) (hs:20≤leftN g i k m) (W:World) (hW:Below w.heap.size w W):
  Calls Qry.prog 21 #[.pointer (some ⟨g.b i,0,none⟩),.string (ks k),.string val,ctxV m.1] W fun e w'=>e= .returned (.int .i64 6)∧Below W.heap.size W w':=by
 have hR:=(hN.hrep i hi).below hW
 have hc:=unseen_count (go:=g.go i k) (fun j x hx h=>hI.known hi hk j x hx h) hm
 rw [← hI.hex i k hi hk] at hc
 refine put_limit (g.b i) i (g.bm i) (g.K i) (ks k) val m.1 W hR (hI.hkok i hi) (hK.key k hk).1 (hK.key k hk).2 hv (hm.sound hI.hlen) (Nat.lt_of_lt_of_le hi hI.hnr.2) (Or.inl ?_)
 rw [hc];exact hs
theorem put_call_ok {B:Nat} {w:World} {bt:Nat} {g:NetG} {ks:Nat→ByteArray} {i k:Nat} {m:Mem} {val:ByteArray} (hN:NetAt B w bt g) (hI:NetInv ks g) (hK:KeysAt w ks) (hi:i< g.nr) (hk:k< 3) (hm:Good g.ws k m.1 m.2) (hv:val.size≤12) (hs:leftN g i k m< 20) (W:World) (hW:Below w.heap.size w W):
  Calls Qry.prog 21 #[.pointer (some ⟨g.b i,0,none⟩),.string (ks k),.string val,ctxV m.1] W fun e w'=>e= .returned (.int .i64 0)∧W.grownBy w' (some (g.bm i (segN (ks k))))∧∃l',l'.Perm (unseenL (g.K i (ks k)).2 m.1++ [(i,bothC (g.K i (ks k)).1 m.1 i+1,val)])∧(l'.Pairwise (fun a b=>ltV b a=false)∧l'.length≤20)∧RepAt w' (g.b i) (g.bm i) i (updK (g.K i) (ks k) (bump (bothC (g.K i (ks k)).1 m.1) i,l')):=by
 have hR:=(hN.hrep i hi).below hW
 have hc:=unseen_count (go:=g.go i k) (fun j x hx h=>hI.known hi hk j x hx h) hm
 rw [← hI.hex i k hi hk] at hc
 have hb:=((hI.hgood i k hi hk).join hm).bounds hI.hlen i
 refine (put_ok (g.b i) i (g.bm i) (g.K i) (ks k) val m.1 W hR (hI.hkok i hi) (hK.key k hk).1 (hK.key k hk).2 hv (hm.sound hI.hlen) (Nat.lt_of_lt_of_le hi hI.hnr.2) (by rw [hc];exact hs) hb.1 (by omega)).mono ?_
 rintro e w' ⟨rfl,l',h1,h2,h3,h4⟩
 exact ⟨rfl,h4,l',h1,⟨h2,by have h5:(unseenL (g.K i (ks k)).2 m.1).length< 20:=(by rw [hc];exact hs)
                            rw [h1.length_eq,List.length_append,List.length_singleton];omega⟩,h3⟩
def PX (w1:World) (bt:Nat) (b:Nat):Prop:=b=bt∨∃cur,w1.heap[b]? =some (.cells cur 115 (0,0))
theorem PX.tag {w1:World} {bt b:Nat} {A C:Array Value} {t:TypeId} {fr:Nat×Nat} (hT:w1.heap[bt]? =some (.cells A 42)) (hb:w1.heap[b]? =some (.cells C t fr)) (h1:t≠42) (h2:t≠115): ¬ PX w1 bt b:=fun h=>by
 rcases h with e|⟨cur,e⟩
 ·rw [e,hT] at hb;exact h1 (tag_ne hb).symm
 ·rw [e] at hb;exact h2 (tag_ne hb).symm
theorem PX.map {w1:World} {bt b:Nat} {A:Array Value} {es:Array MapEntry} {clock:Nat} (hT:w1.heap[bt]? =some (.cells A 42)) (hb:w1.heap[b]? =some (.map es clock)): ¬ PX w1 bt b:=fun h=>by
 rcases h with e|⟨cur,e⟩
 ·rw [e,hT] at hb;cases hb
 ·rw [e] at hb;cases hb
theorem row_block {w:World} {B n size:Nat} {t:TypeId} {v:Value} {xs:List Value} (h:w.ownsRow B t size v n xs) (k:Nat) (hk:v.ownBlock=some k):B≤k∧∃cur,w.heap[k]? =some (.cells cur t (0,0)):=by
 rcases h.2 with ⟨h1,_⟩|⟨g,cap,cur,hv,hg,hh,_⟩
 ·rw [h1] at hk;cases hk
 ·rw [hv] at hk;simp [Value.ownBlock] at hk;subst hk;exact ⟨hg,cur,hh⟩
theorem put_done {B:Nat} {w wc w1 w2:World} {bt bx n cap at' i k:Nat} {ad:Option Addr} {g:NetG} {ks:Nat→ByteArray} {m:Mem} {val:ByteArray} {l':List Ver} {wv:Value} {A:Array Value} (hJ:Jx w bx ad n cap wc) (hN:NetAt B wc bt g) (hD:DiceAt w bx ad n cap at') (hB:B≤bx) (hnb:0< n→∀b off,ad=some ⟨b,off,none⟩→b< B) (hi:i< g.nr) (hi4:i< 4) (hk:k< 3) (hlen:g.ws.length< 80)
  (h1:Fr (fun b=>b=g.bm i (segN (ks k))) wc w1) (h2:Fr (PX w1 bt) w1 w2) (hT1:w1.heap[bt]? =some (.cells g.A 42)) (hW1:w1.ownsRow B 115 4 g.wv g.ws.length (flatW g.ws)) (hT:w2.heap[bt]? =some (.cells A 42)) (hA:A.size=1939)
  (hX1: ∀b cur,w1.heap[b]? =some (.cells cur 115 (0,0))→w2.heap[b]? ≠w1.heap[b]? →B≤b)
  (hR:RepAt w1 (g.b i) (g.bm i) i (updK (g.K i) (ks k) (bump (bothC (g.K i (ks k)).1 m.1) i,l')))
  (ha1:A[1]? =some wv) (hw:w2.ownsRow B 115 4 wv (g.ws.length+1) (flatW (g.ws++ [g.newW i k val]))) (hc:A[1927+i*3+k]? =some (.int .i64 (cntW g.ws i k+1)))
  (hg: ∀j,j< 80→A[962+i*240+k*80+j]? =some (.bool (g.go i k j||m.2 j))) (hkn: ∀j,j< 80→A[2+i*240+k*80+j]? =some (.bool (if j=g.ws.length then true else g.kn i k j||m.2 j)))
  (ho: ∀q,(q< 2+i*240+k*80∨2+i*240+k*80+80≤q)→(q< 962+i*240+k*80∨962+i*240+k*80+80≤q)→q≠1→q≠1927+i*3+k→A[q]? =g.A[q]?):
  Below B w w2∧NetAt B w2 bt (g.put ks i k m val l' wv A)∧∃at2,DiceAt w2 bx ad n cap at2:=by
 obtain ⟨es,clock,hmap⟩:=hN.map hi (segN_lt (ks k))
 have hF:Fr (fun b=>b=g.bm i (segN (ks k))∨b=bt∨∃cur,wc.heap[b]? =some (.cells cur 115 (0,0))) wc w2:=
  ⟨h2.os.trans h1.os,h2.tape.trans h1.tape,h2.output.trans h1.output,Nat.le_trans h1.size h2.size,fun q hq hn=>by
   have e1:=h1.block q hq (fun e=>hn (Or.inl e))
   rw [h2.block q (Nat.lt_of_lt_of_le hq h1.size) (fun e=>?_),e1]
   rcases e with e|⟨cur,e⟩
   ·exact hn (Or.inr (Or.inl e))
   ·rw [e1] at e;exact hn (Or.inr (Or.inr ⟨cur,e⟩))⟩
 have ht:Turns (fun b=>b=g.bm i (segN (ks k))∨b=bt∨∃cur,wc.heap[b]? =some (.cells cur 115 (0,0))) wc bt i (segN (ks k)) g:=⟨fun b e=>by
  rcases e with e|e|e
  ·exact Or.inr (Or.inl e)
  ·exact Or.inl e
  ·exact Or.inr (Or.inr e),hi,segN_lt _⟩
 have hbw:B≤wc.heap.size:=by
  have:=hN.hB.1
  have:=(Array.getElem?_eq_some_iff.1 hN.hT).1
  omega
 have hb:Below B w w2:=by
  refine (hJ.toBelow hB).trans ⟨hF.os,hF.tape,hF.output,hF.size,fun q hq=>?_⟩
  have e1:=h1.block q (by omega) (fun e=>by have:=hN.hB.2 i _ hi (segN_lt (ks k));omega)
  rw [← e1]
  by_cases hx:PX w1 bt q
  ·rcases hx with e|⟨cur,e⟩
   ·have:=hN.hB.1;omega
   ·by_cases hne:w2.heap[q]? =w1.heap[q]?
    ·exact hne
    ·have:=hX1 q cur e hne;omega
  ·exact h2.block q (Nat.lt_of_lt_of_le (by omega) h1.size) hx
 have hrep:RepAt w2 (g.b i) (g.bm i) i (updK (g.K i) (ks k) (bump (bothC (g.K i (ks k)).1 m.1) i,l')):=by
  refine h2.rep hR ?_ (fun q hq=>?_) (fun q cur hc=>PX.tag hT1 hc (by decide) (by decide))
  ·obtain ⟨⟨C,hC,_⟩,_⟩:=hR
   exact PX.tag hT1 hC (by decide) (by decide)
  ·obtain ⟨es',clock',hm',_⟩:=hR.2.1 q hq
   exact PX.map hT1 hm'
 refine ⟨hb,hN.put hF ht hi4 hk hlen hT hA hrep ha1 hw hc hg hkn ho,dice_fr hD hJ hF (fun e=>?_) hnb hb⟩
 obtain ⟨_,⟨a,_,h3⟩,_⟩:=hJ
 rcases e with e|e|⟨cur,e⟩
 ·rw [e,hmap] at h3;cases h3
 ·rw [e,hN.hT] at h3;exact absurd (tag_ne h3) (by decide)
 ·rw [h3] at e;exact absurd (tag_ne e) (by decide)
theorem append_done {B:Nat} {w1 wc w2:World} {bt n size o:Nat} {v u v':Value} {xs:List Value} {gA A1 C:Array Value} {t0:TypeId} (h5:Fr (fun b=>b=bt) w1 wc) (hT1:w1.heap[bt]? =some (.cells gA 42)) (hrow: ∀q,v.ownBlock=some q→B≤q∧∃cur,w1.heap[q]? =some (.cells cur 115 (0,0)))
  (hgrow:((wc.alloc (.cells C t0)).drew).grownBy w2 v.ownBlock) (hT2:w2.heap[bt]? =some (.cells A1 42)) (hown:w2.ownsRow B 115 size v' n xs):
  (w2.setCell ⟨bt,o,none⟩ u).ownsRow B 115 size v' n xs∧Fr (PX w1 bt) w1 (w2.setCell ⟨bt,o,none⟩ u)∧∀b cur,w1.heap[b]? =some (.cells cur 115 (0,0))→(w2.setCell ⟨bt,o,none⟩ u).heap[b]? ≠w1.heap[b]? →B≤b:=by
 refine ⟨?_,?_,fun b cur hb hne=>?_⟩
 ·exact (Fr.setCell (X:=fun b=>b=bt) (Fr.refl _ w2) (Or.inr rfl) u).row' hown (fun b cur hb e=>by rw [e,hT2] at hb;exact absurd (tag_ne hb) (by decide))
 ·exact Fr.setCell (((h5.weaken (fun b e=>Or.inl e)).alloc _).drew.grown hgrow (fun q hq _=>Or.inr (hrow q hq).2)) (Or.inr (Or.inl rfl)) u
 ·by_cases hv:v.ownBlock=some b
  ·exact (hrow b hv).1
  ·exfalso
   have hbt:b≠bt:=fun e=>by rw [e,hT1] at hb;exact absurd (tag_ne hb) (by decide)
   have hlt:=(Array.getElem?_eq_some_iff.1 hb).1
   have hlt':b< wc.heap.size:=Nat.lt_of_lt_of_le hlt h5.size
   apply hne
   rw [Below.heap_setCell _ _ _ _ hbt,hgrow.block b (by simp;omega) (fun e=>hv e.symm)]
   show (wc.alloc _).heap[b]? =_
   rw [Below.heap_alloc _ _ _ hlt',h5.block b hlt hbt]
theorem flatW_snoc (ws:List Wr) (i k:Nat) (n:Int) (val:ByteArray):flatW (ws++ [(i,k,n,val)])=flatW ws++ [.int .i64 i,.int .i64 k,.int .i64 n,.string val]:=by
 simp [flatW,encW]
theorem puts_end {B:Nat} {w wc w1 wa wb wd:World} {bt bx n cap at' i k ga ca:Nat} {ad:Option Addr} {g:NetG} {ks:Nat→ByteArray} {m:Mem} {val:ByteArray} {l':List Ver} {A1 A2 A3 A4:Array Value} {cn:Int} (hJ:Jx w bx ad n cap wc) (hN:NetAt B wc bt g) (hD:DiceAt w bx ad n cap at') (hB:B≤bx) (hnb:0< n→∀b off,ad=some ⟨b,off,none⟩→b< B) (hi:i< g.nr) (hi4:i< 4) (hk:k< 3) (hlen:g.ws.length< 80) (hcn:cntW g.ws i k=cn)
  (h1:Fr (fun b=>b=g.bm i (segN (ks k))) wc w1) (hT1:w1.heap[bt]? =some (.cells g.A 42)) (hW1:w1.ownsRow B 115 4 g.wv g.ws.length (flatW g.ws))
  (hR:RepAt w1 (g.b i) (g.bm i) i (updK (g.K i) (ks k) (bump (bothC (g.K i (ks k)).1 m.1) i,l')))
  (H34:A1[1927+i*3+k]? =some (.int .i64 (cn+1))∧∀q,q≠1927+i*3+k→A1[q]? =g.A[q]?)
  (HB7:A2[1]? =some (.slice (some ⟨ga,0,none⟩) (g.ws.length+1) ca)∧(∀q,q≠1→A2[q]? =A1[q]?)∧(∀b cur,w1.heap[b]? =some (.cells cur 115 (0,0))→wa.heap[b]? ≠w1.heap[b]? →B≤b))
  (hTa:wa.heap[bt]? =some (.cells A2 42)) (W2:wa.ownsRow B 115 4 (.slice (some ⟨ga,0,none⟩) (g.ws.length+1) ca) (g.ws.length+1) (flatW (g.ws++ [(i,k,cn+1,val)]))) (F2:Fr (PX w1 bt) w1 wa)
  (HC3:(∀j,j< 80→A3[962+i*240+k*80+j]? =some (.bool (g.go i k j||m.2 j)))∧(∀j,(j< 962+i*240+k*80∨962+i*240+k*80+80≤j)→A3[j]? =A2[j]?)∧Fr (fun b=>b=bt) wa wb)
  (HD4:(∀j,j< 80→A4[2+i*240+k*80+j]? =some (.bool (g.kn i k j||m.2 j)))∧(∀j,(j< 2+i*240+k*80∨2+i*240+k*80+80≤j)→A4[j]? =A3[j]?)∧Fr (fun b=>b=bt) wb wd)
  (hTd:wd.heap[bt]? =some (.cells A4 42)) (hA4:A4.size=1939):
  Below B w (wd.setCell ⟨bt,2+i*240+k*80+g.ws.length,none⟩ (.bool true)).drew∧NetAt B (wd.setCell ⟨bt,2+i*240+k*80+g.ws.length,none⟩ (.bool true)).drew bt (g.put ks i k m val l' (.slice (some ⟨ga,0,none⟩) (g.ws.length+1) ca) (A4.setIfInBounds (2+i*240+k*80+g.ws.length) (.bool true)))∧∃at2,DiceAt (wd.setCell ⟨bt,2+i*240+k*80+g.ws.length,none⟩ (.bool true)).drew bx ad n cap at2:=by
 have F35:Fr (fun b=>b=bt) wa (wd.setCell ⟨bt,2+i*240+k*80+g.ws.length,none⟩ (.bool true)).drew:=((HC3.2.2.trans HD4.2.2).setCell (Or.inr rfl) _).drew
 have hT5:(wd.setCell ⟨bt,2+i*240+k*80+g.ws.length,none⟩ (.bool true)).drew.heap[bt]? =some (.cells (A4.setIfInBounds (2+i*240+k*80+g.ws.length) (.bool true)) 42):=heap_set (w:=wd) hTd
 have hget: ∀q,q≠2+i*240+k*80+g.ws.length→(A4.setIfInBounds (2+i*240+k*80+g.ws.length) (.bool true))[q]? =A4[q]? :=fun q hq=>by
  rw [Array.getElem?_setIfInBounds,if_neg (fun e=>hq e.symm)]
 have hnewW:g.newW i k val=(i,k,cn+1,val):=by unfold NetG.newW;rw [hcn]
 refine put_done hJ hN hD hB hnb hi hi4 hk hlen h1 (F2.trans (F35.weaken fun b e=>Or.inl e)) hT1 hW1 hT5 (by rw [Array.size_setIfInBounds];exact hA4) (fun b cur hb hne=>?_) hR ?_ ?_ ?_ (fun j hj=>?_) (fun j hj=>?_) (fun q h1 h2 h3 h4=>?_)
 ·refine HB7.2.2 b cur hb (fun e=>hne ?_)
  have hbt:b≠bt:=fun e=>by rw [e,hT1] at hb;exact absurd (tag_ne hb) (by decide)
  have hlt:=(Array.getElem?_eq_some_iff.1 hb).1
  rw [F35.block b (Nat.lt_of_lt_of_le hlt F2.size) hbt,e]
 ·rw [hget 1 (by omega),HD4.2.1 1 (by omega),HC3.2.1 1 (by omega)];exact HB7.1
 ·rw [hnewW]
  exact F35.row' W2 (fun b cur hb e=>by rw [e,hTa] at hb;exact absurd (tag_ne hb) (by decide))
 ·rw [hget _ (by omega),HD4.2.1 _ (by omega),HC3.2.1 _ (by omega),HB7.2.1 _ (by omega),H34.1,hcn]
 ·rw [hget _ (by omega),HD4.2.1 _ (by omega)];exact HC3.1 j hj
 ·by_cases e:j=g.ws.length
  ·subst e
   rw [Array.getElem?_setIfInBounds,if_pos rfl,if_pos (by omega),if_pos rfl]
  ·rw [hget _ (by omega),HD4.1 j hj,if_neg e]
 ·rw [hget _ (by omega),HD4.2.1 _ h1,HC3.2.1 _ h2,HB7.2.1 _ h3,H34.2 _ h4]
theorem Qry.infoWr:(Qry.prog.info? 115).map (fun i=>(i.zero,i.size,i.bytes))=some (some (.agg #[.int .i64 0,.int .i64 0,.int .i64 0,.string ⟨#[]⟩]),4,40):=by kernel_rfl
set_option maxRecDepth 100000 in
set_option maxHeartbeats 20000000 in
theorem puts_true (B bt bx n cap at' i k:Nat) (ad:Option Addr) (g:NetG) (ks:Nat→ByteArray) (w:World) (hN:NetAt B w bt g) (hI:NetInv ks g) (hK:KeysAt w ks) (hD:DiceAt w bx ad n cap at') (hnb:0< n→∀b off,ad=some ⟨b,off,none⟩→b< B) (hB:B≤bx) (hB0:0< B) (hi:i< g.nr) (hk:k< 3) (hws:g.ws.length< 80):
  Calls Qry.prog 24 #[.pointer (some ⟨bt,0,none⟩),.pointer (some ⟨bx,0,none⟩),.int .i64 i,.int .i64 k] w fun e w'=>e= .returned (.bool true)∧Below B w w'∧∃g',g'.nr=g.nr∧NetAt B w' bt g'∧NetInv ks g'∧∃at2,DiceAt w' bx ad n cap at2:=by
 have hL:=hI.hmemN k hk
 have hnb':0< n→∀b off,ad=some ⟨b,off,none⟩→b≠bx:=fun h0 b off h=>by have:=hnb h0 b off h;omega
 have HJ:Hid (∀w',Jx w bx ad n cap w'→NetAt B w' bt g):=fun w' h=>hN.fr h.1 (hN.apart_tag hD.1 (by decide) (by decide) (by decide) (by decide) (by decide) (by decide))
 have HDice:Hid (∀w',Jx w bx ad n cap w'→∃at2,DiceAt w' bx ad n cap at2):=fun w' h=>h.dice hD.2.2.1 hD.2.2.2 hnb'
 have Hmk:Hid (∀w',Jx w bx ad n cap w'→w'.cell? ⟨bt,1922+k,none⟩=some (.slice (some ⟨g.gm k,0,none⟩) (g.mem k).length (g.capm k))∧(∀r,r< (g.mem k).length→hasC w' (g.gm k) (r*84))∧(∀r,r< (g.mem k).length→rdC w' (g.gm k) (r*84)=encM (memD (g.mem k) r))∧∃at2,DiceAt w' bx ad n cap at2):=fun w' h=>
  ⟨((HJ.out w' h).memIn hk).1,((HJ.out w' h).memIn hk).2.1,((HJ.out w' h).memIn hk).2.2,HDice.out w' h⟩
 have HNext:Hid (∀W,(∃at2,DiceAt W bx ad n cap at2)→Calls Qry.prog 14 #[.pointer (some ⟨bx,0,none⟩),.int .i64 (g.mem k).length] W fun e w'=>∃(r at2:Nat),e= .returned (.int .i64 r)∧r< (g.mem k).length∧DiceAt w' bx ad n cap at2∧W.grownBy w' (some bx)):=by
  rintro W ⟨a,hW⟩
  refine (next_any bx ad n cap a (g.mem k).length W hW hnb' (by omega) (by omega)).mono ?_
  rintro e w' ⟨r,at2,rfl,hr,hd,_,hg,hz⟩
  exact ⟨r,at2,rfl,by omega,hd,hg⟩
 have J0:Hid (Jx w bx ad n cap w):=Jx.start hD
 have HI:Hid _:=hI
 have HKA:Hid _:=hK
 have k3:(k:Int)< 3:=by omega
 have k0:(0:Int)≤(k:Int):=by omega
 have hi4:(i:Int)< 4:=by have:=hI.hnr;omega
 have hi0:(0:Int)≤(i:Int):=by omega
 have hin:(i:Int)< (g.nr:Int):=by omega
 have hbx:bx< w.heap.size:=(Array.getElem?_eq_some_iff.1 hD.1).1
 have hz:=Qry.zeroMem
 have hst:=store_new
 have hL30:=hL.2
 have HD0:Hid _:=hD
 have HN0:Hid _:=hN
 clear hD hI hK hN hL
 generalize hgk:g.gm k=gk at*
 generalize hck:g.capm k=ck at*
 have HGK:Hid _:=And.intro hgk hck
 clear hgk hck
 have HNext26:Hid (∀W,Jx w bx ad n cap W→Calls Qry.prog 14 #[.pointer (some ⟨bx,0,none⟩),.int .i64 26] W fun e w'=>∃(r at2:Nat),e= .returned (.int .i64 r)∧r< 26∧DiceAt w' bx ad n cap at2∧W.grownBy w' (some bx)):=by
  intro W hJW
  obtain ⟨a,hW⟩:=HDice.out W hJW
  refine (next_any bx ad n cap a 26 W hW hnb' (by omega) (by omega)).mono ?_
  rintro e w' ⟨r,at2,rfl,hr,hd,_,hg,hz⟩
  exact ⟨r,at2,rfl,by omega,hd,hg⟩
 go_enter Qry.func24,Qry.ntmps24
 go_wp2
 go_cut [9] from 14 to 31 (fun pv wx=>∃p r,pv= .pointer (some ⟨p,0,none⟩)∧w.heap.size≤p∧r< (g.mem k).length∧wx.heap[p]? =some (.cells (encM (memD (g.mem k) r)).toArray 74)∧Jx w bx ad n cap wx)
 case first=>
  go_region_held3 (fun w'=>w'.cell? ⟨bt,1922+k,none⟩=some (.slice (some ⟨gk,0,none⟩) (g.mem k).length ck)∧(∀r,r< (g.mem k).length→hasC w' gk (r*84))∧(∀r,r< (g.mem k).length→rdC w' gk (r*84)=encM (memD (g.mem k) r))∧∃at2,DiceAt w' bx ad n cap at2)
   ((refine Hmk.out _ ?_;first|(simp (maxDischargeDepth:=12) [Jx.drew,Jx.alloc,Jx.setCells,J0.out];done)|(simp (maxDischargeDepth:=12) [Jx.drew,Jx.alloc,Jx.setCells,J1,z1];done)))
   (first|(go_at_call 14;refine Calls.mono (HNext.out _ (by go_split_ands;assumption)) ?_;rintro e w1 ⟨r,at2,rfl,hr,hd,hg⟩;(try (have hkn:=kept_new (w:=w) hg hbx;have hs1:=store_enc zMem_size hkn));have J1:Jx w bx ad n cap w1:=Jx.next (by simp (maxDischargeDepth:=12) [Jx.drew,Jx.alloc,J0.out]) hg hd;have z1:=J1.1.size;clear hd hg))
  ·go_wp2_with fail
   go_meet
   exact ⟨w1.heap.size,r,rfl,z1,hr,after_enc zMem_size (heap_alloc_new w1 _) _,(J1.alloc _).setCells z1 _ _⟩
  ·go_wp2_with fail
   go_meet
   exact ⟨w.heap.size,r,rfl,Nat.le_refl _,hr,after_enc zMem_size hkn _,J1.setCells (Nat.le_refl _) _ _⟩
 case rest=>
  obtain ⟨p,r,rfl,hp,hr,hpc,hJ⟩:=hcut
  have HP:Hid _:=hpc
  have HJC:Hid (Jx w bx ad n cap wc):=hJ
  have NC:Hid _:=HJ.out _ hJ
  have KC:Hid (KeysAt wc ks):=HKA.out.below hB0 (hJ.toBelow hB)
  have HM:Hid (Good g.ws k (memD (g.mem k) r).1 (memD (g.mem k) r).2):=HI.out.hmemG k _ hk (by rw [memD_eq _ _ hr];exact List.getElem_mem hr)
  clear hpc hJ Hmk HNext hst hz
  generalize memD (g.mem k) r=m at*
  obtain ⟨wad,wcap,hwv⟩:=row_len NC.out.hw
  have HWV:Hid _:=hwv
  have hlen80:g.ws.length≤80:=HI.out.hlen
  have HT1:Hid (∀w',Jx w bx ad n cap w'→w'.cell? ⟨bt,1,none⟩=some (.slice wad g.ws.length wcap)):=fun w' h=>by rw [(cells_of0 (HJ.out w' h).hT).1,(HJ.out w' h).h1,hwv]
  have HS1:Hid (∀w',Jx w bx ad n cap w'→w'.cell? ⟨bt,1,none⟩=some (.slice wad g.ws.length wcap)∧Jx w bx ad n cap w'):=fun w' h=>⟨HT1.out w' h,h⟩
  clear hwv
  go_wp2
  go_cut [10] from 31 to 43 (fun vv wx=>∃val,vv= .string val∧val.size≤12∧wx.heap[p]? =some (.cells (encM m).toArray 74)∧Jx w bx ad n cap wx)
  case first=>
   have t0:=HT1.out _ HJC.out
   have hcv:=conv2
   go_region_with (first|(go_at_call 14;refine Calls.mono (HNext26.out _ (Jx.drew HJC.out)) ?_;rintro e w1 ⟨r2,at2,rfl,hr2,hd,hg⟩;have P1:Hid (w1.heap[p]? =some (.cells (encM m).toArray 74)):=(Fr.grown (X:=fun b=>b=bx) (Fr.drew (Fr.refl _ wc)) hg (fun b e _=>by cases e;rfl)).heap HP.out (fun e=>by have h1:bx< w.heap.size:=hbx;omega);have J1:Hid (Jx w bx ad n cap w1):=Jx.next (Jx.drew HJC.out) hg hd;have t1:=HT1.out _ J1.out;clear hd hg))
   all_goals
    go_wp2_with fail
    go_meet
    refine ⟨_,rfl,by rw [str2_size];decide,?_,J1.out.alloc _⟩
    rw [Below.heap_alloc _ _ _ (Array.getElem?_eq_some_iff.1 P1.out).1];exact P1.out
  case rest=>
   obtain ⟨val,rfl,hval,hpc,hJ⟩:=hcut
   clear HP KC NC HJC
   have HP:Hid (wc.heap[p]? =some (.cells (encM m).toArray 74)):=hpc
   have HJC:Hid (Jx w bx ad n cap wc):=hJ
   have NC:Hid (NetAt B wc bt g):=HJ.out _ hJ
   have KC:Hid (KeysAt wc ks):=HKA.out.below hB0 (hJ.toBelow hB)
   clear hpc hJ
   have hmap:=NC.out.map hi (segN_lt (ks k))
   have hcell:Hid (∀w',Fr (fun b=>b=g.bm i (segN (ks k))) wc w'→w'.cell? ⟨bt,0,none⟩=some (.slice (some ⟨g.br,0,none⟩) g.nr g.capr)∧w'.cell? ⟨g.br,i,none⟩=some (.pointer (some ⟨g.b i,0,none⟩))∧w'.cell? ⟨0,k,none⟩=some (.string (ks k))∧w'.cell? ⟨p,0,none⟩=some (.int .i64 (m.1 0))∧w'.cell? ⟨p,1,none⟩=some (.int .i64 (m.1 1))∧w'.cell? ⟨p,2,none⟩=some (.int .i64 (m.1 2))∧w'.cell? ⟨p,3,none⟩=some (.int .i64 (m.1 3))):=fun w' h=>by
    obtain ⟨es,clock,hm⟩:=hmap
    have ne: ∀{b C t},wc.heap[b]? =some (.cells C t)→¬ b=g.bm i (segN (ks k)):=fun h e=>by rw [e,hm] at h;cases h
    have hp:=(cells_of0 HP.out).1
    refine ⟨h.cell (by rw [(cells_of0 NC.out.hT).1];exact NC.out.h0) (ne NC.out.hT),h.cell (by rw [(cells_of0 NC.out.hR).1];exact NC.out.hRi i hi) (ne NC.out.hR),h.cell (KC.out.cell k hk) (fun e=>?_),h.cell (hp 0) (ne HP.out),h.cell (hp 1) (ne HP.out),h.cell (hp 2) (ne HP.out),h.cell (hp 3) (ne HP.out)⟩
    have:=NC.out.hB.2 i _ hi (segN_lt (ks k));omega
   have hnr4:g.nr≤4:=HI.out.hnr.2
   have F0:Hid (Fr (fun b=>b=g.bm i (segN (ks k))) wc wc):=Fr.refl _ _
   by_cases hU:leftN g i k m< 20
   ·have HPut:Hid (∀W,Below wc.heap.size wc W→Calls Qry.prog 21 #[.pointer (some ⟨g.b i,0,none⟩),.string (ks k),.string val,ctxV m.1] W fun e w'=>e= .returned (.int .i64 0)∧W.grownBy w' (some (g.bm i (segN (ks k))))∧∃l',l'.Perm (unseenL (g.K i (ks k)).2 m.1++ [(i,bothC (g.K i (ks k)).1 m.1 i+1,val)])∧(l'.Pairwise (fun a b=>ltV b a=false)∧l'.length≤20)∧RepAt w' (g.b i) (g.bm i) i (updK (g.K i) (ks k) (bump (bothC (g.K i (ks k)).1 m.1) i,l'))):=fun W hW=>put_call_ok NC.out HI.out KC.out hi hk HM.out hval hU W hW
    go_wp2_with fail
    go_region_held3 (fun w'=>w'.cell? ⟨bt,0,none⟩=some (.slice (some ⟨g.br,0,none⟩) g.nr g.capr)∧w'.cell? ⟨g.br,i,none⟩=some (.pointer (some ⟨g.b i,0,none⟩))∧w'.cell? ⟨0,k,none⟩=some (.string (ks k))∧w'.cell? ⟨p,0,none⟩=some (.int .i64 (m.1 0))∧w'.cell? ⟨p,1,none⟩=some (.int .i64 (m.1 1))∧w'.cell? ⟨p,2,none⟩=some (.int .i64 (m.1 2))∧w'.cell? ⟨p,3,none⟩=some (.int .i64 (m.1 3)))
     ((refine hcell.out _ ?_;first|(simp [Fr.drew,F0.out];done)|(simp [Fr.drew,F1];done)))
     (first|(go_at_call 21;refine Calls.mono (HPut.out _ (by simp [Below.refl,Below.drew])) ?_;rintro e w1 ⟨rfl,hg1,l',hperm,hsort,hrep1⟩;have F1:Fr (fun b=>b=g.bm i (segN (ks k))) wc w1:=Fr.grown (Fr.drew F0.out) hg1 (fun b e _=>by cases e;rfl);have HR1:Hid (RepAt w1 (g.b i) (g.bm i) i (updK (g.K i) (ks k) (bump (bothC (g.K i (ks k)).1 m.1) i,l'))):=hrep1;have HPS:Hid (l'.Perm (unseenL (g.K i (ks k)).2 m.1++ [(i,bothC (g.K i (ks k)).1 m.1 i+1,val)])∧l'.Pairwise (fun a b=>ltV b a=false)∧l'.length≤20):=⟨hperm,hsort⟩;clear hg1 hperm hsort hrep1))
    have hm':=hmap
    obtain ⟨es,clock,hmp⟩:=hm'
    have T1:Hid (w1.heap[bt]? =some (.cells g.A 42)):=F1.heap NC.out.hT (fun e=>by have:=NC.out.hT;rw [e,hmp] at this;cases this)
    have P1:Hid (w1.heap[p]? =some (.cells (encM m).toArray 74)):=F1.heap HP.out (fun e=>by have:=HP.out;rw [e,hmp] at this;cases this)
    have W1:Hid (w1.ownsRow B 115 4 g.wv g.ws.length (flatW g.ws)):=F1.row' NC.out.hw (fun b cur hb e=>by rw [e,hmp] at hb;cases hb)
    have HF1:Hid (Fr (fun b=>b=g.bm i (segN (ks k))) wc w1):=F1
    have hi4n:i< 4:=by omega
    have hAs:=NC.out.hA
    have hcc:w1.cell? ⟨bt,1927+i*3+k,none⟩=some (.int .i64 (cntW g.ws i k)):=by rw [(cells_of0 T1.out).1];exact NC.out.hcnt i k hi4n hk
    have hlt:Hid (1927+i*3+k< g.A.size):=by show _< _;rw [hAs];omega
    have hcf:w1.frozen? ⟨bt,1927+i*3+k,none⟩=false:=(cells_of0 T1.out).2 _
    have hc0:=cntW_nonneg g.ws i k
    have hc1:=cntW_le g.ws i k
    have HNC:Hid (NetAt B wc bt g):=NC.out
    have HJC0:Hid (Jx w bx ad n cap wc):=HJC.out
    clear F1 hmp hmap NC HJC HP hcell F0 HPut
    generalize hcn:cntW g.ws i k=cn at*
    have HCN:Hid _:=hcn
    clear hcn
    go_wp2
    go_cut [] from 104 to 117 (fun wx=>∃A1,wx.heap[bt]? =some (.cells A1 42)∧A1.size=1939∧A1[1927+i*3+k]? =some (.int .i64 (cn+1))∧(∀q,q≠1927+i*3+k→A1[q]? =g.A[q]?)∧Fr (fun b=>b=bt) w1 wx)
    case first=>
     go_region_with (fail)
     all_goals
      go_wp2_with fail
      go_meet
      refine ⟨_,heap_set (w:=w1.drew) T1.out,?_,?_,?_,?_⟩
      ·rw [Array.size_setIfInBounds];exact hAs
      ·rw [Array.getElem?_setIfInBounds,if_pos rfl,if_pos hlt.out,wrap_small _ (by omega) (by omega)]
      ·intro q hq
       rw [Array.getElem?_setIfInBounds,if_neg (fun e=>hq e.symm)]
      ·exact Fr.setCell (X:=fun b=>b=bt) (Fr.drew (Fr.refl _ _)) (Or.inr rfl) _
    case rest=>
     obtain ⟨A1,a1,a2,a3,a4,a5⟩:=hcut
     have HA1:Hid (wc.heap[bt]? =some (.cells A1 42)):=a1
     have H5:Hid (Fr (fun b=>b=bt) w1 wc):=a5
     have a2':A1.size=1939:=a2
     have t1:wc.cell? ⟨bt,1,none⟩=some (.slice wad g.ws.length wcap):=by rw [(cells_of0 a1).1,a4 1 (by omega),HNC.out.h1,HWV.out]
     have t2:wc.cell? ⟨bt,1927+i*3+k,none⟩=some (.int .i64 (cn+1)):=by rw [(cells_of0 a1).1];exact a3
     have WC:Hid (wc.ownsRow B 115 4 (.slice wad g.ws.length wcap) g.ws.length (flatW g.ws)):=by
      have:=a5.row' W1.out (fun b cur hb e=>by rw [e,T1.out] at hb;exact absurd (tag_ne hb) (by decide))
      rw [HWV.out] at this;exact this
     have hBs:Hid (B≤wc.heap.size):=by
      have h1:=HNC.out.hB.1
      have h2:=(Array.getElem?_eq_some_iff.1 a1).1
      show _≤_;omega
     have hrow:Hid (∀q,(Value.slice wad g.ws.length wcap).ownBlock=some q→B≤q∧∃cur,w1.heap[q]? =some (.cells cur 115 (0,0))):=fun q hq=>by
      have:=row_block W1.out q (by rw [HWV.out];exact hq);exact this
     have hbtn:Hid (¬ (Value.slice wad g.ws.length wcap).ownBlock=some bt):=fun e=>by
      obtain ⟨_,cur,hc⟩:=hrow.out bt e
      rw [T1.out] at hc;exact absurd (tag_ne hc) (by decide)
     have H34:Hid (A1[1927+i*3+k]? =some (.int .i64 (cn+1))∧∀q,q≠1927+i*3+k→A1[q]? =g.A[q]?):=⟨a3,a4⟩
     obtain ⟨i0,hi0,hz0,hz1,hz2⟩:=info_parts Qry.infoWr
     have hbt:=(Array.getElem?_eq_some_iff.1 a1).1
     clear a1 a2 a3 a4 a5 hcc hcf
     go_wp2
     go_cut [] from 117 to 138 (fun wx=>∃A2 ga ca,wx.heap[bt]? =some (.cells A2 42)∧A2.size=1939∧A2[1]? =some (.slice (some ⟨ga,0,none⟩) (g.ws.length+1) ca)∧(∀q,q≠1→A2[q]? =A1[q]?)∧wx.ownsRow B 115 4 (.slice (some ⟨ga,0,none⟩) (g.ws.length+1) ca) (g.ws.length+1) (flatW (g.ws++ [(i,k,cn+1,val)]))∧Fr (PX w1 bt) w1 wx∧(∀b cur,w1.heap[b]? =some (.cells cur 115 (0,0))→wx.heap[b]? ≠w1.heap[b]? →B≤b))
     case first=>
      go_region_law (first|(refine step_append_lies _ rfl _ _ _ rfl B 115 i0 _ 4 40 Qry.underlying31 hi0 hz0 hz1 hz2 rfl (by omega) (.slice wad g.ws.length wcap) _ _ rfl ((World.ownsRow.drew WC.out).alloc _) ⟨wc.heap.size,0,none⟩ 1 1 [.int .i64 i,.int .i64 k,.int .i64 (cn+1),.string val] rfl rfl (World.news_of_block (cs:=#[.int .i64 i,.int .i64 k,.int .i64 (cn+1),.string val]) (t:=115) (fr:=(0,0)) (heap_alloc_new wc.drew _)) (by simp [Value.oneCell']) (by omega) (by unfold maxLen;omega) (by omega) (by have:=hBs.out;simp;omega) (wc.heap.size+1) (by simp) ?_;intro gg capn w2 hown2 hgrow hat hlt2;have T2:w2.heap[bt]? =some (.cells A1 42):=(by rw [hgrow.block bt (by simp;omega) (fun e=>hbtn.out e.symm)];show (wc.alloc _).heap[bt]? =_;rw [Below.heap_alloc _ _ _ hbt];exact HA1.out);have s1:w2.cell? ⟨bt,1,none⟩=some A1[1]:=(by rw [(cells_of0 T2).1];exact Array.getElem?_eq_getElem (by omega));have s2:w2.frozen? ⟨bt,1,none⟩=false:=(cells_of0 T2).2 1;have HT2:Hid (w2.heap[bt]? =some (.cells A1 42)):=T2;have HD2:Hid _:=append_done (o:=1) (u:= .slice (some ⟨gg,0,none⟩) (g.ws.length+1) capn) H5.out T1.out hrow.out hgrow HT2.out hown2;clear T2 hown2 hgrow hat hlt2))
      all_goals
       go_wp2_with fail
       go_meet
       obtain ⟨d1,d2,d3⟩:=HD2.out
       refine ⟨_,gg,capn,heap_set HT2.out,?_,?_,?_,?_,d2,d3⟩
       ·rw [Array.size_setIfInBounds];exact a2'
       ·rw [Array.getElem?_setIfInBounds,if_pos rfl,if_pos (by omega)]
       ·intro q hq
        rw [Array.getElem?_setIfInBounds,if_neg (fun e=>hq e.symm)]
       ·rw [flatW_snoc];exact d1
     case rest=>
      obtain ⟨A2,ga,ca,b1,b2,b3,b4,b5,b6,b7⟩:=hcut
      have HB7:Hid (A2[1]? =some (.slice (some ⟨ga,0,none⟩) (g.ws.length+1) ca)∧(∀q,q≠1→A2[q]? =A1[q]?)∧(∀b cur,w1.heap[b]? =some (.cells cur 115 (0,0))→wc.heap[b]? ≠w1.heap[b]? →B≤b)):=⟨b3,b4,b7⟩
      have HA2:Hid (wc.heap[bt]? =some (.cells A2 42)):=b1
      have W2:Hid (wc.ownsRow B 115 4 (.slice (some ⟨ga,0,none⟩) (g.ws.length+1) ca) (g.ws.length+1) (flatW (g.ws++ [(i,k,cn+1,val)]))):=b5
      have F2:Hid (Fr (PX w1 bt) w1 wc):=b6
      have hpx:Hid (¬ PX w1 bt p):=PX.tag T1.out P1.out (by decide) (by decide)
      have P2:Hid (wc.heap[p]? =some (.cells (encM m).toArray 74)):=b6.heap P1.out hpx.out
      have hgo2:Hid (∀j,j< 80→wc.cell? ⟨bt,962+i*240+k*80+j,none⟩=some (.bool (g.go i k j))):=fun j hj=>by
       rw [(cells_of0 b1).1,b4 _ (by omega),H34.out.2 _ (by omega)];exact HNC.out.hgo i k j hi4n hk hj
      have hkn2:Hid (∀j,j< 80→A2[2+i*240+k*80+j]? =some (.bool (g.kn i k j))):=fun j hj=>by
       rw [b4 _ (by omega),H34.out.2 _ (by omega)];exact HNC.out.hkn i k j hi4n hk hj
      obtain ⟨r1,q1⟩:=rdB_of hgo2.out
      obtain ⟨r2,q2⟩:=rdB_of (w:=wc) (b:=p) (o:=4) (s:=m.2) (fun j hj=>by rw [(cells_of0 P2.out).1];exact encM_bit m j hj)
      clear b1 b3 b4 b5 b6 b7 t1 t2 WC
      go_wp2
      go_cut [] from 138 to 156 (fun wx=>∃A3,wx.heap[bt]? =some (.cells A3 42)∧A3.size=1939∧(∀j,j< 80→A3[962+i*240+k*80+j]? =some (.bool (g.go i k j||m.2 j)))∧(∀j,(j< 962+i*240+k*80∨962+i*240+k*80+80≤j)→A3[j]? =A2[j]?)∧Fr (fun b=>b=bt) wc wx)
      case first=>
       go_region_with (first|(go_at_call 45;refine (all_any (g.go i k) m.2 _).mono ?_;rintro e w2 ⟨rfl,hb2⟩;have B2:=undrew (w0:=wc) hb2 rfl rfl rfl rfl;have T2:=heap_keep HA2.out B2;have t2:thereB w2 bt (962+i*240+k*80):=thereB_of T2 (by omega);have HT2:Hid _:=T2;have HB2:Hid _:=B2;clear hb2 B2 T2))
       all_goals
        go_wp2_with fail
        go_meet
        obtain ⟨A3,a1,a2,a3,a4⟩:=set_stored HT2.out (show 962+i*240+k*80+80≤A2.size by omega) (fun j=>g.go i k j||m.2 j)
        exact ⟨A3,a1,by rw [a2];exact b2,a3,a4,Fr.setCells (X:=fun b=>b=bt) (Fr.of_below HB2.out) (Or.inr rfl) _ _⟩
      case rest=>
       obtain ⟨A3,c1,c2,c3,c4,c5⟩:=hcut
       have HA3:Hid (wc.heap[bt]? =some (.cells A3 42)):=c1
       have HC3:Hid ((∀j,j< 80→A3[962+i*240+k*80+j]? =some (.bool (g.go i k j||m.2 j)))∧(∀j,(j< 962+i*240+k*80∨962+i*240+k*80+80≤j)→A3[j]? =A2[j]?)∧Fr (fun b=>b=bt) _ wc):=⟨c3,c4,c5⟩
       have P3:Hid (wc.heap[p]? =some (.cells (encM m).toArray 74)):=c5.heap P2.out (fun e=>by have:=P2.out;rw [e,HA2.out] at this;exact absurd (tag_ne this) (by decide))
       clear r1 q1 r2 q2
       obtain ⟨r1,q1⟩:=rdB_of (w:=wc) (b:=bt) (o:=2+i*240+k*80) (s:=g.kn i k) (fun j hj=>by rw [(cells_of0 c1).1,c4 _ (by omega)];exact hkn2.out j hj)
       obtain ⟨r2,q2⟩:=rdB_of (w:=wc) (b:=p) (o:=4) (s:=m.2) (fun j hj=>by rw [(cells_of0 P3.out).1];exact encM_bit m j hj)
       clear c1 c3 c4 c5
       go_wp2
       go_cut [] from 156 to 174 (fun wx=>∃A4,wx.heap[bt]? =some (.cells A4 42)∧A4.size=1939∧(∀j,j< 80→A4[2+i*240+k*80+j]? =some (.bool (g.kn i k j||m.2 j)))∧(∀j,(j< 2+i*240+k*80∨2+i*240+k*80+80≤j)→A4[j]? =A3[j]?)∧Fr (fun b=>b=bt) wc wx)
       case first=>
        go_region_with (first|(go_at_call 45;refine (all_any (g.kn i k) m.2 _).mono ?_;rintro e w2 ⟨rfl,hb2⟩;have B2:=undrew (w0:=wc) hb2 rfl rfl rfl rfl;have T2:=heap_keep HA3.out B2;have t2:thereB w2 bt (2+i*240+k*80):=thereB_of T2 (by omega);have HT2:Hid _:=T2;have HB2:Hid _:=B2;clear hb2 B2 T2))
        all_goals
         go_wp2_with fail
         go_meet
         obtain ⟨A4,a1,a2,a3,a4⟩:=set_stored HT2.out (show 2+i*240+k*80+80≤A3.size by omega) (fun j=>g.kn i k j||m.2 j)
         exact ⟨A4,a1,by rw [a2];exact c2,a3,a4,Fr.setCells (X:=fun b=>b=bt) (Fr.of_below HB2.out) (Or.inr rfl) _ _⟩
       case rest=>
        obtain ⟨A4,d1,d2,d3,d4,d5⟩:=hcut
        have HA4:Hid (wc.heap[bt]? =some (.cells A4 42)):=d1
        have HD4:Hid ((∀j,j< 80→A4[2+i*240+k*80+j]? =some (.bool (g.kn i k j||m.2 j)))∧(∀j,(j< 2+i*240+k*80∨2+i*240+k*80+80≤j)→A4[j]? =A3[j]?)∧Fr (fun b=>b=bt) _ wc):=⟨d3,d4,d5⟩
        have t1:wc.cell? ⟨bt,1,none⟩=some (.slice (some ⟨ga,0,none⟩) (g.ws.length+1) ca):=by
         rw [(cells_of0 d1).1,d4 1 (by omega),HC3.out.2.1 1 (by omega)];exact HB7.out.1
        have hlt4:Hid (2+i*240+k*80+g.ws.length< A4.size):=by show _< _;omega
        have t3:wc.cell? ⟨bt,2+i*240+k*80+g.ws.length,none⟩=some (.bool (g.kn i k g.ws.length||m.2 g.ws.length)):=by
         rw [(cells_of0 d1).1];exact d3 _ (by omega)
        have t4:wc.frozen? ⟨bt,2+i*240+k*80+g.ws.length,none⟩=false:=(cells_of0 d1).2 _
        have hl80:(g.ws.length:Int)< 80:=by omega
        have hl0:(0:Int)≤(g.ws.length:Int):=by omega
        have hs1:IntKind.i64.wrap ((g.ws.length:Int)+1 - 1)=(g.ws.length:Int):=by rw [wrap_small _ (by omega) (by omega)];omega
        have hs2:IntKind.i64.wrap (((g.ws.length+1:Nat):Int) - 1)=(g.ws.length:Int):=by rw [wrap_small _ (by omega) (by omega)];omega
        have hs3:IntKind.i64.wrap (g.ws.length:Int)=(g.ws.length:Int):=wrap_small _ (by omega) (by omega)
        clear r1 q1 r2 q2 d1 d3 d4 d5
        go_wp2
        go_region_with (fail)
        go_wp2
        go_ret
        obtain ⟨e1,e2,e3⟩:=puts_end HJC0.out HNC.out HD0.out hB hnb hi hi4n hk hws HCN.out HF1.out T1.out W1.out HR1.out H34.out HB7.out HA2.out W2.out F2.out HC3.out HD4.out HA4.out d2
        exact ⟨rfl,e1,g.put ks i k m val l' (.slice (some ⟨ga,0,none⟩) (g.ws.length+1) ca) (A4.setIfInBounds (2+i*240+k*80+g.ws.length) (.bool true)),rfl,e2,HI.out.put HKA.out.ne _ _ hi hk HM.out hval hws HPS.out.1 HPS.out.2,e3⟩
   ·have hU':20≤leftN g i k m:=by omega
    have HPut:Hid (∀W,Below wc.heap.size wc W→Calls Qry.prog 21 #[.pointer (some ⟨g.b i,0,none⟩),.string (ks k),.string val,ctxV m.1] W fun e w'=>e= .returned (.int .i64 6)∧Below W.heap.size W w'):=fun W hW=>put_call_limit NC.out HI.out KC.out hi hk HM.out hval hU' W hW
    clear hU
    go_wp2_with fail
    go_region_held3 (fun w'=>w'.cell? ⟨bt,0,none⟩=some (.slice (some ⟨g.br,0,none⟩) g.nr g.capr)∧w'.cell? ⟨g.br,i,none⟩=some (.pointer (some ⟨g.b i,0,none⟩))∧w'.cell? ⟨0,k,none⟩=some (.string (ks k))∧w'.cell? ⟨p,0,none⟩=some (.int .i64 (m.1 0))∧w'.cell? ⟨p,1,none⟩=some (.int .i64 (m.1 1))∧w'.cell? ⟨p,2,none⟩=some (.int .i64 (m.1 2))∧w'.cell? ⟨p,3,none⟩=some (.int .i64 (m.1 3)))
     ((refine hcell.out _ ?_;first|(simp [Fr.drew,F0.out];done)|(simp [Fr.drew,F1];done)))
     (first|(go_at_call 21;refine Calls.mono (HPut.out _ (by simp [Below.refl,Below.drew])) ?_;rintro e w1 ⟨rfl,hbel⟩;have F1:Fr (fun b=>b=g.bm i (segN (ks k))) wc w1:=Fr.below (Fr.drew F0.out) hbel;have JF:Hid (Jx w bx ad n cap w1):=(Jx.drew HJC.out).below hbel;have P1:Hid (w1.heap[p]? =some (.cells (encM m).toArray 74)):=heap_keep (W:=wc.drew) HP.out hbel;clear hbel))
    have HU:Hid _:=hU'
    have N1:Hid (NetAt B w1 bt g):=HJ.out _ JF.out
    have t1:=HT1.out _ JF.out
    generalize hF:(fun j=>(g.kn i k j && !g.go i k j) && !m.2 j)=F
    have HF:Hid (∀j,F j=((g.kn i k j && !g.go i k j) && !m.2 j)):=fun j=>by rw [← hF]
    have HFF:Hid _:=hF
    clear hF hU' F1
    go_wp2
    go_loop [12,13] (fun cv iv=>∃j:Nat,j≤g.ws.length∧iv= .int .i64 j∧cv= .int .i64 (cntTo F j)∧cntTo F j≤j) (fun _ iv=>g.ws.length - (intOf iv).toNat)
    case atStart=>exact ⟨0,by omega,rfl,rfl,Nat.le_refl _⟩
    case round=>
     obtain ⟨j,hj,rfl,rfl,hcj⟩:=hrel
     by_cases hjl:j< g.ws.length
     ·have j1:(j:Int)< (g.ws.length:Int):=by omega
      have j80:(j:Int)< 80:=by omega
      have j0:(0:Int)≤(j:Int):=by omega
      have hi4':i< 4:=by omega
      have kc:w1.cell? ⟨bt,2+i*240+k*80+j,none⟩=some (.bool (g.kn i k j)):=by rw [(cells_of0 N1.out.hT).1];exact N1.out.hkn i k j hi4' hk (by omega)
      have gc:w1.cell? ⟨bt,962+i*240+k*80+j,none⟩=some (.bool (g.go i k j)):=by rw [(cells_of0 N1.out.hT).1];exact N1.out.hgo i k j hi4' hk (by omega)
      have mc:w1.cell? ⟨p,4+j,none⟩=some (.bool (m.2 j)):=by rw [(cells_of0 P1.out).1];exact encM_bit m j (by omega)
      have hFj:=HF.out j
      have HA:Hid (cntTo F (j+1)=cntTo F j+(if F j then 1 else 0)):=rfl
      generalize cntTo F j=cj at*
      cases h1:g.kn i k j with
      |false=>
       rw [h1] at kc hFj
       have HA2:Hid (cntTo F (j+1)=cj):=by show _=_;rw [HA.out,hFj];rfl
       clear hFj
       go_wp2
       exact ⟨⟨j+1,by omega,by go_num,by rw [HA2.out],by rw [HA2.out];omega⟩,by simp [intOf];omega⟩
      |true=>
       rw [h1] at kc hFj
       cases h2:g.go i k j with
       |true=>
        rw [h2] at gc hFj
        have HA2:Hid (cntTo F (j+1)=cj):=by show _=_;rw [HA.out,hFj];rfl
        clear hFj
        go_wp2
        exact ⟨⟨j+1,by omega,by go_num,by rw [HA2.out],by rw [HA2.out];omega⟩,by simp [intOf];omega⟩
       |false=>
        rw [h2] at gc hFj
        cases h3:m.2 j with
        |true=>
         rw [h3] at mc hFj
         have HA2:Hid (cntTo F (j+1)=cj):=by show _=_;rw [HA.out,hFj];rfl
         clear hFj
         go_wp2
         exact ⟨⟨j+1,by omega,by go_num,by rw [HA2.out],by rw [HA2.out];omega⟩,by simp [intOf];omega⟩
        |false=>
         rw [h3] at mc hFj
         have HA2:Hid (cntTo F (j+1)=cj+1):=by show _=_;rw [HA.out,hFj];rfl
         clear hFj
         go_wp2
         exact ⟨⟨j+1,by omega,by go_num,by rw [HA2.out];go_num,by rw [HA2.out];omega⟩,by simp [intOf];omega⟩
     ·obtain rfl:j=g.ws.length:=by omega
      have h20:(20:Int)≤(cntTo F g.ws.length:Int):=by
       have:=HU.out
       unfold leftN at this
       rw [HFF.out] at this
       omega
      go_wp2
      go_ret
      exact ⟨rfl,JF.out.toBelow hB,g,rfl,HJ.out _ JF.out,HI.out,HDice.out _ JF.out⟩
end Go.Proofs.YtldmcdeibiclkaaGreatDoorQ
end
