/-
  Toward: treed_holds, each node's digest is that of its children's, for every argument of Treed. The net in memory, and what holds of it between two calls.
  Contracts: pick, and dice.next: a number below n; the place moves on, or there is none left.
  Loads and stores of a whole memory; the dice within a frame.
  What the first region of deletes and of puts reads and makes.
  Loads and stores of a whole set.
-/
import Derived.Test.YtldmcdeibiclkaaGreatDoorC44
import Derived.Test.YtldmcdeibiclkaaGreatDoorC42
import Derived.Deep.CutRange
set_option linter.unusedVariables false
set_option linter.unusedSimpArgs false
set_option maxRecDepth 4000
section
namespace Go.Proofs.YtldmcdeibiclkaaGreatDoorQ
open Go.RowKit
abbrev Mem:=Ctx×(Nat→Bool)
def encM (m:Mem):List Value:=[.int .i64 (m.1 0),.int .i64 (m.1 1),.int .i64 (m.1 2),.int .i64 (m.1 3)]++(bits m.2).toList
def flatM (l:List Mem):List Value:=l.flatMap encM
theorem encM_length (m:Mem):(encM m).length=84:=by simp [encM,bits_size]
theorem flatM_append (a b:List Mem):flatM (a++b)=flatM a++flatM b:=by simp [flatM]
theorem flatM_get: ∀(l:List Mem) (r:Nat) (h:r< l.length) (j:Nat),j< 84→(flatM l)[r*84+j]? =(encM l[r])[j]?
 |m::l,0,_,j,hj=>by
  simp only [flatM,List.flatMap_cons,Nat.zero_mul,Nat.zero_add,List.getElem_cons_zero]
  rw [List.getElem?_append_left (by rw [encM_length];exact hj)]
 |m::l,r+1,h,j,hj=>by
  have:=flatM_get l r (by simpa using h) j hj
  simp only [flatM,List.flatMap_cons,List.getElem_cons_succ] at*
  rw [List.getElem?_append_right (by rw [encM_length];omega),encM_length,show (r+1)*84+j - 84=r*84+j by omega]
  exact this
structure NetG where
 nr:Nat
 br:Nat
 capr:Nat
 R:Array Value
 b:Nat→Nat
 bm:Nat→Nat→Nat
 K:Nat→Know
 ws:List Wr
 wv:Value
 kn:Nat→Nat→Nat→Bool
 go:Nat→Nat→Nat→Bool
 mem:Nat→List Mem
 gm:Nat→Nat
 capm:Nat→Nat
 A:Array Value
abbrev NetG.mv (g:NetG) (k:Nat):Value:= .slice (some ⟨g.gm k,0,none⟩) (g.mem k).length (g.capm k)
structure NetAt (B:Nat) (w:World) (bt:Nat) (g:NetG):Prop where
 hB:B≤bt∧(∀i n,i< g.nr→n< 64→B≤g.bm i n)
 hT:w.heap[bt]? =some (.cells g.A 42)
 hA:g.A.size=1939
 h0:g.A[0]? =some (.slice (some ⟨g.br,0,none⟩) g.nr g.capr)
 hR:w.heap[g.br]? =some (.cells g.R 29)
 hRi: ∀i,i< g.nr→g.R[i]? =some (.pointer (some ⟨g.b i,0,none⟩))
 hrep: ∀i,i< g.nr→RepAt w (g.b i) (g.bm i) i (g.K i)
 hdis: ∀i j n m,i< g.nr→j< g.nr→n< 64→m< 64→g.bm i n=g.bm j m→i=j
 h1:g.A[1]? =some g.wv
 hw:w.ownsRow B 115 4 g.wv g.ws.length (flatW g.ws)
 hkn: ∀i k j,i< 4→k< 3→j< 80→g.A[2+i*240+k*80+j]? =some (.bool (g.kn i k j))
 hgo: ∀i k j,i< 4→k< 3→j< 80→g.A[962+i*240+k*80+j]? =some (.bool (g.go i k j))
 hmv: ∀k,k< 3→g.A[1922+k]? =some (g.mv k)
 hmem: ∀k,k< 3→w.ownsRow B 74 84 (g.mv k) (g.mem k).length (flatM (g.mem k))
 hgm: ∀k l,k< 3→l< 3→g.gm k=g.gm l→k=l
 hcnt: ∀i k,i< 4→k< 3→g.A[1927+i*3+k]? =some (.int .i64 (cntW g.ws i k))
structure NetInv (ks:Nat→ByteArray) (g:NetG):Prop where
 hnr:1≤g.nr∧g.nr≤4
 hlen:g.ws.length≤80
 hseq:SeqOk g.ws
 hval: ∀x∈g.ws,x.2.2.2.size≤12
 hby: ∀x∈g.ws,x.1< 4
 hgood: ∀i k,i< g.nr→k< 3→Good g.ws k (g.K i (ks k)).1 (g.kn i k)
 hown: ∀i k,i< g.nr→k< 3→(g.K i (ks k)).1 i=cntW g.ws i k
 hex: ∀i k,i< g.nr→k< 3→(g.K i (ks k)).2=expected g.ws (g.kn i k) (g.go i k) k
 hgone: ∀i k j,i< g.nr→k< 3→g.ws.length≤j→g.go i k j=false
 hmemG: ∀k m,k< 3→m∈g.mem k→Good g.ws k m.1 m.2
 hmemN: ∀k,k< 3→1≤(g.mem k).length∧(g.mem k).length≤30
 hkok: ∀i,i< g.nr→KOk (g.K i)
structure KeysAt (w:World) (ks:Nat→ByteArray):Prop where
 cell: ∀k,k< 3→w.cell? ⟨0,k,none⟩=some (.string (ks k))
 key: ∀k,k< 3→keyB (ks k)=true∧(ks k).size≤8
 ne: ∀k l,k< 3→l< 3→ks k=ks l→k=l
structure Apart (X:Nat→Prop) (w:World) (bt:Nat) (g:NetG):Prop where
 t: ¬ X bt
 r: ¬ X g.br
 rep: ∀i,i< g.nr→¬ X (g.b i)
 map: ∀i n,i< g.nr→n< 64→¬ X (g.bm i n)
 ver: ∀k cur,w.heap[k]? =some (.cells cur 144 (0,0))→¬ X k
 wr: ∀k cur,w.heap[k]? =some (.cells cur 115 (0,0))→¬ X k
 mem: ∀k cur,w.heap[k]? =some (.cells cur 74 (0,0))→¬ X k
theorem Fr.row' {X:Nat→Prop} {w w1:World} {B n size:Nat} {t:TypeId} {v:Value} {xs:List Value} (h:Fr X w w1) (hr:w.ownsRow B t size v n xs) (hn: ∀k cur,w.heap[k]? =some (.cells cur t (0,0))→¬ X k):w1.ownsRow B t size v n xs:=by
 obtain ⟨h1,h2⟩:=hr
 refine ⟨h1,?_⟩
 rcases h2 with h2|⟨g,cap,cur,hv,hg,hh,r⟩
 ·exact Or.inl h2
 ·exact Or.inr ⟨g,cap,cur,hv,hg,h.heap hh (hn _ _ hh),r⟩
theorem NetAt.fr {X:Nat→Prop} {w w1:World} {B bt:Nat} {g:NetG} (hn:NetAt B w bt g) (h:Fr X w w1) (ha:Apart X w bt g):NetAt B w1 bt g where
 hB:=hn.hB
 hT:=h.heap hn.hT ha.t
 hA:=hn.hA
 h0:=hn.h0
 hR:=h.heap hn.hR ha.r
 hRi:=hn.hRi
 hrep:=fun i hi=>h.rep (hn.hrep i hi) (ha.rep i hi) (fun n hm=>ha.map i n hi hm) ha.ver
 hdis:=hn.hdis
 h1:=hn.h1
 hw:=h.row' hn.hw ha.wr
 hkn:=hn.hkn
 hgo:=hn.hgo
 hmv:=hn.hmv
 hmem:=fun k hk=>h.row' (hn.hmem k hk) ha.mem
 hgm:=hn.hgm
 hcnt:=hn.hcnt
theorem NetAt.apart_tag {w:World} {B bt bx:Nat} {g:NetG} {C:Array Value} {t:TypeId} (hn:NetAt B w bt g) (hx:w.heap[bx]? =some (.cells C t)) (h1:t≠42) (h2:t≠29) (h3:t≠101) (h4:t≠144) (h5:t≠115) (h6:t≠74):Apart (fun k=>k=bx) w bt g where
 t:=fun e=>by have:=hn.hT;rw [e,hx] at this;cases this;exact h1 rfl
 r:=fun e=>by have:=hn.hR;rw [e,hx] at this;cases this;exact h2 rfl
 rep:=fun i hi e=>by obtain ⟨⟨A,hA,_⟩,_⟩:=hn.hrep i hi;rw [e,hx] at hA;cases hA;exact h3 rfl
 map:=fun i n hi hm e=>by obtain ⟨_,hS,_⟩:=hn.hrep i hi;obtain ⟨es,clock,h,_⟩:=hS n hm;rw [e,hx] at h;cases h
 ver:=fun k cur h e=>by rw [e,hx] at h;cases h;exact h4 rfl
 wr:=fun k cur h e=>by rw [e,hx] at h;cases h;exact h5 rfl
 mem:=fun k cur h e=>by rw [e,hx] at h;cases h;exact h6 rfl
end Go.Proofs.YtldmcdeibiclkaaGreatDoorQ
end
section
namespace Go.Proofs.YtldmcdeibiclkaaGreatDoorQ
open Go.RowKit
set_option maxHeartbeats 400000 in
theorem pick_any (c n:Int) (w:World) (h1: -9223372036854775808≤c) (h2:c≤9223372036854775807) (hn:1≤n) (hn2:n≤1000):
  Calls Qry.prog 9 #[.int .i64 c,.int .i64 n] w fun e w'=>e= .returned (.int .i64 (pickS c n))∧w'=w:=by
 by_cases h:c< 0
 ·go_enter Qry.func9,Qry.ntmps9
  go_wp2
  go_ret
  refine ⟨ret_int ?_,rfl⟩
  rw [pickS,if_pos h,← Int.neg_tmod,Int.tmod_eq_emod_of_nonneg (by omega)]
 ·go_enter Qry.func9,Qry.ntmps9
  go_wp2
  go_ret
  refine ⟨ret_int ?_,rfl⟩
  rw [pickS,if_neg (by omega)]
def CodeAt (w:World) (ad:Option Addr) (n:Nat):Prop:=n=0∨∃b off,ad=some ⟨b,off,none⟩∧∀j,j< n→∃z:Int,w.cell? ⟨b,off+j,none⟩=some (.int .i64 z)∧-9223372036854775808≤z∧z≤9223372036854775807
def DiceAt (w:World) (bx:Nat) (ad:Option Addr) (n cap at':Nat):Prop:=
 w.heap[bx]? =some (.cells #[.slice ad n cap,.int .i64 at'] 25)∧at'≤n∧n≤9223372036854775807∧CodeAt w ad n
set_option maxRecDepth 100000 in
set_option maxHeartbeats 400000 in
theorem next_end (bx:Nat) (ad:Option Addr) (n cap at':Nat) (m:Int) (w:World) (h:DiceAt w bx ad n cap at') (he:n≤at'):
  Calls Qry.prog 14 #[.pointer (some ⟨bx,0,none⟩),.int .i64 m] w fun e w'=>e= .returned (.int .i64 0)∧∃q,w'=w.drewN q:=by
 obtain ⟨hb,hle,hn,_⟩:=h
 obtain ⟨c,f⟩:=cells_of0 hb
 have hge:((n:Int)≤(at':Int)):=by omega
 clear hb
 go_enter Qry.func14,Qry.ntmps14
 go_wp2
 go_quiet (fail)
 go_wp2
 go_ret
 exact ⟨rfl,_,rfl⟩
set_option maxRecDepth 100000 in
set_option maxHeartbeats 400000 in
theorem next_more (bx b off n cap at':Nat) (m z:Int) (w:World) (hb:w.heap[bx]? =some (.cells #[.slice (some ⟨b,off,none⟩) n cap,.int .i64 at'] 25)) (hlt:at'< n) (hn:n≤9223372036854775807) (hz:w.cell? ⟨b,off+at',none⟩=some (.int .i64 z)) (hz1: -9223372036854775808≤z) (hz2:z≤9223372036854775807) (hm:1≤m) (hm2:m≤1000):
  Calls Qry.prog 14 #[.pointer (some ⟨bx,0,none⟩),.int .i64 m] w fun e w'=>e= .returned (.int .i64 (pickS z m))∧∃q,w'=(w.drewN q).setCell ⟨bx,1,none⟩ (.int .i64 (at'+1)):=by
 obtain ⟨c,f⟩:=cells_of0 hb
 have hlt':((at':Int)< (n:Int)):=by omega
 have h0:(0:Int)≤(at':Int):=by omega
 have hlt2: ¬ ((n:Int)≤(at':Int)):=by omega
 have hbig:(at':Int)+1≤9223372036854775807:=by omega
 have HP:Hid (∀W,Calls Qry.prog 9 #[.int .i64 z,.int .i64 m] W fun e w'=>e= .returned (.int .i64 (pickS z m))∧w'=W):=fun W=>pick_any z m W hz1 hz2 hm hm2
 generalize pickS z m=r at*
 have hd:decide (n≤at')=false:=by simpa using hlt
 clear hb hz1 hz2 hlt2
 go_enter Qry.func14,Qry.ntmps14
 go_wp2
 go_quiet (fail)
 go_wp2
 go_quiet ((go_at_call 9;refine (HP.out _).mono ?_;rintro e w' ⟨rfl,rfl⟩;exact ⟨rfl,_,rfl⟩))
 go_wp2
 go_ret
 exact ⟨rfl,_,rfl⟩
theorem next_any (bx:Nat) (ad:Option Addr) (n cap at':Nat) (m:Int) (w:World) (h:DiceAt w bx ad n cap at') (hnb:0< n→∀b off,ad=some ⟨b,off,none⟩→b≠bx) (hm:1≤m) (hm2:m≤1000):
  Calls Qry.prog 14 #[.pointer (some ⟨bx,0,none⟩),.int .i64 m] w fun e w'=>∃(r:Nat) (at2:Nat),e= .returned (.int .i64 r)∧(r:Int)< m∧DiceAt w' bx ad n cap at2∧at'≤at2∧w.grownBy w' (some bx)∧w'.heap.size=w.heap.size:=by
 by_cases he:n≤at'
 ·refine (next_end bx ad n cap at' m w h he).mono ?_
  rintro e w' ⟨rfl,q,rfl⟩
  exact ⟨0,at',rfl,by omega,h,Nat.le_refl _,⟨rfl,rfl,rfl,Nat.le_refl _,fun _ _ _=>rfl⟩,rfl⟩
 ·obtain ⟨hb,hle,hn,hc⟩:=h
  rcases hc with hc|⟨b,off,rfl,hall⟩
  ·omega
  ·obtain ⟨z,hz,hz1,hz2⟩:=hall at' (by omega)
   have hr:=pickS_range z m hm
   refine (next_more bx b off n cap at' m z w hb (by omega) hn hz hz1 hz2 hm hm2).mono ?_
   rintro e w' ⟨rfl,q,rfl⟩
   obtain ⟨r,hr'⟩:=Int.eq_ofNat_of_zero_le hr.1
   have hbne:=hnb (by omega) b off rfl
   refine ⟨r,at'+1,by rw [hr'],by omega,⟨?_,by omega,hn,Or.inr ⟨b,off,rfl,fun j hj=>?_⟩⟩,by omega,⟨rfl,rfl,rfl,by simp [World.setCell],fun k hk hne=>?_⟩,by simp [World.setCell]⟩
   ·have:=heap_set (w:=w.drewN q) (o:=1) (v:= .int .i64 (at'+1)) (show (w.drewN q).heap[bx]? =_ from hb)
    simpa using this
   ·obtain ⟨z',h1,h2,h3⟩:=hall j hj
    exact ⟨z',by rw [set_far hbne];exact h1,h2,h3⟩
   ·exact Below.heap_setCell (w.drewN q) ⟨bx,1,none⟩ _ k (fun e=>hne (by rw [e]))
end Go.Proofs.YtldmcdeibiclkaaGreatDoorQ
end
section
namespace Go.Proofs.YtldmcdeibiclkaaGreatDoorQ
open Go.RowKit
def rdC (w:World) (b o:Nat):List Value:=(List.range 84).map fun j=>(w.cell? ⟨b,o+j,none⟩).getD undef
def hasC (w:World) (b o:Nat):Prop:=∀j,j< 84→(w.cell? ⟨b,o+j,none⟩).isSome=true
def okMem (w:World):Value→Prop
 | .pointer (some ⟨b,o,none⟩)=>hasC w b o
 |_=>False
def ldMem (w:World):Value→Value
 | .pointer (some ⟨b,o,none⟩)=> .agg (rdC w b o).toArray
 |_=>undef
theorem okMem_ptr (w:World) (b o:Nat):okMem w (.pointer (some ⟨b,o,none⟩))=hasC w b o:=rfl
theorem ldMem_ptr (w:World) (b o:Nat):ldMem w (.pointer (some ⟨b,o,none⟩))= .agg (rdC w b o).toArray:=rfl
theorem rdC_length (w:World) (b o:Nat):(rdC w b o).length=84:=by simp [rdC]
theorem rdC_range {w:World} {b o:Nat} (h:hasC w b o):w.rangeAt b o (rdC w b o):=fun j v hv=>by
 have hj:j< 84:=by have:=(List.getElem?_eq_some_iff.1 hv).1;rwa [rdC_length] at this
 have:=h j hj
 obtain ⟨u,hu⟩:=Option.isSome_iff_exists.1 this
 simp [rdC,hj,hu] at hv
 rw [hu,hv]
theorem rdC_of {w:World} {b o:Nat} {cs:List Value} (h:w.rangeAt b o cs) (hl:cs.length=84):rdC w b o=cs∧hasC w b o:=by
 refine ⟨?_,fun j hj=>?_⟩
 ·apply List.ext_getElem?
  intro j
  by_cases hj:j< 84
  ·have hc:cs[j]? =some cs[j]:=List.getElem?_eq_getElem (by omega)
   rw [hc]
   simp [rdC,hj,h j _ hc]
  ·rw [List.getElem?_eq_none (by rw [rdC_length];omega),List.getElem?_eq_none (by omega)]
 ·rw [h j _ (List.getElem?_eq_getElem (by omega))];rfl
theorem Qry.sizeMem:(Qry.prog.info? 74).map (·.size)=some 84:=by kernel_rfl
theorem load_mem (d:Option Tmp) (x:Operand) (ty:TypeId) (pos:String) (aft:Array Edge) (gd:Option (Nat×Bool)) (a:Act) (w:World) (K:Act→World→Prop) (Q:Exit→Act→World→Prop) (h:okMem w (a.eval x)):
  Oper.wp Qry.prog {dst:=d,op:= .load 74 x,type:=ty,pos:=pos,after:=aft,guard:=gd} a w K Q=K (a.put d (ldMem w (a.eval x))) w:=by
 unfold okMem at h
 split at h
 ·rename_i b o heq
  rw [heq,ldMem_ptr]
  unfold Oper.wp execOp
  simp only [heq,Instr.loadAt,Instr.sureAddr,Sem.run_bind,Sem.run_pure,Result.andThen_ok,run_loadVar_mid w b o 74 (rdC w b o) _ (rdC_range h) Qry.underlying74 rfl (by rw [Qry.sizeMem,rdC_length])]
  rfl
 ·exact h.elim
def okSt (w:World):Value→Value→Prop
 | .pointer (some ⟨b,o,none⟩),.agg cs=>w.there b o 84∧cs.size=84∧cs.all (·.oneCell')=true
 |_,_=>False
def stMem (w:World):Value→Value→World
 | .pointer (some ⟨b,o,none⟩),.agg cs=>w.setCells b o cs.toList
 |_,_=>w
theorem okSt_ptr (w:World) (b o:Nat) (cs:Array Value):okSt w (.pointer (some ⟨b,o,none⟩)) (.agg cs)=(w.there b o 84∧cs.size=84∧cs.all (·.oneCell')=true):=rfl
theorem stMem_ptr (w:World) (b o:Nat) (cs:Array Value):stMem w (.pointer (some ⟨b,o,none⟩)) (.agg cs)=w.setCells b o cs.toList:=rfl
theorem store_mem (d:Option Tmp) (x y:Operand) (ty:TypeId) (pos:String) (aft:Array Edge) (gd:Option (Nat×Bool)) (a:Act) (w:World) (K:Act→World→Prop) (Q:Exit→Act→World→Prop) (h:okSt w (a.eval x) (a.eval y)):
  Oper.wp Qry.prog {dst:=d,op:= .store 74 x y,type:=ty,pos:=pos,after:=aft,guard:=gd} a w K Q=K (a.put d undef) (stMem w (a.eval x) (a.eval y)):=by
 unfold okSt at h
 split at h
 ·rename_i b o cs heq heq'
  rw [heq,heq',stMem_ptr]
  unfold Oper.wp execOp
  simp only [heq,heq',Instr.storeAt,Instr.sureAddr,Sem.run_bind,Sem.run_pure,Result.andThen_ok,run_storeVar_mid w b o 74 cs (by rw [h.2.1];exact h.1) (by rw [Qry.sizeMem,h.2.1]) h.2.2]
  rfl
 ·exact h.elim
theorem encM_one (m:Mem): ∀v∈encM m,v.oneCell'=true:=by
 intro v hv
 simp only [encM,List.mem_append] at hv
 rcases hv with hv|hv
 ·simp at hv;rcases hv with rfl|rfl|rfl|rfl<;> rfl
 ·exact bits_one m.2 v hv
def Jx (w:World) (bx:Nat) (ad:Option Addr) (n cap:Nat) (w':World):Prop:=
 Fr (fun k=>k=bx) w w'∧(∃at2:Nat,at2≤n∧w'.heap[bx]? =some (.cells #[.slice ad n cap,.int .i64 at2] 25))∧bx< w.heap.size
section
variable {w w1 w2:World} {bx n cap:Nat} {ad:Option Addr}
theorem Jx.drew (h:Jx w bx ad n cap w1):Jx w bx ad n cap w1.drew:=⟨h.1.drew,h.2.1,h.2.2⟩
theorem Jx.alloc (h:Jx w bx ad n cap w1) (X:Obj):Jx w bx ad n cap (w1.alloc X):=by
 obtain ⟨h1,⟨a,h2,h3⟩,h4⟩:=h
 exact ⟨h1.alloc X,⟨a,h2,by rw [Below.heap_alloc _ _ _ (Array.getElem?_eq_some_iff.1 h3).1];exact h3⟩,h4⟩
theorem Jx.below (h:Jx w bx ad n cap w1) (hb:Below w1.heap.size w1 w2):Jx w bx ad n cap w2:=by
 obtain ⟨h1,⟨a,h2,h3⟩,h4⟩:=h
 exact ⟨h1.below hb,⟨a,h2,heap_keep h3 hb⟩,h4⟩
theorem Jx.setCell (h:Jx w bx ad n cap w1) {b o:Nat} (hb:w.heap.size≤b) (v:Value):Jx w bx ad n cap (w1.setCell ⟨b,o,none⟩ v):=by
 obtain ⟨h1,⟨a,h2,h3⟩,h4⟩:=h
 have hne:bx≠b:=by omega
 exact ⟨h1.setCell (Or.inl hb) v,⟨a,h2,by rw [Below.heap_setCell _ _ _ _ hne];exact h3⟩,h4⟩
theorem Jx.setCells (h:Jx w bx ad n cap w1) {b:Nat} (hb:w.heap.size≤b): ∀(vs:List Value) (o:Nat),Jx w bx ad n cap (w1.setCells b o vs):=by
 intro vs
 induction vs generalizing w1 with
 |nil=>intro o;exact h
 |cons v vs ih=>intro o;rw [World.setCells];exact ih (h.setCell hb v) (o+1)
theorem Jx.toBelow {B:Nat} (h:Jx w bx ad n cap w1) (hb:B≤bx):Below B w w1:=
 h.1.toBelow (fun k e=>by rw [e];exact hb) (by have:=h.2.2;omega)
theorem Jx.dice (h:Jx w bx ad n cap w1) (hn:n≤9223372036854775807) (hc:CodeAt w ad n) (hnb:0< n→∀b off,ad=some ⟨b,off,none⟩→b≠bx): ∃at2,DiceAt w1 bx ad n cap at2:=by
 obtain ⟨h1,⟨a,h2,h3⟩,h4⟩:=h
 refine ⟨a,h3,h2,hn,?_⟩
 rcases hc with hc|⟨b,off,rfl,hall⟩
 ·exact Or.inl hc
 ·refine Or.inr ⟨b,off,rfl,fun j hj=>?_⟩
  obtain ⟨z,hz,hr⟩:=hall j hj
  exact ⟨z,h1.cell hz (hnb (by omega) b off rfl),hr⟩
theorem Jx.next {at2:Nat} (h:Jx w bx ad n cap w1) (hg:w1.grownBy w2 (some bx)) (hd:DiceAt w2 bx ad n cap at2):Jx w bx ad n cap w2:=
 ⟨h.1.grown hg (fun k e _=>by cases e;rfl),⟨at2,hd.2.1,hd.1⟩,h.2.2⟩
theorem Jx.start {at2:Nat} (h:DiceAt w bx ad n cap at2):Jx w bx ad n cap w:=
 ⟨Fr.refl _ _,⟨at2,h.2.1,h.1⟩,(Array.getElem?_eq_some_iff.1 h.1).1⟩
end
end Go.Proofs.YtldmcdeibiclkaaGreatDoorQ
end
section
namespace Go.Proofs.YtldmcdeibiclkaaGreatDoorQ
open Go.RowKit
attribute [local go_sem ↓] load_mem store_mem
attribute [local go_sem] okMem_ptr ldMem_ptr okSt_ptr stMem_ptr
theorem load_mem_exec (f:Operand→Value) (d:Option Tmp) (x:Operand) (ty:TypeId) (pos:String) (aft:Array Edge) (gd:Option (Nat×Bool)) (w:World) (h:okMem w (f x)):
  (execOp f {dst:=d,op:= .load 74 x,type:=ty,pos:=pos,after:=aft,guard:=gd}).run Qry.prog w= .ok (.value (ldMem w (f x))) w:=by
 unfold okMem at h
 split at h
 ·rename_i b o heq
  rw [heq,ldMem_ptr]
  unfold execOp
  simp only [heq,Instr.loadAt,Instr.sureAddr,Sem.run_bind,Sem.run_pure,Result.andThen_ok,run_loadVar_mid w b o 74 (rdC w b o) _ (rdC_range h) Qry.underlying74 rfl (by rw [Qry.sizeMem,rdC_length])]
 ·exact h.elim
attribute [local go_sem ↓] load_mem_exec
def memD (l:List Mem) (r:Nat):Mem:=l.getD r (fun _=>0,fun _=>false)
theorem memD_eq (l:List Mem) (r:Nat) (h:r< l.length):memD l r=l[r]:=by
 unfold memD
 rw [List.getD_eq_getElem?_getD,List.getElem?_eq_getElem h];rfl
theorem store_enc {W:World} {p:Nat} {C:Array Value} {t:TypeId} (hC:C.size=84) (h:W.heap[p]? =some (.cells C t)) (m:Mem):
  (storeCells ⟨p,0,none⟩ (encM m)).run Qry.prog W= .ok () (W.setCells p 0 (encM m)):=by
 obtain ⟨e,f⟩:=cells_of0 h
 have:=run_storeCells_cells (P:=Qry.prog) p 0 (encM m) 0 W (fun j hj=>by
   have hj':j< 84:=by rwa [encM_length] at hj
   simp [e,hC,hj']) (fun j hj=>by simpa using f j) (encM_one m)
 simpa using this
theorem after_enc {W:World} {p:Nat} {C:Array Value} {t:TypeId} (hC:C.size=84) (h:W.heap[p]? =some (.cells C t)) (m:Mem):(W.setCells p 0 (encM m)).heap[p]? =some (.cells (encM m).toArray t):=by
 have:=after_bits h (encM m).toArray (by rw [hC,List.size_toArray,encM_length])
 simpa using this
theorem store_new (W:World) (m:Mem):(storeCells ⟨W.heap.size,0,none⟩ (encM m)).run Qry.prog (W.alloc (.cells zMem 74))= .ok () ((W.alloc (.cells zMem 74)).setCells W.heap.size 0 (encM m)):=
 store_enc zMem_size (heap_alloc_new W _) m
theorem kept_new {w w1:World} {bx:Nat} (hg:(w.drew.alloc (.cells zMem 74)).grownBy w1 (some bx)) (hbx:bx< w.heap.size):w1.heap[w.heap.size]? =some (.cells zMem 74):=by
 rw [hg.block w.heap.size (by simp) (fun e=>by cases e;omega)]
 exact heap_alloc_new w.drew _
def MemIn (bt k:Nat) (g:NetG) (w':World):Prop:=
 w'.cell? ⟨bt,1922+k,none⟩=some (g.mv k)∧(∀r,r< (g.mem k).length→hasC w' (g.gm k) (r*84))∧(∀r,r< (g.mem k).length→rdC w' (g.gm k) (r*84)=encM (memD (g.mem k) r))
theorem NetAt.memIn {w:World} {B bt k:Nat} {g:NetG} (h:NetAt B w bt g) (hk:k< 3):MemIn bt k g w:=by
 have hx: ∀r,r< (g.mem k).length→w.rangeAt (g.gm k) (r*84) (encM (memD (g.mem k) r)):=fun r hr j v hv=>by
  have hj:j< 84:=by have:=(List.getElem?_eq_some_iff.1 hv).1;rwa [encM_length] at this
  obtain ⟨gw,cw,hwv,hw1,hw2,hcells⟩:=row_cell (h.hmem k hk) (by omega)
  cases hwv
  refine hcells _ _ ?_ ?_
  ·omega
  ·rw [flatM_get _ r hr j hj]
   rw [memD_eq _ _ hr] at hv
   exact hv
 refine ⟨?_,fun r hr=>(rdC_of (hx r hr) (encM_length _)).2,fun r hr=>(rdC_of (hx r hr) (encM_length _)).1⟩
 rw [(cells_of0 h.hT).1];exact h.hmv k hk
theorem encM_bit (m:Mem) (j:Nat) (h:j< 80):(encM m).toArray[4+j]? =some (.bool (m.2 j)):=by
 rw [List.getElem?_toArray,encM,List.getElem?_append_right (by simp)]
 have:=bits_get m.2 j h
 simp only [List.length_cons,List.length_nil]
 rw [show 4+j - (0+1+1+1+1)=j by omega,Array.getElem?_toList]
 exact this
end Go.Proofs.YtldmcdeibiclkaaGreatDoorQ
end
section
namespace Go.Proofs.YtldmcdeibiclkaaGreatDoorQ
open Go.RowKit
def rdB (w:World) (b o:Nat):List Value:=(List.range 80).map fun j=>(w.cell? ⟨b,o+j,none⟩).getD undef
def hasB (w:World) (b o:Nat):Prop:=∀j,j< 80→(w.cell? ⟨b,o+j,none⟩).isSome=true
def okB (w:World):Value→Prop
 | .pointer (some ⟨b,o,none⟩)=>hasB w b o
 |_=>False
def ldB (w:World):Value→Value
 | .pointer (some ⟨b,o,none⟩)=> .agg (rdB w b o).toArray
 |_=>undef
theorem okB_ptr (w:World) (b o:Nat):okB w (.pointer (some ⟨b,o,none⟩))=hasB w b o:=rfl
theorem ldB_ptr (w:World) (b o:Nat):ldB w (.pointer (some ⟨b,o,none⟩))= .agg (rdB w b o).toArray:=rfl
theorem rdB_length (w:World) (b o:Nat):(rdB w b o).length=80:=by simp [rdB]
theorem rdB_range {w:World} {b o:Nat} (h:hasB w b o):w.rangeAt b o (rdB w b o):=fun j v hv=>by
 have hj:j< 80:=by have:=(List.getElem?_eq_some_iff.1 hv).1;rwa [rdB_length] at this
 have:=h j hj
 obtain ⟨u,hu⟩:=Option.isSome_iff_exists.1 this
 simp [rdB,hj,hu] at hv
 rw [hu,hv]
theorem rdB_of {w:World} {b o:Nat} {s:Nat→Bool} (h: ∀j,j< 80→w.cell? ⟨b,o+j,none⟩=some (.bool (s j))):(rdB w b o).toArray=bits s∧hasB w b o:=by
 refine ⟨?_,fun j hj=>by rw [h j hj];rfl⟩
 unfold bits rdB
 congr 1
 refine List.map_congr_left fun j hj=>?_
 rw [h j (List.mem_range.1 hj)];rfl
theorem rdB_drew (w:World) (b o:Nat):rdB w.drew b o=rdB w b o:=rfl
theorem hasB_drew (w:World) (b o:Nat):hasB w.drew b o=hasB w b o:=rfl
theorem load_set (d:Option Tmp) (x:Operand) (ty:TypeId) (pos:String) (aft:Array Edge) (gd:Option (Nat×Bool)) (a:Act) (w:World) (K:Act→World→Prop) (Q:Exit→Act→World→Prop) (h:okB w (a.eval x)):
  Oper.wp Qry.prog {dst:=d,op:= .load 33 x,type:=ty,pos:=pos,after:=aft,guard:=gd} a w K Q=K (a.put d (ldB w (a.eval x))) w:=by
 unfold okB at h
 split at h
 ·rename_i b o heq
  rw [heq,ldB_ptr]
  unfold Oper.wp execOp
  simp only [heq,Instr.loadAt,Instr.sureAddr,Sem.run_bind,Sem.run_pure,Result.andThen_ok,run_loadVar_mid w b o 33 (rdB w b o) _ (rdB_range h) Qry.underlying33 rfl (by rw [Qry.sizeSet,rdB_length])]
  rfl
 ·exact h.elim
def thereB (w:World) (b o:Nat):Prop:=w.there b o 80
theorem thereB_drew (w:World) (b o:Nat):thereB w.drew b o=thereB w b o:=rfl
def okStB (w:World):Value→Value→Prop
 | .pointer (some ⟨b,o,none⟩),.agg cs=>thereB w b o∧∃s,cs=bits s
 |_,_=>False
def stB (w:World):Value→Value→World
 | .pointer (some ⟨b,o,none⟩),.agg cs=>w.setCells b o cs.toList
 |_,_=>w
theorem okStB_ptr (w:World) (b o:Nat) (s:Nat→Bool):okStB w (.pointer (some ⟨b,o,none⟩)) (.agg (bits s))=thereB w b o:=by
 apply propext
 exact ⟨fun h=>h.1,fun h=>⟨h,s,rfl⟩⟩
theorem stB_ptr (w:World) (b o:Nat) (cs:Array Value):stB w (.pointer (some ⟨b,o,none⟩)) (.agg cs)=w.setCells b o cs.toList:=rfl
theorem store_set (d:Option Tmp) (x y:Operand) (ty:TypeId) (pos:String) (aft:Array Edge) (gd:Option (Nat×Bool)) (a:Act) (w:World) (K:Act→World→Prop) (Q:Exit→Act→World→Prop) (h:okStB w (a.eval x) (a.eval y)):
  Oper.wp Qry.prog {dst:=d,op:= .store 33 x y,type:=ty,pos:=pos,after:=aft,guard:=gd} a w K Q=K (a.put d undef) (stB w (a.eval x) (a.eval y)):=by
 unfold okStB at h
 split at h
 ·rename_i b o cs heq heq'
  obtain ⟨h1,s,rfl⟩:=h
  rw [heq,heq',stB_ptr]
  unfold Oper.wp execOp
  simp only [heq,heq',Instr.storeAt,Instr.sureAddr,Sem.run_bind,Sem.run_pure,Result.andThen_ok,run_storeVar_mid w b o 33 (bits s) (by rw [bits_size];exact h1) (by rw [Qry.sizeSet,bits_size]) (Array.all_eq_true_iff_forall_mem.2 (fun v hv=>bits_one s v (by simpa using hv)))]
  rfl
 ·exact h.elim
theorem thereB_of {w:World} {b o:Nat} {A:Array Value} {t:TypeId} (h:w.heap[b]? =some (.cells A t)) (hs:o+80≤A.size):thereB w b o:=fun j hj=>by
 obtain ⟨e,f⟩:=cells_of0 h
 refine ⟨?_,f _⟩
 rw [e,Array.getElem?_eq_getElem (by omega)];rfl
theorem set_stored {w:World} {b o:Nat} {A:Array Value} {t:TypeId} (h:w.heap[b]? =some (.cells A t)) (hs:o+80≤A.size) (s:Nat→Bool):
  ∃A',(w.setCells b o (bits s).toList).heap[b]? =some (.cells A' t)∧A'.size=A.size∧(∀j,j< 80→A'[o+j]? =some (.bool (s j)))∧∀j,(j< o∨o+80≤j)→A'[j]? =A[j]? :=by
 obtain ⟨A',h1,h2,h3⟩:=after_set b t (bits s).toList o w A h
 have hl:(bits s).toList.length=80:=by rw [Array.length_toList,bits_size]
 refine ⟨A',h1,h2,fun j hj=>?_,fun j hj=>?_⟩
 ·rw [h3,if_pos ⟨by omega,by omega,by omega⟩,show o+j - o=j by omega,Array.getElem?_toList]
  exact bits_get s j hj
 ·rw [h3,if_neg (by omega)]
end Go.Proofs.YtldmcdeibiclkaaGreatDoorQ
end
