/-
  Toward: treed_holds, each node's digest is that of its children's, for every argument of Treed. Contracts: tree.Digest, Replica.digest, Replica.Digest, Replica.Segment, Replica.Hello.
  Contracts: Replica.digest, Replica.Digest, Replica.Segment, Replica.Hello; attunekeep.sum.
  The last region of Treed, walked by the kernel.
-/
import Derived.Test.YtldmcdeibiclkaaGreatDoorC40
set_option linter.unusedVariables false
set_option linter.unusedSimpArgs false
set_option maxRecDepth 4000
section
namespace Go.Proofs.YtldmcdeibiclkaaGreatDoorQ
open Go.RowKit
open Go.Lib (strCells strCells_length strCells_oneCell)
def dg (T:Nat→ByteArray):Nat→Nat→Int
 |0,n=>fnv (T n)
 |h+1,n=>nodeD fun j=>dg T h (n*4+j)
@[simp] theorem Qry.call68 (args:Array Value) (w:World):Sem.run Qry.prog (callFunc 68 args) w= .ok (.enter 68 args) w:=Qry.g_call Qry.func68 (by kernel_rfl) rfl args w
def sliceLen:Value→Nat
 | .slice _ n _=>n
 |_=>0
theorem dg_up (T:Nat→ByteArray) (k n m:Nat):((List.range m).map fun i=>nodeD fun j=>(fun i=>dg T k (n*(m*4)+i)) (i*4+j))=(List.range m).map fun i=>dg T (k+1) (n*m+i):=by
 apply List.map_congr_left
 intro i _
 rw [dg]
 congr 1
 funext j
 show dg T k (n*(m*4)+(i*4+j))=dg T k ((n*m+i)*4+j)
 congr 1
 rw [← Nat.mul_assoc]
 omega
set_option maxRecDepth 100000 in
set_option maxHeartbeats 4000000 in
theorem treeDigest_any (b lv n:Nat) (T:Nat→ByteArray) (w:World) (hT: ∀k:Nat,k< 64→∀W,Below w.heap.size w W→Calls Qry.prog 28 #[.pointer (some ⟨b,0,none⟩),.int .i64 k] W fun e w'=>e= .returned (.string (T k))∧Below W.heap.size W w')
  (hTs: ∀k,k< 64→(T k).size≤maxLen) (hl:lv≤3) (hn:n< 4 ^ lv):
  Calls Qry.prog 47 #[.int .i64 lv,.int .i64 n,.func (.func 28) #[.pointer (some ⟨b,0,none⟩)] #[]] w fun e w'=>e= .returned (.int .u64 (dg T (3 - lv) n))∧Below w.heap.size w w':=by
 obtain ⟨h,hh⟩: ∃h,h=3 - lv:=⟨_,rfl⟩
 have hh3:h≤3:=by omega
 have e1:(3:Int) - (lv:Int)=(h:Int):=by omega
 have hpw:4 ^ lv*4 ^ h=64:=by
  rw [← Nat.pow_add,show lv+h=3 by omega]
 obtain ⟨c,hcd⟩: ∃c,c=4 ^ h:=⟨_,rfl⟩
 have hc4:c=1∨c=4∨c=16∨c=64:=by
  rw [hcd];rcases lt4' hh3 with rfl|rfl|rfl|rfl<;> decide
 have hf:n*c+c≤64:=by
  rw [← hpw,← hcd,← Nat.succ_mul]
  exact Nat.mul_le_mul_right c hn
 have HW:Hid (∀W,Calls Qry.prog 46 #[.int .i64 (h:Int)] W fun e w'=>e= .returned (.int .i64 (c:Int))∧w'=W):=fun W=>by rw [hcd];exact width_any h hh3 W
 have HS:=ofSegments_any b (n*c) c T w hT hTs hc4 hf
 have HSeg:Hid (Calls Qry.prog 68 #[.int .i64 ((n:Int)*(c:Int)),.int .i64 c,.func (.func 28) #[.pointer (some ⟨b,0,none⟩)] #[]] w fun e w'=>∃v,e= .returned v∧DRow w' w.heap.size v ((List.range c).map fun i=>fnv (T (n*c+i)))∧Below w.heap.size w w'):=(by rw [← Int.natCast_mul];exact HS)
 have hnc:(n:Int)*(c:Int)≤64:=by rw [← Int.natCast_mul];omega
 have hnc0:(0:Int)≤(n:Int)*(c:Int):=by rw [← Int.natCast_mul];omega
 have hcc:c≤64:=by omega
 have HD0:Hid (((List.range c).map fun i=>fnv (T (n*c+i)))=(List.range (4 ^ (h - 0))).map fun i=>dg T 0 (n*4 ^ (h - 0)+i)):=(show _=_ by rw [Nat.sub_zero,← hcd];rfl)
 rw [← hh]
 clear HS hT hTs hpw hf hc4 hcd hh hn
 go_enter Qry.func47,Qry.ntmps47
 go_wp2_with (first
  |(go_at_call 46;refine Calls.mono (HW.out _) ?_;rintro e w0 ⟨rfl,hw0⟩;obtain rfl:=hw0.symm)
  |(go_at_call 68;go_loud (refine Calls.mono HSeg.out ?_;rintro e w1 ⟨v1,rfl,hr1,hb1⟩;rw [HD0.out] at hr1;have HR1:Hid (DRow w1 w.heap.size v1 ((List.range (4 ^ (h - 0))).map fun i=>dg T 0 (n*4 ^ (h - 0)+i))):=hr1;have HB1:Hid (Below w.heap.size w w1):=hb1;clear hr1 hb1)))
 clear HW HSeg HD0 hnc hnc0 e1
 go_loopw [8] (fun o wr=>∃k:Nat,k≤h∧Hid (DRow wr w.heap.size o ((List.range (4 ^ (h - k))).map fun i=>dg T k (n*4 ^ (h - k)+i)))∧Hid (Below w.heap.size w wr)) (fun o _=>sliceLen o)
 case atStart=>exact ⟨0,by omega,HR1.out,HB1.out⟩
 case round=>
  obtain ⟨k,hk,hr,hb⟩:=hrel
  have HR:Hid (DRow wr w.heap.size u8 ((List.range (4 ^ (h - k))).map fun i=>dg T k (n*4 ^ (h - k)+i))):=hr.out
  have HB:Hid (Below w.heap.size w wr):=hb.out
  have hsz:=hb.out.size
  clear hr hb
  by_cases hlt:k< h
  ·obtain ⟨m,hm⟩: ∃m,m=4 ^ (h - (k+1)):=⟨_,rfl⟩
   have hL:4 ^ (h - k)=m*4:=by rw [hm,← Nat.pow_succ];congr 1;omega
   have hm16:1≤m∧m≤16:=by
    have:h - (k+1)=0∨h - (k+1)=1∨h - (k+1)=2:=by omega
    rw [hm]
    rcases this with e|e|e<;> rw [e]<;> decide
   have HRm:DRow wr w.heap.size u8 ((List.range (m*4)).map fun i=>dg T k (n*(m*4)+i)):=by have:=HR.out;rw [hL] at this;exact this
   obtain ⟨ad,cap,rfl,hcap,_⟩:=HRm.len
   have HP:Hid _:=ofParents_any w.heap.size m _ (fun i=>dg T k (n*(m*4)+i)) wr hm16 HRm
   have HU:Hid _:=dg_up T k n m
   have HMm:Hid (m=4 ^ (h - (k+1))):=hm
   simp only [List.length_map,List.length_range] at*
   have hg1:(1:Int)< (m:Int)*4:=by omega
   clear HR HRm hL hm
   go_wp2_with (go_at_call 69;refine Calls.mono HP.out ?_;rintro e w2 ⟨v2,rfl,hr2,hb2⟩;rw [HU.out] at hr2;have HR2:Hid (DRow w2 w.heap.size v2 ((List.range m).map fun i=>dg T (k+1) (n*m+i))):=ownsRow_base hr2 hsz;have HB2:Hid (Below w.heap.size w w2):=HB.out.trans (hb2.mono hsz);clear hr2 hb2)
   refine ⟨⟨k+1,by omega,?_,HB2.out⟩,?_⟩
   ·show DRow _ _ _ _
    rw [← HMm.out]
    exact HR2.out
   ·obtain ⟨ad2,cap2,e2,_⟩:=HR2.out.len
    rw [e2]
    simp [sliceLen]
    omega
  ·obtain rfl:k=h:=by omega
   have HR0:DRow wr w.heap.size u8 [dg T k n]:=by
    have:=HR.out
    rw [Nat.sub_self] at this
    simpa using this
   obtain ⟨g,cap,rfl,hgl,hc0⟩:=row_cell1 HR0 (k:=0) rfl
   have hcp:(cap:Int)≤9223372036854775807:=by
    obtain ⟨ad,cap',e,hc,_⟩:=HR0.len
    cases e;exact hc
   simp only [List.length_singleton] at*
   clear HR HR0
   go_wp2
   go_ret
   exact ⟨rfl,HB.out⟩
end Go.Proofs.YtldmcdeibiclkaaGreatDoorQ
end
section
namespace Go.Proofs.YtldmcdeibiclkaaGreatDoorQ
open Go.RowKit
open Go.Lib (strCells strCells_length strCells_oneCell)
def digW (w:World) (bm:Nat→Nat) (K:Know) (lv n:Nat):Int:=dg (textW w bm K) (3 - lv) n
theorem text_calls {w:World} {b num:Nat} {bm:Nat→Nat} {K:Know} (h:RepAt w b bm num K) (hK:KOk K): ∀k:Nat,k< 64→∀W,Below w.heap.size w W→Calls Qry.prog 28 #[.pointer (some ⟨b,0,none⟩),.int .i64 k] W fun e w'=>e= .returned (.string (textW w bm K k))∧Below W.heap.size W w':=fun k hk W hW=>by
 have e:textW W bm K k=textW w bm K k:=textW_keep (hW.block _ (h.2.1 k hk).lt)
 rw [← e]
 exact text_any b num k bm K W (h.below hW) hK hk
theorem text_small {w:World} {b num:Nat} {bm:Nat→Nat} {K:Know} (h:RepAt w b bm num K) (hK:KOk K): ∀k,k< 64→(textW w bm K k).size≤maxLen:=fun k hk=>by
 have:=textW_size h hK hk
 unfold maxLen;omega
set_option maxRecDepth 100000 in
theorem digest_any (b num lv n:Nat) (bm:Nat→Nat) (K:Know) (w:World) (h:RepAt w b bm num K) (hK:KOk K) (hl:lv≤3) (hn:n< 4 ^ lv):
  Calls Qry.prog 27 #[.pointer (some ⟨b,0,none⟩),.int .i64 lv,.int .i64 n] w fun e w'=>e= .returned (.int .u64 (digW w bm K lv n))∧Below w.heap.size w w':=by
 have HD:Hid _:=treeDigest_any b lv n (textW w bm K) w (text_calls h hK) (text_small h hK) hl hn
 have HE:Hid (dg (textW w bm K) (3 - lv) n=digW w bm K lv n):=rfl
 generalize digW w bm K lv n=D at*
 clear h hK
 go_enter Qry.func27,Qry.ntmps27
 go_wp2_with (go_at_call 47;refine Calls.mono HD.out ?_;rintro e w1 ⟨rfl,hb1⟩;rw [HE.out];have HB:Hid (Below w.heap.size w w1):=hb1;clear hb1)
 go_ret
 exact ⟨rfl,HB.out⟩
set_option maxRecDepth 100000 in
set_option maxHeartbeats 400000 in
theorem repDigest_ok (b num lv n:Nat) (bm:Nat→Nat) (K:Know) (w:World) (h:RepAt w b bm num K) (hK:KOk K) (hl:lv≤3) (hn:n< 4 ^ lv):
  Calls Qry.prog 10 #[.pointer (some ⟨b,0,none⟩),.int .i64 lv,.int .i64 n] w fun e w'=>e= .returned (.tuple #[.int .u64 (digW w bm K lv n),.int .i64 0])∧Below w.heap.size w w':=by
 have HD:Hid _:=digest_any b num lv n bm K w h hK hl hn
 have HH:Hid (∀W,Calls Qry.prog 26 #[.int .i64 lv,.int .i64 n] W fun e w'=>e= .returned (.bool true)∧w'=W):=fun W=>by
  have:=has_any lv n (by omega) W
  rwa [show decide (lv≤3∧n< 4 ^ lv)=true by simp [hl,hn]] at this
 generalize digW w bm K lv n=D at*
 clear h hK hn
 go_enter Qry.func10,Qry.ntmps10
 go_wp2_with (first
  |(go_at_call 26;refine Calls.mono (HH.out _) ?_;rintro e w0 ⟨rfl,hw0⟩;obtain rfl:=hw0.symm)
  |(go_at_call 27;refine Calls.mono HD.out ?_;rintro e w1 ⟨rfl,hb1⟩;have HB:Hid (Below w.heap.size w w1):=hb1;clear hb1))
 go_ret2
 exact ⟨rfl,HB.out⟩
set_option maxRecDepth 100000 in
set_option maxHeartbeats 400000 in
theorem repDigest_no (b:Nat) (lv n:Nat) (w:World) (hl:lv≤4) (hn: ¬ (lv≤3∧n< 4 ^ lv)):
  Calls Qry.prog 10 #[.pointer (some ⟨b,0,none⟩),.int .i64 lv,.int .i64 n] w fun e w'=>e= .returned (.tuple #[.int .u64 0,.int .i64 7])∧w'=w:=by
 have HH:Hid (∀W,Calls Qry.prog 26 #[.int .i64 lv,.int .i64 n] W fun e w'=>e= .returned (.bool false)∧w'=W):=fun W=>by
  have:=has_any lv n hl W
  rwa [show decide (lv≤3∧n< 4 ^ lv)=false by simpa using hn] at this
 clear hn
 go_enter Qry.func10,Qry.ntmps10
 go_wp2_with (go_at_call 26;refine Calls.mono (HH.out _) ?_;rintro e w0 ⟨rfl,hw0⟩;obtain rfl:=hw0.symm)
 go_ret2
 exact ⟨rfl,rfl⟩
set_option maxRecDepth 100000 in
set_option maxHeartbeats 400000 in
theorem segment_any (b num n:Nat) (bm:Nat→Nat) (K:Know) (w:World) (h:RepAt w b bm num K) (hK:KOk K) (hn:n< 64):
  Calls Qry.prog 11 #[.pointer (some ⟨b,0,none⟩),.int .i64 n] w fun e w'=>e= .returned (.tuple #[.string (textW w bm K n),.int .i64 0])∧Below w.heap.size w w':=by
 have HD:Hid _:=text_any b num n bm K w h hK hn
 have HH:Hid (∀W,Calls Qry.prog 26 #[.int .i64 3,.int .i64 n] W fun e w'=>e= .returned (.bool true)∧w'=W):=fun W=>by
  have:=has_any 3 n (by omega) W
  rwa [show decide (3≤3∧n< 4 ^ 3)=true by simp;omega] at this
 generalize textW w bm K n=D at*
 clear h hK hn
 go_enter Qry.func11,Qry.ntmps11
 go_wp2_with (first
  |(go_at_call 26;refine Calls.mono (HH.out _) ?_;rintro e w0 ⟨rfl,hw0⟩;obtain rfl:=hw0.symm)
  |(go_at_call 28;refine Calls.mono HD.out ?_;rintro e w1 ⟨rfl,hb1⟩;have HB:Hid (Below w.heap.size w w1):=hb1;clear hb1))
 go_ret2
 exact ⟨rfl,HB.out⟩
def helloB (d:Int):ByteArray:=oneB 82++digB d
set_option maxRecDepth 100000 in
set_option maxHeartbeats 400000 in
theorem rootText_any (d:Int) (w:World):
  Calls Qry.prog 29 #[.agg #[.int .u64 d]] w fun e w'=>e= .returned (.string (helloB d))∧Below w.heap.size w w':=by
 have hrow:BRow ((w.alloc (.cells #[.int .u64 d] 81)).alloc (.cells #[.int .u8 82] 5)) (w.heap.size+1) (.slice (some ⟨w.heap.size+1,0,none⟩) 1 1) (oneB 82):=
  ⟨rfl,Or.inr ⟨w.heap.size+1,1,#[.int .u8 82],rfl,Nat.le_refl _,alloc_new1 w _ _,Nat.le_refl _,by decide,rfl,rfl⟩⟩
 have HA:Hid _:=appendDigest_any (w.heap.size+1) _ _ d _ hrow (by simp) (by decide)
 have HRow:Hid _:=hrow
 clear hrow
 go_enter Qry.func29,Qry.ntmps29
 go_wp2_with (go_at_call 50;refine Calls.mono HA.out ?_;rintro e w1 ⟨v1,rfl,hr1,hg1⟩;have hcv:=brow_convert hr1;have HB:Hid (Below w.heap.size w w1):=(hg1.toBelow (((Below.refl (w.heap.size) w).alloc (Nat.le_refl _) _).alloc (by simp) _) (by simp;omega) (ownsRow_base HRow.out (by omega)));clear hr1 hg1)
 go_ret
 exact ⟨rfl,HB.out⟩
set_option maxRecDepth 100000 in
set_option maxHeartbeats 400000 in
theorem hello_any (b num:Nat) (bm:Nat→Nat) (K:Know) (w:World) (h:RepAt w b bm num K) (hK:KOk K):
  Calls Qry.prog 12 #[.pointer (some ⟨b,0,none⟩)] w fun e w'=>e= .returned (.string (helloB (digW w bm K 0 0)))∧Below w.heap.size w w':=by
 have HD:Hid (Calls Qry.prog 27 #[.pointer (some ⟨b,0,none⟩),.int .i64 0,.int .i64 0] w fun e w'=>e= .returned (.int .u64 (digW w bm K 0 0))∧Below w.heap.size w w'):=digest_any b num 0 0 bm K w h hK (by decide) (by decide)
 generalize digW w bm K 0 0=D at*
 clear h hK
 go_enter Qry.func12,Qry.ntmps12
 go_wp2_with (first
  |(go_at_call 27;refine Calls.mono HD.out ?_;rintro e w1 ⟨rfl,hb1⟩;have HB1:Hid (Below w.heap.size w w1):=hb1;clear hb1)
  |(go_at_call 29;refine (rootText_any D _).mono ?_;rintro e w2 ⟨rfl,hb2⟩;have HB2:Hid (Below w.heap.size w w2):=HB1.out.trans (hb2.mono HB1.out.size);clear hb2))
 go_ret
 exact ⟨rfl,HB2.out⟩
set_option maxHeartbeats 400000 in
theorem keepSum_any (s:ByteArray) (w:World) (hs:s.size≤maxLen):
  Calls Qry.prog 13 #[.string s] w fun e w'=>e= .returned (.int .u64 (fnv s))∧w'=w:=by
 unfold maxLen at hs
 go_enter Qry.func13,Qry.ntmps13
 go_wp2
 go_loop [3,4] (fun d i=>∃k:Nat,k≤s.size∧i= .int .i64 k∧d= .int .u64 (fnvTo s k)) (fun _ i=>s.size - (intOf i).toNat)
 case atStart=>exact ⟨0,by omega,rfl,rfl⟩
 case round=>
  obtain ⟨k,hk,rfl,rfl⟩:=hrel
  by_cases hlt:k< s.size
  ·have g1:(k:Int)< (s.size:Int):=by omega
   have g0:(0:Int)≤(k:Int):=by omega
   have hst:Hid (fnvTo s (k+1)=IntKind.u64.wrap (Go.bits .xor .u64 (fnvTo s k) (s[k].toNat:Int)*1099511628211)):=by
    show fnvTo s (k+1)=_
    rw [fnvTo,byteI_lt s k hlt]
   go_wp2
   refine ⟨⟨k+1,by omega,by go_num,?_⟩,by simp [intOf];omega⟩
   rw [hst.out,wrap_byte]
  ·have hke:k=s.size:=by omega
   go_wp2
   go_ret
   exact ⟨rfl,rfl⟩
end Go.Proofs.YtldmcdeibiclkaaGreatDoorQ
end
section
namespace Go.Proofs.YtldmcdeibiclkaaGreatDoorQ
open Go.RowKit
def lastL (p:String):List Oper:=[{dst:=some 165,op:=Op.move (Operand.tmp 22),type:=45,pos:=p,after:=#[],guard:=none},{dst:=some 166,op:=Op.binOp BinOp.eql 45 (Operand.tmp 165) (Operand.const (Value.int IntKind.i64 0)) 45,type:=4,pos:=p,after:=#[{on:=0,ground:=Ground.data}],guard:=none},{dst:=some 167,op:=Op.move (Operand.tmp 166),type:=4,pos:=p,after:=#[{on:=1,ground:=Ground.data}],guard:=none},{dst:=some 168,op:=Op.move (Operand.tmp 24),type:=45,pos:=p,after:=#[{on:=2,ground:=Ground.guard}],guard:=some (2,true)},{dst:=some 169,op:=Op.binOp BinOp.eql 45 (Operand.tmp 168) (Operand.const (Value.int IntKind.i64 7)) 45,type:=4,pos:=p,after:=#[{on:=3,ground:=Ground.data},{on:=2,ground:=Ground.guard}],guard:=some (2,true)},{dst:=some 170,op:=Op.pick (Operand.tmp 167) (Operand.tmp 169) (Operand.const (Value.bool false)),type:=4,pos:=p,after:=#[{on:=2,ground:=Ground.data},{on:=4,ground:=Ground.data}],guard:=none},{dst:=some 171,op:=Op.move (Operand.tmp 170),type:=4,pos:=p,after:=#[{on:=5,ground:=Ground.data},{on:=2,ground:=Ground.chain}],guard:=none},{dst:=some 172,op:=Op.move (Operand.tmp 26),type:=45,pos:=p,after:=#[{on:=6,ground:=Ground.guard}],guard:=some (6,true)},{dst:=some 173,op:=Op.binOp BinOp.eql 45 (Operand.tmp 172) (Operand.const (Value.int IntKind.i64 7)) 45,type:=4,pos:=p,after:=#[{on:=7,ground:=Ground.data},{on:=6,ground:=Ground.guard}],guard:=some (6,true)},{dst:=some 174,op:=Op.pick (Operand.tmp 171) (Operand.tmp 173) (Operand.const (Value.bool false)),type:=4,pos:=p,after:=#[{on:=6,ground:=Ground.data},{on:=8,ground:=Ground.data}],guard:=none},{dst:=some 175,op:=Op.move (Operand.tmp 174),type:=4,pos:=p,after:=#[{on:=9,ground:=Ground.data},{on:=6,ground:=Ground.chain}],guard:=none},{dst:=some 176,op:=Op.move (Operand.tmp 29),type:=45,pos:=p,after:=#[{on:=10,ground:=Ground.guard}],guard:=some (10,true)},{dst:=some 177,op:=Op.binOp BinOp.eql 45 (Operand.tmp 176) (Operand.const (Value.int IntKind.i64 0)) 45,type:=4,pos:=p,after:=#[{on:=11,ground:=Ground.data},{on:=10,ground:=Ground.guard}],guard:=some (10,true)},{dst:=some 178,op:=Op.pick (Operand.tmp 175) (Operand.tmp 177) (Operand.const (Value.bool false)),type:=4,pos:=p,after:=#[{on:=10,ground:=Ground.data},{on:=12,ground:=Ground.data}],guard:=none},{dst:=some 179,op:=Op.move (Operand.tmp 178),type:=4,pos:=p,after:=#[{on:=13,ground:=Ground.data},{on:=10,ground:=Ground.chain}],guard:=none},{dst:=some 180,op:=Op.move (Operand.tmp 31),type:=45,pos:=p,after:=#[{on:=14,ground:=Ground.guard}],guard:=some (14,true)},{dst:=some 181,op:=Op.binOp BinOp.eql 45 (Operand.tmp 180) (Operand.const (Value.int IntKind.i64 0)) 45,type:=4,pos:=p,after:=#[{on:=15,ground:=Ground.data},{on:=14,ground:=Ground.guard}],guard:=some (14,true)},{dst:=some 182,op:=Op.pick (Operand.tmp 179) (Operand.tmp 181) (Operand.const (Value.bool false)),type:=4,pos:=p,after:=#[{on:=14,ground:=Ground.data},{on:=16,ground:=Ground.data}],guard:=none},{dst:=some 183,op:=Op.move (Operand.tmp 182),type:=4,pos:=p,after:=#[{on:=17,ground:=Ground.data},{on:=14,ground:=Ground.chain}],guard:=none},{dst:=some 184,op:=Op.move (Operand.tmp 33),type:=45,pos:=p,after:=#[{on:=18,ground:=Ground.guard}],guard:=some (18,true)},{dst:=some 185,op:=Op.binOp BinOp.eql 45 (Operand.tmp 184) (Operand.const (Value.int IntKind.i64 0)) 45,type:=4,pos:=p,after:=#[{on:=19,ground:=Ground.data},{on:=18,ground:=Ground.guard}],guard:=some (18,true)},{dst:=some 186,op:=Op.pick (Operand.tmp 183) (Operand.tmp 185) (Operand.const (Value.bool false)),type:=4,pos:=p,after:=#[{on:=18,ground:=Ground.data},{on:=20,ground:=Ground.data}],guard:=none},{dst:=some 187,op:=Op.move (Operand.tmp 186),type:=4,pos:=p,after:=#[{on:=21,ground:=Ground.data},{on:=18,ground:=Ground.chain}],guard:=none},{dst:=some 188,op:=Op.move (Operand.tmp 21),type:=44,pos:=p,after:=#[{on:=22,ground:=Ground.guard}],guard:=some (22,true)},{dst:=some 189,op:=Op.move (Operand.tmp 16),type:=9,pos:=p,after:=#[{on:=22,ground:=Ground.guard}],guard:=some (22,true)},{dst:=some 190,op:=Op.call {callee:=Callee.value (Operand.func 13),args:=#[Operand.tmp 189],argTypes:=#[9]},type:=44,pos:=p,after:=#[{on:=24,ground:=Ground.data},{on:=22,ground:=Ground.chain},{on:=22,ground:=Ground.guard}],guard:=some (22,true)},{dst:=some 191,op:=Op.binOp BinOp.eql 44 (Operand.tmp 188) (Operand.tmp 190) 44,type:=4,pos:=p,after:=#[{on:=23,ground:=Ground.data},{on:=25,ground:=Ground.data},{on:=22,ground:=Ground.guard}],guard:=some (22,true)},{dst:=some 192,op:=Op.pick (Operand.tmp 187) (Operand.tmp 191) (Operand.const (Value.bool false)),type:=4,pos:=p,after:=#[{on:=22,ground:=Ground.data},{on:=26,ground:=Ground.data}],guard:=none},{dst:=some 193,op:=Op.move (Operand.tmp 192),type:=4,pos:=p,after:=#[{on:=27,ground:=Ground.data},{on:=25,ground:=Ground.chain}],guard:=none},{dst:=some 194,op:=Op.move (Operand.tmp 30),type:=44,pos:=p,after:=#[{on:=28,ground:=Ground.guard}],guard:=some (28,true)},{dst:=some 195,op:=Op.move (Operand.tmp 28),type:=9,pos:=p,after:=#[{on:=28,ground:=Ground.guard}],guard:=some (28,true)},{dst:=some 196,op:=Op.call {callee:=Callee.value (Operand.func 13),args:=#[Operand.tmp 195],argTypes:=#[9]},type:=44,pos:=p,after:=#[{on:=30,ground:=Ground.data},{on:=28,ground:=Ground.chain},{on:=28,ground:=Ground.guard}],guard:=some (28,true)},{dst:=some 197,op:=Op.binOp BinOp.eql 44 (Operand.tmp 194) (Operand.tmp 196) 44,type:=4,pos:=p,after:=#[{on:=29,ground:=Ground.data},{on:=31,ground:=Ground.data},{on:=28,ground:=Ground.guard}],guard:=some (28,true)},{dst:=some 198,op:=Op.pick (Operand.tmp 193) (Operand.tmp 197) (Operand.const (Value.bool false)),type:=4,pos:=p,after:=#[{on:=28,ground:=Ground.data},{on:=32,ground:=Ground.data}],guard:=none},{dst:=some 199,op:=Op.move (Operand.tmp 198),type:=4,pos:=p,after:=#[{on:=33,ground:=Ground.data},{on:=31,ground:=Ground.chain}],guard:=none},{dst:=some 200,op:=Op.move (Operand.tmp 36),type:=9,pos:=p,after:=#[{on:=34,ground:=Ground.guard}],guard:=some (34,true)},{dst:=some 201,op:=Op.move (Operand.tmp 34),type:=9,pos:=p,after:=#[{on:=34,ground:=Ground.guard}],guard:=some (34,true)},{dst:=some 202,op:=Op.binOp BinOp.eql 9 (Operand.tmp 200) (Operand.tmp 201) 9,type:=4,pos:=p,after:=#[{on:=35,ground:=Ground.data},{on:=36,ground:=Ground.data},{on:=34,ground:=Ground.guard}],guard:=some (34,true)},{dst:=some 203,op:=Op.pick (Operand.tmp 199) (Operand.tmp 202) (Operand.const (Value.bool false)),type:=4,pos:=p,after:=#[{on:=34,ground:=Ground.data},{on:=37,ground:=Ground.data}],guard:=none},{dst:=some 6,op:=Op.assign (Operand.tmp 203),type:=4,pos:=p,after:=#[{on:=38,ground:=Ground.data},{on:=34,ground:=Ground.chain},{on:=0,ground:=Ground.phase},{on:=1,ground:=Ground.phase},{on:=2,ground:=Ground.phase},{on:=3,ground:=Ground.phase},{on:=4,ground:=Ground.phase},{on:=5,ground:=Ground.phase},{on:=6,ground:=Ground.phase},{on:=7,ground:=Ground.phase},{on:=8,ground:=Ground.phase},{on:=9,ground:=Ground.phase},{on:=10,ground:=Ground.phase},{on:=11,ground:=Ground.phase},{on:=12,ground:=Ground.phase},{on:=13,ground:=Ground.phase},{on:=14,ground:=Ground.phase},{on:=15,ground:=Ground.phase},{on:=16,ground:=Ground.phase},{on:=17,ground:=Ground.phase},{on:=18,ground:=Ground.phase},{on:=19,ground:=Ground.phase},{on:=20,ground:=Ground.phase},{on:=21,ground:=Ground.phase},{on:=22,ground:=Ground.phase},{on:=23,ground:=Ground.phase},{on:=24,ground:=Ground.phase},{on:=25,ground:=Ground.phase},{on:=26,ground:=Ground.phase},{on:=27,ground:=Ground.phase},{on:=28,ground:=Ground.phase},{on:=29,ground:=Ground.phase},{on:=30,ground:=Ground.phase},{on:=31,ground:=Ground.phase},{on:=32,ground:=Ground.phase},{on:=33,ground:=Ground.phase},{on:=34,ground:=Ground.phase},{on:=35,ground:=Ground.phase},{on:=36,ground:=Ground.phase},{on:=37,ground:=Ground.phase},{on:=38,ground:=Ground.phase}],guard:=none}]
theorem wpl_value {P:Program} {ops:Array Oper} {Q:Exit→Act→World→Prop} {a:Act} {w:World} {rest:List Oper} {o:Oper} (a':Act) (v:Value) (ha:a.put o.dst v=a') (hw:Region.wanted o (yielded ops a.tmps)=true) (he:(execOp a.eval o).run P w= .ok (.value v) w) (h:wpList P ops Q rest a' w):wpList P ops Q (o::rest) a w:=by
 rw [wpList,if_pos hw]
 left
 unfold Oper.wp
 rw [he]
 show wpList P ops Q rest (a.put o.dst v) w
 rw [ha]
 exact h
theorem wpl_eq {P:Program} {ops:Array Oper} {Q:Exit→Act→World→Prop} {a:Act} {w:World} {rest:List Oper} {o:Oper} (a':Act) (v' v:Value) (hv:v'=v) (ha:a.put o.dst v=a') (hw:Region.wanted o (yielded ops a.tmps)=true) (he:(execOp a.eval o).run P w= .ok (.value v') w) (h:wpList P ops Q rest a' w):wpList P ops Q (o::rest) a w:=
 wpl_value a' v ha hw (by rw [he,hv]) h
theorem wpl_call {P:Program} {ops:Array Oper} {Q:Exit→Act→World→Prop} {a:Act} {w:World} {rest:List Oper} {o:Oper} (a':Act) (f:FuncId) (args:Array Value) (v:Value) (hc:Calls P f args w fun e w'=>e= .returned v∧w'=w) (ha:a.put o.dst v=a') (hw:Region.wanted o (yielded ops a.tmps)=true) (he1:(execOp a.eval o).run P w=Sem.run P (callFunc f args) w) (he2:Sem.run P (callFunc f args) w= .ok (.enter f args) w) (h:wpList P ops Q rest a' w):wpList P ops Q (o::rest) a w:=by
 rw [wpList,if_pos hw]
 left
 unfold Oper.wp
 rw [he1,he2,Oper.upon_enter]
 refine hc.mono ?_
 rintro e w' ⟨rfl,rfl⟩
 show wpList P ops Q rest (a.put o.dst v) w'
 rw [ha]
 exact h
def lastV (dkb fm:Int) (st tm hel:ByteArray):List (Nat×Value):=[(165,.int .i64 0),(166,.bool true),(167,.bool true),(168,.int .i64 7),(169,.bool true),(170,.bool true),(171,.bool true),(172,.int .i64 7),(173,.bool true),(174,.bool true),(175,.bool true),(176,.int .i64 0),(177,.bool true),(178,.bool true),(179,.bool true),(180,.int .i64 0),(181,.bool true),(182,.bool true),(183,.bool true),(184,.int .i64 0),(185,.bool true),(186,.bool true),(187,.bool true),(188,.int .u64 dkb),(189,.string st),(190,.int .u64 dkb),(191,.bool true),(192,.bool true),(193,.bool true),(194,.int .u64 fm),(195,.string tm),(196,.int .u64 fm),(197,.bool true),(198,.bool true),(199,.bool true),(200,.string hel),(201,.string hel),(202,.bool true),(203,.bool true),(6,.bool true)]
def lastX (y:Nat→Value):List (Nat×Value)→Nat→Value
 |[],i=>y i
 |(k,v)::l,i=>lastX (fun i=>cond (Nat.beq i k) v (y i)) l i
def lastA (y:Nat→Value) (dkb fm:Int) (st tm hel:ByteArray) (k:Nat):Act:=
 let x:=lastX y ([(16,.string st),(21,.int .u64 dkb),(22,.int .i64 0),(24,.int .i64 7),(26,.int .i64 7),(28,.string tm),(29,.int .i64 0),(30,.int .u64 fm),(31,.int .i64 0),(33,.int .i64 0),(34,.string hel),(36,.string hel)]++(lastV dkb fm st tm hel).take k)
 {tmps:=#[x 0,x 1,x 2,x 3,x 4,x 5,x 6,x 7,x 8,x 9,x 10,x 11,x 12,x 13,x 14,x 15,x 16,x 17,x 18,x 19,x 20,x 21,x 22,x 23,x 24,x 25,x 26,x 27,x 28,x 29,x 30,x 31,x 32,x 33,x 34,x 35,x 36,x 37,x 38,x 39,x 40,x 41,x 42,x 43,x 44,x 45,x 46,x 47,x 48,x 49,x 50,x 51,x 52,x 53,x 54,x 55,x 56,x 57,x 58,x 59,x 60,x 61,x 62,x 63,x 64,x 65,x 66,x 67,x 68,x 69,x 70,x 71,x 72,x 73,x 74,x 75,x 76,x 77,x 78,x 79,x 80,x 81,x 82,x 83,x 84,x 85,x 86,x 87,x 88,x 89,x 90,x 91,x 92,x 93,x 94,x 95,x 96,x 97,x 98,x 99,x 100,x 101,x 102,x 103,x 104,x 105,x 106,x 107,x 108,x 109,x 110,x 111,x 112,x 113,x 114,x 115,x 116,x 117,x 118,x 119,x 120,x 121,x 122,x 123,x 124,x 125,x 126,x 127,x 128,x 129,x 130,x 131,x 132,x 133,x 134,x 135,x 136,x 137,x 138,x 139,x 140,x 141,x 142,x 143,x 144,x 145,x 146,x 147,x 148,x 149,x 150,x 151,x 152,x 153,x 154,x 155,x 156,x 157,x 158,x 159,x 160,x 161,x 162,x 163,x 164,x 165,x 166,x 167,x 168,x 169,x 170,x 171,x 172,x 173,x 174,x 175,x 176,x 177,x 178,x 179,x 180,x 181,x 182,x 183,x 184,x 185,x 186,x 187,x 188,x 189,x 190,x 191,x 192,x 193,x 194,x 195,x 196,x 197,x 198,x 199,x 200,x 201,x 202,x 203],defers:=[]}
set_option maxHeartbeats 4000000 in
set_option maxRecDepth 1000000 in
theorem treed_last0 {y:Nat→Value} {dkb fm:Int} {st tm hel:ByteArray} {w:World} {p:String} {Q:Exit→Act→World→Prop}
  (hs:Calls Qry.prog 13 #[.string st] w fun e w'=>e= .returned (.int .u64 dkb)∧w'=w) (ht:Calls Qry.prog 13 #[.string tm] w fun e w'=>e= .returned (.int .u64 fm)∧w'=w)
  (h: ∀ts:Array Value,ts.getD 6 undef= .bool true→Q .normal {tmps:=ts,defers:=[]} w):
  (Code.region 43 (lastL p).toArray false).wp Qry.prog Q (lastA y dkb fm st tm hel 0) w:=by
 refine wp_region_lit ?_
 generalize hops:(lastL p).toArray=ops
 unfold lastL
 subst hops
 refine wpl_value (lastA y dkb fm st tm hel 1) (.int .i64 0) (by kernel_rfl) (by kernel_rfl) (by kernel_rfl) ?_
 refine wpl_value (lastA y dkb fm st tm hel 2) (.bool true) (by kernel_rfl) (by kernel_rfl) (by kernel_rfl) ?_
 refine wpl_value (lastA y dkb fm st tm hel 3) (.bool true) (by kernel_rfl) (by kernel_rfl) (by kernel_rfl) ?_
 refine wpl_value (lastA y dkb fm st tm hel 4) (.int .i64 7) (by kernel_rfl) (by kernel_rfl) (by kernel_rfl) ?_
 refine wpl_value (lastA y dkb fm st tm hel 5) (.bool true) (by kernel_rfl) (by kernel_rfl) (by kernel_rfl) ?_
 refine wpl_value (lastA y dkb fm st tm hel 6) (.bool true) (by kernel_rfl) (by kernel_rfl) (by kernel_rfl) ?_
 refine wpl_value (lastA y dkb fm st tm hel 7) (.bool true) (by kernel_rfl) (by kernel_rfl) (by kernel_rfl) ?_
 refine wpl_value (lastA y dkb fm st tm hel 8) (.int .i64 7) (by kernel_rfl) (by kernel_rfl) (by kernel_rfl) ?_
 refine wpl_value (lastA y dkb fm st tm hel 9) (.bool true) (by kernel_rfl) (by kernel_rfl) (by kernel_rfl) ?_
 refine wpl_value (lastA y dkb fm st tm hel 10) (.bool true) (by kernel_rfl) (by kernel_rfl) (by kernel_rfl) ?_
 refine wpl_value (lastA y dkb fm st tm hel 11) (.bool true) (by kernel_rfl) (by kernel_rfl) (by kernel_rfl) ?_
 refine wpl_value (lastA y dkb fm st tm hel 12) (.int .i64 0) (by kernel_rfl) (by kernel_rfl) (by kernel_rfl) ?_
 refine wpl_value (lastA y dkb fm st tm hel 13) (.bool true) (by kernel_rfl) (by kernel_rfl) (by kernel_rfl) ?_
 refine wpl_value (lastA y dkb fm st tm hel 14) (.bool true) (by kernel_rfl) (by kernel_rfl) (by kernel_rfl) ?_
 refine wpl_value (lastA y dkb fm st tm hel 15) (.bool true) (by kernel_rfl) (by kernel_rfl) (by kernel_rfl) ?_
 refine wpl_value (lastA y dkb fm st tm hel 16) (.int .i64 0) (by kernel_rfl) (by kernel_rfl) (by kernel_rfl) ?_
 refine wpl_value (lastA y dkb fm st tm hel 17) (.bool true) (by kernel_rfl) (by kernel_rfl) (by kernel_rfl) ?_
 refine wpl_value (lastA y dkb fm st tm hel 18) (.bool true) (by kernel_rfl) (by kernel_rfl) (by kernel_rfl) ?_
 refine wpl_value (lastA y dkb fm st tm hel 19) (.bool true) (by kernel_rfl) (by kernel_rfl) (by kernel_rfl) ?_
 refine wpl_value (lastA y dkb fm st tm hel 20) (.int .i64 0) (by kernel_rfl) (by kernel_rfl) (by kernel_rfl) ?_
 refine wpl_value (lastA y dkb fm st tm hel 21) (.bool true) (by kernel_rfl) (by kernel_rfl) (by kernel_rfl) ?_
 refine wpl_value (lastA y dkb fm st tm hel 22) (.bool true) (by kernel_rfl) (by kernel_rfl) (by kernel_rfl) ?_
 refine wpl_value (lastA y dkb fm st tm hel 23) (.bool true) (by kernel_rfl) (by kernel_rfl) (by kernel_rfl) ?_
 refine wpl_value (lastA y dkb fm st tm hel 24) (.int .u64 dkb) (by kernel_rfl) (by kernel_rfl) (by kernel_rfl) ?_
 refine wpl_value (lastA y dkb fm st tm hel 25) (.string st) (by kernel_rfl) (by kernel_rfl) (by kernel_rfl) ?_
 refine wpl_call (lastA y dkb fm st tm hel 26) 13 #[.string st] (.int .u64 dkb) hs (by kernel_rfl) (by kernel_rfl) (by kernel_rfl) (Qry.call13 _ _) ?_
 refine wpl_eq (lastA y dkb fm st tm hel 27) (.bool (dkb==dkb)) (.bool true) (by rw [beq_self_eq_true]) (by kernel_rfl) (by kernel_rfl) (by kernel_rfl) ?_
 refine wpl_value (lastA y dkb fm st tm hel 28) (.bool true) (by kernel_rfl) (by kernel_rfl) (by kernel_rfl) ?_
 refine wpl_value (lastA y dkb fm st tm hel 29) (.bool true) (by kernel_rfl) (by kernel_rfl) (by kernel_rfl) ?_
 refine wpl_value (lastA y dkb fm st tm hel 30) (.int .u64 fm) (by kernel_rfl) (by kernel_rfl) (by kernel_rfl) ?_
 refine wpl_value (lastA y dkb fm st tm hel 31) (.string tm) (by kernel_rfl) (by kernel_rfl) (by kernel_rfl) ?_
 refine wpl_call (lastA y dkb fm st tm hel 32) 13 #[.string tm] (.int .u64 fm) ht (by kernel_rfl) (by kernel_rfl) (by kernel_rfl) (Qry.call13 _ _) ?_
 refine wpl_eq (lastA y dkb fm st tm hel 33) (.bool (fm==fm)) (.bool true) (by rw [beq_self_eq_true]) (by kernel_rfl) (by kernel_rfl) (by kernel_rfl) ?_
 refine wpl_value (lastA y dkb fm st tm hel 34) (.bool true) (by kernel_rfl) (by kernel_rfl) (by kernel_rfl) ?_
 refine wpl_value (lastA y dkb fm st tm hel 35) (.bool true) (by kernel_rfl) (by kernel_rfl) (by kernel_rfl) ?_
 refine wpl_value (lastA y dkb fm st tm hel 36) (.string hel) (by kernel_rfl) (by kernel_rfl) (by kernel_rfl) ?_
 refine wpl_value (lastA y dkb fm st tm hel 37) (.string hel) (by kernel_rfl) (by kernel_rfl) (by kernel_rfl) ?_
 refine wpl_eq (lastA y dkb fm st tm hel 38) (.bool (hel.toList==hel.toList)) (.bool true) (by rw [beq_self_eq_true]) (by kernel_rfl) (by kernel_rfl) (by kernel_rfl) ?_
 refine wpl_value (lastA y dkb fm st tm hel 39) (.bool true) (by kernel_rfl) (by kernel_rfl) (by kernel_rfl) ?_
 refine wpl_value (lastA y dkb fm st tm hel 40) (.bool true) (by kernel_rfl) (by kernel_rfl) (by kernel_rfl) ?_
 exact h _ (by kernel_rfl)
set_option maxHeartbeats 4000000 in
set_option maxRecDepth 1000000 in
theorem treed_last {x0 x1 x2 x3 x4 x5 x6 x7 x8 x9 x10 x11 x12 x13 x14 x15 x17 x18 x19 x20 x23 x25 x27 x32 x35 x37 x38 x39 x40 x41 x42 x43 x44 x45 x46 x47 x48 x49 x50 x51 x52 x53 x54 x55 x56 x57 x58 x59 x60 x61 x62 x63 x64 x65 x66 x67 x68 x69 x70 x71 x72 x73 x74 x75 x76 x77 x78 x79 x80 x81 x82 x83 x84 x85 x86 x87 x88 x89 x90 x91 x92 x93 x94 x95 x96 x97 x98 x99 x100 x101 x102 x103 x104 x105 x106 x107 x108 x109 x110 x111 x112 x113 x114 x115 x116 x117 x118 x119 x120 x121 x122 x123 x124 x125 x126 x127 x128 x129 x130 x131 x132 x133 x134 x135 x136 x137 x138 x139 x140 x141 x142 x143 x144 x145 x146 x147 x148 x149 x150 x151 x152 x153 x154 x155 x156 x157 x158 x159 x160 x161 x162 x163 x164 x165 x166 x167 x168 x169 x170 x171 x172 x173 x174 x175 x176 x177 x178 x179 x180 x181 x182 x183 x184 x185 x186 x187 x188 x189 x190 x191 x192 x193 x194 x195 x196 x197 x198 x199 x200 x201 x202 x203:Value} {dkb fm:Int} {st tm hel:ByteArray} {w:World} {p:String} {Q:Exit→Act→World→Prop}
  (hs:Calls Qry.prog 13 #[.string st] w fun e w'=>e= .returned (.int .u64 dkb)∧w'=w) (ht:Calls Qry.prog 13 #[.string tm] w fun e w'=>e= .returned (.int .u64 fm)∧w'=w)
  (h: ∀ts:Array Value,ts.getD 6 undef= .bool true→Q .normal {tmps:=ts,defers:=[]} w):
  (Code.region 43 (lastL p).toArray false).wp Qry.prog Q {tmps:=#[x0,x1,x2,x3,x4,x5,x6,x7,x8,x9,x10,x11,x12,x13,x14,x15,.string st,x17,x18,x19,x20,.int .u64 dkb,.int .i64 0,x23,.int .i64 7,x25,.int .i64 7,x27,.string tm,.int .i64 0,.int .u64 fm,.int .i64 0,x32,.int .i64 0,.string hel,x35,.string hel,x37,x38,x39,x40,x41,x42,x43,x44,x45,x46,x47,x48,x49,x50,x51,x52,x53,x54,x55,x56,x57,x58,x59,x60,x61,x62,x63,x64,x65,x66,x67,x68,x69,x70,x71,x72,x73,x74,x75,x76,x77,x78,x79,x80,x81,x82,x83,x84,x85,x86,x87,x88,x89,x90,x91,x92,x93,x94,x95,x96,x97,x98,x99,x100,x101,x102,x103,x104,x105,x106,x107,x108,x109,x110,x111,x112,x113,x114,x115,x116,x117,x118,x119,x120,x121,x122,x123,x124,x125,x126,x127,x128,x129,x130,x131,x132,x133,x134,x135,x136,x137,x138,x139,x140,x141,x142,x143,x144,x145,x146,x147,x148,x149,x150,x151,x152,x153,x154,x155,x156,x157,x158,x159,x160,x161,x162,x163,x164,x165,x166,x167,x168,x169,x170,x171,x172,x173,x174,x175,x176,x177,x178,x179,x180,x181,x182,x183,x184,x185,x186,x187,x188,x189,x190,x191,x192,x193,x194,x195,x196,x197,x198,x199,x200,x201,x202,x203],defers:=[]} w:=
 Eq.mp (congrArg (fun a=>(Code.region 43 (lastL p).toArray false).wp Qry.prog Q a w) (by kernel_rfl:lastA (fun i=>[x0,x1,x2,x3,x4,x5,x6,x7,x8,x9,x10,x11,x12,x13,x14,x15,undef,x17,x18,x19,x20,undef,undef,x23,undef,x25,undef,x27,undef,undef,undef,undef,x32,undef,undef,x35,undef,x37,x38,x39,x40,x41,x42,x43,x44,x45,x46,x47,x48,x49,x50,x51,x52,x53,x54,x55,x56,x57,x58,x59,x60,x61,x62,x63,x64,x65,x66,x67,x68,x69,x70,x71,x72,x73,x74,x75,x76,x77,x78,x79,x80,x81,x82,x83,x84,x85,x86,x87,x88,x89,x90,x91,x92,x93,x94,x95,x96,x97,x98,x99,x100,x101,x102,x103,x104,x105,x106,x107,x108,x109,x110,x111,x112,x113,x114,x115,x116,x117,x118,x119,x120,x121,x122,x123,x124,x125,x126,x127,x128,x129,x130,x131,x132,x133,x134,x135,x136,x137,x138,x139,x140,x141,x142,x143,x144,x145,x146,x147,x148,x149,x150,x151,x152,x153,x154,x155,x156,x157,x158,x159,x160,x161,x162,x163,x164,x165,x166,x167,x168,x169,x170,x171,x172,x173,x174,x175,x176,x177,x178,x179,x180,x181,x182,x183,x184,x185,x186,x187,x188,x189,x190,x191,x192,x193,x194,x195,x196,x197,x198,x199,x200,x201,x202,x203].getD i undef) dkb fm st tm hel 0=_)) (treed_last0 hs ht h)
end Go.Proofs.YtldmcdeibiclkaaGreatDoorQ
end
