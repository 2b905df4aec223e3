/-
  Toward: treed_holds, each node's digest is that of its children's, for every argument of Treed. The plain words of the proofs over package attunekeep: contexts, versions, what a context has seen, joining two contexts. No walk stands here.
  Contracts: IsKey, IsValue, cmp.Compare, cmp.Or and the comparison of versions.
  Contracts: the digest of a text, how many nodes a level has, and the segment of a key.
  Contracts of the small functions of package state: what each call answers and what becomes of the world.
  Contract: State.unseenBy: a new row with the versions that a context has not seen.
-/
import Derived.Calls
import Derived.Test.YtldmcdeibiclkaaGreatDoorC34
import Derived.WalkKit
import Derived.WalkSpells
import Derived.WalkLawsBesides
import Derived.Deep.QuietTactic
import Derived.BigQuiet
import Derived.Laws.Bits64
import Derived.Deep.AppendLies
import Derived.WalkSmall
set_option linter.unusedVariables false
set_option linter.unusedSimpArgs false
set_option maxRecDepth 4000
section
namespace Go.Proofs.YtldmcdeibiclkaaGreatDoorQ
abbrev Ctx:=Nat→Int
abbrev Ver:=Nat×Int×ByteArray
abbrev Ver.rep (v:Ver):Nat:=v.1
abbrev Ver.n (v:Ver):Int:=v.2.1
abbrev Ver.val (v:Ver):ByteArray:=v.2.2
abbrev ctxV (c:Ctx):Value:= .agg #[.int .i64 (c 0),.int .i64 (c 1),.int .i64 (c 2),.int .i64 (c 3)]
def encV (v:Ver):List Value:=[.int .i64 v.rep,.int .i64 v.n,.string v.val]
def seenB (c:Ctx) (v:Ver):Bool:=decide (v.n≤c v.rep)
def bothC (a b:Ctx):Ctx:=fun i=>max (a i) (b i)
def okN (n:Int):Bool:=decide (0≤n∧n≤1000000)
def soundB (c:Ctx):Bool:=okN (c 0) && (okN (c 1) && (okN (c 2) && okN (c 3)))
def pickS (c n:Int):Int:=(if c< 0 then -(c+1) else c) % n
theorem pickS_range (c n:Int) (hn:1≤n):0≤pickS c n∧pickS c n< n:=
 ⟨Int.emod_nonneg _ (by omega),Int.emod_lt_of_pos _ (by omega)⟩
theorem lt4 {r:Nat} (h:r< 4):r=0∨r=1∨r=2∨r=3:=by omega
theorem ret_int {k:IntKind} {a b:Int} (h:a=b):Ending.returned (.int k a)= .returned (.int k b):=by rw [h]
theorem ret_bool {a b:Bool} (h:a=b):Ending.returned (.bool a)= .returned (.bool b):=by rw [h]
end Go.Proofs.YtldmcdeibiclkaaGreatDoorQ
end
section
namespace Go.Proofs.YtldmcdeibiclkaaGreatDoorQ
open Go.RowKit
def keyByte (b:UInt8):Bool:=decide (97≤b.toNat∧b.toNat≤122)
def keyB (s:ByteArray):Bool:=decide (1≤s.size∧s.size≤8) && s.data.toList.all keyByte
set_option maxHeartbeats 400000 in
theorem isValue_any (s:ByteArray) (w:World) (hs:s.size≤maxLen):
  Calls Qry.prog 37 #[.string s] w fun e w'=>e= .returned (.bool (decide (s.size≤12)))∧w'=w:=by
 unfold maxLen at hs
 go_enter Qry.func37,Qry.ntmps37
 go_wp2
 go_ret
 exact ⟨ret_bool (by simp;omega),rfl⟩
set_option maxHeartbeats 400000 in
theorem compare_any (x y:Int) (w:World):
  Calls Qry.prog 87 #[.int .i64 x,.int .i64 y] w fun e w'=>e= .returned (.int .i64 (if x< y then -1 else if y< x then 1 else 0))∧w'=w:=by
 by_cases h1:x< y
 ·go_enter Qry.func87,Qry.ntmps87
  go_wp2
  go_ret
  exact ⟨rfl,rfl⟩
 ·by_cases h2:y< x
  ·go_enter Qry.func87,Qry.ntmps87
   go_wp2
   go_ret
   exact ⟨rfl,rfl⟩
  ·go_enter Qry.func87,Qry.ntmps87
   go_wp2
   go_ret
   exact ⟨rfl,rfl⟩
theorem key_all {s:ByteArray} (h1:1≤s.size) (h2:s.size≤8) (h: ∀j (h:j< s.size),keyByte s[j]=true):keyB s=true:=by
 simp only [keyB,Bool.and_eq_true,decide_eq_true_eq,List.all_eq_true]
 refine ⟨⟨h1,h2⟩,fun x hx=>?_⟩
 obtain ⟨j,hj,rfl⟩:=List.mem_iff_getElem.1 hx
 exact h j (by simpa using hj)
theorem key_not {s:ByteArray} {j:Nat} (hj:j< s.size) (h: ¬ (97≤s[j].toNat∧s[j].toNat≤122)):keyB s=false:=by
 simp only [keyB,Bool.and_eq_false_iff]
 right
 rw [List.all_eq_false]
 exact ⟨s[j],by simp [ByteArray.getElem_eq_getElem_data],by simpa [keyByte] using h⟩
theorem key_len {s:ByteArray} (h: ¬ (1≤s.size∧s.size≤8)):keyB s=false:=by
 simp only [keyB,Bool.and_eq_false_iff]
 exact Or.inl (decide_eq_false h)
set_option maxHeartbeats 400000 in
theorem isKey_any (s:ByteArray) (w:World) (hs:s.size≤maxLen):
  Calls Qry.prog 36 #[.string s] w fun e w'=>e= .returned (.bool (keyB s))∧w'=w:=by
 unfold maxLen at hs
 by_cases hl:1≤s.size∧s.size≤8
 ·obtain ⟨hl1,hl2⟩:=hl
  go_enter Qry.func36,Qry.ntmps36
  go_wp2
  go_loop [14] (fun i=>∃k:Nat,k≤s.size∧i= .int .i64 k∧Hid (∀j (h:j< s.size),j< k→keyByte s[j]=true)) (fun i=>s.size - (intOf i).toNat)
  case atStart=>exact ⟨0,by omega,rfl,fun j hj=>by omega⟩
  case round=>
   obtain ⟨k,hk,rfl,hall⟩:=hrel
   by_cases hlt:k< s.size
   ·by_cases hb:97≤s[k].toNat∧s[k].toNat≤122
    ·obtain ⟨hb1,hb2⟩:=hb
     have hall':Hid (∀j (h:j< s.size),j< k+1→keyByte s[j]=true):=fun j h hj=>by
      by_cases e:j=k
      ·subst e;exact decide_eq_true ⟨hb1,hb2⟩
      ·exact hall.out j h (by omega)
     go_wp2
     exact ⟨⟨k+1,by omega,by go_num,hall'⟩,by simp [intOf];omega⟩
    ·have hs':Hid (keyB s=false):=key_not hlt hb
     have hb':s[k].toNat< 97∨122< s[k].toNat:=by omega
     clear hb hall
     rcases hb' with hb'|hb'
     ·go_wp2
      go_ret
      exact ⟨ret_bool hs'.out.symm,rfl⟩
     ·go_wp2
      go_ret
      exact ⟨ret_bool hs'.out.symm,rfl⟩
   ·have hs':Hid (keyB s=true):=key_all hl1 hl2 fun j h=>hall.out j h (by omega)
    clear hall
    go_wp2
    go_ret
    exact ⟨ret_bool hs'.out.symm,rfl⟩
 ·have hs':Hid (keyB s=false):=key_len hl
  have hl':s.size< 1∨8< s.size:=by omega
  clear hl
  rcases hl' with hl'|hl'
  ·go_enter Qry.func36,Qry.ntmps36
   go_wp2
   go_ret
   exact ⟨ret_bool hs'.out.symm,rfl⟩
  ·go_enter Qry.func36,Qry.ntmps36
   go_wp2
   go_ret
   exact ⟨ret_bool hs'.out.symm,rfl⟩
end Go.Proofs.YtldmcdeibiclkaaGreatDoorQ
end
section
namespace Go.Proofs.YtldmcdeibiclkaaGreatDoorQ
open Go.RowKit
def byteI (s:ByteArray) (k:Nat):Int:=if h:k< s.size then (s[k].toNat:Int) else 0
def fnvTo (s:ByteArray):Nat→Int
 |0=>14695981039346656037
 |k+1=>IntKind.u64.wrap (Go.bits .xor .u64 (fnvTo s k) (byteI s k)*1099511628211)
def fnv (s:ByteArray):Int:=fnvTo s s.size
def segN (s:ByteArray):Nat:=(fnv s % 64).toNat
theorem fnvTo_range (s:ByteArray): ∀k,0≤fnvTo s k∧fnvTo s k< 18446744073709551616
 |0=>by simp [fnvTo]
 |k+1=>by
  simp only [fnvTo,IntKind.wrap_u64]
  exact ⟨Int.emod_nonneg _ (by decide),Int.emod_lt_of_pos _ (by decide)⟩
theorem segN_lt (s:ByteArray):segN s< 64:=by
 unfold segN
 have h1:=Int.emod_nonneg (fnv s) (show (64:Int)≠0 by decide)
 have h2:=Int.emod_lt_of_pos (fnv s) (show (0:Int)< 64 by decide)
 omega
theorem segN_int (s:ByteArray):((segN s:Nat):Int)=fnv s % 64:=by
 unfold segN
 have h1:=Int.emod_nonneg (fnv s) (show (64:Int)≠0 by decide)
 omega
theorem wrap_byte (b:UInt8):IntKind.u64.wrap (b.toNat:Int)=(b.toNat:Int):=by
 rw [IntKind.wrap_u64]
 have:=b.toNat_lt
 omega
theorem byteI_lt (s:ByteArray) (k:Nat) (h:k< s.size):byteI s k=(s[k].toNat:Int):=by simp [byteI,h]
set_option maxHeartbeats 400000 in
theorem sum_any (s:ByteArray) (w:World) (hs:s.size≤maxLen):
  Calls Qry.prog 82 #[.string s] w fun e w'=>e= .returned (.int .u64 (fnv s))∧w'=w:=by
 unfold maxLen at hs
 go_enter Qry.func82,Qry.ntmps82
 go_wp2
 go_loop [3,7] (fun d i=>∃k:Nat,k≤s.size∧i= .int .i64 k∧d= .int .u64 (fnvTo s k)) (fun _ i=>s.size - (intOf i).toNat)
 case atStart=>exact ⟨0,by omega,rfl,rfl⟩
 case round=>
  obtain ⟨k,hk,rfl,rfl⟩:=hrel
  by_cases hlt:k< s.size
  ·have g1:(k:Int)< (s.size:Int):=by omega
   have g0:(0:Int)≤(k:Int):=by omega
   have hst:Hid (fnvTo s (k+1)=IntKind.u64.wrap (Go.bits .xor .u64 (fnvTo s k) (s[k].toNat:Int)*1099511628211)):=by
    show fnvTo s (k+1)=_
    rw [fnvTo,byteI_lt s k hlt]
   go_wp2
   refine ⟨⟨k+1,by omega,by go_num,?_⟩,by simp [intOf];omega⟩
   rw [hst.out,wrap_byte]
  ·have hke:k=s.size:=by omega
   go_wp2
   go_ret
   exact ⟨rfl,rfl⟩
set_option maxHeartbeats 400000 in
theorem width_3 (w:World):Calls Qry.prog 46 #[.int .i64 3] w fun e w'=>e= .returned (.int .i64 64)∧w'=w:=by
 go_enter Qry.func46,Qry.ntmps46
 go_wp2
 go_loop [3,5] (fun c i=>(i= .int .i64 0∧c= .int .i64 1)∨(i= .int .i64 1∧c= .int .i64 4)∨(i= .int .i64 2∧c= .int .i64 16)∨(i= .int .i64 3∧c= .int .i64 64)) (fun _ i=>3 - (intOf i).toNat)
 case atStart=>exact Or.inl ⟨rfl,rfl⟩
 case round=>
  rcases hrel with ⟨rfl,rfl⟩|⟨rfl,rfl⟩|⟨rfl,rfl⟩|⟨rfl,rfl⟩
  ·go_wp2
   exact ⟨Or.inr (Or.inl ⟨rfl,rfl⟩),by decide⟩
  ·go_wp2
   exact ⟨Or.inr (Or.inr (Or.inl ⟨rfl,rfl⟩)),by decide⟩
  ·go_wp2
   exact ⟨Or.inr (Or.inr (Or.inr ⟨rfl,rfl⟩)),by decide⟩
  ·go_wp2
   go_ret
   exact ⟨rfl,rfl⟩
set_option maxHeartbeats 400000 in
theorem segmentOf_any (s:ByteArray) (w:World) (hs:s.size≤maxLen):
  Calls Qry.prog 62 #[.string s] w fun e w'=>e= .returned (.int .i64 (segN s))∧w'=w:=by
 have HS:Hid _:=fun W=>sum_any s W hs
 have h0:=(fnvTo_range s s.size).1
 have h1:=(fnvTo_range s s.size).2
 have hx:Hid (fnv s % 64=(segN s:Int)):=(segN_int s).symm
 have hl:=segN_lt s
 change 0≤fnv s at h0
 change fnv s< _ at h1
 generalize fnv s=F at*
 go_enter Qry.func62,Qry.ntmps62
 go_wp2_with (first
  |(go_at_call 82;refine Calls.mono (HS.out _) ?_;rintro e w1 ⟨rfl,rfl⟩)
  |(go_at_call 46;refine (width_3 _).mono ?_;rintro e w1 ⟨rfl,rfl⟩))
 go_ret
 refine ⟨ret_int ?_,rfl⟩
 exact hx.out
end Go.Proofs.YtldmcdeibiclkaaGreatDoorQ
end
section
namespace Go.Proofs.YtldmcdeibiclkaaGreatDoorQ
open Go.RowKit
theorem index4 (W:World) (a b c d:Value):
  (Instr.index 102 (.agg #[a,b,c,d]) (.int .i64 0)).run Qry.prog W= .ok a W∧
  (Instr.index 102 (.agg #[a,b,c,d]) (.int .i64 1)).run Qry.prog W= .ok b W∧
  (Instr.index 102 (.agg #[a,b,c,d]) (.int .i64 2)).run Qry.prog W= .ok c W∧
  (Instr.index 102 (.agg #[a,b,c,d]) (.int .i64 3)).run Qry.prog W= .ok d W:=
 ⟨by kernel_rfl,by kernel_rfl,by kernel_rfl,by kernel_rfl⟩
theorem sound_of {c:Ctx} (h: ∀j,j< 4→0≤c j∧c j≤1000000):soundB c=true:=by
 simp only [soundB,okN,Bool.and_eq_true,decide_eq_true_eq]
 exact ⟨h 0 (by omega),h 1 (by omega),h 2 (by omega),h 3 (by omega)⟩
theorem sound_not {c:Ctx} {k:Nat} (hk:k< 4) (h: ¬ (0≤c k∧c k≤1000000)):soundB c=false:=by
 cases hs:soundB c with
 |false=>rfl
 |true=>
  simp only [soundB,okN,Bool.and_eq_true,decide_eq_true_eq] at hs
  rcases lt4 hk with rfl|rfl|rfl|rfl
  ·exact absurd hs.1 h
  ·exact absurd hs.2.1 h
  ·exact absurd hs.2.2.1 h
  ·exact absurd hs.2.2.2 h
set_option maxRecDepth 100000 in
set_option maxHeartbeats 1000000 in
theorem sound_any (c:Ctx) (w:World):
  Calls Qry.prog 38 #[ctxV c] w fun e w'=>e= .returned (.bool (soundB c))∧Below w.heap.size w w':=by
 go_enter Qry.func38,Qry.ntmps38
 go_wp2
 go_loop [6] (fun i=>∃k:Nat,k≤4∧i= .int .i64 k∧∀j,j< k→0≤c j∧c j≤1000000) (fun i=>4 - (intOf i).toNat)
 case atStart=>exact ⟨0,by omega,rfl,fun j hj=>by omega⟩
 case round=>
  obtain ⟨k,hk,rfl,hall⟩:=hrel
  have Hall:=(show Hid _ from hall)
  clear hall
  by_cases hlt:k< 4
  ·by_cases hb:0≤c k∧c k≤1000000
   ·obtain ⟨hb1,hb2⟩:=hb
    have hall':Hid (∀j,j< k+1→0≤c j∧c j≤1000000):=fun j hj=>by
     by_cases e:j=k
     ·subst e;exact ⟨hb1,hb2⟩
     ·exact Hall.out j (by omega)
    clear Hall
    rcases lt4 hlt with rfl|rfl|rfl|rfl
    all_goals
     have hix:=index4
     go_wp2
     exact ⟨⟨_,by omega,by go_num,hall'.out⟩,by simp [intOf]⟩
   ·have hs:Hid (soundB c=false):=sound_not hlt hb
    clear Hall
    have hb':c k< 0∨1000000< c k:=by omega
    clear hb
    rcases hb' with hb'|hb'
    all_goals
     try (have hb0:0≤c k:=by omega)
     rcases lt4 hlt with rfl|rfl|rfl|rfl
     all_goals
      have hix:=index4
      go_wp2
      go_ret
      exact ⟨ret_bool hs.out.symm,(Below.refl _ _).alloc (Nat.le_refl _) _⟩
  ·obtain rfl:k=4:=by omega
   have hs:Hid (soundB c=true):=sound_of Hall.out
   clear Hall
   go_wp2
   go_ret
   exact ⟨ret_bool hs.out.symm,(Below.refl _ _).alloc (Nat.le_refl _) _⟩
theorem below_drewN {B:Nat} {a w:World} (h:Below B a w) (n:Nat):Below B a (w.drewN n):=⟨h.os,h.tape,h.output,h.size,h.block⟩
set_option maxHeartbeats 400000 in
theorem hasSeen_any (c:Ctx) (r:Nat) (n:Int) (w:World) (hr:r< 4):
  Calls Qry.prog 83 #[ctxV c,.agg #[.int .i64 r,.int .i64 n]] w fun e w'=>e= .returned (.bool (decide (n≤c r)))∧Below w.heap.size w w':=by
 rcases lt4 hr with rfl|rfl|rfl|rfl
 all_goals
  go_enter Qry.func83,Qry.ntmps83
  go_wp2
  go_quiet (fail)
  go_wp2
  go_ret
  exact ⟨rfl,below_drewN (((Below.refl _ _).alloc (Nat.le_refl _) _).alloc (by simp) _) _⟩
theorem grow_max {d x y:Int} (h:d=x):(if d< y then y else d)=max x y:=by
 subst h;rw [Int.max_def];split<;> split<;> omega
set_option maxRecDepth 100000 in
set_option maxHeartbeats 1000000 in
theorem greater_any (a b:Ctx) (w:World):
  Calls Qry.prog 64 #[ctxV a,ctxV b] w fun e w'=>e= .returned (ctxV (bothC a b))∧Below w.heap.size w w':=by
 go_enter Qry.func64,Qry.ntmps64
 go_wp2
 go_loopw [8] (fun i w'=>∃k:Nat,k≤4∧i= .int .i64 k∧∃d0 d1 d2 d3:Int,w'=((w.alloc (.cells #[.int .i64 d0,.int .i64 d1,.int .i64 d2,.int .i64 d3] 102)).alloc (.cells #[.int .i64 (b 0),.int .i64 (b 1),.int .i64 (b 2),.int .i64 (b 3)] 102)).alloc (.cells #[.int .i64 0,.int .i64 0,.int .i64 0,.int .i64 0] 102)∧Hid (d0=if 0< k then bothC a b 0 else a 0)∧Hid (d1=if 1< k then bothC a b 1 else a 1)∧Hid (d2=if 2< k then bothC a b 2 else a 2)∧Hid (d3=if 3< k then bothC a b 3 else a 3)) (fun i _=>4 - (intOf i).toNat)
 case atStart=>exact ⟨0,by omega,rfl,_,_,_,_,rfl,rfl,rfl,rfl,rfl⟩
 case round=>
  obtain ⟨k,hk,rfl,d0,d1,d2,d3,rfl,h0,h1,h2,h3⟩:=hrel
  by_cases hlt:k< 4
  ·have hix:=index4
   rcases lt4 hlt with rfl|rfl|rfl|rfl
   ·go_wp2
    exact ⟨⟨1,by omega,rfl,_,_,_,_,rfl,grow_max h0.out,h1,h2,h3⟩,by simp [intOf]⟩
   ·go_wp2
    exact ⟨⟨2,by omega,rfl,_,_,_,_,rfl,h0,grow_max h1.out,h2,h3⟩,by simp [intOf]⟩
   ·go_wp2
    exact ⟨⟨3,by omega,rfl,_,_,_,_,rfl,h0,h1,grow_max h2.out,h3⟩,by simp [intOf]⟩
   ·go_wp2
    exact ⟨⟨4,by omega,rfl,_,_,_,_,rfl,h0,h1,h2,grow_max h3.out⟩,by simp [intOf]⟩
  ·obtain rfl:k=4:=by omega
   go_wp2
   refine bodyPost_ret (v:=ctxV (bothC a b)) ?_ rfl ⟨rfl,?_⟩
   ·simp [results,Qry.results64,go_sem]
    exact ⟨h0.out,h1.out,h2.out,h3.out⟩
   ·exact (((Below.refl _ _).alloc (Nat.le_refl _) _).alloc (by simp) _).alloc (by simp;omega) _
end Go.Proofs.YtldmcdeibiclkaaGreatDoorQ
end
section
namespace Go.Proofs.YtldmcdeibiclkaaGreatDoorQ
open Go.RowKit
def flatV (l:List Ver):List Value:=l.flatMap encV
theorem flatV_length (l:List Ver):(flatV l).length=l.length*3:=by
 induction l with
 |nil=>rfl
 |cons v l ih=>simp only [flatV,List.flatMap_cons,List.length_append,List.length_cons] at*;rw [ih];simp [encV];omega
theorem flatV_append (a b:List Ver):flatV (a++b)=flatV a++flatV b:=by simp [flatV]
def unseenL (l:List Ver) (c:Ctx):List Ver:=l.filter fun v=>!seenB c v
def VSl (w:World) (sv:Value) (l:List Ver):Prop:=w.ownsRow 0 144 3 sv l.length (flatV l)
theorem flatV_get (l:List Ver) (k:Nat) (h:k< l.length):
  (flatV l)[k*3]? =some (.int .i64 l[k].rep)∧(flatV l)[k*3+1]? =some (.int .i64 l[k].n)∧(flatV l)[k*3+2]? =some (.string l[k].val):=by
 induction l generalizing k with
 |nil=>simp at h
 |cons v l ih=>
  have e:flatV (v::l)=encV v++flatV l:=by simp [flatV]
  cases k with
  |zero=>simp [e,encV]
  |succ k=>
   have h':k< l.length:=by simpa using h
   have:=ih k h'
   rw [e]
   simp only [List.getElem_cons_succ]
   have e0:(k+1)*3=k*3+3:=by omega
   rw [e0]
   refine ⟨?_,?_,?_⟩
   ·rw [List.getElem?_append_right (by simp [encV])];simpa [encV] using this.1
   ·rw [List.getElem?_append_right (by simp [encV])];simp only [encV,List.length_cons,List.length_nil];rw [show k*3+3+1 - (0+1+1+1)=k*3+1 from by omega];exact this.2.1
   ·rw [List.getElem?_append_right (by simp [encV])];simp only [encV,List.length_cons,List.length_nil];rw [show k*3+3+2 - (0+1+1+1)=k*3+2 from by omega];exact this.2.2
theorem VSl.cells {w:World} {sv:Value} {l:List Ver} (h:VSl w sv l) {k:Nat} (hk:k< l.length):
  ∃g cap,sv= .slice (some ⟨g,0,none⟩) l.length cap∧g< w.heap.size∧l.length≤cap∧cap≤maxLen∧
   w.cell? ⟨g,k*3,none⟩=some (.int .i64 l[k].rep)∧w.cell? ⟨g,k*3+1,none⟩=some (.int .i64 l[k].n)∧w.cell? ⟨g,k*3+2,none⟩=some (.string l[k].val):=by
 obtain ⟨h1,h2⟩:=h
 rcases h2 with ⟨_,h2⟩|⟨g,cap,cur,hv,_,hh,hn,hc,hs,ht⟩
 ·omega
 ·refine ⟨g,cap,hv,(Array.getElem?_eq_some_iff.1 hh).1,hn,hc,?_⟩
  have hf:=flatV_get l k hk
  have key: ∀j v,j< l.length*3→(flatV l)[j]? =some v→w.cell? ⟨g,j,none⟩=some v:=by
   intro j v hj hv
   simp only [World.cell?,hh]
   rw [← ht,List.getElem?_take,if_pos hj] at hv
   simpa using hv
  exact ⟨key _ _ (by omega) hf.1,key _ _ (by omega) hf.2.1,key _ _ (by omega) hf.2.2⟩
theorem cell_new (w:World) (cs:Array Value) (t:TypeId) (o:Nat):(w.alloc (.cells cs t)).cell? ⟨w.heap.size,o,none⟩=cs[o]? :=by
 simp only [World.cell?,heap_alloc_new]
 rfl
theorem ownsRow_keep {w w':World} {base:Nat} {e:TypeId} {size:Nat} {v:Value} {n:Nat} {xs:List Value} (h:w.ownsRow base e size v n xs) (hk: ∀g,g< w.heap.size→v.ownBlock=some g→w'.heap[g]? =w.heap[g]?):w'.ownsRow base e size v n xs:=by
 refine ⟨h.1,?_⟩
 rcases h.2 with h2|⟨g,cap,cur,hv,hg,hh,r⟩
 ·exact Or.inl h2
 ·exact Or.inr ⟨g,cap,cur,hv,hg,by rw [hk g (Array.getElem?_eq_some_iff.1 hh).1 (by rw [hv];rfl)];exact hh,r⟩
theorem ownsRow_below {w w':World} {B base:Nat} {e:TypeId} {size:Nat} {v:Value} {n:Nat} {xs:List Value} (h:w.ownsRow base e size v n xs) (hb:Below B w w') (hB:w.heap.size≤B):w'.ownsRow base e size v n xs:=
 ownsRow_keep h fun g hg _=>hb.block g (by omega)
theorem ownsRow_base {w:World} {base base':Nat} {e:TypeId} {size:Nat} {v:Value} {n:Nat} {xs:List Value} (h:w.ownsRow base e size v n xs) (hb:base'≤base):w.ownsRow base' e size v n xs:=by
 refine ⟨h.1,?_⟩
 rcases h.2 with h2|⟨g,cap,cur,hv,hg,r⟩
 ·exact Or.inl h2
 ·exact Or.inr ⟨g,cap,cur,hv,by omega,r⟩
theorem Qry.infoVer:(Qry.prog.info? 144).map (fun i=>(i.zero,i.size,i.bytes))=some (some (.agg #[.int .i64 0,.int .i64 0,.string ⟨#[]⟩]),3,32):=by kernel_rfl
theorem unseen_snoc (l:List Ver) (c:Ctx) (k:Nat) (h:k< l.length):unseenL (l.take (k+1)) c=unseenL (l.take k) c++(if seenB c l[k]=true then [] else [l[k]]):=by
 rw [List.take_succ_eq_append_getElem h]
 simp only [unseenL,List.filter_append]
 congr 1
 cases hs:seenB c l[k]<;> simp [hs]
set_option maxRecDepth 100000 in
set_option maxHeartbeats 1000000 in
theorem unseenBy_any (c:Ctx) (sv:Value) (l:List Ver) (seen:Ctx) (w:World) (h:VSl w sv l) (hr: ∀v∈l,v.rep< 4) (hlen:l.length≤100000):
  Calls Qry.prog 63 #[.agg #[.int .i64 (c 0),.int .i64 (c 1),.int .i64 (c 2),.int .i64 (c 3),sv],ctxV seen] w fun e w'=>∃v',e= .returned v'∧w'.ownsRow w.heap.size 144 3 v' (unseenL l seen).length (flatV (unseenL l seen))∧Below w.heap.size w w':=by
 obtain ⟨ad,cap,hsv,hcap⟩: ∃ad cap,sv= .slice ad l.length cap∧(cap:Int)≤9223372036854775807:=by
  rcases h.2 with ⟨h1,h2⟩|⟨g,cap,cur,hv,_,_,_,h3,_⟩
  ·exact ⟨_,_,by rw [h1,h2],by simp⟩
  ·exact ⟨_,_,hv,by unfold maxLen at h3;omega⟩
 subst hsv
 have H:Hid _:=h
 have HR:Hid _:=hr
 clear h hr
 go_enter Qry.func63,Qry.ntmps63
 go_wp2
 go_loopw [5,11] (fun lf i wr=>∃k:Nat,k≤l.length∧i= .int .i64 k∧Hid (wr.ownsRow (w.heap.size+2) 144 3 lf (unseenL (l.take k) seen).length (flatV (unseenL (l.take k) seen)))∧Hid (Below (w.heap.size+2) ((w.alloc (.cells #[.int .i64 (c 0),.int .i64 (c 1),.int .i64 (c 2),.int .i64 (c 3),.slice ad l.length cap] 106)).alloc (.cells #[.int .i64 (seen 0),.int .i64 (seen 1),.int .i64 (seen 2),.int .i64 (seen 3)] 102)) wr)) (fun _ i _=>l.length - (intOf i).toNat)
 case atStart=>exact ⟨0,by omega,rfl,⟨by simp [flatV,unseenL],Or.inl ⟨rfl,by simp [unseenL]⟩⟩,Below.refl _ _⟩
 case round=>
  obtain ⟨k,hk,rfl,hown,hbel⟩:=hrel
  by_cases hlt:k< l.length
  ·obtain ⟨g,cap',hsv',hg,_,_,c0,c1,c2⟩:=VSl.cells H.out hlt
   have hrk:Hid (l[k].rep< 4):=HR.out _ (List.getElem_mem hlt)
   have hsn:=unseen_snoc l seen k hlt
   have HS:Hid _:=hsn
   clear hsn
   generalize hrr:l[k].rep=r at*
   generalize hnn:l[k].n=n at*
   generalize hvv:l[k].val=s at*
   have Hvk:Hid (l[k]=(r,n,s)):=by rw [← hrr,← hnn,← hvv];rfl
   clear hrr hnn hvv
   cases hsv'
   have hb:=hbel.out
   have hsz:w.heap.size+2≤wr.heap.size:=by have:=hb.size;simp at this;omega
   have old: ∀o,wr.cell? ⟨g,o,none⟩=w.cell? ⟨g,o,none⟩:=fun o=>by
    rw [hb.cell (p:=⟨g,o,none⟩) (by simp;omega),World.cell?_alloc_lt _ _ _ (by simp;omega),World.cell?_alloc_lt _ _ _ (by simp;omega)]
   have d0:wr.cell? ⟨g,k*3,none⟩=some (.int .i64 r):=(old _).trans c0
   have d1:wr.cell? ⟨g,k*3+1,none⟩=some (.int .i64 n):=(old _).trans c1
   have d2:wr.cell? ⟨g,k*3+2,none⟩=some (.string s):=(old _).trans c2
   have sbox: ∀o,wr.cell? ⟨w.heap.size+1,o,none⟩=#[Value.int .i64 (seen 0),.int .i64 (seen 1),.int .i64 (seen 2),.int .i64 (seen 3)][o]? :=fun o=>by
    rw [hb.cell (p:=⟨w.heap.size+1,o,none⟩) (by simp)]
    exact World.cell?_alloc_at _ _ _ _ (by simp)
   have s0:=sbox 0
   have s1:=sbox 1
   have s2:=sbox 2
   have s3:=sbox 3
   simp at s0 s1 s2 s3
   have g63:(k:Int)< (l.length:Int):=by omega
   have k0:(0:Int)≤(k:Int):=by omega
   have Hc:Hid _:=And.intro c0 (And.intro c1 c2)
   clear c0 c1 c2 old sbox hb
   have a0: ∀ob,(wr.alloc ob).cell? ⟨w.heap.size+1,0,none⟩=some (.int .i64 (seen 0)):=fun ob=>by rw [World.cell?_alloc_lt _ _ _ (by simp;omega)];exact s0
   have a1: ∀ob,(wr.alloc ob).cell? ⟨w.heap.size+1,1,none⟩=some (.int .i64 (seen 1)):=fun ob=>by rw [World.cell?_alloc_lt _ _ _ (by simp;omega)];exact s1
   have a2: ∀ob,(wr.alloc ob).cell? ⟨w.heap.size+1,2,none⟩=some (.int .i64 (seen 2)):=fun ob=>by rw [World.cell?_alloc_lt _ _ _ (by simp;omega)];exact s2
   have a3: ∀ob,(wr.alloc ob).cell? ⟨w.heap.size+1,3,none⟩=some (.int .i64 (seen 3)):=fun ob=>by rw [World.cell?_alloc_lt _ _ _ (by simp;omega)];exact s3
   clear s0 s1 s2 s3
   have hrk':=hrk.out
   have e1: ∀w1,Below (wr.heap.size+1) (wr.alloc (.cells #[.int .i64 r,.int .i64 n,.string s] 144)) w1→Below (w.heap.size+2) ((w.alloc (.cells #[.int .i64 (c 0),.int .i64 (c 1),.int .i64 (c 2),.int .i64 (c 3),.slice (some ⟨g,0,none⟩) l.length cap] 106)).alloc (.cells #[.int .i64 (seen 0),.int .i64 (seen 1),.int .i64 (seen 2),.int .i64 (seen 3)] 102)) w1:=fun w1 hw=>(hbel.out.alloc (by omega) _).trans (hw.mono (by omega))
   have E1:Hid _:=e1
   clear e1
   have E2:Hid (∀w1,Below (wr.heap.size+1) (wr.alloc (.cells #[.int .i64 r,.int .i64 n,.string s] 144)) w1→w1.ownsRow (w.heap.size+2) 144 3 u5 (unseenL (List.take k l) seen).length (flatV (unseenL (List.take k l) seen))):=fun w1 hw=>ownsRow_below (ownsRow_below hown.out ((Below.refl wr.heap.size wr).alloc (Nat.le_refl _) _) (Nat.le_refl _)) hw (by simp)
   have hseq:seenB seen l[k]=decide (n≤seen r):=by rw [Hvk.out];rfl
   have HQ:Hid _:=hseq
   clear hseq
   by_cases hseen:n≤seen r
   ·have HS':Hid (unseenL (List.take (k+1) l) seen=unseenL (List.take k l) seen):=by
     have:=HS.out;rw [HQ.out,if_pos (by simpa using hseen),List.append_nil] at this;exact this
    clear HS
    have hd:decide (n≤seen r)=true:=by simpa using hseen
    clear hseen
    go_wp2_with (go_at_call 83;refine (hasSeen_any seen r n _ hrk').mono ?_;rintro e w1 ⟨rfl,hb1⟩;simp at hb1)
    exact ⟨⟨k+1,by omega,by go_num,by rw [HS'.out];exact E2.out _ hb1,E1.out _ hb1⟩,by simp [intOf];omega⟩
   ·have HS':Hid (unseenL (List.take (k+1) l) seen=unseenL (List.take k l) seen++ [(r,n,s)]):=by
     have:=HS.out;rw [HQ.out,if_neg (by simpa using hseen),Hvk.out] at this;exact this
    clear HS
    obtain ⟨i0,hi0,hz0,hz1,hz2⟩:=info_parts Qry.infoVer
    have hd:decide (n≤seen r)=false:=by simpa using hseen
    clear hseen
    have hul:Hid ((unseenL (List.take k l) seen).length≤100000):=Nat.le_trans (List.length_filter_le _ _) (by simp;omega)
    go_wp2_with (first
     |(go_at_call 83;refine (hasSeen_any seen r n _ hrk').mono ?_;rintro e w1 ⟨rfl,hb1⟩;simp at hb1;have v0:w1.cell? ⟨wr.heap.size,0,none⟩=some (.int .i64 r):=(hb1.cell (p:=⟨wr.heap.size,0,none⟩) (by simp)).trans (cell_new _ _ _ _);have v1:w1.cell? ⟨wr.heap.size,1,none⟩=some (.int .i64 n):=(hb1.cell (p:=⟨wr.heap.size,1,none⟩) (by simp)).trans (cell_new _ _ _ _);have v2:w1.cell? ⟨wr.heap.size,2,none⟩=some (.string s):=(hb1.cell (p:=⟨wr.heap.size,2,none⟩) (by simp)).trans (cell_new _ _ _ _);have z1:w.heap.size+2≤w1.heap.size:=by (have:=hb1.size;simp at this;omega))
     |(at_builtin;refine wpList_append_lies _ rfl _ _ _ rfl (w.heap.size+2) 144 i0 _ 3 32 Qry.underlying104 hi0 hz0 hz1 hz2 rfl (by omega) u5 _ _ rfl ((E2.out _ hb1).alloc _) ⟨w1.heap.size,0,none⟩ 1 1 [.int .i64 r,.int .i64 n,.string s] rfl rfl (World.news_of_block (cs:=#[.int .i64 r,.int .i64 n,.string s]) (t:=144) (fr:=(0,0)) (heap_alloc_new w1 _)) (by simp [Value.oneCell']) (by omega) (by have:=hul.out;unfold maxLen;omega) (by have:=hul.out;omega) (by simp;omega) (w1.heap.size+1) (by simp) ?_;intro gg capn w2 hown2 hgrow hat hlt2))
    refine ⟨⟨k+1,by omega,by go_num,?_,?_⟩,by simp [intOf];omega⟩
    ·rw [HS'.out,flatV_append,List.length_append];exact hown2
    ·have hB:=(E1.out _ hb1).alloc (by omega) (.cells #[.int .i64 r,.int .i64 n,.string s] 144)
     refine hB.grown hgrow (by simp;omega) fun q hq=>?_
     rcases hown.out.2 with ⟨h1,_⟩|⟨g1,cap1,cur1,hv1,hg1,_⟩
     ·rw [h1] at hq;cases hq
     ·rw [hv1] at hq;simp [Value.ownBlock] at hq;omega
  ·have hkl:k=l.length:=by omega
   have HK:Hid (List.take k l=l):=List.take_of_length_le (by omega)
   have HO:Hid _:=hown.out
   clear hown
   go_wp2
   go_ret
   refine ⟨_,rfl,?_,?_⟩
   ·have:=HO.out;rw [HK.out] at this;exact ownsRow_base this (by omega)
   ·exact ((((Below.refl _ _).alloc (Nat.le_refl _) _).alloc (by simp) _).trans (hbel.out.mono (by omega)))
end Go.Proofs.YtldmcdeibiclkaaGreatDoorQ
end
