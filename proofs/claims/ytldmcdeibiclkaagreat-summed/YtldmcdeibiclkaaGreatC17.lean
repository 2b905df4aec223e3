/-
  Toward summed_holds: Contract: strings.Clone: the same text; nothing that was there turns.
-/
import Derived.Test.YtldmcdeibiclkaaGreatC16
import Derived.Laws.StructEq
import Derived.Laws.Bits64
import Derived.Deep.RegionHeld3
import Derived.Laws.MakeOwn
import Derived.Test.YtldmcdeibiclkaaGreatC15
import Derived.WalkKit
set_option linter.unusedVariables false
set_option linter.unusedSimpArgs false
set_option maxRecDepth 100000
set_option maxHeartbeats 20000000
section
namespace Go.Proofs
open Go.Shelf Go.RowKit
namespace YtldmcdeibiclkaaGreatQ
theorem CP(s:ByteArray)(w:World)(hs:s.size<=281474976710656):
  Calls aa.prog 63 #[.string s] w λe w'=>e=.returned (.string s)/\Below w.heap.size w w':=
 Any.stringslite_Clone aa.FW s w hs
theorem nN(s:ByteArray)(w:World)(hs:s.size<=281474976710656):
  Calls aa.prog 34 #[.string s] w λe w'=>e=.returned (.string s)/\Below w.heap.size w w':=by
 go_enter aa.func34,aa.ntmps34;go_wp2_with (go_at_call 63;refine (CP s _ hs).mono ?_;rintro e w' ⟨rfl,hb⟩)
 go_ret;exact⟨rfl,hb⟩
end YtldmcdeibiclkaaGreatQ
end Go.Proofs
end
namespace Go.Proofs.YtldmcdeibiclkaaGreatQ
variable {w W w1 w':World}{b k clock o:Nat}{bm:Nat->Nat}{l:List ax}{t ta tb:TypeId}{sv v z x y:Value}{M A B:Array Value}{es:Array MapEntry}{key:ByteArray}
open Go.RowKit
theorem bytes_beq(a b:ByteArray):(a==b)=decide (a=b):=by
 rw[beq_toListBytes,Bool.eq_iff_iff];simp only[ByteArray.toList_eq,Rw,Array.toList_inj,QS];exact⟨λh=>by cases a;cases b;simp_all,λh=>by rw[h]⟩
def dA(es:List MapEntry):Prop:=∀e∈es,∃k,e.key=.string k
def bp:List MapEntry->ByteArray->Option Value
 |[],_=>none
 |e::es,s=>match e.key with
  |.string k=>if s=k then some e.val else bp es s
  |_=>bp es s
theorem rX(s:ByteArray):∀(es:List MapEntry) (i:Nat),dA es->bp es s=none->Instr.findNow .string (.string s) es i=some none
 |[],_,_,_=>rfl
 |e::es,i,hk,h=>by
  obtain⟨k,he⟩:=hk e (by simp);simp only[bp,he]at h;by_cases hs:s=k
  ·rw[IN hs]at h;cases h
  ·rw[By hs]at h;have hsb:(s==k)=false:=by rw[bytes_beq];simpa using hs
   simp only[Instr.findNow,Instr.sameNow,he,hsb];exact rX s es (i+1) (λe' h'=>hk e' (by simp[h'])) h
theorem mI(s:ByteArray)(v:Value):∀(es:List MapEntry) (i:Nat),dA es->bp es s=some v->∃j,j<es.length/\Instr.findNow .string (.string s) es i=some (some (i+j,v))/\(es[j]?).map (·.key)=some (.string s)
 |[],_,_,h=>by cases h
 |e::es,i,hk,h=>by
  obtain⟨k,he⟩:=hk e (by simp);simp only[bp,he]at h;by_cases hs:s=k
  ·rw[IN hs]at h;cases h;subst hs;exact⟨0,by simp,by simp[Instr.findNow,Instr.sameNow,he,bytes_beq],by simp[he]⟩
  ·rw[By hs]at h;have hsb:(s==k)=false:=by rw[bytes_beq];simpa using hs
   obtain⟨j,hj,hf,hkey⟩:=mI s v es (i+1) (λe' h'=>hk e' (by simp[h'])) h;refine⟨j+1,by simpa using hj,?_,by simpa using hkey⟩;simp only[Instr.findNow,Instr.sameNow,he,hsb];rw[hf];congr 3;omega
theorem vR(w:World)(b:Bool)(n:Nat)(s:ByteArray):(Instr.checkKey b (n+1) 9 (.string s)).run aa.prog w=.ok () w:=by
 have hs:aa.prog.underlying 9=some .string:=aa.underlying9;simp only[Instr.checkKey,Q6,Rk hs,Rv];rfl
abbrev ij:Value:=.agg #[.int .i64 0,.int .i64 0,.int .i64 0,.int .i64 0,.slice none 0 0]
theorem l8(w:World)(bm:Nat)(es:Array MapEntry)(clock:Nat)(s:ByteArray)(hm:w.heap[bm]?=some (.map es clock))(hk:dA es.toList):
  (Instr.lookup 63 (.map (some bm)) (.string s) false).run aa.prog w=.ok ((bp es.toList s).getD ij) w:=by
 have hu:aa.prog.underlying 63=some (.map 9 74):=aa.underlying63;have hs:aa.prog.underlying 9=some .string:=aa.underlying9;have hck:∀b,(Instr.checkKey b 10000 9 (.string s)).run aa.prog w=.ok () w:=λb=>vR w b 9999 s;cases he:bp es.toList s with
 |none=>
  have hf:=rX s es.toList 0 hk he;simp[Instr.lookup,Rk hu,Rk hs,getObj,Sem.run,hm,hck,Instr.findKey,hf]
 |some v=>
  obtain⟨j,hj,hf,hkey⟩:=mI s v es.toList 0 hk he;simp[Instr.lookup,Rk hu,Rk hs,getObj,Sem.run,hm,hck,Instr.findKey,hf]
theorem xW(t:ByteArray)(e:MapEntry)(k:ByteArray)(he:e.key=.string k):∀es:List MapEntry,dA es->bp (es++ [e]) t=(bp es t).or (if t=k then some e.val else none)
 |[],_=>by simp[bp,he]
 |x::es,hk=>by
  obtain⟨q,hq⟩:=hk x (by simp);simp only[Rz,bp,hq];by_cases h:t=q
  ·simp[h]
  ·rw[By h,By h];exact xW t e k he es (λe' h'=>hk e' (by simp[h']))
theorem wm(s:ByteArray):∀(es:List MapEntry) (i q:Nat) (v:Value),Instr.findNow .string (.string s) es i=some (some (q,v))->i<=q
 |[],i,q,v,h=>by simp[Instr.findNow]at h
 |e::es,i,q,v,h=>by
  simp only[Instr.findNow]at h;split at h
  ·simp at h;omega
  ·have:=wm s es (i+1) q v h;omega
  ·cases h
theorem sV(s t:ByteArray)(v v':Value)(f:MapEntry->MapEntry)(hfk:∀e,(f e).key=.string s)(hfv:∀e,(f e).val=v'):∀(es:List MapEntry) (i j:Nat),dA es->Instr.findNow .string (.string s) es i=some (some (i+j,v))->bp (es.modify j f) t=(if t=s then some v' else bp es t)/\dA (es.modify j f)
 |[],i,j,_,h=>by simp[Instr.findNow]at h
 |e::es,i,j,hk,h=>by
  obtain⟨k,he⟩:=hk e (by simp);by_cases hs:s=k
  ·subst hs;simp only[Instr.findNow,Instr.sameNow,he,bytes_beq,decide_true]at h;have hj:j=0:=by simp at h;omega
   subst hj;refine⟨?_,?_⟩
   ·simp only[List.modify_zero_cons,bp,hfk,hfv,he];by_cases h':t=s<;>simp[h']
   ·intro x hx;simp only[List.modify_zero_cons,RP]at hx;rcases hx with rfl|hx
    ·exact⟨s,hfk e⟩
    ·exact hk x (by simp[hx])
  ·have hsb:(s==k)=false:=by rw[bytes_beq];simpa using hs
   simp only[Instr.findNow,Instr.sameNow,he,hsb]at h;have hj:1<=j:=by
    rcases RI j with h0|h0
    ·subst h0
     have:=wm s es (i+1) _ _ h;omega
    ·exact h0
   obtain⟨j',rfl⟩: ∃j',j=j'+1:=⟨j-1,by omega⟩
   rw[show i+(j'+1)=i+1+j' by omega]at h;obtain⟨h1,h2⟩:=sV s t v v' f hfk hfv es (i+1) j' (λe' h'=>hk e' (by simp[h'])) h;refine⟨?_,?_⟩
   ·simp only[List.modify_succ_cons,bp,he];rw[h1];by_cases h':t=k
    ·simp[h'];intro q;exact absurd q (λq=>hs q.symm)
    ·simp[h']
   ·intro x hx;simp only[List.modify_succ_cons,RP]at hx;rcases hx with rfl|hx
    ·exact⟨k,he⟩
    ·exact h2 x hx
def ie(Q:ByteArray->Prop)(es:List MapEntry)(clock:Nat):Prop:=
 (es.map (·.key)).Nodup/\(es.map (·.born)).Nodup/\(∀e∈es,e.born<clock)/\∀e∈es,∃k,e.key=.string k/\Q k
theorem rp{s:ByteArray}:∀{es:List MapEntry},dA es->bp es s=none->∀e∈es,e.key≠.string s
 |[],_,_,e,he=>by simp at he
 |x::es,hk,h,e,he=>by
  obtain⟨q,hq⟩:=hk x (by simp);simp only[bp,hq]at h;by_cases hs:s=q
  ·rw[IN hs]at h;cases h
  ·rw[By hs]at h;simp only[RP]at he;rcases he with rfl|he
   ·rw[hq];intro e;injection e with e;exact hs e.symm
   ·exact rp (λe' h'=>hk e' (by simp[h'])) h e he
theorem xy{α β:Type}(g:α->β)(f:α->α)(l:List α)(j:Nat)(h:∀x,l[j]?=some x->g (f x)=g x):(l.modify j f).map g=l.map g:=by
 apply List.ext_getElem?;intro i;simp only[List.getElem?_map,List.getElem?_modify];by_cases e:j=i
 ·subst e;simp only[QD];cases hx:l[j]? with
  |none=>rfl
  |some x=>simp[h x hx]
 ·simp[e]
def gI(w:World)(bm:Nat)(es:Array MapEntry)(clock:Nat):World:={w with heap:=w.heap.setIfInBounds bm (.map es clock)}
theorem Dl(bm:Nat)(es:Array MapEntry)(clock:Nat)(s:ByteArray)(v:Value)(hk:dA es.toList):
  ∃es' clock',(∀w:World,w.heap[bm]?=some (.map es clock)->(Instr.mapUpdate 63 (.map (some bm)) (.string s) v).run aa.prog w=.ok () (gI w bm es' clock'))/\dA es'.toList/\(∀t,bp es'.toList t=if t=s then some v else bp es.toList t)/\∀Q,Q s->ie Q es.toList clock->ie Q es'.toList clock':=by
 have hu:aa.prog.underlying 63=some (.map 9 74):=aa.underlying63;have hs:aa.prog.underlying 9=some .string:=aa.underlying9;have hck:∀w b,(Instr.checkKey b 10000 9 (.string s)).run aa.prog w=.ok () w:=λw b=>vR w b 9999 s;cases he:bp es.toList s with
 |none=>
  have hf:=rX s es.toList 0 hk he;refine⟨es.push {key:=.string s,val:=v,born:=clock},clock+1,?_,?_,?_,?_⟩
  ·intro w hm;simp[Instr.mapUpdate,Rk hu,Rk hs,getObj,setObj,Sem.run,hm,hck,Instr.findKey,hf,gI]
  ·intro x hx;simp at hx;rcases hx with hx|rfl
   ·exact hk x (by simpa using hx)
   ·exact⟨s,rfl⟩
  ·intro t;rw[Array.toList_push,xW t _ s rfl _ hk];by_cases h:t=s
   ·subst h;simp[he]
   ·simp[h]
  ·rintro Q hQ ⟨s1,s2,s3,s4⟩;rw[Array.toList_push];refine⟨?_,?_,λe h=>?_,λe h=>?_⟩
   ·rw[R6,List.nodup_append];refine⟨s1,by simp,λa ha b hb=>?_⟩;simp at hb;subst hb;obtain⟨x,hx,rfl⟩:=Rj.1 ha;exact rp hk he x hx
   ·rw[R6,List.nodup_append];refine⟨s2,by simp,λa ha b hb=>?_⟩;simp at hb;subst hb;obtain⟨x,hx,rfl⟩:=Rj.1 ha;exact Nat.ne_of_lt (s3 x hx)
   ·simp only[List.mem_append,Q5]at h;rcases h with h|rfl
    ·have:=s3 e h;omega
    ·exact Nat.lt_succ_self _
   ·simp only[List.mem_append,Q5]at h;rcases h with h|rfl
    ·exact s4 e h
    ·exact⟨s,rfl,hQ⟩
 |some u=>
  obtain⟨j,hj,hf,hkey⟩:=mI s u es.toList 0 hk he;have hkj:(es[j]?).map (·.key)=some (.string s):=by simpa using hkey
  have hsb:Instr.sameBits 10000 (.string s) (.string s)=true:=by simp[Instr.sameBits,bytes_beq]
  refine⟨es.modify j λe=>{e with key:=.string s,val:=v},clock,?_,?_,?_,?_⟩
  ·intro w hm;simp[Instr.mapUpdate,Rk hu,Rk hs,getObj,setObj,Sem.run,hm,hck,Instr.findKey,hf,hkj,Instr.keyThatStays,hsb,gI]
  ·rw[Array.toList_modify];exact (sV s s u v _ (λ_=>rfl) (λ_=>rfl) es.toList 0 j hk hf).2
  ·intro t;rw[Array.toList_modify];exact (sV s t u v _ (λ_=>rfl) (λ_=>rfl) es.toList 0 j hk hf).1
  ·rintro Q hQ ⟨s1,s2,s3,s4⟩;rw[Array.toList_modify];have ek:(es.toList.modify j λe=>{e with key:=.string s,val:=v}).map (·.key)=es.toList.map (·.key):=xy _ _ _ _ λx hx=>by
    rw[hx]at hkey;simp at hkey;exact hkey.symm
   have eb:(es.toList.modify j λe=>{e with key:=.string s,val:=v}).map (·.born)=es.toList.map (·.born):=xy _ _ _ _ λx hx=>rfl;refine⟨by rw[ek];exact s1,by rw[eb];exact s2,λe h=>?_,λe h=>?_⟩
   ·have:e.born∈(es.toList.modify j λe=>{e with key:=.string s,val:=v}).map (·.born):=Rj.2 ⟨e,h,rfl⟩;rw[eb]at this;obtain⟨x,hx,e1⟩:=Rj.1 this;rw[<-e1];exact s3 x hx
   ·have:e.key∈(es.toList.modify j λe=>{e with key:=.string s,val:=v}).map (·.key):=Rj.2 ⟨e,h,rfl⟩;rw[ek]at this;obtain⟨x,hx,e1⟩:=Rj.1 this;obtain⟨k,hk1,hk2⟩:=s4 x hx;exact⟨k,by rw[<-e1];exact hk1,hk2⟩
def ug(s:ByteArray)(k:Nat):Int:=if h:k<s.size then (s[k].toNat:Int) else 0
def fA(s:ByteArray):Nat->Int
 |0=>14695981039346656037
 |k+1=>IntKind.u64.wrap (Go.bits .xor .u64 (fA s k) (ug s k)*1099511628211)
def cC(s:ByteArray):Int:=fA s s.size
def aI(s:ByteArray):Nat:=(cC s%64).toNat
theorem oc(s:ByteArray):∀k,0<=fA s k/\fA s k<18446744073709551616
 |0=>by simp[fA]
 |k+1=>by
  simp only[fA,IntKind.wrap_u64];exact⟨RV _ (by decide),Int.emod_lt_of_pos _ (by decide)⟩
theorem gR(s:ByteArray):aI s<64:=by
 unfold aI;have h1:=RV (cC s) (show (64:Int)≠0 by decide);have h2:=Int.emod_lt_of_pos (cC s) (show (0:Int)<64 by decide);omega
theorem zY(s:ByteArray):((aI s:Nat):Int)=cC s%64:=by
 unfold aI;have h1:=RV (cC s) (show (64:Int)≠0 by decide);omega
theorem Ar(b:UInt8):IntKind.u64.wrap (b.toNat:Int)=(b.toNat:Int):=by
 rw[IntKind.wrap_u64]
 have:=b.toNat_lt;omega
theorem vD(s:ByteArray)(k:Nat)(h:k<s.size):ug s k=(s[k].toNat:Int):=by simp[ug,h]
theorem rH(s:ByteArray)(w:World)(hs:s.size<=maxLen):
  Calls aa.prog 84 #[.string s] w λe w'=>e=.returned (.int .u64 (cC s))/\w'=w:=by
 unfold maxLen at hs;go_enter aa.func84,aa.ntmps84;go_wp2;go_loop [3,7] (λd i=>∃k:Nat,k<=s.size/\i=.int .i64 k/\d=.int .u64 (fA s k)) (λ_ i=>s.size-(intOf i).toNat)
 case atStart=>exact⟨0,by omega,rfl,rfl⟩
 case round=>
  obtain⟨k,hk,rfl,rfl⟩:=hrel;by_cases hlt:k<s.size
  ·have g1:(k:Int)<(s.size:Int):=by omega
   have g0:(0:Int)<=(k:Int):=by omega
   have hst:Hid (fA s (k+1)=IntKind.u64.wrap (Go.bits .xor .u64 (fA s k) (s[k].toNat:Int)*1099511628211)):=by
    show fA s (k+1)=_;rw[fA,vD s k hlt]
   go_wp2;refine⟨⟨k+1,by omega,by go_num,?_⟩,by simp[intOf];omega⟩;rw[hst.out,Ar]
  ·have hke:k=s.size:=by omega
   go_wp2;go_ret;exact⟨rfl,rfl⟩
theorem IU(w:World):Calls aa.prog 70 #[.int .i64 3] w λe w'=>e=.returned (.int .i64 64)/\w'=w:=by
 go_enter aa.func70,aa.ntmps70;go_wp2;go_loop [3,5] (λc i=>(i=.int .i64 0/\c=.int .i64 1)\/(i=.int .i64 1/\c=.int .i64 4)\/(i=.int .i64 2/\c=.int .i64 16)\/(i=.int .i64 3/\c=.int .i64 64)) (λ_ i=>3-(intOf i).toNat)
 case atStart=>exact Or.inl ⟨rfl,rfl⟩
 case round=>
  rcases hrel with⟨rfl,rfl⟩|⟨rfl,rfl⟩|⟨rfl,rfl⟩|⟨rfl,rfl⟩
  ·go_wp2;exact⟨Or.inr (Or.inl ⟨rfl,rfl⟩),by decide⟩
  ·go_wp2;exact⟨Or.inr (Or.inr (Or.inl ⟨rfl,rfl⟩)),by decide⟩
  ·go_wp2;exact⟨Or.inr (Or.inr (Or.inr ⟨rfl,rfl⟩)),by decide⟩
  ·go_wp2;go_ret;exact⟨rfl,rfl⟩
theorem Lf(s:ByteArray)(w:World)(hs:s.size<=maxLen):
  Calls aa.prog 58 #[.string s] w λe w'=>e=.returned (.int .i64 (aI s))/\w'=w:=by
 have HS:Hid _:=λW=>rH s W hs;have h0:=(oc s s.size).1;have h1:=(oc s s.size).2;have hx:Hid (cC s%64=(aI s:Int)):=(zY s).symm;have hl:=gR s;change 0<=cC s at h0;change cC s<_ at h1;generalize cC s=F at*;go_enter aa.func58,aa.ntmps58;go_wp2_with (first
  |(go_at_call 84;refine BY (HS.out _) ?_;rintro e w1 ⟨rfl,rfl⟩)
  |(go_at_call 70;refine (IU _).mono ?_;rintro e w1 ⟨rfl,rfl⟩))
 go_ret;refine⟨ml ?_,rfl⟩;exact hx.out
abbrev aB:=ByteArray->Ctx×List ax
def cY(w:World)(b:Nat)(bm:Nat->Nat)(num:Nat):Prop:=
 ∃A:Array Value,w.heap[b]?=some (.cells A 66)/\A[0]?=some (.int .i64 num)/\∀n,n<64->A[n+1]?=some (.map (some (bm n)))
def eE(c:Ctx):Prop:=∃i,i<4/\c i≠0
def lC(w:World)(m n:Nat)(K:aB):Prop:=
 ∃es clock,w.heap[m]?=some (.map es clock)/\dA es.toList/\(∀s,aI s=n->∃sv,(bp es.toList s).getD ij=bw (K s).1 sv/\aM w sv (K s).2)/\ie (λk=>aI k=n/\k.size<=281474976710656/\aK k=true) es.toList clock/\∀s,bp es.toList s≠none->eE (K s).1
def ba(w:World)(b:Nat)(bm:Nat->Nat)(num:Nat)(K:aB):Prop:=
 cY w b bm num/\(∀n,n<64->lC w (bm n) n K)/\∀n m,n<64->m<64->bm n=bm m->n=m
theorem uJ{Q:ByteArray->Prop}:∀{es:List MapEntry} {s:ByteArray},bp es s≠none->(∀e∈es,∃k,e.key=.string k/\Q k)->Q s
 |[],_,h,_=>absurd rfl h
 |e::es,s,h,hq=>by
  obtain⟨k,hk,hQ⟩:=hq e List.mem_cons_self;by_cases hks:s=k
  ·rw[hks];exact hQ
  ·refine uJ (es:=es) (λhn=>h ?_) λe he=>hq e (List.mem_cons_of_mem _ he);simp[bp,hk,hks,hn]
def ez(K:aB)(s:ByteArray)(x:Ctx×List ax):aB:=λt=>if t=s then x else K t
theorem aM.jo(h:aM w sv l)(hk:∀g,g<w.heap.size->(∃cur,w.heap[g]?=some (.cells cur 117 (0,0)))->w'.heap[g]?=w.heap[g]?):aM w' sv l:=by
 obtain⟨h1,h2⟩:=h;refine⟨h1,?_⟩;rcases h2 with h2|⟨g,cap,cur,hv,hg,hh,r⟩
 ·exact Or.inl h2
 ·exact Or.inr ⟨g,cap,cur,hv,hg,by rw[hk g (Array.getElem?_eq_some_iff.1 hh).1 ⟨cur,hh⟩];exact hh,r⟩
theorem cY.lt{num:Nat}(h:cY w b bm num):b<w.heap.size:=by
 obtain⟨A,h1,_⟩:=h;exact (Array.getElem?_eq_some_iff.1 h1).1
theorem lC.lt{m n:Nat}{K:aB}(h:lC w m n K):m<w.heap.size:=by
 obtain⟨es,clock,h1,_⟩:=h;exact (Array.getElem?_eq_some_iff.1 h1).1
theorem cY.num{num:Nat}(h:cY w b bm num):w.cell? ⟨b,0,none⟩=some (.int .i64 num):=by
 obtain⟨A,h1,h2,_⟩:=h;simp[World.cell?,h1,h2]
theorem cY.kZ{num:Nat}(h:cY w b bm num){n:Nat}(hn:n<64):w.cell? ⟨b,n+1,none⟩=some (.map (some (bm n))):=by
 obtain⟨A,h1,_,h2⟩:=h;simp[World.cell?,h1,h2 n hn]
theorem ba.jo{num:Nat}{K:aB}(h:ba w b bm num K)(hb:w'.heap[b]?=w.heap[b]?)(hm:∀n,n<64->w'.heap[bm n]?=w.heap[bm n]?)(hk:∀g,g<w.heap.size->(∃cur,w.heap[g]?=some (.cells cur 117 (0,0)))->w'.heap[g]?=w.heap[g]?):ba w' b bm num K:=by
 obtain⟨⟨A,h1,h2⟩,h3,h4⟩:=h;refine⟨⟨A,by rw[hb];exact h1,h2⟩,λn hn=>?_,h4⟩;obtain⟨es,clock,e1,e2,e3,e4⟩:=h3 n hn;refine⟨es,clock,by rw[hm n hn];exact e1,e2,λs hs=>?_,e4⟩;obtain⟨sv,h5,h6⟩:=e3 s hs;exact⟨sv,h5,h6.jo hk⟩
theorem ba.below{num:Nat}{K:aB}(h:ba w b bm num K)(hb:Below w.heap.size w w'):ba w' b bm num K:=
 h.jo (hb.block _ h.1.lt) (λn hn=>hb.block _ (h.2.1 n hn).lt) λg hg _=>hb.block g hg
theorem vc(b:Nat)(key:ByteArray)(c:Ctx)(sv:Value)(e:Int)(w:World)(he:(e==0)=false):
  Calls aa.prog 35 #[.pointer (some ⟨b,0,none⟩),.string key,bw c sv,.int .i64 e] w λr w'=>r=.returned (.int .i64 e)/\Below w.heap.size w w':=by
 go_enter aa.func35,aa.ntmps35;go_wp2;go_ret;exact⟨rfl,(AT _ _).alloc (AI _) _⟩
theorem aD{p:Addr}(h:W.cell? p=some v)(hb:Below W.heap.size W w1):w1.cell? p=some v:=by
 rw[hb.cell (World.block_lt_of_cell? W p h)];exact h
theorem dw{o:Obj}(h:W.heap[k]?=some o)(hb:Below W.heap.size W w1):w1.heap[k]?=some o:=by
 rw[hb.block k (Array.getElem?_eq_some_iff.1 h).1];exact h
theorem cI(h:Below w.heap.size w W)(hb:Below W.heap.size W w1):Below w.heap.size w w1:=h.trans (hb.mono h.size)
theorem Eh{bm:Nat}(h:bm<w.heap.size):(gI w bm es clock).heap[bm]?=some (.map es clock):=by
 simp[gI,h]
theorem qW{bm:Nat}(h:k≠bm):(gI w bm es clock).heap[k]?=w.heap[k]? :=by
 simp only[gI,Array.getElem?_setIfInBounds];rw[By (QK h)]
theorem Ml{num:Nat}{K:aB}{c:Ctx}{es':Array MapEntry}{clock':Nat}(hB:Below w.heap.size w w1)(h:ba w b bm num K)(hm:w.heap[bm (aI key)]?=some (.map es clock))(hk':dA es'.toList)(he:∀t,bp es'.toList t=if t=key then some (bw c sv) else bp es.toList t)(hst:∀Q,Q key->ie Q es.toList clock->ie Q es'.toList clock')(hks:key.size<=281474976710656/\aK key=true)(hkn:eE c)(hv:aM w sv l):
  ba (gI w1 (bm (aI key)) es' clock') b bm num (ez K key (c,l))/\w.grownBy (gI w1 (bm (aI key)) es' clock') (some (bm (aI key))):=by
 have hblt:=h.1.lt;have hmlt:=(Array.getElem?_eq_some_iff.1 hm).1;have hseg:=gR key;obtain⟨⟨A,hA,hA2⟩,hS,hinj⟩:=h;have hne:b≠bm (aI key):=λe=>by rw[e,hm]at hA;cases hA
 have hvk:∀sv l,aM w sv l->aM (gI w1 (bm (aI key)) es' clock') sv l:=λsv l h=>h.jo λg hg ⟨cur,hc⟩=>by
  rw[qW (λe=>by rw[e,hm]at hc;cases hc),hB.block g hg]
 refine⟨⟨⟨A,?_,hA2⟩,λn hn=>?_,hinj⟩,?_⟩
 ·rw[qW hne,hB.block b hblt];exact hA
 ·by_cases hns:n=aI key
  ·subst hns;obtain⟨es0,clock0,e1,e2,e3,e4⟩:=hS _ hseg;rw[hm]at e1;cases e1;refine⟨es',clock',Eh (QL hmlt hB.size),hk',λs hs=>?_,hst _ ⟨rfl,hks⟩ e4.1,λs hs=>?_⟩;rotate_left
   ·by_cases h:s=key
    ·simpa[ez,h] using hkn
    ·rw[he,By h]at hs;simpa[ez,h] using e4.2 s hs
   rw[he];by_cases h:s=key
   ·rw[IN h];exact⟨sv,by simp[ez,h],by simpa[ez,h] using hvk _ _ hv⟩
   ·rw[By h];obtain⟨sv',h1,h2⟩:=e3 s hs;exact⟨sv',by simpa[ez,h] using h1,by simpa[ez,h] using hvk _ _ h2⟩
  ·have hl:=(hS n hn).lt;obtain⟨es0,clock0,e1,e2,e3,e4⟩:=hS n hn;refine⟨es0,clock0,?_,e2,λs hs=>?_,e4.1,λs hs=>?_⟩;rotate_left
   rotate_left
   ·have hsk:s≠key:=λe=>by
     subst e;exact hns (uJ hs e4.1.2.2.2|>.1.symm)
    simpa[ez,hsk] using e4.2 s hs
   ·rw[qW (λe=>hns (hinj _ _ hn hseg e)),hB.block _ hl];exact e1
   ·have hsk:s≠key:=λe=>hns (by rw[<-hs,e]);obtain⟨sv',h1,h2⟩:=e3 s hs;exact⟨sv',by simpa[ez,hsk] using h1,by simpa[ez,hsk] using hvk _ _ h2⟩
 ·refine⟨hB.os,hB.tape,hB.output,by simpa[gI] using hB.size,λk hk hn=>?_⟩;rw[qW (λe=>hn (by rw[e])),hB.block k hk]
theorem wI{w0:World}(hb:Below W.heap.size W w1)(e1:W.heap=w0.heap)(e2:W.os=w0.os)(e3:W.tape=w0.tape)(e4:W.output=w0.output):Below w0.heap.size w0 w1:=
 ⟨hb.os.trans e2,hb.tape.trans e3,hb.output.trans e4,by rw[<-e1];exact hb.size,λk hk=>by rw[<-e1];exact hb.block k (by rw[e1];exact hk)⟩
theorem uG(b num:Nat)(bm:Nat->Nat)(key:ByteArray)(w:World)(hs:key.size<=maxLen)(h:cY w b bm num):
  Calls aa.prog 32 #[.pointer (some ⟨b,0,none⟩),.string key] w λe w'=>e=.returned (.map (some (bm (aI key))))/\∃q,w'=w.drewN q:=by
 have HS:Hid _:=λW=>Lf key W hs;have hl:=gR key;have hc:=h.kZ hl;generalize aI key=n at*;have hl':(n:Int)<64:=by omega
 have hl0:(0:Int)<=(n:Int):=by omega
 have hc':w.cell? ⟨b,1+n,none⟩=some (.map (some (bm n))):=by rw[Ry];exact hc
 clear h;go_enter aa.func32,aa.ntmps32;go_wp2;go_quiet ((go_at_call 58;refine BY (HS.out _) ?_;rintro e w' ⟨rfl,rfl⟩;exact⟨rfl,_,rfl⟩));go_wp2;go_ret;exact⟨rfl,_,rfl⟩
theorem yW(b num:Nat)(bm:Nat->Nat)(K:aB)(key:ByteArray)(c:Ctx)(sv:Value)(l:List ax)(w:World)(hs:key.size<=281474976710656/\aK key=true)(hkn:eE c)(h:ba w b bm num K)(hv:aM w sv l):
  Calls aa.prog 35 #[.pointer (some ⟨b,0,none⟩),.string key,bw c sv,.int .i64 0] w λr w'=>r=.returned (.int .i64 0)/\ba w' b bm num (ez K key (c,l))/\w.grownBy w' (some (bm (aI key))):=by
 have hs1:=hs.1;obtain⟨es,clock,hm,hk,_⟩:=h.2.1 _ (gR key);obtain⟨es',clock',hrun,hk',hent,hstp⟩:=Dl (bm (aI key)) es clock key (bw c sv) hk;have HF:Hid (∀w1,Below w.heap.size w w1->ba (gI w1 (bm (aI key)) es' clock') b bm num (ez K key (c,l))/\w.grownBy (gI w1 (bm (aI key)) es' clock') (some (bm (aI key)))):=λw1 hB=>Ml hB h hm hk' hent hstp hs hkn hv;have HSeg:Hid (∀w1,Below w.heap.size w w1->Calls aa.prog 32 #[.pointer (some ⟨b,0,none⟩),.string key] w1 λe w'=>e=.returned (.map (some (bm (aI key))))/\∃q,w'=w1.drewN q):=λw1 hB=>uG b num bm key w1 (by unfold maxLen;omega) (h.below hB).1;have HM:Hid (∀w1,Below w.heap.size w w1->w1.heap[bm (aI key)]?=some (.map es clock)):=λw1 hB=>dw hm hB;have HC:Hid (∀w1,Below (w.alloc (.cells #[.int .i64 (c 0),.int .i64 (c 1),.int .i64 (c 2),.int .i64 (c 3),sv] 74)).heap.size (w.alloc (.cells #[.int .i64 (c 0),.int .i64 (c 1),.int .i64 (c 2),.int .i64 (c 3),sv] 74)) w1->∀o,w1.cell? ⟨w.heap.size,o,none⟩=#[Value.int .i64 (c 0),.int .i64 (c 1),.int .i64 (c 2),.int .i64 (c 3),sv][o]?):=λw1 hB o=>by
  have:=dw (IS w _) hB;simp[World.cell?,this]
 have HA:Hid (∀w1,Below (w.alloc (.cells #[.int .i64 (c 0),.int .i64 (c 1),.int .i64 (c 2),.int .i64 (c 3),sv] 74)).heap.size (w.alloc (.cells #[.int .i64 (c 0),.int .i64 (c 1),.int .i64 (c 2),.int .i64 (c 3),sv] 74)) w1->Below w.heap.size w w1):=λw1 hB=>cI ((AT _ _).alloc (AI _) _) hB;clear hent hv hk hk' h hm hstp;generalize bm (aI key)=bms at*;go_enter aa.func35,aa.ntmps35;go_wp2;go_region_with (first
  |(go_at_call 34;refine (nN key _ hs1).mono ?_;rintro e w1 ⟨rfl,hb1⟩;have hB0:=wI (w0:=w.alloc (.cells #[.int .i64 (c 0),.int .i64 (c 1),.int .i64 (c 2),.int .i64 (c 3),sv] 74)) hb1 rfl rfl rfl rfl;have HB:Hid _:=HA.out _ hB0;have k1:=HC.out _ hB0;have k3:=HM.out _ HB.out;have hrun1:=hrun w1 k3;have hrun2:=λq=>hrun (w1.drewN q) k3;clear hB0 hb1)
  |(go_at_call 32;refine BY (HSeg.out _ (by first|exact HB.out|exact ((AT w.heap.size w).alloc (AI _) _).drew)) ?_;rintro e w2 ⟨rfl,q,rfl⟩))
 all_goals
  go_wp2;go_ret;exact⟨rfl,HF.out _ (by first|exact HB.out|exact⟨HB.out.os,HB.out.tape,HB.out.output,HB.out.size,HB.out.block⟩)⟩
theorem heap_set{fr:Nat×Nat}(h:w.heap[b]?=some (.cells M t fr)):(w.setCell ⟨b,o,none⟩ v).heap[b]?=some (.cells (M.setIfInBounds o v) t fr):=by
 simp[World.setCell,Array.getElem?_modify,h]
theorem ct{b' o':Nat}(h:b'≠b):(w.setCell ⟨b,o,none⟩ v).cell? ⟨b',o',none⟩=w.cell? ⟨b',o',none⟩:=World.cell?_of_block (Re w ⟨b,o,none⟩ v b' h)
theorem uZ{fr:Nat×Nat}(h:w.heap[b]?=some (.cells M t fr)):(((w.setCell ⟨b,o,none⟩ x).setCell ⟨b,o+1,none⟩ y).setCell ⟨b,o+2,none⟩ z).heap[b]?=some (.cells (((M.setIfInBounds o x).setIfInBounds (o+1) y).setIfInBounds (o+2) z) t fr):=
 heap_set (heap_set (heap_set h))
theorem MC{xs:List Value}(hs:k*3+2<M.size)(h:M.toList.take (k*3)=xs):(((M.setIfInBounds (k*3) x).setIfInBounds (k*3+1) y).setIfInBounds (k*3+2) z).toList.take ((k+1)*3)=xs++ [x,y,z]:=by
 subst h;apply List.ext_getElem?;intro t;have hl:(M.toList.take (k*3)).length=k*3:=by simp;omega
 by_cases h1:t<k*3
 ·rw[List.getElem?_take,IN (by omega),List.getElem?_append_left (by omega),List.getElem?_take,IN h1];simp only[Array.getElem?_toList,Array.getElem?_setIfInBounds];rw[By (by omega),By (by omega),By (by omega)]
 ·rw[List.getElem?_append_right (by omega),hl];by_cases h2:t<(k+1)*3
  ·rw[List.getElem?_take,IN h2];simp only[Array.getElem?_toList,Array.getElem?_setIfInBounds,Rt];have h3:t=k*3\/t=k*3+1\/t=k*3+2:=by omega
   rcases h3 with rfl|rfl|rfl
   ·rw[By (by omega),By (by omega),IN rfl,IN (by omega)];simp
   ·rw[By (by omega),IN rfl,IN (by omega)];simp
   ·rw[IN rfl,IN (by omega)];simp
  ·rw[List.getElem?_take,By h2,List.getElem?_eq_none (by simp;omega)]
theorem aa.oO:(aa.prog.info? 88).map (λi=>(i.zero,i.size,i.bytes))=some (some (.agg #[.int .i64 0,.int .i64 0,.string ⟨#[]⟩]),3,32):=by kernel_rfl
theorem Bx(l:List ax)(k:Nat)(h:k<l.length):aw (l.take (k+1))=aw (l.take k)++ [.int .i64 l[k].rep,.int .i64 l[k].n,.string l[k].val]:=by
 rw[RO h,oV];simp[aw,cg]
theorem MB{wr:World}{bo:Nat}{X:Obj}(hb1:Below ((wr.alloc X).drew).heap.size ((wr.alloc X).drew) w1)(hh:wr.heap[bo]?=some (.cells M t))(hs:k*3+2<M.size):
  w1.heap[bo]?=some (.cells M t)/\(∃x,w1.cell? ⟨bo,k*3,none⟩=some x)/\(∃x,w1.cell? ⟨bo,k*3+1,none⟩=some x)/\(∃x,w1.cell? ⟨bo,k*3+2,none⟩=some x)/\(∀o,w1.frozen? ⟨bo,o,none⟩=false)/\Below wr.heap.size wr w1:=by
 have hlt:=(Array.getElem?_eq_some_iff.1 hh).1;have hB:Below wr.heap.size wr w1:=(((AT _ _).alloc (AI _) _).drew).trans (hb1.mono (by simp[World.drew]));have e:w1.heap[bo]?=some (.cells M t):=dw hh hB;refine⟨e,⟨M[k*3],?_⟩,⟨M[k*3+1],?_⟩,⟨M[k*3+2],?_⟩,λo=>by simp[World.frozen?,e],hB⟩
 ·simp only[World.cell?,e];simp
 ·simp only[World.cell?,e];simp
 ·simp only[World.cell?,e];simp
def Ib(w:World)(l:List ax)(k:Nat)(wr:World):Prop:=
 ∃M:Array Value,wr.heap[w.heap.size]?=some (.cells M 88)/\M.size=l.length*3/\M.toList.take (k*3)=aw (l.take k)/\Below w.heap.size w wr
theorem OH(sv:Value)(l:List ax)(w:World)(h:aM w sv l)(hlen:l.length<=100000)(hval:∀v∈l,v.val.size<=281474976710656):
  Calls aa.prog 90 #[sv] w λe w'=>∃v',e=.returned v'/\w'.ownsRow w.heap.size 88 3 v' l.length (aw l)/\Below w.heap.size w w':=by
 obtain⟨ad,cap,rfl,hcap⟩:=h.len;obtain⟨i0,hi0,hz0,hz1,hz2⟩:=QN aa.oO;have hmk:=run_make (P:=aa.prog) w 67 88 i0 _ aa.underlying67 hi0 hz0 .i64 .i64 l.length l.length (by omega) (by omega) (by rw[hz2];omega) (by omega);rw[hz1]at hmk;simp only[Int.toNat_natCast]at hmk;have hM:=size_madeCells (Value.agg #[.int .i64 0,.int .i64 0,.string ⟨#[]⟩]).cells (l.length*3);generalize madeCells (Value.agg #[.int .i64 0,.int .i64 0,.string ⟨#[]⟩]).cells (l.length*3)=M at hmk hM;have H:Hid _:=h;have HV:Hid _:=hval;have HM:Hid _:=hM;clear h hval hM hi0 hz0 hz1 hz2;go_enter aa.func90,aa.ntmps90;go_wp2;go_loopw [11] (λi wr=>∃k:Nat,k<=l.length/\i=.int .i64 k/\Ib w l k wr) (λi _=>l.length-(intOf i).toNat)
 case atStart=>exact⟨0,by omega,rfl,M,IS w _,HM.out,by simp[aw],(AT _ _).alloc (AI _) _⟩
 case round=>
  obtain⟨k,hk,rfl,hrel⟩:=hrel;by_cases hlt:k<l.length
  ·obtain⟨g,cap',hsv',hg,_,_,c0,c1,c2⟩:=aM.cells H.out hlt;cases hsv';have hvk:Hid (l[k].val.size<=281474976710656):=HV.out _ (OF hlt);have hsn:Hid _:=Bx l k hlt;generalize l[k].rep=r at*;generalize l[k].n=n at*;generalize l[k].val=s at*;have hs:=hvk.out;obtain⟨M',hh,hms,htk,hb⟩:=hrel;have hbo:=(Array.getElem?_eq_some_iff.1 hh).1;have d0:wr.cell? ⟨g,k*3,none⟩=some (.int .i64 r):=(hb.cell (p:=⟨g,k*3,none⟩) hg).trans c0;have d1:wr.cell? ⟨g,k*3+1,none⟩=some (.int .i64 n):=(hb.cell (p:=⟨g,k*3+1,none⟩) hg).trans c1;have d2:wr.cell? ⟨g,k*3+2,none⟩=some (.string s):=(hb.cell (p:=⟨g,k*3+2,none⟩) hg).trans c2;have g63:(k:Int)<(l.length:Int):=by omega
   have k0:(0:Int)<=(k:Int):=by omega
   have Hc:Hid _:=And.intro c0 (And.intro c1 c2);have HH:Hid _:=And.intro hh (And.intro hms (And.intro htk hb));clear c0 c1 c2 hh hms htk hb;have hm3:k*3+2<M'.size:=by rw[HH.out.2.1];omega
   have hH:=HH.out.1;have hbn:wr.heap.size≠w.heap.size:=by omega
   go_wp2_with fail;go_region_held3 (λw'=>w'.cell? ⟨wr.heap.size,0,none⟩=some (.int .i64 r)/\w'.cell? ⟨wr.heap.size,1,none⟩=some (.int .i64 n)/\w'.cell? ⟨wr.heap.size,2,none⟩=some (.string s))
    (first|go_keep|(go_split_ands;exact⟨aD (by assumption) hb1,aD (by assumption) hb1,aD (by assumption) hb1⟩)|(go_split_ands;exact⟨by rw[ct hbn,ct hbn,ct hbn];assumption,by rw[ct hbn,ct hbn,ct hbn];assumption,by rw[ct hbn,ct hbn,ct hbn];assumption⟩))
    (first|(go_at_call 34;refine (nN s _ hs).mono ?_;rintro e w1 ⟨rfl,hb1⟩;obtain⟨m0,⟨x0,m1⟩,⟨x1,m2⟩,⟨x2,m3⟩,m4,m5⟩:=MB hb1 hH hm3))
   go_wp2;refine⟨⟨k+1,by omega,by go_num,_,uZ m0,by simp only[Rt];exact HH.out.2.1,?_,?_⟩,by simp[intOf];omega⟩
   ·rw[hsn.out];exact MC hm3 HH.out.2.2.1
   ·exact (((HH.out.2.2.2.trans (m5.mono HH.out.2.2.2.size)).setCell (AI _) _).setCell (AI _) _).setCell (AI _) _
  ·have hkl:k=l.length:=by omega
   have HK:Hid (List.take k l=l):=RY (by omega);have HRel:Hid _:=hrel;clear hrel;go_wp2;go_ret;obtain⟨M',hh,hms,htk,hb⟩:=HRel.out;refine⟨_,rfl,⟨by rw[mS],Or.inr ⟨w.heap.size,l.length,M',rfl,AI _,hh,AI _,by unfold maxLen;omega,hms,?_⟩⟩,hb⟩;rw[HK.out,hkl]at htk;exact htk
theorem Lw{P:Program}(h:(P.info? t).map (·.zero)=some (some z))(w:World):(zeroValue t).run P w=.ok z w:=by
 cases hq:P.info? t with
 |none=>simp[hq]at h
 |some i=>
  have hz:i.zero=some z:=by simpa[hq] using h
  simp[zeroValue,typeInfo,hq,hz]
def nK:Array Value:=#[Value.int .i64 0]++Array.replicate 64 (Value.map none)
theorem vz:nK.size=65:=by simp[nK]
theorem KX:(nK=#[])=False:=by simp[nK]
theorem aa.FD:(aa.prog.info? 66).map (·.zero)=some (some (.agg nK)):=by kernel_rfl
theorem aa.Oc(w:World):(zeroValue 66).run aa.prog w=.ok (.agg nK) w:=Lw aa.FD w
def jx:aB:=λ_=>(λ_=>0,[])
def kl(K:aB):Prop:=∀s,(∀v∈(K s).2,v.rep<4)/\(K s).2.length<=20/\(∀v∈(K s).2,v.val.size<=12)/\∀i,i<4->0<=(K s).1 i/\(K s).1 i<=1000000
def qj(w:World)(num k:Nat)(bm:Nat->Nat)(wr:World):Prop:=
 (∃A:Array Value,wr.heap[w.heap.size]?=some (.cells A 66)/\A.size=65/\A[0]?=some (.int .i64 num)/\∀n,n<k->A[n+1]?=some (.map (some (bm n))))/\
 (∀n,n<k->w.heap.size<bm n/\wr.heap[bm n]?=some (.map #[] 0))/\(∀n m,n<k->m<k->bm n=bm m->n=m)/\Below w.heap.size w wr
theorem qj.step{w wr:World}{num k:Nat}{bm:Nat->Nat}(h:qj w num k bm wr)(hk:k<64):
  qj w num (k+1) (λn=>if n=k then wr.heap.size else bm n) ((wr.setCell ⟨w.heap.size,1+k,none⟩ (.map (some wr.heap.size))).alloc (.map #[] 0)):=by
 obtain⟨⟨A,h1,h2,h3,h4⟩,h5,h6,h7⟩:=h;have hlt:=(Array.getElem?_eq_some_iff.1 h1).1;have hsz:(wr.setCell ⟨w.heap.size,1+k,none⟩ (.map (some wr.heap.size))).heap.size=wr.heap.size:=by simp[World.setCell]
 have hlts:∀n,n<k->bm n<wr.heap.size:=λn hn=>(Array.getElem?_eq_some_iff.1 (h5 n hn).2).1;refine⟨⟨A.setIfInBounds (k+1) (.map (some wr.heap.size)),by rw[Qx _ _ _ (by rw[hsz];exact hlt),Ry];exact heap_set h1,by simpa using h2,?_,λn hn=>?_⟩,λn hn=>?_,λn m hn hm he=>?_,(h7.setCell (AI _) _).alloc (by rw[hsz];exact h7.size) _⟩
 ·rw[Array.getElem?_setIfInBounds,By (by omega)];exact h3
 ·rw[Array.getElem?_setIfInBounds];dsimp only;by_cases e:n=k
  ·subst e;rw[IN rfl,IN (by omega),IN rfl]
  ·rw[By (by omega),By e];exact h4 n (by omega)
 ·dsimp only;by_cases e:n=k
  ·subst e;rw[IN rfl];refine⟨hlt,?_⟩
   have:=IS (wr.setCell ⟨w.heap.size,1+n,none⟩ (.map (some wr.heap.size))) (.map #[] 0);rw[hsz]at this;exact this
  ·rw[By e];have hn':n<k:=by omega
   refine⟨(h5 n hn').1,?_⟩;have hne:bm n≠w.heap.size:=by have:=(h5 n hn').1;omega
   rw[Qx _ _ _ (by rw[hsz];exact hlts n hn'),Re _ _ _ _ hne];exact (h5 n hn').2
 ·by_cases e:n=k
  ·by_cases e':m=k
   ·rw[e,e']
   ·simp only[IN e,By e']at he
    have:=hlts m (by omega);omega
  ·by_cases e':m=k
   ·simp only[By e,IN e']at he
    have:=hlts n (by omega);omega
   ·simp only[By e,By e']at he;exact h6 n m (by omega) (by omega) he
theorem Kz(n:Nat)(w:World)(hn:n<4):
  Calls aa.prog 11 #[.int .i64 n] w λe w'=>∃b bm,e=.returned (.tuple #[.pointer (some ⟨b,0,none⟩),.int .i64 0])/\w.heap.size<=b/\(∀m,m<64->w.heap.size<=bm m)/\ba w' b bm n jx/\Below w.heap.size w w':=by
 have hn':(n:Int)<4:=by omega
 go_enter aa.func11,aa.ntmps11;have hmm:∀W:World,(Instr.makeMap 63 none).run aa.prog W=.ok (.map (some W.heap.size)) (W.alloc (.map #[] 0)):=λW=>rfl;have hz:=aa.Oc;have hne:=KX;go_wp2;go_loopw [15] (λiv wr=>∃k:Nat,k<=64/\iv=.int .i64 k/\∃bm,qj w n k bm wr) (λiv _=>64-(intOf iv).toNat)
 case atStart=>
  refine⟨0,by omega,rfl,λ_=>0,⟨_,IS w _,by simp[vz],by simp[vz],λn hn=>absurd hn (by omega)⟩,λn hn=>absurd hn (by omega),λn m hn=>absurd hn (by omega),(AT _ _).alloc (AI _) _⟩
 case round=>
  obtain⟨k,hk,rfl,bm,hrel⟩:=hrel;by_cases hlt:k<64
  ·have k1:(k:Int)<64:=by omega
   have k0:(0:Int)<=(k:Int):=by omega
   have hst:Hid _:=hrel.step hlt;obtain⟨⟨A,h1,h2,_,_⟩,_⟩:=hrel;have hblt:=(Array.getElem?_eq_some_iff.1 h1).1;have hcell:(wr.alloc (.map #[] 0)).cell? ⟨w.heap.size,k+1,none⟩=some A[k+1]:=by
    rw[World.cell?_alloc_lt _ _ _ hblt];simp[World.cell?,h1]
   have hcell':(wr.alloc (.map #[] 0)).cell? ⟨w.heap.size,1+k,none⟩=some A[k+1]:=by rw[Ry];exact hcell
   have hfr:∀o,(wr.alloc (.map #[] 0)).frozen? ⟨w.heap.size,o,none⟩=false:=λo=>by
    rw[World.frozen?_alloc_past _ _ _ hblt];simp[World.frozen?,h1]
   clear h1;go_wp2;refine⟨⟨k+1,by omega,by go_num,λn=>if n=k then wr.heap.size else bm n,?_⟩,by simp[intOf];omega⟩;exact hst.out
  ·obtain rfl:k=64:=by omega
   have HR:Hid _:=hrel;clear hrel;go_wp2;go_ret2;obtain⟨⟨A,h1,h2,h3,h4⟩,h5,h6,h7⟩:=HR.out;exact⟨w.heap.size,bm,rfl,AI _,λm hm=>by have:=(h5 m hm).1;omega,⟨⟨A,h1,h3,h4⟩,λm hm=>⟨#[],0,(h5 m hm).2,by simp[dA],λs _=>⟨.slice none 0 0,rfl,⟨rfl,Or.inl ⟨rfl,rfl⟩⟩⟩,by simp[ie],λs h=>absurd rfl h⟩,h6⟩,h7⟩
theorem GF{q:Nat}(hb1:Below ((((w.alloc (.cells A ta)).drewN q).alloc (.cells B tb)).drew).heap.size ((((w.alloc (.cells A ta)).drewN q).alloc (.cells B tb)).drew) w1):
  (∀o,w1.cell? ⟨w.heap.size,o,none⟩=A[o]?)/\(∀o,w1.frozen? ⟨w.heap.size,o,none⟩=false)/\(∀o,w1.cell? ⟨w.heap.size+1,o,none⟩=B[o]?)/\Below (w.heap.size+2) ((w.alloc (.cells A ta)).alloc (.cells B tb)) w1:=by
 have hb2:Below ((w.alloc (.cells A ta)).alloc (.cells B tb)).heap.size ((w.alloc (.cells A ta)).alloc (.cells B tb)) w1:=wI hb1 rfl rfl rfl rfl;have hsz:((w.alloc (.cells A ta)).alloc (.cells B tb)).heap.size=w.heap.size+2:=by simp
 rw[hsz]at hb2;have e0:w1.heap[w.heap.size]?=some (.cells A ta):=by
  rw[hb2.block _ (by omega),Qx _ _ _ (by simp)];exact IS w _
 have e1:w1.heap[w.heap.size+1]?=some (.cells B tb):=by
  rw[hb2.block _ (by omega)];simpa using IS (w.alloc (.cells A ta)) (.cells B tb)
 exact⟨λo=>by simp[World.cell?,e0],λo=>by simp[World.frozen?,e0],λo=>by simp[World.cell?,e1],hb2⟩
theorem Nh(w:World)(A B:Array Value)(ta tb:TypeId)(q o:Nat):((((w.alloc (.cells A ta)).drewN q).alloc (.cells B tb)).drew).cell? ⟨w.heap.size+1,o,none⟩=B[o]? :=by
 have e:(((w.alloc (.cells A ta)).drewN q).alloc (.cells B tb)).heap[w.heap.size+1]?=some (.cells B tb):=by
  have:=IS ((w.alloc (.cells A ta)).drewN q) (.cells B tb);have hs:((w.alloc (.cells A ta)).drewN q).heap.size=w.heap.size+1:=by simp
  rw[hs]at this;exact this
 have e':((((w.alloc (.cells A ta)).drewN q).alloc (.cells B tb)).drew).heap[w.heap.size+1]?=some (.cells B tb):=e;simp only[World.cell?,e'];simp
theorem JC(w:World)(A B:Array Value)(ta tb:TypeId)(q o:Nat):(((w.alloc (.cells A ta)).drewN q).alloc (.cells B tb)).cell? ⟨w.heap.size+1,o,none⟩=B[o]? :=Nh w A B ta tb q o
theorem OO(b num:Nat)(bm:Nat->Nat)(K:aB)(key:ByteArray)(w:World)(h:ba w b bm num K)(hK:kl K)(hkey:aK key=true)(hks:key.size<=8):
  Calls aa.prog 66 #[.pointer (some ⟨b,0,none⟩),.string key] w λe w'=>∃v',e=.returned (.tuple #[v',aG (K key).1,.int .i64 0])/\w'.ownsRow w.heap.size 88 3 v' (K key).2.length (aw (K key).2)/\Below w.heap.size w w':=by
 obtain⟨es,clock,hm,hk,hall,_⟩:=h.2.1 _ (gR key);obtain⟨sv,hent,hvs⟩:=hall key rfl;obtain⟨ad,cap,rfl,hcap⟩:=hvs.len;have hlk:∀W:World,W.heap[bm (aI key)]?=some (.map es clock)->(Instr.lookup 63 (.map (some (bm (aI key)))) (.string key) false).run aa.prog W=.ok (bw (K key).1 (.slice ad (K key).2.length cap)) W:=λW hW=>by
  rw[l8 W _ es clock key hW hk,hent]
 have hmlt:=(Array.getElem?_eq_some_iff.1 hm).1;have hma:∀X,(w.alloc X).heap[bm (aI key)]?=some (.map es clock):=λX=>by
  rw[Qx _ _ _ hmlt];exact hm
 have HSeg:Hid (∀X,Calls aa.prog 32 #[.pointer (some ⟨b,0,none⟩),.string key] (w.alloc X) λe w'=>e=.returned (.map (some (bm (aI key))))/\∃q,w'=(w.alloc X).drewN q):=λX=>uG b num bm key _ (by unfold maxLen;omega) (h.below ((AT _ _).alloc (AI _) X)).1;have hck:=iz key;have HL:Hid ((K key).2.length<=100000):=IT (hK key).2.1 (by decide);have HS:Hid (∀v∈(K key).2,v.val.size<=281474976710656):=λv hv=>by have:=(hK key).2.2.1 v hv;omega
 generalize (K key).1=c at*;generalize (K key).2=l at*;have HV:Hid _:=hvs;have HCK:Hid _:=hck;clear hvs hck hall hent hK h hm;generalize bm (aI key)=bms at*;go_enter aa.func66,aa.ntmps66;go_wp2_with (first
  |(go_at_call 29;refine (HCK.out _ (by unfold maxLen;omega)).mono ?_;rw[hkey];rintro e w1 ⟨rfl,rfl⟩)
  |(go_at_call 32;refine BY (HSeg.out _) ?_;rintro e w0 ⟨rfl,q,rfl⟩))
 have hbn:w.heap.size+1≠w.heap.size:=by omega
 have HX:Hid (∀A B,aM ((((w.alloc A).drewN q).alloc B).drew) (.slice ad l.length cap) l):=λA B=>(show aM ((((w.alloc A).drewN q).alloc B)) _ _ from QW (show World.ownsRow ((w.alloc A).drewN q) 0 117 3 (.slice ad l.length cap) l.length (aw l) from HV.out.alloc A) B).drew;go_region_held3 (λw'=>w'.cell? ⟨w.heap.size+1,0,none⟩=some (.int .i64 (c 0))/\w'.cell? ⟨w.heap.size+1,1,none⟩=some (.int .i64 (c 1))/\w'.cell? ⟨w.heap.size+1,2,none⟩=some (.int .i64 (c 2))/\w'.cell? ⟨w.heap.size+1,3,none⟩=some (.int .i64 (c 3))/\w'.cell? ⟨w.heap.size+1,4,none⟩=some (.slice ad l.length cap))
  (first|(simp[JC];done)|go_keep|(go_split_ands;exact⟨aD (by assumption) hb1,aD (by assumption) hb1,aD (by assumption) hb1,aD (by assumption) hb1,aD (by assumption) hb1⟩)|(go_split_ands;exact⟨by rw[ct hbn,ct hbn,ct hbn,ct hbn];assumption,by rw[ct hbn,ct hbn,ct hbn,ct hbn];assumption,by rw[ct hbn,ct hbn,ct hbn,ct hbn];assumption,by rw[ct hbn,ct hbn,ct hbn,ct hbn];assumption,by rw[ct hbn,ct hbn,ct hbn,ct hbn];assumption⟩))
  (first|(go_at_call 90;refine (OH _ l _ (HX.out _ _) HL.out HS.out).mono ?_;rintro e w1 ⟨v',rfl,hown,hb1⟩;obtain⟨m0,m1,m2,m3⟩:=GF hb1;have HO:Hid _:=bM hown (show w.heap.size+2<=_ by simp[World.drew]);have HB:Hid _:=m3;clear hown m3))
 all_goals
  go_wp2;refine Q1 (v:=.tuple #[v',aG c,.int .i64 0]) ?_ rfl ⟨_,rfl,?_,?_⟩
  ·simp[results,aa.results66,go_sem,m0]
  ·exact bM (Q3 (Q3 (Q3 (Q3 HO.out (by simp) _) (by simp) _) (by simp) _) (by simp) _) (by omega)
  ·have base:Below w.heap.size w w1:=(((AT _ _).alloc (AI _) _).alloc (by simp) _).trans (HB.out.mono (by omega));exact (((base.setCell (AI _) _).setCell (AI _) _).setCell (AI _) _).setCell (AI _) _
theorem iK(hb:Below W.heap.size W w1):(∀b o,b<W.heap.size->w1.cell? ⟨b,o,none⟩=W.cell? ⟨b,o,none⟩)/\(∀b o,b<W.heap.size->w1.frozen? ⟨b,o,none⟩=W.frozen? ⟨b,o,none⟩):=
 ⟨λb o h=>hb.cell (p:=⟨b,o,none⟩) h,λb o h=>hb.frozen (p:=⟨b,o,none⟩) h⟩
theorem qa(b num:Nat)(bm:Nat->Nat)(key:ByteArray)(w:World)(hs:key.size<=maxLen)(h:cY w b bm num):
  Calls aa.prog 32 #[.pointer (some ⟨b,0,none⟩),.string key] w λe w'=>e=.returned (.map (some (bm (aI key))))/\Below w.heap.size w w'/\w'.heap.size=w.heap.size:=by
 refine (uG b num bm key w hs h).mono ?_;rintro e w' ⟨rfl,q,rfl⟩;exact⟨rfl,Rf (AT _ _) q,rfl⟩
theorem aM.below(h:aM w sv l)(hb:Below w.heap.size w W):aM W sv l:=h.jo λg hg _=>hb.block g hg
theorem aj(h:w.heap[b]?=some (.cells A t)):(∀o,w.cell? ⟨b,o,none⟩=A[o]?)/\(∀o,w.frozen? ⟨b,o,none⟩=false):=
 ⟨λo=>by simp[World.cell?,h],λo=>by simp[World.frozen?,h]⟩
theorem fL{w3:World}(hb:Below W.heap.size W w3)(h:Below w.heap.size w W):Below w.heap.size w w3:=cI h hb
theorem me{w2:World}(hb2:Below ((w.alloc (.cells A ta)).alloc (.cells B tb)).heap.size ((w.alloc (.cells A ta)).alloc (.cells B tb)) w2):
  (∀o,w2.cell? ⟨w.heap.size+1,o,none⟩=B[o]?)/\Below w.heap.size w w2/\w.heap.size+1<w2.heap.size:=by
 have hsz:((w.alloc (.cells A ta)).alloc (.cells B tb)).heap.size=w.heap.size+2:=by simp
 rw[hsz]at hb2;have e1:w2.heap[w.heap.size+1]?=some (.cells B tb):=by
  rw[hb2.block _ (by omega)];simpa using IS (w.alloc (.cells A ta)) (.cells B tb)
 exact⟨λo=>by simp[World.cell?,e1],(((AT _ _).alloc (AI _) _).alloc (by simp) _).trans (hb2.mono (by omega)),(Array.getElem?_eq_some_iff.1 e1).1⟩
theorem N9(b num:Nat)(bm:Nat->Nat)(K:aB)(key:ByteArray)(seen:Ctx)(w:World)(h:ba w b bm num K)(hK:kl K)(hkey:aK key=true)(hks:key.size<=8)(hseen:bn seen=true)(hn:(ak (K key).2 seen).length=(K key).2.length):
  Calls aa.prog 15 #[.pointer (some ⟨b,0,none⟩),.string key,aG seen] w λe w'=>e=.returned (.int .i64 5)/\Below w.heap.size w w':=by
 have hb:=h.1;obtain⟨es,clock,hm,hk,hall,_⟩:=h.2.1 _ (gR key);obtain⟨sv,hent,hvs⟩:=hall key rfl;obtain⟨ad,cap,rfl,hcap⟩:=hvs.len;have hlk:∀W:World,W.heap[bm (aI key)]?=some (.map es clock)->(Instr.lookup 63 (.map (some (bm (aI key)))) (.string key) false).run aa.prog W=.ok (bw (K key).1 (.slice ad (K key).2.length cap)) W:=λW hW=>by
  rw[l8 W _ es clock key hW hk,hent]
 have HSeg:Hid (∀W,cY W b bm num->Calls aa.prog 32 #[.pointer (some ⟨b,0,none⟩),.string key] W λe w'=>e=.returned (.map (some (bm (aI key))))/\Below W.heap.size W w'/\w'.heap.size=W.heap.size):=λW hW=>qa b num bm key W (by unfold maxLen;omega) hW;have HBlk:Hid (∀W,Below w.heap.size w W->cY W b bm num):=λW hW=>(h.below hW).1;have HL:Hid ((K key).2.length<=100000):=IT (hK key).2.1 (by decide);have HR:Hid (∀v∈(K key).2,v.rep<4):=(hK key).1;generalize (K key).1=c at*;generalize (K key).2=l at*;have HV:Hid _:=hvs;have HN:Hid _:=hn;have HCK:Hid _:=iz key;have HSO:Hid _:=mH seen;clear hvs hall hent hK hn h;generalize hbms:bm (aI key)=bms at*;have HBMS:Hid _:=hbms;clear hbms;go_enter aa.func15,aa.ntmps15;go_wp2_with (first
  |(go_at_call 29;refine (HCK.out _ (by unfold maxLen;omega)).mono ?_;rw[hkey];rintro e w1 ⟨rfl,rfl⟩)
  |(go_at_call 31;refine (HSO.out _).mono ?_;rw[hseen];rintro e w2 ⟨rfl,hb2⟩;obtain⟨c2,hB2,hz2⟩:=me hb2;clear hb2))
 have hmk:Hid (∀w',Below w2.heap.size w2 w'->cY w' b bm num/\(Instr.lookup 63 (.map (some bms)) (.string key) false).run aa.prog w'=.ok (bw c (.slice ad l.length cap)) w'/\aM w' (.slice ad l.length cap) l/\w'.cell? ⟨w.heap.size+1,0,none⟩=some (.int .i64 (seen 0))/\w'.cell? ⟨w.heap.size+1,1,none⟩=some (.int .i64 (seen 1))/\w'.cell? ⟨w.heap.size+1,2,none⟩=some (.int .i64 (seen 2))/\w'.cell? ⟨w.heap.size+1,3,none⟩=some (.int .i64 (seen 3))):=λw' hw=>
  ⟨HBlk.out _ (cI hB2 hw),hlk w' (dw (dw hm hB2) hw),(aM.below HV.out hB2).below hw,aD (c2 0) hw,aD (c2 1) hw,aD (c2 2) hw,aD (c2 3) hw⟩
 have HB2:Hid _:=hB2;clear hB2 c2 hlk;go_region_held3 (λw'=>cY w' b bm num/\(Instr.lookup 63 (.map (some bms)) (.string key) false).run aa.prog w'=.ok (bw c (.slice ad l.length cap)) w'/\aM w' (.slice ad l.length cap) l/\w'.cell? ⟨w.heap.size+1,0,none⟩=some (.int .i64 (seen 0))/\w'.cell? ⟨w.heap.size+1,1,none⟩=some (.int .i64 (seen 1))/\w'.cell? ⟨w.heap.size+1,2,none⟩=some (.int .i64 (seen 2))/\w'.cell? ⟨w.heap.size+1,3,none⟩=some (.int .i64 (seen 3)))
  ((refine hmk.out _ ?_;first|(simp (maxDischargeDepth:=12) [AT,Qy,Qz,QE];done)|(simp (maxDischargeDepth:=12) [AT,Qy,Qz,QE,B5,y5];done)|(simp (maxDischargeDepth:=12) [AT,Qy,Qz,QE,B3,z3];done)))
  (first|(go_at_call 32;refine BY (HSeg.out _ (by go_split_ands;assumption)) ?_;rintro e w5 ⟨rfl,hb5,z5⟩;obtain⟨s1,s2⟩:=iK hb5;(try simp only[RL,cA]at z5);have B5:Below w2.heap.size w2 w5:=fL hb5 (by simp (maxDischargeDepth:=12) [AT,Qy,Qz]);have y5:=B5.size;clear hb5)|(go_at_call 43;refine (Df c _ l seen _ (by go_split_ands;assumption) HR.out HL.out HN.out).mono ?_;rintro e w3 ⟨rfl,hb3⟩;obtain⟨q1,q2⟩:=iK hb3;have B3:Below w2.heap.size w2 w3:=fL hb3 (by simp (maxDischargeDepth:=12) [AT,Qy,Qz,B5,y5]);have z3:=B3.size;clear hb3))
 all_goals
  go_wp2_with (go_at_call 35;refine (vc b key (λ_=>0) (.slice none 0 0) 5 _ (by decide)).mono ?_;rintro e w4 ⟨rfl,hb4⟩;have B4:Below w2.heap.size w2 w4:=fL hb4 (by simp (maxDischargeDepth:=12) [AT,Qy,Qz,QE,B3,z3]);clear hb4)
  go_ret;exact⟨rfl,cI HB2.out B4⟩
theorem cA(w:World)(X:Obj):(w.alloc X).heap.size=w.heap.size+1:=by simp
theorem qm{w4:World}{row:Option Nat}(h:Below w.heap.size w W)(hg:W.grownBy w4 row):w.grownBy w4 row:=
 ⟨hg.os.trans h.os,hg.tape.trans h.tape,hg.output.trans h.output,IT h.size hg.size,λk hk hn=>(hg.block k (QL hk h.size) hn).trans (h.block k hk)⟩
theorem aM.tI{B:Nat}(h:w.ownsRow B 117 3 v l.length (aw l)):aM w v l:=bM h (QQ _)
theorem Eb{es:List MapEntry}{c:Ctx}(h:(bp es key).getD ij=bw c sv)(hv:aM w sv l)(hl:0<l.length):bp es key≠none:=λhn=>by
 rw[hn]at h;obtain⟨ad,cap,rfl,_⟩:=hv.len;simp[ij]at h;omega
theorem BA{c d:Ctx}(hc:∀i,i<4->0<=c i)(h:eE c):eE (al c d):=by
 obtain⟨i,hi,hn⟩:=h
 have:=hc i hi;refine⟨i,hi,?_⟩;simp only[al];omega
theorem Ja(b num:Nat)(bm:Nat->Nat)(K:aB)(key:ByteArray)(seen:Ctx)(w:World)(h:ba w b bm num K)(hK:kl K)(hkey:aK key=true)(hks:key.size<=8)(hseen:bn seen=true)(hn:(ak (K key).2 seen).length<(K key).2.length):
  Calls aa.prog 15 #[.pointer (some ⟨b,0,none⟩),.string key,aG seen] w λe w'=>e=.returned (.int .i64 0)/\ba w' b bm num (ez K key (al (K key).1 seen,ak (K key).2 seen))/\w.grownBy w' (some (bm (aI key))):=by
 have hb:=h.1;have HRep:Hid _:=h;obtain⟨es,clock,hm,hk,hall,_,hkn⟩:=h.2.1 _ (gR key);obtain⟨sv,hent,hvs⟩:=hall key rfl;have HKn:Hid (eE (al (K key).1 seen)):=BA (λi hi=>((hK key).2.2.2 i hi).1) (hkn key (Eb hent hvs (by omega)));obtain⟨ad,cap,rfl,hcap⟩:=hvs.len;have hlk:∀W:World,W.heap[bm (aI key)]?=some (.map es clock)->(Instr.lookup 63 (.map (some (bm (aI key)))) (.string key) false).run aa.prog W=.ok (bw (K key).1 (.slice ad (K key).2.length cap)) W:=λW hW=>by
  rw[l8 W _ es clock key hW hk,hent]
 have HSeg:Hid (∀W,cY W b bm num->Calls aa.prog 32 #[.pointer (some ⟨b,0,none⟩),.string key] W λe w'=>e=.returned (.map (some (bm (aI key))))/\Below W.heap.size W w'/\w'.heap.size=W.heap.size):=λW hW=>qa b num bm key W (by unfold maxLen;omega) hW;have HBlk:Hid (∀W,Below w.heap.size w W->cY W b bm num):=λW hW=>(h.below hW).1;have HL:Hid ((K key).2.length<=100000):=IT (hK key).2.1 (by decide);have HR:Hid (∀v∈(K key).2,v.rep<4):=(hK key).1;generalize (K key).1=c at*;generalize (K key).2=l at*;have HV:Hid _:=hvs;have HN:Hid _:=hn;have HCK:Hid _:=iz key;have HSO:Hid _:=mH seen;clear hvs hall hent hK hn h;generalize hbms:bm (aI key)=bms at*;have HBMS:Hid _:=hbms;clear hbms;go_enter aa.func15,aa.ntmps15;go_wp2_with (first
  |(go_at_call 29;refine (HCK.out _ (by unfold maxLen;omega)).mono ?_;rw[hkey];rintro e w1 ⟨rfl,rfl⟩)
  |(go_at_call 31;refine (HSO.out _).mono ?_;rw[hseen];rintro e w2 ⟨rfl,hb2⟩;obtain⟨c2,hB2,hz2⟩:=me hb2;clear hb2))
 have hmk:Hid (∀w',Below w2.heap.size w2 w'->cY w' b bm num/\(Instr.lookup 63 (.map (some bms)) (.string key) false).run aa.prog w'=.ok (bw c (.slice ad l.length cap)) w'/\aM w' (.slice ad l.length cap) l/\w'.cell? ⟨w.heap.size+1,0,none⟩=some (.int .i64 (seen 0))/\w'.cell? ⟨w.heap.size+1,1,none⟩=some (.int .i64 (seen 1))/\w'.cell? ⟨w.heap.size+1,2,none⟩=some (.int .i64 (seen 2))/\w'.cell? ⟨w.heap.size+1,3,none⟩=some (.int .i64 (seen 3))):=λw' hw=>
  ⟨HBlk.out _ (cI hB2 hw),hlk w' (dw (dw hm hB2) hw),(aM.below HV.out hB2).below hw,aD (c2 0) hw,aD (c2 1) hw,aD (c2 2) hw,aD (c2 3) hw⟩
 have HB2:Hid _:=hB2;clear hB2 c2 hlk;go_region_held3 (λw'=>cY w' b bm num/\(Instr.lookup 63 (.map (some bms)) (.string key) false).run aa.prog w'=.ok (bw c (.slice ad l.length cap)) w'/\aM w' (.slice ad l.length cap) l/\w'.cell? ⟨w.heap.size+1,0,none⟩=some (.int .i64 (seen 0))/\w'.cell? ⟨w.heap.size+1,1,none⟩=some (.int .i64 (seen 1))/\w'.cell? ⟨w.heap.size+1,2,none⟩=some (.int .i64 (seen 2))/\w'.cell? ⟨w.heap.size+1,3,none⟩=some (.int .i64 (seen 3)))
  ((refine hmk.out _ ?_;first|(simp (maxDischargeDepth:=12) [AT,Qy,Qz,QE];done)|(simp (maxDischargeDepth:=12) [AT,Qy,Qz,QE,B5,y5];done)|(simp (maxDischargeDepth:=12) [AT,Qy,Qz,QE,B3,z3];done)))
  (first|(go_at_call 32;refine BY (HSeg.out _ (by go_split_ands;assumption)) ?_;rintro e w5 ⟨rfl,hb5,z5⟩;obtain⟨s1,s2⟩:=iK hb5;(try simp only[RL,cA]at z5);have B5:Below w2.heap.size w2 w5:=fL hb5 (by simp (maxDischargeDepth:=12) [AT,Qy,Qz]);have y5:=B5.size;clear hb5)|(go_at_call 43;refine (L9 c _ l seen _ (by go_split_ands;assumption) HR.out HL.out HN.out).mono ?_;rintro e w3 ⟨v',rfl,hown,hb3⟩;obtain⟨ad',cap',hv'⟩:=lB hown;subst hv';have O3:=hown;(try simp only[RL,cA,z5]at O3);clear hown;obtain⟨q1,q2⟩:=iK hb3;have B3:Below w2.heap.size w2 w3:=fL hb3 (by simp (maxDischargeDepth:=12) [AT,Qy,Qz,B5,y5]);have z3:=B3.size;clear hb3))
 all_goals
  go_wp2_with (go_at_call 35;go_must (refine (yW b num bm K key (al c seen) _ (ak l seen) _ ⟨by omega,hkey⟩ HKn.out (ba.below HRep.out (cI HB2.out (by simp (maxDischargeDepth:=12) [AT,Qy,Qz,QE,B3,z3]))) (by first|(refine aM.tI (B:=w2.heap.size) ?_;simp (maxDischargeDepth:=12) [QW,O3];done)|(refine aM.tI (B:=w2.heap.size+1) ?_;simp (maxDischargeDepth:=12) [Q3,O3];done))).mono ?_);rintro e w4 ⟨rfl,hrep4,hg4⟩;have B5:=qm (w:=w2) (by simp (maxDischargeDepth:=12) [AT,Qy,Qz,QE,B3,z3]) hg4;have HR4:Hid _:=hrep4;clear hrep4 hg4)
  go_ret;exact⟨rfl,HR4.out,by have g:=qm HB2.out B5;rw[HBMS.out]at g;exact g⟩
end Go.Proofs.YtldmcdeibiclkaaGreatQ
