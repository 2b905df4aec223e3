/-
  Toward converged_holds: The map of a replica: what a lookup and an update of a map with texts as keys come to.
-/
import Derived.Test.YtldmcdeibiclkaaGreatDoorC16
import Derived.Laws.StructEq
import Derived.Laws.Bits64
import Derived.Deep.RegionHeld3
import Derived.Laws.MakeOwn
import Derived.Test.YtldmcdeibiclkaaGreatDoorC15
import Derived.WalkKit
set_option linter.unusedVariables false
set_option linter.unusedSimpArgs false
set_option maxRecDepth 100000
set_option maxHeartbeats 20000000
namespace Go.Proofs.YtldmcdeibiclkaaGreatDoorQ
variable {w W w1 w':World}{b k clock o:Nat}{bm:Nat->Nat}{l:List aj}{t ta tb:TypeId}{sv v z x y:Value}{M A B:Array Value}{es:Array MapEntry}{key:ByteArray}
open Go.RowKit
theorem bytes_beq(a b:ByteArray):(a==b)=decide (a=b):=by
 rw[beq_toListBytes,Bool.eq_iff_iff];simp only[ByteArray.toList_eq,beq_iff_eq,Array.toList_inj,VN];exact⟨λh=>by cases a;cases b;simp_all,λh=>by rw[h]⟩
def fB(es:List MapEntry):Prop:=∀e∈es,∃k,e.key=.string k
def cy:List MapEntry->ByteArray->Option Value
 |[],_=>none
 |e::es,s=>match e.key with
  |.string k=>if s=k then some e.val else cy es s
  |_=>cy es s
theorem we(s:ByteArray):∀(es:List MapEntry) (i:Nat),fB es->cy es s=none->Instr.findNow .string (.string s) es i=some none
 |[],_,_,_=>rfl
 |e::es,i,hk,h=>by
  obtain⟨k,he⟩:=hk e (by simp);simp only[cy,he]at h;by_cases hs:s=k
  ·rw[AS hs]at h;cases h
  ·rw[AI hs]at h;have hsb:(s==k)=false:=by rw[bytes_beq];simpa using hs
   simp only[Instr.findNow,Instr.sameNow,he,hsb];exact we s es (i+1) (λe' h'=>hk e' (by simp[h'])) h
theorem qc(s:ByteArray)(v:Value):∀(es:List MapEntry) (i:Nat),fB es->cy es s=some v->∃j,j<es.length/\Instr.findNow .string (.string s) es i=some (some (i+j,v))/\(es[j]?).map (·.key)=some (.string s)
 |[],_,_,h=>by cases h
 |e::es,i,hk,h=>by
  obtain⟨k,he⟩:=hk e (by simp);simp only[cy,he]at h;by_cases hs:s=k
  ·rw[AS hs]at h;cases h;subst hs;exact⟨0,by simp,by simp[Instr.findNow,Instr.sameNow,he,bytes_beq],by simp[he]⟩
  ·rw[AI hs]at h;have hsb:(s==k)=false:=by rw[bytes_beq];simpa using hs
   obtain⟨j,hj,hf,hkey⟩:=qc s v es (i+1) (λe' h'=>hk e' (by simp[h'])) h;refine⟨j+1,by simpa using hj,?_,by simpa using hkey⟩;simp only[Instr.findNow,Instr.sameNow,he,hsb];rw[hf];congr 3;omega
theorem Di(w:World)(b:Bool)(n:Nat)(s:ByteArray):(Instr.checkKey b (n+1) 9 (.string s)).run aa.prog w=.ok () w:=by
 have hs:aa.prog.underlying 9=some .string:=aa.underlying9;simp only[Instr.checkKey,VQ,Wx hs,We];rfl
abbrev lh:Value:=.agg #[.int .i64 0,.int .i64 0,.int .i64 0,.int .i64 0,.slice none 0 0]
theorem ou(w:World)(bm:Nat)(es:Array MapEntry)(clock:Nat)(s:ByteArray)(hm:w.heap[bm]?=some (.map es clock))(hk:fB es.toList):
  (Instr.lookup 98 (.map (some bm)) (.string s) false).run aa.prog w=.ok ((cy es.toList s).getD lh) w:=by
 have hu:aa.prog.underlying 98=some (.map 9 106):=aa.underlying98;have hs:aa.prog.underlying 9=some .string:=aa.underlying9;have hck:∀b,(Instr.checkKey b 10000 9 (.string s)).run aa.prog w=.ok () w:=λb=>Di w b 9999 s;cases he:cy es.toList s with
 |none=>
  have hf:=we s es.toList 0 hk he;simp[Instr.lookup,Wx hu,Wx hs,getObj,Sem.run,hm,hck,Instr.findKey,hf]
 |some v=>
  obtain⟨j,hj,hf,hkey⟩:=qc s v es.toList 0 hk he;simp[Instr.lookup,Wx hu,Wx hs,getObj,Sem.run,hm,hck,Instr.findKey,hf]
theorem Fs(t:ByteArray)(e:MapEntry)(k:ByteArray)(he:e.key=.string k):∀es:List MapEntry,fB es->cy (es++ [e]) t=(cy es t).or (if t=k then some e.val else none)
 |[],_=>by simp[cy,he]
 |x::es,hk=>by
  obtain⟨q,hq⟩:=hk x (by simp);simp only[Ws,cy,hq];by_cases h:t=q
  ·simp[h]
  ·rw[AI h,AI h];exact Fs t e k he es (λe' h'=>hk e' (by simp[h']))
theorem DI(s:ByteArray):∀(es:List MapEntry) (i q:Nat) (v:Value),Instr.findNow .string (.string s) es i=some (some (q,v))->i<=q
 |[],i,q,v,h=>by simp[Instr.findNow]at h
 |e::es,i,q,v,h=>by
  simp only[Instr.findNow]at h;split at h
  ·simp at h;omega
  ·have:=DI s es (i+1) q v h;omega
  ·cases h
theorem xl(s t:ByteArray)(v v':Value)(f:MapEntry->MapEntry)(hfk:∀e,(f e).key=.string s)(hfv:∀e,(f e).val=v'):∀(es:List MapEntry) (i j:Nat),fB es->Instr.findNow .string (.string s) es i=some (some (i+j,v))->cy (es.modify j f) t=(if t=s then some v' else cy es t)/\fB (es.modify j f)
 |[],i,j,_,h=>by simp[Instr.findNow]at h
 |e::es,i,j,hk,h=>by
  obtain⟨k,he⟩:=hk e (by simp);by_cases hs:s=k
  ·subst hs;simp only[Instr.findNow,Instr.sameNow,he,bytes_beq,decide_true]at h;have hj:j=0:=by simp at h;omega
   subst hj;refine⟨?_,?_⟩
   ·simp only[List.modify_zero_cons,cy,hfk,hfv,he];by_cases h':t=s<;>simp[h']
   ·intro x hx;simp only[List.modify_zero_cons,Xm]at hx;rcases hx with rfl|hx
    ·exact⟨s,hfk e⟩
    ·exact hk x (by simp[hx])
  ·have hsb:(s==k)=false:=by rw[bytes_beq];simpa using hs
   simp only[Instr.findNow,Instr.sameNow,he,hsb]at h;have hj:1<=j:=by
    rcases WZ j with h0|h0
    ·subst h0
     have:=DI s es (i+1) _ _ h;omega
    ·exact h0
   obtain⟨j',rfl⟩: ∃j',j=j'+1:=⟨j-1,by omega⟩
   rw[show i+(j'+1)=i+1+j' by omega]at h;obtain⟨h1,h2⟩:=xl s t v v' f hfk hfv es (i+1) j' (λe' h'=>hk e' (by simp[h'])) h;refine⟨?_,?_⟩
   ·simp only[List.modify_succ_cons,cy,he];rw[h1];by_cases h':t=k
    ·simp[h'];intro q;exact absurd q (λq=>hs q.symm)
    ·simp[h']
   ·intro x hx;simp only[List.modify_succ_cons,Xm]at hx;rcases hx with rfl|hx
    ·exact⟨k,he⟩
    ·exact h2 x hx
def j8(Q:ByteArray->Prop)(es:List MapEntry)(clock:Nat):Prop:=
 (es.map (·.key)).Nodup/\(es.map (·.born)).Nodup/\(∀e∈es,e.born<clock)/\∀e∈es,∃k,e.key=.string k/\Q k
theorem xh{s:ByteArray}:∀{es:List MapEntry},fB es->cy es s=none->∀e∈es,e.key≠.string s
 |[],_,_,e,he=>by simp at he
 |x::es,hk,h,e,he=>by
  obtain⟨q,hq⟩:=hk x (by simp);simp only[cy,hq]at h;by_cases hs:s=q
  ·rw[AS hs]at h;cases h
  ·rw[AI hs]at h;simp only[Xm]at he;rcases he with rfl|he
   ·rw[hq];intro e;injection e with e;exact hs e.symm
   ·exact xh (λe' h'=>hk e' (by simp[h'])) h e he
theorem Cf{α β:Type}(g:α->β)(f:α->α)(l:List α)(j:Nat)(h:∀x,l[j]?=some x->g (f x)=g x):(l.modify j f).map g=l.map g:=by
 apply List.ext_getElem?;intro i;simp only[List.getElem?_map,List.getElem?_modify];by_cases e:j=i
 ·subst e;simp only[IS];cases hx:l[j]? with
  |none=>rfl
  |some x=>simp[h x hx]
 ·simp[e]
def ia(w:World)(bm:Nat)(es:Array MapEntry)(clock:Nat):World:={w with heap:=w.heap.setIfInBounds bm (.map es clock)}
theorem Et(bm:Nat)(es:Array MapEntry)(clock:Nat)(s:ByteArray)(v:Value)(hk:fB es.toList):
  ∃es' clock',(∀w:World,w.heap[bm]?=some (.map es clock)->(Instr.mapUpdate 98 (.map (some bm)) (.string s) v).run aa.prog w=.ok () (ia w bm es' clock'))/\fB es'.toList/\(∀t,cy es'.toList t=if t=s then some v else cy es.toList t)/\∀Q,Q s->j8 Q es.toList clock->j8 Q es'.toList clock':=by
 have hu:aa.prog.underlying 98=some (.map 9 106):=aa.underlying98;have hs:aa.prog.underlying 9=some .string:=aa.underlying9;have hck:∀w b,(Instr.checkKey b 10000 9 (.string s)).run aa.prog w=.ok () w:=λw b=>Di w b 9999 s;cases he:cy es.toList s with
 |none=>
  have hf:=we s es.toList 0 hk he;refine⟨es.push {key:=.string s,val:=v,born:=clock},clock+1,?_,?_,?_,?_⟩
  ·intro w hm;simp[Instr.mapUpdate,Wx hu,Wx hs,getObj,setObj,Sem.run,hm,hck,Instr.findKey,hf,ia]
  ·intro x hx;simp at hx;rcases hx with hx|rfl
   ·exact hk x (by simpa using hx)
   ·exact⟨s,rfl⟩
  ·intro t;rw[Array.toList_push,Fs t _ s rfl _ hk];by_cases h:t=s
   ·subst h;simp[he]
   ·simp[h]
  ·rintro Q hQ ⟨s1,s2,s3,s4⟩;rw[Array.toList_push];refine⟨?_,?_,λe h=>?_,λe h=>?_⟩
   ·rw[WL,List.nodup_append];refine⟨s1,by simp,λa ha b hb=>?_⟩;simp at hb;subst hb;obtain⟨x,hx,rfl⟩:=Wm.1 ha;exact xh hk he x hx
   ·rw[WL,List.nodup_append];refine⟨s2,by simp,λa ha b hb=>?_⟩;simp at hb;subst hb;obtain⟨x,hx,rfl⟩:=Wm.1 ha;exact Nat.ne_of_lt (s3 x hx)
   ·simp only[List.mem_append,List.mem_singleton]at h;rcases h with h|rfl
    ·have:=s3 e h;omega
    ·exact Nat.lt_succ_self _
   ·simp only[List.mem_append,List.mem_singleton]at h;rcases h with h|rfl
    ·exact s4 e h
    ·exact⟨s,rfl,hQ⟩
 |some u=>
  obtain⟨j,hj,hf,hkey⟩:=qc s u es.toList 0 hk he;have hkj:(es[j]?).map (·.key)=some (.string s):=by simpa using hkey
  have hsb:Instr.sameBits 10000 (.string s) (.string s)=true:=by simp[Instr.sameBits,bytes_beq]
  refine⟨es.modify j λe=>{e with key:=.string s,val:=v},clock,?_,?_,?_,?_⟩
  ·intro w hm;simp[Instr.mapUpdate,Wx hu,Wx hs,getObj,setObj,Sem.run,hm,hck,Instr.findKey,hf,hkj,Instr.keyThatStays,hsb,ia]
  ·rw[Array.toList_modify];exact (xl s s u v _ (λ_=>rfl) (λ_=>rfl) es.toList 0 j hk hf).2
  ·intro t;rw[Array.toList_modify];exact (xl s t u v _ (λ_=>rfl) (λ_=>rfl) es.toList 0 j hk hf).1
  ·rintro Q hQ ⟨s1,s2,s3,s4⟩;rw[Array.toList_modify];have ek:(es.toList.modify j λe=>{e with key:=.string s,val:=v}).map (·.key)=es.toList.map (·.key):=Cf _ _ _ _ λx hx=>by
    rw[hx]at hkey;simp at hkey;exact hkey.symm
   have eb:(es.toList.modify j λe=>{e with key:=.string s,val:=v}).map (·.born)=es.toList.map (·.born):=Cf _ _ _ _ λx hx=>rfl;refine⟨by rw[ek];exact s1,by rw[eb];exact s2,λe h=>?_,λe h=>?_⟩
   ·have:e.born∈(es.toList.modify j λe=>{e with key:=.string s,val:=v}).map (·.born):=Wm.2 ⟨e,h,rfl⟩;rw[eb]at this;obtain⟨x,hx,e1⟩:=Wm.1 this;rw[<-e1];exact s3 x hx
   ·have:e.key∈(es.toList.modify j λe=>{e with key:=.string s,val:=v}).map (·.key):=Wm.2 ⟨e,h,rfl⟩;rw[ek]at this;obtain⟨x,hx,e1⟩:=Wm.1 this;obtain⟨k,hk1,hk2⟩:=s4 x hx;exact⟨k,by rw[<-e1];exact hk1,hk2⟩
def ko(s:ByteArray)(k:Nat):Int:=if h:k<s.size then (s[k].toNat:Int) else 0
def hY(s:ByteArray):Nat->Int
 |0=>14695981039346656037
 |k+1=>IntKind.u64.wrap (Go.bits .xor .u64 (hY s k) (ko s k)*1099511628211)
def dA(s:ByteArray):Int:=hY s s.size
def aC(s:ByteArray):Nat:=(dA s%64).toNat
theorem qg(s:ByteArray):∀k,0<=hY s k/\hY s k<18446744073709551616
 |0=>by simp[hY]
 |k+1=>by
  simp only[hY,IntKind.wrap_u64];exact⟨Int.emod_nonneg _ (by decide),Int.emod_lt_of_pos _ (by decide)⟩
theorem eX(s:ByteArray):aC s<64:=by
 unfold aC;have h1:=Int.emod_nonneg (dA s) (show (64:Int)≠0 by decide);have h2:=Int.emod_lt_of_pos (dA s) (show (0:Int)<64 by decide);omega
theorem Qr(s:ByteArray):((aC s:Nat):Int)=dA s%64:=by
 unfold aC;have h1:=Int.emod_nonneg (dA s) (show (64:Int)≠0 by decide);omega
theorem xD(b:UInt8):IntKind.u64.wrap (b.toNat:Int)=(b.toNat:Int):=by
 rw[IntKind.wrap_u64]
 have:=b.toNat_lt;omega
theorem xB(s:ByteArray)(k:Nat)(h:k<s.size):ko s k=(s[k].toNat:Int):=by simp[ko,h]
theorem wG(s:ByteArray)(w:World)(hs:s.size<=maxLen):
  Calls aa.prog 82 #[.string s] w λe w'=>e=.returned (.int .u64 (dA s))/\w'=w:=by
 unfold maxLen at hs;go_enter aa.func82,aa.ntmps82;go_wp2;go_loop [3,7] (λd i=>∃k:Nat,k<=s.size/\i=.int .i64 k/\d=.int .u64 (hY s k)) (λ_ i=>s.size-(intOf i).toNat)
 case atStart=>exact⟨0,by omega,rfl,rfl⟩
 case round=>
  obtain⟨k,hk,rfl,rfl⟩:=hrel;by_cases hlt:k<s.size
  ·have g1:(k:Int)<(s.size:Int):=by omega
   have g0:(0:Int)<=(k:Int):=by omega
   have hst:Hid (hY s (k+1)=IntKind.u64.wrap (Go.bits .xor .u64 (hY s k) (s[k].toNat:Int)*1099511628211)):=by
    show hY s (k+1)=_;rw[hY,xB s k hlt]
   go_wp2;refine⟨⟨k+1,by omega,by go_num,?_⟩,by simp[intOf];omega⟩;rw[hst.out,xD]
  ·have hke:k=s.size:=by omega
   go_wp2;go_ret;exact⟨rfl,rfl⟩
theorem UG(w:World):Calls aa.prog 46 #[.int .i64 3] w λe w'=>e=.returned (.int .i64 64)/\w'=w:=by
 go_enter aa.func46,aa.ntmps46;go_wp2;go_loop [3,5] (λc i=>(i=.int .i64 0/\c=.int .i64 1)\/(i=.int .i64 1/\c=.int .i64 4)\/(i=.int .i64 2/\c=.int .i64 16)\/(i=.int .i64 3/\c=.int .i64 64)) (λ_ i=>3-(intOf i).toNat)
 case atStart=>exact Or.inl ⟨rfl,rfl⟩
 case round=>
  rcases hrel with⟨rfl,rfl⟩|⟨rfl,rfl⟩|⟨rfl,rfl⟩|⟨rfl,rfl⟩
  ·go_wp2;exact⟨Or.inr (Or.inl ⟨rfl,rfl⟩),by decide⟩
  ·go_wp2;exact⟨Or.inr (Or.inr (Or.inl ⟨rfl,rfl⟩)),by decide⟩
  ·go_wp2;exact⟨Or.inr (Or.inr (Or.inr ⟨rfl,rfl⟩)),by decide⟩
  ·go_wp2;go_ret;exact⟨rfl,rfl⟩
theorem zZ(s:ByteArray)(w:World)(hs:s.size<=maxLen):
  Calls aa.prog 62 #[.string s] w λe w'=>e=.returned (.int .i64 (aC s))/\w'=w:=by
 have HS:Hid _:=λW=>wG s W hs;have h0:=(qg s s.size).1;have h1:=(qg s s.size).2;have hx:Hid (dA s%64=(aC s:Int)):=(Qr s).symm;have hl:=eX s;change 0<=dA s at h0;change dA s<_ at h1;generalize dA s=F at*;go_enter aa.func62,aa.ntmps62;go_wp2_with (first
  |(go_at_call 82;refine By (HS.out _) ?_;rintro e w1 ⟨rfl,rfl⟩)
  |(go_at_call 46;refine (UG _).mono ?_;rintro e w1 ⟨rfl,rfl⟩))
 go_ret;refine⟨pT ?_,rfl⟩;exact hx.out
abbrev al:=ByteArray->Ctx×List aj
def dX(w:World)(b:Nat)(bm:Nat->Nat)(num:Nat):Prop:=
 ∃A:Array Value,w.heap[b]?=some (.cells A 101)/\A[0]?=some (.int .i64 num)/\∀n,n<64->A[n+1]?=some (.map (some (bm n)))
def cH(c:Ctx):Prop:=∃i,i<4/\c i≠0
def ot(w:World)(m n:Nat)(K:al):Prop:=
 ∃es clock,w.heap[m]?=some (.map es clock)/\fB es.toList/\(∀s,aC s=n->∃sv,(cy es.toList s).getD lh=bD (K s).1 sv/\az w sv (K s).2)/\j8 (λk=>aC k=n/\k.size<=281474976710656/\cS k=true) es.toList clock/\∀s,cy es.toList s≠none->cH (K s).1
def aA(w:World)(b:Nat)(bm:Nat->Nat)(num:Nat)(K:al):Prop:=
 dX w b bm num/\(∀n,n<64->ot w (bm n) n K)/\∀n m,n<64->m<64->bm n=bm m->n=m
theorem Aa{Q:ByteArray->Prop}:∀{es:List MapEntry} {s:ByteArray},cy es s≠none->(∀e∈es,∃k,e.key=.string k/\Q k)->Q s
 |[],_,h,_=>absurd rfl h
 |e::es,s,h,hq=>by
  obtain⟨k,hk,hQ⟩:=hq e List.mem_cons_self;by_cases hks:s=k
  ·rw[hks];exact hQ
  ·refine Aa (es:=es) (λhn=>h ?_) λe he=>hq e (List.mem_cons_of_mem _ he);simp[cy,hk,hks,hn]
def bl(K:al)(s:ByteArray)(x:Ctx×List aj):al:=λt=>if t=s then x else K t
theorem az.dH(h:az w sv l)(hk:∀g,g<w.heap.size->(∃cur,w.heap[g]?=some (.cells cur 144 (0,0)))->w'.heap[g]?=w.heap[g]?):az w' sv l:=by
 obtain⟨h1,h2⟩:=h;refine⟨h1,?_⟩;rcases h2 with h2|⟨g,cap,cur,hv,hg,hh,r⟩
 ·exact Or.inl h2
 ·exact Or.inr ⟨g,cap,cur,hv,hg,by rw[hk g (Array.getElem?_eq_some_iff.1 hh).1 ⟨cur,hh⟩];exact hh,r⟩
theorem dX.lt{num:Nat}(h:dX w b bm num):b<w.heap.size:=by
 obtain⟨A,h1,_⟩:=h;exact (Array.getElem?_eq_some_iff.1 h1).1
theorem ot.lt{m n:Nat}{K:al}(h:ot w m n K):m<w.heap.size:=by
 obtain⟨es,clock,h1,_⟩:=h;exact (Array.getElem?_eq_some_iff.1 h1).1
theorem dX.num{num:Nat}(h:dX w b bm num):w.cell? ⟨b,0,none⟩=some (.int .i64 num):=by
 obtain⟨A,h1,h2,_⟩:=h;simp[World.cell?,h1,h2]
theorem dX.ua{num:Nat}(h:dX w b bm num){n:Nat}(hn:n<64):w.cell? ⟨b,n+1,none⟩=some (.map (some (bm n))):=by
 obtain⟨A,h1,_,h2⟩:=h;simp[World.cell?,h1,h2 n hn]
theorem aA.dH{num:Nat}{K:al}(h:aA w b bm num K)(hb:w'.heap[b]?=w.heap[b]?)(hm:∀n,n<64->w'.heap[bm n]?=w.heap[bm n]?)(hk:∀g,g<w.heap.size->(∃cur,w.heap[g]?=some (.cells cur 144 (0,0)))->w'.heap[g]?=w.heap[g]?):aA w' b bm num K:=by
 obtain⟨⟨A,h1,h2⟩,h3,h4⟩:=h;refine⟨⟨A,by rw[hb];exact h1,h2⟩,λn hn=>?_,h4⟩;obtain⟨es,clock,e1,e2,e3,e4⟩:=h3 n hn;refine⟨es,clock,by rw[hm n hn];exact e1,e2,λs hs=>?_,e4⟩;obtain⟨sv,h5,h6⟩:=e3 s hs;exact⟨sv,h5,h6.dH hk⟩
theorem aA.below{num:Nat}{K:al}(h:aA w b bm num K)(hb:Below w.heap.size w w'):aA w' b bm num K:=
 h.dH (hb.block _ h.1.lt) (λn hn=>hb.block _ (h.2.1 n hn).lt) λg hg _=>hb.block g hg
theorem CA(b:Nat)(key:ByteArray)(c:Ctx)(sv:Value)(e:Int)(w:World)(he:(e==0)=false):
  Calls aa.prog 42 #[.pointer (some ⟨b,0,none⟩),.string key,bD c sv,.int .i64 e] w λr w'=>r=.returned (.int .i64 e)/\Below w.heap.size w w':=by
 go_enter aa.func42,aa.ntmps42;go_wp2;go_ret;exact⟨rfl,(AT _ _).alloc (eR _) _⟩
theorem bp{p:Addr}(h:W.cell? p=some v)(hb:Below W.heap.size W w1):w1.cell? p=some v:=by
 rw[hb.cell (World.block_lt_of_cell? W p h)];exact h
theorem aS{o:Obj}(h:W.heap[k]?=some o)(hb:Below W.heap.size W w1):w1.heap[k]?=some o:=by
 rw[hb.block k (Array.getElem?_eq_some_iff.1 h).1];exact h
theorem bf(h:Below w.heap.size w W)(hb:Below W.heap.size W w1):Below w.heap.size w w1:=h.trans (hb.mono h.size)
theorem T9{bm:Nat}(h:bm<w.heap.size):(ia w bm es clock).heap[bm]?=some (.map es clock):=by
 simp[ia,h]
theorem tI{bm:Nat}(h:k≠bm):(ia w bm es clock).heap[k]?=w.heap[k]? :=by
 simp only[ia,Array.getElem?_setIfInBounds];rw[AI (VG h)]
theorem BM{num:Nat}{K:al}{c:Ctx}{es':Array MapEntry}{clock':Nat}(hB:Below w.heap.size w w1)(h:aA w b bm num K)(hm:w.heap[bm (aC key)]?=some (.map es clock))(hk':fB es'.toList)(he:∀t,cy es'.toList t=if t=key then some (bD c sv) else cy es.toList t)(hst:∀Q,Q key->j8 Q es.toList clock->j8 Q es'.toList clock')(hks:key.size<=281474976710656/\cS key=true)(bz:cH c)(hv:az w sv l):
  aA (ia w1 (bm (aC key)) es' clock') b bm num (bl K key (c,l))/\w.grownBy (ia w1 (bm (aC key)) es' clock') (some (bm (aC key))):=by
 have hblt:=h.1.lt;have hmlt:=(Array.getElem?_eq_some_iff.1 hm).1;have hseg:=eX key;obtain⟨⟨A,hA,hA2⟩,hS,hinj⟩:=h;have hne:b≠bm (aC key):=λe=>by rw[e,hm]at hA;cases hA
 have hvk:∀sv l,az w sv l->az (ia w1 (bm (aC key)) es' clock') sv l:=λsv l h=>h.dH λg hg ⟨cur,hc⟩=>by
  rw[tI (λe=>by rw[e,hm]at hc;cases hc),hB.block g hg]
 refine⟨⟨⟨A,?_,hA2⟩,λn hn=>?_,hinj⟩,?_⟩
 ·rw[tI hne,hB.block b hblt];exact hA
 ·by_cases hns:n=aC key
  ·subst hns;obtain⟨es0,clock0,e1,e2,e3,e4⟩:=hS _ hseg;rw[hm]at e1;cases e1;refine⟨es',clock',T9 (VA hmlt hB.size),hk',λs hs=>?_,hst _ ⟨rfl,hks⟩ e4.1,λs hs=>?_⟩;rotate_left
   ·by_cases h:s=key
    ·simpa[bl,h] using bz
    ·rw[he,AI h]at hs;simpa[bl,h] using e4.2 s hs
   rw[he];by_cases h:s=key
   ·rw[AS h];exact⟨sv,by simp[bl,h],by simpa[bl,h] using hvk _ _ hv⟩
   ·rw[AI h];obtain⟨sv',h1,h2⟩:=e3 s hs;exact⟨sv',by simpa[bl,h] using h1,by simpa[bl,h] using hvk _ _ h2⟩
  ·have hl:=(hS n hn).lt;obtain⟨es0,clock0,e1,e2,e3,e4⟩:=hS n hn;refine⟨es0,clock0,?_,e2,λs hs=>?_,e4.1,λs hs=>?_⟩;rotate_left
   rotate_left
   ·have hsk:s≠key:=λe=>by
     subst e;exact hns (Aa hs e4.1.2.2.2|>.1.symm)
    simpa[bl,hsk] using e4.2 s hs
   ·rw[tI (λe=>hns (hinj _ _ hn hseg e)),hB.block _ hl];exact e1
   ·have hsk:s≠key:=λe=>hns (by rw[<-hs,e]);obtain⟨sv',h1,h2⟩:=e3 s hs;exact⟨sv',by simpa[bl,hsk] using h1,by simpa[bl,hsk] using hvk _ _ h2⟩
 ·refine⟨hB.os,hB.tape,hB.output,by simpa[ia] using hB.size,λk hk hn=>?_⟩;rw[tI (λe=>hn (by rw[e])),hB.block k hk]
theorem qf{w0:World}(hb:Below W.heap.size W w1)(e1:W.heap=w0.heap)(e2:W.os=w0.os)(e3:W.tape=w0.tape)(e4:W.output=w0.output):Below w0.heap.size w0 w1:=
 ⟨hb.os.trans e2,hb.tape.trans e3,hb.output.trans e4,by rw[<-e1];exact hb.size,λk hk=>by rw[<-e1];exact hb.block k (by rw[e1];exact hk)⟩
theorem zi(b num:Nat)(bm:Nat->Nat)(key:ByteArray)(w:World)(hs:key.size<=maxLen)(h:dX w b bm num):
  Calls aa.prog 39 #[.pointer (some ⟨b,0,none⟩),.string key] w λe w'=>e=.returned (.map (some (bm (aC key))))/\∃q,w'=w.drewN q:=by
 have HS:Hid _:=λW=>zZ key W hs;have hl:=eX key;have hc:=h.ua hl;generalize aC key=n at*;have hl':(n:Int)<64:=by omega
 have hl0:(0:Int)<=(n:Int):=by omega
 have hc':w.cell? ⟨b,1+n,none⟩=some (.map (some (bm n))):=by rw[WS];exact hc
 clear h;go_enter aa.func39,aa.ntmps39;go_wp2;go_quiet ((go_at_call 62;refine By (HS.out _) ?_;rintro e w' ⟨rfl,rfl⟩;exact⟨rfl,_,rfl⟩));go_wp2;go_ret;exact⟨rfl,_,rfl⟩
theorem E4(b num:Nat)(bm:Nat->Nat)(K:al)(key:ByteArray)(c:Ctx)(sv:Value)(l:List aj)(w:World)(hs:key.size<=281474976710656/\cS key=true)(bz:cH c)(h:aA w b bm num K)(hv:az w sv l):
  Calls aa.prog 42 #[.pointer (some ⟨b,0,none⟩),.string key,bD c sv,.int .i64 0] w λr w'=>r=.returned (.int .i64 0)/\aA w' b bm num (bl K key (c,l))/\w.grownBy w' (some (bm (aC key))):=by
 have hs1:=hs.1;obtain⟨es,clock,hm,hk,_⟩:=h.2.1 _ (eX key);obtain⟨es',clock',hrun,hk',hent,hstp⟩:=Et (bm (aC key)) es clock key (bD c sv) hk;have HF:Hid (∀w1,Below w.heap.size w w1->aA (ia w1 (bm (aC key)) es' clock') b bm num (bl K key (c,l))/\w.grownBy (ia w1 (bm (aC key)) es' clock') (some (bm (aC key)))):=λw1 hB=>BM hB h hm hk' hent hstp hs bz hv;have HSeg:Hid (∀w1,Below w.heap.size w w1->Calls aa.prog 39 #[.pointer (some ⟨b,0,none⟩),.string key] w1 λe w'=>e=.returned (.map (some (bm (aC key))))/\∃q,w'=w1.drewN q):=λw1 hB=>zi b num bm key w1 (by unfold maxLen;omega) (h.below hB).1;have HM:Hid (∀w1,Below w.heap.size w w1->w1.heap[bm (aC key)]?=some (.map es clock)):=λw1 hB=>aS hm hB;have HC:Hid (∀w1,Below (w.alloc (.cells #[.int .i64 (c 0),.int .i64 (c 1),.int .i64 (c 2),.int .i64 (c 3),sv] 106)).heap.size (w.alloc (.cells #[.int .i64 (c 0),.int .i64 (c 1),.int .i64 (c 2),.int .i64 (c 3),sv] 106)) w1->∀o,w1.cell? ⟨w.heap.size,o,none⟩=#[Value.int .i64 (c 0),.int .i64 (c 1),.int .i64 (c 2),.int .i64 (c 3),sv][o]?):=λw1 hB o=>by
  have:=aS (BY w _) hB;simp[World.cell?,this]
 have HA:Hid (∀w1,Below (w.alloc (.cells #[.int .i64 (c 0),.int .i64 (c 1),.int .i64 (c 2),.int .i64 (c 3),sv] 106)).heap.size (w.alloc (.cells #[.int .i64 (c 0),.int .i64 (c 1),.int .i64 (c 2),.int .i64 (c 3),sv] 106)) w1->Below w.heap.size w w1):=λw1 hB=>bf ((AT _ _).alloc (eR _) _) hB;clear hent hv hk hk' h hm hstp;generalize bm (aC key)=bms at*;go_enter aa.func42,aa.ntmps42;go_wp2;go_region_with (first
  |(go_at_call 41;refine (rq key _ hs1).mono ?_;rintro e w1 ⟨rfl,hb1⟩;have hB0:=qf (w0:=w.alloc (.cells #[.int .i64 (c 0),.int .i64 (c 1),.int .i64 (c 2),.int .i64 (c 3),sv] 106)) hb1 rfl rfl rfl rfl;have HB:Hid _:=HA.out _ hB0;have k1:=HC.out _ hB0;have k3:=HM.out _ HB.out;have hrun1:=hrun w1 k3;have hrun2:=λq=>hrun (w1.drewN q) k3;clear hB0 hb1)
  |(go_at_call 39;refine By (HSeg.out _ (by first|exact HB.out|exact ((AT w.heap.size w).alloc (eR _) _).drew)) ?_;rintro e w2 ⟨rfl,q,rfl⟩))
 all_goals
  go_wp2;go_ret;exact⟨rfl,HF.out _ (by first|exact HB.out|exact⟨HB.out.os,HB.out.tape,HB.out.output,HB.out.size,HB.out.block⟩)⟩
theorem heap_set{fr:Nat×Nat}(h:w.heap[b]?=some (.cells M t fr)):(w.setCell ⟨b,o,none⟩ v).heap[b]?=some (.cells (M.setIfInBounds o v) t fr):=by
 simp[World.setCell,Array.getElem?_modify,h]
theorem dh{b' o':Nat}(h:b'≠b):(w.setCell ⟨b,o,none⟩ v).cell? ⟨b',o',none⟩=w.cell? ⟨b',o',none⟩:=World.cell?_of_block (VC w ⟨b,o,none⟩ v b' h)
theorem Rk{fr:Nat×Nat}(h:w.heap[b]?=some (.cells M t fr)):(((w.setCell ⟨b,o,none⟩ x).setCell ⟨b,o+1,none⟩ y).setCell ⟨b,o+2,none⟩ z).heap[b]?=some (.cells (((M.setIfInBounds o x).setIfInBounds (o+1) y).setIfInBounds (o+2) z) t fr):=
 heap_set (heap_set (heap_set h))
theorem Sm{xs:List Value}(hs:k*3+2<M.size)(h:M.toList.take (k*3)=xs):(((M.setIfInBounds (k*3) x).setIfInBounds (k*3+1) y).setIfInBounds (k*3+2) z).toList.take ((k+1)*3)=xs++ [x,y,z]:=by
 subst h;apply List.ext_getElem?;intro t;have hl:(M.toList.take (k*3)).length=k*3:=by simp;omega
 by_cases h1:t<k*3
 ·rw[List.getElem?_take,AS (by omega),List.getElem?_append_left (by omega),List.getElem?_take,AS h1];simp only[Array.getElem?_toList,Array.getElem?_setIfInBounds];rw[AI (by omega),AI (by omega),AI (by omega)]
 ·rw[List.getElem?_append_right (by omega),hl];by_cases h2:t<(k+1)*3
  ·rw[List.getElem?_take,AS h2];simp only[Array.getElem?_toList,Array.getElem?_setIfInBounds,VX];have h3:t=k*3\/t=k*3+1\/t=k*3+2:=by omega
   rcases h3 with rfl|rfl|rfl
   ·rw[AI (by omega),AI (by omega),AS rfl,AS (by omega)];simp
   ·rw[AI (by omega),AS rfl,AS (by omega)];simp
   ·rw[AS rfl,AS (by omega)];simp
  ·rw[List.getElem?_take,AI h2,List.getElem?_eq_none (by simp;omega)]
theorem aa.Jd:(aa.prog.info? 71).map (λi=>(i.zero,i.size,i.bytes))=some (some (.agg #[.int .i64 0,.int .i64 0,.string ⟨#[]⟩]),3,32):=by kernel_rfl
theorem G6(l:List aj)(k:Nat)(h:k<l.length):bd (l.take (k+1))=bd (l.take k)++ [.int .i64 l[k].rep,.int .i64 l[k].n,.string l[k].val]:=by
 rw[VO h,qO];simp[bd,dw]
theorem SS{wr:World}{bo:Nat}{X:Obj}(hb1:Below ((wr.alloc X).drew).heap.size ((wr.alloc X).drew) w1)(hh:wr.heap[bo]?=some (.cells M t))(hs:k*3+2<M.size):
  w1.heap[bo]?=some (.cells M t)/\(∃x,w1.cell? ⟨bo,k*3,none⟩=some x)/\(∃x,w1.cell? ⟨bo,k*3+1,none⟩=some x)/\(∃x,w1.cell? ⟨bo,k*3+2,none⟩=some x)/\(∀o,w1.frozen? ⟨bo,o,none⟩=false)/\Below wr.heap.size wr w1:=by
 have hlt:=(Array.getElem?_eq_some_iff.1 hh).1;have hB:Below wr.heap.size wr w1:=(((AT _ _).alloc (eR _) _).drew).trans (hb1.mono (by simp[World.drew]));have e:w1.heap[bo]?=some (.cells M t):=aS hh hB;refine⟨e,⟨M[k*3],?_⟩,⟨M[k*3+1],?_⟩,⟨M[k*3+2],?_⟩,λo=>by simp[World.frozen?,e],hB⟩
 ·simp only[World.cell?,e];simp
 ·simp only[World.cell?,e];simp
 ·simp only[World.cell?,e];simp
def Q3(w:World)(l:List aj)(k:Nat)(wr:World):Prop:=
 ∃M:Array Value,wr.heap[w.heap.size]?=some (.cells M 71)/\M.size=l.length*3/\M.toList.take (k*3)=bd (l.take k)/\Below w.heap.size w wr
theorem MM(sv:Value)(l:List aj)(w:World)(h:az w sv l)(hlen:l.length<=100000)(dq:∀v∈l,v.val.size<=281474976710656):
  Calls aa.prog 43 #[sv] w λe w'=>∃v',e=.returned v'/\w'.ownsRow w.heap.size 71 3 v' l.length (bd l)/\Below w.heap.size w w':=by
 obtain⟨ad,cap,rfl,hcap⟩:=h.len;obtain⟨i0,hi0,hz0,hz1,hz2⟩:=VH aa.Jd;have hmk:=run_make (P:=aa.prog) w 67 71 i0 _ aa.underlying67 hi0 hz0 .i64 .i64 l.length l.length (by omega) (by omega) (by rw[hz2];omega) (by omega);rw[hz1]at hmk;simp only[Int.toNat_natCast]at hmk;have hM:=size_madeCells (Value.agg #[.int .i64 0,.int .i64 0,.string ⟨#[]⟩]).cells (l.length*3);generalize madeCells (Value.agg #[.int .i64 0,.int .i64 0,.string ⟨#[]⟩]).cells (l.length*3)=M at hmk hM;have H:Hid _:=h;have HV:Hid _:=dq;have HM:Hid _:=hM;clear h dq hM hi0 hz0 hz1 hz2;go_enter aa.func43,aa.ntmps43;go_wp2;go_loopw [11] (λi wr=>∃k:Nat,k<=l.length/\i=.int .i64 k/\Q3 w l k wr) (λi _=>l.length-(intOf i).toNat)
 case atStart=>exact⟨0,by omega,rfl,M,BY w _,HM.out,by simp[bd],(AT _ _).alloc (eR _) _⟩
 case round=>
  obtain⟨k,hk,rfl,hrel⟩:=hrel;by_cases hlt:k<l.length
  ·obtain⟨g,cap',hsv',hg,_,_,c0,c1,c2⟩:=az.cells H.out hlt;cases hsv';have hvk:Hid (l[k].val.size<=281474976710656):=HV.out _ (VB hlt);have hsn:Hid _:=G6 l k hlt;generalize l[k].rep=r at*;generalize l[k].n=n at*;generalize l[k].val=s at*;have hs:=hvk.out;obtain⟨M',hh,hms,htk,hb⟩:=hrel;have hbo:=(Array.getElem?_eq_some_iff.1 hh).1;have d0:wr.cell? ⟨g,k*3,none⟩=some (.int .i64 r):=(hb.cell (p:=⟨g,k*3,none⟩) hg).trans c0;have d1:wr.cell? ⟨g,k*3+1,none⟩=some (.int .i64 n):=(hb.cell (p:=⟨g,k*3+1,none⟩) hg).trans c1;have d2:wr.cell? ⟨g,k*3+2,none⟩=some (.string s):=(hb.cell (p:=⟨g,k*3+2,none⟩) hg).trans c2;have g63:(k:Int)<(l.length:Int):=by omega
   have k0:(0:Int)<=(k:Int):=by omega
   have Hc:Hid _:=And.intro c0 (And.intro c1 c2);have HH:Hid _:=And.intro hh (And.intro hms (And.intro htk hb));clear c0 c1 c2 hh hms htk hb;have hm3:k*3+2<M'.size:=by rw[HH.out.2.1];omega
   have hH:=HH.out.1;have hbn:wr.heap.size≠w.heap.size:=by omega
   go_wp2_with fail;go_region_held3 (λw'=>w'.cell? ⟨wr.heap.size,0,none⟩=some (.int .i64 r)/\w'.cell? ⟨wr.heap.size,1,none⟩=some (.int .i64 n)/\w'.cell? ⟨wr.heap.size,2,none⟩=some (.string s))
    (first|go_keep|(go_split_ands;exact⟨bp (by assumption) hb1,bp (by assumption) hb1,bp (by assumption) hb1⟩)|(go_split_ands;exact⟨by rw[dh hbn,dh hbn,dh hbn];assumption,by rw[dh hbn,dh hbn,dh hbn];assumption,by rw[dh hbn,dh hbn,dh hbn];assumption⟩))
    (first|(go_at_call 41;refine (rq s _ hs).mono ?_;rintro e w1 ⟨rfl,hb1⟩;obtain⟨m0,⟨x0,m1⟩,⟨x1,m2⟩,⟨x2,m3⟩,m4,m5⟩:=SS hb1 hH hm3))
   go_wp2;refine⟨⟨k+1,by omega,by go_num,_,Rk m0,by simp only[VX];exact HH.out.2.1,?_,?_⟩,by simp[intOf];omega⟩
   ·rw[hsn.out];exact Sm hm3 HH.out.2.2.1
   ·exact (((HH.out.2.2.2.trans (m5.mono HH.out.2.2.2.size)).setCell (eR _) _).setCell (eR _) _).setCell (eR _) _
  ·have hkl:k=l.length:=by omega
   have HK:Hid (List.take k l=l):=Xh (by omega);have HRel:Hid _:=hrel;clear hrel;go_wp2;go_ret;obtain⟨M',hh,hms,htk,hb⟩:=HRel.out;refine⟨_,rfl,⟨by rw[yw],Or.inr ⟨w.heap.size,l.length,M',rfl,eR _,hh,eR _,by unfold maxLen;omega,hms,?_⟩⟩,hb⟩;rw[HK.out,hkl]at htk;exact htk
theorem pz{P:Program}(h:(P.info? t).map (·.zero)=some (some z))(w:World):(zeroValue t).run P w=.ok z w:=by
 cases hq:P.info? t with
 |none=>simp[hq]at h
 |some i=>
  have hz:i.zero=some z:=by simpa[hq] using h
  simp[zeroValue,typeInfo,hq,hz]
def pd:Array Value:=#[Value.int .i64 0]++Array.replicate 64 (Value.map none)
theorem zv:pd.size=65:=by simp[pd]
theorem Vm:(pd=#[])=False:=by simp[pd]
theorem aa.K9:(aa.prog.info? 101).map (·.zero)=some (some (.agg pd)):=by kernel_rfl
theorem aa.I3(w:World):(zeroValue 101).run aa.prog w=.ok (.agg pd) w:=pz aa.K9 w
def eN:al:=λ_=>(λ_=>0,[])
def jj(K:al):Prop:=∀s,(∀v∈(K s).2,v.rep<4)/\(K s).2.length<=100/\(∀v∈(K s).2,v.val.size<=12)/\∀i,i<4->0<=(K s).1 i/\(K s).1 i<=1000000
def sN(w:World)(num k:Nat)(bm:Nat->Nat)(wr:World):Prop:=
 (∃A:Array Value,wr.heap[w.heap.size]?=some (.cells A 101)/\A.size=65/\A[0]?=some (.int .i64 num)/\∀n,n<k->A[n+1]?=some (.map (some (bm n))))/\
 (∀n,n<k->w.heap.size<bm n/\wr.heap[bm n]?=some (.map #[] 0))/\(∀n m,n<k->m<k->bm n=bm m->n=m)/\Below w.heap.size w wr
theorem sN.step{w wr:World}{num k:Nat}{bm:Nat->Nat}(h:sN w num k bm wr)(hk:k<64):
  sN w num (k+1) (λn=>if n=k then wr.heap.size else bm n) ((wr.setCell ⟨w.heap.size,1+k,none⟩ (.map (some wr.heap.size))).alloc (.map #[] 0)):=by
 obtain⟨⟨A,h1,h2,h3,h4⟩,h5,h6,h7⟩:=h;have hlt:=(Array.getElem?_eq_some_iff.1 h1).1;have hsz:(wr.setCell ⟨w.heap.size,1+k,none⟩ (.map (some wr.heap.size))).heap.size=wr.heap.size:=by simp[World.setCell]
 have hlts:∀n,n<k->bm n<wr.heap.size:=λn hn=>(Array.getElem?_eq_some_iff.1 (h5 n hn).2).1;refine⟨⟨A.setIfInBounds (k+1) (.map (some wr.heap.size)),by rw[Vx _ _ _ (by rw[hsz];exact hlt),WS];exact heap_set h1,by simpa using h2,?_,λn hn=>?_⟩,λn hn=>?_,λn m hn hm he=>?_,(h7.setCell (eR _) _).alloc (by rw[hsz];exact h7.size) _⟩
 ·rw[Array.getElem?_setIfInBounds,AI (by omega)];exact h3
 ·rw[Array.getElem?_setIfInBounds];dsimp only;by_cases e:n=k
  ·subst e;rw[AS rfl,AS (by omega),AS rfl]
  ·rw[AI (by omega),AI e];exact h4 n (by omega)
 ·dsimp only;by_cases e:n=k
  ·subst e;rw[AS rfl];refine⟨hlt,?_⟩
   have:=BY (wr.setCell ⟨w.heap.size,1+n,none⟩ (.map (some wr.heap.size))) (.map #[] 0);rw[hsz]at this;exact this
  ·rw[AI e];have hn':n<k:=by omega
   refine⟨(h5 n hn').1,?_⟩;have hne:bm n≠w.heap.size:=by have:=(h5 n hn').1;omega
   rw[Vx _ _ _ (by rw[hsz];exact hlts n hn'),VC _ _ _ _ hne];exact (h5 n hn').2
 ·by_cases e:n=k
  ·by_cases e':m=k
   ·rw[e,e']
   ·simp only[AS e,AI e']at he
    have:=hlts m (by omega);omega
  ·by_cases e':m=k
   ·simp only[AI e,AS e']at he
    have:=hlts n (by omega);omega
   ·simp only[AI e,AI e']at he;exact h6 n m (by omega) (by omega) he
theorem Fe(n:Nat)(w:World)(hn:n<4):
  Calls aa.prog 20 #[.int .i64 n] w λe w'=>∃b bm,e=.returned (.tuple #[.pointer (some ⟨b,0,none⟩),.int .i64 0])/\w.heap.size<=b/\(∀m,m<64->w.heap.size<=bm m)/\aA w' b bm n eN/\Below w.heap.size w w':=by
 have hn':(n:Int)<4:=by omega
 go_enter aa.func20,aa.ntmps20;have hmm:∀W:World,(Instr.makeMap 98 none).run aa.prog W=.ok (.map (some W.heap.size)) (W.alloc (.map #[] 0)):=λW=>rfl;have hz:=aa.I3;have hne:=Vm;go_wp2;go_loopw [15] (λiv wr=>∃k:Nat,k<=64/\iv=.int .i64 k/\∃bm,sN w n k bm wr) (λiv _=>64-(intOf iv).toNat)
 case atStart=>
  refine⟨0,by omega,rfl,λ_=>0,⟨_,BY w _,by simp[zv],by simp[zv],λn hn=>absurd hn (by omega)⟩,λn hn=>absurd hn (by omega),λn m hn=>absurd hn (by omega),(AT _ _).alloc (eR _) _⟩
 case round=>
  obtain⟨k,hk,rfl,bm,hrel⟩:=hrel;by_cases hlt:k<64
  ·have k1:(k:Int)<64:=by omega
   have k0:(0:Int)<=(k:Int):=by omega
   have hst:Hid _:=hrel.step hlt;obtain⟨⟨A,h1,h2,_,_⟩,_⟩:=hrel;have hblt:=(Array.getElem?_eq_some_iff.1 h1).1;have hcell:(wr.alloc (.map #[] 0)).cell? ⟨w.heap.size,k+1,none⟩=some A[k+1]:=by
    rw[World.cell?_alloc_lt _ _ _ hblt];simp[World.cell?,h1]
   have hcell':(wr.alloc (.map #[] 0)).cell? ⟨w.heap.size,1+k,none⟩=some A[k+1]:=by rw[WS];exact hcell
   have hfr:∀o,(wr.alloc (.map #[] 0)).frozen? ⟨w.heap.size,o,none⟩=false:=λo=>by
    rw[World.frozen?_alloc_past _ _ _ hblt];simp[World.frozen?,h1]
   clear h1;go_wp2;refine⟨⟨k+1,by omega,by go_num,λn=>if n=k then wr.heap.size else bm n,?_⟩,by simp[intOf];omega⟩;exact hst.out
  ·obtain rfl:k=64:=by omega
   have HR:Hid _:=hrel;clear hrel;go_wp2;go_ret2;obtain⟨⟨A,h1,h2,h3,h4⟩,h5,h6,h7⟩:=HR.out;exact⟨w.heap.size,bm,rfl,eR _,λm hm=>by have:=(h5 m hm).1;omega,⟨⟨A,h1,h3,h4⟩,λm hm=>⟨#[],0,(h5 m hm).2,by simp[fB],λs _=>⟨.slice none 0 0,rfl,⟨rfl,Or.inl ⟨rfl,rfl⟩⟩⟩,by simp[j8],λs h=>absurd rfl h⟩,h6⟩,h7⟩
theorem LK{q:Nat}(hb1:Below ((((w.alloc (.cells A ta)).drewN q).alloc (.cells B tb)).drew).heap.size ((((w.alloc (.cells A ta)).drewN q).alloc (.cells B tb)).drew) w1):
  (∀o,w1.cell? ⟨w.heap.size,o,none⟩=A[o]?)/\(∀o,w1.frozen? ⟨w.heap.size,o,none⟩=false)/\(∀o,w1.cell? ⟨w.heap.size+1,o,none⟩=B[o]?)/\Below (w.heap.size+2) ((w.alloc (.cells A ta)).alloc (.cells B tb)) w1:=by
 have hb2:Below ((w.alloc (.cells A ta)).alloc (.cells B tb)).heap.size ((w.alloc (.cells A ta)).alloc (.cells B tb)) w1:=qf hb1 rfl rfl rfl rfl;have hsz:((w.alloc (.cells A ta)).alloc (.cells B tb)).heap.size=w.heap.size+2:=by simp
 rw[hsz]at hb2;have e0:w1.heap[w.heap.size]?=some (.cells A ta):=by
  rw[hb2.block _ (by omega),Vx _ _ _ (by simp)];exact BY w _
 have e1:w1.heap[w.heap.size+1]?=some (.cells B tb):=by
  rw[hb2.block _ (by omega)];simpa using BY (w.alloc (.cells A ta)) (.cells B tb)
 exact⟨λo=>by simp[World.cell?,e0],λo=>by simp[World.frozen?,e0],λo=>by simp[World.cell?,e1],hb2⟩
theorem Tx(w:World)(A B:Array Value)(ta tb:TypeId)(q o:Nat):((((w.alloc (.cells A ta)).drewN q).alloc (.cells B tb)).drew).cell? ⟨w.heap.size+1,o,none⟩=B[o]? :=by
 have e:(((w.alloc (.cells A ta)).drewN q).alloc (.cells B tb)).heap[w.heap.size+1]?=some (.cells B tb):=by
  have:=BY ((w.alloc (.cells A ta)).drewN q) (.cells B tb);have hs:((w.alloc (.cells A ta)).drewN q).heap.size=w.heap.size+1:=by simp
  rw[hs]at this;exact this
 have e':((((w.alloc (.cells A ta)).drewN q).alloc (.cells B tb)).drew).heap[w.heap.size+1]?=some (.cells B tb):=e;simp only[World.cell?,e'];simp
theorem J4(w:World)(A B:Array Value)(ta tb:TypeId)(q o:Nat):(((w.alloc (.cells A ta)).drewN q).alloc (.cells B tb)).cell? ⟨w.heap.size+1,o,none⟩=B[o]? :=Tx w A B ta tb q o
theorem Ep(b num:Nat)(bm:Nat->Nat)(K:al)(key:ByteArray)(w:World)(h:aA w b bm num K)(hK:jj K)(hkey:cS key=true)(hks:key.size<=8):
  Calls aa.prog 22 #[.pointer (some ⟨b,0,none⟩),.string key] w λe w'=>∃v',e=.returned (.tuple #[v',cU (K key).1,.int .i64 0])/\w'.ownsRow w.heap.size 71 3 v' (K key).2.length (bd (K key).2)/\Below w.heap.size w w':=by
 obtain⟨es,clock,hm,hk,hall,_⟩:=h.2.1 _ (eX key);obtain⟨sv,hent,hvs⟩:=hall key rfl;obtain⟨ad,cap,rfl,hcap⟩:=hvs.len;have hlk:∀W:World,W.heap[bm (aC key)]?=some (.map es clock)->(Instr.lookup 98 (.map (some (bm (aC key)))) (.string key) false).run aa.prog W=.ok (bD (K key).1 (.slice ad (K key).2.length cap)) W:=λW hW=>by
  rw[ou W _ es clock key hW hk,hent]
 have hmlt:=(Array.getElem?_eq_some_iff.1 hm).1;have hma:∀X,(w.alloc X).heap[bm (aC key)]?=some (.map es clock):=λX=>by
  rw[Vx _ _ _ hmlt];exact hm
 have HSeg:Hid (∀X,Calls aa.prog 39 #[.pointer (some ⟨b,0,none⟩),.string key] (w.alloc X) λe w'=>e=.returned (.map (some (bm (aC key))))/\∃q,w'=(w.alloc X).drewN q):=λX=>zi b num bm key _ (by unfold maxLen;omega) (h.below ((AT _ _).alloc (eR _) X)).1;have hck:=nR key;have HL:Hid ((K key).2.length<=100000):=OF (hK key).2.1 (by decide);have HS:Hid (∀v∈(K key).2,v.val.size<=281474976710656):=λv hv=>by have:=(hK key).2.2.1 v hv;omega
 generalize (K key).1=c at*;generalize (K key).2=l at*;have HV:Hid _:=hvs;have HCK:Hid _:=hck;clear hvs hck hall hent hK h hm;generalize bm (aC key)=bms at*;go_enter aa.func22,aa.ntmps22;go_wp2_with (first
  |(go_at_call 36;refine (HCK.out _ (by unfold maxLen;omega)).mono ?_;rw[hkey];rintro e w1 ⟨rfl,rfl⟩)
  |(go_at_call 39;refine By (HSeg.out _) ?_;rintro e w0 ⟨rfl,q,rfl⟩))
 have hbn:w.heap.size+1≠w.heap.size:=by omega
 have HX:Hid (∀A B,az ((((w.alloc A).drewN q).alloc B).drew) (.slice ad l.length cap) l):=λA B=>(show az ((((w.alloc A).drewN q).alloc B)) _ _ from VD (show World.ownsRow ((w.alloc A).drewN q) 0 144 3 (.slice ad l.length cap) l.length (bd l) from HV.out.alloc A) B).drew;go_region_held3 (λw'=>w'.cell? ⟨w.heap.size+1,0,none⟩=some (.int .i64 (c 0))/\w'.cell? ⟨w.heap.size+1,1,none⟩=some (.int .i64 (c 1))/\w'.cell? ⟨w.heap.size+1,2,none⟩=some (.int .i64 (c 2))/\w'.cell? ⟨w.heap.size+1,3,none⟩=some (.int .i64 (c 3))/\w'.cell? ⟨w.heap.size+1,4,none⟩=some (.slice ad l.length cap))
  (first|(simp[J4];done)|go_keep|(go_split_ands;exact⟨bp (by assumption) hb1,bp (by assumption) hb1,bp (by assumption) hb1,bp (by assumption) hb1,bp (by assumption) hb1⟩)|(go_split_ands;exact⟨by rw[dh hbn,dh hbn,dh hbn,dh hbn];assumption,by rw[dh hbn,dh hbn,dh hbn,dh hbn];assumption,by rw[dh hbn,dh hbn,dh hbn,dh hbn];assumption,by rw[dh hbn,dh hbn,dh hbn,dh hbn];assumption,by rw[dh hbn,dh hbn,dh hbn,dh hbn];assumption⟩))
  (first|(go_at_call 43;refine (MM _ l _ (HX.out _ _) HL.out HS.out).mono ?_;rintro e w1 ⟨v',rfl,aD,hb1⟩;obtain⟨m0,m1,m2,m3⟩:=LK hb1;have HO:Hid _:=eE aD (show w.heap.size+2<=_ by simp[World.drew]);have HB:Hid _:=m3;clear aD m3))
 all_goals
  go_wp2;refine V9 (v:=.tuple #[v',cU c,.int .i64 0]) ?_ rfl ⟨_,rfl,?_,?_⟩
  ·simp[results,aa.results22,go_sem,m0]
  ·exact eE (Wh (Wh (Wh (Wh HO.out (by simp) _) (by simp) _) (by simp) _) (by simp) _) (by omega)
  ·have base:Below w.heap.size w w1:=(((AT _ _).alloc (eR _) _).alloc (by simp) _).trans (HB.out.mono (by omega));exact (((base.setCell (eR _) _).setCell (eR _) _).setCell (eR _) _).setCell (eR _) _
theorem kh(hb:Below W.heap.size W w1):(∀b o,b<W.heap.size->w1.cell? ⟨b,o,none⟩=W.cell? ⟨b,o,none⟩)/\(∀b o,b<W.heap.size->w1.frozen? ⟨b,o,none⟩=W.frozen? ⟨b,o,none⟩):=
 ⟨λb o h=>hb.cell (p:=⟨b,o,none⟩) h,λb o h=>hb.frozen (p:=⟨b,o,none⟩) h⟩
theorem uG(b num:Nat)(bm:Nat->Nat)(key:ByteArray)(w:World)(hs:key.size<=maxLen)(h:dX w b bm num):
  Calls aa.prog 39 #[.pointer (some ⟨b,0,none⟩),.string key] w λe w'=>e=.returned (.map (some (bm (aC key))))/\Below w.heap.size w w'/\w'.heap.size=w.heap.size:=by
 refine (zi b num bm key w hs h).mono ?_;rintro e w' ⟨rfl,q,rfl⟩;exact⟨rfl,Wq (AT _ _) q,rfl⟩
theorem az.below(h:az w sv l)(hb:Below w.heap.size w W):az W sv l:=h.dH λg hg _=>hb.block g hg
theorem au(h:w.heap[b]?=some (.cells A t)):(∀o,w.cell? ⟨b,o,none⟩=A[o]?)/\(∀o,w.frozen? ⟨b,o,none⟩=false):=
 ⟨λo=>by simp[World.cell?,h],λo=>by simp[World.frozen?,h]⟩
theorem jn{w3:World}(hb:Below W.heap.size W w3)(h:Below w.heap.size w W):Below w.heap.size w w3:=bf h hb
theorem sP{w2:World}(hb2:Below ((w.alloc (.cells A ta)).alloc (.cells B tb)).heap.size ((w.alloc (.cells A ta)).alloc (.cells B tb)) w2):
  (∀o,w2.cell? ⟨w.heap.size+1,o,none⟩=B[o]?)/\Below w.heap.size w w2/\w.heap.size+1<w2.heap.size:=by
 have hsz:((w.alloc (.cells A ta)).alloc (.cells B tb)).heap.size=w.heap.size+2:=by simp
 rw[hsz]at hb2;have e1:w2.heap[w.heap.size+1]?=some (.cells B tb):=by
  rw[hb2.block _ (by omega)];simpa using BY (w.alloc (.cells A ta)) (.cells B tb)
 exact⟨λo=>by simp[World.cell?,e1],(((AT _ _).alloc (eR _) _).alloc (by simp) _).trans (hb2.mono (by omega)),(Array.getElem?_eq_some_iff.1 e1).1⟩
theorem Aq(b num:Nat)(bm:Nat->Nat)(K:al)(key:ByteArray)(seen:Ctx)(w:World)(h:aA w b bm num K)(hK:jj K)(hkey:cS key=true)(hks:key.size<=8)(hseen:fZ seen=true)(hn:(aT (K key).2 seen).length=(K key).2.length):
  Calls aa.prog 23 #[.pointer (some ⟨b,0,none⟩),.string key,cU seen] w λe w'=>e=.returned (.int .i64 5)/\Below w.heap.size w w':=by
 have hb:=h.1;obtain⟨es,clock,hm,hk,hall,_⟩:=h.2.1 _ (eX key);obtain⟨sv,hent,hvs⟩:=hall key rfl;obtain⟨ad,cap,rfl,hcap⟩:=hvs.len;have hlk:∀W:World,W.heap[bm (aC key)]?=some (.map es clock)->(Instr.lookup 98 (.map (some (bm (aC key)))) (.string key) false).run aa.prog W=.ok (bD (K key).1 (.slice ad (K key).2.length cap)) W:=λW hW=>by
  rw[ou W _ es clock key hW hk,hent]
 have HSeg:Hid (∀W,dX W b bm num->Calls aa.prog 39 #[.pointer (some ⟨b,0,none⟩),.string key] W λe w'=>e=.returned (.map (some (bm (aC key))))/\Below W.heap.size W w'/\w'.heap.size=W.heap.size):=λW hW=>uG b num bm key W (by unfold maxLen;omega) hW;have HBlk:Hid (∀W,Below w.heap.size w W->dX W b bm num):=λW hW=>(h.below hW).1;have HL:Hid ((K key).2.length<=100000):=OF (hK key).2.1 (by decide);have HR:Hid (∀v∈(K key).2,v.rep<4):=(hK key).1;generalize (K key).1=c at*;generalize (K key).2=l at*;have HV:Hid _:=hvs;have HN:Hid _:=hn;have HCK:Hid _:=nR key;have HSO:Hid _:=rA seen;clear hvs hall hent hK hn h;generalize hbms:bm (aC key)=bms at*;have HBMS:Hid _:=hbms;clear hbms;go_enter aa.func23,aa.ntmps23;go_wp2_with (first
  |(go_at_call 36;refine (HCK.out _ (by unfold maxLen;omega)).mono ?_;rw[hkey];rintro e w1 ⟨rfl,rfl⟩)
  |(go_at_call 38;refine (HSO.out _).mono ?_;rw[hseen];rintro e w2 ⟨rfl,hb2⟩;obtain⟨c2,hB2,hz2⟩:=sP hb2;clear hb2))
 have hmk:Hid (∀w',Below w2.heap.size w2 w'->dX w' b bm num/\(Instr.lookup 98 (.map (some bms)) (.string key) false).run aa.prog w'=.ok (bD c (.slice ad l.length cap)) w'/\az w' (.slice ad l.length cap) l/\w'.cell? ⟨w.heap.size+1,0,none⟩=some (.int .i64 (seen 0))/\w'.cell? ⟨w.heap.size+1,1,none⟩=some (.int .i64 (seen 1))/\w'.cell? ⟨w.heap.size+1,2,none⟩=some (.int .i64 (seen 2))/\w'.cell? ⟨w.heap.size+1,3,none⟩=some (.int .i64 (seen 3))):=λw' hw=>
  ⟨HBlk.out _ (bf hB2 hw),hlk w' (aS (aS hm hB2) hw),(az.below HV.out hB2).below hw,bp (c2 0) hw,bp (c2 1) hw,bp (c2 2) hw,bp (c2 3) hw⟩
 have HB2:Hid _:=hB2;clear hB2 c2 hlk;go_region_held3 (λw'=>dX w' b bm num/\(Instr.lookup 98 (.map (some bms)) (.string key) false).run aa.prog w'=.ok (bD c (.slice ad l.length cap)) w'/\az w' (.slice ad l.length cap) l/\w'.cell? ⟨w.heap.size+1,0,none⟩=some (.int .i64 (seen 0))/\w'.cell? ⟨w.heap.size+1,1,none⟩=some (.int .i64 (seen 1))/\w'.cell? ⟨w.heap.size+1,2,none⟩=some (.int .i64 (seen 2))/\w'.cell? ⟨w.heap.size+1,3,none⟩=some (.int .i64 (seen 3)))
  ((refine hmk.out _ ?_;first|(simp (maxDischargeDepth:=12) [AT,No,Vw,VI];done)|(simp (maxDischargeDepth:=12) [AT,No,Vw,VI,B5,y5];done)|(simp (maxDischargeDepth:=12) [AT,No,Vw,VI,B3,z3];done)))
  (first|(go_at_call 39;refine By (HSeg.out _ (by go_split_ands;assumption)) ?_;rintro e w5 ⟨rfl,hb5,z5⟩;obtain⟨s1,s2⟩:=kh hb5;(try simp only[WK,lr]at z5);have B5:Below w2.heap.size w2 w5:=jn hb5 (by simp (maxDischargeDepth:=12) [AT,No,Vw]);have y5:=B5.size;clear hb5)|(go_at_call 44;refine (M4 c _ l seen _ (by go_split_ands;assumption) HR.out HL.out HN.out).mono ?_;rintro e w3 ⟨rfl,hb3⟩;obtain⟨q1,q2⟩:=kh hb3;have B3:Below w2.heap.size w2 w3:=jn hb3 (by simp (maxDischargeDepth:=12) [AT,No,Vw,B5,y5]);have z3:=B3.size;clear hb3))
 all_goals
  go_wp2_with (go_at_call 42;refine (CA b key (λ_=>0) (.slice none 0 0) 5 _ (by decide)).mono ?_;rintro e w4 ⟨rfl,hb4⟩;have B4:Below w2.heap.size w2 w4:=jn hb4 (by simp (maxDischargeDepth:=12) [AT,No,Vw,VI,B3,z3]);clear hb4)
  go_ret;exact⟨rfl,bf HB2.out B4⟩
theorem lr(w:World)(X:Obj):(w.alloc X).heap.size=w.heap.size+1:=by simp
theorem tP{w4:World}{row:Option Nat}(h:Below w.heap.size w W)(hg:W.grownBy w4 row):w.grownBy w4 row:=
 ⟨hg.os.trans h.os,hg.tape.trans h.tape,hg.output.trans h.output,OF h.size hg.size,λk hk hn=>(hg.block k (VA hk h.size) hn).trans (h.block k hk)⟩
theorem az.rD{B:Nat}(h:w.ownsRow B 144 3 v l.length (bd l)):az w v l:=eE h (WD _)
theorem Np{es:List MapEntry}{c:Ctx}(h:(cy es key).getD lh=bD c sv)(hv:az w sv l)(hl:0<l.length):cy es key≠none:=λhn=>by
 rw[hn]at h;obtain⟨ad,cap,rfl,_⟩:=hv.len;simp[lh]at h;omega
theorem RX{c d:Ctx}(hc:∀i,i<4->0<=c i)(h:cH c):cH (aU c d):=by
 obtain⟨i,hi,hn⟩:=h
 have:=hc i hi;refine⟨i,hi,?_⟩;simp only[aU];omega
theorem Uv(b num:Nat)(bm:Nat->Nat)(K:al)(key:ByteArray)(seen:Ctx)(w:World)(h:aA w b bm num K)(hK:jj K)(hkey:cS key=true)(hks:key.size<=8)(hseen:fZ seen=true)(hn:(aT (K key).2 seen).length<(K key).2.length):
  Calls aa.prog 23 #[.pointer (some ⟨b,0,none⟩),.string key,cU seen] w λe w'=>e=.returned (.int .i64 0)/\aA w' b bm num (bl K key (aU (K key).1 seen,aT (K key).2 seen))/\w.grownBy w' (some (bm (aC key))):=by
 have hb:=h.1;have HRep:Hid _:=h;obtain⟨es,clock,hm,hk,hall,_,bz⟩:=h.2.1 _ (eX key);obtain⟨sv,hent,hvs⟩:=hall key rfl;have HKn:Hid (cH (aU (K key).1 seen)):=RX (λi hi=>((hK key).2.2.2 i hi).1) (bz key (Np hent hvs (by omega)));obtain⟨ad,cap,rfl,hcap⟩:=hvs.len;have hlk:∀W:World,W.heap[bm (aC key)]?=some (.map es clock)->(Instr.lookup 98 (.map (some (bm (aC key)))) (.string key) false).run aa.prog W=.ok (bD (K key).1 (.slice ad (K key).2.length cap)) W:=λW hW=>by
  rw[ou W _ es clock key hW hk,hent]
 have HSeg:Hid (∀W,dX W b bm num->Calls aa.prog 39 #[.pointer (some ⟨b,0,none⟩),.string key] W λe w'=>e=.returned (.map (some (bm (aC key))))/\Below W.heap.size W w'/\w'.heap.size=W.heap.size):=λW hW=>uG b num bm key W (by unfold maxLen;omega) hW;have HBlk:Hid (∀W,Below w.heap.size w W->dX W b bm num):=λW hW=>(h.below hW).1;have HL:Hid ((K key).2.length<=100000):=OF (hK key).2.1 (by decide);have HR:Hid (∀v∈(K key).2,v.rep<4):=(hK key).1;generalize (K key).1=c at*;generalize (K key).2=l at*;have HV:Hid _:=hvs;have HN:Hid _:=hn;have HCK:Hid _:=nR key;have HSO:Hid _:=rA seen;clear hvs hall hent hK hn h;generalize hbms:bm (aC key)=bms at*;have HBMS:Hid _:=hbms;clear hbms;go_enter aa.func23,aa.ntmps23;go_wp2_with (first
  |(go_at_call 36;refine (HCK.out _ (by unfold maxLen;omega)).mono ?_;rw[hkey];rintro e w1 ⟨rfl,rfl⟩)
  |(go_at_call 38;refine (HSO.out _).mono ?_;rw[hseen];rintro e w2 ⟨rfl,hb2⟩;obtain⟨c2,hB2,hz2⟩:=sP hb2;clear hb2))
 have hmk:Hid (∀w',Below w2.heap.size w2 w'->dX w' b bm num/\(Instr.lookup 98 (.map (some bms)) (.string key) false).run aa.prog w'=.ok (bD c (.slice ad l.length cap)) w'/\az w' (.slice ad l.length cap) l/\w'.cell? ⟨w.heap.size+1,0,none⟩=some (.int .i64 (seen 0))/\w'.cell? ⟨w.heap.size+1,1,none⟩=some (.int .i64 (seen 1))/\w'.cell? ⟨w.heap.size+1,2,none⟩=some (.int .i64 (seen 2))/\w'.cell? ⟨w.heap.size+1,3,none⟩=some (.int .i64 (seen 3))):=λw' hw=>
  ⟨HBlk.out _ (bf hB2 hw),hlk w' (aS (aS hm hB2) hw),(az.below HV.out hB2).below hw,bp (c2 0) hw,bp (c2 1) hw,bp (c2 2) hw,bp (c2 3) hw⟩
 have HB2:Hid _:=hB2;clear hB2 c2 hlk;go_region_held3 (λw'=>dX w' b bm num/\(Instr.lookup 98 (.map (some bms)) (.string key) false).run aa.prog w'=.ok (bD c (.slice ad l.length cap)) w'/\az w' (.slice ad l.length cap) l/\w'.cell? ⟨w.heap.size+1,0,none⟩=some (.int .i64 (seen 0))/\w'.cell? ⟨w.heap.size+1,1,none⟩=some (.int .i64 (seen 1))/\w'.cell? ⟨w.heap.size+1,2,none⟩=some (.int .i64 (seen 2))/\w'.cell? ⟨w.heap.size+1,3,none⟩=some (.int .i64 (seen 3)))
  ((refine hmk.out _ ?_;first|(simp (maxDischargeDepth:=12) [AT,No,Vw,VI];done)|(simp (maxDischargeDepth:=12) [AT,No,Vw,VI,B5,y5];done)|(simp (maxDischargeDepth:=12) [AT,No,Vw,VI,B3,z3];done)))
  (first|(go_at_call 39;refine By (HSeg.out _ (by go_split_ands;assumption)) ?_;rintro e w5 ⟨rfl,hb5,z5⟩;obtain⟨s1,s2⟩:=kh hb5;(try simp only[WK,lr]at z5);have B5:Below w2.heap.size w2 w5:=jn hb5 (by simp (maxDischargeDepth:=12) [AT,No,Vw]);have y5:=B5.size;clear hb5)|(go_at_call 44;refine (Tj c _ l seen _ (by go_split_ands;assumption) HR.out HL.out HN.out).mono ?_;rintro e w3 ⟨v',rfl,aD,hb3⟩;obtain⟨ad',cap',hv'⟩:=nS aD;subst hv';have O3:=aD;(try simp only[WK,lr,z5]at O3);clear aD;obtain⟨q1,q2⟩:=kh hb3;have B3:Below w2.heap.size w2 w3:=jn hb3 (by simp (maxDischargeDepth:=12) [AT,No,Vw,B5,y5]);have z3:=B3.size;clear hb3))
 all_goals
  go_wp2_with (go_at_call 42;go_must (refine (E4 b num bm K key (aU c seen) _ (aT l seen) _ ⟨by omega,hkey⟩ HKn.out (aA.below HRep.out (bf HB2.out (by simp (maxDischargeDepth:=12) [AT,No,Vw,VI,B3,z3]))) (by first|(refine az.rD (B:=w2.heap.size) ?_;simp (maxDischargeDepth:=12) [VD,O3];done)|(refine az.rD (B:=w2.heap.size+1) ?_;simp (maxDischargeDepth:=12) [Wh,O3];done))).mono ?_);rintro e w4 ⟨rfl,hrep4,hg4⟩;have B5:=tP (w:=w2) (by simp (maxDischargeDepth:=12) [AT,No,Vw,VI,B3,z3]) hg4;have HR4:Hid _:=hrep4;clear hrep4 hg4)
  go_ret;exact⟨rfl,HR4.out,by have g:=tP HB2.out B5;rw[HBMS.out]at g;exact g⟩
end Go.Proofs.YtldmcdeibiclkaaGreatDoorQ
