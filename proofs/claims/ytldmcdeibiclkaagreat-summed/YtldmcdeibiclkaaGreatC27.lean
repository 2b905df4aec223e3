/-
  Toward summed_holds: Texts and digests: plain mathematics: the names of a map in order; digests of the same tex
-/
import Derived.Test.YtldmcdeibiclkaaGreatC26
import Derived.Test.YtldmcdeibiclkaaGreatC18
import Derived.WalkKit
import Derived.RegionTactic
import Derived.Test.YtldmcdeibiclkaaGreatC25
import Derived.Deep.RegionHeld3
import Derived.Test.YtldmcdeibiclkaaGreatC21
set_option linter.unusedVariables false
set_option linter.unusedSimpArgs false
set_option maxRecDepth 100000
set_option maxHeartbeats 20000000
namespace Go.Proofs.YtldmcdeibiclkaaGreatQ
variable {es:List MapEntry}{s:ByteArray}
open Go.RowKit
abbrev ah:=ByteArray×Ctx×List ax
theorem zS{d d':Nat->Int}:∀k,(∀i,i<k->d i=d' i)->dF d k=dF d' k
 |0,_=>rfl
 |k+1,h=>by rw[dF,dF,zS k λi hi=>h i (by omega),h k (by omega)]
theorem yo{T T':Nat->ByteArray}(h:∀k,k<64->T k=T' k):∀j,j<=3->∀n,n<4 ^ (3-j)->dg T j n=dg T' j n
 |0,_,n,hn=>by rw[dg,dg,h n (by simpa using hn)]
 |j+1,hj,n,hn=>by
  have h4:4 ^ (3-j)=4 ^ (3-(j+1))*4:=by rw[<-Nat.pow_succ];congr 1;omega
  rw[dg,dg,fE,fE,zS 4 λi hi=>yo h j (by omega) _ (by omega)]
theorem K9(hk:dA es){e:MapEntry}(he:e∈es)(hs:e.key=.string s):bp es s≠none:=λh=>rp hk h e he hs
theorem ML(hk:dA es){x:List UInt8}(hx:x∈fi (cP es)):bp es (da x)≠none:=by
 rw[(lY _).mem_iff,cP,Rj]at hx;obtain⟨e,he,rfl⟩:=hx;obtain⟨k,hk'⟩:=hk e he;refine K9 hk he ?_;simp[nh,hk',pZ]
theorem IF(h:bp es s≠none)(hk:dA es):s.data.toList∈fi (cP es):=by
 rw[(lY _).mem_iff,cP,Rj];have: ∃e∈es,e.key=.string s:=by
  refine Rm λhn=>h ?_;have key:∀l:List MapEntry,(∀e∈l,e∈es)->bp l s=none:=λl=>by
   induction l with
   |nil=>intro _;rfl
   |cons e l ih=>
    intro hl;obtain⟨k,hk'⟩:=hk e (hl e (by simp));have hne: ¬s=k:=λq=>hn ⟨e,hl e (by simp),by rw[hk',q]⟩;simp only[bp,hk',By hne];exact ih λx hx=>hl x (by simp[hx])
  exact key es λe he=>he
 obtain⟨e,he,hs⟩:=this;exact⟨e,he,by simp[nh,hs]⟩
theorem J4(ss:List (List UInt8)):(fi ss).Pairwise λa b=>a<=b:=by
 have:=List.pairwise_mergeSort (le:=λ(x y:List UInt8)=>decide (x<=y)) (λa b c h1 h2=>by simp at*;exact List.le_trans h1 h2) (λa b=>by simp;exact List.le_total a b) ss;exact this.imp λ{a b} hab=>by simpa using hab
theorem Nd(hk:dA es)(h:(es.map (·.key)).Nodup):(cP es).Nodup:=by
 unfold cP;unfold List.Nodup at*;rw[List.pairwise_map] at*;refine List.Pairwise.imp_of_mem (λ{a b} ha hb hab e=>hab ?_) h;obtain⟨x,hx⟩:=hk a ha;obtain⟨y,hy⟩:=hk b hb;simp only[nh,hx,hy]at e;rw[hx,hy];congr 1;exact RJ (Array.ext' e)
theorem Gq(hk:dA es)(h:(es.map (·.key)).Nodup):(fi (cP es)).Pairwise λa b=>a<b:=by
 have h1:=J4 (cP es);have h2:(fi (cP es)).Nodup:=(lY _).nodup_iff.2 (Nd hk h);refine List.Pairwise.imp (λ{a b} ⟨h1,h2⟩=>?_) (List.Pairwise.and h1 h2);rcases Decidable.em (a<b) with h3|h3
 ·exact h3
 ·exact absurd (List.le_antisymm h1 (List.not_lt.1 h3)) h2
end Go.Proofs.YtldmcdeibiclkaaGreatQ
namespace Go.Proofs.YtldmcdeibiclkaaGreatQ
variable {m:Nat}
section
def kQ(K:aB)(n:Nat)(L:List (List UInt8)):Prop:=L.Pairwise (λa b=>a<b)/\∀x,x∈L↔aI (da x)=n/\eE (K (da x)).1
theorem kQ.unique{K:aB}{n:Nat}:∀{L M:List (List UInt8)},L.Pairwise (λa b=>a<b)->M.Pairwise (λa b=>a<b)->(∀x,x∈L↔x∈M)->L=M
 |[],[],_,_,_=>rfl
 |[],y::b,_,_,h=>by have:=(h y).2 (by simp);cases this
 |x::a,[],_,_,h=>by have:=(h x).1 (by simp);cases this
 |x::a,y::b,ha,hb,h=>by
  have ha':=List.pairwise_cons.1 ha;have hb':=List.pairwise_cons.1 hb;have e:x=y:=by
   rcases RP.1 ((h x).1 (by simp)) with e|hx
   ·exact e
   ·rcases RP.1 ((h y).2 (by simp)) with e|hy
    ·exact e.symm
    ·exact absurd (ha'.1 y hy) (List.lt_asymm (hb'.1 x hx))
  subst e;congr 1;refine kQ.unique (K:=K) (n:=n) ha'.2 hb'.2 λv=>⟨λhv=>?_,λhv=>?_⟩
  ·rcases RP.1 ((h v).1 (by simp[hv])) with e|h'
   ·subst e;exact absurd (ha'.1 v hv) (List.lt_irrefl _)
   ·exact h'
  ·rcases RP.1 ((h v).2 (by simp[hv])) with e|h'
   ·subst e;exact absurd (hb'.1 v hv) (List.lt_irrefl _)
   ·exact h'
open Classical in
noncomputable def sZ(K:aB)(n:Nat):List (List UInt8):=if h: ∃L,kQ K n L then h.choose else []
theorem qk{K:aB}{n:Nat}{L:List (List UInt8)}(h:kQ K n L):sZ K n=L:=by
 have hex: ∃L,kQ K n L:=⟨L,h⟩
 unfold sZ;rw[dif_pos hex];have hc:=hex.choose_spec;exact kQ.unique (K:=K) (n:=n) hc.1 h.1 λx=>by rw[hc.2,h.2]
noncomputable def kV(K:aB)(n:Nat):List ah:=(sZ K n).map λx=>(da x,(K (da x)).1,(K (da x)).2)
noncomputable def oQ(K:aB)(n:Nat):ByteArray:=dS (kV K n)
noncomputable def lU(K:aB)(lv n:Nat):Int:=dg (oQ K) (3-lv) n
theorem A7{w:World}{n:Nat}{K:aB}(h:lC w m n K){s:ByteArray}(hs:aI s=n):bp (eV w m) s≠none↔eE (K s).1:=by
 obtain⟨es,clock,e1,e2,e3,e4,e5⟩:=h;have hes:eV w m=es.toList:=by simp[eV,e1]
 rw[hes];refine⟨e5 s,λhk hn=>?_⟩;obtain⟨sv,h1,_⟩:=e3 s hs;rw[hn]at h1;obtain⟨i,hi,hne⟩:=hk;simp only[Option.getD_none,ij,bw]at h1;injection h1 with h1;have hz:∀(j:Nat) (x:Value),(#[Value.int .i64 0,.int .i64 0,.int .i64 0,.int .i64 0,.slice none 0 0]:Array Value)[j]?=some x->(#[Value.int .i64 ((K s).1 0),.int .i64 ((K s).1 1),.int .i64 ((K s).1 2),.int .i64 ((K s).1 3),sv]:Array Value)[j]?=some x:=λj x hx=>by rw[<-h1];exact hx
 rcases cE hi with rfl|rfl|rfl|rfl
 ·have:=hz 0 _ rfl;simp at this;exact hne this
 ·have:=hz 1 _ rfl;simp at this;exact hne this
 ·have:=hz 2 _ rfl;simp at this;exact hne this
 ·have:=hz 3 _ rfl;simp at this;exact hne this
theorem lC.names{w:World}{n:Nat}{K:aB}(h:lC w m n K):kQ K n (fi (cP (eV w m))):=by
 have hk:=λs hs=>A7 h (s:=s) hs;obtain⟨es,clock,e1,e2,e3,e4,e5⟩:=h;have hes:eV w m=es.toList:=by simp[eV,e1]
 rw[hes]at hk ⊢;refine⟨Gq e2 e4.1,λx=>⟨λhx=>?_,λhx=>?_⟩⟩
 ·have h1:=(qZ e4.2.2.2 hx).1;exact⟨h1,(hk _ h1).1 (ML e2 hx)⟩
 ·have:=IF ((hk _ hx.1).2 hx.2) e2;simpa[da] using this
theorem K6{w:World}{n:Nat}{K:aB}(h:lC w m n K):il K (eV w m)=kV K n:=by
 rw[il,kV,qk h.names]
section
variable {w:World}{b num:Nat}{bm:Nat->Nat}{K:aB}
theorem ba.text(h:ba w b bm num K){n:Nat}(hn:n<64):dK w bm K n=oQ K n:=by rw[dK,oQ,K6 (h.2.1 n hn)]
theorem ba.zX(h:ba w b bm num K){lv n:Nat}(hl:lv<=3)(hn:n<4 ^ lv):ji w bm K lv n=lU K lv n:=
 yo (λk hk=>h.text hk) _ (by omega) _ (by rw[show 3-(3-lv)=lv by omega];exact hn)
end
end
end Go.Proofs.YtldmcdeibiclkaaGreatQ
namespace Go.Proofs.YtldmcdeibiclkaaGreatQ
variable {i k:Nat}{listed:Array Bool}{w':World}{K:aB}{l:List aC}{o:Oper}{a:Act}
open Go.RowKit
theorem uo(s:ByteArray)(w:World)(hs:s.size<=maxLen):
  Calls aa.prog 73 #[.string s] w λe w'=>e=.returned (.int .u64 (cC s))/\w'=w:=by
 unfold maxLen at hs;go_enter aa.func73,aa.ntmps73;go_wp2;go_loop [3,4] (λd i=>∃k:Nat,k<=s.size/\i=.int .i64 k/\d=.int .u64 (fA s k)) (λ_ i=>s.size-(intOf i).toNat)
 case atStart=>exact⟨0,by omega,rfl,rfl⟩
 case round=>
  obtain⟨k,hk,rfl,rfl⟩:=hrel;by_cases hlt:k<s.size
  ·have g1:(k:Int)<(s.size:Int):=by omega
   have g0:(0:Int)<=(k:Int):=by omega
   have hst:Hid (fA s (k+1)=IntKind.u64.wrap (Go.bits .xor .u64 (fA s k) (s[k].toNat:Int)*1099511628211)):=by
    show fA s (k+1)=_;rw[fA,vD s k hlt]
   go_wp2;refine⟨⟨k+1,by omega,by go_num,?_⟩,by simp[intOf];omega⟩;rw[hst.out,Ar]
  ·have hke:k=s.size:=by omega
   go_wp2;go_ret;exact⟨rfl,rfl⟩
theorem xj(lv:Nat)(w:World)(h:lv<=3):Calls aa.prog 52 #[.int .i64 lv] w λe w'=>e=.returned (.int .i64 (4 ^ lv:Nat))/\w'=w:=by
 go_enter aa.func52,aa.ntmps52;go_wp2;go_loop [3,4] (λc i=>∃k:Nat,k<=lv/\i=.int .i64 k/\c=.int .i64 (4 ^ k:Nat)) (λ_ i=>lv-(intOf i).toNat)
 case atStart=>exact⟨0,by omega,rfl,rfl⟩
 case round=>
  obtain⟨k,hk,rfl,rfl⟩:=hrel;by_cases hlt:k<lv
  ·have g1:(k:Int)<(lv:Int):=by omega
   have hp:=(tu (show k+1<=3 by omega)).1;have hs:Hid (4 ^ (k+1)=4 ^ k*4):=(show 4 ^ (k+1)=4 ^ k*4 from Nat.pow_succ ..)
   rw[hs.out]at hp;generalize 4 ^ k=q at*;have hq:(q:Int)<=16:=by omega
   go_wp2;refine⟨⟨k+1,by omega,by go_num,?_⟩,by simp[intOf];omega⟩;rw[hs.out];congr 1;omega
  ·obtain rfl:k=lv:=by omega
   go_wp2;go_ret;exact⟨rfl,rfl⟩
def gO(n:Int):Nat->ByteArray
 |0=>ByteArray.empty
 |k+1=>dz (n / 2 ^ (8*k))++gO n k
theorem uY(n:Int):∀k,(gO n k).size=k
 |0=>rfl
 |k+1=>by rw[gO,QB,lV,uY n k];omega
theorem P4(n:Int):gO n 4=bY n:=by
 apply RJ;simp[gO,dz,bY,ByteArray.data_append]
theorem wy(d:Int):gO d 8=gh d:=by
 apply RJ;simp[gO,dz,gh,gy,ByteArray.data_append]
theorem JQ(W:World)(a:Int):(convert 124 9 (.slice (some ⟨W.heap.size,0,none⟩) 1 1)).run aa.prog (W.alloc (.cells #[.int .u8 (a%256)] 5))=.ok (.string (dz a)) (W.alloc (.cells #[.int .u8 (a%256)] 5)):=
 run_convert_bytes_arg (P:=aa.prog) _ 124 5 aa.underlying124 aa.underlying5 W.heap.size 0 1 1 [a%256] rfl (λj hj=>by
  obtain rfl:j=0:=by simpa using hj
  rw[(aj (IS W (.cells #[.int .u8 (a%256)] 5))).1];rfl) 9 aa.underlying9
theorem tT(n:Int)(m:Nat)(w:World)(hm:m<=8):
  Calls aa.prog 55 #[.int .u64 n,.int .i64 m] w λe w'=>e=.returned (.string (gO n m))/\Below w.heap.size w w':=by
 go_enter aa.func55,aa.ntmps55;go_wp2;go_loopw [5,6] (λs i wr=>∃k:Nat,k<=m/\i=.int .i64 k/\s=.string (gO n k)/\Hid (Below w.heap.size w wr)) (λ_ i _=>m-(intOf i).toNat)
 case atStart=>exact⟨0,by omega,rfl,rfl,AT _ _⟩
 case round=>
  obtain⟨k,hk,rfl,rfl,HB⟩:=hrel;by_cases hlt:k<m
  ·have g1:(k:Int)<(m:Int):=by omega
   have g8:(k:Int)<=8:=by omega
   have hsz:(gO n k).size=k:=uY n k;have HE:Hid (gO n (k+1)=dz (n / 2 ^ (8*k))++gO n k):=rfl;have hcv:=JQ wr (n / 2 ^ (8*k));have HBs:=HB.out.size;generalize gO n k=st at*;generalize hob:dz (n / 2 ^ (8*k))=ob at*;have hos:ob.size=1:=by rw[<-hob];rfl
   clear hob;go_wp2;refine⟨⟨k+1,by omega,by go_num,by rw[HE.out],HB.out.alloc HBs _⟩,by simp[intOf];omega⟩
  ·obtain rfl:k=m:=by omega
   go_wp2;go_ret;exact⟨rfl,HB.out⟩
section
section
variable {P:Program}{ops:Array Oper}{Q:Exit->Act->World->Prop}
theorem uA(h:i∈Region.ready .any ops listed):i<ops.size/\listed.getD i true=false/\∀o,ops[i]?=some o->∀e∈o.after,Region.binds .any e=true->listed.getD e.on false=true:=by
 obtain⟨h1,h2⟩:=List.mem_filter.1 h;simp only[No,Bool.not_eq_true']at h2;refine⟨List.mem_range.1 h1,h2.1,λo ho e he hb=>?_⟩;have h3:=h2.2;rw[ho]at h3;simp only[Q7,RM,Array.all_eq_true_iff_forall_mem]at h3
 have:=h3 e he;rw[hb]at this;simpa using this
theorem Bn(h:listed.getD i true=false):(listed.setIfInBounds i true).toList.count false+1=listed.toList.count false:=by
 have hi:i<listed.size:=by
  refine Rm λhn=>?_;rw[Array.getD_eq_getD_getElem?,Array.getElem?_eq_none (by omega)]at h;cases h
 have hv:listed.toList[i]'(by simpa using hi)=false:=by
  rw[Array.getD_eq_getD_getElem?,Array.getElem?_eq_getElem hi]at h;simpa using h
 rw[Array.toList_setIfInBounds,List.count_set (by simpa using hi),hv];have:0<listed.toList.count false:=List.count_pos_iff.2 (hv▸OF _);rw[IN (by rfl),By (by decide)];omega
theorem sq(h:listed.toList.count false=0):Region.ready .any ops listed= []:=by
 refine List.eq_nil_iff_forall_not_mem.2 λi hi=>?_;obtain⟨_,h2,_⟩:=uA hi
 have:=Bn h2;omega
def Kq(ops:Array Oper):Bool:=(List.range ops.size).all λi=>((ops[i]?).map λo=>o.after.all λe=>decide (e.on<i)).getD true
theorem Pf(hb:Kq ops=true)(h0:Region.ready .any ops listed= [])(hs:listed.size=ops.size):listed.toList.count false=0:=by
 have key:∀i,i<listed.size->listed.getD i true=true:=λi=>by
  induction i using Nat.strongRecOn with
  |ind i ih=>
   intro hi;refine Rm λhn=>?_;have hm:i∈Region.ready .any ops listed:=by
    refine List.mem_filter.2 ⟨List.mem_range.2 (by omega),?_⟩;have hb':=List.all_eq_true.1 hb i (List.mem_range.2 (by omega));rw[Array.getElem?_eq_getElem (show i<ops.size by omega)]at hb' ⊢;simp only[Q7,RM,Array.all_eq_true_iff_forall_mem,QS]at hb';simp only[No,Bool.not_eq_true',Q7,RM,Array.all_eq_true_iff_forall_mem];refine⟨by simpa using hn,λe he=>?_⟩;have h1:=hb' e he;have h2:=ih e.on h1 (by omega);rw[Array.getD_eq_getD_getElem?,Array.getElem?_eq_getElem (show e.on<listed.size by omega)]at h2 ⊢;simp only[RM]at h2 ⊢;rw[h2];simp
   rw[h0]at hm;cases hm
 refine List.count_eq_zero.2 λhm=>?_;obtain⟨i,hi,e⟩:=List.mem_iff_getElem.1 hm;have hi':i<listed.size:=by simpa using hi
 have:=key i hi';rw[Array.getD_eq_getD_getElem?,Array.getElem?_eq_getElem hi']at this;simp only[Array.getElem_toList]at e;simp[e]at this
theorem BN{I:Array Bool->Act->World->Prop}(step:∀listed a w i,I listed a w->i∈Region.ready .any ops listed->wpOp P ops Q i (I (listed.setIfInBounds i true)) a w)(done:∀listed a w,I listed a w->listed.toList.count false=0->Q .normal a w)(all:∀listed,Region.ready .any ops listed= []->listed.size=ops.size->listed.toList.count false=0):
  ∀fuel listed a w,listed.size=ops.size->listed.toList.count false<=fuel->I listed a w->wpAny P .any ops Q fuel listed a w
 |0,listed,a,w,hs,hu,h=>⟨sq (by omega),done listed a w h (by omega)⟩
 |fuel+1,listed,a,w,hs,hu,h=>⟨λh0=>done listed a w h (all listed h0 hs),λi hi=>wpOp_mono (λa' w' h'=>BN step done all fuel _ a' w' (by simpa using hs) (by have:=Bn (uA hi).2.1;omega) h') (step listed a w i h hi)⟩
theorem dI{K:Act->World->Prop}{v:Value}{w:World}(ho:ops[i]?=some o)(hg:o.guard=none)(hr:(execOp a.eval o).run P w=.ok (.value v) w')(h:K (a.put o.dst v) w'):wpOp P ops Q i K a w:=
 wpOp_step ho λK' hK=>by
  rw[IN (by simp[Region.wanted,hg])];unfold Oper.wp;rw[hr,Oper.upon_value];exact hK _ _ h
theorem JE{K:Act->World->Prop}{f:Nat}{args:Array Value}{w w1:World}(ho:ops[i]?=some o)(hg:o.guard=none)(hr:(execOp a.eval o).run P w=.ok (.enter f args) w1)(h:Calls P f args w1 λe w'=>∃v,e=.returned v/\K (a.put o.dst v) w'):wpOp P ops Q i K a w:=
 wpOp_step ho λK' hK=>by
  rw[IN (by simp[Region.wanted,hg])];unfold Oper.wp;rw[hr,Oper.upon_enter];refine h.mono ?_;rintro e w' ⟨v,rfl,hk⟩;exact hK _ _ hk
end
theorem rG{j:Nat}(hi:i<listed.size):(listed.setIfInBounds i true).getD j false=true↔j=i\/listed.getD j false=true:=by
 rw[Array.getD_eq_getD_getElem?,Array.getD_eq_getD_getElem?,Array.getElem?_setIfInBounds];by_cases e:i=j
 ·subst e;rw[IN rfl,IN hi];simp
 ·rw[By e];exact⟨.inr,λh=>h.elim (λe'=>absurd e'.symm e) id⟩
theorem J0(h:listed.getD i true=false): ¬listed.getD i false=true:=by
 intro h';rw[Array.getD_eq_getD_getElem?]at h h';cases e:listed[i]? with
 |none=>rw[e]at h;cases h
 |some b=>rw[e]at h h';simp at h h';rw[h]at h';cases h'
structure je(dst:Nat->Nat)(val:Nat->Value->World->Prop)(W:World)(a0:Act)(n:Nat)(listed:Array Bool)(a:Act)(w:World):Prop where
 qY:Below W.heap.size W w
 size:a.tmps.size=a0.tmps.size
 defs:a.defers=a0.defers
 old:∀s,(∀j,j<n->listed.getD j false=true->s≠dst j)->a.tmps.getD s undef=a0.tmps.getD s undef
 new:∀j,j<n->listed.getD j false=true->val j (a.tmps.getD (dst j) undef) w
 len:n<=listed.size
theorem je.start{dst:Nat->Nat}{val:Nat->Value->World->Prop}{W w:World}(hb:Below W.heap.size W w)(a:Act)(n:Nat):je dst val W a n (Array.replicate n false) a w:=by
 have no:∀j,¬(Array.replicate n false).getD j false=true:=λj=>by
  rw[Array.getD_eq_getD_getElem?,Array.getElem?_replicate];split<;>simp
 exact⟨hb,rfl,rfl,λs _=>rfl,λj _ h=>absurd h (no j),by simp⟩
theorem je.step{dst:Nat->Nat}{val:Nat->Value->World->Prop}{W:World}{a0:Act}{n:Nat}{listed:Array Bool}{a:Act}{w w':World}{i:Nat}{v:Value}(h:je dst val W a0 n listed a w)(hi:i<n)(hd:dst i<a0.tmps.size)(inj:∀j,j<n->dst j=dst i->j=i)(hb:Below w.heap.size w w')(mono:∀j x,val j x w->val j x w')(hv:val i v w'):
  je dst val W a0 n (listed.setIfInBounds i true) (a.put (some (dst i)) v) w':=by
 have hL:=λj=>rG (listed:=listed) (i:=i) (j:=j) (by have:=h.len;omega);have hG:∀s,(a.put (some (dst i)) v).tmps.getD s undef=if s=dst i then v else a.tmps.getD s undef:=λs=>by
  show (a.tmps.setIfInBounds (dst i) v).getD s undef=_;rw[Array.getD_eq_getD_getElem?,Array.getElem?_setIfInBounds];by_cases e:dst i=s
  ·subst e;rw[IN rfl,IN (by rw[h.size];exact hd),IN rfl];rfl
  ·rw[By e,By λe'=>e e'.symm,Array.getD_eq_getD_getElem?]
 refine⟨cI h.qY hb,by show (a.tmps.setIfInBounds _ _).size=_;rw[Rt];exact h.size,h.defs,λs hs=>?_,λj hj hl=>?_,by simpa using h.len⟩
 ·rw[hG,By λe=>hs i hi ((hL i).2 (.inl rfl)) e];exact h.old s λj hj hl=>hs j hj ((hL j).2 (.inr hl))
 ·rw[hG];by_cases e:dst j=dst i
  ·rw[IN e,inj j hj e];exact hv
  ·rw[By e];rcases (hL j).1 hl with e'|hl
   ·exact absurd (by rw[e']) e
   ·exact mono j _ (h.new j hj hl)
end
section
def ue:Option Value->Prop
 |some (.int .u8 _)=>True
 |_=>False
def vP:Option Value->ByteArray
 |some (.int .u8 x)=>strOfNums [x]
 |_=>ByteArray.empty
theorem Lc(x:Int):ue (some (.int .u8 x))=True:=rfl
theorem Pa(x:Int):vP (some (.int .u8 x))=strOfNums [x]:=rfl
theorem Ce(x:Int):(strOfNums [x]).size=1:=rfl
theorem sr{x:Int}(h0:0<=x)(h1:x<256):strOfNums [x]=dz x:=by
 have e:x%256=x:=by omega
 simp[strOfNums,dz,byteOf,e]
theorem Ot(W:World)(b:Nat)(h:ue (W.cell? ⟨b,0,none⟩)):(convert 124 9 (.slice (some ⟨b,0,none⟩) 1 1)).run aa.prog W=.ok (.string (vP (W.cell? ⟨b,0,none⟩))) W:=by
 generalize hc:W.cell? ⟨b,0,none⟩=c at*;unfold ue at h;split at h
 ·rename_i x
  have:=run_convert_bytes_arg (P:=aa.prog) W 124 5 aa.underlying124 aa.underlying5 b 0 1 1 [x] rfl (λj hj=>by
   obtain rfl:j=0:=by simpa using hj
   rw[Nat.add_zero,hc];rfl) 9 aa.underlying9
  rw[this];rfl
 ·exact h.elim
attribute [local go_sem] Lc Pa Ot Ce
section
variable (ev:Operand->Value) (d:Option Tmp) (x y:Operand) (ty:TypeId) (pos:String) (aft:Array Edge) (w:World) (b:Nat)
theorem Fg:(execOp ev {dst:=d,op:=.move x,type:=ty,pos:=pos,after:=aft,guard:=none}).run aa.prog w=.ok (.value (ev x)) w:=rfl
theorem Jv:(execOp ev {dst:=d,op:=.assign x,type:=ty,pos:=pos,after:=aft,guard:=none}).run aa.prog w=.ok (.value (ev x)) w:=rfl
theorem Fe(h:ev x=.pointer (some ⟨b,0,none⟩)):(execOp ev {dst:=d,op:=.fieldAddr 88 x 0,type:=ty,pos:=pos,after:=aft,guard:=none}).run aa.prog w=.ok (.value (.pointer (some ⟨b,0,none⟩))) w:=by
 simp[execOp,h,go_sem]
theorem B9(h:ev x=.pointer (some ⟨b,0,none⟩)):(execOp ev {dst:=d,op:=.fieldAddr 88 x 2,type:=ty,pos:=pos,after:=aft,guard:=none}).run aa.prog w=.ok (.value (.pointer (some ⟨b,2,none⟩))) w:=by
 simp[execOp,h,go_sem]
theorem LI(h:ev x=.pointer (some ⟨b,0,none⟩)):(execOp ev {dst:=d,op:=.fieldAddr 88 x 1,type:=ty,pos:=pos,after:=aft,guard:=none}).run aa.prog w=.ok (.value (.pointer (some ⟨b,1,none⟩))) w:=by
 simp[execOp,h,go_sem]
theorem xJ(o:Nat)(n:Int)(h:ev x=.pointer (some ⟨b,o,none⟩))(hc:w.cell? ⟨b,o,none⟩=some (.int .i64 n)):(execOp ev {dst:=d,op:=.load 3 x,type:=ty,pos:=pos,after:=aft,guard:=none}).run aa.prog w=.ok (.value (.int .i64 n)) w:=by
 simp[execOp,h,hc,go_sem]
theorem xU(o:Nat)(s:ByteArray)(h:ev x=.pointer (some ⟨b,o,none⟩))(hc:w.cell? ⟨b,o,none⟩=some (.string s)):(execOp ev {dst:=d,op:=.load 9 x,type:=ty,pos:=pos,after:=aft,guard:=none}).run aa.prog w=.ok (.value (.string s)) w:=by
 simp[execOp,h,hc,go_sem]
theorem yx(n:Int)(h:ev x=.int .i64 n)(h0:0<=n)(h1:n<256):(execOp ev {dst:=d,op:=.convert 3 5 x,type:=ty,pos:=pos,after:=aft,guard:=none}).run aa.prog w=.ok (.value (.int .u8 n)) w:=by
 simp[execOp,h,go_sem];simp[IntKind.wrap,IntKind.bits,IntKind.signed];omega
theorem F6(n:Int)(h:ev x=.int .i64 n)(h0:0<=n)(h1:n<=1000000):(execOp ev {dst:=d,op:=.convert 3 55 x,type:=ty,pos:=pos,after:=aft,guard:=none}).run aa.prog w=.ok (.value (.int .u64 n)) w:=by
 simp[execOp,h,go_sem];simp[IntKind.wrap,IntKind.bits,IntKind.signed];omega
theorem zi(n:Int)(h:ev x=.int .u8 n):(execOp ev {dst:=d,op:=.buildSlice 124 1 #[(0,x)],type:=ty,pos:=pos,after:=aft,guard:=none}).run aa.prog w=.ok (.value (.slice (some ⟨w.heap.size,0,none⟩) 1 1)) (w.alloc (.cells #[.int .u8 n] 5)):=by
 simp[execOp,h,go_sem]
theorem Bc(n:Int)(b:Nat)(h:ev x=.slice (some ⟨b,0,none⟩) 1 1)(hc:w.heap[b]?=some (.cells #[.int .u8 n] 5)):(execOp ev {dst:=d,op:=.convert 124 9 x,type:=ty,pos:=pos,after:=aft,guard:=none}).run aa.prog w=.ok (.value (.string (strOfNums [n]))) w:=by
 have hcell:w.cell? ⟨b,0,none⟩=some (.int .u8 n):=(aj hc).1 0;simp[execOp,h,hcell,go_sem]
theorem pw(s t:ByteArray)(h:ev x=.string s)(h':ev y=.string t)(hz:s.size+t.size<=1000):(execOp ev {dst:=d,op:=.binOp .add 9 x y 9,type:=ty,pos:=pos,after:=aft,guard:=none}).run aa.prog w=.ok (.value (.string (s++t))) w:=by
 simp[execOp,h,h',go_sem];omega
theorem DM(s:ByteArray)(h:ev x=.string s):(execOp ev {dst:=d,op:=.call {callee:=.builtin .len,args:=#[x],argTypes:=#[9]},type:=ty,pos:=pos,after:=aft,guard:=none}).run aa.prog w=.ok (.value (.int .i64 s.size)) w:=by
 simp[execOp,h,go_sem]
theorem F5(a:Act)(t:Nat)(n:Int)(h:a.tmps.getD t undef=.int .u64 n):(execOp a.eval {dst:=d,op:=.call {callee:=.value (.func 55),args:=#[.tmp t,.const (.int .i64 4)],argTypes:=#[55,3]},type:=ty,pos:=pos,after:=aft,guard:=none}).run aa.prog w=.ok (.enter 55 #[.int .u64 n,.int .i64 4]) w:=by
 have h2:a.tmps[t]?.getD undef=.int .u64 n:=by rw[<-h,Array.getD_eq_getD_getElem?]
 simp[execOp,Act.eval,h2,go_sem]
end
def lT(w:World)(x:Value)(n:Int):Prop:=∃b,x=.slice (some ⟨b,0,none⟩) 1 1/\w.heap[b]?=some (.cells #[.int .u8 n] 5)
theorem lT.below{w:World}{x:Value}{n:Int}(h:lT w x n)(hb:Below w.heap.size w w'):lT w' x n:=by
 obtain⟨b,e,hh⟩:=h;exact⟨b,e,dw hh hb⟩
def jZ(st s1 nb s2 vv:ByteArray)(bx vr:Nat)(vn:Int)(j:Nat)(x:Value)(w:World):Prop:=match j with
 |0=>x=.string st
 |1=>x=.pointer (some ⟨bx,0,none⟩)
 |2=>x=.int .i64 vr
 |3=>x=.int .u8 vr
 |4=>lT w x vr
 |5=>x=.string s1
 |6=>x=.string (st++s1)
 |7=>x=.pointer (some ⟨bx,1,none⟩)
 |8=>x=.int .i64 vn
 |9=>x=.int .u64 vn
 |10=>x=.string nb
 |11=>x=.string (st++s1++nb)
 |12=>x=.pointer (some ⟨bx,2,none⟩)
 |13=>x=.string vv
 |14=>x=.int .i64 vv.size
 |15=>x=.int .u8 vv.size
 |16=>lT w x vv.size
 |17=>x=.string s2
 |18=>x=.string (st++s1++nb++s2)
 |19=>x=.pointer (some ⟨bx,2,none⟩)
 |20=>x=.string vv
 |_=>x=.string (st++s1++nb++s2++vv)
theorem M5{st s1 nb s2 vv:ByteArray}{bx vr:Nat}{vn:Int}{w:World}(hb:Below w.heap.size w w'):∀j x,jZ st s1 nb s2 vv bx vr vn j x w->jZ st s1 nb s2 vv bx vr vn j x w':=λj x h=>by
 unfold jZ at*;split at h
 all_goals first|exact h|exact h.below hb
def hY(j:Nat):Nat:=if j=22 then 3 else 47+j
theorem EX(hi:i<23):∀j,j<23->hY j=hY i->j=i:=λj hj e=>by
 unfold hY at e;split at e<;>split at e<;>omega
theorem EZ(T:Array Value)(h:T.size=70):T=#[T.getD 0 undef,T.getD 1 undef,T.getD 2 undef,T.getD 3 undef,T.getD 4 undef,T.getD 5 undef,T.getD 6 undef,T.getD 7 undef,T.getD 8 undef,T.getD 9 undef,T.getD 10 undef,T.getD 11 undef,T.getD 12 undef,T.getD 13 undef,T.getD 14 undef,T.getD 15 undef,T.getD 16 undef,T.getD 17 undef,T.getD 18 undef,T.getD 19 undef,T.getD 20 undef,T.getD 21 undef,T.getD 22 undef,T.getD 23 undef,T.getD 24 undef,T.getD 25 undef,T.getD 26 undef,T.getD 27 undef,T.getD 28 undef,T.getD 29 undef,T.getD 30 undef,T.getD 31 undef,T.getD 32 undef,T.getD 33 undef,T.getD 34 undef,T.getD 35 undef,T.getD 36 undef,T.getD 37 undef,T.getD 38 undef,T.getD 39 undef,T.getD 40 undef,T.getD 41 undef,T.getD 42 undef,T.getD 43 undef,T.getD 44 undef,T.getD 45 undef,T.getD 46 undef,T.getD 47 undef,T.getD 48 undef,T.getD 49 undef,T.getD 50 undef,T.getD 51 undef,T.getD 52 undef,T.getD 53 undef,T.getD 54 undef,T.getD 55 undef,T.getD 56 undef,T.getD 57 undef,T.getD 58 undef,T.getD 59 undef,T.getD 60 undef,T.getD 61 undef,T.getD 62 undef,T.getD 63 undef,T.getD 64 undef,T.getD 65 undef,T.getD 66 undef,T.getD 67 undef,T.getD 68 undef,T.getD 69 undef]:=by
 have e:T=Array.ofFn (n:=70) λi=>T.getD i undef:=by
  apply QX
  ·simp[h]
  ·intro i h1 h2;simp[Array.getD,h1]
 exact e.trans (by generalize (λi=>T.getD i undef)=f;kernel_rfl)
theorem OE(T A:Array Value)(h:T.size=70)(old:∀s,s≠3->¬(47<=s/\s<69)->T.getD s undef=A.getD s undef):T=#[A.getD 0 undef,A.getD 1 undef,A.getD 2 undef,T.getD 3 undef,A.getD 4 undef,A.getD 5 undef,A.getD 6 undef,A.getD 7 undef,A.getD 8 undef,A.getD 9 undef,A.getD 10 undef,A.getD 11 undef,A.getD 12 undef,A.getD 13 undef,A.getD 14 undef,A.getD 15 undef,A.getD 16 undef,A.getD 17 undef,A.getD 18 undef,A.getD 19 undef,A.getD 20 undef,A.getD 21 undef,A.getD 22 undef,A.getD 23 undef,A.getD 24 undef,A.getD 25 undef,A.getD 26 undef,A.getD 27 undef,A.getD 28 undef,A.getD 29 undef,A.getD 30 undef,A.getD 31 undef,A.getD 32 undef,A.getD 33 undef,A.getD 34 undef,A.getD 35 undef,A.getD 36 undef,A.getD 37 undef,A.getD 38 undef,A.getD 39 undef,A.getD 40 undef,A.getD 41 undef,A.getD 42 undef,A.getD 43 undef,A.getD 44 undef,A.getD 45 undef,A.getD 46 undef,T.getD 47 undef,T.getD 48 undef,T.getD 49 undef,T.getD 50 undef,T.getD 51 undef,T.getD 52 undef,T.getD 53 undef,T.getD 54 undef,T.getD 55 undef,T.getD 56 undef,T.getD 57 undef,T.getD 58 undef,T.getD 59 undef,T.getD 60 undef,T.getD 61 undef,T.getD 62 undef,T.getD 63 undef,T.getD 64 undef,T.getD 65 undef,T.getD 66 undef,T.getD 67 undef,T.getD 68 undef,A.getD 69 undef]:=
 (EZ T h).trans (by rw[old 0 (by decide) (by decide),old 1 (by decide) (by decide),old 2 (by decide) (by decide),old 4 (by decide) (by decide),old 5 (by decide) (by decide),old 6 (by decide) (by decide),old 7 (by decide) (by decide),old 8 (by decide) (by decide),old 9 (by decide) (by decide),old 10 (by decide) (by decide),old 11 (by decide) (by decide),old 12 (by decide) (by decide),old 13 (by decide) (by decide),old 14 (by decide) (by decide),old 15 (by decide) (by decide),old 16 (by decide) (by decide),old 17 (by decide) (by decide),old 18 (by decide) (by decide),old 19 (by decide) (by decide),old 20 (by decide) (by decide),old 21 (by decide) (by decide),old 22 (by decide) (by decide),old 23 (by decide) (by decide),old 24 (by decide) (by decide),old 25 (by decide) (by decide),old 26 (by decide) (by decide),old 27 (by decide) (by decide),old 28 (by decide) (by decide),old 29 (by decide) (by decide),old 30 (by decide) (by decide),old 31 (by decide) (by decide),old 32 (by decide) (by decide),old 33 (by decide) (by decide),old 34 (by decide) (by decide),old 35 (by decide) (by decide),old 36 (by decide) (by decide),old 37 (by decide) (by decide),old 38 (by decide) (by decide),old 39 (by decide) (by decide),old 40 (by decide) (by decide),old 41 (by decide) (by decide),old 42 (by decide) (by decide),old 43 (by decide) (by decide),old 44 (by decide) (by decide),old 45 (by decide) (by decide),old 46 (by decide) (by decide),old 69 (by decide) (by decide)])
structure MK(nm:ByteArray)(c:Ctx)(l:List ax):Prop where
 nm:nm.size<=8
 ctx:∀i,i<4->0<=c i/\c i<=1000000
 len:l.length<=20
 Bf:∀v∈l,v.rep<4/\0<=v.n/\v.n<=1000000/\v.val.size<=12
theorem Gh(nm:ByteArray)(c:Ctx)(sv:Value)(l:List ax)(w:World)(h:df w sv l)(hk:MK nm c l):
  Calls aa.prog 74 #[fV (nm,c,sv)] w λe w'=>e=.returned (.string (cz nm c l))/\Below w.heap.size w w':=by
 obtain⟨ad,cap,rfl,hcap,hlc⟩:=aZ h;have hn8:=hk.nm;have HB:Hid (∀(x:Int) W,Calls aa.prog 55 #[.int .u64 x,.int .i64 4] W λe w'=>e=.returned (.string (bY x))/\Below W.heap.size W w'):=λx W=>by
  have:=tT x 4 W (by omega);rw[P4]at this;exact this
 have HK:Hid _:=hk;have HA:Hid (df w (.slice ad l.length cap) l):=h;clear h hk;go_enter aa.func74,aa.ntmps74;go_wp2;have HS0:Hid (strOfNums [(nm.size:Int)]++nm=cm nm++cK c 0):=(show strOfNums [(nm.size:Int)]++nm=cm nm++cK c 0 by rw[cK,nV,sr (by omega) (by omega)];rfl)
 obtain⟨W0,hW0⟩: ∃W,W=(w.alloc (.cells #[.string nm,.int .i64 (c 0),.int .i64 (c 1),.int .i64 (c 2),.int .i64 (c 3),.slice ad l.length cap] 82)).alloc (.cells #[.int .u8 nm.size] 5):=⟨_,rfl⟩
 rw[<-hW0];have HB0:Hid (Below w.heap.size w W0):=(by rw[hW0];exact (((AT _ _).alloc (AI _) _).alloc (by simp) _))
 have HBx:Hid (W0.heap[w.heap.size]?=some (.cells #[.string nm,.int .i64 (c 0),.int .i64 (c 1),.int .i64 (c 2),.int .i64 (c 3),.slice ad l.length cap] 82)):=(by rw[hW0,Qx _ _ _ (by simp)];exact IS w _)
 have HA0:Hid (df W0 (.slice ad l.length cap) l):=(by rw[hW0];exact (QW HA.out _).alloc _)
 clear hW0 HA;rw[HS0.out];clear HS0;go_loopw [3,4] (λs i wr=>∃k:Nat,k<=4/\i=.int .i64 k/\s=.string (cm nm++cK c k)/\Hid (Below W0.heap.size W0 wr)) (λ_ i _=>4-(intOf i).toNat)
 case atStart=>exact⟨0,by omega,rfl,rfl,AT _ _⟩
 case round=>
  obtain⟨k,hk4,rfl,rfl,HBe⟩:=hrel;have HC:=(aj (dw HBx.out HBe.out)).1;by_cases hlt:k<4
  ·have k1:(k:Int)<4:=by omega
   have k0:(0:Int)<=(k:Int):=by omega
   have hc:wr.cell? ⟨w.heap.size,1+k,none⟩=some (.int .i64 (c k)):=by
    rw[HC];rcases cE hlt with rfl|rfl|rfl|rfl<;>rfl
   obtain⟨hc0,hc1⟩:=HK.out.ctx k hlt;have hsz:(cm nm++cK c k).size=1+nm.size+4*k:=by rw[QB,nq,mJ]
   have HE:Hid (cm nm++cK c (k+1)=cm nm++cK c k++bY (c k)):=(show cm nm++cK c (k+1)=cm nm++cK c k++bY (c k) by rw[cK,gd])
   have HBk:Hid _:=HB.out (c k);have hns:(bY (c k)).size=4:=rfl;generalize bY (c k)=nb at*;generalize cm nm++cK c k=st at*;generalize c k=ck at*;clear HC HB;go_wp2_with (go_at_call 55;refine BY (HBk.out _) ?_;rintro e w1 ⟨rfl,hb1⟩;have HB1:Hid _:=cI HBe.out hb1;clear hb1)
   exact⟨⟨k+1,by omega,by go_num,by rw[HE.out],HB1.out⟩,by simp[intOf];omega⟩
  ·obtain rfl:k=4:=by omega
   have c5:wr.cell? ⟨w.heap.size,5,none⟩=some (.slice ad l.length cap):=by rw[HC];rfl
   have hl20:=HK.out.len;have hl20':(l.length:Int)<=20:=by omega
   have HBk:Hid _:=HB.out (l.length:Int);have hsz:(cm nm++cK c 4).size=1+nm.size+16:=by rw[QB,nq,mJ]
   have hns:(bY (l.length:Int)).size=4:=rfl;have HE:Hid (cz nm c l=cm nm++cK c 4++bY (l.length:Int)++bI l):=(show cz nm c l=cm nm++cK c 4++bY (l.length:Int)++bI l by rw[cz,jI,gd,gd])
   generalize bY (l.length:Int)=nb at*;generalize hst:cm nm++cK c 4=st at*;clear hst HC;go_upto_region 7 with (go_at_call 55;refine BY (HBk.out _) ?_;rintro e w1 ⟨rfl,hb1⟩;have HB1:Hid (Below W0.heap.size W0 w1):=cI HBe.out hb1;clear hb1)
   have hs2:(st++nb).size<=100:=by rw[QB];omega
   generalize hst2:st++nb=st2 at*;go_wp2;go_loopw [3,5] (λs i wr=>∃k:Nat,k<=l.length/\i=.int .i64 k/\s=.string (st2++bI (l.take k))/\Hid (Below W0.heap.size W0 wr)) (λ_ i _=>l.length-(intOf i).toNat)
   case atStart=>exact⟨0,by omega,rfl,by rw[List.take_zero];show _=Value.string (st2++ByteArray.empty);rw[nV],HB1.out⟩
   case round=>
    obtain⟨k,hkl,rfl,rfl,HBe2⟩:=hrel;have c5:wr.cell? ⟨w.heap.size,5,none⟩=some (.slice ad l.length cap):=by rw[(aj (dw HBx.out HBe2.out)).1];rfl
    by_cases hlt:k<l.length
    ·have hv:=HK.out.Bf l[k] (OF hlt);obtain⟨g,cap',e,_,_,_,hcell⟩:=cU (cy HA0.out HBe2.out (AI _)) (by omega);cases e;obtain⟨f0,f1,f2⟩:=mn l k hlt;have d0:=hcell (k*3) _ (by omega) f0;have d1:=hcell (k*3+1) _ (by omega) f1;have d2:=hcell (k*3+2) _ (by omega) f2;have hvb:=wo λv hv=>(HK.out.Bf v hv).2.2.2;have hle:=wD l k;have hs3:(st2++bI (l.take k)).size<=600:=by rw[QB];omega
     have HVe:Hid (st2++bI (l.take (k+1))=st2++bI (l.take k)++fD l[k]):=(show st2++bI (l.take (k+1))=st2++bI (l.take k)++fD l[k] by rw[ru hlt,gd])
     have HBn:Hid _:=HB.out l[k].n;have hns:(bY l[k].n).size=4:=rfl;have HVB:Hid (fD l[k]=dz l[k].rep++(bY l[k].n++(dz l[k].val.size++l[k].val))):=rfl;generalize hs3':st2++bI (l.take k)=bX at*;clear hs3';obtain⟨q1,q2,q3,q4⟩:=hv;generalize l[k]=v at*;obtain⟨vr,vn,vv⟩:=v;simp only[ax.rep,ax.n,ax.val] at*;generalize bY vn=nb2 at*;have k1:(k:Int)<(l.length:Int):=by omega
     have k0:(0:Int)<=(k:Int):=by omega
     have q1':(vr:Int)<4:=by omega
     have q4':(vv.size:Int)<=12:=by omega
     go_upto_region 11 with fail;obtain⟨W5,hW5⟩: ∃W,W=wr.alloc (.cells #[.int .i64 vr,.int .i64 vn,.string vv] 88):=⟨_,rfl⟩
     rw[<-hW5];have hx5:W5.heap[wr.heap.size]?=some (.cells #[.int .i64 vr,.int .i64 vn,.string vv] 88):=by rw[hW5];exact IS wr _
     have HB5:Hid (Below W0.heap.size W0 W5):=(by rw[hW5];exact HBe2.out.alloc HBe2.out.size _)
     have HX5:Hid (wr.heap.size<W5.heap.size):=(show wr.heap.size<W5.heap.size from (Array.getElem?_eq_some_iff.1 hx5).1)
     clear hW5;have hmk:Hid (∀W,Below W5.heap.size W5 W->W.cell? ⟨wr.heap.size,0,none⟩=some (.int .i64 vr)/\W.cell? ⟨wr.heap.size,1,none⟩=some (.int .i64 vn)/\W.cell? ⟨wr.heap.size,2,none⟩=some (.string vv)):=λW hW=>by
      have hc:=(aj (dw hx5 hW)).1;exact⟨hc 0,hc 1,hc 2⟩
     have hvr0:(0:Int)<=(vr:Int):=by omega
     clear d0 d1 d2 c5 hx5;have HF:Hid (bX++strOfNums [(vr:Int)]++nb2++strOfNums [(vv.size:Int)]++vv=st2++bI (l.take (k+1))):=(show _=_ by rw[HVe.out,HVB.out,sr (by omega) (by omega),sr (by omega) (by omega),gd,gd,gd])
     obtain⟨s1,hs1⟩: ∃s,strOfNums [(vr:Int)]=s:=⟨_,rfl⟩
     obtain⟨s2,hs2'⟩: ∃s,strOfNums [(vv.size:Int)]=s:=⟨_,rfl⟩
     have hz1:s1.size=1:=by rw[<-hs1];rfl
     have hz2:s2.size=1:=by rw[<-hs2'];rfl
     rw[hs1,hs2']at HF;refine wp_region_any (by kernel_rfl) ?_;refine BN (I:=λlisted a w=>je hY (jZ bX s1 nb2 s2 vv wr.heap.size vr vn) W5 _ 23 listed a w/\(listed.getD 22 false=true->∀j,j<22->listed.getD j false=true)) ?_ ?_ (λlisted h0 hs=>Pf (by kernel_rfl) h0 hs) _ _ _ _ rfl (by decide) ⟨je.start ((AT _ _).drew) _ 23,λe=>absurd e (by decide)⟩
     ·rintro listed a w i ⟨hI,ho⟩ hi;obtain⟨hlt23,hun,hdep⟩:=uA hi;obtain⟨y0,y1,y2⟩:=hmk.out w hI.qY;have hlt23':i<23:=hlt23;have v6:a.tmps.getD 6 undef=.pointer (some ⟨wr.heap.size,0,none⟩):=hI.old 6 λj hj _ e=>by unfold hY at e;split at e<;>omega
      have h22:i<22->¬listed.getD 22 false=true:=λh e=>J0 hun (ho e i h);have fin0:∀{v w'},Below w.heap.size w w'->jZ bX s1 nb2 s2 vv wr.heap.size vr vn i v w'->je hY (jZ bX s1 nb2 s2 vv wr.heap.size vr vn) W5 _ 23 (listed.setIfInBounds i true) (a.put (some (hY i)) v) w':=λhb hv=>hI.step hlt23' (by unfold hY;split<;>(show _<70;omega)) (EX hlt23') hb (M5 hb) hv;have fin:∀{v w'},i<22->Below w.heap.size w w'->jZ bX s1 nb2 s2 vv wr.heap.size vr vn i v w'->je hY (jZ bX s1 nb2 s2 vv wr.heap.size vr vn) W5 _ 23 (listed.setIfInBounds i true) (a.put (some (hY i)) v) w'/\((listed.setIfInBounds i true).getD 22 false=true->∀j,j<22->(listed.setIfInBounds i true).getD j false=true):=λh hb hv=>⟨fin0 hb hv,λe=>(((rG (by have:=hI.len;omega)).1 e).elim (λe'=>absurd e' (by omega)) λe'=>absurd e' (h22 h))⟩
      clear hun hi;rcases (show i=0\/i=1\/i=2\/i=3\/i=4\/i=5\/i=6\/i=7\/i=8\/i=9\/i=10\/i=11\/i=12\/i=13\/i=14\/i=15\/i=16\/i=17\/i=18\/i=19\/i=20\/i=21\/i=22 by omega) with rfl|rfl|rfl|rfl|rfl|rfl|rfl|rfl|rfl|rfl|rfl|rfl|rfl|rfl|rfl|rfl|rfl|rfl|rfl|rfl|rfl|rfl|rfl
      ·have v3:a.tmps.getD 3 undef=.string bX:=hI.old 3 λj hj hl e=>(h22 (by omega)) (by have:j=22:=(by unfold hY at e;split at e<;>omega);rw[<-this];exact hl)
       exact dI rfl rfl (Fg _ _ _ _ _ _ _) (fin (by omega) (AT _ _) v3)
      ·exact dI rfl rfl (Fe _ _ _ _ _ _ _ wr.heap.size v6) (fin (by omega) (AT _ _) rfl)
      ·have v1:a.tmps.getD 48 undef=.pointer (some ⟨wr.heap.size,0,none⟩):=hI.new 1 (by omega) (hdep _ rfl ⟨1,.data⟩ (by simp) rfl);exact dI rfl rfl (xJ _ _ _ _ _ _ _ wr.heap.size 0 _ v1 y0) (fin (by omega) (AT _ _) rfl)
      ·have v2:a.tmps.getD 49 undef=.int .i64 vr:=hI.new 2 (by omega) (hdep _ rfl ⟨2,.data⟩ (by simp) rfl);exact dI rfl rfl (yx _ _ _ _ _ _ _ _ v2 (by omega) (by omega)) (fin (by omega) (AT _ _) rfl)
      ·have v3:a.tmps.getD 50 undef=.int .u8 vr:=hI.new 3 (by omega) (hdep _ rfl ⟨3,.data⟩ (by simp) rfl);exact dI rfl rfl (zi _ _ _ _ _ _ _ _ v3) (fin (by omega) ((AT _ _).alloc (AI _) _) ⟨_,rfl,IS w _⟩)
      ·obtain⟨b,e1,e2⟩:lT w (a.tmps.getD 51 undef) vr:=hI.new 4 (by omega) (hdep _ rfl ⟨4,.data⟩ (by simp) rfl);exact dI rfl rfl (Bc _ _ _ _ _ _ _ _ b e1 e2) (fin (by omega) (AT _ _) (by rw[hs1];rfl))
      ·have v0:a.tmps.getD 47 undef=.string bX:=hI.new 0 (by omega) (hdep _ rfl ⟨0,.data⟩ (by simp) rfl);have v5:a.tmps.getD 52 undef=.string s1:=hI.new 5 (by omega) (hdep _ rfl ⟨5,.data⟩ (by simp) rfl);exact dI rfl rfl (pw _ _ _ _ _ _ _ _ _ _ v0 v5 (by omega)) (fin (by omega) (AT _ _) rfl)
      ·exact dI rfl rfl (LI _ _ _ _ _ _ _ wr.heap.size v6) (fin (by omega) (AT _ _) rfl)
      ·have v7:a.tmps.getD 54 undef=.pointer (some ⟨wr.heap.size,1,none⟩):=hI.new 7 (by omega) (hdep _ rfl ⟨7,.data⟩ (by simp) rfl);exact dI rfl rfl (xJ _ _ _ _ _ _ _ wr.heap.size 1 _ v7 y1) (fin (by omega) (AT _ _) rfl)
      ·have v8:a.tmps.getD 55 undef=.int .i64 vn:=hI.new 8 (by omega) (hdep _ rfl ⟨8,.data⟩ (by simp) rfl);exact dI rfl rfl (F6 _ _ _ _ _ _ _ _ v8 (by omega) (by omega)) (fin (by omega) (AT _ _) rfl)
      ·have v9:a.tmps.getD 56 undef=.int .u64 vn:=hI.new 9 (by omega) (hdep _ rfl ⟨9,.data⟩ (by simp) rfl);refine JE rfl rfl (F5 _ _ _ _ _ _ _ _ v9) ((HBn.out w).mono ?_);rintro e w' ⟨rfl,hb⟩;exact⟨_,rfl,fin (by omega) hb rfl⟩
      ·have v6:a.tmps.getD 53 undef=.string (bX++s1):=hI.new 6 (by omega) (hdep _ rfl ⟨6,.data⟩ (by simp) rfl);have v10:a.tmps.getD 57 undef=.string nb2:=hI.new 10 (by omega) (hdep _ rfl ⟨10,.data⟩ (by simp) rfl);exact dI rfl rfl (pw _ _ _ _ _ _ _ _ _ _ v6 v10 (by rw[QB];omega)) (fin (by omega) (AT _ _) rfl)
      ·exact dI rfl rfl (B9 _ _ _ _ _ _ _ wr.heap.size v6) (fin (by omega) (AT _ _) rfl)
      ·have v12:a.tmps.getD 59 undef=.pointer (some ⟨wr.heap.size,2,none⟩):=hI.new 12 (by omega) (hdep _ rfl ⟨12,.data⟩ (by simp) rfl);exact dI rfl rfl (xU _ _ _ _ _ _ _ wr.heap.size 2 _ v12 y2) (fin (by omega) (AT _ _) rfl)
      ·have v13:a.tmps.getD 60 undef=.string vv:=hI.new 13 (by omega) (hdep _ rfl ⟨13,.data⟩ (by simp) rfl);exact dI rfl rfl (DM _ _ _ _ _ _ _ _ v13) (fin (by omega) (AT _ _) rfl)
      ·have v14:a.tmps.getD 61 undef=.int .i64 vv.size:=hI.new 14 (by omega) (hdep _ rfl ⟨14,.data⟩ (by simp) rfl);exact dI rfl rfl (yx _ _ _ _ _ _ _ _ v14 (by omega) (by omega)) (fin (by omega) (AT _ _) rfl)
      ·have v15:a.tmps.getD 62 undef=.int .u8 vv.size:=hI.new 15 (by omega) (hdep _ rfl ⟨15,.data⟩ (by simp) rfl);exact dI rfl rfl (zi _ _ _ _ _ _ _ _ v15) (fin (by omega) ((AT _ _).alloc (AI _) _) ⟨_,rfl,IS w _⟩)
      ·obtain⟨b,e1,e2⟩:lT w (a.tmps.getD 63 undef) vv.size:=hI.new 16 (by omega) (hdep _ rfl ⟨16,.data⟩ (by simp) rfl);exact dI rfl rfl (Bc _ _ _ _ _ _ _ _ b e1 e2) (fin (by omega) (AT _ _) (by rw[hs2'];rfl))
      ·have v11:a.tmps.getD 58 undef=.string (bX++s1++nb2):=hI.new 11 (by omega) (hdep _ rfl ⟨11,.data⟩ (by simp) rfl);have v17:a.tmps.getD 64 undef=.string s2:=hI.new 17 (by omega) (hdep _ rfl ⟨17,.data⟩ (by simp) rfl);exact dI rfl rfl (pw _ _ _ _ _ _ _ _ _ _ v11 v17 (by rw[QB,QB];omega)) (fin (by omega) (AT _ _) rfl)
      ·exact dI rfl rfl (B9 _ _ _ _ _ _ _ wr.heap.size v6) (fin (by omega) (AT _ _) rfl)
      ·have v19:a.tmps.getD 66 undef=.pointer (some ⟨wr.heap.size,2,none⟩):=hI.new 19 (by omega) (hdep _ rfl ⟨19,.data⟩ (by simp) rfl);exact dI rfl rfl (xU _ _ _ _ _ _ _ wr.heap.size 2 _ v19 y2) (fin (by omega) (AT _ _) rfl)
      ·have v18:a.tmps.getD 65 undef=.string (bX++s1++nb2++s2):=hI.new 18 (by omega) (hdep _ rfl ⟨18,.data⟩ (by simp) rfl);have v20:a.tmps.getD 67 undef=.string vv:=hI.new 20 (by omega) (hdep _ rfl ⟨20,.data⟩ (by simp) rfl);exact dI rfl rfl (pw _ _ _ _ _ _ _ _ _ _ v18 v20 (by rw[QB,QB,QB];omega)) (fin (by omega) (AT _ _) rfl)
      ·have hall:∀j,j<22->listed.getD j false=true:=λj hj=>by
        rcases (show j=0\/j=1\/j=2\/j=3\/j=4\/j=5\/j=6\/j=7\/j=8\/j=9\/j=10\/j=11\/j=12\/j=13\/j=14\/j=15\/j=16\/j=17\/j=18\/j=19\/j=20\/j=21 by omega) with rfl|rfl|rfl|rfl|rfl|rfl|rfl|rfl|rfl|rfl|rfl|rfl|rfl|rfl|rfl|rfl|rfl|rfl|rfl|rfl|rfl|rfl<;>exact hdep _ rfl ⟨_,.phase⟩ (by simp) rfl
       have v21:a.tmps.getD 68 undef=.string (bX++s1++nb2++s2++vv):=hI.new 21 (by omega) (hdep _ rfl ⟨21,.data⟩ (by simp) rfl);exact dI rfl rfl (Jv _ _ _ _ _ _ _) ⟨fin0 (AT _ _) v21,λ_ j hj=>(rG (by have:=hI.len;omega)).2 (.inr (hall j hj))⟩
     ·rintro listed a w ⟨hI,_⟩ hz;have hl:∀j,j<23->listed.getD j false=true:=λj hj=>by
       have hj':j<listed.toList.length:=by have:=hI.len;simp;omega
       have:=List.count_eq_zero.1 hz;rw[Array.getD_eq_getD_getElem?,Array.getElem?_eq_getElem (by simpa using hj')];refine Rm λhn=>this ?_;have e:listed[j]'(by simpa using hj')=false:=by simpa using hn
       rw[<-e,<-Array.getElem_toList];exact OF _
      have e3:a.tmps.getD 3 undef=.string (bX++s1++nb2++s2++vv):=hI.new 22 (by omega) (hl 22 (by omega));have hT:=OE a.tmps _ hI.size λs h3 h47=>hI.old s λj hj _ e=>by unfold hY at e;split at e<;>omega
      have hdf:=hI.defs;have HBw:Hid (Below W0.heap.size W0 w):=cI HB5.out hI.qY;clear hI hl hz;obtain⟨T,D⟩:=a;simp only at hT hdf e3;rw[e3,HF.out]at hT;generalize T.getD 47 undef=z47 at hT;generalize T.getD 48 undef=z48 at hT;generalize T.getD 49 undef=z49 at hT;generalize T.getD 50 undef=z50 at hT;generalize T.getD 51 undef=z51 at hT;generalize T.getD 52 undef=z52 at hT;generalize T.getD 53 undef=z53 at hT;generalize T.getD 54 undef=z54 at hT;generalize T.getD 55 undef=z55 at hT;generalize T.getD 56 undef=z56 at hT;generalize T.getD 57 undef=z57 at hT;generalize T.getD 58 undef=z58 at hT;generalize T.getD 59 undef=z59 at hT;generalize T.getD 60 undef=z60 at hT;generalize T.getD 61 undef=z61 at hT;generalize T.getD 62 undef=z62 at hT;generalize T.getD 63 undef=z63 at hT;generalize T.getD 64 undef=z64 at hT;generalize T.getD 65 undef=z65 at hT;generalize T.getD 66 undef=z66 at hT;generalize T.getD 67 undef=z67 at hT;generalize T.getD 68 undef=z68 at hT;clear e3;simp only[Array.getD_eq_getD_getElem?,List.getElem?_toArray,List.getElem?_cons_succ,List.getElem?_cons_zero,RM]at hT;subst hT hdf;go_wp2;exact⟨⟨k+1,by omega,by go_num,rfl,HBw.out⟩,by simp[intOf];omega⟩
    ·obtain rfl:k=l.length:=by omega
     go_wp2;go_ret;refine⟨?_,cI HB0.out HBe2.out⟩;rw[HE.out,List.take_length];rfl
end
def cJ(K:aB)(n:Nat)(l:List aC):List (ByteArray×Ctx×List ax):=(l.filter λq=>decide (aI q.1=n)).map λq=>(q.1,(K q.1).1,(K q.1).2)
theorem JV{n:Nat}(h:k<l.length)(hs:aI l[k].1=n):cJ K n (l.take (k+1))=cJ K n (l.take k)++ [(l[k].1,(K l[k].1).1,(K l[k].1).2)]:=by
 rw[cJ,cJ,RO h,List.filter_append,R6];simp[hs]
theorem Is{n:Nat}(h:k<l.length)(hs: ¬aI l[k].1=n):cJ K n (l.take (k+1))=cJ K n (l.take k):=by
 rw[cJ,cJ,RO h,List.filter_append,R6];simp[hs]
theorem zV(rs:List (ByteArray×Ctx×List ax))(r:ByteArray×Ctx×List ax):dS (rs++ [r])=dS rs++cz r.1 r.2.1 r.2.2:=by simp[dS,List.foldl_append]
theorem AB(K:aB)(n:Nat)(l:List aC):(cJ K n l).length<=l.length:=by
 rw[cJ,Rb];exact Q4 _ _
def te(l:List aC):Prop:=∀q∈l,q.1.size<=8
theorem zd(hK:dG K)(hn:te l)(n:Nat):(dS (cJ K n l)).size<=389*l.length:=by
 have h1:=wW (l:=cJ K n l) λr hr=>by
  obtain⟨q,hq,rfl⟩:=Rj.1 hr;exact⟨hn q (List.mem_filter.1 hq).1,IT (hK q.1).len (by decide),λv hv=>((hK q.1).each v hv).2.2⟩
 have h2:=AB K n l;omega
theorem Gc(rb num n:Nat)(sv:Value)(l:List aC)(K:aB)(w:World)(h:bK w rb num sv l K)(hK:dG K)(hv1:∀s,∀v∈(K s).2,0<=v.n)(hnm:te l)(hlen:l.length<=282429536481)(hn:n<64):
  Calls aa.prog 50 #[.pointer (some ⟨rb,0,none⟩),.int .i64 n] w λe w'=>e=.returned (.tuple #[.string (dS (cJ K n l)),.int .i64 (cJ K n l).length])/\Below w.heap.size w w':=by
 obtain⟨ad,cap,rfl,hcap,hlc⟩:=aZ h.ref.2;have HT:Hid (∀W,Below w.heap.size w W->bK W rb num (.slice ad l.length cap) l K):=λW hW=>h.below hW;have HSm:Hid (∀k,(dS (cJ K n (l.take k))).size<=109865089691109/\(cJ K n (l.take k)).length<=282429536481):=λk=>by
  have h1:=zd hK (l:=l.take k) (λq hq=>hnm q (List.mem_of_mem_take hq)) n;have h2:=AB K n (l.take k);have h3:(l.take k).length<=l.length:=by rw[RS];omega
  exact⟨by omega,by omega⟩
 have HRec:Hid (∀(k:Nat) (hk:k<l.length) W,Below w.heap.size w W->Calls aa.prog 74 #[fV l[k]] W λe w'=>e=.returned (.string (cz l[k].1 (K l[k].1).1 (K l[k].1).2))/\Below w.heap.size w w'):=λk hk W hW=>by
  have hq:=pY h.sorted (OF hk);have ht:=(h.below hW).at_ l[k].1;rw[hq]at ht;have hS:=hK l[k].1
  have:=Gh l[k].1 (K l[k].1).1 l[k].2.2 (K l[k].1).2 W ht.2 ⟨hnm _ (OF hk),hS.ctx,hS.len,λv hv=>by
   obtain⟨a1,a2,a3⟩:=hS.each v hv
   have:=hS.ctx v.rep a1;exact⟨a1,hv1 _ v hv,by omega,a3⟩⟩
  rw[show ((l[k].1,(K l[k].1).1,l[k].2.2):aC)=l[k] from by rw[<-ht.1]]at this;exact this.mono λe w' ⟨he,hb⟩=>⟨he,cI hW hb⟩
 have HSu:Hid (∀(k:Nat) (hk:k<l.length) W,Calls aa.prog 73 #[.string l[k].1] W λe w'=>e=.returned (.int .u64 (cC l[k].1))/\w'=W):=λk hk W=>uo _ W (by have:=hnm _ (OF hk);unfold maxLen;omega);have hn64:(n:Int)<64:=by omega
 clear h hK hv1 hnm;go_enter aa.func50,aa.ntmps50;go_wp2;go_loopw [6,7,8] (λs c i wr=>∃k:Nat,k<=l.length/\i=.int .i64 k/\s=.string (dS (cJ K n (l.take k)))/\c=.int .i64 (cJ K n (l.take k)).length/\Hid (Below w.heap.size w wr)) (λ_ _ i _=>l.length-(intOf i).toNat)
 case atStart=>exact⟨0,by omega,rfl,rfl,rfl,AT _ _⟩
 case round=>
  obtain⟨k,hk,rfl,rfl,rfl,HB⟩:=hrel;have hT:=HT.out wr HB.out;have c1:wr.cell? ⟨rb,1,none⟩=some (.slice ad l.length cap):=by rw[(aj hT.ref.1).1];rfl
  by_cases hlt:k<l.length
  ·obtain⟨g,cap',e,_,_,_,hcell⟩:=cU hT.ref.2 (by omega);cases e;have hq:∀j,j<6->wr.cell? ⟨g,k*6+j,none⟩=(dM l[k])[j]? :=λj hj=>by
    have:=oY l k hlt j hj;rw[<-this];have hj':k*6+j<(flatK l).length:=by rw[qc];omega
    rw[List.getElem?_eq_getElem hj'];exact hcell _ _ (by omega) (List.getElem?_eq_getElem hj')
   have HR:Hid _:=HRec.out k hlt;have HS:Hid _:=HSu.out k hlt;obtain⟨hs1,hs2⟩:=HSm.out k;have HHit:Hid (aI l[k].1=n->cJ K n (l.take (k+1))=cJ K n (l.take k)++ [(l[k].1,(K l[k].1).1,(K l[k].1).2)]):=JV hlt;have HMis:Hid (¬aI l[k].1=n->cJ K n (l.take (k+1))=cJ K n (l.take k)):=Is hlt;have HSn:=HSm.out (k+1);have hseg:=zY l[k].1;have hf0:=(oc l[k].1 l[k].1.size).1;have hf1:=(oc l[k].1 l[k].1.size).2;have d0:wr.cell? ⟨g,k*6,none⟩=some (.string l[k].1):=hq 0 (by omega);have d1:wr.cell? ⟨g,k*6+1,none⟩=some (.int .i64 (l[k].2.1 0)):=hq 1 (by omega);have d2:wr.cell? ⟨g,k*6+2,none⟩=some (.int .i64 (l[k].2.1 1)):=hq 2 (by omega);have d3:wr.cell? ⟨g,k*6+3,none⟩=some (.int .i64 (l[k].2.1 2)):=hq 3 (by omega);have d4:wr.cell? ⟨g,k*6+4,none⟩=some (.int .i64 (l[k].2.1 3)):=hq 4 (by omega);have d5:wr.cell? ⟨g,k*6+5,none⟩=some l[k].2.2:=hq 5 (by omega);have k1:(k:Int)<(l.length:Int):=by omega
   have k0:(0:Int)<=(k:Int):=by omega
   clear hq hcell hT HRec HSu;generalize hrl:cJ K n (l.take k)=R at*;clear hrl;generalize l[k]=q at*;obtain⟨nm,c,v⟩:=q;simp only at*;generalize hfv:cC nm=F at*;have hF0:0<=F:=by rw[<-hfv];exact hf0
   have hF1:F<18446744073709551616:=by rw[<-hfv];exact hf1
   clear hf0 hf1 hfv;have n0:(0:Int)<=(n:Int):=by omega
   by_cases hs:aI nm=n
   ·have hsn:F%64=(n:Int):=by omega
    have hrs:=HSn.1;have hR:=HHit.out hs;rw[hR,zV,QB]at hrs;have hl2:=HSn.2;rw[hR,Q2]at hl2;simp only[RQ]at hl2;have HE:Hid (dS (cJ K n (l.take (k+1)))=dS R++cz nm (K nm).1 (K nm).2/\(cJ K n (l.take (k+1))).length=R.length+1):=(show _/\_ by rw[hR,zV,Q2];exact⟨rfl,rfl⟩)
    generalize cz nm (K nm).1 (K nm).2=rc at*;generalize dS R=sb at*;clear HHit HMis HSn hseg;go_wp2_with (first
     |(go_at_call 73;refine BY (HS.out _) ?_;rintro e w1 ⟨rfl,hw1⟩;obtain rfl:=hw1.symm)
     |(go_at_call 74;refine BY (HR.out _ HB.out) ?_;rintro e w2 ⟨rfl,hb2⟩;have HB2:Hid (Below w.heap.size w w2):=hb2;clear hb2))
    exact⟨⟨k+1,by omega,by go_num,by rw[HE.out.1],by rw[HE.out.2];go_num,HB2.out⟩,by simp[intOf];omega⟩
   ·have hsn: ¬F%64=(n:Int):=by omega
    have HE:Hid (cJ K n (l.take (k+1))=R):=HMis.out hs;obtain⟨sb,hsb⟩: ∃sb,dS R=sb:=⟨_,rfl⟩
    rw[hsb]at hs1 ⊢;clear HHit HMis HSn hseg HR;go_wp2_with (go_at_call 73;refine BY (HS.out _) ?_;rintro e w1 ⟨rfl,hw1⟩;obtain rfl:=hw1.symm)
    exact⟨⟨k+1,by omega,by go_num,by rw[HE.out,hsb],by rw[HE.out],HB.out⟩,by simp[intOf];omega⟩
  ·obtain rfl:k=l.length:=by omega
   rw[List.take_length];go_wp2;go_ret2;exact⟨rfl,HB.out⟩
end Go.Proofs.YtldmcdeibiclkaaGreatQ
