/-
  Toward causal_holds: Contracts: the digest of a text, how many nodes a level has, and the segment of a key.
-/
import Derived.Test.YtldmcdeibiclkaaGreatDoorC16
import Derived.Laws.Bits64
import Derived.Test.YtldmcdeibiclkaaGreatDoorC17
import Derived.Deep.RegionHeld3
import Derived.Laws.MakeOwn
import Derived.WalkKit
set_option linter.unusedVariables false
set_option linter.unusedSimpArgs false
set_option maxRecDepth 100000
set_option maxHeartbeats 20000000
namespace Go.Proofs.YtldmcdeibiclkaaGreatDoorQ
open Go.RowKit
def kW(s:ByteArray)(k:Nat):Int:=if h:k< s.size then (s[k].toNat:Int) else 0
def iq(s:ByteArray):Nat->Int
 |0=>14695981039346656037
 |k+1=>IntKind.u64.wrap (Go.bits .xor .u64 (iq s k) (kW s k)*1099511628211)
def cO(s:ByteArray):Int:=iq s s.size
def ay(s:ByteArray):Nat:=(cO s % 64).toNat
theorem pK(s:ByteArray):∀k,0<=iq s k/\iq s k< 18446744073709551616
 |0=>by simp[iq]
 |k+1=>by
  simp only[iq,IntKind.wrap_u64]
  exact⟨ZZ _ (by decide),aae _ (by decide)⟩
theorem fa(s:ByteArray):ay s< 64:=by
 unfold ay
 have h1:=ZZ (cO s) (show (64:Int)≠0 by decide)
 have h2:=aae (cO s) (show (0:Int)< 64 by decide)
 omega
theorem CV(s:ByteArray):((ay s:Nat):Int)=cO s % 64:=by
 unfold ay
 have h1:=ZZ (cO s) (show (64:Int)≠0 by decide)
 omega
theorem xF(b:UInt8):IntKind.u64.wrap (b.toNat:Int)=(b.toNat:Int):=by
 rw[IntKind.wrap_u64]
 have:=b.toNat_lt
 omega
theorem xw(s:ByteArray)(k:Nat)(h:k< s.size):kW s k=(s[k].toNat:Int):=by simp[kW,h]
theorem yU(s:ByteArray)(w:World)(hs:s.size<=maxLen):
  Calls aa.prog 82 #[.string s] w λe w'=>e= .returned (.int .u64 (cO s))/\w'=w:=by
 unfold maxLen at hs
 go_enter aa.func82,aa.ntmps82
 go_wp2
 go_loop [3,7] (λd i=>∃k:Nat,k<=s.size/\i= .int .i64 k/\d= .int .u64 (iq s k)) (λ_ i=>s.size - (intOf i).toNat)
 case atStart=>exact⟨0,by omega,rfl,rfl⟩
 case round=>
  obtain⟨k,hk,rfl,rfl⟩:=hrel
  by_cases hlt:k< s.size
  ·have g1:(k:Int)< (s.size:Int):=by omega
   have g0:(0:Int)<=(k:Int):=by omega
   have hst:Hid (iq s (k+1)=IntKind.u64.wrap (Go.bits .xor .u64 (iq s k) (s[k].toNat:Int)*1099511628211)):=by
    show iq s (k+1)=_
    rw[iq,xw s k hlt]
   go_wp2
   refine⟨⟨k+1,by omega,by go_num,?_⟩,by simp[intOf];omega⟩
   rw[hst.out,xF]
  ·have hke:k=s.size:=by omega
   go_wp2
   go_ret
   exact⟨rfl,rfl⟩
theorem Xp(w:World):Calls aa.prog 46 #[.int .i64 3] w λe w'=>e= .returned (.int .i64 64)/\w'=w:=by
 go_enter aa.func46,aa.ntmps46
 go_wp2
 go_loop [3,5] (λc i=>(i= .int .i64 0/\c= .int .i64 1)\/(i= .int .i64 1/\c= .int .i64 4)\/(i= .int .i64 2/\c= .int .i64 16)\/(i= .int .i64 3/\c= .int .i64 64)) (λ_ i=>3 - (intOf i).toNat)
 case atStart=>exact Or.inl ⟨rfl,rfl⟩
 case round=>
  rcases hrel with ⟨rfl,rfl⟩|⟨rfl,rfl⟩|⟨rfl,rfl⟩|⟨rfl,rfl⟩
  ·go_wp2
   exact⟨Or.inr (Or.inl ⟨rfl,rfl⟩),by decide⟩
  ·go_wp2
   exact⟨Or.inr (Or.inr (Or.inl ⟨rfl,rfl⟩)),by decide⟩
  ·go_wp2
   exact⟨Or.inr (Or.inr (Or.inr ⟨rfl,rfl⟩)),by decide⟩
  ·go_wp2
   go_ret
   exact⟨rfl,rfl⟩
theorem zZ(s:ByteArray)(w:World)(hs:s.size<=maxLen):
  Calls aa.prog 62 #[.string s] w λe w'=>e= .returned (.int .i64 (ay s))/\w'=w:=by
 have HS:Hid _:=λW=>yU s W hs
 have h0:=(pK s s.size).1
 have h1:=(pK s s.size).2
 have hx:Hid (cO s % 64=(ay s:Int)):=(CV s).symm
 have hl:=fa s
 change 0<=cO s at h0
 change cO s< _ at h1
 generalize cO s=F at*
 go_enter aa.func62,aa.ntmps62
 go_wp2_with (first
  |(go_at_call 82;refine BY (HS.out _) ?_;rintro e w1 ⟨rfl,rfl⟩)
  |(go_at_call 46;refine (Xp _).mono ?_;rintro e w1 ⟨rfl,rfl⟩))
 go_ret
 refine⟨pQ ?_,rfl⟩
 exact hx.out
abbrev aF:=ByteArray->Ctx×List aj
def er(w:World)(b:Nat)(bm:Nat->Nat)(num:Nat):Prop:=
 ∃A:Array Value,w.heap[b]? =some (.cells A 101)/\A[0]? =some (.int .i64 num)/\∀n,n< 64->A[n+1]? =some (.map (some (bm n)))
def cQ(c:Ctx):Prop:=∃i,i< 4/\c i≠0
def oS(w:World)(m n:Nat)(K:aF):Prop:=
 ∃es clock,w.heap[m]? =some (.map es clock)/\fP es.toList/\(∀s,ay s=n->∃sv,(cg es.toList s).getD lC=bh (K s).1 sv/\aC w sv (K s).2)/\kx (λk=>ay k=n/\k.size<=281474976710656/\cL k=true) es.toList clock/\∀s,cg es.toList s≠none->cQ (K s).1
def aE(w:World)(b:Nat)(bm:Nat->Nat)(num:Nat)(K:aF):Prop:=
 er w b bm num/\(∀n,n< 64->oS w (bm n) n K)/\∀n m,n< 64->m< 64->bm n=bm m->n=m
theorem zu{Q:ByteArray->Prop}:∀{es:List MapEntry} {s:ByteArray},cg es s≠none->(∀e∈es,∃k,e.key= .string k/\Q k)->Q s
 |[],_,h,_=>absurd rfl h
 |e::es,s,h,hq=>by
  obtain⟨k,hk,hQ⟩:=hq e List.mem_cons_self
  by_cases dQ:s=k
  ·rw[dQ];exact hQ
  ·refine zu (es:=es) (λhn=>h ?_) λe he=>hq e (aak _ he)
   simp[cg,hk,dQ,hn]
def bq(K:aF)(s:ByteArray)(x:Ctx×List aj):aF:=λt=>if t=s then x else K t
theorem aC.dO{w w':World}{sv:Value}{l:List aj}(h:aC w sv l)(hk:∀g,g< w.heap.size->(∃cur,w.heap[g]? =some (.cells cur 144 (0,0)))->w'.heap[g]? =w.heap[g]?):aC w' sv l:=by
 obtain⟨h1,h2⟩:=h
 refine⟨h1,?_⟩
 rcases h2 with h2|⟨g,cap,cur,hv,hg,hh,r⟩
 ·exact Or.inl h2
 ·exact Or.inr ⟨g,cap,cur,hv,hg,by rw[hk g (IN.1 hh).1 ⟨cur,hh⟩];exact hh,r⟩
theorem er.lt{w:World}{b num:Nat}{bm:Nat->Nat}(h:er w b bm num):b< w.heap.size:=by
 obtain⟨A,h1,_⟩:=h;exact (IN.1 h1).1
theorem oS.lt{w:World}{m n:Nat}{K:aF}(h:oS w m n K):m< w.heap.size:=by
 obtain⟨es,clock,h1,_⟩:=h;exact (IN.1 h1).1
theorem er.num{w:World}{b num:Nat}{bm:Nat->Nat}(h:er w b bm num):w.cell? ⟨b,0,none⟩=some (.int .i64 num):=by
 obtain⟨A,h1,h2,_⟩:=h;simp[World.cell?,h1,h2]
theorem er.tw{w:World}{b num:Nat}{bm:Nat->Nat}(h:er w b bm num){n:Nat}(hn:n< 64):w.cell? ⟨b,n+1,none⟩=some (.map (some (bm n))):=by
 obtain⟨A,h1,_,h2⟩:=h;simp[World.cell?,h1,h2 n hn]
theorem aE.dO{w w':World}{b num:Nat}{bm:Nat->Nat}{K:aF}(h:aE w b bm num K)(hb:w'.heap[b]? =w.heap[b]?)(hm:∀n,n< 64->w'.heap[bm n]? =w.heap[bm n]?)(hk:∀g,g< w.heap.size->(∃cur,w.heap[g]? =some (.cells cur 144 (0,0)))->w'.heap[g]? =w.heap[g]?):aE w' b bm num K:=by
 obtain⟨⟨A,h1,h2⟩,h3,h4⟩:=h
 refine⟨⟨A,by rw[hb];exact h1,h2⟩,λn hn=>?_,h4⟩
 obtain⟨es,clock,e1,e2,e3,e4⟩:=h3 n hn
 refine⟨es,clock,by rw[hm n hn];exact e1,e2,λs hs=>?_,e4⟩
 obtain⟨sv,h5,h6⟩:=e3 s hs
 exact⟨sv,h5,h6.dO hk⟩
theorem aE.below{w w':World}{b num:Nat}{bm:Nat->Nat}{K:aF}(h:aE w b bm num K)(hb:Below w.heap.size w w'):aE w' b bm num K:=
 h.dO (hb.block _ h.1.lt) (λn hn=>hb.block _ (h.2.1 n hn).lt) λg hg _=>hb.block g hg
theorem C3(b:Nat)(key:ByteArray)(c:Ctx)(sv:Value)(e:Int)(w:World)(he:(e==0)=false):
  Calls aa.prog 42 #[.pointer (some ⟨b,0,none⟩),.string key,bh c sv,.int .i64 e] w λr w'=>r= .returned (.int .i64 e)/\Below w.heap.size w w':=by
 go_enter aa.func42,aa.ntmps42
 go_wp2
 go_ret
 exact⟨rfl,(By _ _).alloc (AI _) _⟩
theorem aX{W w1:World}{p:Addr}{v:Value}(h:W.cell? p=some v)(hb:Below W.heap.size W w1):w1.cell? p=some v:=by
 rw[hb.cell (Z6 W p h)];exact h
theorem aY{W w1:World}{k:Nat}{o:Obj}(h:W.heap[k]? =some o)(hb:Below W.heap.size W w1):w1.heap[k]? =some o:=by
 rw[hb.block k (IN.1 h).1];exact h
theorem bG{w W w1:World}(h:Below w.heap.size w W)(hb:Below W.heap.size W w1):Below w.heap.size w w1:=h.trans (hb.mono h.size)
theorem Ra{w:World}{bm:Nat}{es:Array MapEntry}{clock:Nat}(h:bm< w.heap.size):(il w bm es clock).heap[bm]? =some (.map es clock):=by
 simp[il,h]
theorem sH{w:World}{bm k:Nat}{es:Array MapEntry}{clock:Nat}(h:k≠bm):(il w bm es clock).heap[k]? =w.heap[k]? :=by
 simp only[il,Yl]
 rw[AS (Ne.symm h)]
theorem C1{w w1:World}{b num:Nat}{bm:Nat->Nat}{K:aF}{key:ByteArray}{c:Ctx}{sv:Value}{l:List aj}{es es':Array MapEntry}{clock clock':Nat}(hB:Below w.heap.size w w1)(h:aE w b bm num K)(hm:w.heap[bm (ay key)]? =some (.map es clock))(hk':fP es'.toList)(he:∀t,cg es'.toList t=if t=key then some (bh c sv) else cg es.toList t)(hst:∀Q,Q key->kx Q es.toList clock->kx Q es'.toList clock')(dQ:key.size<=281474976710656/\cL key=true)(bd:cQ c)(hv:aC w sv l):
  aE (il w1 (bm (ay key)) es' clock') b bm num (bq K key (c,l))/\w.grownBy (il w1 (bm (ay key)) es' clock') (some (bm (ay key))):=by
 have hblt:=h.1.lt
 have hmlt:=(IN.1 hm).1
 have hseg:=fa key
 obtain⟨⟨A,hA,hA2⟩,hS,hinj⟩:=h
 have hne:b≠bm (ay key):=λe=>by rw[e,hm] at hA;cases hA
 have hvk:∀sv l,aC w sv l->aC (il w1 (bm (ay key)) es' clock') sv l:=λsv l h=>h.dO λg hg ⟨cur,hc⟩=>by
  rw[sH (λe=>by rw[e,hm] at hc;cases hc),hB.block g hg]
 refine⟨⟨⟨A,?_,hA2⟩,λn hn=>?_,hinj⟩,?_⟩
 ·rw[sH hne,hB.block b hblt];exact hA
 ·by_cases hns:n=ay key
  ·subst hns
   obtain⟨es0,clock0,e1,e2,e3,e4⟩:=hS _ hseg
   rw[hm] at e1
   cases e1
   refine⟨es',clock',Ra (X4 hmlt hB.size),hk',λs hs=>?_,hst _ ⟨rfl,dQ⟩ e4.1,λs hs=>?_⟩
   rotate_left
   ·by_cases h:s=key
    ·simpa[bq,h] using bd
    ·rw[he,AS h] at hs
     simpa[bq,h] using e4.2 s hs
   rw[he]
   by_cases h:s=key
   ·rw[AT h]
    exact⟨sv,by simp[bq,h],by simpa[bq,h] using hvk _ _ hv⟩
   ·rw[AS h]
    obtain⟨sv',h1,h2⟩:=e3 s hs
    exact⟨sv',by simpa[bq,h] using h1,by simpa[bq,h] using hvk _ _ h2⟩
  ·have hl:=(hS n hn).lt
   obtain⟨es0,clock0,e1,e2,e3,e4⟩:=hS n hn
   refine⟨es0,clock0,?_,e2,λs hs=>?_,e4.1,λs hs=>?_⟩
   rotate_left
   rotate_left
   ·have hsk:s≠key:=λe=>by
     subst e
     exact hns (zu hs e4.1.2.2.2|>.1.symm)
    simpa[bq,hsk] using e4.2 s hs
   ·rw[sH (λe=>hns (hinj _ _ hn hseg e)),hB.block _ hl];exact e1
   ·have hsk:s≠key:=λe=>hns (by rw[←hs,e])
    obtain⟨sv',h1,h2⟩:=e3 s hs
    exact⟨sv',by simpa[bq,hsk] using h1,by simpa[bq,hsk] using hvk _ _ h2⟩
 ·refine⟨hB.os,hB.tape,hB.output,by simpa[il] using hB.size,λk hk hn=>?_⟩
  rw[sH (λe=>hn (by rw[e])),hB.block k hk]
theorem mP{W w0 w1:World}(hb:Below W.heap.size W w1)(e1:W.heap=w0.heap)(e2:W.os=w0.os)(e3:W.tape=w0.tape)(e4:W.output=w0.output):Below w0.heap.size w0 w1:=
 ⟨hb.os.trans e2,hb.tape.trans e3,hb.output.trans e4,by rw[←e1];exact hb.size,λk hk=>by rw[←e1];exact hb.block k (by rw[e1];exact hk)⟩
theorem xy(b num:Nat)(bm:Nat->Nat)(key:ByteArray)(w:World)(hs:key.size<=maxLen)(h:er w b bm num):
  Calls aa.prog 39 #[.pointer (some ⟨b,0,none⟩),.string key] w λe w'=>e= .returned (.map (some (bm (ay key))))/\∃q,w'=w.drewN q:=by
 have HS:Hid _:=λW=>zZ key W hs
 have hl:=fa key
 have hc:=h.tw hl
 generalize ay key=n at*
 have hl':(n:Int)< 64:=by omega
 have hl0:(0:Int)<=(n:Int):=by omega
 have hc':w.cell? ⟨b,1+n,none⟩=some (.map (some (bm n))):=by rw[Zw];exact hc
 clear h
 go_enter aa.func39,aa.ntmps39
 go_wp2
 go_quiet ((go_at_call 62;refine BY (HS.out _) ?_;rintro e w' ⟨rfl,rfl⟩;exact⟨rfl,_,rfl⟩))
 go_wp2
 go_ret
 exact⟨rfl,_,rfl⟩
theorem Bb(b num:Nat)(bm:Nat->Nat)(K:aF)(key:ByteArray)(c:Ctx)(sv:Value)(l:List aj)(w:World)(hs:key.size<=281474976710656/\cL key=true)(bd:cQ c)(h:aE w b bm num K)(hv:aC w sv l):
  Calls aa.prog 42 #[.pointer (some ⟨b,0,none⟩),.string key,bh c sv,.int .i64 0] w λr w'=>r= .returned (.int .i64 0)/\aE w' b bm num (bq K key (c,l))/\w.grownBy w' (some (bm (ay key))):=by
 have hs1:=hs.1
 obtain⟨es,clock,hm,hk,_⟩:=h.2.1 _ (fa key)
 obtain⟨es',clock',hrun,hk',hent,hstp⟩:=DT (bm (ay key)) es clock key (bh c sv) hk
 have HF:Hid (∀w1,Below w.heap.size w w1->aE (il w1 (bm (ay key)) es' clock') b bm num (bq K key (c,l))/\w.grownBy (il w1 (bm (ay key)) es' clock') (some (bm (ay key)))):=λw1 hB=>C1 hB h hm hk' hent hstp hs bd hv
 have HSeg:Hid (∀w1,Below w.heap.size w w1->Calls aa.prog 39 #[.pointer (some ⟨b,0,none⟩),.string key] w1 λe w'=>e= .returned (.map (some (bm (ay key))))/\∃q,w'=w1.drewN q):=λw1 hB=>xy b num bm key w1 (by unfold maxLen;omega) (h.below hB).1
 have HM:Hid (∀w1,Below w.heap.size w w1->w1.heap[bm (ay key)]? =some (.map es clock)):=λw1 hB=>aY hm hB
 have HC:Hid (∀w1,Below (w.alloc (.cells #[.int .i64 (c 0),.int .i64 (c 1),.int .i64 (c 2),.int .i64 (c 3),sv] 106)).heap.size (w.alloc (.cells #[.int .i64 (c 0),.int .i64 (c 1),.int .i64 (c 2),.int .i64 (c 3),sv] 106)) w1->∀o,w1.cell? ⟨w.heap.size,o,none⟩=#[Value.int .i64 (c 0),.int .i64 (c 1),.int .i64 (c 2),.int .i64 (c 3),sv][o]?):=λw1 hB o=>by
  have:=aY (IS w _) hB
  simp[World.cell?,this]
 have HA:Hid (∀w1,Below (w.alloc (.cells #[.int .i64 (c 0),.int .i64 (c 1),.int .i64 (c 2),.int .i64 (c 3),sv] 106)).heap.size (w.alloc (.cells #[.int .i64 (c 0),.int .i64 (c 1),.int .i64 (c 2),.int .i64 (c 3),sv] 106)) w1->Below w.heap.size w w1):=λw1 hB=>bG ((By _ _).alloc (AI _) _) hB
 clear hent hv hk hk' h hm hstp
 generalize bm (ay key)=bms at*
 go_enter aa.func42,aa.ntmps42
 go_wp2
 go_region_with (first
  |(go_at_call 41;refine (qG key _ hs1).mono ?_;rintro e w1 ⟨rfl,hb1⟩;have hB0:=mP (w0:=w.alloc (.cells #[.int .i64 (c 0),.int .i64 (c 1),.int .i64 (c 2),.int .i64 (c 3),sv] 106)) hb1 rfl rfl rfl rfl;have HB:Hid _:=HA.out _ hB0;have k1:=HC.out _ hB0;have k3:=HM.out _ HB.out;have hrun1:=hrun w1 k3;have hrun2:=λq=>hrun (w1.drewN q) k3;clear hB0 hb1)
  |(go_at_call 39;refine BY (HSeg.out _ (by first|exact HB.out|exact ((By w.heap.size w).alloc (AI _) _).drew)) ?_;rintro e w2 ⟨rfl,q,rfl⟩))
 all_goals
  go_wp2
  go_ret
  exact⟨rfl,HF.out _ (by first|exact HB.out|exact⟨HB.out.os,HB.out.tape,HB.out.output,HB.out.size,HB.out.block⟩)⟩
theorem heap_set{w:World}{b o:Nat}{M:Array Value}{t:TypeId}{fr:Nat×Nat}{v:Value}(h:w.heap[b]? =some (.cells M t fr)):(w.setCell ⟨b,o,none⟩ v).heap[b]? =some (.cells (M.setIfInBounds o v) t fr):=by
 simp[World.setCell,Yz,h]
theorem dk{w:World}{b o b' o':Nat}{v:Value}(h:b'≠b):(w.setCell ⟨b,o,none⟩ v).cell? ⟨b',o',none⟩=w.cell? ⟨b',o',none⟩:=ZD (Yj w ⟨b,o,none⟩ v b' h)
theorem Nb{w:World}{b o:Nat}{M:Array Value}{t:TypeId}{fr:Nat×Nat}{x y z:Value}(h:w.heap[b]? =some (.cells M t fr)):(((w.setCell ⟨b,o,none⟩ x).setCell ⟨b,o+1,none⟩ y).setCell ⟨b,o+2,none⟩ z).heap[b]? =some (.cells (((M.setIfInBounds o x).setIfInBounds (o+1) y).setIfInBounds (o+2) z) t fr):=
 heap_set (heap_set (heap_set h))
theorem Mb{M:Array Value}{k:Nat}{xs:List Value}{x y z:Value}(hs:k*3+2< M.size)(h:M.toList.take (k*3)=xs):(((M.setIfInBounds (k*3) x).setIfInBounds (k*3+1) y).setIfInBounds (k*3+2) z).toList.take ((k+1)*3)=xs++ [x,y,z]:=by
 subst h
 apply ZY
 intro t
 have hl:(M.toList.take (k*3)).length=k*3:=by simp;omega
 by_cases h1:t< k*3
 ·rw[YJ,AT (by omega),YW (by omega),YJ,AT h1]
  simp only[YS,Yl]
  rw[AS (by omega),AS (by omega),AS (by omega)]
 ·rw[Yx (by omega),hl]
  by_cases h2:t< (k+1)*3
  ·rw[YJ,AT h2]
   simp only[YS,Yl,YK]
   have h3:t=k*3\/t=k*3+1\/t=k*3+2:=by omega
   rcases h3 with rfl|rfl|rfl
   ·rw[AS (by omega),AS (by omega),AT rfl,AT (by omega)];simp
   ·rw[AS (by omega),AT rfl,AT (by omega)];simp
   ·rw[AT rfl,AT (by omega)];simp
  ·rw[YJ,AS h2,ZI (by simp;omega)]
theorem aa.IQ:(aa.prog.info? 71).map (λi=>(i.zero,i.size,i.bytes))=some (some (.agg #[.int .i64 0,.int .i64 0,.string ⟨#[]⟩]),3,32):=by kernel_rfl
theorem Gn(l:List aj)(k:Nat)(h:k< l.length):aU (l.take (k+1))=aU (l.take k)++ [.int .i64 l[k].rep,.int .i64 l[k].n,.string l[k].val]:=by
 rw[Yu h,mE]
 simp[aU,dw]
theorem Kl{wr w1:World}{bo k:Nat}{M:Array Value}{t:TypeId}{X:Obj}(hb1:Below ((wr.alloc X).drew).heap.size ((wr.alloc X).drew) w1)(hh:wr.heap[bo]? =some (.cells M t))(hs:k*3+2< M.size):
  w1.heap[bo]? =some (.cells M t)/\(∃x,w1.cell? ⟨bo,k*3,none⟩=some x)/\(∃x,w1.cell? ⟨bo,k*3+1,none⟩=some x)/\(∃x,w1.cell? ⟨bo,k*3+2,none⟩=some x)/\(∀o,w1.frozen? ⟨bo,o,none⟩=false)/\Below wr.heap.size wr w1:=by
 have hlt:=(IN.1 hh).1
 have hB:Below wr.heap.size wr w1:=(((By _ _).alloc (AI _) _).drew).trans (hb1.mono (by simp[World.drew]))
 have e:w1.heap[bo]? =some (.cells M t):=aY hh hB
 refine⟨e,⟨M[k*3],?_⟩,⟨M[k*3+1],?_⟩,⟨M[k*3+2],?_⟩,λo=>by simp[World.frozen?,e],hB⟩
 ·simp only[World.cell?,e];simp
 ·simp only[World.cell?,e];simp
 ·simp only[World.cell?,e];simp
def Rh(w:World)(l:List aj)(k:Nat)(wr:World):Prop:=
 ∃M:Array Value,wr.heap[w.heap.size]? =some (.cells M 71)/\M.size=l.length*3/\M.toList.take (k*3)=aU (l.take k)/\Below w.heap.size w wr
theorem Hb(sv:Value)(l:List aj)(w:World)(h:aC w sv l)(hlen:l.length<=100000)(dx:∀v∈l,v.val.size<=281474976710656):
  Calls aa.prog 43 #[sv] w λe w'=>∃v',e= .returned v'/\w'.ownsRow w.heap.size 71 3 v' l.length (aU l)/\Below w.heap.size w w':=by
 obtain⟨ad,cap,rfl,hcap⟩:=h.len
 obtain⟨i0,hi0,hz0,hz1,hz2⟩:=Yk aa.IQ
 have hmk:=run_make (P:=aa.prog) w 67 71 i0 _ aa.underlying67 hi0 hz0 .i64 .i64 l.length l.length (by omega) (by omega) (by rw[hz2];omega) (by omega)
 rw[hz1] at hmk
 simp only[Int.toNat_natCast] at hmk
 have hM:=size_madeCells (Value.agg #[.int .i64 0,.int .i64 0,.string ⟨#[]⟩]).cells (l.length*3)
 generalize madeCells (Value.agg #[.int .i64 0,.int .i64 0,.string ⟨#[]⟩]).cells (l.length*3)=M at hmk hM
 have H:Hid _:=h
 have HV:Hid _:=dx
 have HM:Hid _:=hM
 clear h dx hM hi0 hz0 hz1 hz2
 go_enter aa.func43,aa.ntmps43
 go_wp2
 go_loopw [11] (λi wr=>∃k:Nat,k<=l.length/\i= .int .i64 k/\Rh w l k wr) (λi _=>l.length - (intOf i).toNat)
 case atStart=>exact⟨0,by omega,rfl,M,IS w _,HM.out,by simp[aU],(By _ _).alloc (AI _) _⟩
 case round=>
  obtain⟨k,hk,rfl,hrel⟩:=hrel
  by_cases hlt:k< l.length
  ·obtain⟨g,cap',hsv',hg,_,_,c0,c1,c2⟩:=aC.cells H.out hlt
   cases hsv'
   have hvk:Hid (l[k].val.size<=281474976710656):=HV.out _ (X9 hlt)
   have hsn:Hid _:=Gn l k hlt
   generalize l[k].rep=r at*
   generalize l[k].n=n at*
   generalize l[k].val=s at*
   have hs:=hvk.out
   obtain⟨M',hh,hms,htk,hb⟩:=hrel
   have hbo:=(IN.1 hh).1
   have d0:wr.cell? ⟨g,k*3,none⟩=some (.int .i64 r):=(hb.cell (p:=⟨g,k*3,none⟩) hg).trans c0
   have d1:wr.cell? ⟨g,k*3+1,none⟩=some (.int .i64 n):=(hb.cell (p:=⟨g,k*3+1,none⟩) hg).trans c1
   have d2:wr.cell? ⟨g,k*3+2,none⟩=some (.string s):=(hb.cell (p:=⟨g,k*3+2,none⟩) hg).trans c2
   have g63:(k:Int)< (l.length:Int):=by omega
   have k0:(0:Int)<=(k:Int):=by omega
   have Hc:Hid _:=And.intro c0 (And.intro c1 c2)
   have HH:Hid _:=And.intro hh (And.intro hms (And.intro htk hb))
   clear c0 c1 c2 hh hms htk hb
   have hm3:k*3+2< M'.size:=by rw[HH.out.2.1];omega
   have hH:=HH.out.1
   have hbn:wr.heap.size≠w.heap.size:=by omega
   go_wp2_with fail
   go_region_held3 (λw'=>w'.cell? ⟨wr.heap.size,0,none⟩=some (.int .i64 r)/\w'.cell? ⟨wr.heap.size,1,none⟩=some (.int .i64 n)/\w'.cell? ⟨wr.heap.size,2,none⟩=some (.string s))
    (first|go_keep|(go_split_ands;exact⟨aX (by assumption) hb1,aX (by assumption) hb1,aX (by assumption) hb1⟩)|(go_split_ands;exact⟨by rw[dk hbn,dk hbn,dk hbn];assumption,by rw[dk hbn,dk hbn,dk hbn];assumption,by rw[dk hbn,dk hbn,dk hbn];assumption⟩))
    (first|(go_at_call 41;refine (qG s _ hs).mono ?_;rintro e w1 ⟨rfl,hb1⟩;obtain⟨m0,⟨x0,m1⟩,⟨x1,m2⟩,⟨x2,m3⟩,m4,m5⟩:=Kl hb1 hH hm3))
   go_wp2
   refine⟨⟨k+1,by omega,by go_num,_,Nb m0,by simp only[YK];exact HH.out.2.1,?_,?_⟩,by simp[intOf];omega⟩
   ·rw[hsn.out];exact Mb hm3 HH.out.2.2.1
   ·exact (((HH.out.2.2.2.trans (m5.mono HH.out.2.2.2.size)).setCell (AI _) _).setCell (AI _) _).setCell (AI _) _
  ·have hkl:k=l.length:=by omega
   have HK:Hid (List.take k l=l):=ZP (by omega)
   have HRel:Hid _:=hrel
   clear hrel
   go_wp2
   go_ret
   obtain⟨M',hh,hms,htk,hb⟩:=HRel.out
   refine⟨_,rfl,⟨by rw[xo],Or.inr ⟨w.heap.size,l.length,M',rfl,AI _,hh,AI _,by unfold maxLen;omega,hms,?_⟩⟩,hb⟩
   rw[HK.out,hkl] at htk;exact htk
theorem td{P:Program}{t:TypeId}{z:Value}(h:(P.info? t).map (·.zero)=some (some z))(w:World):(zeroValue t).run P w= .ok z w:=by
 cases hq:P.info? t with
 |none=>simp[hq] at h
 |some i=>
  have hz:i.zero=some z:=by simpa[hq] using h
  simp[zeroValue,typeInfo,hq,hz]
def py:Array Value:=#[Value.int .i64 0]++Array.replicate 64 (Value.map none)
theorem BE:py.size=65:=by simp[py]
theorem Rl:(py=#[])=False:=by simp[py]
theorem aa.Q8:(aa.prog.info? 101).map (·.zero)=some (some (.agg py)):=by kernel_rfl
theorem aa.Jp(w:World):(zeroValue 101).run aa.prog w= .ok (.agg py) w:=td aa.Q8 w
def eT:aF:=λ_=>(λ_=>0,[])
def jc(K:aF):Prop:=∀s,(∀v∈(K s).2,v.rep< 4)/\(K s).2.length<=100/\(∀v∈(K s).2,v.val.size<=12)/\∀i,i< 4->0<=(K s).1 i/\(K s).1 i<=1000000
def uQ(w:World)(num k:Nat)(bm:Nat->Nat)(wr:World):Prop:=
 (∃A:Array Value,wr.heap[w.heap.size]? =some (.cells A 101)/\A.size=65/\A[0]? =some (.int .i64 num)/\∀n,n< k->A[n+1]? =some (.map (some (bm n))))/\
 (∀n,n< k->w.heap.size< bm n/\wr.heap[bm n]? =some (.map #[] 0))/\(∀n m,n< k->m< k->bm n=bm m->n=m)/\Below w.heap.size w wr
theorem uQ.step{w wr:World}{num k:Nat}{bm:Nat->Nat}(h:uQ w num k bm wr)(hk:k< 64):
  uQ w num (k+1) (λn=>if n=k then wr.heap.size else bm n) ((wr.setCell ⟨w.heap.size,1+k,none⟩ (.map (some wr.heap.size))).alloc (.map #[] 0)):=by
 obtain⟨⟨A,h1,h2,h3,h4⟩,h5,h6,h7⟩:=h
 have hlt:=(IN.1 h1).1
 have hsz:(wr.setCell ⟨w.heap.size,1+k,none⟩ (.map (some wr.heap.size))).heap.size=wr.heap.size:=by simp[World.setCell]
 have hlts:∀n,n< k->bm n< wr.heap.size:=λn hn=>(IN.1 (h5 n hn).2).1
 refine⟨⟨A.setIfInBounds (k+1) (.map (some wr.heap.size)),by rw[OF _ _ _ (by rw[hsz];exact hlt),Zw];exact heap_set h1,by simpa using h2,?_,λn hn=>?_⟩,λn hn=>?_,λn m hn hm he=>?_,(h7.setCell (AI _) _).alloc (by rw[hsz];exact h7.size) _⟩
 ·rw[Yl,AS (by omega)];exact h3
 ·rw[Yl]
  dsimp only
  by_cases e:n=k
  ·subst e;rw[AT rfl,AT (by omega),AT rfl]
  ·rw[AS (by omega),AS e];exact h4 n (by omega)
 ·dsimp only
  by_cases e:n=k
  ·subst e
   rw[AT rfl]
   refine⟨hlt,?_⟩
   have:=IS (wr.setCell ⟨w.heap.size,1+n,none⟩ (.map (some wr.heap.size))) (.map #[] 0)
   rw[hsz] at this;exact this
  ·rw[AS e]
   have hn':n< k:=by omega
   refine⟨(h5 n hn').1,?_⟩
   have hne:bm n≠w.heap.size:=by have:=(h5 n hn').1;omega
   rw[OF _ _ _ (by rw[hsz];exact hlts n hn'),Yj _ _ _ _ hne]
   exact (h5 n hn').2
 ·by_cases e:n=k
  ·by_cases e':m=k
   ·rw[e,e']
   ·simp only[AT e,AS e'] at he
    have:=hlts m (by omega);omega
  ·by_cases e':m=k
   ·simp only[AS e,AT e'] at he
    have:=hlts n (by omega);omega
   ·simp only[AS e,AS e'] at he
    exact h6 n m (by omega) (by omega) he
theorem CI(n:Nat)(w:World)(hn:n< 4):
  Calls aa.prog 20 #[.int .i64 n] w λe w'=>∃b bm,e= .returned (.tuple #[.pointer (some ⟨b,0,none⟩),.int .i64 0])/\w.heap.size<=b/\(∀m,m< 64->w.heap.size<=bm m)/\aE w' b bm n eT/\Below w.heap.size w w':=by
 have hn':(n:Int)< 4:=by omega
 go_enter aa.func20,aa.ntmps20
 have hmm:∀W:World,(Instr.makeMap 98 none).run aa.prog W= .ok (.map (some W.heap.size)) (W.alloc (.map #[] 0)):=λW=>rfl
 have hz:=aa.Jp
 have hne:=Rl
 go_wp2
 go_loopw [15] (λiv wr=>∃k:Nat,k<=64/\iv= .int .i64 k/\∃bm,uQ w n k bm wr) (λiv _=>64 - (intOf iv).toNat)
 case atStart=>
  refine⟨0,by omega,rfl,λ_=>0,⟨_,IS w _,by simp[BE],by simp[BE],λn hn=>absurd hn (by omega)⟩,λn hn=>absurd hn (by omega),λn m hn=>absurd hn (by omega),(By _ _).alloc (AI _) _⟩
 case round=>
  obtain⟨k,hk,rfl,bm,hrel⟩:=hrel
  by_cases hlt:k< 64
  ·have k1:(k:Int)< 64:=by omega
   have k0:(0:Int)<=(k:Int):=by omega
   have hst:Hid _:=hrel.step hlt
   obtain⟨⟨A,h1,h2,_,_⟩,_⟩:=hrel
   have hblt:=(IN.1 h1).1
   have hcell:(wr.alloc (.map #[] 0)).cell? ⟨w.heap.size,k+1,none⟩=some A[k+1]:=by
    rw[ZN _ _ _ hblt];simp[World.cell?,h1]
   have hcell':(wr.alloc (.map #[] 0)).cell? ⟨w.heap.size,1+k,none⟩=some A[k+1]:=by rw[Zw];exact hcell
   have hfr:∀o,(wr.alloc (.map #[] 0)).frozen? ⟨w.heap.size,o,none⟩=false:=λo=>by
    rw[World.frozen?_alloc_past _ _ _ hblt];simp[World.frozen?,h1]
   clear h1
   go_wp2
   refine⟨⟨k+1,by omega,by go_num,λn=>if n=k then wr.heap.size else bm n,?_⟩,by simp[intOf];omega⟩
   exact hst.out
  ·obtain rfl:k=64:=by omega
   have HR:Hid _:=hrel
   clear hrel
   go_wp2
   go_ret2
   obtain⟨⟨A,h1,h2,h3,h4⟩,h5,h6,h7⟩:=HR.out
   exact⟨w.heap.size,bm,rfl,AI _,λm hm=>by have:=(h5 m hm).1;omega,⟨⟨A,h1,h3,h4⟩,λm hm=>⟨#[],0,(h5 m hm).2,by simp[fP],λs _=>⟨.slice none 0 0,rfl,⟨rfl,Or.inl ⟨rfl,rfl⟩⟩⟩,by simp[kx],λs h=>absurd rfl h⟩,h6⟩,h7⟩
theorem UA{w w1:World}{q:Nat}{A B:Array Value}{ta tb:TypeId}(hb1:Below ((((w.alloc (.cells A ta)).drewN q).alloc (.cells B tb)).drew).heap.size ((((w.alloc (.cells A ta)).drewN q).alloc (.cells B tb)).drew) w1):
  (∀o,w1.cell? ⟨w.heap.size,o,none⟩=A[o]?)/\(∀o,w1.frozen? ⟨w.heap.size,o,none⟩=false)/\(∀o,w1.cell? ⟨w.heap.size+1,o,none⟩=B[o]?)/\Below (w.heap.size+2) ((w.alloc (.cells A ta)).alloc (.cells B tb)) w1:=by
 have hb2:Below ((w.alloc (.cells A ta)).alloc (.cells B tb)).heap.size ((w.alloc (.cells A ta)).alloc (.cells B tb)) w1:=mP hb1 rfl rfl rfl rfl
 have hsz:((w.alloc (.cells A ta)).alloc (.cells B tb)).heap.size=w.heap.size+2:=by simp
 rw[hsz] at hb2
 have e0:w1.heap[w.heap.size]? =some (.cells A ta):=by
  rw[hb2.block _ (by omega),OF _ _ _ (by simp)]
  exact IS w _
 have e1:w1.heap[w.heap.size+1]? =some (.cells B tb):=by
  rw[hb2.block _ (by omega)]
  simpa using IS (w.alloc (.cells A ta)) (.cells B tb)
 exact⟨λo=>by simp[World.cell?,e0],λo=>by simp[World.frozen?,e0],λo=>by simp[World.cell?,e1],hb2⟩
theorem Ud(w:World)(A B:Array Value)(ta tb:TypeId)(q o:Nat):((((w.alloc (.cells A ta)).drewN q).alloc (.cells B tb)).drew).cell? ⟨w.heap.size+1,o,none⟩=B[o]? :=by
 have e:(((w.alloc (.cells A ta)).drewN q).alloc (.cells B tb)).heap[w.heap.size+1]? =some (.cells B tb):=by
  have:=IS ((w.alloc (.cells A ta)).drewN q) (.cells B tb)
  have hs:((w.alloc (.cells A ta)).drewN q).heap.size=w.heap.size+1:=by simp
  rw[hs] at this;exact this
 have e':((((w.alloc (.cells A ta)).drewN q).alloc (.cells B tb)).drew).heap[w.heap.size+1]? =some (.cells B tb):=e
 simp only[World.cell?,e']
 simp
theorem MZ(w:World)(A B:Array Value)(ta tb:TypeId)(q o:Nat):(((w.alloc (.cells A ta)).drewN q).alloc (.cells B tb)).cell? ⟨w.heap.size+1,o,none⟩=B[o]? :=Ud w A B ta tb q o
theorem uW(b num:Nat)(bm:Nat->Nat)(K:aF)(key:ByteArray)(w:World)(h:aE w b bm num K)(hK:jc K)(hkey:cL key=true)(dQ:key.size<=8):
  Calls aa.prog 22 #[.pointer (some ⟨b,0,none⟩),.string key] w λe w'=>∃v',e= .returned (.tuple #[v',cA (K key).1,.int .i64 0])/\w'.ownsRow w.heap.size 71 3 v' (K key).2.length (aU (K key).2)/\Below w.heap.size w w':=by
 obtain⟨es,clock,hm,hk,hall,_⟩:=h.2.1 _ (fa key)
 obtain⟨sv,hent,hvs⟩:=hall key rfl
 obtain⟨ad,cap,rfl,hcap⟩:=hvs.len
 have hlk:∀W:World,W.heap[bm (ay key)]? =some (.map es clock)->(Instr.lookup 98 (.map (some (bm (ay key)))) (.string key) false).run aa.prog W= .ok (bh (K key).1 (.slice ad (K key).2.length cap)) W:=λW hW=>by
  rw[oC W _ es clock key hW hk,hent]
 have hmlt:=(IN.1 hm).1
 have hma:∀X,(w.alloc X).heap[bm (ay key)]? =some (.map es clock):=λX=>by
  rw[OF _ _ _ hmlt];exact hm
 have HSeg:Hid (∀X,Calls aa.prog 39 #[.pointer (some ⟨b,0,none⟩),.string key] (w.alloc X) λe w'=>e= .returned (.map (some (bm (ay key))))/\∃q,w'=(w.alloc X).drewN q):=λX=>xy b num bm key _ (by unfold maxLen;omega) (h.below ((By _ _).alloc (AI _) X)).1
 have hck:=oH key
 have HL:Hid ((K key).2.length<=100000):=X0 (hK key).2.1 (by decide)
 have HS:Hid (∀v∈(K key).2,v.val.size<=281474976710656):=λv hv=>by have:=(hK key).2.2.1 v hv;omega
 generalize (K key).1=c at*
 generalize (K key).2=l at*
 have HV:Hid _:=hvs
 have HCK:Hid _:=hck
 clear hvs hck hall hent hK h hm
 generalize bm (ay key)=bms at*
 go_enter aa.func22,aa.ntmps22
 go_wp2_with (first
  |(go_at_call 36;refine (HCK.out _ (by unfold maxLen;omega)).mono ?_;rw[hkey];rintro e w1 ⟨rfl,rfl⟩)
  |(go_at_call 39;refine BY (HSeg.out _) ?_;rintro e w0 ⟨rfl,q,rfl⟩))
 have hbn:w.heap.size+1≠w.heap.size:=by omega
 have HX:Hid (∀A B,aC ((((w.alloc A).drewN q).alloc B).drew) (.slice ad l.length cap) l):=λA B=>(show aC ((((w.alloc A).drewN q).alloc B)) _ _ from Yc (show World.ownsRow ((w.alloc A).drewN q) 0 144 3 (.slice ad l.length cap) l.length (aU l) from HV.out.alloc A) B).drew
 go_region_held3 (λw'=>w'.cell? ⟨w.heap.size+1,0,none⟩=some (.int .i64 (c 0))/\w'.cell? ⟨w.heap.size+1,1,none⟩=some (.int .i64 (c 1))/\w'.cell? ⟨w.heap.size+1,2,none⟩=some (.int .i64 (c 2))/\w'.cell? ⟨w.heap.size+1,3,none⟩=some (.int .i64 (c 3))/\w'.cell? ⟨w.heap.size+1,4,none⟩=some (.slice ad l.length cap))
  (first|(simp[MZ];done)|go_keep|(go_split_ands;exact⟨aX (by assumption) hb1,aX (by assumption) hb1,aX (by assumption) hb1,aX (by assumption) hb1,aX (by assumption) hb1⟩)|(go_split_ands;exact⟨by rw[dk hbn,dk hbn,dk hbn,dk hbn];assumption,by rw[dk hbn,dk hbn,dk hbn,dk hbn];assumption,by rw[dk hbn,dk hbn,dk hbn,dk hbn];assumption,by rw[dk hbn,dk hbn,dk hbn,dk hbn];assumption,by rw[dk hbn,dk hbn,dk hbn,dk hbn];assumption⟩))
  (first|(go_at_call 43;refine (Hb _ l _ (HX.out _ _) HL.out HS.out).mono ?_;rintro e w1 ⟨v',rfl,aA,hb1⟩;obtain⟨m0,m1,m2,m3⟩:=UA hb1;have HO:Hid _:=cY aA (show w.heap.size+2<=_ by simp[World.drew]);have HB:Hid _:=m3;clear aA m3))
 all_goals
  go_wp2
  refine YB (v:= .tuple #[v',cA c,.int .i64 0]) ?_ rfl ⟨_,rfl,?_,?_⟩
  ·simp[results,aa.results22,go_sem,m0]
  ·exact cY (Yf (Yf (Yf (Yf HO.out (by simp) _) (by simp) _) (by simp) _) (by simp) _) (by omega)
  ·have base:Below w.heap.size w w1:=(((By _ _).alloc (AI _) _).alloc (by simp) _).trans (HB.out.mono (by omega))
   exact (((base.setCell (AI _) _).setCell (AI _) _).setCell (AI _) _).setCell (AI _) _
theorem jK{W w1:World}(hb:Below W.heap.size W w1):(∀b o,b< W.heap.size->w1.cell? ⟨b,o,none⟩=W.cell? ⟨b,o,none⟩)/\(∀b o,b< W.heap.size->w1.frozen? ⟨b,o,none⟩=W.frozen? ⟨b,o,none⟩):=
 ⟨λb o h=>hb.cell (p:=⟨b,o,none⟩) h,λb o h=>hb.frozen (p:=⟨b,o,none⟩) h⟩
theorem si(b num:Nat)(bm:Nat->Nat)(key:ByteArray)(w:World)(hs:key.size<=maxLen)(h:er w b bm num):
  Calls aa.prog 39 #[.pointer (some ⟨b,0,none⟩),.string key] w λe w'=>e= .returned (.map (some (bm (ay key))))/\Below w.heap.size w w'/\w'.heap.size=w.heap.size:=by
 refine (xy b num bm key w hs h).mono ?_
 rintro e w' ⟨rfl,q,rfl⟩
 exact⟨rfl,Zr (By _ _) q,rfl⟩
theorem aC.below{w W:World}{sv:Value}{l:List aj}(h:aC w sv l)(hb:Below w.heap.size w W):aC W sv l:=h.dO λg hg _=>hb.block g hg
theorem au{w:World}{b:Nat}{A:Array Value}{t:TypeId}(h:w.heap[b]? =some (.cells A t)):(∀o,w.cell? ⟨b,o,none⟩=A[o]?)/\(∀o,w.frozen? ⟨b,o,none⟩=false):=
 ⟨λo=>by simp[World.cell?,h],λo=>by simp[World.frozen?,h]⟩
theorem ji{w W w3:World}(hb:Below W.heap.size W w3)(h:Below w.heap.size w W):Below w.heap.size w w3:=bG h hb
theorem sx{w w2:World}{A B:Array Value}{ta tb:TypeId}(hb2:Below ((w.alloc (.cells A ta)).alloc (.cells B tb)).heap.size ((w.alloc (.cells A ta)).alloc (.cells B tb)) w2):
  (∀o,w2.cell? ⟨w.heap.size+1,o,none⟩=B[o]?)/\Below w.heap.size w w2/\w.heap.size+1< w2.heap.size:=by
 have hsz:((w.alloc (.cells A ta)).alloc (.cells B tb)).heap.size=w.heap.size+2:=by simp
 rw[hsz] at hb2
 have e1:w2.heap[w.heap.size+1]? =some (.cells B tb):=by
  rw[hb2.block _ (by omega)]
  simpa using IS (w.alloc (.cells A ta)) (.cells B tb)
 exact⟨λo=>by simp[World.cell?,e1],(((By _ _).alloc (AI _) _).alloc (by simp) _).trans (hb2.mono (by omega)),(IN.1 e1).1⟩
theorem As(b num:Nat)(bm:Nat->Nat)(K:aF)(key:ByteArray)(seen:Ctx)(w:World)(h:aE w b bm num K)(hK:jc K)(hkey:cL key=true)(dQ:key.size<=8)(hseen:fX seen=true)(hn:(aQ (K key).2 seen).length=(K key).2.length):
  Calls aa.prog 23 #[.pointer (some ⟨b,0,none⟩),.string key,cA seen] w λe w'=>e= .returned (.int .i64 5)/\Below w.heap.size w w':=by
 have hb:=h.1
 obtain⟨es,clock,hm,hk,hall,_⟩:=h.2.1 _ (fa key)
 obtain⟨sv,hent,hvs⟩:=hall key rfl
 obtain⟨ad,cap,rfl,hcap⟩:=hvs.len
 have hlk:∀W:World,W.heap[bm (ay key)]? =some (.map es clock)->(Instr.lookup 98 (.map (some (bm (ay key)))) (.string key) false).run aa.prog W= .ok (bh (K key).1 (.slice ad (K key).2.length cap)) W:=λW hW=>by
  rw[oC W _ es clock key hW hk,hent]
 have HSeg:Hid (∀W,er W b bm num->Calls aa.prog 39 #[.pointer (some ⟨b,0,none⟩),.string key] W λe w'=>e= .returned (.map (some (bm (ay key))))/\Below W.heap.size W w'/\w'.heap.size=W.heap.size):=λW hW=>si b num bm key W (by unfold maxLen;omega) hW
 have HBlk:Hid (∀W,Below w.heap.size w W->er W b bm num):=λW hW=>(h.below hW).1
 have HL:Hid ((K key).2.length<=100000):=X0 (hK key).2.1 (by decide)
 have HR:Hid (∀v∈(K key).2,v.rep< 4):=(hK key).1
 generalize (K key).1=c at*
 generalize (K key).2=l at*
 have HV:Hid _:=hvs
 have HN:Hid _:=hn
 have HCK:Hid _:=oH key
 have HSO:Hid _:=qO seen
 clear hvs hall hent hK hn h
 generalize hbms:bm (ay key)=bms at*
 have HBMS:Hid _:=hbms
 clear hbms
 go_enter aa.func23,aa.ntmps23
 go_wp2_with (first
  |(go_at_call 36;refine (HCK.out _ (by unfold maxLen;omega)).mono ?_;rw[hkey];rintro e w1 ⟨rfl,rfl⟩)
  |(go_at_call 38;refine (HSO.out _).mono ?_;rw[hseen];rintro e w2 ⟨rfl,hb2⟩;obtain⟨c2,hB2,hz2⟩:=sx hb2;clear hb2))
 have hmk:Hid (∀w',Below w2.heap.size w2 w'->er w' b bm num/\(Instr.lookup 98 (.map (some bms)) (.string key) false).run aa.prog w'= .ok (bh c (.slice ad l.length cap)) w'/\aC w' (.slice ad l.length cap) l/\w'.cell? ⟨w.heap.size+1,0,none⟩=some (.int .i64 (seen 0))/\w'.cell? ⟨w.heap.size+1,1,none⟩=some (.int .i64 (seen 1))/\w'.cell? ⟨w.heap.size+1,2,none⟩=some (.int .i64 (seen 2))/\w'.cell? ⟨w.heap.size+1,3,none⟩=some (.int .i64 (seen 3))):=λw' hw=>
  ⟨HBlk.out _ (bG hB2 hw),hlk w' (aY (aY hm hB2) hw),(aC.below HV.out hB2).below hw,aX (c2 0) hw,aX (c2 1) hw,aX (c2 2) hw,aX (c2 3) hw⟩
 have HB2:Hid _:=hB2
 clear hB2 c2 hlk
 go_region_held3 (λw'=>er w' b bm num/\(Instr.lookup 98 (.map (some bms)) (.string key) false).run aa.prog w'= .ok (bh c (.slice ad l.length cap)) w'/\aC w' (.slice ad l.length cap) l/\w'.cell? ⟨w.heap.size+1,0,none⟩=some (.int .i64 (seen 0))/\w'.cell? ⟨w.heap.size+1,1,none⟩=some (.int .i64 (seen 1))/\w'.cell? ⟨w.heap.size+1,2,none⟩=some (.int .i64 (seen 2))/\w'.cell? ⟨w.heap.size+1,3,none⟩=some (.int .i64 (seen 3)))
  ((refine hmk.out _ ?_;first|(simp (maxDischargeDepth:=12) [By,XX,XY,Yg];done)|(simp (maxDischargeDepth:=12) [By,XX,XY,Yg,B5,y5];done)|(simp (maxDischargeDepth:=12) [By,XX,XY,Yg,B3,z3];done)))
  (first|(go_at_call 39;refine BY (HSeg.out _ (by go_split_ands;assumption)) ?_;rintro e w5 ⟨rfl,hb5,z5⟩;obtain⟨s1,s2⟩:=jK hb5;(try simp only[Zi,kH] at z5);have B5:Below w2.heap.size w2 w5:=ji hb5 (by simp (maxDischargeDepth:=12) [By,XX,XY]);have y5:=B5.size;clear hb5)|(go_at_call 44;refine (He c _ l seen _ (by go_split_ands;assumption) HR.out HL.out HN.out).mono ?_;rintro e w3 ⟨rfl,hb3⟩;obtain⟨q1,q2⟩:=jK hb3;have B3:Below w2.heap.size w2 w3:=ji hb3 (by simp (maxDischargeDepth:=12) [By,XX,XY,B5,y5]);have z3:=B3.size;clear hb3))
 all_goals
  go_wp2_with (go_at_call 42;refine (C3 b key (λ_=>0) (.slice none 0 0) 5 _ (by decide)).mono ?_;rintro e w4 ⟨rfl,hb4⟩;have B4:Below w2.heap.size w2 w4:=ji hb4 (by simp (maxDischargeDepth:=12) [By,XX,XY,Yg,B3,z3]);clear hb4)
  go_ret
  exact⟨rfl,bG HB2.out B4⟩
theorem kH(w:World)(X:Obj):(w.alloc X).heap.size=w.heap.size+1:=by simp
theorem sr{w W w4:World}{row:Option Nat}(h:Below w.heap.size w W)(hg:W.grownBy w4 row):w.grownBy w4 row:=
 ⟨hg.os.trans h.os,hg.tape.trans h.tape,hg.output.trans h.output,X0 h.size hg.size,λk hk hn=>(hg.block k (X4 hk h.size) hn).trans (h.block k hk)⟩
theorem aC.rP{w:World}{B:Nat}{v:Value}{l:List aj}(h:w.ownsRow B 144 3 v l.length (aU l)):aC w v l:=cY h (Y2 _)
theorem JA{w:World}{es:List MapEntry}{key:ByteArray}{c:Ctx}{sv:Value}{l:List aj}(h:(cg es key).getD lC=bh c sv)(hv:aC w sv l)(hl:0< l.length):cg es key≠none:=λhn=>by
 rw[hn] at h
 obtain⟨ad,cap,rfl,_⟩:=hv.len
 simp[lC] at h
 omega
theorem I4{c d:Ctx}(hc:∀i,i< 4->0<=c i)(h:cQ c):cQ (aL c d):=by
 obtain⟨i,hi,hn⟩:=h
 have:=hc i hi
 refine⟨i,hi,?_⟩
 simp only[aL]
 omega
theorem Q4(b num:Nat)(bm:Nat->Nat)(K:aF)(key:ByteArray)(seen:Ctx)(w:World)(h:aE w b bm num K)(hK:jc K)(hkey:cL key=true)(dQ:key.size<=8)(hseen:fX seen=true)(hn:(aQ (K key).2 seen).length< (K key).2.length):
  Calls aa.prog 23 #[.pointer (some ⟨b,0,none⟩),.string key,cA seen] w λe w'=>e= .returned (.int .i64 0)/\aE w' b bm num (bq K key (aL (K key).1 seen,aQ (K key).2 seen))/\w.grownBy w' (some (bm (ay key))):=by
 have hb:=h.1
 have HRep:Hid _:=h
 obtain⟨es,clock,hm,hk,hall,_,bd⟩:=h.2.1 _ (fa key)
 obtain⟨sv,hent,hvs⟩:=hall key rfl
 have HKn:Hid (cQ (aL (K key).1 seen)):=I4 (λi hi=>((hK key).2.2.2 i hi).1) (bd key (JA hent hvs (by omega)))
 obtain⟨ad,cap,rfl,hcap⟩:=hvs.len
 have hlk:∀W:World,W.heap[bm (ay key)]? =some (.map es clock)->(Instr.lookup 98 (.map (some (bm (ay key)))) (.string key) false).run aa.prog W= .ok (bh (K key).1 (.slice ad (K key).2.length cap)) W:=λW hW=>by
  rw[oC W _ es clock key hW hk,hent]
 have HSeg:Hid (∀W,er W b bm num->Calls aa.prog 39 #[.pointer (some ⟨b,0,none⟩),.string key] W λe w'=>e= .returned (.map (some (bm (ay key))))/\Below W.heap.size W w'/\w'.heap.size=W.heap.size):=λW hW=>si b num bm key W (by unfold maxLen;omega) hW
 have HBlk:Hid (∀W,Below w.heap.size w W->er W b bm num):=λW hW=>(h.below hW).1
 have HL:Hid ((K key).2.length<=100000):=X0 (hK key).2.1 (by decide)
 have HR:Hid (∀v∈(K key).2,v.rep< 4):=(hK key).1
 generalize (K key).1=c at*
 generalize (K key).2=l at*
 have HV:Hid _:=hvs
 have HN:Hid _:=hn
 have HCK:Hid _:=oH key
 have HSO:Hid _:=qO seen
 clear hvs hall hent hK hn h
 generalize hbms:bm (ay key)=bms at*
 have HBMS:Hid _:=hbms
 clear hbms
 go_enter aa.func23,aa.ntmps23
 go_wp2_with (first
  |(go_at_call 36;refine (HCK.out _ (by unfold maxLen;omega)).mono ?_;rw[hkey];rintro e w1 ⟨rfl,rfl⟩)
  |(go_at_call 38;refine (HSO.out _).mono ?_;rw[hseen];rintro e w2 ⟨rfl,hb2⟩;obtain⟨c2,hB2,hz2⟩:=sx hb2;clear hb2))
 have hmk:Hid (∀w',Below w2.heap.size w2 w'->er w' b bm num/\(Instr.lookup 98 (.map (some bms)) (.string key) false).run aa.prog w'= .ok (bh c (.slice ad l.length cap)) w'/\aC w' (.slice ad l.length cap) l/\w'.cell? ⟨w.heap.size+1,0,none⟩=some (.int .i64 (seen 0))/\w'.cell? ⟨w.heap.size+1,1,none⟩=some (.int .i64 (seen 1))/\w'.cell? ⟨w.heap.size+1,2,none⟩=some (.int .i64 (seen 2))/\w'.cell? ⟨w.heap.size+1,3,none⟩=some (.int .i64 (seen 3))):=λw' hw=>
  ⟨HBlk.out _ (bG hB2 hw),hlk w' (aY (aY hm hB2) hw),(aC.below HV.out hB2).below hw,aX (c2 0) hw,aX (c2 1) hw,aX (c2 2) hw,aX (c2 3) hw⟩
 have HB2:Hid _:=hB2
 clear hB2 c2 hlk
 go_region_held3 (λw'=>er w' b bm num/\(Instr.lookup 98 (.map (some bms)) (.string key) false).run aa.prog w'= .ok (bh c (.slice ad l.length cap)) w'/\aC w' (.slice ad l.length cap) l/\w'.cell? ⟨w.heap.size+1,0,none⟩=some (.int .i64 (seen 0))/\w'.cell? ⟨w.heap.size+1,1,none⟩=some (.int .i64 (seen 1))/\w'.cell? ⟨w.heap.size+1,2,none⟩=some (.int .i64 (seen 2))/\w'.cell? ⟨w.heap.size+1,3,none⟩=some (.int .i64 (seen 3)))
  ((refine hmk.out _ ?_;first|(simp (maxDischargeDepth:=12) [By,XX,XY,Yg];done)|(simp (maxDischargeDepth:=12) [By,XX,XY,Yg,B5,y5];done)|(simp (maxDischargeDepth:=12) [By,XX,XY,Yg,B3,z3];done)))
  (first|(go_at_call 39;refine BY (HSeg.out _ (by go_split_ands;assumption)) ?_;rintro e w5 ⟨rfl,hb5,z5⟩;obtain⟨s1,s2⟩:=jK hb5;(try simp only[Zi,kH] at z5);have B5:Below w2.heap.size w2 w5:=ji hb5 (by simp (maxDischargeDepth:=12) [By,XX,XY]);have y5:=B5.size;clear hb5)|(go_at_call 44;refine (LU c _ l seen _ (by go_split_ands;assumption) HR.out HL.out HN.out).mono ?_;rintro e w3 ⟨v',rfl,aA,hb3⟩;obtain⟨ad',cap',hv'⟩:=kM aA;subst hv';have O3:=aA;(try simp only[Zi,kH,z5] at O3);clear aA;obtain⟨q1,q2⟩:=jK hb3;have B3:Below w2.heap.size w2 w3:=ji hb3 (by simp (maxDischargeDepth:=12) [By,XX,XY,B5,y5]);have z3:=B3.size;clear hb3))
 all_goals
  go_wp2_with (go_at_call 42;go_must (refine (Bb b num bm K key (aL c seen) _ (aQ l seen) _ ⟨by omega,hkey⟩ HKn.out (aE.below HRep.out (bG HB2.out (by simp (maxDischargeDepth:=12) [By,XX,XY,Yg,B3,z3]))) (by first|(refine aC.rP (B:=w2.heap.size) ?_;simp (maxDischargeDepth:=12) [Yc,O3];done)|(refine aC.rP (B:=w2.heap.size+1) ?_;simp (maxDischargeDepth:=12) [Yf,O3];done))).mono ?_);rintro e w4 ⟨rfl,hrep4,hg4⟩;have B5:=sr (w:=w2) (by simp (maxDischargeDepth:=12) [By,XX,XY,Yg,B3,z3]) hg4;have HR4:Hid _:=hrep4;clear hrep4 hg4)
  go_ret
  exact⟨rfl,HR4.out,by have g:=sr HB2.out B5;rw[HBMS.out] at g;exact g⟩
section
structure Fr(X:Nat->Prop)(w w':World):Prop where
 os:w'.os=w.os
 tape:w'.tape=w.tape
 output:w'.output=w.output
 size:w.heap.size<=w'.heap.size
 block:∀k,k< w.heap.size->¬ X k->w'.heap[k]? =w.heap[k]?
section
variable {X Y:Nat->Prop} {w w1 w2:World}
theorem Fr.refl(X:Nat->Prop)(w:World):Fr X w w:=⟨rfl,rfl,rfl,AI _,λ_ _ _=>rfl⟩
theorem Fr.trans(h:Fr X w w1)(h':Fr X w1 w2):Fr X w w2:=
 ⟨h'.os.trans h.os,h'.tape.trans h.tape,h'.output.trans h.output,X0 h.size h'.size,λk hk hn=>(h'.block k (X4 hk h.size) hn).trans (h.block k hk hn)⟩
theorem Fr.weaken(h:Fr X w w1)(hX:∀k,X k->Y k):Fr Y w w1:=⟨h.os,h.tape,h.output,h.size,λk hk hn=>h.block k hk λe=>hn (hX k e)⟩
theorem Fr.below(h:Fr X w w1)(hb:Below w1.heap.size w1 w2):Fr X w w2:=
 ⟨hb.os.trans h.os,hb.tape.trans h.tape,hb.output.trans h.output,X0 h.size hb.size,λk hk hn=>(hb.block k (X4 hk h.size)).trans (h.block k hk hn)⟩
theorem Fr.iV(hb:Below w.heap.size w w1):Fr X w w1:=(Fr.refl X w).below hb
theorem Fr.grown{row:Option Nat}(h:Fr X w w1)(hg:w1.grownBy w2 row)(hr:∀k,row=some k->k< w.heap.size->X k):Fr X w w2:=
 ⟨hg.os.trans h.os,hg.tape.trans h.tape,hg.output.trans h.output,X0 h.size hg.size,λk hk hn=>(hg.block k (X4 hk h.size) (λe=>hn (hr k e.symm hk))).trans (h.block k hk hn)⟩
theorem Fr.drew(h:Fr X w w1):Fr X w w1.drew:=⟨h.os,h.tape,h.output,h.size,h.block⟩
theorem Fr.drewN(h:Fr X w w1)(q:Nat):Fr X w (w1.drewN q):=⟨h.os,h.tape,h.output,h.size,h.block⟩
theorem Fr.alloc(h:Fr X w w1)(o:Obj):Fr X w (w1.alloc o):=h.below ((By _ _).alloc (AI _) o)
theorem Fr.setCell(h:Fr X w w1){b o:Nat}(hb:w.heap.size<=b\/X b)(v:Value):Fr X w (w1.setCell ⟨b,o,none⟩ v):=
 ⟨h.os,h.tape,h.output,by simpa[World.setCell] using h.size,λk hk hn=>by
  have hne:k≠b:=λe=>by
   rcases hb with hb|hb
   ·omega
   ·exact hn (e ▸ hb)
  rw[Yj _ _ _ _ hne]
  exact h.block k hk hn⟩
theorem Fr.toBelow{B:Nat}(h:Fr X w w1)(hX:∀k,X k->B<=k)(hB:B<=w.heap.size):Below B w w1:=
 ⟨h.os,h.tape,h.output,h.size,λk hk=>h.block k (by omega) λe=>by have:=hX k e;omega⟩
theorem Fr.heap(h:Fr X w w1){k:Nat}{o:Obj}(hk:w.heap[k]? =some o)(hn: ¬ X k):w1.heap[k]? =some o:=by
 rw[h.block k (IN.1 hk).1 hn];exact hk
theorem Fr.cell(h:Fr X w w1){b o:Nat}{v:Value}(hc:w.cell? ⟨b,o,none⟩=some v)(hn: ¬ X b):w1.cell? ⟨b,o,none⟩=some v:=by
 rw[ZD (h.block b (Z6 w _ hc) hn)];exact hc
theorem Fr.row{B n size:Nat}{t:TypeId}{v:Value}{xs:List Value}(h:Fr X w w1)(hr:w.ownsRow B t size v n xs)(hn:∀g o l c,v= .slice (some ⟨g,o,none⟩) l c->¬ X g):w1.ownsRow B t size v n xs:=by
 obtain⟨h1,h2⟩:=hr
 refine⟨h1,?_⟩
 rcases h2 with h2|⟨g,cap,cur,hv,hg,hh,r⟩
 ·exact Or.inl h2
 ·exact Or.inr ⟨g,cap,cur,hv,hg,h.heap hh (hn _ _ _ _ hv),r⟩
theorem Fr.rep{b num:Nat}{bm:Nat->Nat}{K:aF}(h:Fr X w w1)(hr:aE w b bm num K)(hb: ¬ X b)(hm:∀n,n< 64->¬ X (bm n))(hv:∀g cur,w.heap[g]? =some (.cells cur 144 (0,0))->¬ X g):aE w1 b bm num K:=
 hr.dO (h.block _ hr.1.lt hb) (λn hn=>h.block _ (hr.2.1 n hn).lt (hm n hn)) λg hg ⟨cur,hc⟩=>h.block g hg (hv g cur hc)
end
end
end Go.Proofs.YtldmcdeibiclkaaGreatDoorQ
