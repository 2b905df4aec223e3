/-
  Toward: treed_holds, each node's digest is that of its children's, for every argument of Treed. The plain mathematics of the statement Beside: how many versions are expected.
  The net behind a write or a delete.
  The net behind a write.
  Contract: Put of a value by a sound context.
-/
import Derived.Test.YtldmcdeibiclkaaGreatDoorC44
import Derived.Test.YtldmcdeibiclkaaGreatDoorC45
import Derived.Test.YtldmcdeibiclkaaGreatDoorC43
import Derived.Test.YtldmcdeibiclkaaGreatDoorC42
set_option linter.unusedVariables false
set_option linter.unusedSimpArgs false
set_option maxRecDepth 4000
section
namespace Go.Proofs.YtldmcdeibiclkaaGreatDoorQ
def anyTo (f:Nat→Bool):Nat→Bool
 |0=>false
 |j+1=>anyTo f j||f j
def cntTo (f:Nat→Bool):Nat→Nat
 |0=>0
 |j+1=>cntTo f j+(if f j then 1 else 0)
theorem cntTo_congr {f g:Nat→Bool}: ∀{m:Nat},(∀j,j< m→f j=g j)→cntTo f m=cntTo g m
 |0,_=>rfl
 |m+1,h=>by rw [cntTo,cntTo,cntTo_congr (fun j hj=>h j (by omega)),h m (by omega)]
theorem cntTo_any {f m:Nat→Bool}: ∀{n:Nat},(anyTo (fun j=>f j && m j) n=false→cntTo (fun j=>f j && !m j) n=cntTo f n)∧(anyTo (fun j=>f j && m j) n=true→cntTo (fun j=>f j && !m j) n< cntTo f n)∧cntTo (fun j=>f j && !m j) n≤cntTo f n
 |0=>⟨fun _=>rfl,fun h=>by simp [anyTo] at h,Nat.le_refl _⟩
 |n+1=>by
  obtain ⟨h1,h2,h3⟩:=cntTo_any (f:=f) (m:=m) (n:=n)
  simp only [anyTo,cntTo]
  generalize anyTo (fun j=>f j && m j) n=A at*
  generalize cntTo (fun j=>f j && !m j) n=x at*
  generalize cntTo f n=y at*
  rcases Bool.eq_false_or_eq_true (f n) with hf|hf<;> rcases Bool.eq_false_or_eq_true (m n) with hm|hm<;> simp only [hf,hm]<;> cases A<;> simp at* <;> omega
theorem ofBy_count {ws:List Wr} {kn go:Nat→Bool} {k:Nat} (hk: ∀(j:Nat) (x:Wr),ws[j]? =some x→kn j=true→x.2.1=k∧x.1< 4): ∀m,m≤ws.length→
  (ofBy ws kn go k 0 m).length+(ofBy ws kn go k 1 m).length+(ofBy ws kn go k 2 m).length+(ofBy ws kn go k 3 m).length=cntTo (fun j=>kn j && !go j) m
 |0,_=>by simp [ofBy,cntTo]
 |m+1,hm=>by
  have ih:=ofBy_count (go:=go) hk m (by omega)
  obtain ⟨x,hx⟩: ∃x,ws[m]? =some x:=⟨ws[m],List.getElem?_eq_getElem (by omega)⟩
  rw [cntTo]
  by_cases h:kn m=true∧go m=false
  ·obtain ⟨h1,h2⟩:=hk m x hx h.1
   have hb: ∀b,(ofBy ws kn go k b (m+1)).length=(ofBy ws kn go k b m).length+(if x.1=b then 1 else 0):=fun b=>by
    by_cases e:x.1=b
    ·rw [ofBy_hit hx h1 e h.1 h.2,if_pos e];simp
    ·rw [ofBy_miss hx (fun q=>e q.2.1),if_neg e];rfl
   rw [hb,hb,hb,hb,h.1,h.2]
   simp only [Bool.not_false,Bool.and_self,if_true]
   rcases lt4 h2 with e|e|e|e<;> rw [e]<;> simp<;> omega
  ·have hb: ∀b,ofBy ws kn go k b (m+1)=ofBy ws kn go k b m:=fun b=>ofBy_miss hx (fun q=>h q.2.2)
   rw [hb,hb,hb,hb,ih]
   have hf:(kn m && !go m)=false:=by
    cases e1:kn m<;> cases e2:go m<;> simp_all
   rw [hf];simp
theorem expected_count {ws:List Wr} {kn go:Nat→Bool} {k:Nat} (hk: ∀(j:Nat) (x:Wr),ws[j]? =some x→kn j=true→x.2.1=k∧x.1< 4):(expected ws kn go k).length=cntTo (fun j=>kn j && !go j) ws.length:=by
 rw [← ofBy_count hk _ (Nat.le_refl _),expected,four]
 simp only [List.length_append]
 omega
theorem unseen_count {ws:List Wr} {kn go m:Nat→Bool} {k:Nat} {c:Ctx} (hk: ∀(j:Nat) (x:Wr),ws[j]? =some x→kn j=true→x.2.1=k∧x.1< 4) (hm:Good ws k c m):
  (unseenL (expected ws kn go k) c).length=cntTo (fun j=>(kn j && !go j) && !m j) ws.length:=by
 rw [unseen_expected (m:=m) (fun j x hx hxk=>by rw [hm.1 j x hx];exact ⟨fun h=>h.2,fun h=>⟨hxk,h⟩⟩),expected_count hk]
 refine cntTo_congr fun j _=>?_
 cases kn j<;> cases go j<;> cases m j<;> rfl
theorem unseen_none {ws:List Wr} {kn go m:Nat→Bool} {k:Nat} {c:Ctx} (hk: ∀(j:Nat) (x:Wr),ws[j]? =some x→kn j=true→x.2.1=k∧x.1< 4) (hm:Good ws k c m) (h:anyTo (fun j=>(kn j && !go j) && m j) ws.length=false):
  (unseenL (expected ws kn go k) c).length=(expected ws kn go k).length:=by
 rw [unseen_count hk hm,expected_count hk]
 exact cntTo_any.1 h
theorem unseen_some {ws:List Wr} {kn go m:Nat→Bool} {k:Nat} {c:Ctx} (hk: ∀(j:Nat) (x:Wr),ws[j]? =some x→kn j=true→x.2.1=k∧x.1< 4) (hm:Good ws k c m) (h:anyTo (fun j=>(kn j && !go j) && m j) ws.length=true):
  (unseenL (expected ws kn go k) c).length< (expected ws kn go k).length:=by
 rw [unseen_count hk hm,expected_count hk]
 exact cntTo_any.2.1 h
theorem Good.sound {ws:List Wr} {k:Nat} {c:Ctx} {m:Nat→Bool} (h:Good ws k c m) (hl:ws.length≤80):soundB c=true:=by
 have hb: ∀b,okN (c b)=true:=fun b=>by
  have h1:=h.2.2 b
  have h2:=cntW_le ws b k
  simp only [okN,decide_eq_true_eq]
  omega
 simp [soundB,hb]
end Go.Proofs.YtldmcdeibiclkaaGreatDoorQ
end
section
namespace Go.Proofs.YtldmcdeibiclkaaGreatDoorQ
open Go.RowKit
structure Turns (X:Nat→Prop) (w:World) (bt i n0:Nat) (g:NetG):Prop where
 only: ∀b,X b→b=bt∨b=g.bm i n0∨∃cur,w.heap[b]? =some (.cells cur 115 (0,0))
 hi:i< g.nr
 hn:n0< 64
theorem NetAt.map {B:Nat} {w:World} {bt i n:Nat} {g:NetG} (hN:NetAt B w bt g) (hi:i< g.nr) (hn:n< 64): ∃es clock,w.heap[g.bm i n]? =some (.map es clock):=by
 obtain ⟨es,clock,h,_⟩:=(hN.hrep i hi).2.1 n hn
 exact ⟨es,clock,h⟩
theorem Turns.cells {X:Nat→Prop} {B:Nat} {w:World} {bt i n0:Nat} {g:NetG} (ht:Turns X w bt i n0 g) (hN:NetAt B w bt g) {b:Nat} {C:Array Value} {t:TypeId} {fr:Nat×Nat} (hb:w.heap[b]? =some (.cells C t fr)) (h1:t≠42) (h2:t≠115): ¬ X b:=fun h=>by
 rcases ht.only b h with e|e|⟨cur,e⟩
 ·rw [e,hN.hT] at hb;cases hb;exact h1 rfl
 ·obtain ⟨es,clock,hm⟩:=hN.map ht.hi ht.hn
  rw [e,hm] at hb;cases hb
 ·rw [e] at hb;cases hb;exact h2 rfl
theorem Turns.other {X:Nat→Prop} {B:Nat} {w:World} {bt i n0:Nat} {g:NetG} (ht:Turns X w bt i n0 g) (hN:NetAt B w bt g) {j n:Nat} (hj:j< g.nr) (hn:n< 64) (hne:j≠i): ¬ X (g.bm j n):=fun h=>by
 obtain ⟨es,clock,hm⟩:=hN.map hj hn
 rcases ht.only _ h with e|e|⟨cur,e⟩
 ·rw [e,hN.hT] at hm;cases hm
 ·exact hne (hN.hdis j i n n0 hj ht.hi hn ht.hn e)
 ·rw [hm] at e;cases e
theorem Turns.rep {X:Nat→Prop} {B:Nat} {w w2:World} {bt i n0:Nat} {g:NetG} (ht:Turns X w bt i n0 g) (hN:NetAt B w bt g) (hF:Fr X w w2) {j:Nat} (hj:j< g.nr) (hne:j≠i):RepAt w2 (g.b j) (g.bm j) j (g.K j):=by
 refine hF.rep (hN.hrep j hj) ?_ (fun n hn=>ht.other hN hj hn hne) (fun b cur hb=>ht.cells hN hb (by decide) (by decide))
 obtain ⟨⟨A,hA,_⟩,_⟩:=hN.hrep j hj
 exact ht.cells hN hA (by decide) (by decide)
theorem KOk.upd {K:Know} {key:ByteArray} {c:Ctx} {l:List Ver} (h:KOk K) (h1: ∀v∈l,v.rep< 4) (h2:l.length≤20) (h3: ∀v∈l,v.val.size≤12) (h4: ∀i,i< 4→0≤c i∧c i≤1000000):KOk (updK K key (c,l)):=by
 intro s
 by_cases e:s=key
 ·simp only [updK,if_pos e];exact ⟨h1,h2,h3,h4⟩
 ·simp only [updK,if_neg e];exact h s
theorem Good.bounds {ws:List Wr} {k:Nat} {c:Ctx} {m:Nat→Bool} (h:Good ws k c m) (hl:ws.length≤80) (b:Nat):0≤c b∧c b≤80:=by
 have h1:=h.2.2 b
 have h2:=cntW_le ws b k
 omega
theorem NetInv.known {ks:Nat→ByteArray} {g:NetG} (hI:NetInv ks g) {i k:Nat} (hi:i< g.nr) (hk:k< 3) (j:Nat) (x:Wr) (hx:g.ws[j]? =some x) (h:g.kn i k j=true):x.2.1=k∧x.1< 4:=
 ⟨(((hI.hgood i k hi hk).1 j x hx).1 h).1,hI.hby x (List.mem_of_getElem? hx)⟩
def NetG.deleted (g:NetG) (ks:Nat→ByteArray) (i k:Nat) (m:Mem) (A:Array Value):NetG:=
 {g with
  K:=fun j=>if j=i then updK (g.K i) (ks k) (bothC (g.K i (ks k)).1 m.1,unseenL (g.K i (ks k)).2 m.1) else g.K j
  kn:=fun j l q=>if j=i∧l=k then g.kn i k q||m.2 q else g.kn j l q
  go:=fun j l q=>if j=i∧l=k then g.go i k q||m.2 q else g.go j l q
  A:=A}
theorem NetInv.deleted {ks:Nat→ByteArray} {g:NetG} (hI:NetInv ks g) (hks: ∀k l,k< 3→l< 3→ks k=ks l→k=l) {i k:Nat} {m:Mem} (A:Array Value) (hi:i< g.nr) (hk:k< 3) (hm:Good g.ws k m.1 m.2):NetInv ks (g.deleted ks i k m A) where
 hnr:=hI.hnr
 hlen:=hI.hlen
 hseq:=hI.hseq
 hval:=hI.hval
 hby:=hI.hby
 hgood:=fun j l hj hl=>by
  simp only [NetG.deleted]
  by_cases e:j=i
  ·subst e
   by_cases e':l=k
   ·subst e'
    simpa [updK] using (hI.hgood j l hi hl).join hm
   ·have hne:ks l≠ks k:=fun q=>e' (hks l k hl hk q)
    simpa [updK,e',hne] using hI.hgood j l hj hl
  ·simpa [e] using hI.hgood j l hj hl
 hown:=fun j l hj hl=>by
  simp only [NetG.deleted]
  by_cases e:j=i
  ·subst e
   by_cases e':l=k
   ·subst e'
    have h1:=hI.hown j l hj hl
    have h2:=(hm.2.2 j).2
    simp only [if_true,updK,bothC]
    omega
   ·have hne:ks l≠ks k:=fun q=>e' (hks l k hl hk q)
    simpa [updK,hne] using hI.hown j l hj hl
  ·simpa [e] using hI.hown j l hj hl
 hex:=fun j l hj hl=>by
  simp only [NetG.deleted]
  by_cases e:j=i
  ·subst e
   by_cases e':l=k
   ·subst e'
    simp only [if_true,updK,and_self]
    rw [hI.hex j l hj hl]
    exact delete_expected (m:=m.2) (fun q x hx hxk=>by rw [hm.1 q x hx];exact ⟨fun h=>h.2,fun h=>⟨hxk,h⟩⟩) (fun _ _=>rfl) (fun _ _=>rfl)
   ·have hne:ks l≠ks k:=fun q=>e' (hks l k hl hk q)
    simpa [updK,e',hne] using hI.hex j l hj hl
  ·simpa [e] using hI.hex j l hj hl
 hgone:=fun j l q hj hl hq=>by
  simp only [NetG.deleted]
  by_cases e:j=i∧l=k
  ·rw [if_pos e,hI.hgone i k q hi hk hq,hm.2.1 q hq];rfl
  ·rw [if_neg e];exact hI.hgone j l q hj hl hq
 hmemG:=hI.hmemG
 hmemN:=hI.hmemN
 hkok:=fun j hj=>by
  simp only [NetG.deleted]
  by_cases e:j=i
  ·subst e
   rw [if_pos rfl]
   have hK:=hI.hkok j hj
   refine hK.upd (fun v hv=>(hK (ks k)).1 v (List.mem_filter.1 hv).1) (Nat.le_trans (List.length_filter_le _ _) (hK (ks k)).2.1) (fun v hv=>(hK (ks k)).2.2.1 v (List.mem_filter.1 hv).1) fun b _=>?_
   have h1:=((hI.hgood j k hj hk).join hm).bounds hI.hlen b
   omega
  ·rw [if_neg e];exact hI.hkok j hj
theorem NetAt.deleted {X:Nat→Prop} {B:Nat} {w w2:World} {bt:Nat} {g:NetG} {ks:Nat→ByteArray} {i k n0:Nat} {m:Mem} {A:Array Value} (hN:NetAt B w bt g) (hF:Fr X w w2) (hX: ∀b,X b→b=bt∨b=g.bm i n0) (hi:i< g.nr) (hi4:i< 4) (hk:k< 3) (hn:n0< 64)
  (hT:w2.heap[bt]? =some (.cells A 42)) (hA:A.size=1939) (hrep:RepAt w2 (g.b i) (g.bm i) i (updK (g.K i) (ks k) (bothC (g.K i (ks k)).1 m.1,unseenL (g.K i (ks k)).2 m.1)))
  (hg: ∀j,j< 80→A[962+i*240+k*80+j]? =some (.bool (g.go i k j||m.2 j))) (hkn: ∀j,j< 80→A[2+i*240+k*80+j]? =some (.bool (g.kn i k j||m.2 j)))
  (ho: ∀q,(q< 2+i*240+k*80∨2+i*240+k*80+80≤q)→(q< 962+i*240+k*80∨962+i*240+k*80+80≤q)→A[q]? =g.A[q]?):NetAt B w2 bt (g.deleted ks i k m A):=by
 have ht:Turns X w bt i n0 g:=⟨fun b h=>by rcases hX b h with e|e;exact Or.inl e;exact Or.inr (Or.inl e),hi,hn⟩
 have hwr: ∀b cur,w.heap[b]? =some (.cells cur 115 (0,0))→¬ X b:=fun b cur hb h=>by
  rcases hX b h with e|e
  ·rw [e,hN.hT] at hb;cases hb
  ·obtain ⟨es,clock,hm'⟩:=hN.map hi hn
   rw [e,hm'] at hb;cases hb
 exact {
  hB:=hN.hB
  hT:=hT
  hA:=hA
  h0:=by show A[0]? =_;rw [ho 0 (by omega) (by omega)];exact hN.h0
  hR:=hF.heap hN.hR (ht.cells hN hN.hR (by decide) (by decide))
  hRi:=hN.hRi
  hrep:=fun j hj=>by
   simp only [NetG.deleted]
   by_cases e:j=i
   ·subst e;rw [if_pos rfl];exact hrep
   ·rw [if_neg e];exact ht.rep hN hF hj e
  hdis:=hN.hdis
  h1:=by show A[1]? =_;rw [ho 1 (by omega) (by omega)];exact hN.h1
  hw:=hF.row' hN.hw hwr
  hkn:=fun j l q hj hl hq=>by
   simp only [NetG.deleted]
   by_cases e:j=i∧l=k
   ·obtain ⟨rfl,rfl⟩:=e
    rw [if_pos ⟨rfl,rfl⟩];exact hkn q hq
   ·rw [if_neg e,ho _ (by omega) (by omega)];exact hN.hkn j l q hj hl hq
  hgo:=fun j l q hj hl hq=>by
   simp only [NetG.deleted]
   by_cases e:j=i∧l=k
   ·obtain ⟨rfl,rfl⟩:=e
    rw [if_pos ⟨rfl,rfl⟩];exact hg q hq
   ·rw [if_neg e,ho _ (by omega) (by omega)];exact hN.hgo j l q hj hl hq
  hmv:=fun l hl=>by show A[1922+l]? =_;rw [ho _ (by omega) (by omega)];exact hN.hmv l hl
  hmem:=fun l hl=>hF.row' (hN.hmem l hl) fun b cur hb=>ht.cells hN hb (by decide) (by decide)
  hgm:=hN.hgm
  hcnt:=fun j l hj hl=>by show A[1927+j*3+l]? =_;rw [ho _ (by omega) (by omega)];exact hN.hcnt j l hj hl}
end Go.Proofs.YtldmcdeibiclkaaGreatDoorQ
end
section
namespace Go.Proofs.YtldmcdeibiclkaaGreatDoorQ
open Go.RowKit
theorem expected_unknown {ws:List Wr} {kn go:Nat→Bool} {k:Nat} (x:Wr) (h:kn ws.length=false):expected (ws++ [x]) kn go k=expected ws kn go k:=by
 have hw: ∀j,j< ws.length→(ws++ [x])[j]? =ws[j]? :=fun j hj=>List.getElem?_append_left hj
 have hl:(ws++ [x])[ws.length]? =some x:=by simp
 unfold expected
 refine flatMap_congr' _ fun b _=>?_
 rw [List.length_append,List.length_singleton,ofBy_miss hl (fun q=>by rw [h] at q;exact absurd q.2.2.1 (by decide)),ofBy_congr hw (fun _ _=>Iff.rfl)]
theorem mem_expected {ws:List Wr} {kn go:Nat→Bool} {k:Nat} {v:Ver} (h:v∈expected ws kn go k):v.rep< 4∧∃x∈ws,v.val=x.2.2.2:=by
 unfold expected at h
 obtain ⟨b,hb,hv⟩:=List.mem_flatMap.1 h
 obtain ⟨j,x,_,hx,_,_,_,_,rfl⟩:=mem_ofBy hv
 exact ⟨List.mem_range.1 hb,x,List.mem_of_getElem? hx,rfl⟩
theorem cntW_snoc (ws:List Wr) (i k:Nat) (n:Int) (val:ByteArray) (j l:Nat):cntW (ws++ [(i,k,n,val)]) j l=cntW ws j l+(if i=j∧k=l then 1 else 0):=by
 rw [cntW_append];simp [cntW]
def NetG.newW (g:NetG) (i k:Nat) (val:ByteArray):Wr:=(i,k,cntW g.ws i k+1,val)
def NetG.put (g:NetG) (ks:Nat→ByteArray) (i k:Nat) (m:Mem) (val:ByteArray) (l':List Ver) (wv:Value) (A:Array Value):NetG:=
 {g with
  K:=fun j=>if j=i then updK (g.K i) (ks k) (bump (bothC (g.K i (ks k)).1 m.1) i,l') else g.K j
  ws:=g.ws++ [g.newW i k val]
  wv:=wv
  kn:=fun j l q=>if j=i∧l=k then (if q=g.ws.length then true else g.kn i k q||m.2 q) else g.kn j l q
  go:=fun j l q=>if j=i∧l=k then g.go i k q||m.2 q else g.go j l q
  A:=A}
theorem NetInv.put {ks:Nat→ByteArray} {g:NetG} (hI:NetInv ks g) (hks: ∀k l,k< 3→l< 3→ks k=ks l→k=l) {i k:Nat} {m:Mem} {val:ByteArray} {l':List Ver} (wv:Value) (A:Array Value) (hi:i< g.nr) (hk:k< 3) (hm:Good g.ws k m.1 m.2) (hval:val.size≤12) (hlen:g.ws.length< 80)
  (hp:l'.Perm (unseenL (g.K i (ks k)).2 m.1++ [(i,bothC (g.K i (ks k)).1 m.1 i+1,val)])) (hs2:(l'.Pairwise fun a b=>ltV b a=false)∧l'.length≤20):NetInv ks (g.put ks i k m val l' wv A):=by
 have hs:=hs2.1
 have hi4:i< 4:=Nat.lt_of_lt_of_le hi hI.hnr.2
 have hbi:bothC (g.K i (ks k)).1 m.1 i=cntW g.ws i k:=by
  have h1:=hI.hown i k hi hk
  have h2:=(hm.2.2 i).2
  simp only [bothC];omega
 have hseq:SeqOk (g.ws++ [g.newW i k val]):=hI.hseq.snoc i k val
 have hl':l'=expected (g.ws++ [g.newW i k val]) (fun q=>if q=g.ws.length then true else g.kn i k q||m.2 q) (fun q=>g.go i k q||m.2 q) k:=by
  rw [hbi] at hp
  refine put_expected (m:=m.2) (c:=m.1) (kn:=g.kn i k) (go:=g.go i k) hi4 (hI.hex i k hi hk) (fun q x hx hxk=>by rw [hm.1 q x hx];exact ⟨fun h=>h.2,fun h=>⟨hxk,h⟩⟩) hp hs hseq.num (fun q hq=>?_) (fun q _=>rfl) (by simp) ?_
  ·rw [if_neg (by omega)]
  ·simp [hI.hgone i k g.ws.length hi hk (Nat.le_refl _),hm.2.1 g.ws.length (Nat.le_refl _)]
 have hval': ∀x∈g.ws++ [g.newW i k val],x.2.2.2.size≤12:=fun x hx=>by
  rcases List.mem_append.1 hx with hx|hx
  ·exact hI.hval x hx
  ·rw [List.mem_singleton.1 hx];exact hval
 have hgood:Good (g.ws++ [g.newW i k val]) k (bump (bothC (g.K i (ks k)).1 m.1) i) (fun q=>if q=g.ws.length then true else g.kn i k q||m.2 q):=by
  refine Good.put hI.hseq ((hI.hgood i k hi hk).join hm) hbi (fun q hq=>by rw [if_neg (by omega)]) (by simp) (fun q hq=>?_)
  rw [if_neg (by omega),(hI.hgood i k hi hk).2.1 q (by omega),hm.2.1 q (by omega)];rfl
 exact {
  hnr:=hI.hnr
  hlen:=by simp only [NetG.put,List.length_append,List.length_singleton];omega
  hseq:=hseq
  hval:=hval'
  hby:=fun x hx=>by
   rcases List.mem_append.1 hx with hx|hx
   ·exact hI.hby x hx
   ·rw [List.mem_singleton.1 hx];exact hi4
  hgood:=fun j l hj hl=>by
   simp only [NetG.put]
   by_cases e:j=i
   ·subst e
    by_cases e':l=k
    ·subst e'
     simpa [updK] using hgood
    ·have hne:ks l≠ks k:=fun q=>e' (hks l k hl hk q)
     have hh:Good (g.ws++ [g.newW j k val]) l (g.K j (ks l)).1 (g.kn j l):=(hI.hgood j l hj hl).other j k val
     simpa [updK,e',hne] using hh
   ·have hh:Good (g.ws++ [g.newW i k val]) l (g.K j (ks l)).1 (g.kn j l):=(hI.hgood j l hj hl).other i k val
    simpa [e] using hh
  hown:=fun j l hj hl=>by
   simp only [NetG.put,NetG.newW]
   rw [cntW_snoc]
   by_cases e:j=i
   ·subst e
    by_cases e':l=k
    ·subst e'
     simp only [if_true,updK,and_self,bump]
     rw [hbi]
    ·have hne:ks l≠ks k:=fun q=>e' (hks l k hl hk q)
     have hne': ¬ k=l:=fun q=>e' q.symm
     simpa [updK,hne,hne'] using hI.hown j l hj hl
   ·have hne': ¬ i=j:=fun q=>e q.symm
    simpa [e,hne'] using hI.hown j l hj hl
  hex:=fun j l hj hl=>by
   simp only [NetG.put]
   by_cases e:j=i
   ·subst e
    by_cases e':l=k
    ·subst e'
     simpa [updK] using hl'
    ·have hne:ks l≠ks k:=fun q=>e' (hks l k hl hk q)
     have:=hI.hex j l hj hl
     rw [← expected_unknown (g.newW j k val) ((hI.hgood j l hj hl).2.1 _ (Nat.le_refl _))] at this
     simpa [updK,e',hne] using this
   ·have:=hI.hex j l hj hl
    rw [← expected_unknown (g.newW i k val) ((hI.hgood j l hj hl).2.1 _ (Nat.le_refl _))] at this
    simpa [e] using this
  hgone:=fun j l q hj hl hq=>by
   simp only [NetG.put,List.length_append,List.length_singleton] at hq ⊢
   by_cases e:j=i∧l=k
   ·rw [if_pos e,hI.hgone i k q hi hk (by omega),hm.2.1 q (by omega)];rfl
   ·rw [if_neg e];exact hI.hgone j l q hj hl (by omega)
  hmemG:=fun l x hl hx=>(hI.hmemG l x hl hx).other i k val
  hmemN:=hI.hmemN
  hkok:=fun j hj=>by
   simp only [NetG.put]
   by_cases e:j=i
   ·subst e
    rw [if_pos rfl]
    have hb:=fun b=>hgood.bounds (by simp only [List.length_append,List.length_singleton];omega) b
    refine (hI.hkok j hj).upd (fun v hv=>?_) ?_ (fun v hv=>?_) fun b _=>by have:=hb b;omega
    ·rw [hl'] at hv;exact (mem_expected hv).1
    ·exact hs2.2
    ·rw [hl'] at hv
     obtain ⟨_,x,hx,e⟩:=mem_expected hv
     rw [e];exact hval' x hx
   ·rw [if_neg e];exact hI.hkok j hj}
theorem NetAt.put {X:Nat→Prop} {B:Nat} {w w2:World} {bt:Nat} {g:NetG} {ks:Nat→ByteArray} {i k n0:Nat} {m:Mem} {val:ByteArray} {l':List Ver} {wv:Value} {A:Array Value} (hN:NetAt B w bt g) (hF:Fr X w w2) (ht:Turns X w bt i n0 g) (hi4:i< 4) (hk:k< 3) (hlen:g.ws.length< 80)
  (hT:w2.heap[bt]? =some (.cells A 42)) (hA:A.size=1939) (hrep:RepAt w2 (g.b i) (g.bm i) i (updK (g.K i) (ks k) (bump (bothC (g.K i (ks k)).1 m.1) i,l')))
  (h1:A[1]? =some wv) (hw:w2.ownsRow B 115 4 wv (g.ws.length+1) (flatW (g.ws++ [g.newW i k val]))) (hc:A[1927+i*3+k]? =some (.int .i64 (cntW g.ws i k+1)))
  (hg: ∀j,j< 80→A[962+i*240+k*80+j]? =some (.bool (g.go i k j||m.2 j))) (hkn: ∀j,j< 80→A[2+i*240+k*80+j]? =some (.bool (if j=g.ws.length then true else g.kn i k j||m.2 j)))
  (ho: ∀q,(q< 2+i*240+k*80∨2+i*240+k*80+80≤q)→(q< 962+i*240+k*80∨962+i*240+k*80+80≤q)→q≠1→q≠1927+i*3+k→A[q]? =g.A[q]?):NetAt B w2 bt (g.put ks i k m val l' wv A) where
 hB:=hN.hB
 hT:=hT
 hA:=hA
 h0:=by show A[0]? =_;rw [ho 0 (by omega) (by omega) (by omega) (by omega)];exact hN.h0
 hR:=hF.heap hN.hR (ht.cells hN hN.hR (by decide) (by decide))
 hRi:=hN.hRi
 hrep:=fun j hj=>by
  simp only [NetG.put]
  by_cases e:j=i
  ·subst e;rw [if_pos rfl];exact hrep
  ·rw [if_neg e];exact ht.rep hN hF hj e
 hdis:=hN.hdis
 h1:=h1
 hw:=by simp only [NetG.put,List.length_append,List.length_singleton];exact hw
 hkn:=fun j l q hj hl hq=>by
  simp only [NetG.put]
  by_cases e:j=i∧l=k
  ·obtain ⟨rfl,rfl⟩:=e
   rw [if_pos ⟨rfl,rfl⟩];exact hkn q hq
  ·rw [if_neg e,ho _ (by omega) (by omega) (by omega) (by omega)];exact hN.hkn j l q hj hl hq
 hgo:=fun j l q hj hl hq=>by
  simp only [NetG.put]
  by_cases e:j=i∧l=k
  ·obtain ⟨rfl,rfl⟩:=e
   rw [if_pos ⟨rfl,rfl⟩];exact hg q hq
  ·rw [if_neg e,ho _ (by omega) (by omega) (by omega) (by omega)];exact hN.hgo j l q hj hl hq
 hmv:=fun l hl=>by show A[1922+l]? =_;rw [ho _ (by omega) (by omega) (by omega) (by omega)];exact hN.hmv l hl
 hmem:=fun l hl=>hF.row' (hN.hmem l hl) fun b cur hb=>ht.cells hN hb (by decide) (by decide)
 hgm:=hN.hgm
 hcnt:=fun j l hj hl=>by
  simp only [NetG.put,NetG.newW]
  rw [cntW_snoc]
  by_cases e:i=j∧k=l
  ·obtain ⟨rfl,rfl⟩:=e
   rw [if_pos ⟨rfl,rfl⟩];exact hc
  ·rw [if_neg e,ho _ (by omega) (by omega) (by omega) (by omega),Int.add_zero];exact hN.hcnt j l hj hl
end Go.Proofs.YtldmcdeibiclkaaGreatDoorQ
end
section
namespace Go.Proofs.YtldmcdeibiclkaaGreatDoorQ
open Go.RowKit
def NR (sv:Value) (g:Nat):Prop:=∀a l c,sv= .slice (some a) l c→a.block≠g
theorem ownsRow_NR {w:World} {B n size:Nat} {t:TypeId} {v:Value} {xs:List Value} (h:w.ownsRow B t size v n xs): ∀g,g< B→NR v g:=by
 intro g hg a l c hv e
 rcases h.2 with h2|⟨g',cap,cur,hv',hg',_⟩
 ·rw [h2.1] at hv;cases hv
 ·rw [hv'] at hv;cases hv;simp at e;omega
theorem VSl_alloc {w:World} {sv:Value} {l:List Ver} (h:VSl w sv l) (X:Obj):VSl (w.alloc X) sv l:=World.ownsRow.alloc h X
theorem VSl_set {w:World} {sv:Value} {l:List Ver} {g o:Nat} {v:Value} (h:VSl w sv l) (hn:NR sv g):VSl (w.setCell ⟨g,o,none⟩ v) sv l:=by
 obtain ⟨h1,h2⟩:=h
 refine ⟨h1,?_⟩
 rcases h2 with h2|⟨g',cap,cur,hv,hg,hh,r⟩
 ·exact Or.inl h2
 ·refine Or.inr ⟨g',cap,cur,hv,hg,?_,r⟩
  rw [Below.heap_setCell _ _ _ _ (hn _ _ _ hv)];exact hh
set_option maxRecDepth 100000 in
set_option maxHeartbeats 2000000 in
theorem put_ok (b num:Nat) (bm:Nat→Nat) (K:Know) (key val:ByteArray) (seen:Ctx) (w:World) (h:RepAt w b bm num K) (hK:KOk K) (hkey:keyB key=true) (hks:key.size≤8) (hvs:val.size≤12) (hseen:soundB seen=true) (hnum:num< 4)
  (hn:(unseenL (K key).2 seen).length< 20) (h0:0≤bothC (K key).1 seen num) (h1:bothC (K key).1 seen num< 1000000):
  Calls Qry.prog 21 #[.pointer (some ⟨b,0,none⟩),.string key,.string val,ctxV seen] w fun e w'=>e= .returned (.int .i64 0)∧∃l',l'.Perm (unseenL (K key).2 seen++ [(num,bothC (K key).1 seen num+1,val)])∧l'.Pairwise (fun a b=>ltV b a=false)∧RepAt w' b bm num (updK K key (bump (bothC (K key).1 seen) num,l'))∧w.grownBy w' (some (bm (segN key))):=by
 have hb:=h.1
 have HRep:Hid (RepAt w b bm num K):=h
 obtain ⟨es,clock,hm,hk,hall,_⟩:=h.2.1 _ (segN_lt key)
 obtain ⟨sv,hent,hvs0⟩:=hall key rfl
 obtain ⟨ad,cap,rfl,hcap⟩:=hvs0.len
 have hlk: ∀W:World,W.heap[bm (segN key)]? =some (.map es clock)→(Instr.lookup 98 (.map (some (bm (segN key)))) (.string key) false).run Qry.prog W= .ok (stV (K key).1 (.slice ad (K key).2.length cap)) W:=fun W hW=>by
  rw [lookup_run W _ es clock key hW hk,hent]
 have HSeg:Hid (∀W,RepBlk W b bm num→Calls Qry.prog 39 #[.pointer (some ⟨b,0,none⟩),.string key] W fun e w'=>e= .returned (.map (some (bm (segN key))))∧Below W.heap.size W w'∧w'.heap.size=W.heap.size):=fun W hW=>segOf_below b num bm key W (by unfold maxLen;omega) hW
 have hbc0:w.cell? ⟨b,0,none⟩=some (.int .i64 num):=hb.num
 have HBlk:Hid (∀W,Below w.heap.size w W→RepBlk W b bm num):=fun W hW=>(h.below hW).1
 have HL:Hid ((K key).2.length≤100000):=Nat.le_trans (hK key).2.1 (by decide)
 have HR:Hid (∀v∈(K key).2,v.rep< 4):=(hK key).1
 generalize (K key).1=c at*
 generalize (K key).2=l at*
 have HV:Hid _:=hvs0
 have HN:Hid _:=And.intro hn (And.intro h0 h1)
 have HCK:Hid _:=isKey_any key
 have HCV:Hid _:=isValue_any val
 have HSO:Hid _:=sound_any seen
 have hvd:decide (val.size≤12)=true:=by simpa using hvs
 clear hvs0 hall hent hK hn h0 h1 h
 generalize hbms:bm (segN key)=bms at*
 have HBMS:Hid _:=hbms
 clear hbms
 go_enter Qry.func21,Qry.ntmps21
 go_wp2_with (first
  |(go_at_call 36;refine (HCK.out _ (by unfold maxLen;omega)).mono ?_;rw [hkey];rintro e w1 ⟨rfl,rfl⟩)
  |(go_at_call 37;refine (HCV.out _ (by unfold maxLen;omega)).mono ?_;rw [hvd];rintro e w1 ⟨rfl,rfl⟩)
  |(go_at_call 38;refine (HSO.out _).mono ?_;rw [hseen];rintro e w2 ⟨rfl,hb2⟩;obtain ⟨c2,hB2,hz2⟩:=afterSound hb2;clear hb2))
 have hmk:Hid (∀w',Below w2.heap.size w2 w'→RepBlk w' b bm num∧w'.cell? ⟨b,0,none⟩=some (.int .i64 num)∧(Instr.lookup 98 (.map (some bms)) (.string key) false).run Qry.prog w'= .ok (stV c (.slice ad l.length cap)) w'∧VSl w' (.slice ad l.length cap) l∧w'.cell? ⟨w.heap.size+1,0,none⟩=some (.int .i64 (seen 0))∧w'.cell? ⟨w.heap.size+1,1,none⟩=some (.int .i64 (seen 1))∧w'.cell? ⟨w.heap.size+1,2,none⟩=some (.int .i64 (seen 2))∧w'.cell? ⟨w.heap.size+1,3,none⟩=some (.int .i64 (seen 3))):=fun w' hw=>
  ⟨HBlk.out _ (below_keep hB2 hw),cell_keep (cell_keep hbc0 hB2) hw,hlk w' (heap_keep (heap_keep hm hB2) hw),(VSl.below HV.out hB2).below hw,cell_keep (c2 0) hw,cell_keep (c2 1) hw,cell_keep (c2 2) hw,cell_keep (c2 3) hw⟩
 have HB2:Hid _:=hB2
 clear hB2 c2 hlk
 go_region_held3 (fun w'=>RepBlk w' b bm num∧w'.cell? ⟨b,0,none⟩=some (.int .i64 num)∧(Instr.lookup 98 (.map (some bms)) (.string key) false).run Qry.prog w'= .ok (stV c (.slice ad l.length cap)) w'∧VSl w' (.slice ad l.length cap) l∧w'.cell? ⟨w.heap.size+1,0,none⟩=some (.int .i64 (seen 0))∧w'.cell? ⟨w.heap.size+1,1,none⟩=some (.int .i64 (seen 1))∧w'.cell? ⟨w.heap.size+1,2,none⟩=some (.int .i64 (seen 2))∧w'.cell? ⟨w.heap.size+1,3,none⟩=some (.int .i64 (seen 3)))
  ((refine hmk.out _ ?_;first|(simp (maxDischargeDepth:=12) [Below.refl,Below.drew,Below.alloc,Below.setCell];done)|(simp (maxDischargeDepth:=12) [Below.refl,Below.drew,Below.alloc,Below.setCell,B3,y3];done)|(simp (maxDischargeDepth:=12) [Below.refl,Below.drew,Below.alloc,Below.setCell,B6,y6];done)|(simp (maxDischargeDepth:=12) [Below.refl,Below.drew,Below.alloc,Below.setCell,B4,y4,y3,y6];done)))
  (first
   |(go_at_call 39;refine Calls.mono (HSeg.out _ (by go_split_ands;assumption)) ?_;rintro e w6 ⟨rfl,hb6,z6⟩;obtain ⟨s1,s2⟩:=oldReads hb6;(try simp only [World.size_drew,size_allocW] at z6);have B6:Below w2.heap.size w2 w6:=afterAny hb6 (by first|(simp (maxDischargeDepth:=12) [Below.refl,Below.drew,Below.alloc];done)|(simp (maxDischargeDepth:=12) [Below.refl,Below.drew,Below.alloc,B3,y3];done));have y6:=B6.size;(try (have x6:w2.heap.size< w6.heap.size:=by omega));(try (have x6':w3.heap.size< w6.heap.size:=by omega));clear hb6)
   |(go_at_call 41;refine (clone_any val _ (by omega)).mono ?_;rintro e w3 ⟨rfl,hb3⟩;obtain ⟨q1,q2⟩:=oldReads hb3;have B3:Below w2.heap.size w2 w3:=afterAny hb3 (by first|(simp (maxDischargeDepth:=12) [Below.refl,Below.drew,Below.alloc];done)|(simp (maxDischargeDepth:=12) [Below.refl,Below.drew,Below.alloc,B6,y6];done));have y3:=B3.size;have z3:=hb3.size;(try simp only [World.size_drew,size_allocW] at z3);(try (have x3:w2.heap.size< w3.heap.size:=by omega));(try (have x3':w6.heap.size< w3.heap.size:=by omega));clear hb3)
   |(go_at_call 40;refine (stPut_ok c _ l num val seen _ (by go_split_ands;assumption) HR.out HL.out hnum HN.out.1 HN.out.2.1 HN.out.2.2).mono ?_;rintro e w4 ⟨v',l',rfl,hperm,hsort,hown,hb4⟩;obtain ⟨ad',cap',hv'⟩:=ownsRow_len hown;subst hv';have V4:=VSl.of_own hown;have N4:=ownsRow_NR hown;(try simp only [World.size_drew,size_allocW] at N4);(try (have n2:=N4 w2.heap.size (by omega)));(try (have n3:=N4 w3.heap.size (by omega)));(try (have n6:=N4 w6.heap.size (by omega)));clear N4;obtain ⟨p1,p2⟩:=oldReads hb4;have B4:Below w2.heap.size w2 w4:=afterAny hb4 (by first|(simp (maxDischargeDepth:=12) [Below.refl,Below.drew,Below.alloc,B3,y3];done)|(simp (maxDischargeDepth:=12) [Below.refl,Below.drew,Below.alloc,B6,y6];done));have y4:=B4.size;have HP:Hid _:=hperm;have HS:Hid _:=hsort;clear hown hb4 hperm hsort))
 all_goals
  go_wp2_with (go_at_call 42;go_must (refine (keep_ok b num bm K key (bump (bothC c seen) num) _ l' _ ⟨by omega,hkey⟩ (RepAt.below HRep.out (below_keep HB2.out (by simp (maxDischargeDepth:=12) [Below.refl,Below.drew,Below.alloc,Below.setCell,B4,y4,y3,y6]))) (by first|(simp [VSl_alloc,V4];done)|(simp (maxDischargeDepth:=12) [VSl_set,V4,n2];done)|(simp (maxDischargeDepth:=12) [VSl_set,V4,n3];done)|(simp (maxDischargeDepth:=12) [VSl_set,V4,n6];done))).mono ?_);rintro e w5 ⟨rfl,hrep5,hg5⟩;have B5:=grownBy_after (w:=w2) (by simp (maxDischargeDepth:=12) [Below.refl,Below.drew,Below.alloc,Below.setCell,B4,y4,y3,y6]) hg5;have HR5:Hid _:=hrep5;clear hrep5 hg5)
  go_ret
  exact ⟨rfl,l',HP.out,HS.out,HR5.out,by have g:=grownBy_after HB2.out B5;rw [HBMS.out] at g;exact g⟩
end Go.Proofs.YtldmcdeibiclkaaGreatDoorQ
end
