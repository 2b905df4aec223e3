/-
  Toward: treed_holds, each node's digest is that of its children's, for every argument of Treed. A net that is being made: what lies there, step by step.
  Contract: began.
-/
import Derived.Test.YtldmcdeibiclkaaGreatDoorC49
set_option linter.unusedVariables false
set_option linter.unusedSimpArgs false
set_option maxRecDepth 4000
section
namespace Go.Proofs.YtldmcdeibiclkaaGreatDoorQ
open Go.RowKit
theorem zNet_list:zNet.toList=List.replicate 2 (Value.slice none 0 0)++(List.replicate 1920 (Value.bool false)++(List.replicate 5 (Value.slice none 0 0)++List.replicate 12 (Value.int .i64 0))):=by
 unfold zNet
 rw [List.toList_toArray]
theorem zNet_nil (q:Nat) (h:q< 2):zNet[q]? =some (.slice none 0 0):=by
 rw [← Array.getElem?_toList,zNet_list,List.getElem?_append_left (by rw [List.length_replicate];exact h),List.getElem?_replicate,if_pos h]
theorem zNet_bit (q:Nat) (h:q< 1920):zNet[2+q]? =some (.bool false):=by
 rw [← Array.getElem?_toList,zNet_list,List.getElem?_append_right (by rw [List.length_replicate];omega),List.length_replicate,List.getElem?_append_left (by rw [List.length_replicate];omega),List.getElem?_replicate,if_pos (by omega)]
theorem zNet_int (q:Nat) (h:q< 12):zNet[1927+q]? =some (.int .i64 0):=by
 rw [← Array.getElem?_toList,zNet_list,List.getElem?_append_right (by rw [List.length_replicate];omega),List.length_replicate,List.getElem?_append_right (by rw [List.length_replicate];omega),List.length_replicate,List.getElem?_append_right (by rw [List.length_replicate];omega),List.length_replicate,List.getElem?_replicate,if_pos (by omega)]
def mem0:Mem:=(fun _=>0,fun _=>false)
theorem mem0_cells:(encM mem0).toArray=zMem:=by
 apply Array.ext'
 simp [encM,mem0,zMem,zSet,bits,List.map_const']
def ptrs (b:Nat→Nat) (j:Nat):List Value:=(List.range j).map fun i=>Value.pointer (some ⟨b i,0,none⟩)
structure BegAt (B:Nat) (w:World) (bt j l:Nat) (A:Array Value) (rv:Value) (b:Nat→Nat) (bm:Nat→Nat→Nat) (gm:Nat→Nat):Prop where
 hB:B≤bt∧(∀i n,i< j→n< 64→B≤bm i n)∧∀k,k< l→B≤gm k
 hT:w.heap[bt]? =some (.cells A 42)
 hA:A.size=1939
 h0:A[0]? =some rv
 ho: ∀q,q≠0→(∀k,k< l→q≠1922+k)→A[q]? =zNet[q]?
 hr:w.ownsRow B 29 1 rv j (ptrs b j)
 hrep: ∀i,i< j→RepAt w (b i) (bm i) i noKeys
 hdis: ∀i i' n n',i< j→i'< j→n< 64→n'< 64→bm i n=bm i' n'→i=i'
 hmv: ∀k,k< l→A[1922+k]? =some (.slice (some ⟨gm k,0,none⟩) 1 1)
 hmem: ∀k,k< l→w.heap[gm k]? =some (.cells zMem 74)
 hgm: ∀k k',k< l→k'< l→gm k=gm k'→k=k'
theorem BegAt.below {B:Nat} {w w':World} {bt j l:Nat} {A:Array Value} {rv:Value} {b:Nat→Nat} {bm:Nat→Nat→Nat} {gm:Nat→Nat} (h:BegAt B w bt j l A rv b bm gm) (hb:Below w.heap.size w w'):BegAt B w' bt j l A rv b bm gm where
 hB:=h.hB
 hT:=heap_keep h.hT hb
 hA:=h.hA
 h0:=h.h0
 ho:=h.ho
 hr:=Fr.row (X:=fun _=>False) (Fr.of_below hb) h.hr (fun _ _ _ _ _ e=>e)
 hrep:=fun i hi=>(h.hrep i hi).below hb
 hdis:=h.hdis
 hmv:=h.hmv
 hmem:=fun k hk=>heap_keep (h.hmem k hk) hb
 hgm:=h.hgm
theorem BegAt.push {B:Nat} {w w1 w2:World} {bt j b1 gg ca:Nat} {bm1:Nat→Nat} {A:Array Value} {rv:Value} {b:Nat→Nat} {bm:Nat→Nat→Nat} {gm:Nat→Nat} {C:Array Value} {t0:TypeId} (h:BegAt B w1 bt j 0 A rv b bm gm) (hw:w.heap.size≤w1.heap.size) (hbw: ∀i n,i< j→n< 64→bm i n< w.heap.size) (hB:B≤w.heap.size)
  (hR:RepAt w1 b1 bm1 j noKeys) (hb1: ∀m,m< 64→w.heap.size≤bm1 m) (hgrow:(w1.alloc (.cells C t0)).grownBy w2 rv.ownBlock)
  (hown:w2.ownsRow B 29 1 (.slice (some ⟨gg,0,none⟩) (j+1) ca) (j+1) (ptrs b j++ [.pointer (some ⟨b1,0,none⟩)])):
  BegAt B (w2.setCell ⟨bt,0,none⟩ (.slice (some ⟨gg,0,none⟩) (j+1) ca)) bt (j+1) 0 (A.setIfInBounds 0 (.slice (some ⟨gg,0,none⟩) (j+1) ca)) (.slice (some ⟨gg,0,none⟩) (j+1) ca) (fun i=>if i=j then b1 else b i) (fun i=>if i=j then bm1 else bm i) gm∧Fr (fun q=>q=bt∨∃cur,w1.heap[q]? =some (.cells cur 29 (0,0))) w1 (w2.setCell ⟨bt,0,none⟩ (.slice (some ⟨gg,0,none⟩) (j+1) ca))∧(∀q,q< B→(w2.setCell ⟨bt,0,none⟩ (.slice (some ⟨gg,0,none⟩) (j+1) ca)).heap[q]? =w1.heap[q]?):=by
 have hrow: ∀q,rv.ownBlock=some q→B≤q∧∃cur,w1.heap[q]? =some (.cells cur 29 (0,0)):=fun q hq=>row_block h.hr q hq
 have hbtl:=(Array.getElem?_eq_some_iff.1 h.hT).1
 have hbtn: ¬ rv.ownBlock=some bt:=fun e=>by
  obtain ⟨_,cur,hc⟩:=hrow bt e
  rw [h.hT] at hc;exact absurd (tag_ne hc) (by decide)
 have hT2:w2.heap[bt]? =some (.cells A 42):=by
  rw [hgrow.block bt (by simp;omega) (fun e=>hbtn e.symm),Below.heap_alloc _ _ _ hbtl];exact h.hT
 have hF:Fr (fun q=>q=bt∨∃cur,w1.heap[q]? =some (.cells cur 29 (0,0))) w1 (w2.setCell ⟨bt,0,none⟩ (.slice (some ⟨gg,0,none⟩) (j+1) ca)):=
  Fr.setCell (((Fr.refl (fun q=>q=bt∨∃cur,w1.heap[q]? =some (.cells cur 29 (0,0))) w1).alloc _).grown hgrow (fun q hq _=>Or.inr (hrow q hq).2)) (Or.inr (Or.inl rfl)) _
 have hcells: ∀{q:Nat} {D:Array Value} {t:TypeId} {fr:Nat×Nat},w1.heap[q]? =some (.cells D t fr)→t≠42→t≠29→¬ (q=bt∨∃cur,w1.heap[q]? =some (.cells cur 29 (0,0))):=fun hq h1 h2 e=>by
  rcases e with e|⟨cur,e⟩
  ·rw [e,h.hT] at hq;exact h1 (tag_ne hq).symm
  ·rw [e] at hq;exact h2 (tag_ne hq).symm
 have hrep: ∀{b' num:Nat} {bm':Nat→Nat},RepAt w1 b' bm' num noKeys→RepAt (w2.setCell ⟨bt,0,none⟩ (.slice (some ⟨gg,0,none⟩) (j+1) ca)) b' bm' num noKeys:=fun hr=>by
  refine hF.rep hr ?_ (fun n hn e=>?_) (fun q cur hq=>hcells hq (by decide) (by decide))
  ·obtain ⟨⟨D,hD,_⟩,_⟩:=hr
   exact hcells hD (by decide) (by decide)
  ·obtain ⟨es,clock,hm,_⟩:=hr.2.1 n hn
   rcases e with e|⟨cur,e⟩
   ·rw [e,h.hT] at hm;cases hm
   ·rw [e] at hm;cases hm
 refine ⟨?_,hF,fun q hq=>?_⟩
 ·exact {
   hB:=⟨h.hB.1,fun i n hi hn=>by
    by_cases e:i=j
    ·simp only [if_pos e];exact Nat.le_trans hB (hb1 n hn)
    ·simp only [if_neg e];exact h.hB.2.1 i n (by omega) hn,fun k hk=>absurd hk (by omega)⟩
   hT:=heap_set hT2
   hA:=by rw [Array.size_setIfInBounds];exact h.hA
   h0:=by rw [Array.getElem?_setIfInBounds,if_pos rfl,if_pos (by rw [h.hA];omega)]
   ho:=fun q hq _=>by rw [Array.getElem?_setIfInBounds,if_neg (fun e=>hq e.symm)];exact h.ho q hq (fun k hk=>absurd hk (by omega))
   hr:=by
    have e1:ptrs (fun i=>if i=j then b1 else b i) (j+1)=ptrs b j++ [.pointer (some ⟨b1,0,none⟩)]:=by
     unfold ptrs
     rw [List.range_succ,List.map_append]
     congr 1
     ·refine List.map_congr_left fun i hi=>?_
      have:=List.mem_range.1 hi
      dsimp only
      rw [if_neg (by omega)]
     ·simp
    rw [e1]
    exact (Fr.setCell (X:=fun q=>q=bt) (Fr.refl _ w2) (Or.inr rfl) _).row' hown (fun q cur hq e=>by rw [e,hT2] at hq;exact absurd (tag_ne hq) (by decide))
   hrep:=fun i hi=>by
    by_cases e:i=j
    ·subst e;simp only [if_true];exact hrep hR
    ·simp only [if_neg e];exact hrep (h.hrep i (by omega))
   hdis:=fun i i' n n' hi hi' hn hn' he=>by
    by_cases e:i=j
    ·by_cases e':i'=j
     ·rw [e,e']
     ·simp only [if_pos e,if_neg e'] at he
      have h1:=hb1 n hn
      have h2:=hbw i' n' (by omega) hn'
      omega
    ·by_cases e':i'=j
     ·simp only [if_neg e,if_pos e'] at he
      have h1:=hb1 n' hn'
      have h2:=hbw i n (by omega) hn
      omega
     ·simp only [if_neg e,if_neg e'] at he
      exact h.hdis i i' n n' (by omega) (by omega) hn hn' he
   hmv:=fun k hk=>absurd hk (by omega)
   hmem:=fun k hk=>absurd hk (by omega)
   hgm:=fun k k' hk=>absurd hk (by omega)}
 ·have hne:q≠bt:=by have:=h.hB.1;omega
  rw [Below.heap_setCell _ _ _ _ hne,hgrow.block q (by simp;omega) (fun e=>by have:=(hrow q e.symm).1;omega),Below.heap_alloc _ _ _ (by omega)]
theorem BegAt.mems {B:Nat} {w:World} {bt j l:Nat} {A:Array Value} {rv:Value} {b:Nat→Nat} {bm:Nat→Nat→Nat} {gm:Nat→Nat} (h:BegAt B w bt j l A rv b bm gm) (hl:l< 3) (hB:B≤w.heap.size):
  BegAt B ((w.setCell ⟨bt,1922+l,none⟩ (.slice (some ⟨w.heap.size,0,none⟩) 1 1)).alloc (.cells zMem 74)) bt j (l+1) (A.setIfInBounds (1922+l) (.slice (some ⟨w.heap.size,0,none⟩) 1 1)) rv b bm (fun k=>if k=l then w.heap.size else gm k)∧Fr (fun q=>q=bt) w ((w.setCell ⟨bt,1922+l,none⟩ (.slice (some ⟨w.heap.size,0,none⟩) 1 1)).alloc (.cells zMem 74)):=by
 have hF:Fr (fun q=>q=bt) w ((w.setCell ⟨bt,1922+l,none⟩ (.slice (some ⟨w.heap.size,0,none⟩) 1 1)).alloc (.cells zMem 74)):=(Fr.setCell (X:=fun q=>q=bt) (Fr.refl _ w) (Or.inr rfl) _).alloc _
 have hsz:(w.setCell ⟨bt,1922+l,none⟩ (.slice (some ⟨w.heap.size,0,none⟩) 1 1)).heap.size=w.heap.size:=by simp [World.setCell]
 have hbtl:=(Array.getElem?_eq_some_iff.1 h.hT).1
 have hlt: ∀k,k< l→gm k< w.heap.size:=fun k hk=>(Array.getElem?_eq_some_iff.1 (h.hmem k hk)).1
 refine ⟨?_,hF⟩
 exact {
  hB:=⟨h.hB.1,h.hB.2.1,fun k hk=>by
   by_cases e:k=l
   ·simp only [if_pos e];exact hB
   ·simp only [if_neg e];exact h.hB.2.2 k (by omega)⟩
  hT:=by rw [Below.heap_alloc _ _ _ (by rw [hsz];exact hbtl)];exact heap_set h.hT
  hA:=by rw [Array.size_setIfInBounds];exact h.hA
  h0:=by rw [Array.getElem?_setIfInBounds,if_neg (by omega)];exact h.h0
  ho:=fun q hq hk=>by rw [Array.getElem?_setIfInBounds,if_neg (fun e=>hk l (by omega) e.symm)];exact h.ho q hq (fun k hk'=>hk k (by omega))
  hr:=hF.row' h.hr (fun q cur hq e=>by rw [e,h.hT] at hq;exact absurd (tag_ne hq) (by decide))
  hrep:=fun i hi=>rep_bt (h.hrep i hi) h.hT hF
  hdis:=h.hdis
  hmv:=fun k hk=>by
   by_cases e:k=l
   ·subst e
    simp only [if_true]
    rw [Array.getElem?_setIfInBounds,if_pos rfl,if_pos (by rw [h.hA];omega)]
   ·simp only [if_neg e]
    rw [Array.getElem?_setIfInBounds,if_neg (by omega)];exact h.hmv k (by omega)
  hmem:=fun k hk=>by
   by_cases e:k=l
   ·simp only [if_pos e]
    have:=heap_alloc_new (w.setCell ⟨bt,1922+l,none⟩ (.slice (some ⟨w.heap.size,0,none⟩) 1 1)) (.cells zMem 74)
    rw [hsz] at this;exact this
   ·simp only [if_neg e]
    exact hF.heap (h.hmem k (by omega)) (fun q=>by have:=h.hmem k (by omega);rw [q,h.hT] at this;exact absurd (tag_ne this) (by decide))
  hgm:=fun k k' hk hk' he=>by
   by_cases e:k=l
   ·by_cases e':k'=l
    ·rw [e,e']
    ·simp only [if_pos e,if_neg e'] at he
     have:=hlt k' (by omega);omega
   ·by_cases e':k'=l
    ·simp only [if_neg e,if_pos e'] at he
     have:=hlt k (by omega);omega
    ·simp only [if_neg e,if_neg e'] at he
     exact h.hgm k k' (by omega) (by omega) he}
def NetG.first (nr br capr:Nat) (R:Array Value) (b:Nat→Nat) (bm:Nat→Nat→Nat) (gm:Nat→Nat) (A:Array Value):NetG:=
 {nr:=nr,br:=br,capr:=capr,R:=R,b:=b,bm:=bm,K:=fun _=>noKeys,ws:=[],wv:= .slice none 0 0,kn:=fun _ _ _=>false,go:=fun _ _ _=>false,mem:=fun _=>[mem0],gm:=gm,capm:=fun _=>1,A:=A}
theorem noKeys_ok:KOk noKeys:=fun s=>⟨fun v hv=>by simp [noKeys] at hv,by simp [noKeys],fun v hv=>by simp [noKeys] at hv,fun i _=>by simp [noKeys]⟩
theorem expected_none (k:Nat):expected [] (fun _=>false) (fun _=>false) k= []:=by
 simp [expected,ofBy]
theorem NetInv.first {ks:Nat→ByteArray} {nr br capr:Nat} {R:Array Value} {b:Nat→Nat} {bm:Nat→Nat→Nat} {gm:Nat→Nat} {A:Array Value} (h1:1≤nr) (h4:nr≤4):NetInv ks (NetG.first nr br capr R b bm gm A) where
 hnr:=⟨h1,h4⟩
 hlen:=by simp [NetG.first]
 hseq:=fun j x hx=>by simp [NetG.first] at hx
 hval:=fun x hx=>by simp [NetG.first] at hx
 hby:=fun x hx=>by simp [NetG.first] at hx
 hgood:=fun i k _ _=>⟨fun j x hx=>by simp [NetG.first] at hx,fun j _=>rfl,fun b=>by simp [NetG.first,noKeys,cntW]⟩
 hown:=fun i k _ _=>by simp [NetG.first,noKeys,cntW]
 hex:=fun i k _ _=>by
  show (noKeys (ks k)).2=expected [] (fun _=>false) (fun _=>false) k
  rw [expected_none];rfl
 hgone:=fun _ _ _ _ _ _=>rfl
 hmemG:=fun k m _ hm=>by
  have:m=mem0:=by simpa [NetG.first] using hm
  subst this
  exact ⟨fun j x hx=>by simp [NetG.first] at hx,fun j _=>rfl,fun b=>by simp [NetG.first,mem0,cntW]⟩
 hmemN:=fun k _=>by simp [NetG.first]
 hkok:=fun i _=>noKeys_ok
theorem BegAt.net {B:Nat} {w:World} {bt j:Nat} {A:Array Value} {rv:Value} {b:Nat→Nat} {bm:Nat→Nat→Nat} {gm:Nat→Nat} (h:BegAt B w bt j 3 A rv b bm gm) (hj:0< j): ∃br capr R,NetAt B w bt (NetG.first j br capr R b bm gm A):=by
 rcases h.hr.2 with ⟨_,h0⟩|⟨br,capr,R,hv,hbr,hR,hc1,hc2,hc3,htk⟩
 ·omega
 ·refine ⟨br,capr,R,?_⟩
  exact {
   hB:=⟨h.hB.1,h.hB.2.1⟩
   hT:=h.hT
   hA:=h.hA
   h0:=by show A[0]? =_;rw [h.h0,hv];rfl
   hR:=hR
   hRi:=fun i hi=>by
    show R[i]? =_
    have hi':i< j:=hi
    have e1:(ptrs b j)[i]? =some (.pointer (some ⟨b i,0,none⟩)):=by
     unfold ptrs
     rw [List.getElem?_map,List.getElem?_range hi'];rfl
    rw [← htk,List.getElem?_take,if_pos (by omega),Array.getElem?_toList] at e1
    exact e1
   hrep:=h.hrep
   hdis:=h.hdis
   h1:=by show A[1]? =_;rw [h.ho 1 (by omega) (fun k hk=>by omega)];exact zNet_nil 1 (by omega)
   hw:=⟨rfl,Or.inl ⟨rfl,rfl⟩⟩
   hkn:=fun i k q hi hk hq=>by
    show A[2+i*240+k*80+q]? =_
    rw [h.ho _ (by omega) (fun l hl=>by omega),show 2+i*240+k*80+q=2+(i*240+k*80+q) by omega]
    exact zNet_bit _ (by omega)
   hgo:=fun i k q hi hk hq=>by
    show A[962+i*240+k*80+q]? =_
    rw [h.ho _ (by omega) (fun l hl=>by omega),show 962+i*240+k*80+q=2+(960+i*240+k*80+q) by omega]
    exact zNet_bit _ (by omega)
   hmv:=fun k hk=>h.hmv k hk
   hmem:=fun k hk=>by
    show w.ownsRow B 74 84 (.slice (some ⟨gm k,0,none⟩) 1 1) 1 (flatM [mem0])
    have e1:flatM [mem0]=zMem.toList:=by
     rw [← mem0_cells];simp [flatM]
    rw [e1]
    refine ⟨by rw [Array.length_toList,zMem_size],Or.inr ⟨gm k,1,zMem,rfl,h.hB.2.2 k hk,h.hmem k hk,Nat.le_refl _,by unfold maxLen;omega,by rw [zMem_size],?_⟩⟩
    rw [List.take_of_length_le (by rw [Array.length_toList,zMem_size];omega)]
   hgm:=h.hgm
   hcnt:=fun i k hi hk=>by
    show A[1927+i*3+k]? =_
    rw [h.ho _ (by omega) (fun l hl=>by omega),show 1927+i*3+k=1927+(i*3+k) by omega,zNet_int _ (by omega)]
    rfl}
end Go.Proofs.YtldmcdeibiclkaaGreatDoorQ
end
section
namespace Go.Proofs.YtldmcdeibiclkaaGreatDoorQ
open Go.RowKit
attribute [local go_sem ↓] bslice_wp Go.wp_at_zero Go.wp_at_succ
attribute [local go_sem] okBS_agg aggC_agg
abbrev keyA:ByteArray:=⟨#[97]⟩
abbrev valX:ByteArray:=⟨#[120]⟩
abbrev noKeyA:ByteArray:=⟨#[65]⟩
def ctx0:Ctx:=fun _=>0
def ctx1:Ctx:=fun i=>if i=0 then 1 else 0
def knowX:Know:=updK noKeys keyA (bump (bothC ctx0 ctx0) 0,[(0,1,valX)])
theorem knowX_ok:KOk knowX:=by
 refine noKeys_ok.upd (fun v hv=>?_) (by simp) (fun v hv=>?_) (fun i hi=>?_)
 ·rw [List.mem_singleton.1 hv];decide
 ·rw [List.mem_singleton.1 hv];decide
 ·rcases lt4 hi with rfl|rfl|rfl|rfl<;> decide
theorem one_put (b:Nat) (bm:Nat→Nat) (w:World) (h:RepAt w b bm 0 noKeys):
  Calls Qry.prog 21 #[.pointer (some ⟨b,0,none⟩),.string ⟨#[97]⟩,.string ⟨#[120]⟩,.agg #[.int .i64 0,.int .i64 0,.int .i64 0,.int .i64 0]] w fun e w'=>e= .returned (.int .i64 0)∧RepAt w' b bm 0 knowX∧w.grownBy w' (some (bm (segN keyA))):=by
 refine (put_ok b 0 bm noKeys keyA valX ctx0 w h noKeys_ok (by decide) (by decide) (by decide) (by decide) (by decide) (by decide) (by decide) (by decide)).mono ?_
 rintro e w' ⟨rfl,l',hp,_,hr,hg⟩
 have hl:l'= [(0,1,valX)]:=List.perm_singleton.1 hp
 subst hl
 exact ⟨rfl,hr,hg⟩
theorem one_get (b:Nat) (bm:Nat→Nat) (w:World) (h:RepAt w b bm 0 knowX):
  Calls Qry.prog 22 #[.pointer (some ⟨b,0,none⟩),.string ⟨#[97]⟩] w fun e w'=>∃g cap c0 c1 c2 c3,e= .returned (.tuple #[.slice (some ⟨g,0,none⟩) 1 cap,.agg #[.int .i64 c0,.int .i64 c1,.int .i64 c2,.int .i64 c3],.int .i64 0])∧w'.cell? ⟨g,0,none⟩=some (.int .i64 0)∧w'.cell? ⟨g,1,none⟩=some (.int .i64 1)∧w'.cell? ⟨g,2,none⟩=some (.string ⟨#[120]⟩)∧Below w.heap.size w w':=by
 refine (get_ok b 0 bm knowX keyA w h knowX_ok (by decide) (by decide)).mono ?_
 rintro e w' ⟨v',rfl,hown,hb⟩
 have hk:(knowX keyA).2= [(0,1,valX)]:=by simp [knowX,updK]
 rw [hk] at hown
 obtain ⟨g,cap,rfl,_,_,hc⟩:=row_cell hown (by simp)
 exact ⟨g,cap,_,_,_,_,rfl,hc 0 _ (by simp) rfl,hc 1 _ (by simp) rfl,hc 2 _ (by simp) rfl,hb⟩
theorem beg_put (b num:Nat) (w:World):
  Calls Qry.prog 21 #[.pointer (some ⟨b,0,none⟩),.string ⟨#[65]⟩,.string ⟨#[]⟩,.agg #[.int .i64 0,.int .i64 0,.int .i64 0,.int .i64 0]] w fun e w'=>e= .returned (.int .i64 2)∧Below w.heap.size w w':=
 put_noKey b noKeyA ⟨#[]⟩ ctx0 w (by decide) (by decide)
theorem beg_delete (b num:Nat) (bm:Nat→Nat) (w:World) (h:RepAt w b bm num noKeys):
  Calls Qry.prog 23 #[.pointer (some ⟨b,0,none⟩),.string ⟨#[97]⟩,.agg #[.int .i64 1,.int .i64 0,.int .i64 0,.int .i64 0]] w fun e w'=>e= .returned (.int .i64 5)∧Below w.heap.size w w':=
 delete_none b num bm noKeys keyA ctx1 w h noKeys_ok (by decide) (by decide) (by decide) rfl
theorem Qry.infoPtr:(Qry.prog.info? 29).map (fun i=>(i.zero,i.size,i.bytes))=some (some (.pointer none),1,8):=by kernel_rfl
theorem push_keeps {B:Nat} {w1 w2:World} {bt j l:Nat} {A:Array Value} {rv:Value} {b:Nat→Nat} {bm:Nat→Nat→Nat} {gm:Nat→Nat} {C:Array Value} {t0:TypeId} (h:BegAt B w1 bt j l A rv b bm gm) (hgrow:(w1.alloc (.cells C t0)).grownBy w2 rv.ownBlock):w2.heap[bt]? =some (.cells A 42):=by
 have hbtl:=(Array.getElem?_eq_some_iff.1 h.hT).1
 rw [hgrow.block bt (by simp;omega) (fun e=>?_),Below.heap_alloc _ _ _ hbtl]
 ·exact h.hT
 ·obtain ⟨_,cur,hc⟩:=row_block h.hr bt e.symm
  rw [h.hT] at hc;exact absurd (tag_ne hc) (by decide)
def BegRel (B:Nat) (w:World) (bt j:Nat) (wr:World):Prop:=
 ∃A rv b bm gm,BegAt B wr bt j 0 A rv b bm gm∧(∀i n,i< j→n< 64→bm i n< wr.heap.size)∧(∀q,q< B→wr.heap[q]? =w.heap[q]?)∧wr.os=w.os∧wr.tape=w.tape∧wr.output=w.output∧w.heap.size≤wr.heap.size
theorem beg_start {B:Nat} {w w1 w2 w3:World} {X:Obj} {bm1:Nat→Nat} (hB:B≤w.heap.size) (h1:Below (w.alloc (.cells zNet 42)).heap.size (w.alloc (.cells zNet 42)) w1) (hb: ∀m,m< 64→(w.alloc (.cells zNet 42)).heap.size≤bm1 m) (h2:w1.grownBy w2 (some (bm1 (segN keyA)))) (h3:Below w2.heap.size w2 w3):
  BegRel B w w.heap.size 0 (w3.alloc X):=by
 have hn:=hb _ (segN_lt keyA)
 have hsz:(w.alloc (.cells zNet 42)).heap.size=w.heap.size+1:=by simp
 have hF:Fr (fun q=>q=bm1 (segN keyA)) (w.alloc (.cells zNet 42)) (w3.alloc X):=(((Fr.of_below h1).grown h2 (fun q e _=>by cases e;rfl)).below h3).alloc X
 have hT:(w3.alloc X).heap[w.heap.size]? =some (.cells zNet 42):=hF.heap (heap_alloc_new w _) (fun e=>by omega)
 refine ⟨zNet,.slice none 0 0,fun _=>0,fun _ _=>0,fun _=>0,?_,fun i n hi=>absurd hi (by omega),fun q hq=>?_,hF.os,hF.tape,hF.output,Nat.le_trans (by omega) hF.size⟩
 ·exact {
   hB:=⟨hB,fun i n hi=>absurd hi (by omega),fun k hk=>absurd hk (by omega)⟩
   hT:=hT
   hA:=zNet_size
   h0:=zNet_nil 0 (by omega)
   ho:=fun q _ _=>rfl
   hr:=⟨rfl,Or.inl ⟨rfl,rfl⟩⟩
   hrep:=fun i hi=>absurd hi (by omega)
   hdis:=fun i i' n n' hi=>absurd hi (by omega)
   hmv:=fun k hk=>absurd hk (by omega)
   hmem:=fun k hk=>absurd hk (by omega)
   hgm:=fun k k' hk=>absurd hk (by omega)}
 ·rw [hF.block q (by omega) (fun e=>by omega),Below.heap_alloc _ _ _ (by omega)]
set_option maxRecDepth 100000 in
set_option maxHeartbeats 20000000 in
theorem began_ok (B m:Nat) (ks:Nat→ByteArray) (w:World) (h1:1≤m) (h4:m≤4) (hB:B≤w.heap.size):
  Calls Qry.prog 7 #[.int .i64 m] w fun e w'=>∃bt g,e= .returned (.pointer (some ⟨bt,0,none⟩))∧g.nr=m∧NetAt B w' bt g∧NetInv ks g∧Below B w w':=by
 have hz:=Qry.zeroNet
 have hzms:=zMem_size
 have hzm:=Qry.zeroMem
 have hzs:=zNet_size
 have hneq:=fun W=>neqVer W 0 1 ⟨#[120]⟩
 go_enter Qry.func7,Qry.ntmps7
 go_wp2_with (first
  |(go_at_call 20;refine (new_ok 0 _ (by omega)).mono ?_;rintro e w1 ⟨b1,bm1,rfl,hb1,hbm1,hR1,hbel1⟩;have HR1:Hid _:=hR1;have HB1:Hid _:=hbel1;clear hR1 hbel1)
  |(go_at_call 21;refine (one_put b1 bm1 _ HR1.out).mono ?_;rintro e w2 ⟨rfl,hR2,hg2⟩;have HR2:Hid _:=hR2;have HG2:Hid _:=hg2;clear hR2 hg2)
  |(go_at_call 22;refine (one_get b1 bm1 _ HR2.out).mono ?_;rintro e w3 ⟨g3,cap3,x0,x1,x2,x3,rfl,y0,y1,y2,hb3⟩;have hg3:=World.block_lt_of_cell? _ _ y0;have HB3:Hid _:=hb3;clear hb3))
 have HS:Hid (BegRel B w w.heap.size 0 (w3.alloc (.cells #[.int .i64 x0,.int .i64 x1,.int .i64 x2,.int .i64 x3] 66))):=beg_start hB HB1.out hbm1 HG2.out HB3.out
 clear y0 y1 y2 hg3 HB1 hbm1 HG2 HB3 HR1 HR2 hneq
 obtain ⟨i0,hi0,hz0,hz1,hz2⟩:=info_parts Qry.infoPtr
 go_loopw [10] (fun iv wr=>∃j:Nat,j≤m∧iv= .int .i64 j∧BegRel B w w.heap.size j wr) (fun iv _=>m - (intOf iv).toNat)
 case atStart=>exact ⟨0,by omega,rfl,HS.out⟩
 case round=>
  obtain ⟨j,hj,rfl,A,rv,b,bm,gm,hbeg,hbml,hlow,hos,htape,hout,hgr⟩:=hrel
  by_cases hjm:j< m
  ·have j1:(j:Int)< (m:Int):=by omega
   have j4:j< 4:=by omega
   obtain ⟨rad,rcap,hrv⟩:=row_len hbeg.hr
   have HBeg:Hid (BegAt B wr w.heap.size j 0 A (.slice rad j rcap) b bm gm):=by rw [hrv] at hbeg;exact hbeg
   have HLow:Hid _:=And.intro hbml (And.intro hlow (And.intro hos (And.intro htape (And.intro hout hgr))))
   clear hbeg hbml hlow hos htape hout hrv HS
   go_wp2_with (first
    |(go_at_call 20;refine (new_ok j _ j4).mono ?_;rintro e w4 ⟨b4,bm4,rfl,hb4,hbm4,hR4,hbel4⟩;have HR4:Hid (RepAt w4 b4 bm4 j noKeys):=hR4;have HB4:Hid (Below wr.heap.size wr w4):=hbel4;clear hR4 hbel4)
    |(go_at_call 21;refine (beg_put b4 j _).mono ?_;rintro e w5 ⟨rfl,hbel5⟩;have HB5:Hid (Below w4.heap.size w4 w5):=hbel5;have HR5:Hid (RepAt w5 b4 bm4 j noKeys):=HR4.out.below hbel5;clear hbel5)
    |(go_at_call 23;refine (beg_delete b4 j bm4 _ HR5.out).mono ?_;rintro e w6 ⟨rfl,hbel6⟩;have HB6:Hid (Below w5.heap.size w5 w6):=hbel6;have HR6:Hid (RepAt w6 b4 bm4 j noKeys):=HR5.out.below hbel6;have HG6:Hid (BegAt B w6 w.heap.size j 0 A (.slice rad j rcap) b bm gm):=((HBeg.out.below HB4.out).below HB5.out).below hbel6;have c6:w6.cell? ⟨w.heap.size,0,none⟩=some (.slice rad j rcap):=(by rw [(cells_of0 HG6.out.hT).1];exact HG6.out.h0);clear hbel6)
    |(at_builtin;refine wpList_append_lies _ rfl _ _ _ rfl B 29 i0 _ 1 8 Qry.underlying30 hi0 hz0 hz1 hz2 rfl (by omega) (.slice rad j rcap) _ _ rfl (HG6.out.hr.alloc _) ⟨w6.heap.size,0,none⟩ 1 1 [.pointer (some ⟨b4,0,none⟩)] rfl rfl (World.news_of_block (cs:=#[.pointer (some ⟨b4,0,none⟩)]) (t:=29) (fr:=(0,0)) (heap_alloc_new w6 _)) (by simp [Value.oneCell']) (by omega) (by unfold maxLen;omega) (by omega) (by have h1:=HB4.out.size;have h2:=HB5.out.size;have h3:=HB6.out.size;simp;omega) (w6.heap.size+1) (by simp) ?_;intro gg capn w7 hown7 hgrow7 hat7 hlt7;have HP:Hid _:=HG6.out.push (w:=wr) (by have h1:=HB4.out.size;have h2:=HB5.out.size;have h3:=HB6.out.size;omega) HLow.out.1 (by omega) HR6.out hbm4 hgrow7 hown7;have T7:w7.heap[w.heap.size]? =some (.cells A 42):=push_keeps HG6.out hgrow7;have s1:w7.cell? ⟨w.heap.size,0,none⟩=some (.slice rad j rcap):=(by rw [(cells_of0 T7).1];exact HG6.out.h0);have s2:w7.frozen? ⟨w.heap.size,0,none⟩=false:=(cells_of0 T7).2 0;clear hown7 hgrow7 hat7 hlt7 T7))
   refine ⟨⟨j+1,by omega,by go_num,?_⟩,by simp [intOf];omega⟩
   obtain ⟨p1,p2,p3⟩:=HP.out
   obtain ⟨l1,l2,l3,l4,l5,l6⟩:=HLow.out
   have z4:=HB4.out.size
   have z5:=HB5.out.size
   have z6:=HB6.out.size
   have z7:=p2.size
   refine ⟨_,_,_,_,gm,p1,fun i n hi hn=>?_,fun q hq=>?_,p2.os.trans (HB6.out.os.trans (HB5.out.os.trans (HB4.out.os.trans l3))),p2.tape.trans (HB6.out.tape.trans (HB5.out.tape.trans (HB4.out.tape.trans l4))),p2.output.trans (HB6.out.output.trans (HB5.out.output.trans (HB4.out.output.trans l5))),by omega⟩
   ·by_cases e:i=j
    ·simp only [if_pos e]
     have:=(HR6.out.2.1 n hn).lt
     omega
    ·simp only [if_neg e]
     have:=l1 i n (by omega) hn
     omega
   ·rw [p3 q hq,HB6.out.block q (by omega),HB5.out.block q (by omega),HB4.out.block q (by omega)]
    exact l2 q hq
  ·obtain rfl:j=m:=by omega
   have HS2:Hid (∃A rv b bm gm,BegAt B wr w.heap.size j 0 A rv b bm gm∧(∀q,q< B→wr.heap[q]? =w.heap[q]?)∧wr.os=w.os∧wr.tape=w.tape∧wr.output=w.output∧w.heap.size≤wr.heap.size):=⟨A,rv,b,bm,gm,hbeg,hlow,hos,htape,hout,hgr⟩
   clear hbeg hbml hlow hos htape hout hgr HS
   go_wp2
   go_loopw [15] (fun kv wy=>∃l:Nat,l≤3∧kv= .int .i64 l∧∃A rv b bm gm,BegAt B wy w.heap.size j l A rv b bm gm∧(∀q,q< B→wy.heap[q]? =w.heap[q]?)∧wy.os=w.os∧wy.tape=w.tape∧wy.output=w.output∧w.heap.size≤wy.heap.size) (fun kv _=>3 - (intOf kv).toNat)
   case atStart=>exact ⟨0,by omega,rfl,HS2.out⟩
   case round=>
    obtain ⟨l,hl,rfl,A,rv,b,bm,gm,hbeg,hlow,hos,htape,hout,hgr⟩:=hrel
    by_cases hl3:l< 3
    ·have l1:(l:Int)< 3:=by omega
     have l0:(0:Int)≤(l:Int):=by omega
     have hAs:=hbeg.hA
     have s1: ‹World›.cell? ⟨w.heap.size,1922+l,none⟩=some A[1922+l]:=by rw [(cells_of0 hbeg.hT).1];exact Array.getElem?_eq_getElem (by omega)
     have s2: ‹World›.frozen? ⟨w.heap.size,1922+l,none⟩=false:=(cells_of0 hbeg.hT).2 _
     have HM:Hid _:=hbeg.mems hl3 (by omega)
     have HLow:Hid _:=And.intro hlow (And.intro hos (And.intro htape (And.intro hout hgr)))
     have hbl:=(Array.getElem?_eq_some_iff.1 hbeg.hT).1
     clear hbeg hlow hos htape hout
     go_wp2
     obtain ⟨p1,p2⟩:=HM.out
     obtain ⟨f1,f2,f3,f4,f5⟩:=HLow.out
     refine ⟨⟨l+1,by omega,by go_num,_,rv,b,bm,_,p1,fun q hq=>?_,p2.os.trans f2,p2.tape.trans f3,p2.output.trans f4,Nat.le_trans f5 p2.size⟩,by simp [intOf];omega⟩
     rw [p2.block q (by omega) (by omega)]
     exact f1 q hq
    ·obtain rfl:l=3:=by omega
     have HBeg:Hid _:=And.intro hbeg (And.intro hlow (And.intro hos (And.intro htape hout)))
     clear hbeg hlow hos htape hout
     go_wp2
     go_ret
     obtain ⟨f1,f2,f3,f4,f5⟩:=HBeg.out
     obtain ⟨br,capr,R,hnet⟩:=f1.net (by omega)
     exact ⟨w.heap.size,_,rfl,rfl,hnet,NetInv.first h1 h4,f3,f4,f5,hgr,f2⟩
end Go.Proofs.YtldmcdeibiclkaaGreatDoorQ
end
