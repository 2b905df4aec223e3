/-
  Toward: treed_holds, each node's digest is that of its children's, for every argument of Treed. Contract: State.Put where it is not refused: the versions that were not seen, and the new one, sorted, in new memory.
  The zero values of the greater types.
-/
import Derived.Test.YtldmcdeibiclkaaGreatDoorC42
import Derived.Test.YtldmcdeibiclkaaGreatDoorC34
import Derived.Test.YtldmcdeibiclkaaGreatDoorC35
import Derived.WalkKit
import Derived.Test.YtldmcdeibiclkaaGreatDoorC39
set_option linter.unusedVariables false
set_option linter.unusedSimpArgs false
set_option maxRecDepth 4000
section
namespace Go.Proofs.YtldmcdeibiclkaaGreatDoorQ
open Go.RowKit
theorem new3 (w:World) (X Y Z:Obj):(((w.alloc X).alloc Y).alloc Z).heap[w.heap.size+1+1]? =some Z:=by
 simpa using heap_alloc_new ((w.alloc X).alloc Y) Z
theorem new1 (w:World) (X Y Z:Obj):(((w.alloc X).alloc Y).alloc Z).heap[w.heap.size]? =some X:=by
 rw [Below.heap_alloc _ _ _ (by simp;omega),Below.heap_alloc _ _ _ (by simp)]
 exact heap_alloc_new w X
theorem ownBlock_lt {w:World} {base:Nat} {e:TypeId} {size:Nat} {v:Value} {n:Nat} {xs:List Value} (h:w.ownsRow base e size v n xs) {g:Nat} (hg:v.ownBlock=some g):base≤g∧g< w.heap.size:=by
 rcases h.2 with ⟨h1,_⟩|⟨g',cap,cur,hv,hb,hh,_⟩
 ·rw [h1] at hg;cases hg
 ·rw [hv] at hg
  have:g'=g:=by simpa [Value.ownBlock] using hg
  subst this
  exact ⟨hb,(Array.getElem?_eq_some_iff.1 hh).1⟩
theorem far2 {w w3 w4:World} {v v3:Value} {X:Obj} {b:Nat} (hb:w.heap[b]? =some X) (h3:w.grownBy w3 v.ownBlock) (h4:w3.grownBy w4 v3.ownBlock) (n3:some b≠v.ownBlock) (n4:some b≠v3.ownBlock):w4.heap[b]? =some X:=by
 have hlt:=(Array.getElem?_eq_some_iff.1 hb).1
 rw [h4.block b (Nat.lt_of_lt_of_le hlt h3.size) n4,h3.block b hlt n3,hb]
theorem box3r {w w1:World} {A B C:Array Value} {ta tb tc:TypeId} (hb:Below (w.heap.size+3) (((w.alloc (.cells A ta)).alloc (.cells B tb)).alloc (.cells C tc)) w1):
  w1.heap[w.heap.size+1+1]? =some (.cells C tc):=by
 rw [hb.block _ (by omega)]
 exact new3 w _ _ _
theorem cells_of {w:World} {b:Nat} {A:Array Value} {t:TypeId} (h:w.heap[b]? =some (.cells A t)):(∀o,w.cell? ⟨b,o,none⟩=A[o]?)∧(∀o,w.frozen? ⟨b,o,none⟩=false):=
 ⟨fun o=>by simp [World.cell?,h],fun o=>by simp [World.frozen?,h]⟩
set_option maxRecDepth 100000 in
set_option maxHeartbeats 2000000 in
theorem stPut_ok0 (c:Ctx) (sv:Value) (l:List Ver) (val:ByteArray) (seen:Ctx) (w:World) (h:VSl w sv l) (hr: ∀v∈l,v.rep< 4) (hlen:l.length≤100000)
  (hn:(unseenL l seen).length< 20) (h0:0≤bothC c seen 0) (h1:bothC c seen 0< 1000000):
  Calls Qry.prog 40 #[stV c sv,.int .i64 (0:Nat),.string val,ctxV seen] w fun e w'=>∃v' l',e= .returned (.tuple #[stV (bump (bothC c seen) 0) v',.int .i64 0])∧l'.Perm (unseenL l seen++ [(0,bothC c seen 0+1,val)])∧l'.Pairwise (fun a b=>ltV b a=false)∧w'.ownsRow w.heap.size 144 3 v' l'.length (flatV l')∧Below w.heap.size w w':=by
 obtain ⟨ad,cap,rfl,hcap⟩:=h.len
 have H3:Hid (∀a b d,VSl (((w.alloc a).alloc b).alloc d) (.slice ad l.length cap) l):=fun a b d=>((World.ownsRow.alloc h a).alloc b).alloc d
 have HR:Hid _:=hr
 clear h hr
 generalize hun:unseenL l seen=U at*
 have HU:Hid _:=hun
 clear hun
 go_enter Qry.func40,Qry.ntmps40
 obtain ⟨i0,hi0,hz0,hz1,hz2⟩:=info_parts Qry.infoVer
 go_wp2_with (first
  |(go_at_call 63;refine (unseenBy_any c _ l seen _ (H3.out _ _ _) HR.out hlen).mono ?_;rintro e w1 ⟨v',rfl,hown,hb⟩;rw [HU.out] at hown;obtain ⟨ad',cap',hv'⟩:=ownsRow_len hown;subst hv';simp at hb;obtain ⟨b0,b1,b2,f0,f1,f2⟩:=box3 hb;have HO:Hid _:=ownsRow_base hown (show w.heap.size+3≤_ by simp);have HB:Hid _:=hb;clear hown hb)
  |(go_at_call 64;refine (greater_any c seen _).mono ?_;rintro e w2 ⟨rfl,hb2⟩;have hb3:=HB.out.trans (hb2.mono (by have:=HB.out.size;simp at this;omega));obtain ⟨b0,b1,b2,f0,f1,f2⟩:=box3 hb3;have HB3:Hid _:=hb3;have HO2:Hid (w2.ownsRow (w.heap.size+3) 144 3 (.slice ad' U.length cap') U.length (flatV U)):=ownsRow_below HO.out hb2 (Nat.le_refl _);have z2:w.heap.size+1+1< w2.heap.size:=(by have:=hb3.size;simp at this;omega);clear hb3 hb2)
  |(at_builtin;refine wpList_append_lies _ rfl _ _ _ rfl (w.heap.size+3) 144 i0 _ 3 32 Qry.underlying104 hi0 hz0 hz1 hz2 rfl (by omega) (.slice ad' U.length cap') _ _ rfl (((HO2.out.alloc _).alloc _).alloc _) ⟨w2.heap.size+1+1,0,none⟩ 1 1 [.int .i64 0,.int .i64 (bothC c seen 0+1),.string val] rfl rfl (World.news_of_block (cs:=#[.int .i64 0,.int .i64 (bothC c seen 0+1),.string val]) (t:=144) (fr:=(0,0)) (new3 w2 _ _ _)) (by simp [Value.oneCell']) (by omega) (by unfold maxLen;omega) (by omega) (by simp;omega) (w2.heap.size+1+1+1) (by simp) ?_;intro g capn w3 hown3 hgrow3 hat3 hlt3;have HW3:Hid _:=hown3;have HG3:Hid _:=hgrow3;have HA3:Hid _:=hat3;clear hown3 hgrow3 hat3)
  |(go_at_call 65;refine (sortV_own (w.heap.size+3) _ (U++ [(0,bothC c seen 0+1,val)]) _ (by have:=HW3.out;rw [List.length_append,flatV_append];exact this) (by simp) (by simp;omega)).mono ?_;rintro e w4 ⟨rfl,l',hperm,hsort,hown4,hgrow4⟩;have hnr: ∀b,b≤w2.heap.size→(b< w.heap.size+3∨b=w2.heap.size)→some b≠(Value.slice ad' U.length cap').ownBlock∧some b≠some g:=(fun b hb hb'=>by
    have key: ∀q,(Value.slice ad' U.length cap').ownBlock=some q→b≠q:=fun q hq=>by have:=ownBlock_lt HO2.out hq;omega
    refine ⟨fun e=>key b e.symm rfl,fun e=>?_⟩
    rcases HA3.out with h|h
    ·exact key g h (by simpa using e)
    ·have:b=g:=by simpa using e
     omega);obtain ⟨c4,_⟩:=cells_of (far2 (new1 w2 _ _ _) HG3.out hgrow4 (hnr _ (Nat.le_refl _) (Or.inr rfl)).1 (hnr _ (Nat.le_refl _) (Or.inr rfl)).2);obtain ⟨r4,fr4⟩:=cells_of (far2 (w:=((w2.alloc _).alloc _).alloc _) (b:=w.heap.size+1+1) (by rw [Below.heap_alloc _ _ _ (by simp;omega),Below.heap_alloc _ _ _ (by simp;omega),Below.heap_alloc _ _ _ z2];exact box3r HB3.out) HG3.out hgrow4 (hnr _ (by omega) (Or.inl (by omega))).1 (hnr _ (by omega) (Or.inl (by omega))).2);have HN4:Hid _:=hown4;have HG4:Hid _:=hgrow4;have HP:Hid _:=hperm;have HS:Hid _:=hsort;clear hown4 hgrow4 hperm hsort hnr))
 refine bodyPost_ret (v:= .tuple #[stV (bump (bothC c seen) 0) (.slice (some ⟨g,0,none⟩) (U.length+1) capn),.int .i64 0]) ?_ rfl ⟨_,l',rfl,HP.out,HS.out,?_,?_⟩
 ·simp [results,Qry.results40,go_sem,bump,r4]
 ·exact ownsRow_base (ownsRow_setCell_below (ownsRow_setCell_below (ownsRow_setCell_below (ownsRow_setCell_below (ownsRow_setCell_below HN4.out (by simp) _) (by simp) _) (by simp) _) (by simp) _) (by simp) _) (by omega)
 ·have base:Below w.heap.size w w2:=(((Below.refl _ _).alloc (Nat.le_refl _) _).alloc (by simp) _).alloc (by simp;omega) _|>.trans (HB3.out.mono (by omega))
  have base3:Below w.heap.size w w3:=(((base.alloc (by omega) _).alloc (by simp;omega) _).alloc (by simp;omega) _).grown HG3.out (by simp;omega) (fun q hq=>by have:=ownBlock_lt HO2.out hq;omega)
  have base4:Below w.heap.size w w4:=base3.grown HG4.out base3.size (fun q hq=>by have:=ownBlock_lt HW3.out hq;omega)
  repeat' (with_reducible (first|exact base4|refine Below.setCell ?_ ?_ _|refine Below.alloc ?_ ?_ _))
  all_goals (first|omega|(simp;omega))
set_option maxRecDepth 100000 in
set_option maxHeartbeats 2000000 in
theorem stPut_ok1 (c:Ctx) (sv:Value) (l:List Ver) (val:ByteArray) (seen:Ctx) (w:World) (h:VSl w sv l) (hr: ∀v∈l,v.rep< 4) (hlen:l.length≤100000)
  (hn:(unseenL l seen).length< 20) (h0:0≤bothC c seen 1) (h1:bothC c seen 1< 1000000):
  Calls Qry.prog 40 #[stV c sv,.int .i64 (1:Nat),.string val,ctxV seen] w fun e w'=>∃v' l',e= .returned (.tuple #[stV (bump (bothC c seen) 1) v',.int .i64 0])∧l'.Perm (unseenL l seen++ [(1,bothC c seen 1+1,val)])∧l'.Pairwise (fun a b=>ltV b a=false)∧w'.ownsRow w.heap.size 144 3 v' l'.length (flatV l')∧Below w.heap.size w w':=by
 obtain ⟨ad,cap,rfl,hcap⟩:=h.len
 have H3:Hid (∀a b d,VSl (((w.alloc a).alloc b).alloc d) (.slice ad l.length cap) l):=fun a b d=>((World.ownsRow.alloc h a).alloc b).alloc d
 have HR:Hid _:=hr
 clear h hr
 generalize hun:unseenL l seen=U at*
 have HU:Hid _:=hun
 clear hun
 go_enter Qry.func40,Qry.ntmps40
 obtain ⟨i0,hi0,hz0,hz1,hz2⟩:=info_parts Qry.infoVer
 go_wp2_with (first
  |(go_at_call 63;refine (unseenBy_any c _ l seen _ (H3.out _ _ _) HR.out hlen).mono ?_;rintro e w1 ⟨v',rfl,hown,hb⟩;rw [HU.out] at hown;obtain ⟨ad',cap',hv'⟩:=ownsRow_len hown;subst hv';simp at hb;obtain ⟨b0,b1,b2,f0,f1,f2⟩:=box3 hb;have HO:Hid _:=ownsRow_base hown (show w.heap.size+3≤_ by simp);have HB:Hid _:=hb;clear hown hb)
  |(go_at_call 64;refine (greater_any c seen _).mono ?_;rintro e w2 ⟨rfl,hb2⟩;have hb3:=HB.out.trans (hb2.mono (by have:=HB.out.size;simp at this;omega));obtain ⟨b0,b1,b2,f0,f1,f2⟩:=box3 hb3;have HB3:Hid _:=hb3;have HO2:Hid (w2.ownsRow (w.heap.size+3) 144 3 (.slice ad' U.length cap') U.length (flatV U)):=ownsRow_below HO.out hb2 (Nat.le_refl _);have z2:w.heap.size+1+1< w2.heap.size:=(by have:=hb3.size;simp at this;omega);clear hb3 hb2)
  |(at_builtin;refine wpList_append_lies _ rfl _ _ _ rfl (w.heap.size+3) 144 i0 _ 3 32 Qry.underlying104 hi0 hz0 hz1 hz2 rfl (by omega) (.slice ad' U.length cap') _ _ rfl (((HO2.out.alloc _).alloc _).alloc _) ⟨w2.heap.size+1+1,0,none⟩ 1 1 [.int .i64 1,.int .i64 (bothC c seen 1+1),.string val] rfl rfl (World.news_of_block (cs:=#[.int .i64 1,.int .i64 (bothC c seen 1+1),.string val]) (t:=144) (fr:=(0,0)) (new3 w2 _ _ _)) (by simp [Value.oneCell']) (by omega) (by unfold maxLen;omega) (by omega) (by simp;omega) (w2.heap.size+1+1+1) (by simp) ?_;intro g capn w3 hown3 hgrow3 hat3 hlt3;have HW3:Hid _:=hown3;have HG3:Hid _:=hgrow3;have HA3:Hid _:=hat3;clear hown3 hgrow3 hat3)
  |(go_at_call 65;refine (sortV_own (w.heap.size+3) _ (U++ [(1,bothC c seen 1+1,val)]) _ (by have:=HW3.out;rw [List.length_append,flatV_append];exact this) (by simp) (by simp;omega)).mono ?_;rintro e w4 ⟨rfl,l',hperm,hsort,hown4,hgrow4⟩;have hnr: ∀b,b≤w2.heap.size→(b< w.heap.size+3∨b=w2.heap.size)→some b≠(Value.slice ad' U.length cap').ownBlock∧some b≠some g:=(fun b hb hb'=>by
    have key: ∀q,(Value.slice ad' U.length cap').ownBlock=some q→b≠q:=fun q hq=>by have:=ownBlock_lt HO2.out hq;omega
    refine ⟨fun e=>key b e.symm rfl,fun e=>?_⟩
    rcases HA3.out with h|h
    ·exact key g h (by simpa using e)
    ·have:b=g:=by simpa using e
     omega);obtain ⟨c4,_⟩:=cells_of (far2 (new1 w2 _ _ _) HG3.out hgrow4 (hnr _ (Nat.le_refl _) (Or.inr rfl)).1 (hnr _ (Nat.le_refl _) (Or.inr rfl)).2);obtain ⟨r4,fr4⟩:=cells_of (far2 (w:=((w2.alloc _).alloc _).alloc _) (b:=w.heap.size+1+1) (by rw [Below.heap_alloc _ _ _ (by simp;omega),Below.heap_alloc _ _ _ (by simp;omega),Below.heap_alloc _ _ _ z2];exact box3r HB3.out) HG3.out hgrow4 (hnr _ (by omega) (Or.inl (by omega))).1 (hnr _ (by omega) (Or.inl (by omega))).2);have HN4:Hid _:=hown4;have HG4:Hid _:=hgrow4;have HP:Hid _:=hperm;have HS:Hid _:=hsort;clear hown4 hgrow4 hperm hsort hnr))
 refine bodyPost_ret (v:= .tuple #[stV (bump (bothC c seen) 1) (.slice (some ⟨g,0,none⟩) (U.length+1) capn),.int .i64 0]) ?_ rfl ⟨_,l',rfl,HP.out,HS.out,?_,?_⟩
 ·simp [results,Qry.results40,go_sem,bump,r4]
 ·exact ownsRow_base (ownsRow_setCell_below (ownsRow_setCell_below (ownsRow_setCell_below (ownsRow_setCell_below (ownsRow_setCell_below HN4.out (by simp) _) (by simp) _) (by simp) _) (by simp) _) (by simp) _) (by omega)
 ·have base:Below w.heap.size w w2:=(((Below.refl _ _).alloc (Nat.le_refl _) _).alloc (by simp) _).alloc (by simp;omega) _|>.trans (HB3.out.mono (by omega))
  have base3:Below w.heap.size w w3:=(((base.alloc (by omega) _).alloc (by simp;omega) _).alloc (by simp;omega) _).grown HG3.out (by simp;omega) (fun q hq=>by have:=ownBlock_lt HO2.out hq;omega)
  have base4:Below w.heap.size w w4:=base3.grown HG4.out base3.size (fun q hq=>by have:=ownBlock_lt HW3.out hq;omega)
  repeat' (with_reducible (first|exact base4|refine Below.setCell ?_ ?_ _|refine Below.alloc ?_ ?_ _))
  all_goals (first|omega|(simp;omega))
set_option maxRecDepth 100000 in
set_option maxHeartbeats 2000000 in
theorem stPut_ok2 (c:Ctx) (sv:Value) (l:List Ver) (val:ByteArray) (seen:Ctx) (w:World) (h:VSl w sv l) (hr: ∀v∈l,v.rep< 4) (hlen:l.length≤100000)
  (hn:(unseenL l seen).length< 20) (h0:0≤bothC c seen 2) (h1:bothC c seen 2< 1000000):
  Calls Qry.prog 40 #[stV c sv,.int .i64 (2:Nat),.string val,ctxV seen] w fun e w'=>∃v' l',e= .returned (.tuple #[stV (bump (bothC c seen) 2) v',.int .i64 0])∧l'.Perm (unseenL l seen++ [(2,bothC c seen 2+1,val)])∧l'.Pairwise (fun a b=>ltV b a=false)∧w'.ownsRow w.heap.size 144 3 v' l'.length (flatV l')∧Below w.heap.size w w':=by
 obtain ⟨ad,cap,rfl,hcap⟩:=h.len
 have H3:Hid (∀a b d,VSl (((w.alloc a).alloc b).alloc d) (.slice ad l.length cap) l):=fun a b d=>((World.ownsRow.alloc h a).alloc b).alloc d
 have HR:Hid _:=hr
 clear h hr
 generalize hun:unseenL l seen=U at*
 have HU:Hid _:=hun
 clear hun
 go_enter Qry.func40,Qry.ntmps40
 obtain ⟨i0,hi0,hz0,hz1,hz2⟩:=info_parts Qry.infoVer
 go_wp2_with (first
  |(go_at_call 63;refine (unseenBy_any c _ l seen _ (H3.out _ _ _) HR.out hlen).mono ?_;rintro e w1 ⟨v',rfl,hown,hb⟩;rw [HU.out] at hown;obtain ⟨ad',cap',hv'⟩:=ownsRow_len hown;subst hv';simp at hb;obtain ⟨b0,b1,b2,f0,f1,f2⟩:=box3 hb;have HO:Hid _:=ownsRow_base hown (show w.heap.size+3≤_ by simp);have HB:Hid _:=hb;clear hown hb)
  |(go_at_call 64;refine (greater_any c seen _).mono ?_;rintro e w2 ⟨rfl,hb2⟩;have hb3:=HB.out.trans (hb2.mono (by have:=HB.out.size;simp at this;omega));obtain ⟨b0,b1,b2,f0,f1,f2⟩:=box3 hb3;have HB3:Hid _:=hb3;have HO2:Hid (w2.ownsRow (w.heap.size+3) 144 3 (.slice ad' U.length cap') U.length (flatV U)):=ownsRow_below HO.out hb2 (Nat.le_refl _);have z2:w.heap.size+1+1< w2.heap.size:=(by have:=hb3.size;simp at this;omega);clear hb3 hb2)
  |(at_builtin;refine wpList_append_lies _ rfl _ _ _ rfl (w.heap.size+3) 144 i0 _ 3 32 Qry.underlying104 hi0 hz0 hz1 hz2 rfl (by omega) (.slice ad' U.length cap') _ _ rfl (((HO2.out.alloc _).alloc _).alloc _) ⟨w2.heap.size+1+1,0,none⟩ 1 1 [.int .i64 2,.int .i64 (bothC c seen 2+1),.string val] rfl rfl (World.news_of_block (cs:=#[.int .i64 2,.int .i64 (bothC c seen 2+1),.string val]) (t:=144) (fr:=(0,0)) (new3 w2 _ _ _)) (by simp [Value.oneCell']) (by omega) (by unfold maxLen;omega) (by omega) (by simp;omega) (w2.heap.size+1+1+1) (by simp) ?_;intro g capn w3 hown3 hgrow3 hat3 hlt3;have HW3:Hid _:=hown3;have HG3:Hid _:=hgrow3;have HA3:Hid _:=hat3;clear hown3 hgrow3 hat3)
  |(go_at_call 65;refine (sortV_own (w.heap.size+3) _ (U++ [(2,bothC c seen 2+1,val)]) _ (by have:=HW3.out;rw [List.length_append,flatV_append];exact this) (by simp) (by simp;omega)).mono ?_;rintro e w4 ⟨rfl,l',hperm,hsort,hown4,hgrow4⟩;have hnr: ∀b,b≤w2.heap.size→(b< w.heap.size+3∨b=w2.heap.size)→some b≠(Value.slice ad' U.length cap').ownBlock∧some b≠some g:=(fun b hb hb'=>by
    have key: ∀q,(Value.slice ad' U.length cap').ownBlock=some q→b≠q:=fun q hq=>by have:=ownBlock_lt HO2.out hq;omega
    refine ⟨fun e=>key b e.symm rfl,fun e=>?_⟩
    rcases HA3.out with h|h
    ·exact key g h (by simpa using e)
    ·have:b=g:=by simpa using e
     omega);obtain ⟨c4,_⟩:=cells_of (far2 (new1 w2 _ _ _) HG3.out hgrow4 (hnr _ (Nat.le_refl _) (Or.inr rfl)).1 (hnr _ (Nat.le_refl _) (Or.inr rfl)).2);obtain ⟨r4,fr4⟩:=cells_of (far2 (w:=((w2.alloc _).alloc _).alloc _) (b:=w.heap.size+1+1) (by rw [Below.heap_alloc _ _ _ (by simp;omega),Below.heap_alloc _ _ _ (by simp;omega),Below.heap_alloc _ _ _ z2];exact box3r HB3.out) HG3.out hgrow4 (hnr _ (by omega) (Or.inl (by omega))).1 (hnr _ (by omega) (Or.inl (by omega))).2);have HN4:Hid _:=hown4;have HG4:Hid _:=hgrow4;have HP:Hid _:=hperm;have HS:Hid _:=hsort;clear hown4 hgrow4 hperm hsort hnr))
 refine bodyPost_ret (v:= .tuple #[stV (bump (bothC c seen) 2) (.slice (some ⟨g,0,none⟩) (U.length+1) capn),.int .i64 0]) ?_ rfl ⟨_,l',rfl,HP.out,HS.out,?_,?_⟩
 ·simp [results,Qry.results40,go_sem,bump,r4]
 ·exact ownsRow_base (ownsRow_setCell_below (ownsRow_setCell_below (ownsRow_setCell_below (ownsRow_setCell_below (ownsRow_setCell_below HN4.out (by simp) _) (by simp) _) (by simp) _) (by simp) _) (by simp) _) (by omega)
 ·have base:Below w.heap.size w w2:=(((Below.refl _ _).alloc (Nat.le_refl _) _).alloc (by simp) _).alloc (by simp;omega) _|>.trans (HB3.out.mono (by omega))
  have base3:Below w.heap.size w w3:=(((base.alloc (by omega) _).alloc (by simp;omega) _).alloc (by simp;omega) _).grown HG3.out (by simp;omega) (fun q hq=>by have:=ownBlock_lt HO2.out hq;omega)
  have base4:Below w.heap.size w w4:=base3.grown HG4.out base3.size (fun q hq=>by have:=ownBlock_lt HW3.out hq;omega)
  repeat' (with_reducible (first|exact base4|refine Below.setCell ?_ ?_ _|refine Below.alloc ?_ ?_ _))
  all_goals (first|omega|(simp;omega))
set_option maxRecDepth 100000 in
set_option maxHeartbeats 2000000 in
theorem stPut_ok3 (c:Ctx) (sv:Value) (l:List Ver) (val:ByteArray) (seen:Ctx) (w:World) (h:VSl w sv l) (hr: ∀v∈l,v.rep< 4) (hlen:l.length≤100000)
  (hn:(unseenL l seen).length< 20) (h0:0≤bothC c seen 3) (h1:bothC c seen 3< 1000000):
  Calls Qry.prog 40 #[stV c sv,.int .i64 (3:Nat),.string val,ctxV seen] w fun e w'=>∃v' l',e= .returned (.tuple #[stV (bump (bothC c seen) 3) v',.int .i64 0])∧l'.Perm (unseenL l seen++ [(3,bothC c seen 3+1,val)])∧l'.Pairwise (fun a b=>ltV b a=false)∧w'.ownsRow w.heap.size 144 3 v' l'.length (flatV l')∧Below w.heap.size w w':=by
 obtain ⟨ad,cap,rfl,hcap⟩:=h.len
 have H3:Hid (∀a b d,VSl (((w.alloc a).alloc b).alloc d) (.slice ad l.length cap) l):=fun a b d=>((World.ownsRow.alloc h a).alloc b).alloc d
 have HR:Hid _:=hr
 clear h hr
 generalize hun:unseenL l seen=U at*
 have HU:Hid _:=hun
 clear hun
 go_enter Qry.func40,Qry.ntmps40
 obtain ⟨i0,hi0,hz0,hz1,hz2⟩:=info_parts Qry.infoVer
 go_wp2_with (first
  |(go_at_call 63;refine (unseenBy_any c _ l seen _ (H3.out _ _ _) HR.out hlen).mono ?_;rintro e w1 ⟨v',rfl,hown,hb⟩;rw [HU.out] at hown;obtain ⟨ad',cap',hv'⟩:=ownsRow_len hown;subst hv';simp at hb;obtain ⟨b0,b1,b2,f0,f1,f2⟩:=box3 hb;have HO:Hid _:=ownsRow_base hown (show w.heap.size+3≤_ by simp);have HB:Hid _:=hb;clear hown hb)
  |(go_at_call 64;refine (greater_any c seen _).mono ?_;rintro e w2 ⟨rfl,hb2⟩;have hb3:=HB.out.trans (hb2.mono (by have:=HB.out.size;simp at this;omega));obtain ⟨b0,b1,b2,f0,f1,f2⟩:=box3 hb3;have HB3:Hid _:=hb3;have HO2:Hid (w2.ownsRow (w.heap.size+3) 144 3 (.slice ad' U.length cap') U.length (flatV U)):=ownsRow_below HO.out hb2 (Nat.le_refl _);have z2:w.heap.size+1+1< w2.heap.size:=(by have:=hb3.size;simp at this;omega);clear hb3 hb2)
  |(at_builtin;refine wpList_append_lies _ rfl _ _ _ rfl (w.heap.size+3) 144 i0 _ 3 32 Qry.underlying104 hi0 hz0 hz1 hz2 rfl (by omega) (.slice ad' U.length cap') _ _ rfl (((HO2.out.alloc _).alloc _).alloc _) ⟨w2.heap.size+1+1,0,none⟩ 1 1 [.int .i64 3,.int .i64 (bothC c seen 3+1),.string val] rfl rfl (World.news_of_block (cs:=#[.int .i64 3,.int .i64 (bothC c seen 3+1),.string val]) (t:=144) (fr:=(0,0)) (new3 w2 _ _ _)) (by simp [Value.oneCell']) (by omega) (by unfold maxLen;omega) (by omega) (by simp;omega) (w2.heap.size+1+1+1) (by simp) ?_;intro g capn w3 hown3 hgrow3 hat3 hlt3;have HW3:Hid _:=hown3;have HG3:Hid _:=hgrow3;have HA3:Hid _:=hat3;clear hown3 hgrow3 hat3)
  |(go_at_call 65;refine (sortV_own (w.heap.size+3) _ (U++ [(3,bothC c seen 3+1,val)]) _ (by have:=HW3.out;rw [List.length_append,flatV_append];exact this) (by simp) (by simp;omega)).mono ?_;rintro e w4 ⟨rfl,l',hperm,hsort,hown4,hgrow4⟩;have hnr: ∀b,b≤w2.heap.size→(b< w.heap.size+3∨b=w2.heap.size)→some b≠(Value.slice ad' U.length cap').ownBlock∧some b≠some g:=(fun b hb hb'=>by
    have key: ∀q,(Value.slice ad' U.length cap').ownBlock=some q→b≠q:=fun q hq=>by have:=ownBlock_lt HO2.out hq;omega
    refine ⟨fun e=>key b e.symm rfl,fun e=>?_⟩
    rcases HA3.out with h|h
    ·exact key g h (by simpa using e)
    ·have:b=g:=by simpa using e
     omega);obtain ⟨c4,_⟩:=cells_of (far2 (new1 w2 _ _ _) HG3.out hgrow4 (hnr _ (Nat.le_refl _) (Or.inr rfl)).1 (hnr _ (Nat.le_refl _) (Or.inr rfl)).2);obtain ⟨r4,fr4⟩:=cells_of (far2 (w:=((w2.alloc _).alloc _).alloc _) (b:=w.heap.size+1+1) (by rw [Below.heap_alloc _ _ _ (by simp;omega),Below.heap_alloc _ _ _ (by simp;omega),Below.heap_alloc _ _ _ z2];exact box3r HB3.out) HG3.out hgrow4 (hnr _ (by omega) (Or.inl (by omega))).1 (hnr _ (by omega) (Or.inl (by omega))).2);have HN4:Hid _:=hown4;have HG4:Hid _:=hgrow4;have HP:Hid _:=hperm;have HS:Hid _:=hsort;clear hown4 hgrow4 hperm hsort hnr))
 refine bodyPost_ret (v:= .tuple #[stV (bump (bothC c seen) 3) (.slice (some ⟨g,0,none⟩) (U.length+1) capn),.int .i64 0]) ?_ rfl ⟨_,l',rfl,HP.out,HS.out,?_,?_⟩
 ·simp [results,Qry.results40,go_sem,bump,r4]
 ·exact ownsRow_base (ownsRow_setCell_below (ownsRow_setCell_below (ownsRow_setCell_below (ownsRow_setCell_below (ownsRow_setCell_below HN4.out (by simp) _) (by simp) _) (by simp) _) (by simp) _) (by simp) _) (by omega)
 ·have base:Below w.heap.size w w2:=(((Below.refl _ _).alloc (Nat.le_refl _) _).alloc (by simp) _).alloc (by simp;omega) _|>.trans (HB3.out.mono (by omega))
  have base3:Below w.heap.size w w3:=(((base.alloc (by omega) _).alloc (by simp;omega) _).alloc (by simp;omega) _).grown HG3.out (by simp;omega) (fun q hq=>by have:=ownBlock_lt HO2.out hq;omega)
  have base4:Below w.heap.size w w4:=base3.grown HG4.out base3.size (fun q hq=>by have:=ownBlock_lt HW3.out hq;omega)
  repeat' (with_reducible (first|exact base4|refine Below.setCell ?_ ?_ _|refine Below.alloc ?_ ?_ _))
  all_goals (first|omega|(simp;omega))
theorem stPut_ok (c:Ctx) (sv:Value) (l:List Ver) (rep:Nat) (val:ByteArray) (seen:Ctx) (w:World) (h:VSl w sv l) (hr: ∀v∈l,v.rep< 4) (hlen:l.length≤100000) (hrep:rep< 4)
  (hn:(unseenL l seen).length< 20) (h0:0≤bothC c seen rep) (h1:bothC c seen rep< 1000000):
  Calls Qry.prog 40 #[stV c sv,.int .i64 rep,.string val,ctxV seen] w fun e w'=>∃v' l',e= .returned (.tuple #[stV (bump (bothC c seen) rep) v',.int .i64 0])∧l'.Perm (unseenL l seen++ [(rep,bothC c seen rep+1,val)])∧l'.Pairwise (fun a b=>ltV b a=false)∧w'.ownsRow w.heap.size 144 3 v' l'.length (flatV l')∧Below w.heap.size w w':=by
 rcases lt4 hrep with rfl|rfl|rfl|rfl
 ·exact stPut_ok0 c sv l val seen w h hr hlen hn h0 h1
 ·exact stPut_ok1 c sv l val seen w h hr hlen hn h0 h1
 ·exact stPut_ok2 c sv l val seen w h hr hlen hn h0 h1
 ·exact stPut_ok3 c sv l val seen w h hr hlen hn h0 h1
end Go.Proofs.YtldmcdeibiclkaaGreatDoorQ
end
section
namespace Go.Proofs.YtldmcdeibiclkaaGreatDoorQ
open Go.RowKit
def zSet:Array Value:=Array.replicate 80 (Value.bool false)
theorem zSet_size:zSet.size=80:=by simp [zSet]
theorem Qry.infoSet:(Qry.prog.info? 33).map (·.zero)=some (some (.agg zSet)):=by kernel_rfl
theorem Qry.zeroSetV (w:World):(zeroValue 33).run Qry.prog w= .ok (.agg zSet) w:=zero_of Qry.infoSet w
def zMem:Array Value:=Array.replicate 4 (Value.int .i64 0)++zSet
theorem zMem_size:zMem.size=84:=by simp [zMem,zSet]
theorem Qry.infoMem:(Qry.prog.info? 74).map (·.zero)=some (some (.agg zMem)):=by kernel_rfl
theorem Qry.zeroMem (w:World):(zeroValue 74).run Qry.prog w= .ok (.agg zMem) w:=zero_of Qry.infoMem w
def zNet:Array Value:=(List.replicate 2 (Value.slice none 0 0)++(List.replicate 1920 (Value.bool false)++(List.replicate 5 (Value.slice none 0 0)++List.replicate 12 (Value.int .i64 0)))).toArray
theorem zNet_size:zNet.size=1939:=by
 unfold zNet
 rw [List.size_toArray]
 simp only [List.length_append,List.length_replicate]
set_option maxRecDepth 1000000 in
theorem Qry.infoNet:(Qry.prog.info? 42).map (·.zero)=some (some (.agg zNet)):=by kernel_rfl
theorem Qry.zeroNet (w:World):(zeroValue 42).run Qry.prog w= .ok (.agg zNet) w:=zero_of Qry.infoNet w
end Go.Proofs.YtldmcdeibiclkaaGreatDoorQ
end
