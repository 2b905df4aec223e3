/-
  Toward: treed_holds, each node's digest is that of its children's, for every argument of Treed. What a net, a row of numbers and the keys keep through what turns nothing of theirs.
  Contract of the lone one: Treed: whatever the numbers, the answer is true; nothing that was there turns.
-/
import Derived.Test.YtldmcdeibiclkaaGreatDoorC50
import Derived.Test.YtldmcdeibiclkaaGreatDoorC41
set_option linter.unusedVariables false
set_option linter.unusedSimpArgs false
set_option maxRecDepth 4000
section
namespace Go.Proofs.YtldmcdeibiclkaaGreatDoorQ
open Go.RowKit
theorem NetAt.below {B:Nat} {w w':World} {bt:Nat} {g:NetG} (h:NetAt B w bt g) (hb:Below w.heap.size w w'):NetAt B w' bt g:=
 h.fr (X:=fun _=>False) (Fr.of_below hb) ⟨fun e=>e,fun e=>e,fun _ _ e=>e,fun _ _ _ _ e=>e,fun _ _ _ e=>e,fun _ _ _ e=>e,fun _ _ _ e=>e⟩
theorem NetAt.base {B B':Nat} {w:World} {bt:Nat} {g:NetG} (h:NetAt B w bt g) (hB:B'≤B):NetAt B' w bt g:=
 {h with
  hB:=⟨Nat.le_trans hB h.hB.1,fun i n hi hn=>Nat.le_trans hB (h.hB.2 i n hi hn)⟩
  hw:=ownsRow_base h.hw hB
  hmem:=fun k hk=>ownsRow_base (h.hmem k hk) hB}
theorem CodeAt.keep {w w':World} {ad:Option Addr} {n:Nat} (h:CodeAt w ad n) (hb:Below w.heap.size w w'):CodeAt w' ad n:=by
 rcases h with h|⟨b,off,rfl,hall⟩
 ·exact Or.inl h
 ·refine Or.inr ⟨b,off,rfl,fun j hj=>?_⟩
  obtain ⟨z,hz,hr⟩:=hall j hj
  exact ⟨z,cell_keep hz hb,hr⟩
theorem DiceAt.keep {w w':World} {bx n cap a:Nat} {ad:Option Addr} (h:DiceAt w bx ad n cap a) (hb:Below w.heap.size w w'):DiceAt w' bx ad n cap a:=
 ⟨heap_keep h.1 hb,h.2.1,h.2.2.1,h.2.2.2.keep hb⟩
theorem KeysAt.keep {w w':World} {ks:Nat→ByteArray} (h:KeysAt w ks) (hb:Below w.heap.size w w'):KeysAt w' ks:=
 ⟨fun k hk=>cell_keep (h.cell k hk) hb,h.key,h.ne⟩
end Go.Proofs.YtldmcdeibiclkaaGreatDoorQ
end
section
namespace Go.Proofs.YtldmcdeibiclkaaGreatDoorQ
open Go.RowKit
open Go.Lib (strCells strCells_length strCells_oneCell)
theorem pick_nat (c:Int) (n:Nat) (w:World) (h1: -9223372036854775808≤c) (h2:c≤9223372036854775807) (hn:1≤n) (hn2:n≤1000):
  Calls Qry.prog 9 #[.int .i64 c,.int .i64 n] w fun e w'=>∃r:Nat,e= .returned (.int .i64 r)∧r< n∧w'=w:=by
 refine (pick_any c n w h1 h2 (by omega) (by omega)).mono ?_
 rintro e w' ⟨rfl,rfl⟩
 have hr:=pickS_range c n (by omega)
 exact ⟨(pickS c n).toNat,by rw [Int.toNat_of_nonneg hr.1],by omega,rfl⟩
theorem one_convert (w:World) (x:Int):(convert 48 9 (.slice (some ⟨w.heap.size,0,none⟩) 1 1)).run Qry.prog (w.alloc (.cells #[.int .u8 (x % 256)] 5))= .ok (.string (oneB x)) (w.alloc (.cells #[.int .u8 (x % 256)] 5)):=
 brow_convert (B:=0) (s:=oneB x) ⟨rfl,Or.inr ⟨w.heap.size,1,#[.int .u8 (x % 256)],rfl,Nat.zero_le _,heap_alloc_new w _,Nat.le_refl _,by decide,rfl,by rw [cells_oneB];rfl⟩⟩
theorem digW_up (w:World) (bm:Nat→Nat) (K:Know) {a:Nat} (ha:a≤2) (b:Nat):digW w bm K a b=fnv (nodeB (fun j=>digW w bm K (a+1) (4*b+j)) 4):=by
 unfold digW
 rw [show 3 - a=(3 - (a+1))+1 by omega,dg,nodeD]
 congr 2
 funext j
 rw [Nat.mul_comm 4 b]
theorem dg_congr {T T':Nat→ByteArray}: ∀(h n:Nat),(∀k,n*4 ^ h≤k→k< (n+1)*4 ^ h→T k=T' k)→dg T h n=dg T' h n
 |0,n,hk=>by
  rw [dg,dg,hk n (by simp) (by simp)]
 |h+1,n,hk=>by
  rw [dg,dg]
  have e: ∀j,j< 4→dg T h (n*4+j)=dg T' h (n*4+j):=fun j hj=>dg_congr h _ fun k h1 h2=>hk k (by
   refine Nat.le_trans ?_ h1
   rw [Nat.pow_succ,Nat.mul_comm (4 ^ h) 4,← Nat.mul_assoc]
   exact Nat.mul_le_mul_right _ (by omega)) (by
   refine Nat.lt_of_lt_of_le h2 ?_
   rw [Nat.pow_succ,Nat.mul_comm (4 ^ h) 4,← Nat.mul_assoc]
   exact Nat.mul_le_mul_right _ (by omega))
  simp only [nodeD,nodeB]
  rw [e 0 (by omega),e 1 (by omega),e 2 (by omega),e 3 (by omega)]
theorem digW_below {w W:World} {b num:Nat} {bm:Nat→Nat} {K:Know} (h:RepAt w b bm num K) (hW:Below w.heap.size w W) {lv n:Nat} (hl:lv≤3) (hn:n< 4 ^ lv):digW W bm K lv n=digW w bm K lv n:=by
 refine dg_congr _ _ fun k _ hk=>textW_keep (hW.block _ (h.2.1 k ?_).lt)
 refine Nat.lt_of_lt_of_le hk ?_
 have h64:4 ^ lv*4 ^ (3 - lv)=64:=by rw [← Nat.pow_add,show lv+(3 - lv)=3 by omega]
 rw [← h64]
 exact Nat.mul_le_mul_right _ hn
set_option maxRecDepth 100000 in
set_option maxHeartbeats 20000000 in
theorem treed_true (ad:Option Addr) (n cap:Nat) (lv nn:Int) (ks:Nat→ByteArray) (w:World) (hK:KeysAt w ks) (hC:CodeAt w ad n) (hn:n≤9223372036854775807) (hnb:0< n→∀b off,ad=some ⟨b,off,none⟩→b< w.heap.size) (h0:0< w.heap.size)
  (hlv: -9223372036854775808≤lv∧lv≤9223372036854775807) (hnn: -9223372036854775808≤nn∧nn≤9223372036854775807):
  Calls Qry.prog 3 #[.slice ad n cap,.int .i64 lv,.int .i64 nn] w fun e w'=>e= .returned (.bool true)∧Below w.heap.size w w':=by
 have ha:Below w.heap.size w (w.alloc (.cells #[.slice ad n cap,.int .i64 0] 25)):=(Below.refl _ _).alloc (Nat.le_refl _) _
 have hD:DiceAt (w.alloc (.cells #[.slice ad n cap,.int .i64 0] 25)) w.heap.size ad n cap 0:=⟨heap_alloc_new w _,Nat.zero_le _,hn,hC.keep ha⟩
 have HBeg:Hid (Calls Qry.prog 7 #[.int .i64 2] (w.alloc (.cells #[.slice ad n cap,.int .i64 0] 25)) fun e w'=>∃bt g,e= .returned (.pointer (some ⟨bt,0,none⟩))∧g.nr=2∧NetAt w.heap.size w' bt g∧NetInv ks g∧(∃at2,DiceAt w' w.heap.size ad n cap at2)∧Below w.heap.size w w'):=by
  refine (began_ok (w.heap.size+1) 2 ks (w.alloc (.cells #[.slice ad n cap,.int .i64 0] 25)) (by omega) (by omega) (by simp)).mono ?_
  rintro e w' ⟨bt,g,rfl,h1,h2,h3,h4⟩
  have h4':Below (w.alloc (.cells #[.slice ad n cap,.int .i64 0] 25)).heap.size (w.alloc (.cells #[.slice ad n cap,.int .i64 0] 25)) w':=by simpa using h4
  exact ⟨bt,g,rfl,h1,h2.base (by omega),h3,⟨0,hD.keep h4'⟩,ha.trans (h4'.mono (by simp))⟩
 have HKA:Hid (KeysAt w ks):=hK
 have HLv:Hid (∀W,Calls Qry.prog 9 #[.int .i64 lv,.int .i64 3] W fun e w'=>∃r:Nat,e= .returned (.int .i64 r)∧r< 3∧w'=W):=fun W=>pick_nat lv 3 W hlv.1 hlv.2 (by omega) (by omega)
 have HNn:Hid (∀(m:Nat) W,1≤m→m≤1000→Calls Qry.prog 9 #[.int .i64 nn,.int .i64 m] W fun e w'=>∃r:Nat,e= .returned (.int .i64 r)∧r< m∧w'=W):=fun m W h1 h2=>pick_nat nn m W hnn.1 hnn.2 h1 h2
 clear hD hK hC ha hlv hnn
 go_enter Qry.func3,Qry.ntmps3
 go_wp2_with (go_at_call 7;refine Calls.mono HBeg.out ?_;rintro e w2 ⟨bt,g,rfl,hnr,hN,hI,hd,hb2⟩;have HS:Hid ((∃g,g.nr=2∧NetAt w.heap.size w2 bt g∧NetInv ks g)∧(∃at2,DiceAt w2 w.heap.size ad n cap at2)∧Below w.heap.size w w2):=⟨⟨g,hnr,hN,hI⟩,hd,hb2⟩;clear hnr hN hI hd hb2 HBeg)
 go_loopw [9] (fun iv wr=>∃i:Nat,i≤60∧iv= .int .i64 i∧(∃g,g.nr=2∧NetAt w.heap.size wr bt g∧NetInv ks g)∧(∃at2,DiceAt wr w.heap.size ad n cap at2)∧Below w.heap.size w wr) (fun iv _=>60 - (intOf iv).toNat)
 case atStart=>exact ⟨0,by omega,rfl,HS.out⟩
 case round=>
  obtain ⟨i,hi,rfl,⟨g,hnr,hN,hI⟩,⟨at2,hD⟩,hb⟩:=hrel
  have HBr:Hid (Below w.heap.size w wr):=hb
  have HG:Hid (∃g,g.nr=2∧NetAt w.heap.size wr bt g∧NetInv ks g):=⟨g,hnr,hN,hI⟩
  have HLoc:Hid (∀W,Below wr.heap.size wr W→Calls Qry.prog 8 #[.pointer (some ⟨bt,0,none⟩),.pointer (some ⟨w.heap.size,0,none⟩)] W fun e w'=>e= .returned (.bool true)∧Below w.heap.size w w'∧∃g',g'.nr=2∧NetAt w.heap.size w' bt g'∧NetInv ks g'∧∃at2,DiceAt w' w.heap.size ad n cap at2):=fun W hW=>by
   refine (local_true w.heap.size bt w.heap.size n cap at2 ad g ks W (hN.below hW) hI (HKA.out.keep (below_keep hb hW)) (hD.keep hW) hnb (Nat.le_refl _) h0).mono ?_
   rintro e w' ⟨rfl,h1,g',h5,h2,h3,h4⟩
   exact ⟨rfl,(below_keep hb hW).trans h1,g',h5.trans hnr,h2,h3,h4⟩
  obtain ⟨c,f⟩:=cells_of0 hD.1
  have c0: ‹World›.cell? ⟨w.heap.size,0,none⟩=some (.slice ad n cap):=c 0
  have c1: ‹World›.cell? ⟨w.heap.size,1,none⟩=some (.int .i64 at2):=c 1
  clear hb hN hI hD c f HS hnr
  by_cases hgo:i< 60∧at2< n
  ·have i1:(i:Int)< 60:=by omega
   have a1:(at2:Int)< (n:Int):=by omega
   have hd1:decide ((at2:Int)< (n:Int))=true:=by simpa using hgo.2
   clear hgo
   go_wp2
   go_quiet (fail)
   go_wp2_with (go_at_call 8;refine Calls.mono (HLoc.out _ (below_drewN (Below.refl _ _) _)) ?_;rintro e w4 ⟨rfl,hb4,g4,hnr4,hN4,hI4,hd4⟩;have HB4:Hid (Below w.heap.size w w4):=hb4;have HG4:Hid (∃g,g.nr=2∧NetAt w.heap.size w4 bt g∧NetInv ks g):=⟨g4,hnr4,hN4,hI4⟩;have HD4:Hid _:=hd4;clear hb4 hN4 hI4 hd4 hnr4)
   exact ⟨⟨i+1,by omega,by go_num,HG4.out,HD4.out,HB4.out⟩,by simp [intOf];omega⟩
  ·obtain ⟨Wo,hWo⟩: ∃W,W=wr:=⟨_,rfl⟩
   subst hWo
   obtain ⟨g,hnr,hN,hI⟩:=HG.out
   have hcT:=(cells_of0 hN.hT).1 0
   have hcR:=(cells_of0 hN.hR).1 0
   rw [hN.h0,hnr] at hcT
   rw [hN.hRi 0 (by omega)] at hcR
   have hrep:=hN.hrep 0 (by omega)
   have hKO:=hI.hkok 0 (by omega)
   have HDig:Hid (∀lv n:Nat,lv≤3→n< 4 ^ lv→∀W,Below Wo.heap.size Wo W→Calls Qry.prog 10 #[.pointer (some ⟨g.b 0,0,none⟩),.int .i64 lv,.int .i64 n] W fun e w'=>e= .returned (.tuple #[.int .u64 (digW Wo (g.bm 0) (g.K 0) lv n),.int .i64 0])∧Below Wo.heap.size Wo w'):=fun lv n hl hn W hW=>by
    have e:digW W (g.bm 0) (g.K 0) lv n=digW Wo (g.bm 0) (g.K 0) lv n:=digW_below hrep hW hl hn
    rw [← e]
    exact (repDigest_ok (g.b 0) 0 lv n (g.bm 0) (g.K 0) W (hrep.below hW) hKO hl hn).mono fun e' w' ⟨h1,h2⟩=>⟨h1,below_keep hW h2⟩
   have HNo:Hid (∀lv n:Nat,lv≤4→¬ (lv≤3∧n< 4 ^ lv)→∀W,Calls Qry.prog 10 #[.pointer (some ⟨g.b 0,0,none⟩),.int .i64 lv,.int .i64 n] W fun e w'=>e= .returned (.tuple #[.int .u64 0,.int .i64 7])∧w'=W):=fun lv n hl hn W=>repDigest_no (g.b 0) lv n W hl hn
   have HSeg:Hid (∀n:Nat,n< 64→∀W,Below Wo.heap.size Wo W→Calls Qry.prog 11 #[.pointer (some ⟨g.b 0,0,none⟩),.int .i64 n] W fun e w'=>e= .returned (.tuple #[.string (textW Wo (g.bm 0) (g.K 0) n),.int .i64 0])∧Below Wo.heap.size Wo w'):=fun n hn W hW=>by
    have e:textW W (g.bm 0) (g.K 0) n=textW Wo (g.bm 0) (g.K 0) n:=textW_keep (hW.block _ (hrep.2.1 n hn).lt)
    rw [← e]
    exact (segment_any (g.b 0) 0 n (g.bm 0) (g.K 0) W (hrep.below hW) hKO hn).mono fun e' w' ⟨h1,h2⟩=>⟨h1,below_keep hW h2⟩
   have HHel:Hid (∀W,Below Wo.heap.size Wo W→Calls Qry.prog 12 #[.pointer (some ⟨g.b 0,0,none⟩)] W fun e w'=>e= .returned (.string (helloB (digW Wo (g.bm 0) (g.K 0) 0 0)))∧Below Wo.heap.size Wo w'):=fun W hW=>by
    have e:digW W (g.bm 0) (g.K 0) 0 0=digW Wo (g.bm 0) (g.K 0) 0 0:=digW_below hrep hW (by omega) (by decide)
    rw [← e]
    exact (hello_any (g.b 0) 0 (g.bm 0) (g.K 0) W (hrep.below hW) hKO).mono fun e' w' ⟨h1,h2⟩=>⟨h1,below_keep hW h2⟩
   have HSm:Hid (∀n,n< 64→(textW Wo (g.bm 0) (g.K 0) n).size≤maxLen):=text_small hrep hKO
   have HUp:Hid (∀a b:Nat,a≤2→digW Wo (g.bm 0) (g.K 0) a b=fnv (nodeB (fun j=>digW Wo (g.bm 0) (g.K 0) (a+1) (4*b+j)) 4)):=fun a b ha=>digW_up Wo _ _ ha b
   have HLeaf:Hid (∀n,digW Wo (g.bm 0) (g.K 0) 3 n=fnv (textW Wo (g.bm 0) (g.K 0) n)):=fun n=>rfl
   generalize digW Wo (g.bm 0) (g.K 0)=D at*
   generalize textW Wo (g.bm 0) (g.K 0)=T at*
   generalize g.b 0=b0 at*
   generalize g.br=br at*
   generalize g.capr=capr at*
   clear hrep hKO hN hI HG HLoc hnr
   have hgo': ¬ (i:Int)< 60∨((i:Int)< 60∧¬ (at2:Int)< (n:Int)):=by omega
   clear hgo
   have HCs:Hid (Wo.cell? ⟨bt,0,none⟩=some (.slice (some ⟨br,0,none⟩) 2 capr)∧Wo.cell? ⟨br,0,none⟩=some (.pointer (some ⟨b0,0,none⟩))):=⟨hcT,hcR⟩
   go_wp2
   go_cut [56] from 43 to 56 (fun bv wx=>bv= .bool false∧Below Wo.heap.size Wo wx)
   case first=>
    rcases hgo' with i1|⟨i1,a1⟩
    ·have hd0:decide ((i:Int)< 60)=false:=by simpa using i1
     go_quiet (fail)
     go_wp2_with fail
     go_meet
     exact ⟨rfl,below_drewN (Below.refl _ _) _⟩
    ·have hd1:decide ((at2:Int)< (n:Int))=false:=by simpa using a1
     go_quiet (fail)
     go_wp2_with fail
     go_meet
     exact ⟨congrArg Value.bool (by simpa using a1),below_drewN (Below.refl _ _) _⟩
   case rest=>
    obtain ⟨rfl,hbc⟩:=hcut
    have HBc:Hid (Below Wo.heap.size Wo wc):=hbc
    clear hcT hcR c0 c1 hgo'
    have hcT:=cell_keep HCs.out.1 hbc
    have hcR:=cell_keep HCs.out.2 hbc
    clear hbc
    go_wp2_with (go_at_call 9;refine Calls.mono (HLv.out _) ?_;rintro e w3 ⟨a,rfl,ha,rfl⟩)
    clear HLv hcT hcR
    go_loop [13,14] (fun cv iv=>∃k:Nat,k≤a∧iv= .int .i64 k∧cv= .int .i64 (4 ^ k:Nat)) (fun _ iv=>a - (intOf iv).toNat)
    case atStart=>exact ⟨0,by omega,rfl,rfl⟩
    case round=>
     obtain ⟨k,hk,rfl,rfl⟩:=hrel
     by_cases hlt:k< a
     ·have g1:(k:Int)< (a:Int):=by omega
      have hp:=(pow4_le (k:=k) (by omega)).1
      have HP:Hid (4 ^ (k+1)=4 ^ k*4):=Nat.pow_succ ..
      generalize 4 ^ k=p at*
      go_wp2
      exact ⟨⟨k+1,by omega,by go_num,by rw [HP.out];go_num⟩,by simp [intOf];omega⟩
     ·obtain rfl:k=a:=by omega
      have hp:=pow4_le (k:=k) (by omega)
      have hp4:Hid (4 ^ (k+1)=4 ^ k*4):=Nat.pow_succ ..
      obtain ⟨p,hpd⟩: ∃p,p=4 ^ k:=⟨_,rfl⟩
      rw [← hpd] at hp hp4 ⊢
      have HPd:Hid (p=4 ^ k):=hpd
      clear hpd
      go_wp2_with (go_at_call 9;refine Calls.mono (HNn.out p _ hp.2 (by omega)) ?_;rintro e w3 ⟨b,rfl,hb3,rfl⟩)
      have hb16:b< 16:=by
       have:4 ^ k≤4 ^ 2:=Nat.pow_le_pow_right (by omega) (by omega)
       rw [← HPd.out] at this
       omega
      go_loopw [16,17] (fun sv iv wz=>∃q:Nat,q≤4∧iv= .int .i64 q∧sv= .string (nodeB (fun j=>D (k+1) (4*b+j)) q)∧Hid (Below Wo.heap.size Wo wz)) (fun _ iv _=>4 - (intOf iv).toNat)
      case atStart=>exact ⟨0,by omega,rfl,rfl,HBc.out⟩
      case round=>
       obtain ⟨q,hq,rfl,rfl,hbz⟩:=hrel
       have HBz:Hid (Below Wo.heap.size Wo wr):=hbz.out
       clear hbz
       by_cases hlt:q< 4
       ·have hd:=HDig.out (k+1) (4*b+q) (by omega) (by rw [hp4.out];omega)
        rw [show ((k+1:Nat):Int)=(k:Int)+1 by omega,show ((4*b+q:Nat):Int)=4*(b:Int)+(q:Int) by omega] at hd
        have HD1:Hid (∀W,Below Wo.heap.size Wo W→Calls Qry.prog 10 #[.pointer (some ⟨b0,0,none⟩),.int .i64 ((k:Int)+1),.int .i64 (4*(b:Int)+(q:Int))] W fun e w'=>e= .returned (.tuple #[.int .u64 (D (k+1) (4*b+q)),.int .i64 0])∧Below Wo.heap.size Wo w'):=hd
        clear hd
        have HNB:Hid (nodeB (fun j=>D (k+1) (4*b+j)) (q+1)=nodeB (fun j=>D (k+1) (4*b+j)) q++digB (D (k+1) (4*b+q))):=rfl
        have hns:=nodeB_size (fun j=>D (k+1) (4*b+j)) q
        generalize hst:nodeB (fun j=>D (k+1) (4*b+j)) q=st at*
        clear hst
        generalize D (k+1) (4*b+q)=d at*
        have k3:(k:Int)< 3:=by omega
        have k0:(0:Int)≤(k:Int):=by omega
        have b1:(b:Int)< 16:=by omega
        have b0':(0:Int)≤(b:Int):=by omega
        have q1:(q:Int)< 4:=by omega
        have q0:(0:Int)≤(q:Int):=by omega
        go_wp2_with (go_at_call 10;refine Calls.mono (HD1.out _ HBz.out) ?_;rintro e w4 ⟨rfl,hb4⟩;have HB4:Hid (Below Wo.heap.size Wo w4):=hb4;clear hb4)
        go_loopw [16,20] (fun sv iv wz=>∃t:Nat,t≤8∧iv= .int .i64 (7 - (t:Int))∧sv= .string (st++digTo d t)∧Hid (Below Wo.heap.size Wo wz)) (fun _ iv _=>((intOf iv)+1).toNat)
        case atStart=>exact ⟨0,by omega,rfl,by rw [digTo,ba_empty],HB4.out⟩
        case round=>
         obtain ⟨t,ht,rfl,rfl,hby⟩:=hrel
         have HBy:Hid (Below Wo.heap.size Wo wr):=hby.out
         have hsy:=hby.out.size
         clear hby
         by_cases hl8:t< 8
         ·have g1:(0:Int)≤7 - (t:Int):=by omega
          have g2:(0:Int)≤8*(7 - (t:Int)):=by omega
          have g3:8*(7 - (t:Int))≤64:=by omega
          have hcv:=one_convert wr
          have HDt:Hid (st++digTo d (t+1)=st++digTo d t++oneB (d / 2 ^ (8*(7 - t)))):=(show st++digTo d (t+1)=_ by rw [show 8*(7 - t)=56 - 8*t by omega,digTo,ba_assoc])
          have hss: ¬ 9223372036854775807< (st++digTo d t).size+(oneB (d / 2 ^ (8*(7 - t)))).size:=by rw [ByteArray.size_append,digTo_size,oneB_size];omega
          generalize st++digTo d t=su at*
          go_wp2
          refine ⟨⟨t+1,by omega,by congr 1;omega,?_,HBy.out.alloc hsy _⟩,by simp [intOf];omega⟩
          rw [HDt.out]
         ·obtain rfl:t=8:=by omega
          have HE:Hid (st++digTo d 8=nodeB (fun j=>D (k+1) (4*b+j)) (q+1)):=HNB.out.symm
          rw [HE.out]
          go_wp2
          exact ⟨⟨q+1,by omega,by go_num,rfl,HBy.out⟩,by simp [intOf];omega⟩
       ·obtain rfl:q=4:=by omega
        clear hq hlt
        have hDa:Hid (∀W,Below Wo.heap.size Wo W→Calls Qry.prog 10 #[.pointer (some ⟨b0,0,none⟩),.int .i64 k,.int .i64 b] W fun e w'=>e= .returned (.tuple #[.int .u64 (D k b),.int .i64 0])∧Below Wo.heap.size Wo w'):=HDig.out k b (by omega) (by rw [← HPd.out];exact hb3)
        have hDw:Hid (∀W,Calls Qry.prog 10 #[.pointer (some ⟨b0,0,none⟩),.int .i64 k,.int .i64 p] W fun e w'=>e= .returned (.tuple #[.int .u64 0,.int .i64 7])∧w'=W):=HNo.out k p (by omega) (by rw [← HPd.out];omega)
        have hD4:Hid (∀W,Calls Qry.prog 10 #[.pointer (some ⟨b0,0,none⟩),.int .i64 4,.int .i64 0] W fun e w'=>e= .returned (.tuple #[.int .u64 0,.int .i64 7])∧w'=W):=HNo.out 4 0 (by omega) (by decide)
        have hD0:Hid (∀W,Below Wo.heap.size Wo W→Calls Qry.prog 10 #[.pointer (some ⟨b0,0,none⟩),.int .i64 0,.int .i64 0] W fun e w'=>e= .returned (.tuple #[.int .u64 (D 0 0),.int .i64 0])∧Below Wo.heap.size Wo w'):=HDig.out 0 0 (by omega) (by decide)
        have hD3:Hid (∀n:Nat,n< 64→∀W,Below Wo.heap.size Wo W→Calls Qry.prog 10 #[.pointer (some ⟨b0,0,none⟩),.int .i64 3,.int .i64 n] W fun e w'=>e= .returned (.tuple #[.int .u64 (fnv (T n)),.int .i64 0])∧Below Wo.heap.size Wo w'):=fun n hn W hW=>by rw [← HLeaf.out n];exact HDig.out 3 n (by omega) hn W hW
        have hP64:Hid (∀W,Calls Qry.prog 9 #[.int .i64 nn,.int .i64 64] W fun e w'=>∃r:Nat,e= .returned (.int .i64 r)∧r< 64∧w'=W):=fun W=>HNn.out 64 W (by omega) (by omega)
        have HUk:Hid (D k b=fnv (nodeB (fun j=>D (k+1) (4*b+j)) 4)):=HUp.out k b (by omega)
        have hns:=nodeB_size (fun j=>D (k+1) (4*b+j)) 4
        generalize nodeB (fun j=>D (k+1) (4*b+j)) 4=st at*
        generalize D k b=dkb at*
        generalize D 0 0=d00 at*
        clear HDig HNo HNn HUp HLeaf hp4
        go_upto_region 31 with (go_at_call 10;refine Calls.mono (hDa.out _ HBz.out) ?_;rintro e w4 ⟨rfl,hb4⟩;have HB4:Hid (Below Wo.heap.size Wo w4):=hb4;clear hb4)
        go_upto_region 32 with (go_at_call 10;refine Calls.mono (hDw.out _) ?_;rintro e w5 ⟨rfl,hw5⟩;obtain rfl:=hw5.symm)
        go_upto_region 33 with (go_at_call 10;refine Calls.mono (hD4.out _) ?_;rintro e w5 ⟨rfl,hw5⟩;obtain rfl:=hw5.symm)
        go_upto_region 34 with (go_at_call 9;refine Calls.mono (hP64.out _) ?_;rintro e w6 ⟨m,rfl,hm,hw6⟩;obtain rfl:=hw6.symm)
        go_upto_region 35 with (go_at_call 11;refine Calls.mono (HSeg.out m hm _ HB4.out) ?_;rintro e w7 ⟨rfl,hb7⟩;have HB7:Hid (Below Wo.heap.size Wo w7):=hb7;clear hb7)
        go_upto_region 36 with (go_at_call 10;refine Calls.mono (hD3.out m hm _ HB7.out) ?_;rintro e w8 ⟨rfl,hb8⟩;have HB8:Hid (Below Wo.heap.size Wo w8):=hb8;clear hb8)
        go_upto_region 37 with (go_at_call 10;refine Calls.mono (hD0.out _ HB8.out) ?_;rintro e w9 ⟨rfl,hb9⟩;have HB9:Hid (Below Wo.heap.size Wo w9):=hb9;clear hb9)
        go_upto_region 38 with fail
        clear hDa hDw hD4 hD0 hD3 hP64 HSeg
        go_wp2
        go_loopw [34,35] (fun sv iv wz=>∃t:Nat,t≤8∧iv= .int .i64 (7 - (t:Int))∧sv= .string (oneB 82++digTo d00 t)∧Hid (Below Wo.heap.size Wo wz)) (fun _ iv _=>((intOf iv)+1).toNat)
        case atStart=>exact ⟨0,by omega,rfl,by rw [digTo,ba_empty];rfl,HB9.out⟩
        case round=>
         obtain ⟨t,ht,rfl,rfl,hby⟩:=hrel
         have HBy:Hid (Below Wo.heap.size Wo wr):=hby.out
         have hsy:=hby.out.size
         clear hby
         by_cases hl8:t< 8
         ·have g1:(0:Int)≤7 - (t:Int):=by omega
          have g2:(0:Int)≤8*(7 - (t:Int)):=by omega
          have g3:8*(7 - (t:Int))≤64:=by omega
          have hcv:=one_convert wr
          have HDt:Hid (oneB 82++digTo d00 (t+1)=oneB 82++digTo d00 t++oneB (d00 / 2 ^ (8*(7 - t)))):=(show oneB 82++digTo d00 (t+1)=_ by rw [show 8*(7 - t)=56 - 8*t by omega,digTo,ba_assoc])
          have hss: ¬ 9223372036854775807< (oneB 82++digTo d00 t).size+(oneB (d00 / 2 ^ (8*(7 - t)))).size:=by rw [ByteArray.size_append,digTo_size,oneB_size,oneB_size];omega
          generalize oneB 82++digTo d00 t=su at*
          go_wp2
          refine ⟨⟨t+1,by omega,by congr 1;omega,?_,HBy.out.alloc hsy _⟩,by simp [intOf];omega⟩
          rw [HDt.out]
         ·obtain rfl:t=8:=by omega
          have HHw:Hid (Calls Qry.prog 12 #[.pointer (some ⟨b0,0,none⟩)] wr fun e w'=>e= .returned (.string (oneB 82++digTo d00 8))∧Below Wo.heap.size Wo w'):=HHel.out wr HBy.out
          generalize oneB 82++digTo d00 8=hel at*
          have HSs:Hid (∀W,Calls Qry.prog 13 #[.string st] W fun e w'=>e= .returned (.int .u64 dkb)∧w'=W):=fun W=>by rw [HUk.out];exact keepSum_any st W (by rw [hns];decide)
          have HSt:Hid (∀W,Calls Qry.prog 13 #[.string (T m)] W fun e w'=>e= .returned (.int .u64 (fnv (T m)))∧w'=W):=fun W=>keepSum_any (T m) W (HSm.out m hm)
          generalize fnv (T m)=fm at*
          generalize T m=tm at*
          clear HUk HHel HSm
          go_upto_region 43 with (go_at_call 12;refine Calls.mono HHw.out ?_;rintro e w10 ⟨rfl,hb10⟩;have HB10:Hid (Below Wo.heap.size Wo w10):=hb10;clear hb10)
          refine treed_last (HSs.out _) (HSt.out _) ?_
          intro ts h6
          go_wp2
          go_ret
          refine ⟨?_,HBr.out.trans (HB10.out.mono HBr.out.size)⟩
          exact congrArg Ending.returned h6
end Go.Proofs.YtldmcdeibiclkaaGreatDoorQ
end
