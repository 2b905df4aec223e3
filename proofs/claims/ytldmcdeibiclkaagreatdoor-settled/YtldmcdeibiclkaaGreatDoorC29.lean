/-
  Toward settled_holds: Contracts: alike; twins.
-/
import Derived.Test.YtldmcdeibiclkaaGreatDoorC28
import Derived.Test.YtldmcdeibiclkaaGreatDoorC26
set_option linter.unusedVariables false
set_option linter.unusedSimpArgs false
set_option maxRecDepth 100000
set_option maxHeartbeats 20000000
namespace Go.Proofs.YtldmcdeibiclkaaGreatDoorQ
variable {w W W3:World}{k B bt i hear m:Nat}{g g1:au}{ks:Nat->ByteArray}{K1 K2 K:aw}{T:ByteArray}{s0:Ab}{L:Let}{A:Array Value}{ws:List Wr}{kn:Nat->Bool}{l':List aj}
open Go.RowKit
section
structure qk(w:World)(b1 n1:Nat)(m1:Nat->Nat)(K1:aw)(b2 n2:Nat)(m2:Nat->Nat)(K2:aw):Prop where
 r1:aB w b1 m1 n1 K1
 f1:dK w m1 K1
 r2:aB w b2 m2 n2 K2
 f2:dK w m2 K2
theorem qk.below{b1 n1:Nat}{m1:Nat->Nat}{b2 n2:Nat}{m2:Nat->Nat}(h:qk w b1 n1 m1 K1 b2 n2 m2 K2)(hb:Below w.heap.size w W):qk W b1 n1 m1 K1 b2 n2 m2 K2:=
 ⟨h.r1.below hb,h.f1.below h.r1 hb,h.r2.below hb,h.f2.below h.r2 hb⟩
theorem Ay{b num n:Nat}{bm:Nat->Nat}(h:aB w b bm num K)(hK:dK w bm K)(hn:n<64):Calls aa.prog 11 #[.pointer (some ⟨b,0,none⟩),.int .i64 n] w λe w'=>e=.returned (.tuple #[.string (aJ K n),.int .i64 0])/\Below w.heap.size w w':=by
 have:=zY b num n bm K w h hK hn;rwa [h.text hn]at this
theorem Nz(b1 n1:Nat)(m1:Nat->Nat)(K1:aw)(b2 n2:Nat)(m2:Nat->Nat)(K2:aw)(w:World)(h:qk w b1 n1 m1 K1 b2 n2 m2 K2):
  Calls aa.prog 19 #[.pointer (some ⟨b1,0,none⟩),.pointer (some ⟨b2,0,none⟩)] w λe w'=>∃f:Bool,e=.returned (.bool f)/\((∀n,n<64->aJ K1 n=aJ K2 n)->f=true)/\Below w.heap.size w w':=by
 have H1:Hid (∀n:Nat,n<64->∀W,Below w.heap.size w W->Calls aa.prog 11 #[.pointer (some ⟨b1,0,none⟩),.int .i64 n] W λe w'=>e=.returned (.tuple #[.string (aJ K1 n),.int .i64 0])/\Below w.heap.size w w'):=λn hn W hW=>(Ay (h.below hW).r1 (h.below hW).f1 hn).mono λe w' ⟨he,hb⟩=>⟨he,bc hW hb⟩
 have H2:Hid (∀n:Nat,n<64->∀W,Below w.heap.size w W->Calls aa.prog 11 #[.pointer (some ⟨b2,0,none⟩),.int .i64 n] W λe w'=>e=.returned (.tuple #[.string (aJ K2 n),.int .i64 0])/\Below w.heap.size w w'):=λn hn W hW=>(Ay (h.below hW).r2 (h.below hW).f2 hn).mono λe w' ⟨he,hb⟩=>⟨he,bc hW hb⟩
 clear h;go_enter aa.func19,aa.ntmps19;go_wp2;go_loopw [5] (λiv wr=>∃n:Nat,n<=64/\iv=.int .i64 n/\Hid (Below w.heap.size w wr)) (λiv _=>64-(intOf iv).toNat)
 case atStart=>exact⟨0,by omega,rfl,AT _ _⟩
 case round=>
  obtain⟨n,hn,rfl,HB⟩:=hrel;by_cases hlt:n<64
  ·have n1':(n:Int)<64:=by omega
   have HN:Hid ((∀n,n<64->aJ K1 n=aJ K2 n)->aJ K1 n=aJ K2 n):=λh=>h n hlt;have S1:Hid _:=H1.out n hlt;have S2:Hid _:=H2.out n hlt;clear H1 H2;generalize aJ K1 n=x1 at*;generalize aJ K2 n=x2 at*;go_upto_region 6 with (first
    |(go_at_call_of 11 (Value.pointer (some ⟨b1,0,none⟩));refine By (S1.out _ HB.out) ?_;rintro e w1 ⟨rfl,hb1⟩;have HB1:Hid (Below w.heap.size w w1):=hb1;clear hb1)
    |(go_at_call_of 11 (Value.pointer (some ⟨b2,0,none⟩));refine By (S2.out _ HB1.out) ?_;rintro e w2 ⟨rfl,hb2⟩;have HB2:Hid (Below w.heap.size w w2):=hb2;clear hb2))
   go_wp2
   ·exact⟨⟨n+1,by omega,by go_num,HB2.out⟩,by simp[intOf];omega⟩
   ·rename_i hne;go_ret;exact⟨false,rfl,λh=>absurd (by rw[HN.out h]) hne,HB2.out⟩
  ·go_wp2;go_ret;exact⟨true,rfl,λ_=>rfl,HB.out⟩
structure jB(w:World)(p5 p6 p7 p8:Nat)(K1 K2:aw)(W:World):Prop where
 x5:W.heap[p5]?=some (.cells (bw (bW K1 0 0)) 88)
 x6:W.heap[p6]?=some (.cells (bM (aJ K1)) 89)
 x7:W.heap[p7]?=some (.cells (bw (bW K2 0 0)) 88)
 x8:W.heap[p8]?=some (.cells (bM (aJ K2)) 89)
 ba:Below w.heap.size w W
theorem jB.drewN{p5 p6 p7 p8:Nat}(h:jB w p5 p6 p7 p8 K1 K2 W)(q:Nat):jB w p5 p6 p7 p8 K1 K2 (W.drewN q):=⟨h.x5,h.x6,h.x7,h.x8,Xz h.ba q⟩
def UO(w:World)(K1 K2:aw)(e:Ending)(w':World):Prop:=∃f:Bool,e=.returned (.bool f)/\(f=false->kl K1 K2)/\Below w.heap.size w w'
theorem o9{l n:Nat}(hl:l<4)(hn:n<4 ^ l)(h64:n<64):bW K 0 0 (l*64+n)=aS K l n:=by
 unfold bW;rw[show (l*64+n) / 64=l by omega,show (l*64+n)%64=n by omega,AS ⟨hn,.inl (XN _)⟩]
abbrev js(w:World):World:=(w.alloc (.cells (bw λ_=>0) 88)).alloc (.cells (bM λ_=>⟨#[]⟩) 89)
structure I6(w:World)(F:Nat->Int)(G:Nat->ByteArray):Prop where
 f1:pq 256 (js w) w.heap.size 0 (bw F)
 f2:pq 64 ((js w).setCells w.heap.size 0 (bw F).toList) (w.heap.size+1) 0 (bM G)
 h1:(((js w).setCells w.heap.size 0 (bw F).toList).setCells (w.heap.size+1) 0 (bM G).toList).heap[w.heap.size]?=some (.cells (bw F) 88)
 h2:(((js w).setCells w.heap.size 0 (bw F).toList).setCells (w.heap.size+1) 0 (bM G).toList).heap[w.heap.size+1]?=some (.cells (bM G) 89)
 ba:Below w.heap.size w (((js w).setCells w.heap.size 0 (bw F).toList).setCells (w.heap.size+1) 0 (bM G).toList)
theorem EO(w:World)(F:Nat->Int)(G:Nat->ByteArray):I6 w F G:=by
 have a0:(js w).heap[w.heap.size]?=some (.cells (bw λ_=>0) 88):=by
  rw[OF _ _ _ (by simp)];exact BY w _
 have a1:(js w).heap[w.heap.size+1]?=some (.cells (bM λ_=>⟨#[]⟩) 89):=kA w _ _;have b0:=pK a0 (bw F) (by rw[ki,ki]);have f0:Fr (λq=>q=w.heap.size) (js w) ((js w).setCells w.heap.size 0 (bw F).toList):=Fr.setCells (X:=λq=>q=w.heap.size) (Fr.refl _ _) (Or.inr rfl) _ _;have b1:=f0.heap a1 (by show ¬w.heap.size+1=w.heap.size;omega);have f1:Fr (λq=>q=w.heap.size+1) ((js w).setCells w.heap.size 0 (bw F).toList) (((js w).setCells w.heap.size 0 (bw F).toList).setCells (w.heap.size+1) 0 (bM G).toList):=Fr.setCells (X:=λq=>q=w.heap.size+1) (Fr.refl _ _) (Or.inr rfl) _ _;exact⟨⟨uQ a0 (ki _),ki _,DH _⟩,⟨uQ b1 (jF _),jF _,H4 _⟩,f1.heap b0 (by show ¬w.heap.size=w.heap.size+1;omega),pK b1 (bM G) (by rw[jF,jF]),qN _ (qN _ (((AT _ _).alloc (iR _) _).alloc (by simp) _) (iR _) _) (by omega) _⟩
attribute [local go_sem ↓] Aj Fc Yn Yo
attribute [local go_sem] Hu yb
theorem P8(b1 n1:Nat)(m1:Nat->Nat)(K1:aw)(b2 n2:Nat)(m2:Nat->Nat)(K2:aw)(w:World)(h:qk w b1 n1 m1 K1 b2 n2 m2 K2):
  Calls aa.prog 17 #[.pointer (some ⟨b1,0,none⟩),.pointer (some ⟨b2,0,none⟩)] w λe w'=>UO w K1 K2 e w':=by
 have T1:Hid (Calls aa.prog 33 #[.pointer (some ⟨b1,0,none⟩)] w λe w'=>e=.returned (.tuple #[.agg (bw (bW K1 0 0)),.agg (bM (aJ K1))])/\Below w.heap.size w w'):=Cp b1 n1 m1 K1 w h.r1 h.f1;have T2:Hid (∀W,Below w.heap.size w W->Calls aa.prog 33 #[.pointer (some ⟨b2,0,none⟩)] W λe w'=>e=.returned (.tuple #[.agg (bw (bW K2 0 0)),.agg (bM (aJ K2))])/\Below W.heap.size W w'):=λW hW=>Cp b2 n2 m2 K2 W (h.below hW).r2 (h.below hW).f2;have hz:=aa.D8;have hzt:=aa.FF;have s1:=ki;have s2:=jF;clear h;go_enter aa.func17,aa.ntmps17;go_upto_region 2 with (go_at_call 33;refine By T1.out ?_;rintro e w1 ⟨rfl,hb1⟩;have HS1:Hid _:=EO w1 (bW K1 0 0) (aJ K1);have g1:=HS1.out.f1;have g2:=HS1.out.f2;have HB1:Hid (Below w.heap.size w w1):=hb1;clear hb1)
 obtain⟨W3,hW3⟩: ∃W,W=(((js w1).setCells w1.heap.size 0 (bw (bW K1 0 0)).toList).setCells (w1.heap.size+1) 0 (bM (aJ K1)).toList):=⟨_,rfl⟩
 have e3:W3=(((w1.alloc (.cells (bw λ_=>0) 88)).alloc (.cells (bM λ_=>⟨#[]⟩) 89)).setCells w1.heap.size 0 (bw (bW K1 0 0)).toList).setCells (w1.heap.size+1) 0 (bM (aJ K1)).toList:=hW3;rw[<-e3];have HX:Hid (W3.heap[w1.heap.size]?=some (.cells (bw (bW K1 0 0)) 88)/\W3.heap[w1.heap.size+1]?=some (.cells (bM (aJ K1)) 89)/\Below w.heap.size w W3):=(by rw[hW3];exact⟨HS1.out.h1,HS1.out.h2,bc HB1.out HS1.out.ba⟩)
 clear e3 hW3 g1 g2 HS1 T1;have T2':Hid _:=T2.out W3 HX.out.2.2;go_upto_region 3 with (go_at_call 33;refine By T2'.out ?_;rintro e w4 ⟨rfl,hb4⟩;have HS4:Hid _:=EO w4 (bW K2 0 0) (aJ K2);have g1:=HS4.out.f1;have g2:=HS4.out.f2;have HB4:Hid (Below W3.heap.size W3 w4):=hb4;clear hb4)
 obtain⟨W6,hW6⟩: ∃W,W=(((js w4).setCells w4.heap.size 0 (bw (bW K2 0 0)).toList).setCells (w4.heap.size+1) 0 (bM (aJ K2)).toList):=⟨_,rfl⟩
 have e6:W6=(((w4.alloc (.cells (bw λ_=>0) 88)).alloc (.cells (bM λ_=>⟨#[]⟩) 89)).setCells w4.heap.size 0 (bw (bW K2 0 0)).toList).setCells (w4.heap.size+1) 0 (bM (aJ K2)).toList:=hW6;rw[<-e6];have HJ0:Hid (jB w w1.heap.size (w1.heap.size+1) w4.heap.size (w4.heap.size+1) K1 K2 W6):=(by
  have hb:Below W3.heap.size W3 W6:=by rw[hW6];exact bc HB4.out HS4.out.ba
  refine⟨aQ HX.out.1 hb,aQ HX.out.2.1 hb,?_,?_,bc HX.out.2.2 hb⟩
  ·rw[hW6];exact HS4.out.h1
  ·rw[hW6];exact HS4.out.h2)
 clear e6 hW6 g1 g2 HS4 HB4 HX T2 T2' HB1 hz hzt s1 s2;generalize w1.heap.size=p5 at*;generalize w4.heap.size=p7 at*;go_wp2;go_loopw [9] (λiv wr=>∃n:Nat,n<=64/\iv=.int .i64 n/\Hid (jB w p5 (p5+1) p7 (p7+1) K1 K2 wr/\∀k,k<n->aJ K1 k≠aJ K2 k->dP K1 K2 3 k)) (λiv _=>64-(intOf iv).toNat)
 case atStart=>exact⟨0,by omega,rfl,HJ0.out,λk hk=>by omega⟩
 case round=>
  obtain⟨n,hn,rfl,HJ⟩:=hrel;clear HJ0;by_cases hlt:n<64
  ·have n1':(n:Int)<64:=by omega
   have n0:(0:Int)<=(n:Int):=by omega
   have q1:wr.cell? ⟨p5+1,n,none⟩=some (.string (aJ K1 n)):=by rw[(al HJ.out.1.x6).1,xX hlt]
   have q2:wr.cell? ⟨p7+1,n,none⟩=some (.string (aJ K2 n)):=by rw[(al HJ.out.1.x8).1,xX hlt]
   have q3:wr.cell? ⟨p5,192+n,none⟩=some (.int .u64 (aS K1 3 n)):=by rw[(al HJ.out.1.x5).1,l9 (by omega),show 192+n=3*64+n by omega,o9 (by omega) hlt hlt]
   have q4:wr.cell? ⟨p7,192+n,none⟩=some (.int .u64 (aS K2 3 n)):=by rw[(al HJ.out.1.x7).1,l9 (by omega),show 192+n=3*64+n by omega,o9 (by omega) hlt hlt]
   have HN:Hid (∀q,¬(aJ K1 n≠aJ K2 n/\aS K1 3 n=aS K2 3 n)->jB w p5 (p5+1) p7 (p7+1) K1 K2 (wr.drewN q)/\∀k,k<n+1->aJ K1 k≠aJ K2 k->dP K1 K2 3 k):=λq hno=>⟨HJ.out.1.drewN q,λk hk hne=>by
    by_cases e:k=n
    ·subst e;exact λe=>hno ⟨hne,e⟩
    ·exact HJ.out.2 k (by omega) hne⟩
   have HBe:Hid (Below w.heap.size w wr):=HJ.out.1.ba;clear HJ;generalize aJ K1 n=x1 at*;generalize aJ K2 n=x2 at*;generalize aS K1 3 n=d1 at*;generalize aS K2 3 n=d2 at*;by_cases hx:x1.toList=x2.toList
   ·have hxb:(x1.toList==x2.toList)=true:=by simpa using hx
    have hx':x1=x2:=Yp (Array.ext' (by rw[<-Go.Lib.toList_data,<-Go.Lib.toList_data];exact hx));go_wp2;go_quiet (fail);go_wp2;exact⟨⟨n+1,by omega,by go_num,HN.out _ (λh=>h.1 hx')⟩,by simp[intOf];omega⟩
   ·have hxb:(x1.toList==x2.toList)=false:=by simpa using hx
    by_cases hd:d1=d2
    ·have hde:decide (d1=d2)=true:=by simpa using hd
     go_wp2;go_quiet (fail);go_wp2;go_ret;exact⟨true,rfl,(λh=>by cases h),Xz HBe.out _⟩
    ·have hde:decide (d1=d2)=false:=by simpa using hd
     go_wp2;go_quiet (fail);go_wp2;exact⟨⟨n+1,by omega,by go_num,HN.out _ (λh=>hd h.2)⟩,by simp[intOf];omega⟩
  ·have HLf:Hid (∀k,k<64->aJ K1 k≠aJ K2 k->dP K1 K2 3 k):=(λk hk=>HJ.out.2 k (by omega))
   have HJ1:Hid (jB w p5 (p5+1) p7 (p7+1) K1 K2 wr):=HJ.out.1;have hlt': ¬(n:Int)<64:=by omega
   clear HJ hn hlt;generalize n=n64 at*;go_wp2;go_loopw [10,11] (λwv lv wr=>∃l:Nat,l<=3/\wv=.int .i64 (4 ^ l:Nat)/\lv=.int .i64 l/\Hid (jB w p5 (p5+1) p7 (p7+1) K1 K2 wr/\∀v n,v<l->n<4 ^ v->(∃i,i<4/\dP K1 K2 (v+1) (n*4+i))->dP K1 K2 v n)) (λ_ lv _=>3-(intOf lv).toNat)
   case atStart=>exact⟨0,by omega,rfl,rfl,HJ1.out,λv n hv=>by omega⟩
   case round=>
    obtain⟨l,hl,rfl,rfl,HL⟩:=hrel;clear HJ1;by_cases hl3:l<3
    ·have l3:(l:Int)<3:=by omega
     have l0:(0:Int)<=(l:Int):=by omega
     have l4:(l:Int)+1<4:=by omega
     have l4':(l:Int)<4:=by omega
     have hp:=(ly (show l<=3 by omega)).1;have hp2:=(ly (show l+1<=3 by omega)).1;have hps:4 ^ (l+1)=4 ^ l*4:=XH ..;obtain⟨wd,hwd⟩: ∃wd:Nat,4 ^ l=wd:=⟨_,rfl⟩
     rw[hwd]at hp hps ⊢;have HWd:Hid (4 ^ l=wd):=hwd;clear hwd;go_wp2;go_loopw [12] (λnv wr=>∃n:Nat,n<=wd/\nv=.int .i64 n/\Hid (jB w p5 (p5+1) p7 (p7+1) K1 K2 wr/\∀k,k<n->(∃i,i<4/\dP K1 K2 (l+1) (k*4+i))->dP K1 K2 l k)) (λnv _=>wd-(intOf nv).toNat)
     case atStart=>exact⟨0,by omega,rfl,HL.out.1,λk hk=>by omega⟩
     case round=>
      obtain⟨n,hn,rfl,HN⟩:=hrel;by_cases hnl:n<wd
      ·have a1:(n:Int)<(wd:Int):=by omega
       have a0:(0:Int)<=(n:Int):=by omega
       have n64':(n:Int)<64:=by omega
       go_wp2;go_loopw [13,14] (λov iv wr=>∃(i:Nat) (f:Bool),i<=4/\ov=.bool f/\iv=.int .i64 i/\Hid (jB w p5 (p5+1) p7 (p7+1) K1 K2 wr/\(f=true↔∃j,j<i/\dP K1 K2 (l+1) (n*4+j)))) (λ_ iv _=>4-(intOf iv).toNat)
       case atStart=>exact⟨0,false,by omega,rfl,rfl,HN.out.1,by simp⟩
       case round=>
        obtain⟨i,f,hi,rfl,rfl,HI⟩:=hrel;by_cases hi4:i<4
        ·have b1:(i:Int)<4:=by omega
         have b0:(0:Int)<=(i:Int):=by omega
         have q3:wr.cell? ⟨p5,(l+1)*64+(4*n+i),none⟩=some (.int .u64 (aS K1 (l+1) (n*4+i))):=by rw[(al HI.out.1.x5).1,l9 (by omega),show 4*n+i=n*4+i by omega,o9 (by omega) (by omega) (by omega)]
         have q4:wr.cell? ⟨p7,(l+1)*64+(4*n+i),none⟩=some (.int .u64 (aS K2 (l+1) (n*4+i))):=by rw[(al HI.out.1.x7).1,l9 (by omega),show 4*n+i=n*4+i by omega,o9 (by omega) (by omega) (by omega)]
         have HG:Hid (∀q (f':Bool),(f'=true↔(f=true\/¬aS K1 (l+1) (n*4+i)=aS K2 (l+1) (n*4+i)))->jB w p5 (p5+1) p7 (p7+1) K1 K2 (wr.drewN q)/\(f'=true↔∃j,j<i+1/\dP K1 K2 (l+1) (n*4+j))):=λq f' hf=>⟨HI.out.1.drewN q,by
          rw[hf,HI.out.2];constructor
          ·rintro (⟨j,hj,hd⟩|hd)
           ·exact⟨j,by omega,hd⟩
           ·exact⟨i,by omega,hd⟩
          ·rintro⟨j,hj,hd⟩;by_cases e:j=i
           ·subst e;exact .inr hd
           ·exact .inl ⟨j,by omega,hd⟩⟩
         clear HI;generalize aS K1 (l+1) (n*4+i)=d1 at*;generalize aS K2 (l+1) (n*4+i)=d2 at*;cases f with
         |true=>
          go_wp2;go_quiet (fail);go_wp2;exact⟨⟨i+1,true,by omega,rfl,by go_num,HG.out _ true (by simp)⟩,by simp[intOf];omega⟩
         |false=>
          by_cases hd:d1=d2
          ·have hde:decide (d1=d2)=true:=by simpa using hd
           go_wp2;go_quiet (fail);go_wp2;exact⟨⟨i+1,false,by omega,by simp[hd],by go_num,HG.out _ false (by simp[hd])⟩,by simp[intOf];omega⟩
          ·have hde:decide (d1=d2)=false:=by simpa using hd
           go_wp2;go_quiet (fail);go_wp2;exact⟨⟨i+1,true,by omega,by simp[hd],by go_num,HG.out _ true (by simp[hd])⟩,by simp[intOf];omega⟩
        ·obtain rfl:i=4:=by omega
         have q5:wr.cell? ⟨p5,l*64+n,none⟩=some (.int .u64 (aS K1 l n)):=by rw[(al HI.out.1.x5).1,l9 (by omega),o9 (by omega) (by rw[HWd.out];exact hnl) (by omega)]
         have q6:wr.cell? ⟨p7,l*64+n,none⟩=some (.int .u64 (aS K2 l n)):=by rw[(al HI.out.1.x7).1,l9 (by omega),o9 (by omega) (by rw[HWd.out];exact hnl) (by omega)]
         have HG:Hid (∀q,(f=false\/¬aS K1 l n=aS K2 l n)->jB w p5 (p5+1) p7 (p7+1) K1 K2 (wr.drewN q)/\∀k,k<n+1->(∃i,i<4/\dP K1 K2 (l+1) (k*4+i))->dP K1 K2 l k):=λq hf=>⟨HI.out.1.drewN q,λk hk hx=>by
          by_cases e:k=n
          ·subst e;rcases hf with hf|hf
           ·have:=HI.out.2.2 hx;rw[hf]at this;cases this
           ·exact hf
          ·exact HN.out.2 k (by omega) hx⟩
         have HBe:Hid (Below w.heap.size w wr):=HI.out.1.ba;clear HI;generalize aS K1 l n=d1 at*;generalize aS K2 l n=d2 at*;cases f with
         |false=>
          go_wp2;go_quiet (fail);go_wp2;exact⟨⟨n+1,by omega,by go_num,HG.out _ (.inl (by simp))⟩,by simp[intOf];omega⟩
         |true=>
          by_cases hd:d1=d2
          ·have hde:decide (d1=d2)=true:=by simpa using hd
           go_wp2;go_quiet (fail);go_wp2;go_ret;exact⟨true,rfl,(λh=>by cases h),Xz HBe.out _⟩
          ·have hde:decide (d1=d2)=false:=by simpa using hd
           go_wp2;go_quiet (fail);go_wp2;exact⟨⟨n+1,by omega,by go_num,HG.out _ (.inr hd)⟩,by simp[intOf];omega⟩
      ·have hnw:n=wd:=by omega
       have HLn:Hid (jB w p5 (p5+1) p7 (p7+1) K1 K2 wr/\∀v n,v<l+1->n<4 ^ v->(∃i,i<4/\dP K1 K2 (v+1) (n*4+i))->dP K1 K2 v n):=⟨HN.out.1,λv k hv hk hx=>by
        by_cases e:v=l
        ·subst e;exact HN.out.2 k (by rw[hnw,<-HWd.out];exact hk) hx
        ·exact HL.out.2 v k (by omega) hk hx⟩
       have a1: ¬(n:Int)<(wd:Int):=by omega
       have HW4:Hid (4*(wd:Int)=((4 ^ (l+1):Nat):Int)):=(show 4*(wd:Int)=((4 ^ (l+1):Nat):Int) by rw[hps];omega)
       have w64:(wd:Int)<=64:=by omega
       clear HN HL hnw hps;go_wp2;refine⟨⟨l+1,by omega,?_,by go_num,HLn.out⟩,by simp[intOf];omega⟩;rw[HW4.out]
    ·have hl3': ¬(l:Int)<3:=by omega
     have HF:Hid (kl K1 K2):=⟨HLf.out,λv n hv hn hx=>HL.out.2 v n (by omega) hn hx⟩
     have HBe:Hid (Below w.heap.size w wr):=HL.out.1.ba;clear HL HLf;go_wp2;go_ret;exact⟨false,rfl,λ_=>HF.out,HBe.out⟩
end
section
attribute [local go_sem ↓] IL Yn Yo
attribute [local go_sem] Vu AV Oi M0
theorem aP.still{w1:World}(hn:aP B w bt g)(h:Fr (λ_=>False) w w1):aP B w1 bt g:=
 hn.fr h ⟨id,id,λ_ _=>id,λ_ _ _ _=>id,λ_ _ _=>id,λ_ _ _=>id,λ_ _ _=>id⟩
def vo(g:au)(bt q:Nat):Prop:=q=bt\/∃j,j<g.nr/\iQ (g.bm j) q
structure mR(B:Nat)(w:World)(bt:Nat)(g:au)(ks:Nat->ByteArray)(hear:Nat)(s0:Ab)(m i k n:Nat)(oL:Option Let)(g1:au)(W:World):Prop where
 dy:aP B W bt g1
 inv:bz ks g1
 nr:g1.nr=g.nr
 ws:g1.ws=g.ws
 hi:i<g1.nr
 hk:k<g1.nr
 letter:∀L,oL=some L->l7 (g1.K k) L/\nq L=n/\m+n=hear+1
 ab:kE ks m g1.ab i k oL=s0
 ba:Below B w W
 bm:g1.bm=g.bm
 fr:Fr (vo g bt) w W
theorem D6(h:0<T.size):T.toList.isEmpty=false:=by
 rw[Go.Lib.toList_data,List.isEmpty_eq_false_iff];intro e;have:T.data.toList.length=0:=by rw[e];rfl
 rw[XC]at this;have h':0<T.data.size:=h;omega
def yN:Value->Value->Nat
 |.string s,.int _ n=>if s.size=0 then 0 else 8-n.toNat
 |_,_=>0
theorem mR.next{w4 w5:World}{n n':Nat}(h:mR B w bt g ks hear s0 (m+1) i k n (some L) g1 W)(h3:Fr (λ_=>False) W W3)(hR:aB w4 (g1.b i) (g1.bm i) i (ir (g1.K i) L))(h4:Fr (iQ (g1.bm i)) W3 w4)(h5:Fr (λq=>q=bt) w4 w5)(hT:w5.heap[bt]?=some (.cells A 42))(hA:gz g1.A A i 3 3 (cG ks L) (g1.kn i) (g1.go i) (g1.kn k) (g1.go k))(hn:∀L',cQ (g1.K i) L=some L'->n'=n+1):mR B w bt g ks hear s0 m k i n' (cQ (g1.K i) L) (g1.eW ks i k L A) w5:=by
 obtain⟨hL,hs,hm⟩:=h.letter L rfl;have hN3:=h.dy.still h3;have hok:=qM h.dy.bj h.inv h.hk hL;obtain⟨hN5,hB5⟩:=hN3.eW (ks:=ks) (k:=k) (L:=L) h.hi (by have:=h.inv.bA;have:=h.hi;omega) h4 h5 hR hT hA;refine⟨hN5,h.inv.eW A h.hi h.hk (h.dy.bj k h.hk).kB hL hok,h.nr,h.ws,h.hk,h.hi,λL' hL'=>?_,?_,h.ba.trans ((h3.toBelow (λ_ e=>e.elim) (by have:=h.dy.hB.1;have:=(Array.getElem?_eq_some_iff.1 h.dy.hT).1;omega)).trans hB5),h.bm,((h.fr.trans (h3.weaken λ_ e=>e.elim)).trans (h4.weaken λq hq=>.inr ⟨i,h.nr▸h.hi,h.bm▸hq⟩)).trans (h5.weaken λq hq=>.inl hq)⟩
 ·obtain⟨h1,h2⟩:=TL hok hL';rw[hn L' hL'];refine⟨?_,by rw[h2,hs],by omega⟩;simpa[au.eW] using h1
 ·rw[<-h.ab];rfl
structure xS(B:Nat)(w:World)(bt:Nat)(g:au)(ks:Nat->ByteArray)(hear:Nat)(s0:Ab)(m i k n p:Nat)(L:Let)(g1:au)(W:World):Prop where
 told:W.heap[p]?=some (.cells (b3 (cG ks L)) 82)
 dy:W.heap[bt]?=some (.cells g1.A 42)
 fin:∀w5 A n',w5.heap[bt]?=some (.cells A 42)->gz g1.A A i 3 3 (cG ks L) (g1.kn i) (g1.go i) (g1.kn k) (g1.go k)->Fr (λq=>q=bt) W w5->(∀L',cQ (g1.K i) L=some L'->n'=n+1)->mR B w bt g ks hear s0 m k i n' (cQ (g1.K i) L) (g1.eW ks i k L A) w5
theorem Qr{n p:Nat}(h:mR B w bt g ks hear s0 (m+1) i k n (some L) g1 W)(hT:L.bytes=T)(h3:Fr (λ_=>False) W W3)(hp:W3.heap[p]?=some (.cells (b3 (cG ks L)) 82)):
  Calls aa.prog 18 #[.pointer (some ⟨g1.b i,0,none⟩),.string T] W3 λe w4=>e=.returned (.tuple #[.string (iU (cQ (g1.K i) L)),.int .i64 0])/\xS B w bt g ks hear s0 m i k n p L g1 w4:=by
 obtain⟨hL,_,_⟩:=h.letter L rfl;have hN3:=h.dy.still h3;rw[<-hT];refine (ND (g1.b i) i (g1.bm i) (g1.K i) L W3 (IY hN3.bj h.inv h.hi h.hk hL)).mono ?_;rintro e w4 ⟨rfl,hr,hf⟩;have hf':Fr (iQ (g1.bm i)) W3 w4:=hf.weaken λq hq=>hq.1;have hX:∀{q:Nat} {C:Array Value} {t:TypeId} {fr:Nat×Nat},W3.heap[q]?=some (.cells C t fr)->w4.heap[q]?=some (.cells C t fr):=λ{q C t fr} hq=>hf'.heap hq λ⟨n,hn,e⟩=>by
  obtain⟨es,clock,hm⟩:=hN3.map h.hi hn;rw[e,hm]at hq;cases hq
 exact⟨rfl,hX hp,hX hN3.hT,λw5 A n' h1 h2 h4 h5=>h.next h3 hr hf' h4 h1 h2 h5⟩
def ME(B bt:Nat)(g:au)(ks:Nat->ByteArray)(s0:Ab)(w:World)(e:Ending)(w':World):Prop:=
 ∃(n:Nat) (g':au),e=.returned (.tuple #[.int .i64 n,.bool true])/\(Below B w w'/\Fr (vo g bt) w w')/\g'.nr=g.nr/\g'.ws=g.ws/\aP B w' bt g'/\bz ks g'/\g'.ab=s0
theorem CP(B bt i k hear:Nat)(g:au)(ks:Nat->ByteArray)(w:World)(hN:aP B w bt g)(hI:bz ks g)(hK:dY w ks)(hB0:0<B)(hi:i<g.nr)(hk:k<g.nr)(hh:hear<=1000):
  Calls aa.prog 15 #[.pointer (some ⟨bt,0,none⟩),.int .i64 i,.int .i64 k,.int .i64 hear] w λe w'=>ME B bt g ks (kE ks hear g.ab i k (some (.root (aS (g.K k) 0 0)))) w e w':=by
 have HHello:Hid (Calls aa.prog 12 #[.pointer (some ⟨g.b k,0,none⟩)] w λe w'=>e=.returned (.string (iU (some (.root (aS (g.K k) 0 0)))))/\Below w.heap.size w w'):=by
  have hr:=hN.bj k hk
  have:=Q9 (g.b k) k (g.bm k) (g.K k) w hr (nU hN.bj hI hk);rw[hr.uV (by omega) (by decide)]at this;exact this
 have hnr4:=hI.bA;have t0:w.cell? ⟨bt,0,none⟩=some (.slice (some ⟨g.br,0,none⟩) g.nr g.bS):=by rw[(al hN.hT).1];exact hN.h0
 have t1:w.cell? ⟨g.br,k,none⟩=some (.pointer (some ⟨g.b k,0,none⟩)):=by rw[(al hN.hR).1];exact hN.fh k hk
 have aV:(k:Int)<(g.nr:Int):=by omega
 have hk0:(0:Int)<=(k:Int):=by omega
 have HKA:Hid (dY w ks):=hK;have hBw:B<=w.heap.size:=by have:=hN.hB.1;have:=(Array.getElem?_eq_some_iff.1 hN.hT).1;omega
 have HJ0:Hid (∀W,Below w.heap.size w W->mR B w bt g ks hear (kE ks hear g.ab i k (some (.root (aS (g.K k) 0 0)))) hear i k 1 (some (.root (aS (g.K k) 0 0))) g W):=λW hW=>
  ⟨hN.still (Fr.iY hW),hI,rfl,rfl,hi,hk,λL hL=>by cases hL;exact⟨Dd _ _ _,rfl,rfl⟩,rfl,hW.mono hBw,rfl,Fr.iY hW⟩
 clear hN hI hK;generalize kE ks hear g.ab i k (some (.root (aS (g.K k) 0 0)))=s0 at*;generalize hL0:some (Let.root (aS (g.K k) 0 0))=oL0 at*;clear hL0;go_enter aa.func15,aa.ntmps15;go_wp2_with (go_at_call 12;refine By HHello.out ?_;rintro e w1 ⟨rfl,hb1⟩;have HJ1:Hid _:=HJ0.out _ hb1;clear hb1)
 clear HJ0 HHello t0 t1;go_loopw [10,11,12,13] (λlv tv fv nv wr=>∃(m ti fi n:Nat) (oL:Option Let) (g1:au),lv=.string (iU oL)/\tv=.int .i64 ti/\fv=.int .i64 fi/\nv=.int .i64 n/\1<=n/\n<=7/\Hid (mR B w bt g ks hear s0 m ti fi n oL g1 wr)) (λlv _ _ nv _=>yN lv nv)
 case atStart=>exact⟨_,_,_,1,_,_,rfl,rfl,rfl,rfl,by omega,by omega,HJ1.out⟩
 case round=>
  obtain⟨m,ti,fi,n,oL,g1,rfl,rfl,rfl,rfl,hn1,hn7,HJ⟩:=hrel;clear HJ1;cases oL with
  |none=>
   have HE:Hid (∃n':Nat,∃g':au,(n':Int)=n/\(Below B w wr/\Fr (vo g bt) w wr)/\g'.nr=g.nr/\g'.ws=g.ws/\aP B wr bt g'/\bz ks g'/\g'.ab=s0):=⟨n,g1,rfl,⟨HJ.out.ba,HJ.out.fr⟩,HJ.out.nr,HJ.out.ws,HJ.out.dy,HJ.out.inv,by rw[<-HJ.out.ab,Ai]⟩
   have eo:iU none=⟨#[]⟩:=rfl;rw[eo];clear HJ;by_cases hle:(n:Int)<=(hear:Int)
   all_goals
    go_wp2;go_ret2;obtain⟨n',g',e,h1,h2,h3,h4,h5,h6⟩:=HE.out;exact⟨n,g',rfl,h1,h2,h3,h4,h5,h6⟩
  |some L=>
   obtain⟨hL,hst,hmn⟩:=HJ.out.letter L rfl;have hok:=qM HJ.out.dy.bj HJ.out.inv HJ.out.hk hL;have hle6:=UK hok;obtain⟨T,hT⟩: ∃T,L.bytes=T:=⟨_,rfl⟩
   have eo:iU (some L)=T:=hT;rw[eo];obtain⟨hT0,hTb⟩:=DX hok hT;have hTe:=D6 hT0;have hTi:(0:Int)<(T.size:Int):=by omega
   cases m with
   |zero=>
    have hlt: ¬(n:Int)<=(hear:Int):=by omega
    go_wp2;go_ret2;exact⟨n,g1,rfl,⟨HJ.out.ba,HJ.out.fr⟩,HJ.out.nr,HJ.out.ws,HJ.out.dy,HJ.out.inv,HJ.out.ab⟩
   |succ m=>
    have hle:(n:Int)<=(hear:Int):=by omega
    have hb0:(T[0]'hT0).toNat=j8 L:=hTb hT0;have hi4:ti<4:=by have:=HJ.out.inv.bA;have:=HJ.out.hi;omega
    have hk4:fi<4:=by have:=HJ.out.inv.bA;have:=HJ.out.hk;omega
    have HKr:Hid (dY wr ks):=HKA.out.below hB0 HJ.out.ba;have hbt:bt<wr.heap.size:=(Array.getElem?_eq_some_iff.1 HJ.out.dy.hT).1;have hbr:g1.br<wr.heap.size:=(Array.getElem?_eq_some_iff.1 HJ.out.dy.hR).1;have hwr0:0<wr.heap.size:=by omega
    obtain⟨W1,hW1⟩: ∃W,W=wr.alloc (.cells (b3 λ_=>false) 82):=⟨_,rfl⟩
    have hB1:Below wr.heap.size wr W1:=by rw[hW1];exact (AT _ _).alloc (iR _) _
    have hp1:W1.heap[wr.heap.size]?=some (.cells (b3 λ_=>false) 82):=by rw[hW1];exact BY wr _
    have HTl:Hid ((j8 L=83\/j8 L=84)->Calls aa.prog 30 #[.pointer (some ⟨bt,0,none⟩),.string T,.int .i64 fi] W1 λe w2=>e=.returned (.tuple #[.agg (b3 (cG ks L)),.bool true])/\Below wr.heap.size wr w2/\w2.heap[wr.heap.size]?=some (.cells (b3 λ_=>false) 82)):=λhb=>by
     cases L with
     |root d=>rcases hb with hb|hb<;>cases hb
     |nodes lev sg=>rcases hb with hb|hb<;>cases hb
     |aK kind sg=>
      obtain⟨_,ns,h1,h2,h3,rfl⟩:=hL;have hN1:=HJ.out.dy.still (Fr.iY hB1);have hr1:=hN1.bj fi HJ.out.hk;have hm:(cE (g1.K fi) ns).map (·.1)=ns:=by rw[cE,Yd];show ns.map (λn=>n)=ns;rw[List.map_id']
      refine (K4 B bt fi kind g1 ks ns W1 hN1 (HKr.out.below (B:=wr.heap.size) hwr0 hB1) hB0 HJ.out.hk HJ.out.inv.bA.2 (nU hN1.bj HJ.out.inv HJ.out.hk) h1 h2 h3 T (by rw[hr1.aK h2];exact hT) (by rw[<-hT];exact Gh HJ.out.dy.bj HJ.out.inv HJ.out.hk ⟨by assumption,ns,h1,h2,h3,rfl⟩)).mono ?_;rintro e w2 ⟨rfl,hb2⟩;refine⟨?_,bc hB1 hb2,aQ hp1 hb2⟩;rw[show cG ks (.aK kind (cE (g1.K fi) ns))=λk=>decide (ay (ks k)∈ns) from funext λk=>by simp only[cG,hm]]
    subst hW1;have HH:Hid (∀W3,Fr (λ_=>False) wr W3->W3.heap[wr.heap.size]?=some (.cells (b3 (cG ks L)) 82)->Calls aa.prog 18 #[.pointer (some ⟨g1.b ti,0,none⟩),.string T] W3 λe w4=>e=.returned (.tuple #[.string (iU (cQ (g1.K ti) L)),.int .i64 0])/\xS B w bt g ks hear s0 m ti fi n wr.heap.size L g1 w4):=λW3 h3 hp=>Qr HJ.out hT h3 hp;have HLn:Hid (∀w4,w4.heap[bt]?=some (.cells g1.A 42)->Calls aa.prog 31 #[.pointer (some ⟨bt,0,none⟩),.int .i64 ti,.int .i64 fi,.agg (b3 (cG ks L)),.agg (gL (g1.kn fi)),.agg (gL (g1.go fi))] w4.drew λe w5=>e=.returned (.tuple #[])/\∃A',w5.heap[bt]?=some (.cells A' 42)/\gz g1.A A' ti 3 3 (cG ks L) (g1.kn ti) (g1.go ti) (g1.kn fi) (g1.go fi)/\Fr (λq=>q=bt) w4 w5):=λw4 h4=>by
     refine (WI bt ti fi g1.A (cG ks L) (g1.kn ti) (g1.go ti) (g1.kn fi) (g1.go fi) w4.drew h4 HJ.out.dy.hA hi4 (λk j hk hj=>HJ.out.dy.aV ti k j hi4 hk hj) (λk j hk hj=>HJ.out.dy.hgo ti k j hi4 hk hj)).mono ?_;rintro e w5 ⟨rfl,A',h1,h2,h3⟩;exact⟨rfl,A',h1,h2,(Fr.refl _ w4).drew.trans h3⟩
    have HR3:Hid (∀w4,w4.heap[bt]?=some (.cells g1.A 42)->((jn w4 bt (2+fi*240)).toArray=gL (g1.kn fi)/\nG w4 bt (2+fi*240))/\((jn w4 bt (962+fi*240)).toArray=gL (g1.go fi)/\nG w4 bt (962+fi*240))):=λw4 h4=>
     ⟨Gl λk j hk hj=>by rw[(al h4).1];exact HJ.out.dy.aV fi k j hk4 hk hj,Gl λk j hk hj=>by rw[(al h4).1];exact HJ.out.dy.hgo fi k j hk4 hk hj⟩
    have t0:wr.cell? ⟨bt,0,none⟩=some (.slice (some ⟨g1.br,0,none⟩) g1.nr g1.bS):=by rw[(al HJ.out.dy.hT).1];exact HJ.out.dy.h0
    have t1:wr.cell? ⟨g1.br,ti,none⟩=some (.pointer (some ⟨g1.b ti,0,none⟩)):=by rw[(al HJ.out.dy.hR).1];exact HJ.out.dy.fh ti HJ.out.hi
    have hin:(ti:Int)<(g1.nr:Int):=by have:=HJ.out.hi;omega
    have hi0:(0:Int)<=(ti:Int):=by omega
    have hi4':(ti:Int)<4:=by omega
    have hf4':(fi:Int)<4:=by omega
    have hf0:(0:Int)<=(fi:Int):=by omega
    have hn9:(n:Int)<=6:=by omega
    have hnet4:=HJ.out.inv.bA.2;have hb8:j8 L=82/\cG ks L=(λ_=>false)\/j8 L=78/\cG ks L=(λ_=>false)\/j8 L=83\/j8 L=84:=by
     cases L with
     |root d=>exact .inl ⟨rfl,rfl⟩
     |nodes lev sg=>exact .inr (.inl ⟨rfl,rfl⟩)
     |aK kind sg=>exact .inr (.inr hok.1)
    have hn6:n<=6:=by omega
    have hTs: ¬T.size=0:=by omega
    have hne: ¬bt=wr.heap.size:=by omega
    have hne2: ¬g1.br=wr.heap.size:=by omega
    clear HJ hL hst hmn hok hle6 hT eo hTb hB1 hp1 HKr HKA;generalize hOA:cQ (g1.K ti) L=oA at*;have HOA:Hid (cQ (g1.K ti) L=oA):=hOA;clear hOA;rcases hb8 with⟨hb,htd⟩|⟨hb,htd⟩|hb|hb
    all_goals
     rw[hb]at hb0;have HTD:Hid (j8 L=82\/j8 L=78->cG ks L=λ_=>false):=(λh=>by first|exact htd|(rw[hb]at h;omega))
     try clear htd
     go_upto_region 14 with (first
      |(go_at_call 30;refine By (HTl.out (by rw[hb];simp)) ?_;rintro e w2 ⟨rfl,hb2,hp2⟩;have u0:=aU t0 hb2;have u1:=aU t1 hb2;obtain⟨ct,ft⟩:=al hp2;have ct0:=ct 0;have ct1:=ct 1;have ct2:=ct 2;have HB2:Hid (Below wr.heap.size wr w2):=hb2;have HP2:Hid (w2.heap[wr.heap.size]?=some (.cells (b3 λ_=>false) 82)):=hp2;clear ct hb2 hp2)
      |(go_at_call 18;refine By (HH.out _ (by first|exact (Fr.refl _ _).alloc _|exact (((Fr.iY HB2.out).setCell (Or.inl (iR _)) _).setCell (Or.inl (iR _)) _).setCell (Or.inl (iR _)) _) (by first|(rw[HTD.out (by rw[hb];simp)];exact BY wr _)|exact heap_set (heap_set (heap_set HP2.out)))) ?_;rintro e w4 ⟨rfl,hk4'⟩;have HK4:Hid (xS B w bt g ks hear s0 m ti fi n wr.heap.size L g1 w4):=hk4';clear hk4'))
     obtain⟨⟨rk,hsk⟩,rg,hsg⟩:=HR3.out _ HK4.out.dy;obtain⟨ct4,_⟩:=al HK4.out.told;have d0:=ct4 0;have d1:=ct4 1;have d2:=ct4 2;have HL4:Hid (Calls aa.prog 31 #[.pointer (some ⟨bt,0,none⟩),.int .i64 ti,.int .i64 fi,.agg (b3 (cG ks L)),.agg (gL (g1.kn fi)),.agg (gL (g1.go fi))] w4.drew λe w5=>e=.returned (.tuple #[])/\∃A',w5.heap[bt]?=some (.cells A' 42)/\gz g1.A A' ti 3 3 (cG ks L) (g1.kn ti) (g1.go ti) (g1.kn fi) (g1.go fi)/\Fr (λq=>q=bt) w4 w5):=HLn.out _ HK4.out.dy;clear ct4;go_region_with (first|(go_at_call 31;refine By HL4.out ?_;rintro e w5 ⟨rfl,A',hT5,hA5,hf5⟩;have HF5:Hid (∀n',(∀L',oA=some L'->n'=n+1)->mR B w bt g ks hear s0 m fi ti n' oA (g1.eW ks ti fi L A') w5):=(λn' h=>by have:=HK4.out.fin w5 A' n' hT5 hA5 hf5;rw[HOA.out]at this;exact this h);clear hT5 hA5 hf5))
     all_goals
      clear HK4 HL4 d0 d1 d2 rk hsk rg hsg;cases oA with
      |none=>
       have eo2:iU none=⟨#[]⟩:=rfl;rw[eo2];go_wp2;refine⟨⟨m,fi,ti,n,none,_,rfl,rfl,rfl,rfl,hn1,hn7,HF5.out n (λL' h=>by cases h)⟩,?_⟩;have hz:(⟨#[]⟩:ByteArray).size=0:=rfl;simp[yN,hTs,hz];omega
      |some L'=>
       obtain⟨T',hT'⟩: ∃T',L'.bytes=T':=⟨_,rfl⟩
       have eo2:iU (some L')=T':=hT';have HJ5:Hid _:=HF5.out (n+1) (λ_ _=>rfl);obtain⟨hL5,_⟩:=HJ5.out.letter L' rfl;have hp':=(DX (qM HJ5.out.dy.bj HJ5.out.inv HJ5.out.hk hL5) hT').1;have hTe':=D6 hp';rw[eo2];clear HF5;go_wp2;refine⟨⟨m,fi,ti,n+1,some L',_,by rw[eo2],rfl,rfl,by go_num,by omega,by omega,HJ5.out⟩,?_⟩;have hp2: ¬T'.size=0:=by omega
       simp[yN,hTs,hp2];omega
end
theorem B7{go:Nat->Bool}(x:Wr)(h:kn ws.length=false):expected (ws++ [x]) kn go k=expected ws kn go k:=by
 have hw:∀j,j<ws.length->(ws++ [x])[j]?=ws[j]? :=λj hj=>List.getElem?_append_left hj;have hl:(ws++ [x])[ws.length]?=some x:=by simp
 unfold expected;refine k9 _ λb _=>?_;rw[Xk,XX,qJ hl (λq=>by rw[h]at q;exact absurd q.2.2.1 (by decide)),uH hw (λ_ _=>Iff.rfl)]
theorem G6{go:Nat->Bool}{v:aj}(h:v∈expected ws kn go k):v.rep<4/\∃x∈ws,v.val=x.2.2.2:=by
 unfold expected at h;obtain⟨b,hb,hv⟩:=YM.1 h;obtain⟨j,x,_,hx,_,_,_,_,rfl⟩:=pY hv;exact⟨List.mem_range.1 hb,x,List.mem_of_getElem? hx,rfl⟩
theorem Dt(ws:List Wr)(i k:Nat)(n:Int)(val:ByteArray)(j l:Nat):bF (ws++ [(i,k,n,val)]) j l=bF ws j l+(if i=j/\k=l then 1 else 0):=by
 rw[oq];simp[bF]
def au.iO(g:au)(i k:Nat)(val:ByteArray):Wr:=(i,k,bF g.ws i k+1,val)
def au.put(g:au)(ks:Nat->ByteArray)(i k:Nat)(m:Mem)(val:ByteArray)(l':List aj)(wv:Value)(A:Array Value):au:=
 {g with
  K:=λj=>if j=i then bD (g.K i) (ks k) (bump (aZ (g.K i (ks k)).1 m.1) i,l') else g.K j
  ws:=g.ws++ [g.iO i k val]
  wv:=wv
  kn:=λj l q=>if j=i/\l=k then (if q=g.ws.length then true else g.kn i k q||m.2 q) else g.kn j l q
  go:=λj l q=>if j=i/\l=k then g.go i k q||m.2 q else g.go j l q
  A:=A}
theorem bz.put(hI:bz ks g)(ed:∀k l,k<3->l<3->ks k=ks l->k=l){m:Mem}{val:ByteArray}(wv:Value)(A:Array Value)(hi:i<g.nr)(hk:k<3)(hm:Good g.ws k m.1 m.2)(dD:val.size<=12)(hlen:g.ws.length<80)(hp:l'.Perm (aW (g.K i (ks k)).2 m.1++ [(i,aZ (g.K i (ks k)).1 m.1 i+1,val)]))(hs2:(l'.Pairwise λa b=>aR b a=false)/\l'.length<=20):bz ks (g.put ks i k m val l' wv A):=by
 have hs:=hs2.1;have hi4:i<4:=Xc hi hI.bA.2;have hbi:aZ (g.K i (ks k)).1 m.1 i=bF g.ws i k:=by
  have h1:=hI.aD i k hi hk;have h2:=(hm.2.2 i).2;simp only[aZ];omega
 have eF:jl (g.ws++ [g.iO i k val]):=hI.eF.snoc i k val;have hl':l'=expected (g.ws++ [g.iO i k val]) (λq=>if q=g.ws.length then true else g.kn i k q||m.2 q) (λq=>g.go i k q||m.2 q) k:=by
  rw[hbi]at hp;refine Of (m:=m.2) (c:=m.1) (kn:=g.kn i k) (go:=g.go i k) hi4 (hI.hex i k hi hk) (λq x hx hxk=>by rw[hm.1 q x hx];exact⟨λh=>h.2,λh=>⟨hxk,h⟩⟩) hp hs eF.num (λq hq=>?_) (λq _=>rfl) (by simp) ?_
  ·rw[AI (by omega)]
  ·simp[hI.iC i k g.ws.length hi hk (iR _),hm.2.1 g.ws.length (iR _)]
 have hval':∀x∈g.ws++ [g.iO i k val],x.2.2.2.size<=12:=λx hx=>by
  rcases List.mem_append.1 hx with hx|hx
  ·exact hI.dD x hx
  ·rw[List.mem_singleton.1 hx];exact dD
 have cU:Good (g.ws++ [g.iO i k val]) k (bump (aZ (g.K i (ks k)).1 m.1) i) (λq=>if q=g.ws.length then true else g.kn i k q||m.2 q):=by
  refine Good.put hI.eF ((hI.cU i k hi hk).join hm) hbi (λq hq=>by rw[AI (by omega)]) (by simp) (λq hq=>?_);rw[AI (by omega),(hI.cU i k hi hk).2.1 q (by omega),hm.2.1 q (by omega)];rfl
 exact {
  bA:=hI.bA
  hlen:=by simp only[au.put,Xk,XX];omega
  eF:=eF
  dD:=hval'
  dq:=λx hx=>by
   rcases List.mem_append.1 hx with hx|hx
   ·exact hI.dq x hx
   ·rw[List.mem_singleton.1 hx];exact hi4
  cU:=λj l hj hl=>by
   simp only[au.put];by_cases e:j=i
   ·subst e;by_cases e':l=k
    ·subst e';simpa[bD] using cU
    ·have hne:ks l≠ks k:=λq=>e' (ed l k hl hk q);have hh:Good (g.ws++ [g.iO j k val]) l (g.K j (ks l)).1 (g.kn j l):=(hI.cU j l hj hl).other j k val;simpa[bD,e',hne] using hh
   ·have hh:Good (g.ws++ [g.iO i k val]) l (g.K j (ks l)).1 (g.kn j l):=(hI.cU j l hj hl).other i k val;simpa[e] using hh
  aD:=λj l hj hl=>by
   simp only[au.put,au.iO];rw[Dt];by_cases e:j=i
   ·subst e;by_cases e':l=k
    ·subst e';simp only[No,bD,and_self,bump];rw[hbi]
    ·have hne:ks l≠ks k:=λq=>e' (ed l k hl hk q);have hne': ¬k=l:=λq=>e' q.symm;simpa[bD,hne,hne'] using hI.aD j l hj hl
   ·have hne': ¬i=j:=λq=>e q.symm;simpa[e,hne'] using hI.aD j l hj hl
  hex:=λj l hj hl=>by
   simp only[au.put];by_cases e:j=i
   ·subst e;by_cases e':l=k
    ·subst e';simpa[bD] using hl'
    ·have hne:ks l≠ks k:=λq=>e' (ed l k hl hk q)
     have:=hI.hex j l hj hl;rw[<-B7 (g.iO j k val) ((hI.cU j l hj hl).2.1 _ (iR _))]at this;simpa[bD,e',hne] using this
   ·have:=hI.hex j l hj hl;rw[<-B7 (g.iO i k val) ((hI.cU j l hj hl).2.1 _ (iR _))]at this;simpa[e] using this
  iC:=λj l q hj hl hq=>by
   simp only[au.put,Xk,XX]at hq ⊢;by_cases e:j=i/\l=k
   ·rw[AS e,hI.iC i k q hi hk (by omega),hm.2.1 q (by omega)];rfl
   ·rw[AI e];exact hI.iC j l q hj hl (by omega)
  jQ:=λl x hl hx=>(hI.jQ l x hl hx).other i k val
  jr:=hI.jr
  eT:=λj hj=>by
   simp only[au.put];by_cases e:j=i
   ·subst e;rw[AS rfl];have hb:=λb=>cU.bounds (by simp only[Xk,XX];omega) b;refine (hI.eT j hj).upd (λv hv=>?_) ?_ (λv hv=>?_) λb _=>by have:=hb b;omega
    ·rw[hl']at hv;exact (G6 hv).1
    ·exact Xb hs2.2 (by decide)
    ·rw[hl']at hv;obtain⟨_,x,hx,e⟩:=G6 hv;rw[e];exact hval' x hx
   ·rw[AI e];exact hI.eT j hj
  fx:=λj hj s hs=>by
   simp only[au.put]at hs;by_cases e:j=i
   ·subst e;rw[AS rfl]at hs;by_cases e':s=ks k
    ·exact⟨k,hk,e'⟩
    ·simp only[bD,AI e']at hs;exact hI.fx j hj s hs
   ·rw[AI e]at hs;exact hI.fx j hj s hs
  dH:=λj l q hj hl h=>by
   simp only[au.put]at h ⊢;by_cases e:j=i/\l=k
   ·obtain⟨rfl,rfl⟩:=e;simp only[and_self,No,Xw]at h ⊢;split
    ·rfl
    ·rw[Xw];exact h.imp (hI.dH j l q hj hl) id
   ·rw[AI e]at h ⊢;exact hI.dH j l q hj hl h}
theorem aP.put{X:Nat->Prop}{w2:World}{n0:Nat}{m:Mem}{val:ByteArray}{wv:Value}(hN:aP B w bt g)(hF:Fr X w w2)(ht:mz X w bt i n0 g)(hi4:i<4)(hk:k<3)(hlen:g.ws.length<80)(hT:w2.heap[bt]?=some (.cells A 42))(hA:A.size=1939)(bj:aB w2 (g.b i) (g.bm i) i (bD (g.K i) (ks k) (bump (aZ (g.K i (ks k)).1 m.1) i,l')))(h1:A[1]?=some wv)(hw:w2.ownsRow B 115 4 wv (g.ws.length+1) (fq (g.ws++ [g.iO i k val])))(hc:A[1927+i*3+k]?=some (.int .i64 (bF g.ws i k+1)))(hg:∀j,j<80->A[962+i*240+k*80+j]?=some (.bool (g.go i k j||m.2 j)))(aV:∀j,j<80->A[2+i*240+k*80+j]?=some (.bool (if j=g.ws.length then true else g.kn i k j||m.2 j)))(ho:∀q,(q<2+i*240+k*80\/2+i*240+k*80+80<=q)->(q<962+i*240+k*80\/962+i*240+k*80+80<=q)->q≠1->q≠1927+i*3+k->A[q]?=g.A[q]?):aP B w2 bt (g.put ks i k m val l' wv A) where
 hB:=hN.hB
 hT:=hT
 hA:=hA
 h0:=by show A[0]?=_;rw[ho 0 (by omega) (by omega) (by omega) (by omega)];exact hN.h0
 hR:=hF.heap hN.hR (ht.cells hN hN.hR (by decide) (by decide))
 fh:=hN.fh
 bj:=λj hj=>by
  simp only[au.put];by_cases e:j=i
  ·subst e;rw[AS rfl];exact bj
  ·rw[AI e];exact ht.rep hN hF hj e
 fa:=hN.fa
 h1:=h1
 hw:=by simp only[au.put,Xk,XX];exact hw
 aV:=λj l q hj hl hq=>by
  simp only[au.put];by_cases e:j=i/\l=k
  ·obtain⟨rfl,rfl⟩:=e;rw[AS ⟨rfl,rfl⟩];exact aV q hq
  ·rw[AI e,ho _ (by omega) (by omega) (by omega) (by omega)];exact hN.aV j l q hj hl hq
 hgo:=λj l q hj hl hq=>by
  simp only[au.put];by_cases e:j=i/\l=k
  ·obtain⟨rfl,rfl⟩:=e;rw[AS ⟨rfl,rfl⟩];exact hg q hq
  ·rw[AI e,ho _ (by omega) (by omega) (by omega) (by omega)];exact hN.hgo j l q hj hl hq
 eV:=λl hl=>by show A[1922+l]?=_;rw[ho _ (by omega) (by omega) (by omega) (by omega)];exact hN.eV l hl
 cL:=λl hl=>hF.iL (hN.cL l hl) λb cur hb=>ht.cells hN hb (by decide) (by decide)
 eP:=hN.eP
 j7:=λj l hj hl=>by
  simp only[au.put,au.iO];rw[Dt];by_cases e:i=j/\k=l
  ·obtain⟨rfl,rfl⟩:=e;rw[AS ⟨rfl,rfl⟩];exact hc
  ·rw[AI e,ho _ (by omega) (by omega) (by omega) (by omega),Int.add_zero];exact hN.j7 j l hj hl
end Go.Proofs.YtldmcdeibiclkaaGreatDoorQ
