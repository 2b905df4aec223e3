/-
  Toward causal_holds: Contract: tells: of which keys a letter with segments tells.
-/
import Derived.Test.YtldmcdeibiclkaaGreatDoorC26
import Derived.Test.YtldmcdeibiclkaaGreatDoorC18
import Derived.Deep.CutRange
import Derived.Test.YtldmcdeibiclkaaGreatDoorC25
import Derived.Test.YtldmcdeibiclkaaGreatDoorC23
set_option linter.unusedVariables false
set_option linter.unusedSimpArgs false
set_option maxRecDepth 100000
set_option maxHeartbeats 20000000
namespace Go.Proofs.YtldmcdeibiclkaaGreatDoorQ
open Go.RowKit
theorem wI:∀a b:List (Nat×List ai),ba (a++b)=ba a++ba b
 |[],b=>by rw[Z9,ba,iY]
 |g::a,b=>by rw[YX,ba,wI a b,ba,cq,cq]
theorem byte_at{T P R:ByteArray}{n:Nat}(hn:n< 256)(hT:T=P++(al n++R))(h:P.size< T.size):(T[P.size]'h).toNat=n:=by
 subst hT
 rw[ByteArray.getElem_append_right (AI _)]
 have h1:0< (al n).size:=by rw[cS];omega
 have e:∀(q:Nat) (hq:q< (al n++R).size),q=0->((al n++R)[q]'hq).toNat=n:=λq hq e=>by
  subst e
  rw[ByteArray.getElem_append_left h1]
  have hb:=qW (n:Int)
  have e2:((al n)[0]'h1)=byteOf n:=by simp[al,aam]
  rw[e2]
  omega
 exact e _ _ (by omega)
theorem Ka{T P Q S R:ByteArray}(hT:T=P++(Q++(S++R))):T.extract (P.size+Q.size) (P.size+Q.size+S.size)=S:=by
 have e:T=(P++Q)++(S++R):=by rw[hT,cq]
 have h1:(P++Q).size=P.size+Q.size:=No
 have hd:T.data.toList=(P++Q).data.toList++(S.data.toList++R.data.toList):=by rw[e];simp[ByteArray.data_append]
 have h2:(P++Q).data.toList.length=P.size+Q.size:=by rw[YR];exact h1
 have h3:S.data.toList.length=S.size:=by rw[YR];rfl
 apply ZT
 rw[ByteArray.data_extract]
 apply Zo
 rw[Array.toList_extract,hd,List.extract_eq_take_drop,List.drop_append_of_le_length (by omega),List.drop_of_length_le (by omega),Z9,List.take_append_of_le_length (by omega),ZP (by omega)]
def dz(sg:List (Nat×List ai))(k:Nat):Nat:=2+(ba (sg.take k)).size
theorem NI{kind:Nat}{sg:List (Nat×List ai)}{k:Nat}(hk:k< sg.length):
  ∃P R,(Let.aV kind sg).bytes=P++(al sg[k].1++(cy sg[k].2.length++(eC sg[k].2++R)))/\P.size=dz sg k:=by
 refine⟨al kind++(al sg.length++ba (sg.take k)),ba (sg.drop (k+1)),?_,?_⟩
 ·have e:ba sg=ba (sg.take k)++ba (sg.drop k):=by rw[←wI,aai]
  rw[Let.bytes,e,Bw hk,gB]
  simp only[cq]
 ·simp only[No,cS,dz]
  omega
theorem UQ{kind:Nat}{sg:List (Nat×List ai)}:(Let.aV kind sg).bytes.size=dz sg sg.length:=by
 rw[Let.bytes,dz,YD]
 simp only[No,cS]
 omega
theorem A9{sg:List (Nat×List ai)}{k:Nat}(hk:k< sg.length):dz sg (k+1)=dz sg k+5+(eC sg[k].2).size:=by
 rw[dz,dz,Yu hk,wI]
 simp only[ba,gB,No,cS,jR]
 have:ByteArray.empty.size=0:=rfl
 omega
theorem F5{kind:Nat}{sg:List (Nat×List ai)}{k:Nat}(hk:k< sg.length)(hn:sg[k].1< 256){T:ByteArray}(hT:(Let.aV kind sg).bytes=T):
  dz sg (k+1)<=T.size/\(∀h:dz sg k< T.size,(T[dz sg k]'h).toNat=sg[k].1)/\T.extract (dz sg k+5) (dz sg k+5+(eC sg[k].2).size)=eC sg[k].2:=by
 obtain⟨P,R,e,hP⟩:=NI (kind:=kind) hk
 rw[hT] at e
 have hs:=A9 hk
 refine⟨?_,λh=>?_,?_⟩
 ·rw[e,hs,←hP]
  simp only[No,cS,jR]
  omega
 ·have:=byte_at (T:=T) (P:=P) hn e (by rw[hP];exact h)
  simp only[hP] at this
  exact this
 ·have:=Ka (T:=T) (P:=P) (Q:=al sg[k].1++cy sg[k].2.length) (S:=eC sg[k].2) (R:=R) (by rw[e,cq])
  rw[No,cS,jR,hP] at this
  exact this
theorem Xq{kind:Nat}{sg:List (Nat×List ai)}{T:ByteArray}(hT:(Let.aV kind sg).bytes=T)(hl:sg.length<=64):2<=T.size/\∀h:1< T.size,(T[1]'h).toNat=sg.length:=by
 have e:T=al kind++(al sg.length++ba sg):=hT.symm
 refine⟨by rw[e];simp only[No,cS];omega,λh=>?_⟩
 have:=byte_at (T:=T) (P:=al kind) (n:=sg.length) (by omega) e (by rw[cS];exact h)
 simp only[cS] at this
 exact this
abbrev b3(F:Nat->Bool):Array Value:=#[.bool (F 0),.bool (F 1),.bool (F 2)]
theorem Ej{F:Nat->Bool}{j:Nat}(h:j< 3):(b3 F)[j]? =some (.bool (F j)):=by
 rcases (show j=0\/j=1\/j=2 by omega) with rfl|rfl|rfl<;>rfl
theorem GF{F:Nat->Bool}{j:Nat}(h:j< 3)(v:Bool):(b3 F).setIfInBounds j (.bool v)=b3 λq=>if q=j then v else F q:=by
 rcases (show j=0\/j=1\/j=2 by omega) with rfl|rfl|rfl<;>rfl
theorem Ex{F G:Nat->Bool}(h:∀j,j< 3->F j=G j):b3 F=b3 G:=by
 simp only[b3,h 0 (by omega),h 1 (by omega),h 2 (by omega)]
structure ik(w:World)(F:Nat->Bool)(W:World):Prop where
 out:W.heap[w.heap.size]? =some (.cells (b3 λ_=>false) 82)
 told:W.heap[w.heap.size+1]? =some (.cells (b3 F) 82)
 bP:Below w.heap.size w W
theorem ik.below{w W W':World}{F:Nat->Bool}(h:ik w F W)(hb:Below W.heap.size W W'):ik w F W':=⟨aY h.out hb,aY h.told hb,bG h.bP hb⟩
theorem ik.set{w W:World}{F G:Nat->Bool}{j:Nat}{v:Bool}(h:ik w F W)(hj:j< 3)(hG:∀q,q< 3->G q=if q=j then v else F q):ik w G (W.setCell ⟨w.heap.size+1,j,none⟩ (.bool v)):=by
 refine⟨?_,?_,h.bP.setCell (show w.heap.size<=w.heap.size+1 by omega) _⟩
 ·rw[Yj _ _ _ _ (by show _≠w.heap.size+1;omega)];exact h.out
 ·rw[heap_set h.told,GF hj,Ex hG]
theorem ik.Eo{w W:World}{F G:Nat->Bool}(h:ik w F W)(hG:∀q,q< 3->F q=G q):ik w G W:=⟨h.out,by rw[←Ex hG];exact h.told,h.bP⟩
theorem OG(B bt i kind:Nat)(g:ax)(ks:Nat->ByteArray)(ns:List Nat)(w:World)(hN:aS B w bt g)(hK:dP w ks)(hB0:0< B)(hi:i< g.nr)(aZ:g.nr<=4)(hF:dX w (g.bm i) (g.K i))(hl:1<=ns.length/\ns.length<=64)(hns:∀n∈ns,n< 64)(ha:ns.Pairwise (· < ·))(T:ByteArray)(hT:(Let.aV kind (bp w (g.bm i) (g.K i) ns)).bytes=T)(hsz:T.size<=140737488355328):
  Calls aa.prog 30 #[.pointer (some ⟨bt,0,none⟩),.string T,.int .i64 i] w λe w'=>e= .returned (.tuple #[.agg (b3 λk=>decide (ay (ks k)∈ns)),.bool true])/\Below w.heap.size w w':=by
 have hlm:(bp w (g.bm i) (g.K i) ns).length=ns.length:=Yr ..
 have hgk:∀k (h:k< ns.length),(bp w (g.bm i) (g.K i) ns)[k]'(by rw[hlm];exact h)=(ns[k],dA (g.K i) (cp w (g.bm i ns[k]))):=λk h=>by simp[bp]
 have htx:∀n,eC (dA (g.K i) (cp w (g.bm i n)))=dy w (g.bm i) (g.K i) n:=λn=>by rw[dy,xm]
 obtain⟨hT2,hT1⟩:=Xq hT (by rw[hlm];exact hl.2)
 rw[hlm] at hT1
 have HFc:Hid (∀k (h:k< ns.length),dz (bp w (g.bm i) (g.K i) ns) (k+1)<=T.size/\dz (bp w (g.bm i) (g.K i) ns) (k+1)=dz (bp w (g.bm i) (g.K i) ns) k+5+(dy w (g.bm i) (g.K i) ns[k]).size/\(∀q:dz (bp w (g.bm i) (g.K i) ns) k< T.size,(T[dz (bp w (g.bm i) (g.K i) ns) k]'q).toNat=ns[k])/\T.extract (dz (bp w (g.bm i) (g.K i) ns) k+5) (dz (bp w (g.bm i) (g.K i) ns) k+5+(dy w (g.bm i) (g.K i) ns[k]).size)=dy w (g.bm i) (g.K i) ns[k]):=λk h=>by
  have h':k< (bp w (g.bm i) (g.K i) ns).length:=by rw[hlm];exact h
  have h64:=hns _ (X9 h)
  have hf:=F5 (kind:=kind) h' (by rw[hgk k h];exact X4 h64 (by decide)) hT
  have hs:=A9 h'
  rw[hgk k h] at hf hs
  simp only[htx] at hf hs
  exact⟨hf.1,hs,hf.2.1,hf.2.2⟩
 have HEnd:Hid (dz (bp w (g.bm i) (g.K i) ns) ns.length=T.size):=(show _=_ by rw[←hT,UQ,hlm])
 have HSg:Hid (∀n:Nat,n< 64->∀W,Below w.heap.size w W->Calls aa.prog 11 #[.pointer (some ⟨g.b i,0,none⟩),.int .i64 n] W λe w'=>e= .returned (.tuple #[.string (dy w (g.bm i) (g.K i) n),.int .i64 0])/\Below W.heap.size W w'):=λn hn W hW=>by
  have hr:=hN.bk i hi
  have:=Up (g.b i) i n (g.bm i) (g.K i) W (hr.below hW) (hF.below hr hW) hn
  rw[vW (hW.block _ (hr.2.1 n hn).lt)] at this
  exact this
 have HPl:Hid (∀j:Nat,j< 3->∀W,Below w.heap.size w W->Calls aa.prog 51 #[.int .i64 j] W λe w'=>e= .returned (.int .i64 (ay (ks j)))/\w'=W):=λj hj W hW=>UW j ks W ⟨λk hk=>by rw[ZD (hW.block 0 ?_)];exact hK.cell k hk,hK.key,hK.ne⟩ hj
 case _=>
  have:=hN.hB.1
  have:=(IN.1 hN.hT).1
  omega
 have HNs:Hid (∀k (h:k< ns.length),ns[k]< 64/\fL ns k< (ns[k]:Int)/\fL ns (k+1)=(ns[k]:Int)):=λk h=>⟨hns _ (X9 h),yX ha h,by simp[fL,Yn h]⟩
 have t0:w.cell? ⟨bt,0,none⟩=some (.slice (some ⟨g.br,0,none⟩) g.nr g.bQ):=by rw[(au hN.hT).1];exact hN.h0
 have t1:w.cell? ⟨g.br,i,none⟩=some (.pointer (some ⟨g.b i,0,none⟩)):=by rw[(au hN.hR).1];exact hN.eZ i hi
 have hbt:bt< w.heap.size:=(IN.1 hN.hT).1
 have hbr:g.br< w.heap.size:=(IN.1 hN.hR).1
 have hin:(i:Int)< (g.nr:Int):=by omega
 have hi0:(0:Int)<=(i:Int):=by omega
 have HJ0:Hid (ik w (λk=>decide (ay (ks k)∈ns.take 0)) ((w.alloc (.cells (b3 λ_=>false) 82)).alloc (.cells (b3 λ_=>false) 82))):=by
  refine⟨?_,kF w _ _,((By _ _).alloc (AI _) _).alloc (by simp) _⟩
  rw[OF _ _ _ (by simp)]
  exact IS w _
 have hL1:(1:Int)<=(ns.length:Int):=by omega
 have hL2:(ns.length:Int)<=64:=by omega
 have hT1':(T[1]'(by omega)).toNat=ns.length:=hT1 _
 clear hT hK hN hF hgk htx hns ha hlm hT1
 generalize bp w (g.bm i) (g.K i) ns=sg at*
 generalize dy w (g.bm i) (g.K i)=tx at*
 go_enter aa.func30,aa.ntmps30
 go_wp2
 go_loopw [9,10,11] (λav lv iv wr=>∃k:Nat,k<=ns.length/\av= .int .i64 (dz sg k)/\lv= .int .i64 (fL ns k)/\iv= .int .i64 k/\Hid (ik w (λq=>decide (ay (ks q)∈ns.take k)) wr)) (λ_ _ iv _=>ns.length - (intOf iv).toNat)
 case atStart=>exact⟨0,by omega,by simp[dz,ba],rfl,rfl,HJ0.out⟩
 case round=>
  obtain⟨k,hk,rfl,rfl,rfl,HJ⟩:=hrel
  clear HJ0
  by_cases hlt:k< ns.length
  ·obtain⟨f1,f2,f3,f4⟩:=HFc.out k hlt
   obtain⟨n1,n2,n3⟩:=HNs.out k hlt
   obtain⟨F,hF⟩: ∃F:Nat->Bool,F=λq=>decide (ay (ks q)∈ns.take k):=⟨_,rfl⟩
   rw[←hF] at HJ
   have HTk:Hid (∀q,decide (ay (ks q)∈ns.take (k+1))=(F q||decide (ay (ks q)=ns[k]))):=(by
    intro q
    rw[hF]
    show _=(decide (ay (ks q)∈ns.take k)||_)
    rw[Yu hlt,←Bool.decide_or]
    exact decide_eq_decide.2 (by rw[Zl,Y4]))
   have HLn:Hid (fL ns (k+1)=(ns[k]:Int)):=n3
   have HSk:Hid _:=HSg.out ns[k] n1
   have HFs:Hid (dz sg (k+1)=dz sg k+5+(tx ns[k]).size):=f2
   have hqt:dz sg k< T.size:=by omega
   have f3':(T[dz sg k]'hqt).toNat=ns[k]:=f3 hqt
   have f1':dz sg k+5+(tx ns[k]).size<=T.size:=by omega
   clear f3 HFc HNs n3 f1 f2 HSg
   generalize fL ns k=la at*
   generalize dz sg k=ok at*
   clear hF
   generalize ns[k]=n at*
   generalize tx n=t at*
   have a1:(k:Int)< (ns.length:Int):=by omega
   have b1:(ok:Int)< (T.size:Int):=by omega
   have b2:(ok:Int)+5<=(T.size:Int):=by omega
   have b3:(ok:Int)+5+(t.size:Int)<=(T.size:Int):=by omega
   have u0:=aX t0 HJ.out.bP
   have u1:=aX t1 HJ.out.bP
   go_wp2_with (go_at_call 11;refine BY (HSk.out _ HJ.out.bP) ?_;rintro e w2 ⟨rfl,hb2⟩;have HJ2:Hid (ik w F w2):=HJ.out.below hb2;clear hb2)
   clear HJ u0 u1
   go_loopw [14] (λjv wr=>∃j:Nat,j<=3/\jv= .int .i64 j/\Hid (ik w (λq=>F q||(decide (q< j) && decide (ay (ks q)=n))) wr)) (λjv _=>3 - (intOf jv).toNat)
   case atStart=>exact⟨0,by omega,rfl,HJ2.out.Eo λq _=>by simp⟩
   case round=>
    obtain⟨j,hj,rfl,HI⟩:=hrel
    clear HJ2
    by_cases hj3:j< 3
    ·have j1:(j:Int)< 3:=by omega
     have j0:(0:Int)<=(j:Int):=by omega
     have HPj:Hid _:=HPl.out j hj3
     obtain⟨ct,ft⟩:=au HI.out.told
     have cj:wr.cell? ⟨w.heap.size+1,j,none⟩=some (.bool (F j)):=by
      rw[ct,Ej hj3]
      simp
     have fj:=ft j
     have HSt:Hid (∀v,v=(F j||decide (ay (ks j)=n))->ik w (λq=>F q||(decide (q< j+1) && decide (ay (ks q)=n))) (wr.setCell ⟨w.heap.size+1,j,none⟩ (.bool v))):=λv hv=>HI.out.set hj3 λq hq=>by
      by_cases e:q=j
      ·subst e;rw[AT rfl,hv];simp
      ·rw[AS e]
       rw[show decide (q< j+1)=decide (q< j) from decide_eq_decide.2 (by omega)]
     have HB:Hid (Below w.heap.size w wr):=HI.out.bP
     clear ct ft HI
     generalize ay (ks j)=p at*
     cases hf:F j with
     |true=>
      rw[hf] at cj HSt
      go_wp2_with (go_at_call 51;refine BY (HPj.out _ HB.out) ?_;rintro e w3 ⟨rfl,hw3⟩;obtain rfl:=hw3.symm)
      exact⟨⟨j+1,by omega,by go_num,HSt.out _ rfl⟩,by simp[intOf];omega⟩
     |false=>
      rw[hf] at cj HSt
      by_cases hp:p=n
      ·subst hp
       go_wp2_with (go_at_call 51;refine BY (HPj.out _ HB.out) ?_;rintro e w3 ⟨rfl,hw3⟩;obtain rfl:=hw3.symm)
       exact⟨⟨j+1,by omega,by go_num,HSt.out _ (by simp)⟩,by simp[intOf];omega⟩
      ·have hp': ¬ (p:Int)=(n:Int):=by omega
       go_wp2_with (go_at_call 51;refine BY (HPj.out _ HB.out) ?_;rintro e w3 ⟨rfl,hw3⟩;obtain rfl:=hw3.symm)
       exact⟨⟨j+1,by omega,by go_num,HSt.out _ (by simp[hp];exact hp')⟩,by simp[intOf];omega⟩
    ·have hj3':j=3:=by omega
     subst hj3'
     have HJn:Hid (ik w (λq=>F q||decide (ay (ks q)=n)) wr):=HI.out.Eo λq hq=>by
      show (F q||(decide (q< 3) && decide (ay (ks q)=n)))=(F q||decide (ay (ks q)=n))
      rw[ZL hq,Bool.true_and]
     clear HI
     go_wp2
     refine⟨⟨k+1,by omega,?_,?_,by go_num,?_⟩,by simp[intOf];omega⟩
     ·rw[HFs.out]
      go_num
     ·rw[HLn.out]
     ·rw[show (λq=>decide (ay (ks q)∈ns.take (k+1)))=λq=>(F q||decide (ay (ks q)=n)) from funext HTk.out]
      exact HJn.out
  ·obtain rfl:k=ns.length:=by omega
   have HJe:Hid (ik w (λq=>decide (ay (ks q)∈ns)) wr):=(by have:=HJ.out;rw[YD] at this;exact this)
   have hend:=HEnd.out
   clear HJ HFc HNs HSg HPl
   obtain⟨F,hF⟩: ∃F:Nat->Bool,F=λq=>decide (ay (ks q)∈ns):=⟨_,rfl⟩
   rw[←hF] at HJe
   have HF:Hid (F=λq=>decide (ay (ks q)∈ns)):=hF
   clear hF
   obtain⟨ct,ft⟩:=au HJe.out.told
   obtain⟨co,fo⟩:=au HJe.out.out
   have c0:=ct 0
   have c1:=ct 1
   have c2:=ct 2
   have o0:=co 0
   have o1:=co 1
   have o2:=co 2
   clear ct co
   go_wp2
   refine YB (v:= .tuple #[.agg (b3 F),.bool true]) ?_ rfl ⟨by rw[HF.out],?_⟩
   ·simp[results,go_sem,o0,o1,o2]
   ·have hle:w.heap.size<=w.heap.size:=AI _
    exact ((HJe.out.bP.setCell hle _).setCell hle _).setCell hle _
theorem Ln(c n:Int)(w:World)(h1: -9223372036854775808<=c)(h2:c<=9223372036854775807)(hn:1<=n)(hn2:n<=1000):
  Calls aa.prog 9 #[.int .i64 c,.int .i64 n] w λe w'=>e= .returned (.int .i64 (mV c n))/\w'=w:=by
 by_cases h:c< 0
 ·go_enter aa.func9,aa.ntmps9
  go_wp2
  go_ret
  refine⟨pQ ?_,rfl⟩
  rw[mV,AT h,←Int.neg_tmod,Int.tmod_eq_emod_of_nonneg (by omega)]
 ·go_enter aa.func9,aa.ntmps9
  go_wp2
  go_ret
  refine⟨pQ ?_,rfl⟩
  rw[mV,AS (by omega)]
def nF(w:World)(ad:Option Addr)(n:Nat):Prop:=n=0\/∃b off,ad=some ⟨b,off,none⟩/\∀j,j< n->∃z:Int,w.cell? ⟨b,off+j,none⟩=some (.int .i64 z)/\-9223372036854775808<=z/\z<=9223372036854775807
def bR(w:World)(bx:Nat)(ad:Option Addr)(n cap at':Nat):Prop:=
 w.heap[bx]? =some (.cells #[.slice ad n cap,.int .i64 at'] 25)/\at'<=n/\n<=9223372036854775807/\nF w ad n
theorem GC(bx:Nat)(ad:Option Addr)(n cap at':Nat)(m:Int)(w:World)(h:bR w bx ad n cap at')(he:n<=at'):
  Calls aa.prog 14 #[.pointer (some ⟨bx,0,none⟩),.int .i64 m] w λe w'=>e= .returned (.int .i64 0)/\∃q,w'=w.drewN q:=by
 obtain⟨hb,hle,hn,_⟩:=h
 obtain⟨c,f⟩:=au hb
 have hge:((n:Int)<=(at':Int)):=by omega
 clear hb
 go_enter aa.func14,aa.ntmps14
 go_wp2
 go_quiet (fail)
 go_wp2
 go_ret
 exact⟨rfl,_,rfl⟩
theorem Ox(bx b off n cap at':Nat)(m z:Int)(w:World)(hb:w.heap[bx]? =some (.cells #[.slice (some ⟨b,off,none⟩) n cap,.int .i64 at'] 25))(hlt:at'< n)(hn:n<=9223372036854775807)(hz:w.cell? ⟨b,off+at',none⟩=some (.int .i64 z))(hz1: -9223372036854775808<=z)(hz2:z<=9223372036854775807)(hm:1<=m)(hm2:m<=1000):
  Calls aa.prog 14 #[.pointer (some ⟨bx,0,none⟩),.int .i64 m] w λe w'=>e= .returned (.int .i64 (mV z m))/\∃q,w'=(w.drewN q).setCell ⟨bx,1,none⟩ (.int .i64 (at'+1)):=by
 obtain⟨c,f⟩:=au hb
 have hlt':((at':Int)< (n:Int)):=by omega
 have h0:(0:Int)<=(at':Int):=by omega
 have hlt2: ¬ ((n:Int)<=(at':Int)):=by omega
 have hbig:(at':Int)+1<=9223372036854775807:=by omega
 have HP:Hid (∀W,Calls aa.prog 9 #[.int .i64 z,.int .i64 m] W λe w'=>e= .returned (.int .i64 (mV z m))/\w'=W):=λW=>Ln z m W hz1 hz2 hm hm2
 generalize mV z m=r at*
 have hd:decide (n<=at')=false:=by simpa using hlt
 clear hb hz1 hz2 hlt2
 go_enter aa.func14,aa.ntmps14
 go_wp2
 go_quiet (fail)
 go_wp2
 go_quiet ((go_at_call 9;refine (HP.out _).mono ?_;rintro e w' ⟨rfl,rfl⟩;exact⟨rfl,_,rfl⟩))
 go_wp2
 go_ret
 exact⟨rfl,_,rfl⟩
theorem p7(bx:Nat)(ad:Option Addr)(n cap at':Nat)(m:Int)(w:World)(h:bR w bx ad n cap at')(hnb:0< n->∀b off,ad=some ⟨b,off,none⟩->b≠bx)(hm:1<=m)(hm2:m<=1000):
  Calls aa.prog 14 #[.pointer (some ⟨bx,0,none⟩),.int .i64 m] w λe w'=>∃(r:Nat) (at2:Nat),e= .returned (.int .i64 r)/\(r:Int)< m/\bR w' bx ad n cap at2/\at'<=at2/\w.grownBy w' (some bx)/\w'.heap.size=w.heap.size:=by
 by_cases he:n<=at'
 ·refine (GC bx ad n cap at' m w h he).mono ?_
  rintro e w' ⟨rfl,q,rfl⟩
  exact⟨0,at',rfl,by omega,h,AI _,⟨rfl,rfl,rfl,AI _,λ_ _ _=>rfl⟩,rfl⟩
 ·obtain⟨hb,hle,hn,hc⟩:=h
  rcases hc with hc|⟨b,off,rfl,hall⟩
  ·omega
  ·obtain⟨z,hz,hz1,hz2⟩:=hall at' (by omega)
   have hr:=OT z m hm
   refine (Ox bx b off n cap at' m z w hb (by omega) hn hz hz1 hz2 hm hm2).mono ?_
   rintro e w' ⟨rfl,q,rfl⟩
   obtain⟨r,hr'⟩:=Int.eq_ofNat_of_zero_le hr.1
   have hbne:=hnb (by omega) b off rfl
   refine⟨r,at'+1,by rw[hr'],by omega,⟨?_,by omega,hn,Or.inr ⟨b,off,rfl,λj hj=>?_⟩⟩,by omega,⟨rfl,rfl,rfl,by simp[World.setCell],λk hk hne=>?_⟩,by simp[World.setCell]⟩
   ·have:=heap_set (w:=w.drewN q) (o:=1) (v:= .int .i64 (at'+1)) (show (w.drewN q).heap[bx]? =_ from hb)
    simpa using this
   ·obtain⟨z',h1,h2,h3⟩:=hall j hj
    exact⟨z',by rw[dk hbne];exact h1,h2,h3⟩
   ·exact Yj (w.drewN q) ⟨bx,1,none⟩ _ k (λe=>hne (by rw[e]))
section
def iL(w:World)(b o:Nat):List Value:=(List.range 84).map λj=>(w.cell? ⟨b,o+j,none⟩).getD undef
def mf(w:World)(b o:Nat):Prop:=∀j,j< 84->(w.cell? ⟨b,o+j,none⟩).isSome=true
def rR(w:World):Value->Prop
 | .pointer (some ⟨b,o,none⟩)=>mf w b o
 |_=>False
def yh(w:World):Value->Value
 | .pointer (some ⟨b,o,none⟩)=> .agg (iL w b o).toArray
 |_=>undef
theorem xc(w:World)(b o:Nat):rR w (.pointer (some ⟨b,o,none⟩))=mf w b o:=rfl
theorem rU(w:World)(b o:Nat):yh w (.pointer (some ⟨b,o,none⟩))= .agg (iL w b o).toArray:=rfl
theorem uH(w:World)(b o:Nat):(iL w b o).length=84:=by simp[iL]
theorem zi{w:World}{b o:Nat}(h:mf w b o):w.rangeAt b o (iL w b o):=λj v hv=>by
 have hj:j< 84:=by have:=(YP.1 hv).1;rwa [uH] at this
 have:=h j hj
 obtain⟨u,hu⟩:=Option.isSome_iff_exists.1 this
 simp[iL,hj,hu] at hv
 rw[hu,hv]
theorem y8{w:World}{b o:Nat}{cs:List Value}(h:w.rangeAt b o cs)(hl:cs.length=84):iL w b o=cs/\mf w b o:=by
 refine⟨?_,λj hj=>?_⟩
 ·apply ZY
  intro j
  by_cases hj:j< 84
  ·have hc:cs[j]? =some cs[j]:=Yn (by omega)
   rw[hc]
   simp[iL,hj,h j _ hc]
  ·rw[ZI (by rw[uH];omega),ZI (by omega)]
 ·rw[h j _ (Yn (by omega))];rfl
theorem aa.yH:(aa.prog.info? 74).map (·.size)=some 84:=by kernel_rfl
theorem ym(d:Option Tmp)(x:Operand)(ty:TypeId)(pos:String)(aft:Array Edge)(gd:Option (Nat×Bool))(a:Act)(w:World)(K:Act->World->Prop)(Q:Exit->Act->World->Prop)(h:rR w (a.eval x)):
  Oper.wp aa.prog {dst:=d,op:= .load 74 x,type:=ty,pos:=pos,after:=aft,guard:=gd} a w K Q=K (a.put d (yh w (a.eval x))) w:=by
 unfold rR at h
 split at h
 ·rename_i b o heq
  rw[heq,rU]
  unfold Oper.wp execOp
  simp only[heq,Instr.loadAt,Instr.sureAddr,YC,Zs,YU,run_loadVar_mid w b o 74 (iL w b o) _ (zi h) aa.underlying74 rfl (by rw[aa.yH,uH])]
  rfl
 ·exact h.elim
def lk(w:World):Value->Value->Prop
 | .pointer (some ⟨b,o,none⟩),.agg cs=>w.there b o 84/\cs.size=84/\cs.all (·.oneCell')=true
 |_,_=>False
def E9(w:World):Value->Value->World
 | .pointer (some ⟨b,o,none⟩),.agg cs=>w.setCells b o cs.toList
 |_,_=>w
theorem wE(w:World)(b o:Nat)(cs:Array Value):lk w (.pointer (some ⟨b,o,none⟩)) (.agg cs)=(w.there b o 84/\cs.size=84/\cs.all (·.oneCell')=true):=rfl
theorem sR(w:World)(b o:Nat)(cs:Array Value):E9 w (.pointer (some ⟨b,o,none⟩)) (.agg cs)=w.setCells b o cs.toList:=rfl
theorem wP(d:Option Tmp)(x y:Operand)(ty:TypeId)(pos:String)(aft:Array Edge)(gd:Option (Nat×Bool))(a:Act)(w:World)(K:Act->World->Prop)(Q:Exit->Act->World->Prop)(h:lk w (a.eval x) (a.eval y)):
  Oper.wp aa.prog {dst:=d,op:= .store 74 x y,type:=ty,pos:=pos,after:=aft,guard:=gd} a w K Q=K (a.put d undef) (E9 w (a.eval x) (a.eval y)):=by
 unfold lk at h
 split at h
 ·rename_i b o cs heq heq'
  rw[heq,heq',sR]
  unfold Oper.wp execOp
  simp only[heq,heq',Instr.storeAt,Instr.sureAddr,YC,Zs,YU,run_storeVar_mid w b o 74 cs (by rw[h.2.1];exact h.1) (by rw[aa.yH,h.2.1]) h.2.2]
  rfl
 ·exact h.elim
theorem CL(m:Mem):∀v∈bX m,v.oneCell'=true:=by
 intro v hv
 simp only[bX,Zl] at hv
 rcases hv with hv|hv
 ·simp at hv;rcases hv with rfl|rfl|rfl|rfl<;>rfl
 ·exact yl m.2 v hv
def Jx(w:World)(bx:Nat)(ad:Option Addr)(n cap:Nat)(w':World):Prop:=
 Fr (λk=>k=bx) w w'/\(∃at2:Nat,at2<=n/\w'.heap[bx]? =some (.cells #[.slice ad n cap,.int .i64 at2] 25))/\bx< w.heap.size
section
variable {w w1 w2:World} {bx n cap:Nat} {ad:Option Addr}
theorem Jx.drew(h:Jx w bx ad n cap w1):Jx w bx ad n cap w1.drew:=⟨h.1.drew,h.2.1,h.2.2⟩
theorem Jx.alloc(h:Jx w bx ad n cap w1)(X:Obj):Jx w bx ad n cap (w1.alloc X):=by
 obtain⟨h1,⟨a,h2,h3⟩,h4⟩:=h
 exact⟨h1.alloc X,⟨a,h2,by rw[OF _ _ _ (IN.1 h3).1];exact h3⟩,h4⟩
theorem Jx.below(h:Jx w bx ad n cap w1)(hb:Below w1.heap.size w1 w2):Jx w bx ad n cap w2:=by
 obtain⟨h1,⟨a,h2,h3⟩,h4⟩:=h
 exact⟨h1.below hb,⟨a,h2,aY h3 hb⟩,h4⟩
theorem Jx.setCell(h:Jx w bx ad n cap w1){b o:Nat}(hb:w.heap.size<=b)(v:Value):Jx w bx ad n cap (w1.setCell ⟨b,o,none⟩ v):=by
 obtain⟨h1,⟨a,h2,h3⟩,h4⟩:=h
 have hne:bx≠b:=by omega
 exact⟨h1.setCell (Or.inl hb) v,⟨a,h2,by rw[Yj _ _ _ _ hne];exact h3⟩,h4⟩
theorem Jx.setCells(h:Jx w bx ad n cap w1){b:Nat}(hb:w.heap.size<=b):∀(vs:List Value) (o:Nat),Jx w bx ad n cap (w1.setCells b o vs):=by
 intro vs
 induction vs generalizing w1 with
 |nil=>intro o;exact h
 |cons v vs ih=>intro o;rw[World.setCells];exact ih (h.setCell hb v) (o+1)
theorem Jx.toBelow{B:Nat}(h:Jx w bx ad n cap w1)(hb:B<=bx):Below B w w1:=
 h.1.toBelow (λk e=>by rw[e];exact hb) (by have:=h.2.2;omega)
theorem Jx.po(h:Jx w bx ad n cap w1)(hn:n<=9223372036854775807)(hc:nF w ad n)(hnb:0< n->∀b off,ad=some ⟨b,off,none⟩->b≠bx): ∃at2,bR w1 bx ad n cap at2:=by
 obtain⟨h1,⟨a,h2,h3⟩,h4⟩:=h
 refine⟨a,h3,h2,hn,?_⟩
 rcases hc with hc|⟨b,off,rfl,hall⟩
 ·exact Or.inl hc
 ·refine Or.inr ⟨b,off,rfl,λj hj=>?_⟩
  obtain⟨z,hz,hr⟩:=hall j hj
  exact⟨z,h1.cell hz (hnb (by omega) b off rfl),hr⟩
theorem Jx.next{at2:Nat}(h:Jx w bx ad n cap w1)(hg:w1.grownBy w2 (some bx))(hd:bR w2 bx ad n cap at2):Jx w bx ad n cap w2:=
 ⟨h.1.grown hg (λk e _=>by cases e;rfl),⟨at2,hd.2.1,hd.1⟩,h.2.2⟩
theorem Jx.start{at2:Nat}(h:bR w bx ad n cap at2):Jx w bx ad n cap w:=
 ⟨Fr.refl _ _,⟨at2,h.2.1,h.1⟩,(IN.1 h.1).1⟩
end
end
section
attribute [local go_sem ↓] ym wP
attribute [local go_sem] xc rU wE sR
theorem xN(f:Operand->Value)(d:Option Tmp)(x:Operand)(ty:TypeId)(pos:String)(aft:Array Edge)(gd:Option (Nat×Bool))(w:World)(h:rR w (f x)):
  (execOp f {dst:=d,op:= .load 74 x,type:=ty,pos:=pos,after:=aft,guard:=gd}).run aa.prog w= .ok (.value (yh w (f x))) w:=by
 unfold rR at h
 split at h
 ·rename_i b o heq
  rw[heq,rU]
  unfold execOp
  simp only[heq,Instr.loadAt,Instr.sureAddr,YC,Zs,YU,run_loadVar_mid w b o 74 (iL w b o) _ (zi h) aa.underlying74 rfl (by rw[aa.yH,uH])]
 ·exact h.elim
attribute [local go_sem ↓] xN
def iw(l:List Mem)(r:Nat):Mem:=l.getD r (λ_=>0,λ_=>false)
theorem vZ(l:List Mem)(r:Nat)(h:r< l.length):iw l r=l[r]:=by
 unfold iw
 rw[List.getD_eq_getElem?_getD,Yn h];rfl
theorem vw{W:World}{p:Nat}{C:Array Value}{t:TypeId}(hC:C.size=84)(h:W.heap[p]? =some (.cells C t))(m:Mem):
  (storeCells ⟨p,0,none⟩ (bX m)).run aa.prog W= .ok () (W.setCells p 0 (bX m)):=by
 obtain⟨e,f⟩:=au h
 have:=run_storeCells_cells (P:=aa.prog) p 0 (bX m) 0 W (λj hj=>by
   have hj':j< 84:=by rwa [kU] at hj
   simp[e,hC,hj']) (λj hj=>by simpa using f j) (CL m)
 simpa using this
theorem uA{W:World}{p:Nat}{C:Array Value}{t:TypeId}(hC:C.size=84)(h:W.heap[p]? =some (.cells C t))(m:Mem):(W.setCells p 0 (bX m)).heap[p]? =some (.cells (bX m).toArray t):=by
 have:=C7 h (bX m).toArray (by rw[hC,List.size_toArray,kU])
 simpa using this
theorem De(W:World)(m:Mem):(storeCells ⟨W.heap.size,0,none⟩ (bX m)).run aa.prog (W.alloc (.cells eR 74))= .ok () ((W.alloc (.cells eR 74)).setCells W.heap.size 0 (bX m)):=
 vw hY (IS W _) m
theorem DD{w w1:World}{bx:Nat}(hg:(w.drew.alloc (.cells eR 74)).grownBy w1 (some bx))(hbx:bx< w.heap.size):w1.heap[w.heap.size]? =some (.cells eR 74):=by
 rw[hg.block w.heap.size (by simp) (λe=>by cases e;omega)]
 exact IS w.drew _
def HZ(bt k:Nat)(g:ax)(w':World):Prop:=
 w'.cell? ⟨bt,1922+k,none⟩=some (g.mv k)/\(∀r,r< (g.mem k).length->mf w' (g.gm k) (r*84))/\(∀r,r< (g.mem k).length->iL w' (g.gm k) (r*84)=bX (iw (g.mem k) r))
theorem aS.qh{w:World}{B bt k:Nat}{g:ax}(h:aS B w bt g)(hk:k< 3):HZ bt k g w:=by
 have hx:∀r,r< (g.mem k).length->w.rangeAt (g.gm k) (r*84) (bX (iw (g.mem k) r)):=λr hr j v hv=>by
  have hj:j< 84:=by have:=(YP.1 hv).1;rwa [kU] at this
  obtain⟨gw,cw,hwv,hw1,hw2,hcells⟩:=tq (h.cm k hk) (by omega)
  cases hwv
  refine hcells _ _ ?_ ?_
  ·omega
  ·rw[BT _ r hr j hj]
   rw[vZ _ _ hr] at hv
   exact hv
 refine⟨?_,λr hr=>(y8 (hx r hr) (kU _)).2,λr hr=>(y8 (hx r hr) (kU _)).1⟩
 rw[(au h.hT).1];exact h.eJ k hk
theorem qc(m:Mem)(j:Nat)(h:j< 80):(bX m).toArray[4+j]? =some (.bool (m.2 j)):=by
 rw[List.getElem?_toArray,bX,Yx (by simp)]
 have:=ma m.2 j h
 simp only[Ys,Zc]
 rw[show 4+j - (0+1+1+1+1)=j by omega,YS]
 exact this
end
def kC(w:World)(b o:Nat):List Value:=(List.range 80).map λj=>(w.cell? ⟨b,o+j,none⟩).getD undef
def hasB(w:World)(b o:Nat):Prop:=∀j,j< 80->(w.cell? ⟨b,o+j,none⟩).isSome=true
def okB(w:World):Value->Prop
 | .pointer (some ⟨b,o,none⟩)=>hasB w b o
 |_=>False
def Fy(w:World):Value->Value
 | .pointer (some ⟨b,o,none⟩)=> .agg (kC w b o).toArray
 |_=>undef
theorem sL(w:World)(b o:Nat):okB w (.pointer (some ⟨b,o,none⟩))=hasB w b o:=rfl
theorem rX(w:World)(b o:Nat):Fy w (.pointer (some ⟨b,o,none⟩))= .agg (kC w b o).toArray:=rfl
theorem AM(w:World)(b o:Nat):(kC w b o).length=80:=by simp[kC]
theorem Hu{w:World}{b o:Nat}(h:hasB w b o):w.rangeAt b o (kC w b o):=λj v hv=>by
 have hj:j< 80:=by have:=(YP.1 hv).1;rwa [AM] at this
 have:=h j hj
 obtain⟨u,hu⟩:=Option.isSome_iff_exists.1 this
 simp[kC,hj,hu] at hv
 rw[hu,hv]
theorem jn{w:World}{b o:Nat}{s:Nat->Bool}(h:∀j,j< 80->w.cell? ⟨b,o+j,none⟩=some (.bool (s j))):(kC w b o).toArray=bits s/\hasB w b o:=by
 refine⟨?_,λj hj=>by rw[h j hj];rfl⟩
 unfold bits kC
 congr 1
 refine Y9 λj hj=>?_
 rw[h j (YV.1 hj)];rfl
theorem tG(w:World)(b o:Nat):kC w.drew b o=kC w b o:=rfl
theorem uo(w:World)(b o:Nat):hasB w.drew b o=hasB w b o:=rfl
theorem sM(d:Option Tmp)(x:Operand)(ty:TypeId)(pos:String)(aft:Array Edge)(gd:Option (Nat×Bool))(a:Act)(w:World)(K:Act->World->Prop)(Q:Exit->Act->World->Prop)(h:okB w (a.eval x)):
  Oper.wp aa.prog {dst:=d,op:= .load 33 x,type:=ty,pos:=pos,after:=aft,guard:=gd} a w K Q=K (a.put d (Fy w (a.eval x))) w:=by
 unfold okB at h
 split at h
 ·rename_i b o heq
  rw[heq,rX]
  unfold Oper.wp execOp
  simp only[heq,Instr.loadAt,Instr.sureAddr,YC,Zs,YU,run_loadVar_mid w b o 33 (kC w b o) _ (Hu h) aa.underlying33 rfl (by rw[aa.sV,AM])]
  rfl
 ·exact h.elim
def kq(w:World)(b o:Nat):Prop:=w.there b o 80
theorem xg(w:World)(b o:Nat):kq w.drew b o=kq w b o:=rfl
def xP(w:World):Value->Value->Prop
 | .pointer (some ⟨b,o,none⟩),.agg cs=>kq w b o/\∃s,cs=bits s
 |_,_=>False
def En(w:World):Value->Value->World
 | .pointer (some ⟨b,o,none⟩),.agg cs=>w.setCells b o cs.toList
 |_,_=>w
theorem wY(w:World)(b o:Nat)(s:Nat->Bool):xP w (.pointer (some ⟨b,o,none⟩)) (.agg (bits s))=kq w b o:=by
 apply propext
 exact⟨λh=>h.1,λh=>⟨h,s,rfl⟩⟩
theorem uN(w:World)(b o:Nat)(cs:Array Value):En w (.pointer (some ⟨b,o,none⟩)) (.agg cs)=w.setCells b o cs.toList:=rfl
theorem wF(d:Option Tmp)(x y:Operand)(ty:TypeId)(pos:String)(aft:Array Edge)(gd:Option (Nat×Bool))(a:Act)(w:World)(K:Act->World->Prop)(Q:Exit->Act->World->Prop)(h:xP w (a.eval x) (a.eval y)):
  Oper.wp aa.prog {dst:=d,op:= .store 33 x y,type:=ty,pos:=pos,after:=aft,guard:=gd} a w K Q=K (a.put d undef) (En w (a.eval x) (a.eval y)):=by
 unfold xP at h
 split at h
 ·rename_i b o cs heq heq'
  obtain⟨h1,s,rfl⟩:=h
  rw[heq,heq',uN]
  unfold Oper.wp execOp
  simp only[heq,heq',Instr.storeAt,Instr.sureAddr,YC,Zs,YU,run_storeVar_mid w b o 33 (bits s) (by rw[ju];exact h1) (by rw[aa.sV,ju]) (Array.all_eq_true_iff_forall_mem.2 (λv hv=>yl s v (by simpa using hv)))]
  rfl
 ·exact h.elim
theorem pY{w:World}{b o:Nat}{A:Array Value}{t:TypeId}(h:w.heap[b]? =some (.cells A t))(hs:o+80<=A.size):kq w b o:=λj hj=>by
 obtain⟨e,f⟩:=au h
 refine⟨?_,f _⟩
 rw[e,Ym (by omega)];rfl
theorem pg{w:World}{b o:Nat}{A:Array Value}{t:TypeId}(h:w.heap[b]? =some (.cells A t))(hs:o+80<=A.size)(s:Nat->Bool):
  ∃A',(w.setCells b o (bits s).toList).heap[b]? =some (.cells A' t)/\A'.size=A.size/\(∀j,j< 80->A'[o+j]? =some (.bool (s j)))/\∀j,(j< o\/o+80<=j)->A'[j]? =A[j]? :=by
 obtain⟨A',h1,h2,h3⟩:=wZ b t (bits s).toList o w A h
 have hl:(bits s).toList.length=80:=by rw[YR,ju]
 refine⟨A',h1,h2,λj hj=>?_,λj hj=>?_⟩
 ·rw[h3,AT ⟨by omega,by omega,by omega⟩,show o+j - o=j by omega,YS]
  exact ma s j hj
 ·rw[h3,AS (by omega)]
end Go.Proofs.YtldmcdeibiclkaaGreatDoorQ
namespace Go.Proofs.YtldmcdeibiclkaaGreatDoorQ
def gy(f:Nat->Bool):Nat->Bool
 |0=>false
 |j+1=>gy f j||f j
def cR(f:Nat->Bool):Nat->Nat
 |0=>0
 |j+1=>cR f j+(if f j then 1 else 0)
theorem zP{f g:Nat->Bool}:∀{m:Nat},(∀j,j< m->f j=g j)->cR f m=cR g m
 |0,_=>rfl
 |m+1,h=>by rw[cR,cR,zP (λj hj=>h j (by omega)),h m (by omega)]
theorem xI{f m:Nat->Bool}:∀{n:Nat},(gy (λj=>f j && m j) n=false->cR (λj=>f j && !m j) n=cR f n)/\(gy (λj=>f j && m j) n=true->cR (λj=>f j && !m j) n< cR f n)/\cR (λj=>f j && !m j) n<=cR f n
 |0=>⟨λ_=>rfl,λh=>by simp[gy] at h,AI _⟩
 |n+1=>by
  obtain⟨h1,h2,h3⟩:=xI (f:=f) (m:=m) (n:=n)
  simp only[gy,cR]
  generalize gy (λj=>f j && m j) n=A at*
  generalize cR (λj=>f j && !m j) n=x at*
  generalize cR f n=y at*
  rcases Bool.eq_false_or_eq_true (f n) with hf|hf<;>rcases Bool.eq_false_or_eq_true (m n) with hm|hm<;>simp only[hf,hm]<;>cases A<;>simp at* <;>omega
theorem CP{ws:List Wr}{kn go:Nat->Bool}{k:Nat}(hk:∀(j:Nat) (x:Wr),ws[j]? =some x->kn j=true->x.2.1=k/\x.1< 4):∀m,m<=ws.length->
  (bV ws kn go k 0 m).length+(bV ws kn go k 1 m).length+(bV ws kn go k 2 m).length+(bV ws kn go k 3 m).length=cR (λj=>kn j && !go j) m
 |0,_=>by simp[bV,cR]
 |m+1,hm=>by
  have ih:=CP (go:=go) hk m (by omega)
  obtain⟨x,hx⟩: ∃x,ws[m]? =some x:=⟨ws[m],Yn (by omega)⟩
  rw[cR]
  by_cases h:kn m=true/\go m=false
  ·obtain⟨h1,h2⟩:=hk m x hx h.1
   have hb:∀b,(bV ws kn go k b (m+1)).length=(bV ws kn go k b m).length+(if x.1=b then 1 else 0):=λb=>by
    by_cases e:x.1=b
    ·rw[tM hx h1 e h.1 h.2,AT e];simp
    ·rw[pN hx (λq=>e q.2.1),AS e];rfl
   rw[hb,hb,hb,hb,h.1,h.2]
   simp only[Bool.not_false,Bool.and_self,XZ]
   rcases fg h2 with e|e|e|e<;>rw[e]<;>simp<;>omega
  ·have hb:∀b,bV ws kn go k b (m+1)=bV ws kn go k b m:=λb=>pN hx (λq=>h q.2.2)
   rw[hb,hb,hb,hb,ih]
   have hf:(kn m && !go m)=false:=by
    cases e1:kn m<;>cases e2:go m<;>simp_all
   rw[hf];simp
theorem tR{ws:List Wr}{kn go:Nat->Bool}{k:Nat}(hk:∀(j:Nat) (x:Wr),ws[j]? =some x->kn j=true->x.2.1=k/\x.1< 4):(expected ws kn go k).length=cR (λj=>kn j && !go j) ws.length:=by
 rw[←CP hk _ (AI _),expected,four]
 simp only[Yh]
 omega
theorem uL{ws:List Wr}{kn go m:Nat->Bool}{k:Nat}{c:Ctx}(hk:∀(j:Nat) (x:Wr),ws[j]? =some x->kn j=true->x.2.1=k/\x.1< 4)(hm:Good ws k c m):
  (aQ (expected ws kn go k) c).length=cR (λj=>(kn j && !go j) && !m j) ws.length:=by
 rw[vz (m:=m) (λj x hx hxk=>by rw[hm.1 j x hx];exact⟨λh=>h.2,λh=>⟨hxk,h⟩⟩),tR hk]
 refine zP λj _=>?_
 cases kn j<;>cases go j<;>cases m j<;>rfl
theorem FZ{ws:List Wr}{kn go m:Nat->Bool}{k:Nat}{c:Ctx}(hk:∀(j:Nat) (x:Wr),ws[j]? =some x->kn j=true->x.2.1=k/\x.1< 4)(hm:Good ws k c m)(h:gy (λj=>(kn j && !go j) && m j) ws.length=false):
  (aQ (expected ws kn go k) c).length=(expected ws kn go k).length:=by
 rw[uL hk hm,tR hk]
 exact xI.1 h
theorem Mf{ws:List Wr}{kn go m:Nat->Bool}{k:Nat}{c:Ctx}(hk:∀(j:Nat) (x:Wr),ws[j]? =some x->kn j=true->x.2.1=k/\x.1< 4)(hm:Good ws k c m)(h:gy (λj=>(kn j && !go j) && m j) ws.length=true):
  (aQ (expected ws kn go k) c).length< (expected ws kn go k).length:=by
 rw[uL hk hm,tR hk]
 exact xI.2.1 h
theorem Good.sound{ws:List Wr}{k:Nat}{c:Ctx}{m:Nat->Bool}(h:Good ws k c m)(hl:ws.length<=80):fX c=true:=by
 have hb:∀b,ew (c b)=true:=λb=>by
  have h1:=h.2.2 b
  have h2:=sW ws b k
  simp only[ew,Yt]
  omega
 simp[fX,hb]
end Go.Proofs.YtldmcdeibiclkaaGreatDoorQ
namespace Go.Proofs.YtldmcdeibiclkaaGreatDoorQ
open Go.RowKit
structure lV(X:Nat->Prop)(w:World)(bt i n0:Nat)(g:ax):Prop where
 only:∀b,X b->b=bt\/b=g.bm i n0\/∃cur,w.heap[b]? =some (.cells cur 115 (0,0))
 hi:i< g.nr
 hn:n0< 64
theorem aS.map{B:Nat}{w:World}{bt i n:Nat}{g:ax}(hN:aS B w bt g)(hi:i< g.nr)(hn:n< 64): ∃es clock,w.heap[g.bm i n]? =some (.map es clock):=by
 obtain⟨es,clock,h,_⟩:=(hN.bk i hi).2.1 n hn
 exact⟨es,clock,h⟩
theorem lV.cells{X:Nat->Prop}{B:Nat}{w:World}{bt i n0:Nat}{g:ax}(ht:lV X w bt i n0 g)(hN:aS B w bt g){b:Nat}{C:Array Value}{t:TypeId}{fr:Nat×Nat}(hb:w.heap[b]? =some (.cells C t fr))(h1:t≠42)(h2:t≠115): ¬ X b:=λh=>by
 rcases ht.only b h with e|e|⟨cur,e⟩
 ·rw[e,hN.hT] at hb;cases hb;exact h1 rfl
 ·obtain⟨es,clock,hm⟩:=hN.map ht.hi ht.hn
  rw[e,hm] at hb;cases hb
 ·rw[e] at hb;cases hb;exact h2 rfl
theorem lV.other{X:Nat->Prop}{B:Nat}{w:World}{bt i n0:Nat}{g:ax}(ht:lV X w bt i n0 g)(hN:aS B w bt g){j n:Nat}(hj:j< g.nr)(hn:n< 64)(hne:j≠i): ¬ X (g.bm j n):=λh=>by
 obtain⟨es,clock,hm⟩:=hN.map hj hn
 rcases ht.only _ h with e|e|⟨cur,e⟩
 ·rw[e,hN.hT] at hm;cases hm
 ·exact hne (hN.eP j i n n0 hj ht.hi hn ht.hn e)
 ·rw[hm] at e;cases e
theorem lV.rep{X:Nat->Prop}{B:Nat}{w w2:World}{bt i n0:Nat}{g:ax}(ht:lV X w bt i n0 g)(hN:aS B w bt g)(hF:Fr X w w2){j:Nat}(hj:j< g.nr)(hne:j≠i):aE w2 (g.b j) (g.bm j) j (g.K j):=by
 refine hF.rep (hN.bk j hj) ?_ (λn hn=>ht.other hN hj hn hne) (λb cur hb=>ht.cells hN hb (by decide) (by decide))
 obtain⟨⟨A,hA,_⟩,_⟩:=hN.bk j hj
 exact ht.cells hN hA (by decide) (by decide)
theorem jc.upd{K:aF}{key:ByteArray}{c:Ctx}{l:List aj}(h:jc K)(h1:∀v∈l,v.rep< 4)(h2:l.length<=100)(h3:∀v∈l,v.val.size<=12)(h4:∀i,i< 4->0<=c i/\c i<=1000000):jc (bq K key (c,l)):=by
 intro s
 by_cases e:s=key
 ·simp only[bq,AT e];exact⟨h1,h2,h3,h4⟩
 ·simp only[bq,AS e];exact h s
theorem Good.bounds{ws:List Wr}{k:Nat}{c:Ctx}{m:Nat->Bool}(h:Good ws k c m)(hl:ws.length<=80)(b:Nat):0<=c b/\c b<=80:=by
 have h1:=h.2.2 b
 have h2:=sW ws b k
 omega
theorem bF.known{ks:Nat->ByteArray}{g:ax}(hI:bF ks g){i k:Nat}(hi:i< g.nr)(hk:k< 3)(j:Nat)(x:Wr)(hx:g.ws[j]? =some x)(h:g.kn i k j=true):x.2.1=k/\x.1< 4:=
 ⟨(((hI.dB i k hi hk).1 j x hx).1 h).1,hI.dS x (aaj hx)⟩
def ax.fU(g:ax)(ks:Nat->ByteArray)(i k:Nat)(m:Mem)(A:Array Value):ax:=
 {g with
  K:=λj=>if j=i then bq (g.K i) (ks k) (aL (g.K i (ks k)).1 m.1,aQ (g.K i (ks k)).2 m.1) else g.K j
  kn:=λj l q=>if j=i/\l=k then g.kn i k q||m.2 q else g.kn j l q
  go:=λj l q=>if j=i/\l=k then g.go i k q||m.2 q else g.go j l q
  A:=A}
theorem bF.fU{ks:Nat->ByteArray}{g:ax}(hI:bF ks g)(dQ:∀k l,k< 3->l< 3->ks k=ks l->k=l){i k:Nat}{m:Mem}(A:Array Value)(hi:i< g.nr)(hk:k< 3)(hm:Good g.ws k m.1 m.2):bF ks (g.fU ks i k m A) where
 aZ:=hI.aZ
 hlen:=hI.hlen
 eS:=hI.eS
 dx:=hI.dx
 dS:=hI.dS
 dB:=λj l hj hl=>by
  simp only[ax.fU]
  by_cases e:j=i
  ·subst e
   by_cases e':l=k
   ·subst e'
    simpa[bq] using (hI.dB j l hi hl).join hm
   ·have hne:ks l≠ks k:=λq=>e' (dQ l k hl hk q)
    simpa[bq,e',hne] using hI.dB j l hj hl
  ·simpa[e] using hI.dB j l hj hl
 aA:=λj l hj hl=>by
  simp only[ax.fU]
  by_cases e:j=i
  ·subst e
   by_cases e':l=k
   ·subst e'
    have h1:=hI.aA j l hj hl
    have h2:=(hm.2.2 j).2
    simp only[XZ,bq,aL]
    omega
   ·have hne:ks l≠ks k:=λq=>e' (dQ l k hl hk q)
    simpa[bq,hne] using hI.aA j l hj hl
  ·simpa[e] using hI.aA j l hj hl
 hex:=λj l hj hl=>by
  simp only[ax.fU]
  by_cases e:j=i
  ·subst e
   by_cases e':l=k
   ·subst e'
    simp only[XZ,bq,and_self]
    rw[hI.hex j l hj hl]
    exact T3 (m:=m.2) (λq x hx hxk=>by rw[hm.1 q x hx];exact⟨λh=>h.2,λh=>⟨hxk,h⟩⟩) (λ_ _=>rfl) (λ_ _=>rfl)
   ·have hne:ks l≠ks k:=λq=>e' (dQ l k hl hk q)
    simpa[bq,e',hne] using hI.hex j l hj hl
  ·simpa[e] using hI.hex j l hj hl
 im:=λj l q hj hl hq=>by
  simp only[ax.fU]
  by_cases e:j=i/\l=k
  ·rw[AT e,hI.im i k q hi hk hq,hm.2.1 q hq];rfl
  ·rw[AS e];exact hI.im j l q hj hl hq
 jN:=hI.jN
 jw:=hI.jw
 eL:=λj hj=>by
  simp only[ax.fU]
  by_cases e:j=i
  ·subst e
   rw[AT rfl]
   have hK:=hI.eL j hj
   refine hK.upd (λv hv=>(hK (ks k)).1 v (List.mem_filter.1 hv).1) (X0 (aaa _ _) (hK (ks k)).2.1) (λv hv=>(hK (ks k)).2.2.1 v (List.mem_filter.1 hv).1) λb _=>?_
   have h1:=((hI.dB j k hj hk).join hm).bounds hI.hlen b
   omega
  ·rw[AS e];exact hI.eL j hj
 gq:=λj hj s hs=>by
  simp only[ax.fU] at hs
  by_cases e:j=i
  ·subst e
   rw[AT rfl] at hs
   by_cases e':s=ks k
   ·exact⟨k,hk,e'⟩
   ·simp only[bq,AS e'] at hs
    exact hI.gq j hj s hs
  ·rw[AS e] at hs;exact hI.gq j hj s hs
 dF:=λj l q hj hl h=>by
  simp only[ax.fU] at h ⊢
  by_cases e:j=i/\l=k
  ·obtain⟨rfl,rfl⟩:=e
   simp only[and_self,XZ,YF] at h ⊢
   exact h.imp (hI.dF j l q hj hl) id
  ·rw[AS e] at h ⊢;exact hI.dF j l q hj hl h
theorem aS.fU{X:Nat->Prop}{B:Nat}{w w2:World}{bt:Nat}{g:ax}{ks:Nat->ByteArray}{i k n0:Nat}{m:Mem}{A:Array Value}(hN:aS B w bt g)(hF:Fr X w w2)(hX:∀b,X b->b=bt\/b=g.bm i n0)(hi:i< g.nr)(hi4:i< 4)(hk:k< 3)(hn:n0< 64)(hT:w2.heap[bt]? =some (.cells A 42))(hA:A.size=1939)(bk:aE w2 (g.b i) (g.bm i) i (bq (g.K i) (ks k) (aL (g.K i (ks k)).1 m.1,aQ (g.K i (ks k)).2 m.1)))(hg:∀j,j< 80->A[962+i*240+k*80+j]? =some (.bool (g.go i k j||m.2 j)))(bd:∀j,j< 80->A[2+i*240+k*80+j]? =some (.bool (g.kn i k j||m.2 j)))(ho:∀q,(q< 2+i*240+k*80\/2+i*240+k*80+80<=q)->(q< 962+i*240+k*80\/962+i*240+k*80+80<=q)->A[q]? =g.A[q]?):aS B w2 bt (g.fU ks i k m A):=by
 have ht:lV X w bt i n0 g:=⟨λb h=>by rcases hX b h with e|e;exact Or.inl e;exact Or.inr (Or.inl e),hi,hn⟩
 have hwr:∀b cur,w.heap[b]? =some (.cells cur 115 (0,0))->¬ X b:=λb cur hb h=>by
  rcases hX b h with e|e
  ·rw[e,hN.hT] at hb;cases hb
  ·obtain⟨es,clock,hm'⟩:=hN.map hi hn
   rw[e,hm'] at hb;cases hb
 exact {
  hB:=hN.hB
  hT:=hT
  hA:=hA
  h0:=by show A[0]? =_;rw[ho 0 (by omega) (by omega)];exact hN.h0
  hR:=hF.heap hN.hR (ht.cells hN hN.hR (by decide) (by decide))
  eZ:=hN.eZ
  bk:=λj hj=>by
   simp only[ax.fU]
   by_cases e:j=i
   ·subst e;rw[AT rfl];exact bk
   ·rw[AS e];exact ht.rep hN hF hj e
  eP:=hN.eP
  h1:=by show A[1]? =_;rw[ho 1 (by omega) (by omega)];exact hN.h1
  hw:=hF.iO hN.hw hwr
  bd:=λj l q hj hl hq=>by
   simp only[ax.fU]
   by_cases e:j=i/\l=k
   ·obtain⟨rfl,rfl⟩:=e
    rw[AT ⟨rfl,rfl⟩];exact bd q hq
   ·rw[AS e,ho _ (by omega) (by omega)];exact hN.bd j l q hj hl hq
  hgo:=λj l q hj hl hq=>by
   simp only[ax.fU]
   by_cases e:j=i/\l=k
   ·obtain⟨rfl,rfl⟩:=e
    rw[AT ⟨rfl,rfl⟩];exact hg q hq
   ·rw[AS e,ho _ (by omega) (by omega)];exact hN.hgo j l q hj hl hq
  eJ:=λl hl=>by show A[1922+l]? =_;rw[ho _ (by omega) (by omega)];exact hN.eJ l hl
  cm:=λl hl=>hF.iO (hN.cm l hl) λb cur hb=>ht.cells hN hb (by decide) (by decide)
  eF:=hN.eF
  ki:=λj l hj hl=>by show A[1927+j*3+l]? =_;rw[ho _ (by omega) (by omega)];exact hN.ki j l hj hl}
def NR(sv:Value)(g:Nat):Prop:=∀a l c,sv= .slice (some a) l c->a.block≠g
theorem G4{w:World}{B n size:Nat}{t:TypeId}{v:Value}{xs:List Value}(h:w.ownsRow B t size v n xs):∀g,g< B->NR v g:=by
 intro g hg a l c hv e
 rcases h.2 with h2|⟨g',cap,cur,hv',hg',_⟩
 ·rw[h2.1] at hv;cases hv
 ·rw[hv'] at hv;cases hv;simp at e;omega
theorem OA{w:World}{sv:Value}{l:List aj}(h:aC w sv l)(X:Obj):aC (w.alloc X) sv l:=Yc h X
theorem vi{w:World}{sv:Value}{l:List aj}{g o:Nat}{v:Value}(h:aC w sv l)(hn:NR sv g):aC (w.setCell ⟨g,o,none⟩ v) sv l:=by
 obtain⟨h1,h2⟩:=h
 refine⟨h1,?_⟩
 rcases h2 with h2|⟨g',cap,cur,hv,hg,hh,r⟩
 ·exact Or.inl h2
 ·refine Or.inr ⟨g',cap,cur,hv,hg,?_,r⟩
  rw[Yj _ _ _ _ (hn _ _ _ hv)];exact hh
theorem CD(b num:Nat)(bm:Nat->Nat)(K:aF)(key val:ByteArray)(seen:Ctx)(w:World)(h:aE w b bm num K)(hK:jc K)(hkey:cL key=true)(dQ:key.size<=8)(hvs:val.size<=12)(hseen:fX seen=true)(hnum:num< 4)(hn:(aQ (K key).2 seen).length< 20)(h0:0<=aL (K key).1 seen num)(h1:aL (K key).1 seen num< 1000000):
  Calls aa.prog 21 #[.pointer (some ⟨b,0,none⟩),.string key,.string val,cA seen] w λe w'=>e= .returned (.int .i64 0)/\∃l',l'.Perm (aQ (K key).2 seen++ [(num,aL (K key).1 seen num+1,val)])/\l'.Pairwise (λa b=>aR b a=false)/\aE w' b bm num (bq K key (bump (aL (K key).1 seen) num,l'))/\w.grownBy w' (some (bm (ay key))):=by
 have hb:=h.1
 have HRep:Hid (aE w b bm num K):=h
 obtain⟨es,clock,hm,hk,hall,_⟩:=h.2.1 _ (fa key)
 obtain⟨sv,hent,hvs0⟩:=hall key rfl
 obtain⟨ad,cap,rfl,hcap⟩:=hvs0.len
 have hlk:∀W:World,W.heap[bm (ay key)]? =some (.map es clock)->(Instr.lookup 98 (.map (some (bm (ay key)))) (.string key) false).run aa.prog W= .ok (bh (K key).1 (.slice ad (K key).2.length cap)) W:=λW hW=>by
  rw[oC W _ es clock key hW hk,hent]
 have HSeg:Hid (∀W,er W b bm num->Calls aa.prog 39 #[.pointer (some ⟨b,0,none⟩),.string key] W λe w'=>e= .returned (.map (some (bm (ay key))))/\Below W.heap.size W w'/\w'.heap.size=W.heap.size):=λW hW=>si b num bm key W (by unfold maxLen;omega) hW
 have hbc0:w.cell? ⟨b,0,none⟩=some (.int .i64 num):=hb.num
 have HBlk:Hid (∀W,Below w.heap.size w W->er W b bm num):=λW hW=>(h.below hW).1
 have HL:Hid ((K key).2.length<=100000):=X0 (hK key).2.1 (by decide)
 have HR:Hid (∀v∈(K key).2,v.rep< 4):=(hK key).1
 generalize (K key).1=c at*
 generalize (K key).2=l at*
 have HV:Hid _:=hvs0
 have HN:Hid _:=And.intro hn (And.intro h0 h1)
 have HKn:Hid (cQ (bump (aL c seen) num)):=(show cQ (bump (aL c seen) num) from⟨num,hnum,by simp only[bump,XZ];omega⟩)
 have HCK:Hid _:=oH key
 have HCV:Hid _:=vL val
 have HSO:Hid _:=qO seen
 have hvd:decide (val.size<=12)=true:=by simpa using hvs
 clear hvs0 hall hent hK hn h0 h1 h
 generalize hbms:bm (ay key)=bms at*
 have HBMS:Hid _:=hbms
 clear hbms
 go_enter aa.func21,aa.ntmps21
 go_wp2_with (first
  |(go_at_call 36;refine (HCK.out _ (by unfold maxLen;omega)).mono ?_;rw[hkey];rintro e w1 ⟨rfl,rfl⟩)
  |(go_at_call 37;refine (HCV.out _ (by unfold maxLen;omega)).mono ?_;rw[hvd];rintro e w1 ⟨rfl,rfl⟩)
  |(go_at_call 38;refine (HSO.out _).mono ?_;rw[hseen];rintro e w2 ⟨rfl,hb2⟩;obtain⟨c2,hB2,hz2⟩:=sx hb2;clear hb2))
 have hmk:Hid (∀w',Below w2.heap.size w2 w'->er w' b bm num/\w'.cell? ⟨b,0,none⟩=some (.int .i64 num)/\(Instr.lookup 98 (.map (some bms)) (.string key) false).run aa.prog w'= .ok (bh c (.slice ad l.length cap)) w'/\aC w' (.slice ad l.length cap) l/\w'.cell? ⟨w.heap.size+1,0,none⟩=some (.int .i64 (seen 0))/\w'.cell? ⟨w.heap.size+1,1,none⟩=some (.int .i64 (seen 1))/\w'.cell? ⟨w.heap.size+1,2,none⟩=some (.int .i64 (seen 2))/\w'.cell? ⟨w.heap.size+1,3,none⟩=some (.int .i64 (seen 3))):=λw' hw=>
  ⟨HBlk.out _ (bG hB2 hw),aX (aX hbc0 hB2) hw,hlk w' (aY (aY hm hB2) hw),(aC.below HV.out hB2).below hw,aX (c2 0) hw,aX (c2 1) hw,aX (c2 2) hw,aX (c2 3) hw⟩
 have HB2:Hid _:=hB2
 clear hB2 c2 hlk
 go_region_held3 (λw'=>er w' b bm num/\w'.cell? ⟨b,0,none⟩=some (.int .i64 num)/\(Instr.lookup 98 (.map (some bms)) (.string key) false).run aa.prog w'= .ok (bh c (.slice ad l.length cap)) w'/\aC w' (.slice ad l.length cap) l/\w'.cell? ⟨w.heap.size+1,0,none⟩=some (.int .i64 (seen 0))/\w'.cell? ⟨w.heap.size+1,1,none⟩=some (.int .i64 (seen 1))/\w'.cell? ⟨w.heap.size+1,2,none⟩=some (.int .i64 (seen 2))/\w'.cell? ⟨w.heap.size+1,3,none⟩=some (.int .i64 (seen 3)))
  ((refine hmk.out _ ?_;first|(simp (maxDischargeDepth:=12) [By,XX,XY,Yg];done)|(simp (maxDischargeDepth:=12) [By,XX,XY,Yg,B3,y3];done)|(simp (maxDischargeDepth:=12) [By,XX,XY,Yg,B6,y6];done)|(simp (maxDischargeDepth:=12) [By,XX,XY,Yg,B4,y4,y3,y6];done)))
  (first
   |(go_at_call 39;refine BY (HSeg.out _ (by go_split_ands;assumption)) ?_;rintro e w6 ⟨rfl,hb6,z6⟩;obtain⟨s1,s2⟩:=jK hb6;(try simp only[Zi,kH] at z6);have B6:Below w2.heap.size w2 w6:=ji hb6 (by first|(simp (maxDischargeDepth:=12) [By,XX,XY];done)|(simp (maxDischargeDepth:=12) [By,XX,XY,B3,y3];done));have y6:=B6.size;(try (have x6:w2.heap.size< w6.heap.size:=by omega));(try (have x6':w3.heap.size< w6.heap.size:=by omega));clear hb6)
   |(go_at_call 41;refine (qG val _ (by omega)).mono ?_;rintro e w3 ⟨rfl,hb3⟩;obtain⟨q1,q2⟩:=jK hb3;have B3:Below w2.heap.size w2 w3:=ji hb3 (by first|(simp (maxDischargeDepth:=12) [By,XX,XY];done)|(simp (maxDischargeDepth:=12) [By,XX,XY,B6,y6];done));have y3:=B3.size;have z3:=hb3.size;(try simp only[Zi,kH] at z3);(try (have x3:w2.heap.size< w3.heap.size:=by omega));(try (have x3':w6.heap.size< w3.heap.size:=by omega));clear hb3)
   |(go_at_call 40;refine (FX c _ l num val seen _ (by go_split_ands;assumption) HR.out HL.out hnum HN.out.1 HN.out.2.1 HN.out.2.2).mono ?_;rintro e w4 ⟨v',l',rfl,hperm,hsort,aA,hb4⟩;obtain⟨ad',cap',hv'⟩:=kM aA;subst hv';have V4:=aC.rP aA;have N4:=G4 aA;(try simp only[Zi,kH] at N4);(try (have n2:=N4 w2.heap.size (by omega)));(try (have n3:=N4 w3.heap.size (by omega)));(try (have n6:=N4 w6.heap.size (by omega)));clear N4;obtain⟨p1,p2⟩:=jK hb4;have B4:Below w2.heap.size w2 w4:=ji hb4 (by first|(simp (maxDischargeDepth:=12) [By,XX,XY,B3,y3];done)|(simp (maxDischargeDepth:=12) [By,XX,XY,B6,y6];done));have y4:=B4.size;have HP:Hid _:=hperm;have HS:Hid _:=hsort;clear aA hb4 hperm hsort))
 all_goals
  go_wp2_with (go_at_call 42;go_must (refine (Bb b num bm K key (bump (aL c seen) num) _ l' _ ⟨by omega,hkey⟩ HKn.out (aE.below HRep.out (bG HB2.out (by simp (maxDischargeDepth:=12) [By,XX,XY,Yg,B4,y4,y3,y6]))) (by first|(simp[OA,V4];done)|(simp (maxDischargeDepth:=12) [vi,V4,n2];done)|(simp (maxDischargeDepth:=12) [vi,V4,n3];done)|(simp (maxDischargeDepth:=12) [vi,V4,n6];done))).mono ?_);rintro e w5 ⟨rfl,hrep5,hg5⟩;have B5:=sr (w:=w2) (by simp (maxDischargeDepth:=12) [By,XX,XY,Yg,B4,y4,y3,y6]) hg5;have HR5:Hid _:=hrep5;clear hrep5 hg5)
  go_ret
  exact⟨rfl,l',HP.out,HS.out,HR5.out,by have g:=sr HB2.out B5;rw[HBMS.out] at g;exact g⟩
end Go.Proofs.YtldmcdeibiclkaaGreatDoorQ
