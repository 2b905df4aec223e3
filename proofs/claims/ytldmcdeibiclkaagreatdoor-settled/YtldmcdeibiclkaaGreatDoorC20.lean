/-
  Toward settled_holds: Contracts: what is sound is found sound: isOne, State.Sound, isOf.
-/
import Derived.Test.YtldmcdeibiclkaaGreatDoorC19
import Derived.Test.YtldmcdeibiclkaaGreatDoorC18
import Derived.Test.YtldmcdeibiclkaaGreatDoorC17
set_option linter.unusedVariables false
set_option linter.unusedSimpArgs false
set_option maxRecDepth 100000
set_option maxHeartbeats 20000000
namespace Go.Proofs.YtldmcdeibiclkaaGreatDoorQ
variable {w w' wr w1:World}{k b B:Nat}{v:Value}{xs:List Value}{K:aw}{s key:ByteArray}{bm:Nat->Nat}{l:List aj}{e t:TypeId}{M:Array Value}
open Go.RowKit
structure lu(c:Ctx)(l:List aj):Prop where
 ctx:gD c=true
 some: ∃i,i<4/\c i≠0
 iV:∀v∈l,v.rep<4/\1<=v.n/\v.val.size<=12/\v.n<=c v.rep
 sorted:l.Pairwise λa b=>aR a b=true
theorem NM(r:Nat)(n:Int)(t:ByteArray)(w:World)(h1:r<4)(h2:1<=n)(h3:t.size<=12):
  Calls aa.prog 161 #[.agg #[.int .i64 r,.int .i64 n,.string t]] w λe w'=>e=.returned (.bool true)/\Below w.heap.size w w':=by
 have HV:Hid (∀W,Calls aa.prog 37 #[.string t] W λe w'=>e=.returned (.bool true)/\w'=W):=λW=>by
  have:=wU t W (by unfold maxLen;omega);rw[YD h3]at this;exact this
 have a1:(r:Int)<4:=by omega
 have a0:(0:Int)<=(r:Int):=by omega
 go_enter aa.func161,aa.ntmps161;go_wp2_with (go_at_call 37;refine (HV.out _).mono ?_;rintro e w' ⟨rfl,rfl⟩)
 go_ret;exact⟨rfl,(AT _ _).alloc (iR _) _⟩
theorem KS(d:Nat)(W:World)(a b c e:Int)(h:a≠0\/b≠0\/c≠0\/e≠0):(Op.equalIn (d+2) 102 (.agg #[.int .i64 a,.int .i64 b,.int .i64 c,.int .i64 e]) (.agg #[.int .i64 0,.int .i64 0,.int .i64 0,.int .i64 0])).run aa.prog W=.ok false W:=by
 have u3:=aa.underlying3;have u9:=aa.underlying102;have a3:=aa.isAgg3;have z3:=aa.sizeOf3;rw[Op.equalIn];simp only[Xt,Yb u9,XJ];go_simp;rw[show List.range' 0 4= [0,1,2,3] from rfl];simp only[List.forIn_cons,List.forIn_nil,Xt,a3,XJ,Xf,Xd];by_cases ha:a=0
 ·by_cases hb:b=0
  ·by_cases hc:c=0
   ·have he:e≠0:=by omega
    go_simp
   ·go_simp
  ·go_simp
 ·go_simp
theorem FB(W:World)(q:Nat)(os:Array Obj):Below W.heap.size W (Go.Sort.grow (W.drewN q) os):=
 ⟨rfl,rfl,rfl,by simp[Go.Sort.grow],λk hk=>by simp[Go.Sort.grow,Array.getElem?_append,hk]⟩
theorem QD(c:Ctx)(sv:Value)(l:List aj)(w:World)(h:aC w sv l)(hs:lu c l)(hl:l.length<=100000):
  Calls aa.prog 140 #[bL c sv] w λe w'=>e=.returned (.bool true)/\Below w.heap.size w w':=by
 have HS:Hid (∀W,Calls aa.prog 38 #[c9 c] W λe w'=>e=.returned (.bool true)/\Below W.heap.size W w'):=λW=>by
  have:=sA c W;rw[hs.ctx]at this;exact this
 obtain⟨ad,cap,rfl,hcap⟩:=h.len;have HV:Hid (aC w (.slice ad l.length cap) l):=h;have HSS:Hid (lu c l):=hs;have hz:∀W,(Op.equalIn 10000 102 (.agg #[.int .i64 (c 0),.int .i64 (c 1),.int .i64 (c 2),.int .i64 (c 3)]) (.agg #[.int .i64 0,.int .i64 0,.int .i64 0,.int .i64 0])).run aa.prog W=.ok false W:=λW=>by
  refine KS 9998 W _ _ _ _ ?_;obtain⟨i,hi,hn⟩:=hs.some;rcases fp hi with rfl|rfl|rfl|rfl
  ·exact .inl hn
  ·exact .inr (.inl hn)
  ·exact .inr (.inr (.inl hn))
  ·exact .inr (.inr (.inr hn))
 clear h hs;go_enter aa.func140,aa.ntmps140;go_wp2_with (go_at_call 38;refine (HS.out _).mono ?_;rintro e w1 ⟨rfl,hb1⟩;obtain⟨c1,f1⟩:=al (aQ (BY w _) hb1);have HB1:Hid (Below w.heap.size w w1):=bc ((AT _ _).alloc (iR _) _) hb1;have HC1:Hid (w1.heap[w.heap.size]?=some (.cells #[.int .i64 (c 0),.int .i64 (c 1),.int .i64 (c 2),.int .i64 (c 3),.slice ad l.length cap] 106)):=aQ (BY w _) hb1;clear hb1)
 have HV1:Hid (aC w1 (.slice ad l.length cap) l):=ec HV.out HB1.out (iR _);have hw1:w.heap.size<w1.heap.size:=(Array.getElem?_eq_some_iff.1 HC1.out).1;clear HS c1 f1 hz HV;go_loopw [18] (λiv wr=>∃k:Nat,k<=l.length/\iv=.int .i64 k/\Hid (Below w1.heap.size w1 wr)) (λiv _=>l.length-(intOf iv).toNat)
 case atStart=>exact⟨0,by omega,rfl,AT _ _⟩
 case round=>
  obtain⟨k,hk,rfl,HB⟩:=hrel;have hwr:=HB.out.size;by_cases hlt:k<l.length
  ·obtain⟨g,cap',hsv',hg,_,_,d0,d1,d2⟩:=aC.cells (aC.below HV1.out HB.out) hlt;cases hsv';obtain⟨s1,s2,s3,s4⟩:=HSS.out.iV _ (Xe hlt);have k1:(k:Int)<(l.length:Int):=by omega
   have k0:(0:Int)<=(k:Int):=by omega
   have HBox:Hid (wr.heap[w.heap.size]?=some (.cells #[.int .i64 (c 0),.int .i64 (c 1),.int .i64 (c 2),.int .i64 (c 3),.slice (some ⟨g,0,none⟩) l.length cap] 106)):=aQ HC1.out HB.out;have HPrev:Hid (∀j (h:j<l.length) w',Below wr.heap.size wr w'->w'.cell? ⟨g,j*3,none⟩=some (.int .i64 l[j].rep)/\w'.cell? ⟨g,j*3+1,none⟩=some (.int .i64 l[j].n)/\w'.cell? ⟨g,j*3+2,none⟩=some (.string l[j].val)):=λj hj w' hw=>by
    obtain⟨g',cap2,e,_,_,_,x0,x1,x2⟩:=aC.cells (aC.below HV1.out (bc HB.out hw)) hj;cases e;exact⟨x0,x1,x2⟩
   have HSort:Hid (∀j (h:j<k),aR (l[j]'(by omega)) l[k]=true):=λj h=>List.pairwise_iff_getElem.1 HSS.out.sorted j k (by omega) hlt h;generalize hv:l[k]=v at*;obtain⟨r,n,t⟩:=v;simp only[aj.rep,aj.n,aj.val] at*;have HOne:Hid (∀W,Calls aa.prog 161 #[.agg #[.int .i64 r,.int .i64 n,.string t]] W λe w'=>e=.returned (.bool true)/\Below W.heap.size W w'):=λW=>NM r n t W s1 s2 s3;have HSn:Hid (∀W,Calls aa.prog 83 #[c9 c,.agg #[.int .i64 r,.int .i64 n]] W λe w'=>e=.returned (.bool true)/\Below W.heap.size W w'):=λW=>by
    have:=tO c r n W s1;rw[YD s4]at this;exact this
   have HWv:Hid (∀w',Below (wr.heap.size+1) (wr.alloc (.cells #[.int .i64 r,.int .i64 n,.string t] 144)) w'->(∀o,w'.cell? ⟨wr.heap.size,o,none⟩=#[Value.int .i64 r,.int .i64 n,.string t][o]?)/\(∀o,w'.cell? ⟨w.heap.size,o,none⟩=#[Value.int .i64 (c 0),.int .i64 (c 1),.int .i64 (c 2),.int .i64 (c 3),.slice (some ⟨g,0,none⟩) l.length cap][o]?)/\Below wr.heap.size wr w'):=λw' hw=>by
    have hb':Below (wr.alloc (.cells #[.int .i64 r,.int .i64 n,.string t] 144)).heap.size (wr.alloc (.cells #[.int .i64 r,.int .i64 n,.string t] 144)) w':=by simpa using hw
    have hb0:Below wr.heap.size wr w':=bc ((AT _ _).alloc (iR _) _) hb';exact⟨(al (aQ (BY wr _) hb')).1,(al (aQ HBox.out hb0)).1,hb0⟩
   go_upto_region 8 with (first
    |(go_at_call 161;refine (HOne.out _).mono ?_;rintro e w2 ⟨rfl,hb2⟩;rw[show (wr.alloc (.cells #[.int .i64 r,.int .i64 n,.string t] 144)).heap.size=wr.heap.size+1 by simp]at hb2;obtain⟨v2,b2,_⟩:=HWv.out _ hb2;have HB2:Hid (Below (wr.heap.size+1) (wr.alloc (.cells #[.int .i64 r,.int .i64 n,.string t] 144)) w2):=hb2;clear hb2)
    |(go_at_call 83;refine (HSn.out _).mono ?_;rintro e w3 ⟨rfl,hb3⟩;have hb3':=HB2.out.trans (hb3.mono (by have:=HB2.out.size;simpa using this));obtain⟨v3,b3,x3⟩:=HWv.out _ hb3';have HB3:Hid (Below wr.heap.size wr w3):=x3;clear hb3 hb3' x3))
   have hk3:Hid (Below w1.heap.size w1 w3):=bc HB.out HB3.out;by_cases hk0:k=0
   ·subst hk0;go_quiet (fail);go_wp2;exact⟨⟨1,by omega,by go_num,Xz hk3.out _⟩,by simp[intOf];omega⟩
   ·obtain⟨j,rfl⟩: ∃j,k=j+1:=⟨k-1,by omega⟩
    obtain⟨p0,p1,p2⟩:=HPrev.out j (by omega) w3 HB3.out;have hjl:j<l.length:=by omega
    have hlj:=HSort.out j (by omega);generalize hvj:l[j]=u at*;obtain⟨r',n',t'⟩:=u;simp only[aj.rep,aj.n,aj.val] at*;have hcmp: ∃z:Int,z<0/\kD (gI r' r) (gI n' n)=z:=⟨_,by
     simp only[aR,aj.rep,aj.n,Xs]at hlj;unfold kD gI;split<;>split<;>omega,rfl⟩
    obtain⟨z,hz0,hz⟩:=hcmp;have HD:Hid (∀W,Calls aa.prog 66 #[.agg #[.int .i64 r',.int .i64 n',.string t'],.agg #[.int .i64 r,.int .i64 n,.string t]] W λe w'=>e=.returned (.int .i64 z)/\Below W.heap.size W w'):=λW=>by
     refine (wN r' n' r n t' t W).mono ?_;rintro e w' ⟨rfl,q,os',rfl⟩;exact⟨by rw[hz],FB W q os'⟩
    have j1:((j:Int)+1-1)=(j:Int):=by omega
    have j2:(0:Int)<=(j:Int):=by omega
    have j3:(j:Int)<(l.length:Int):=by omega
    have y4:=b3 4;have q0:=v3 0;have q1:=v3 1;have q2:=v3 2;simp at y4 q0 q1 q2;have hmk:Hid (∀w',Below w3.heap.size w3 w'->w'.cell? ⟨w.heap.size,4,none⟩=some (.slice (some ⟨g,0,none⟩) l.length cap)/\w'.cell? ⟨g,j*3,none⟩=some (.int .i64 r')/\w'.cell? ⟨g,j*3+1,none⟩=some (.int .i64 n')/\w'.cell? ⟨g,j*3+2,none⟩=some (.string t')/\w'.cell? ⟨wr.heap.size,0,none⟩=some (.int .i64 r)/\w'.cell? ⟨wr.heap.size,1,none⟩=some (.int .i64 n)/\w'.cell? ⟨wr.heap.size,2,none⟩=some (.string t)):=λw' hw=>⟨aU y4 hw,aU p0 hw,aU p1 hw,aU p2 hw,aU q0 hw,aU q1 hw,aU q2 hw⟩
    clear y4 q0 q1 q2 p0 p1 p2 b3 v3 b2 v2 hlj hz hvj hv d0 d1 d2;obtain⟨kI,hkI⟩: ∃z:Int,((j+1:Nat):Int)=z:=⟨_,rfl⟩
    have m1:IntKind.i64.wrap (kI-1)=(j:Int):=by rw[IntKind.wrap_i64];omega
    have m2:(0:Int)<kI:=by omega
    have m3:kI<=100000:=by omega
    have HkI:Hid (kI=(j:Int)+1):=(show kI=(j:Int)+1 by omega)
    rw[hkI] at*;clear j1 hkI;go_region_held3 (λw'=>w'.cell? ⟨w.heap.size,4,none⟩=some (.slice (some ⟨g,0,none⟩) l.length cap)/\w'.cell? ⟨g,j*3,none⟩=some (.int .i64 r')/\w'.cell? ⟨g,j*3+1,none⟩=some (.int .i64 n')/\w'.cell? ⟨g,j*3+2,none⟩=some (.string t')/\w'.cell? ⟨wr.heap.size,0,none⟩=some (.int .i64 r)/\w'.cell? ⟨wr.heap.size,1,none⟩=some (.int .i64 n)/\w'.cell? ⟨wr.heap.size,2,none⟩=some (.string t))
     ((refine hmk.out _ ?_;first|exact hb4|(simp (maxDischargeDepth:=12) [AT,IT];done)))
     (first|(go_at_call 66;refine By (HD.out _) ?_;rintro e w4 ⟨rfl,hb4'⟩;have hb4:Below w3.heap.size w3 w4:=bc (AT _ _).drew hb4';clear hb4'))
    all_goals
     go_wp2;exact⟨⟨j+2,by omega,by rw[HkI.out];go_num,bc hk3.out hb4⟩,by rw[HkI.out];simp[intOf];omega⟩
  ·obtain rfl:k=l.length:=by omega
   go_wp2;go_ret;exact⟨rfl,HB1.out.trans (HB.out.mono HB1.out.size)⟩
theorem TD(key:ByteArray)(c:Ctx)(sv:Value)(l:List aj)(n:Nat)(w:World)(h:aC w sv l)(hs:lu c l)(hl:l.length<=100000)(hk:cV key=true)(ed:key.size<=8)(hn:ay key=n):
  Calls aa.prog 102 #[.agg #[.string key,.int .i64 (c 0),.int .i64 (c 1),.int .i64 (c 2),.int .i64 (c 3),sv],.int .i64 n] w λe w'=>e=.returned (.bool true)/\Below w.heap.size w w':=by
 obtain⟨ad,cap,rfl,hcap⟩:=h.len;have HK:Hid (∀W,Calls aa.prog 36 #[.string key] W λe w'=>e=.returned (.bool true)/\w'=W):=λW=>by
  have:=oj key W (by unfold maxLen;omega);rw[hk]at this;exact this
 have HG:Hid (∀W,Calls aa.prog 62 #[.string key] W λe w'=>e=.returned (.int .i64 n)/\w'=W):=λW=>by
  have:=Gi key W (by unfold maxLen;omega);rw[hn]at this;exact this
 have HS:Hid (∀W,Below w.heap.size w W->Calls aa.prog 140 #[bL c (.slice ad l.length cap)] W λe w'=>e=.returned (.bool true)/\Below w.heap.size w w'):=λW hW=>(QD c _ l W (aC.below h hW) hs hl).mono λe w' ⟨he,hb⟩=>⟨he,bc hW hb⟩
 clear h hs;go_enter aa.func102,aa.ntmps102;go_wp2_with (first
  |(go_at_call 36;refine (HK.out _).mono ?_;rintro e w' ⟨rfl,rfl⟩)
  |(go_at_call 62;refine (HG.out _).mono ?_;rintro e w' ⟨rfl,rfl⟩)
  |(go_at_call 140;refine (HS.out _ ((AT _ _).alloc (iR _) _)).mono ?_;rintro e w2 ⟨rfl,hb⟩))
 go_ret;exact⟨rfl,hb⟩
abbrev ai:=ByteArray×Ctx×List aj
def dS:List ai->ByteArray
 |[]=>ByteArray.empty
 |r::l=>dc r.1 r.2.1 r.2.2++dS l
theorem VZ(l:List ai):∀s,l.foldl (λs r=>s++dc r.1 r.2.1 r.2.2) s=s++dS l:=by
 induction l with
 |nil=>intro s;simp[dS,gN]
 |cons v l ih=>intro s;rw[Yl,ih,dS,bY]
theorem rQ(l:List ai):kU l=dS l:=by rw[kU,VZ,iZ]
theorem JW{l:List ai}(h:k<l.length):dS (l.drop k)=dc l[k].1 l[k].2.1 l[k].2.2++dS (l.drop (k+1)):=by
 rw[List.drop_eq_getElem_cons h,dS]
def nN(rs:List ai):Nat->ByteArray
 |0=>⟨#[]⟩
 |k+1=>(rs[k]?.map (·.1)).getD ⟨#[]⟩
structure j6(n:Nat)(rs:List ai):Prop where
 len:rs.length<=1000000
 snd:∀r∈rs,lu r.2.1 r.2.2/\r.2.2.length<=100000/\cV r.1=true/\ay r.1=n
 jh:∀k (h:k<rs.length),(Op.bytesLess rs[k].1.toList (nN rs k).toList||rs[k].1.toList==(nN rs k).toList)=false
theorem td(h:cV key=true):1<=key.size/\key.size<=8:=by
 simp only[cV,IN,Xs]at h;exact h.1
theorem lu.fit{c:Ctx}(h:lu c l)(hl:l.length<=100000)(hk:cV key=true):qX key c l:=by
 have hk':=td hk;have hc:∀i,i<4->0<=c i/\c i<=1000000:=by
  have:=h.ctx;simp only[gD,eJ,IN,Xs]at this;intro i hi;rcases fp hi with rfl|rfl|rfl|rfl<;>omega
 refine⟨by omega,λi hi=>by have:=hc i hi;omega,hl,λv hv=>?_⟩;obtain⟨h1,h2,h3,h4⟩:=h.iV v hv
 have:=hc _ h1;exact⟨by omega,by omega,by omega,by omega⟩
theorem Rd.refl(h:bP w b s):Rd w w b s:=⟨h,Fr.refl _ w⟩
theorem Rd.mW{size n:Nat}(h:Rd w wr b s)(hr:wr.ownsRow w.heap.size e size v n xs)(hg:wr.grownBy w1 v.ownBlock)(h2:158≠e):Rd w w1 b s:=
 ⟨⟨lO hg hr h.1.1 h2,h.1.2⟩,h.2.grown hg λk hk hlt=>by
  have:=ql hr hk;omega⟩
theorem uR{size n:Nat}(h:w.ownsRow B t size v n xs)(hk:v.ownBlock=some k):k<w.heap.size:=by
 rcases h.2 with⟨h,_⟩|⟨g,cap,cur,rfl,_,hh,_⟩
 ·rw[h]at hk;cases hk
 ·cases hk;exact (Array.getElem?_eq_some_iff.1 hh).1
theorem vN(h:w.grownBy w1 v.ownBlock){size n:Nat}(hr:w.ownsRow B e size v n xs){B' size' n':Nat}{e':TypeId}{v':Value}{xs':List Value}(hr':w.ownsRow B' e' size' v' n' xs')(hne:e'≠e):w1.ownsRow B' e' size' v' n' xs':=by
 obtain⟨h1,h2⟩:=hr';refine⟨h1,?_⟩;rcases h2 with h2|⟨g,cap,cur,hv,hg,hh,r⟩
 ·exact Or.inl h2
 ·exact Or.inr ⟨g,cap,cur,hv,hg,lO h hr hh hne,r⟩
theorem GG(b:Nat)(s:ByteArray)(w:World)(h:bP w b s):
  Calls aa.prog 99 #[.pointer (some ⟨b,0,none⟩)] w λe w'=>e=.returned (.bool false)/\w'=w:=by
 obtain⟨c,f⟩:=al h.1;go_enter aa.func99,aa.ntmps99;go_wp2;go_ret;exact⟨rfl,rfl⟩
structure iX(w wr:World)(v:Value)(rc:List Rc)(rs:List ai):Prop where
 row:dp wr w.heap.size v rc
 cg:rc.map Rc.cg=rs
 rM:∀r∈rc,wr.ownsRow w.heap.size 144 3 r.sv r.l.length (aX r.l)
theorem TJ(b n:Nat)(rs:List ai)(s:ByteArray)(w:World)(h:bP w b (cz rs.length++(dS rs++s)))(hr:j6 n rs):
  Calls aa.prog 77 #[.pointer (some ⟨b,0,none⟩),.int .i64 n] w λe w'=>∃v rc,e=.returned v/\iX w w' v rc rs/\Rd w w' b s:=by
 have hlen:=hr.len;obtain⟨i0,hi0,hz0,hz1,hz2⟩:=Xm aa.Ba;have HN:Hid (Calls aa.prog 100 #[.pointer (some ⟨b,0,none⟩)] w λe w'=>e=.returned (.int .i64 rs.length)/\Rd w w' b (dS rs++s)):=vj b rs.length _ w h (by omega) (by omega);have HR:Hid (j6 n rs):=hr;have hbl:=h.lt;clear h hr;go_enter aa.func77,aa.ntmps77;go_wp2_with (go_at_call 100;refine HN.out.mono ?_;rintro e w1 ⟨rfl,hr1⟩;have HR1:Hid (Rd w w1 b (dS rs++s)):=hr1;clear hr1)
 clear HN;go_loopw [5,7,8] (λrv lv iv wr=>∃(k:Nat) (rc:List Rc),k<=rs.length/\iv=.int .i64 k/\lv=.string (nN rs k)/\Hid (iX w wr rv rc (rs.take k))/\Hid (Rd w wr b (dS (rs.drop k)++s))) (λ_ _ iv _=>rs.length-(intOf iv).toNat)
 case atStart=>exact⟨0,[],by omega,rfl,rfl,⟨XZ _ _ _ _,rfl,λr hr=>by cases hr⟩,HR1.out⟩
 case round=>
  obtain⟨k,rc,hk,rfl,rfl,HA,HRd⟩:=hrel;obtain⟨cr,fr⟩:=al HRd.out.1.1;by_cases hkl:k<rs.length
  ·have k1:(k:Int)<(rs.length:Int):=by omega
   have hdk:decide ((k:Int)<(rs.length:Int))=true:=by simpa using hkl
   obtain⟨hsnd,hlv,hkey,hseg⟩:=HR.out.snd _ (Xe hkl);have hasc:=HR.out.jh k hkl;have HLk:Hid (nN rs (k+1)=rs[k].1):=(show nN rs (k+1)=rs[k].1 by simp[nN,hkl])
   have HTk:Hid (rs.take (k+1)=rs.take k++ [rs[k]]):=Xq hkl;have HRd':Hid (bP wr b (dc rs[k].1 rs[k].2.1 rs[k].2.2++(dS (rs.drop (k+1))++s))):=by
    have:=HRd.out.1;rw[JW hkl,bY]at this;exact this
   generalize rs[k]=r at*;obtain⟨key,c,l⟩:=r;simp only at*;have ed:=td hkey;have HRec:Hid (Calls aa.prog 101 #[.pointer (some ⟨b,0,none⟩)] wr λe w'=>∃ad cap,e=.returned (.agg #[.string key,.int .i64 (c 0),.int .i64 (c 1),.int .i64 (c 2),.int .i64 (c 3),.slice ad l.length cap])/\w'.ownsRow w.heap.size 144 3 (.slice ad l.length cap) l.length (aX l)/\iX w w' u5 rc (rs.take k)/\Rd w w' b (dS (rs.drop (k+1))++s)/\w.heap.size<=w'.heap.size):=by
    refine (UH b key c l _ wr HRd'.out (hsnd.fit hlv hkey)).mono ?_;rintro e w' ⟨sv,rfl,aD,hrd⟩;obtain⟨ad,cap,rfl⟩:=gP aD;have hA:=HA.out;exact⟨ad,cap,rfl,ej aD HRd.out.2.size,⟨hrd.row HRd'.out hA.row (by decide),hA.cg,λr hr=>hrd.row HRd'.out (hA.rM r hr) (by decide)⟩,HRd.out.trans hrd,(HRd.out.trans hrd).2.size⟩
   have HIs:Hid (∀ad cap W,aC W (.slice ad l.length cap) l->Calls aa.prog 102 #[.agg #[.string key,.int .i64 (c 0),.int .i64 (c 1),.int .i64 (c 2),.int .i64 (c 3),.slice ad l.length cap],.int .i64 n] W λe w'=>e=.returned (.bool true)/\Below W.heap.size W w'):=λad cap W hW=>TD key c _ l n W hW hsnd hlv hkey ed.2 hseg;have HM:Hid _:=ui b;have HFl:Hid (Calls aa.prog 99 #[.pointer (some ⟨b,0,none⟩)] wr λe w'=>e=.returned (.bool false)/\w'=wr):=GG b _ wr HRd.out.1;have hrcl:rc.length=k:=by have:=congrArg List.length HA.out.cg;simpa[Nat.min_eq_left hk] using this
   clear HRd' hsnd HR;go_wp2_with (first
    |(go_at_call 101;refine HRec.out.mono ?_;rintro e w2 ⟨ad,cap,rfl,hown2,hA2,hrd2,hsz2⟩;have HB2:Hid (Below w2.heap.size w2 (w2.alloc (.cells #[.string key,.int .i64 (c 0),.int .i64 (c 1),.int .i64 (c 2),.int .i64 (c 3),.slice ad l.length cap] 151))):=(AT _ _).alloc (iR _) _;have HO2:Hid (w2.ownsRow w.heap.size 144 3 (.slice ad l.length cap) l.length (aX l)):=hown2;have HA2:Hid (iX w w2 u5 rc (rs.take k)):=hA2;have HRd2:Hid (Rd w w2 b (dS (rs.drop (k+1))++s)):=hrd2;have HAk:Hid (w2.ownsRow w.heap.size 151 6 u5 k (jc rc)):=(by have:=hA2.row;unfold dp at this;rw[hrcl]at this;exact this);clear hown2 hA2 hrd2)
    |(go_at_call 99;refine HFl.out.mono ?_;rintro e w' ⟨rfl,hw'⟩;subst w')
    |(go_at_call 102;refine (HIs.out ad cap _ (ej (ec HO2.out HB2.out (iR _)) (XN _))).mono ?_;rintro e w3 ⟨rfl,hb3⟩;have hc3:=aQ (BY w2 _) hb3;obtain⟨c3,f3⟩:=al hc3;have HC3:Hid (w3.heap[w2.heap.size]?=some (.cells #[.string key,.int .i64 (c 0),.int .i64 (c 1),.int .i64 (c 2),.int .i64 (c 3),.slice ad l.length cap] 151)):=hc3;have HB3:Hid (Below w2.heap.size w2 w3):=bc HB2.out hb3;clear hb3 hc3)
    |(go_at_call 57;refine (HM.out _).mono ?_;rintro e w' ⟨rfl,hw'⟩;subst w')
    |(at_builtin;refine jm _ rfl _ _ _ rfl w.heap.size 151 i0 _ 6 72 aa.underlying119 hi0 hz0 hz1 hz2 rfl (by omega) u5 _ _ rfl (Xh (ec HAk.out HB3.out (iR _)) _) ⟨w3.heap.size,0,none⟩ 1 1 _ rfl (by rfl) (Xr (BY w3 _)) (by simp[Value.oneCell']) (by omega) (by unfold maxLen;omega) (by omega) (by have:=HB3.out.size;simp;omega) ?_;intro g4 cap4 w4 hown4 hgr4;have hne4:some w2.heap.size≠u5.ownBlock:=λe=>Nat.lt_irrefl _ (uR HAk.out e.symm);obtain⟨c4,f4⟩:=al ((hgr4.grown.block w2.heap.size (by have:=(Array.getElem?_eq_some_iff.1 HC3.out).1;simp;omega) hne4).trans ((OF w3 _ _ (Array.getElem?_eq_some_iff.1 HC3.out).1).trans HC3.out));have HO4:Hid (w4.ownsRow w.heap.size 151 6 (.slice (some ⟨g4,0,none⟩) (k+1) cap4) (k+1) (jc rc++ [.string key,.int .i64 (c 0),.int .i64 (c 1),.int .i64 (c 2),.int .i64 (c 3),.slice ad l.length cap])):=hown4;have HG4:Hid (bE (w3.alloc (.cells #[.string key,.int .i64 (c 0),.int .i64 (c 1),.int .i64 (c 2),.int .i64 (c 3),.slice ad l.length cap] 151)) w4 u5 (.slice (some ⟨g4,0,none⟩) (k+1) cap4)):=hgr4;clear hown4 hgr4 hne4))
   have HB3':Hid (Below w2.heap.size w2 (w3.alloc (.cells #[.string key,.int .i64 (c 0),.int .i64 (c 1),.int .i64 (c 2),.int .i64 (c 3),.slice ad l.length cap] 151))):=HB3.out.alloc HB3.out.size _;have HRow:Hid _:=ec HAk.out HB3'.out (iR _);refine⟨⟨k+1,rc++ [⟨key,c,.slice ad l.length cap,l⟩],by omega,by go_num,by rw[HLk.out],⟨?_,?_,?_⟩,?_⟩,by simp[intOf];omega⟩
   ·unfold dp;rw[Xk,hrcl,F5];exact HO4.out
   ·rw[HTk.out,Yi,HA2.out.cg];rfl
   ·intro r hr;rcases List.mem_append.1 hr with hr|hr
    ·exact vN HG4.out.grown HRow.out (ec (HA2.out.rM r hr) HB3'.out (iR _)) (by decide)
    ·obtain rfl:=List.mem_singleton.1 hr;exact vN HG4.out.grown HRow.out (ec HO2.out HB3'.out (iR _)) (by decide)
   ·exact (HRd2.out.below HB3'.out).mW HRow.out HG4.out.grown (by decide)
  ·obtain rfl:k=rs.length:=by omega
   go_wp2;go_ret;exact⟨_,rc,rfl,by have:=HA.out;rw[Xx]at this;exact this,by have:=HRd.out;rw[List.drop_length,dS,iZ]at this;exact this⟩
theorem OI{k:ByteArray}(h:cV k=true):k.data.toList.length<=8/\∀b∈k.data.toList,pD b=true:=by
 simp only[cV,IN,Xs,List.all_eq_true]at h;exact⟨by rw[XC];exact h.1.2,h.2⟩
theorem U8(h:∀v∈l,v.val.size<=12):(dz l).size<=18*l.length:=by
 have key:∀(m:List aj) (s:ByteArray),(∀v∈m,v.val.size<=12)->(m.foldl (λs v=>s++fT v) s).size<=s.size+18*m.length:=λm=>by
  induction m with
  |nil=>intro s _;simp
  |cons v m ih=>
   intro s hs;have h1:=ih (s++fT v) λx hx=>hs x (by simp[hx]);have h2:=hs v (by simp);rw[IS,Gx]at h1;rw[Yl,Xp];omega
 have:=key l ByteArray.empty h;simpa[dz] using this
theorem UA{l:List (ByteArray×Ctx×List aj)}(h:∀r∈l,r.1.size<=8/\r.2.2.length<=100/\∀v∈r.2.2,v.val.size<=12):(kU l).size<=1829*l.length:=by
 have key:∀(m:List (ByteArray×Ctx×List aj)) (s:ByteArray),(∀r∈m,r.1.size<=8/\r.2.2.length<=100/\∀v∈r.2.2,v.val.size<=12)->(m.foldl (λs r=>s++dc r.1 r.2.1 r.2.2) s).size<=s.size+1829*m.length:=λm=>by
  induction m with
  |nil=>intro s _;simp
  |cons r m ih=>
   intro s hs;have h1:=ih (s++dc r.1 r.2.1 r.2.2) λx hx=>hs x (by simp[hx]);obtain⟨h2,h3,h4⟩:=hs r (by simp);have h5:=U8 h4;rw[IS,Hq]at h1;rw[Yl,Xp];omega
 have:=key l ByteArray.empty h;simpa[kU] using this
section
open Go.Lib (strCells strCells_length strCells_oneCell Bytes)
theorem oU(h:aH w B v s):(convert 48 9 v).run aa.prog w=.ok (.string s) w:=by
 rcases h.2 with⟨rfl,h0⟩|⟨g,cap,cur,rfl,_,hh,hn,_,hs,ht⟩
 ·obtain rfl:s=ByteArray.empty:=by
   apply Yp;have:s.data.size=0:=h0;simpa using Array.eq_empty_of_size_eq_zero this
  simpa using Go.run_convert_bytes_nil (P:=aa.prog) w 48 5 aa.underlying48 aa.underlying5 0 0 9 aa.underlying9
 ·refine Go.Lib.run_convert_whole (P:=aa.prog) w 48 5 9 aa.underlying48 aa.underlying5 aa.underlying9 g 0 s (λi hi=>?_) cap;have e1:(strCells s)[i]?=some (.int .u8 (s[i].toNat:Int)):=by
   have hi':i<s.data.toList.length:=by rw[XC];exact hi
   rw[strCells,List.getElem?_map,List.getElem?_eq_getElem hi'];simp;rfl
  rw[<-ht,List.getElem?_take,AS (by omega)]at e1;simpa[World.cell?,hh] using e1
def cM(w:World)(m:Nat):List MapEntry:=match w.heap[m]? with
 |some (.map es _)=>es.toList
 |_=>[]
def dE(w:World)(bm:Nat->Nat)(K:aw)(n:Nat):ByteArray:=kU (dF K (cM w (bm n)))
theorem vT{n:Nat}(h:w'.heap[bm n]?=w.heap[bm n]?):dE w' bm K n=dE w bm K n:=by
 simp only[dE,cM,h]
theorem Du(hK:ji K){es:List MapEntry}{Q:ByteArray->Prop}{clock:Nat}(h:kH Q es clock)(hQ:∀k,Q k->cV k=true):∀r∈dF K es,r.1.size<=8/\r.2.2.length<=100/\∀v∈r.2.2,v.val.size<=12:=λr hr=>by
 obtain⟨x,hx,rfl⟩:=XP.1 hr
 have:=OI (sx (λe he=>(h.2.2.2 e he).imp λk hk=>⟨hk.1,hQ k hk.2⟩) hx);exact⟨by simpa using this.1,(hK _).2.1,(hK _).2.2.1⟩
theorem Ae(K:aw)(es:List MapEntry):(dF K es).length=es.length:=by
 rw[dF,Xn,(nS _).length_eq,de,Xn]
def xa(w:World)(bm:Nat->Nat):Prop:=∀n,n<64->(cM w (bm n)).length<=1000
def dK(w:World)(bm:Nat->Nat)(K:aw):Prop:=ji K/\xa w bm
theorem wW{m:Nat}(h:w'.heap[m]?=w.heap[m]?):cM w' m=cM w m:=by simp only[cM,h]
theorem dK.below{W:World}{num:Nat}(hK:dK w bm K)(h:aB w b bm num K)(hb:Below w.heap.size w W):dK W bm K:=
 ⟨hK.1,λn hn=>by rw[wW (hb.block _ (h.2.1 n hn).lt)];exact hK.2 n hn⟩
theorem yX{num:Nat}(h:aB w b bm num K)(hK:dK w bm K){n:Nat}(hn:n<64):(dE w bm K n).size<=1829000:=by
 have hf:=hK.2 n hn;obtain⟨es,clock,hm,hk,hall,hst,_⟩:=h.2.1 n hn;have h1:=UA (Du hK.1 hst λk h=>h.2.2);rw[Ae]at h1;simp only[dE,cM,hm] at*;omega
theorem Bx(b num n:Nat)(bm:Nat->Nat)(K:aw)(w:World)(h:aB w b bm num K)(hK:dK w bm K)(hn:n<64):
  Calls aa.prog 28 #[.pointer (some ⟨b,0,none⟩),.int .i64 n] w λe w'=>e=.returned (.string (dE w bm K n))/\Below w.heap.size w w':=by
 have hc:=h.1.tS hn;have hsz:=yX h hK hn;have h2:=hK.2 n hn;obtain⟨es,clock,hm,hk,hall,hst,_⟩:=h.2.1 n hn;simp only[cM,hm]at h2;have HF:Hid (∀r∈dF K es.toList,r.1.size<=8/\r.2.2.length<=100/\∀v∈r.2.2,v.val.size<=12):=Du hK.1 hst λk h=>h.2.2;have HRec:Hid _:=GS (bm n) n K w es clock hm hk hall hst (by rw[XC]at h2;omega);have HT:Hid (dE w bm K n=kU (dF K es.toList)):=(show dE w bm K n=kU (dF K es.toList) by simp only[dE,cM,hm])
 generalize dE w bm K n=tx at*;have hl':(n:Int)<64:=by omega
 have hl0:(0:Int)<=(n:Int):=by omega
 have hc':w.cell? ⟨b,1+n,none⟩=some (.map (some (bm n))):=by rw[Yk];exact hc
 clear h hK hm hk hall hst h2 hc;generalize bm n=m at*;go_enter aa.func28,aa.ntmps28;go_wp2_with (first
  |(go_at_call 49;refine By HRec.out ?_;rintro e w1 ⟨rv,rs,rfl,hrow,hv,htri,hb1⟩;have HA:Hid _:=Lb w.heap.size rv rs w1 hrow (λr hr=>⟨hv r hr,by have h3:=(HF.out (Rc.cg r) (by rw[<-htri];exact Ys hr)).2.1;exact Xb h3 (by decide)⟩) (by rw[zz,htri,<-HT.out];omega);have HB1:Hid (Below w.heap.size w w1):=hb1;have HE:Hid (dk rs=tx):=(show dk rs=tx by rw[zz,htri,<-HT.out]);clear hrow hv htri hb1)
  |(go_at_call 48;refine By HA.out ?_;rintro e w2 ⟨v2,rfl,hrow2,hb2⟩;rw[HE.out]at hrow2;have hcv:=oU hrow2;have HB2:Hid (Below w.heap.size w w2):=HB1.out.trans (hb2.mono HB1.out.size);clear hrow2 hb2))
 go_ret;exact⟨rfl,HB2.out⟩
end
section
open Go.Lib (strCells strCells_length strCells_oneCell)
theorem aa.Bp:(aa.prog.info? 44).map (λi=>(i.zero,i.size,i.bytes))=some (some (.int .u64 0),1,8):=by kernel_rfl
def gv(w:World)(B:Nat)(v:Value)(ds:List Int):Prop:=w.ownsRow B 44 1 v ds.length (ds.map (.int .u64))
theorem AH{x:Value}(hs:k<M.size)(h:M.toList.take k=xs):(M.setIfInBounds k x).toList.take (k+1)=xs++ [x]:=by
 subst h;apply List.ext_getElem?;intro t;have hl:(M.toList.take k).length=k:=by simp;omega
 by_cases h1:t<k
 ·rw[List.getElem?_take,AS (by omega),List.getElem?_append_left (by omega),List.getElem?_take,AS h1];simp only[Array.getElem?_toList,Array.getElem?_setIfInBounds];rw[AI (by omega)]
 ·rw[List.getElem?_append_right (by omega),hl];by_cases h2:t=k
  ·subst h2;rw[List.getElem?_take,AS (by omega)];simp only[Array.getElem?_toList,Array.getElem?_setIfInBounds];simp[hs]
  ·rw[List.getElem?_take,AI (by omega),List.getElem?_eq_none (by simp;omega)]
def qh(w:World)(f:Nat->Int)(n k:Nat)(wr:World):Prop:=
 ∃M:Array Value,wr.heap[w.heap.size]?=some (.cells M 44)/\M.size=n/\M.toList.take k=((List.range k).map f).map (.int .u64)/\Below w.heap.size w wr
theorem qh.row{f:Nat->Int}{n:Nat}(h:qh w f n n wr)(hn:n<=maxLen):gv wr w.heap.size (.slice (some ⟨w.heap.size,0,none⟩) n n) ((List.range n).map f):=by
 obtain⟨M,h1,h2,h3,h4⟩:=h;refine⟨by simp,Or.inr ⟨w.heap.size,n,M,by simp,iR _,h1,by simp,hn,by omega,?_⟩⟩;simpa using h3
theorem Hx(h:w.heap[b]?=some (.cells M t))(hk:k<M.size):(∃x,w.cell? ⟨b,k,none⟩=some x)/\∀o,w.frozen? ⟨b,o,none⟩=false:=
 ⟨⟨M[k],by simp only[World.cell?,h];simp[hk]⟩,λo=>by simp[World.frozen?,h]⟩
noncomputable def ya:Func:={Tryz.f68 with ntmps:=20,results:=#[.tmp 6],body:=some YtldmcdeibiclkaaGreatDoor.U.qf}
theorem aa.func68:aa.prog.funcs[68]?=some ya:=by
 rw[aa.is,aa.A6,YtldmcdeibiclkaaGreatDoor.U.Gg,Array.getElem?_setIfInBounds_self,AS]
 ·rw[YtldmcdeibiclkaaGreatDoor.U.mM,Tryz.func68];rfl
 ·have:=Tryz.func68;exact (Array.getElem?_eq_some_iff.1 this).1
theorem aa.ntmps68:ya.ntmps=20:=rfl
theorem aa.results68:ya.results=#[.tmp 6]:=rfl
attribute [local simp] aa.results68
theorem QB(b first c:Nat)(T:Nat->ByteArray)(w:World)(hT:∀k:Nat,k<64->∀W,Below w.heap.size w W->Calls aa.prog 28 #[.pointer (some ⟨b,0,none⟩),.int .i64 k] W λe w'=>e=.returned (.string (T k))/\Below W.heap.size W w')(hTs:∀k,k<64->(T k).size<=maxLen)(hc:c=1\/c=4\/c=16\/c=64)(hf:first+c<=64):
  Calls aa.prog 68 #[.int .i64 first,.int .i64 c,.func (.func 28) #[.pointer (some ⟨b,0,none⟩)] #[]] w λe w'=>∃v,e=.returned v/\gv w' w.heap.size v ((List.range c).map λi=>cS (T (first+i)))/\Below w.heap.size w w':=by
 obtain⟨i0,hi0,hz0,hz1,hz2⟩:=Xm aa.Bp;have hmk:=run_make (P:=aa.prog) w 147 44 i0 _ aa.underlying147 hi0 hz0 .i64 .i64 c c (by omega) (by omega) (by rw[hz2];omega) (by omega);rw[hz1]at hmk;simp only[Int.toNat_natCast]at hmk;have hM:=size_madeCells (Value.int .u64 0).cells (c*1);generalize madeCells (Value.int .u64 0).cells (c*1)=M at hmk hM;have HM:Hid (M.size=c):=(show M.size=c by rw[hM,Nat.mul_one])
 have HT:Hid _:=hT;have HTs:Hid _:=hTs;clear hM hi0 hz0 hz1 hz2 hT hTs;obtain⟨b1,h1⟩: ∃x,((c:Int)==1)=x:=⟨_,rfl⟩
 obtain⟨b2,h2⟩: ∃x,((c:Int)==4)=x:=⟨_,rfl⟩
 obtain⟨b3,h3⟩: ∃x,((c:Int)==16)=x:=⟨_,rfl⟩
 obtain⟨b4,h4⟩: ∃x,((c:Int)==64)=x:=⟨_,rfl⟩
 have HB:Hid ((b1||b2||b3||b4)=true):=(show (b1||b2||b3||b4)=true by
  rw[<-h1,<-h2,<-h3,<-h4];rcases hc with rfl|rfl|rfl|rfl<;>rfl)
 clear hc;go_enter aa.func68,aa.ntmps68;simp only[YtldmcdeibiclkaaGreatDoor.U.qf,YtldmcdeibiclkaaGreatDoor.U.qOp,YtldmcdeibiclkaaGreatDoor.U.qI,YtldmcdeibiclkaaGreatDoor.U.qU,YtldmcdeibiclkaaGreatDoor.U.jH,YtldmcdeibiclkaaGreatDoor.U.yO,YtldmcdeibiclkaaGreatDoor.U.xH];go_wp2
 all_goals
  clear h1 h2 h3 h4;(try cases (show b1=true by assumption))
  (try cases (show b1=false by assumption))
  (try cases (show b2=true by assumption))
  (try cases (show b2=false by assumption))
  (try cases (show b3=true by assumption))
  (try cases (show b3=false by assumption))
  (try cases (show b4=true by assumption))
  (try cases (show b4=false by assumption))
 all_goals first
  |(exact absurd HB.out (by decide))
  |(exact absurd (show true=false by assumption) (by decide))
  |skip
 all_goals
  clear HB;go_loopw [3] (λi wr=>∃k:Nat,k<=c/\i=.int .i64 k/\Hid (qh w (λi=>cS (T (first+i))) c k wr)) (λi _=>c-(intOf i).toNat)
  case atStart=>exact⟨0,by omega,rfl,M,BY w _,HM.out,by simp,(AT _ _).alloc (iR _) _⟩
  case round=>
   obtain⟨k,hk,rfl,hrel⟩:=hrel;by_cases hlt:k<c
   ·obtain⟨M',hh,hms,htk,hb⟩:=hrel.out;have hT1:=HT.out (first+k) (by omega);simp only[Int.natCast_add]at hT1;have HT1:Hid (∀W,Below w.heap.size w W->Calls aa.prog 28 #[.pointer (some ⟨b,0,none⟩),.int .i64 ((first:Int)+(k:Int))] W λe w'=>e=.returned (.string (T (first+k)))/\Below W.heap.size W w'):=hT1;have hsz:Hid ((T (first+k)).size<=maxLen):=HTs.out (first+k) (by omega);have HTk:Hid (((List.range (k+1)).map λi=>cS (T (first+i))).map (Value.int .u64)=((List.range k).map λi=>cS (T (first+i))).map (Value.int .u64)++ [.int .u64 (cS (T (first+k)))]):=(show (((List.range (k+1)).map λi=>cS (T (first+i))).map (Value.int .u64))=_ by simp[XV])
    have hF:=pL (T (first+k)) (T (first+k)).size;have hF0:0<=cS (T (first+k)):=hF.1;have hF1:cS (T (first+k))<18446744073709551616:=hF.2;clear hF hT1;have HS:Hid (∀W,Calls aa.prog 82 #[.string (T (first+k))] W λe w'=>e=.returned (.int .u64 (cS (T (first+k))))/\w'=W):=λW=>yQ _ W hsz.out;generalize cS (T (first+k))=F at*;generalize T (first+k)=tx at*;have HH:Hid (wr.heap[w.heap.size]?=some (.cells M' 44)/\M'.size=c/\M'.toList.take k=((List.range k).map λi=>cS (T (first+i))).map (.int .u64)/\Below w.heap.size w wr):=⟨hh,hms,htk,hb⟩
    have hbs:=hb.size;have hbo:=(Array.getElem?_eq_some_iff.1 hh).1;clear hh hms htk hb hrel;have g63:(k:Int)<(c:Int):=by omega
    have k0:(0:Int)<=(k:Int):=by omega
    have f0:(0:Int)<=(first:Int):=by omega
    have fk:(first:Int)+(k:Int)<64:=by omega
    go_wp2_with (first
     |(go_at_call 28;refine By (HT1.out _ HH.out.2.2.2) ?_;rintro e w1 ⟨rfl,hb1⟩;have HB1:Hid (Below wr.heap.size wr w1):=hb1;clear hb1)
     |(go_at_call 28;refine By (HT1.out _ (HH.out.2.2.2.trans (HB1.out.mono hbs))) ?_;rintro e w3 ⟨rfl,hb3⟩;have HB3:Hid (Below wr.heap.size wr w3):=HB1.out.trans (hb3.mono HB1.out.size);have m0:=aQ HH.out.1 HB3.out;obtain⟨⟨x1,m1⟩,m2⟩:=Hx (k:=k) m0 (by rw[HH.out.2.1];exact hlt);have HM0:Hid (w3.heap[w.heap.size]?=some (.cells M' 44)):=m0;clear hb3 m0)
     |(go_at_call 82;refine By (HS.out _) ?_;rintro e w2 ⟨rfl,rfl⟩))
    refine⟨⟨k+1,by omega,by go_num,_,heap_set HM0.out,by rw[XB];exact HH.out.2.1,?_,(HH.out.2.2.2.trans (HB3.out.mono hbs)).setCell (iR _) _⟩,by simp[intOf];omega⟩;rw[HTk.out];exact AH (by rw[HH.out.2.1];exact hlt) HH.out.2.2.1
   ·obtain rfl:k=c:=by omega
    have HR:Hid (qh w (λi=>cS (T (first+i))) k k wr):=hrel.out;clear hrel;go_wp2;go_ret;exact⟨_,rfl,HR.out.row (by unfold maxLen;omega),HR.out.elim λM' h=>h.2.2.2⟩
end
section
open Go.Lib (strCells strCells_length strCells_oneCell)
theorem E5{n:Nat}(h:n<=3):n=0\/n=1\/n=2\/n=3:=by omega
theorem ly(h:k<=3):4 ^ k<=64/\1<=4 ^ k:=by
 rcases E5 h with rfl|rfl|rfl|rfl<;>decide
theorem Di(n:Nat)(hn:n<=3)(w:World):Calls aa.prog 46 #[.int .i64 n] w λe w'=>e=.returned (.int .i64 (4 ^ n:Nat))/\w'=w:=by
 go_enter aa.func46,aa.ntmps46;go_wp2;go_loop [3,5] (λc i=>∃k:Nat,k<=n/\i=.int .i64 k/\c=.int .i64 (4 ^ k:Nat)) (λ_ i=>n-(intOf i).toNat)
 case atStart=>exact⟨0,by omega,rfl,rfl⟩
 case round=>
  obtain⟨k,hk,rfl,rfl⟩:=hrel;by_cases hlt:k<n
  ·have g1:(k:Int)<(n:Int):=by omega
   have hp:=(ly (k:=k) (by omega)).1;have HP:Hid (4 ^ (k+1)=4 ^ k*4):=XH ..;generalize 4 ^ k=p at*;go_wp2;exact⟨⟨k+1,by omega,by go_num,by rw[HP.out];go_num⟩,by simp[intOf];omega⟩
  ·obtain rfl:k=n:=by omega
   go_wp2;go_ret;exact⟨rfl,rfl⟩
theorem Ed(l n:Nat)(hl:l<=4)(w:World):Calls aa.prog 26 #[.int .i64 l,.int .i64 n] w λe w'=>e=.returned (.bool (decide (l<=3/\n<4 ^ l)))/\w'=w:=by
 have l0:(0:Int)<=(l:Int):=by omega
 have n0:(0:Int)<=(n:Int):=by omega
 by_cases h3:l<=3
 ·have l3:(l:Int)<=3:=by omega
  have HW:Hid (∀W,Calls aa.prog 46 #[.int .i64 l] W λe w'=>e=.returned (.int .i64 (4 ^ l:Nat))/\w'=W):=λW=>Di l h3 W;have HD:Hid (decide (l<=3/\n<4 ^ l)=decide (n<4 ^ l)):=(show decide (l<=3/\n<4 ^ l)=decide (n<4 ^ l) by simp[h3])
  rw[HD.out];clear HD;generalize 4 ^ l=p at*;go_enter aa.func26,aa.ntmps26;go_wp2_with (go_at_call 46;refine By (HW.out _) ?_;rintro e w1 ⟨rfl,rfl⟩)
  go_ret;exact⟨rfl,rfl⟩
 ·obtain rfl:l=4:=by omega
  go_enter aa.func26,aa.ntmps26;go_wp2;go_ret;exact⟨rfl,rfl⟩
def cP(d:Nat->Int):Nat->ByteArray
 |0=>ByteArray.empty
 |k+1=>cP d k++fW (d k)
theorem Ni(d:Int):(fW d).size=8:=rn d 8
theorem oh(d:Nat->Int):∀k,(cP d k).size=8*k
 |0=>rfl
 |k+1=>by rw[cP,IS,oh d k,Ni];omega
def gJ(d:Nat->Int):Int:=cS (cP d 4)
theorem Wi(g off cap:Nat)(d:Nat->Int)(w:World)(hg:g<w.heap.size)(hc:∀j,j<4->w.cell? ⟨g,off+j,none⟩=some (.int .u64 (d j)))(hcap:(cap:Int)<=9223372036854775807):
  Calls aa.prog 92 #[.slice (some ⟨g,off,none⟩) 4 cap] w λe w'=>e=.returned (.int .u64 (gJ d))/\Below w.heap.size w w':=by
 have HC:Hid _:=hc;clear hc;go_enter aa.func92,aa.ntmps92;go_wp2;go_loopw [3,8] (λo i wr=>∃k:Nat,k<=4/\i=.int .i64 k/\Hid (aH wr w.heap.size o (cP d k))/\Hid (Below w.heap.size w wr)) (λ_ i _=>4-(intOf i).toNat)
 case atStart=>exact⟨0,by omega,rfl,aH.nil _ _,AT _ _⟩
 case round=>
  obtain⟨k,hk,rfl,hr,hb⟩:=hrel;have HR:Hid (aH wr w.heap.size u3 (cP d k)):=hr.out;have HB:Hid (Below w.heap.size w wr):=hb.out;have hsz:=hb.out.size;clear hr hb;by_cases hlt:k<4
  ·have hcw:wr.cell? ⟨g,off+k,none⟩=some (.int .u64 (d k)):=(HB.out.cell (p:=⟨g,off+k,none⟩) hg).trans (HC.out k hlt);have g1:(k:Int)<4:=by omega
   have g0:(0:Int)<=(k:Int):=by omega
   have HA:Hid _:=wL w.heap.size u3 (cP d k) (d k) wr HR.out hsz (by rw[oh];omega);go_wp2_with (go_at_call 50;refine By HA.out ?_;rintro e w1 ⟨v1,rfl,hr1,hg1⟩;have HR1:Hid (aH w1 w.heap.size v1 (cP d (k+1))):=hr1;have HB1:Hid (Below w.heap.size w w1):=hg1.toBelow HB.out hsz HR.out;clear hr1 hg1)
   exact⟨⟨k+1,by omega,by go_num,HR1.out,HB1.out⟩,by simp[intOf];omega⟩
  ·obtain rfl:k=4:=by omega
   have hcv:=oU HR.out;have HS:Hid (∀W,Calls aa.prog 82 #[.string (cP d 4)] W λe w'=>e=.returned (.int .u64 (gJ d))/\w'=W):=λW=>yQ _ W (by rw[oh];decide);go_wp2_with (go_at_call 82;refine By (HS.out _) ?_;rintro e w2 ⟨rfl,rfl⟩)
   go_ret;exact⟨rfl,HB.out⟩
theorem gv.len{ds:List Int}(h:gv w B v ds): ∃ad cap,v=.slice ad ds.length cap/\(cap:Int)<=9223372036854775807/\ds.length<=cap:=jS h
theorem gv.below{ds:List Int}(h:gv w B v ds)(hb:Below w.heap.size w w'):gv w' B v ds:=ec h hb (iR _)
theorem SI(B m:Nat)(v:Value)(f:Nat->Int)(w:World)(hm:1<=m/\m<=16)(h:gv w B v ((List.range (m*4)).map f)):
  Calls aa.prog 69 #[v] w λe w'=>∃v',e=.returned v'/\gv w' w.heap.size v' ((List.range m).map λi=>gJ λj=>f (i*4+j))/\Below w.heap.size w w':=by
 obtain⟨g,cap,rfl,hgl,hcells,hcap,hcl⟩: ∃g cap,v=.slice (some ⟨g,0,none⟩) (m*4) cap/\g<w.heap.size/\(∀k,k<m*4->w.cell? ⟨g,k,none⟩=some (.int .u64 (f k)))/\(cap:Int)<=9223372036854775807/\m*4<=cap:=by
  have hl:((List.range (m*4)).map f).length=m*4:=by simp
  have hget:∀k,k<m*4->(((List.range (m*4)).map f).map (Value.int .u64))[k]?=some (.int .u64 (f k)):=λk hk=>by simp[hk]
  unfold gv at h;rw[hl]at h;obtain⟨g,cap,hv,hg,_⟩:=vH h (hget 0 (by omega));obtain⟨ad,cap',hv',hc1,hc2⟩:=jS h;rw[hv]at hv';cases hv';refine⟨g,cap,hv,hg,λk hk=>?_,hc1,hc2⟩;obtain⟨g',cap',hv',_,hc⟩:=vH h (hget k hk);rw[hv]at hv';cases hv';exact hc
 clear h;obtain⟨i0,hi0,hz0,hz1,hz2⟩:=Xm aa.Bp;have hmk:=run_make (P:=aa.prog) w 147 44 i0 _ aa.underlying147 hi0 hz0 .i64 .i64 m m (by omega) (by omega) (by rw[hz2];omega) (by omega);rw[hz1]at hmk;simp only[Int.toNat_natCast]at hmk;have hM:=size_madeCells (Value.int .u64 0).cells (m*1);generalize madeCells (Value.int .u64 0).cells (m*1)=M at hmk hM;have HM:Hid (M.size=m):=(show M.size=m by rw[hM,Nat.mul_one])
 have HC:Hid _:=hcells;clear hM hi0 hz0 hz1 hz2 hcells;have hquo:Int.tdiv ((m*4:Nat):Int) 4=(m:Int):=by
  rw[Int.natCast_mul];exact Int.mul_tdiv_cancel _ (by decide)
 have hquo2:((m*4:Nat):Int) / 4=(m:Int):=by omega
 go_enter aa.func69,aa.ntmps69;go_wp2;clear hquo hquo2;go_loopw [11] (λi wr=>∃k:Nat,k<=m/\i=.int .i64 k/\Hid (qh w (λi=>gJ λj=>f (i*4+j)) m k wr)) (λi _=>m-(intOf i).toNat)
 case atStart=>exact⟨0,by omega,rfl,M,BY w _,HM.out,by simp,(AT _ _).alloc (iR _) _⟩
 case round=>
  obtain⟨k,hk,rfl,hrel⟩:=hrel;by_cases hlt:k<m
  ·obtain⟨M',hh,hms,htk,hb⟩:=hrel.out;have HTk:Hid (((List.range (k+1)).map λi=>gJ λj=>f (i*4+j)).map (Value.int .u64)=((List.range k).map λi=>gJ λj=>f (i*4+j)).map (Value.int .u64)++ [.int .u64 (gJ λj=>f (k*4+j))]):=(show (((List.range (k+1)).map λi=>gJ λj=>f (i*4+j)).map (Value.int .u64))=_ by simp[XV])
   have HN:Hid _:=Wi g (k*4) (cap-k*4) (λj=>f (k*4+j)) wr (Xc hgl hb.size) (λj hj=>(hb.cell (p:=⟨g,k*4+j,none⟩) hgl).trans (HC.out (k*4+j) (by omega))) (by omega);generalize (gJ λj=>f (k*4+j))=F at*;have HH:Hid (wr.heap[w.heap.size]?=some (.cells M' 44)/\M'.size=m/\M'.toList.take k=((List.range k).map λi=>gJ λj=>f (i*4+j)).map (.int .u64)/\Below w.heap.size w wr):=⟨hh,hms,htk,hb⟩
   have hbs:=hb.size;have hbo:=(Array.getElem?_eq_some_iff.1 hh).1;clear hh hms htk hb hrel;have hsl:∀W,(Instr.slice 147 (.slice (some ⟨g,0,none⟩) (m*4) cap) (some (.int .i64 ((k:Int)*4))) (some (.int .i64 (((k:Int)+1)*4))) none).run aa.prog W=.ok (.slice (some ⟨g,k*4,none⟩) 4 (cap-k*4)) W:=λW=>by
    have:=Go.Lib.run_slice_window (P:=aa.prog) W 147 44 aa.underlying147 aa.sizeOf44 g 0 (m*4) cap (k*4) ((k+1)*4) (by omega) (by omega);rw[show (k+1)*4-k*4=4 by omega,Nat.zero_add]at this;simpa using this
   have g63:(k:Int)<(m:Int):=by omega
   have k0:(0:Int)<=(k:Int):=by omega
   go_wp2_with (go_at_call 92;refine By HN.out ?_;rintro e w3 ⟨rfl,hb3⟩;have HB3:Hid (Below wr.heap.size wr w3):=hb3;have m0:=aQ HH.out.1 HB3.out;obtain⟨⟨x1,m1⟩,m2⟩:=Hx (k:=k) m0 (by rw[HH.out.2.1];exact hlt);have HM0:Hid (w3.heap[w.heap.size]?=some (.cells M' 44)):=m0;clear hb3 m0)
   refine⟨⟨k+1,by omega,by go_num,_,heap_set HM0.out,by rw[XB];exact HH.out.2.1,?_,(HH.out.2.2.2.trans (HB3.out.mono hbs)).setCell (iR _) _⟩,by simp[intOf];omega⟩;rw[HTk.out];exact AH (by rw[HH.out.2.1];exact hlt) HH.out.2.2.1
  ·obtain rfl:k=m:=by omega
   have HR:Hid (qh w (λi=>gJ λj=>f (i*4+j)) k k wr):=hrel.out;clear hrel;go_wp2;go_ret;exact⟨_,rfl,HR.out.row (by unfold maxLen;omega),HR.out.elim λM' h=>h.2.2.2⟩
end
def je(ns:List Nat):Nat->Int
 |0=>-1
 |k+1=>((ns[k]?).getD 0:Nat)
theorem FL{ns:List Nat}(h:ns.Pairwise (· < ·))(hk:k<ns.length):je ns k<(ns[k]:Int):=by
 cases k with
 |zero=>simp only[je];omega
 |succ k=>
  have:=List.pairwise_iff_getElem.1 h k (k+1) (by omega) hk (by omega);simp only[je,List.getElem?_eq_getElem (show k<ns.length by omega),Yj];omega
theorem CX(cl:FuncId)(hcl:cl=75\/cl=76)(b lv:Nat)(c1 c2:Value)(ns:List Nat)(rest body:Nat->ByteArray)(J:Nat->World->Prop)(w:World)(h:bP w b (ax ns.length++rest 0))(h1:1<=ns.length/\ns.length<=64)(hlv:lv<=3)(hns:∀n∈ns,n<4 ^ lv)(hasc:ns.Pairwise (· < ·))(hrest:∀k (h:k<ns.length),rest k=ax ns[k]++(body k++rest (k+1)))(hJ0:∀w',Rd w w' b (rest 0)->J 0 w')(hJr:∀k W,J k W->bP W b (rest k))(hclo:∀k (h:k<ns.length) W W',J k W->Rd W W' b (body k++rest (k+1))->Calls aa.prog cl #[.int .i64 ns[k],c1,c2] W' λe w'=>e=.returned (.tuple #[])/\J (k+1) w'):
  Calls aa.prog 74 #[.pointer (some ⟨b,0,none⟩),.int .i64 lv,.func (.func cl) #[] #[c1,c2]] w λe w'=>e=.returned (.tuple #[])/\J ns.length w':=by
 have HB:Hid (Calls aa.prog 53 #[.pointer (some ⟨b,0,none⟩)] w λe w'=>e=.returned (.int .i64 ns.length)/\J 0 w'):=(nc b ns.length _ w h (by omega) (by omega)).mono λe w' ⟨he,hr⟩=>⟨he,hJ0 w' hr⟩
 have HM:Hid _:=ui b;have HF:Hid (∀k W,J k W->Calls aa.prog 99 #[.pointer (some ⟨b,0,none⟩)] W λe w'=>e=.returned (.bool false)/\w'=W):=λk W hJ=>GG b _ W (hJr k W hJ);have HBk:Hid (∀k (h:k<ns.length) W,J k W->Calls aa.prog 53 #[.pointer (some ⟨b,0,none⟩)] W λe w'=>e=.returned (.int .i64 ns[k])/\Rd W w' b (body k++rest (k+1))):=λk hk W hJ=>by
  have hn:=hns _ (Xe hk);have h4:=(ly hlv).1;have hr:=hJr k W hJ;rw[hrest k hk]at hr;exact nc b ns[k] _ W hr (by omega) (by omega)
 have HH:Hid (∀k (h:k<ns.length) W,Calls aa.prog 26 #[.int .i64 lv,.int .i64 ns[k]] W λe w'=>e=.returned (.bool true)/\w'=W):=λk hk W=>by
  have:=Ed lv ns[k] (by omega) W;rw[YD ⟨hlv,hns _ (Xe hk)⟩]at this;exact this
 have HC:Hid (∀k (h:k<ns.length) W W',J k W->Rd W W' b (body k++rest (k+1))->Calls aa.prog cl #[.int .i64 ns[k],c1,c2] W' λe w'=>e=.returned (.tuple #[])/\J (k+1) w'):=hclo;have HL:Hid (∀k (h:k<ns.length),je ns k<(ns[k]:Int)):=λk hk=>FL hasc hk;have n1:(1:Int)<=(ns.length:Int):=by omega
 have n2:(ns.length:Int)<=64:=by omega
 clear h hJ0 hJr hclo hns hasc hrest;rcases hcl with rfl|rfl
 all_goals
  go_enter aa.func74,aa.ntmps74;go_wp2_with (first
   |(go_at_call 53;refine HB.out.mono ?_;rintro e w1 ⟨rfl,hj1⟩;have HJ1:Hid (J 0 w1):=hj1;clear hj1)
   |(go_at_call 57;refine (HM.out _).mono ?_;rintro e w' ⟨rfl,hw'⟩;subst w'))
  go_loopw [7,8] (λlv iv wr=>∃k:Nat,k<=ns.length/\lv=.int .i64 (je ns k)/\iv=.int .i64 k/\Hid (J k wr)) (λ_ iv _=>ns.length-(intOf iv).toNat)
  case atStart=>exact⟨0,by omega,rfl,rfl,HJ1.out⟩
  case round=>
   obtain⟨k,hk,rfl,rfl,HJ⟩:=hrel;by_cases hkl:k<ns.length
   ·have k1:(k:Int)<(ns.length:Int):=by omega
    have hdk:decide ((k:Int)<(ns.length:Int))=true:=by simpa using hkl
    have hln:=HL.out k hkl;have HLs:Hid (je ns (k+1)=(ns[k]:Int)):=(show je ns (k+1)=(ns[k]:Int) by simp[je,hkl])
    have HF':Hid (Calls aa.prog 99 #[.pointer (some ⟨b,0,none⟩)] wr λe w'=>e=.returned (.bool false)/\w'=wr):=HF.out k wr HJ.out;have HB':Hid (Calls aa.prog 53 #[.pointer (some ⟨b,0,none⟩)] wr λe w'=>e=.returned (.int .i64 ns[k])/\Rd wr w' b (body k++rest (k+1))):=HBk.out k hkl wr HJ.out;have HH':Hid (∀W,Calls aa.prog 26 #[.int .i64 lv,.int .i64 ns[k]] W λe w'=>e=.returned (.bool true)/\w'=W):=λW=>HH.out k hkl W;have HC':Hid (∀W',Rd wr W' b (body k++rest (k+1))->Calls aa.prog _ #[.int .i64 ns[k],c1,c2] W' λe w'=>e=.returned (.tuple #[])/\J (k+1) w'):=λW' h=>HC.out k hkl wr W' HJ.out h;generalize ns[k]=nk at*;clear HF HBk HH HC HL HB;go_wp2_with (first
     |(go_at_call 99;refine HF'.out.mono ?_;rintro e w' ⟨rfl,hw'⟩;subst w')
     |(go_at_call 53;refine HB'.out.mono ?_;rintro e w2 ⟨rfl,hr2⟩;have HR2:Hid (Rd wr w2 b (body k++rest (k+1))):=hr2;clear hr2)
     |(go_at_call 26;refine (HH'.out _).mono ?_;rintro e w' ⟨rfl,hw'⟩;subst w')
     |(go_at_call 57;refine (HM.out _).mono ?_;rintro e w' ⟨rfl,hw'⟩;subst w')
     |((first|go_at_call 75|go_at_call 76);refine (HC'.out _ HR2.out).mono ?_;rintro e w3 ⟨rfl,hj3⟩;have HJ3:Hid (J (k+1) w3):=hj3;clear hj3))
    exact⟨⟨k+1,by omega,by rw[HLs.out],by go_num,HJ3.out⟩,by simp[intOf];omega⟩
   ·obtain rfl:k=ns.length:=by omega
    go_wp2;go_end0;exact⟨rfl,HJ.out⟩
end Go.Proofs.YtldmcdeibiclkaaGreatDoorQ
