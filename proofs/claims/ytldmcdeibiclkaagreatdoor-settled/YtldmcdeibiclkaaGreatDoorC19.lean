/-
  Toward settled_holds: Contracts: the reader of letters, where what is read stands there: take, high, Byte, Numbe
-/
import Derived.Test.YtldmcdeibiclkaaGreatDoorC18
import Derived.Shelf.SlGeneric
import Derived.Shelf.SlIter.Nil
import Derived.Shelf.SortM.Plain
import Derived.Shelf.SortM.SortNone
import Derived.Ground.GgzProg
import Derived.Ground.SlgmProg
import Derived.Test.YtldmcdeibiclkaaGreatDoorC16
import Derived.Test.YtldmcdeibiclkaaGreatDoorC17
set_option linter.unusedVariables false
set_option linter.unusedSimpArgs false
set_option maxRecDepth 100000
set_option maxHeartbeats 20000000
namespace Go.Proofs.YtldmcdeibiclkaaGreatDoorQ
variable {w w1 w2:World}{b k B:Nat}{s:ByteArray}
open Go.RowKit
def bP(w:World)(b:Nat)(s:ByteArray):Prop:=w.heap[b]?=some (.cells #[.string s,.bool false] 158)/\s.size<=140737488355328
theorem ui(b:Nat)(w:World):
  Calls aa.prog 57 #[.pointer (some ⟨b,0,none⟩),.bool true] w λe w'=>e=.returned (.tuple #[])/\w'=w:=by
 go_enter aa.func57,aa.ntmps57;go_wp2;go_end0;exact⟨rfl,rfl⟩
theorem CH(b k:Nat)(T:ByteArray)(w:World)(h:bP w b T)(hk:k<=T.size):
  Calls aa.prog 98 #[.pointer (some ⟨b,0,none⟩),.int .i64 k] w λe w'=>e=.returned (.string (T.extract 0 k))/\w'=w.setCell ⟨b,0,none⟩ (.string (T.extract k T.size)):=by
 obtain⟨hb,hl⟩:=h;obtain⟨c,f⟩:=al hb;have hle:(k:Int)<=(T.size:Int):=by omega
 have hk0:(0:Int)<=(k:Int):=by omega
 have HM:Hid _:=ui b;clear hb;go_enter aa.func98,aa.ntmps98;go_wp2_with (go_at_call 57;refine (HM.out _).mono ?_;rintro e w' ⟨rfl,rfl⟩)
 go_ret;exact⟨rfl,rfl⟩
def fL(p:ByteArray):Nat->Int
 |0=>0
 |k+1=>fL p k*256+lr p k
def be(p:ByteArray):Int:=fL p p.size
theorem MM(n:Int)(h₀:0<=n)(h₁:n<2 ^ 64):IntKind.u64.wrap n=n:=by rw[IntKind.wrap_u64];omega
theorem NW(x y:Int)(h0:0<=x)(h1:x<72057594037927936)(h2:0<=y)(h3:y<256):bits .or .u64 (x*256) y=x*256+y:=
 bits_join .u64 64 (by decide) MM 8 _ y (by omega) (by omega) (by omega) h2 h3 (by omega)
theorem TU(p:ByteArray)(k:Nat):0<=lr p k/\lr p k<256:=by
 unfold lr;split
 ·rename_i h
  have:=p[k].toNat_lt;omega
 ·omega
theorem Hw(p:ByteArray):∀k,0<=fL p k/\fL p k<256 ^ k
 |0=>by simp[fL]
 |k+1=>by
  have h1:=Hw p k;have h2:=TU p k;simp only[fL,Int.pow_succ];omega
theorem Wv(p:ByteArray)(hk:k<8):0<=fL p k/\fL p k<72057594037927936:=by
 have h:=Hw p k;have:(256:Int) ^ k<=256 ^ 7:=by
  have:=Nat.pow_le_pow_right (show 0<256 by decide) (show k<=7 by omega);exact_mod_cast this
 have:(256:Int) ^ 7=72057594037927936:=by decide
 omega
theorem Kq(b k:Nat)(T:ByteArray)(w:World)(h:bP w b T)(hk:k<=T.size)(hk8:k<=8):
  Calls aa.prog 73 #[.pointer (some ⟨b,0,none⟩),.int .i64 k] w λe w'=>e=.returned (.int .u64 (be (T.extract 0 k)))/\w'=w.setCell ⟨b,0,none⟩ (.string (T.extract k T.size)):=by
 have HT:Hid (Calls aa.prog 98 #[.pointer (some ⟨b,0,none⟩),.int .i64 k] w λe w'=>e=.returned (.string (T.extract 0 k))/\w'=w.setCell ⟨b,0,none⟩ (.string (T.extract k T.size))):=CH b k T w h hk;have hp:(T.extract 0 k).size=k:=by rw[ByteArray.size_extract];omega
 generalize T.extract 0 k=p at*;generalize T.extract k T.size=T' at*;clear h hk;go_enter aa.func73,aa.ntmps73;go_wp2_with (go_at_call 98;refine HT.out.mono ?_;rintro e w' ⟨rfl,rfl⟩)
 go_loop [5,13] (λd i=>∃j:Nat,j<=k/\i=.int .i64 j/\d=.int .u64 (fL p j)) (λ_ i=>k-(intOf i).toNat)
 case atStart=>exact⟨0,by omega,rfl,rfl⟩
 case round=>
  obtain⟨j,hj,rfl,rfl⟩:=hrel;by_cases hlt:j<k
  ·have g1:(j:Int)<(k:Int):=by omega
   have hlp:j<p.size:=by omega
   have hst:Hid (fL p (j+1)=fL p j*256+(p[j].toNat:Int)):=by
    show fL p (j+1)=_;rw[fL,xA p j hlp]
   have g0:(0:Int)<=(j:Int):=by omega
   have hb:=Wv p (show j<8 by omega);go_wp2;refine⟨⟨j+1,by omega,by go_num,?_⟩,by simp[intOf];omega⟩;have h2:=p[j].toNat_lt;rw[hst.out,yd,NW _ _ hb.1 hb.2 (by omega) (by omega)]
  ·have hke:j=k:=by omega
   subst hke;have hbe:fL p j=be p:=by rw[be,hp]
   rw[hbe];go_wp2;go_ret;exact⟨rfl,rfl⟩
def Rd(w w':World)(b:Nat)(s:ByteArray):Prop:=bP w' b s/\Fr (λk=>k=b) w w'
theorem Rd.trans{t:ByteArray}(h:Rd w w1 b s)(h':Rd w1 w2 b t):Rd w w2 b t:=⟨h'.1,h.2.trans h'.2⟩
theorem bP.lt(h:bP w b s):b<w.heap.size:=(Array.getElem?_eq_some_iff.1 h.1).1
theorem bP.below(h:bP w b s)(hb:Below w.heap.size w w1):bP w1 b s:=⟨by rw[hb.block _ h.lt];exact h.1,h.2⟩
theorem Rd.below(h:Rd w w1 b s)(hb:Below w1.heap.size w1 w2):Rd w w2 b s:=⟨h.1.below hb,h.2.below hb⟩
theorem Rd.of{p:ByteArray}(h:bP w b (p++s)):Rd w (w.setCell ⟨b,0,none⟩ (.string s)) b s:=by
 refine⟨⟨?_,?_⟩,(Fr.refl (λk=>k=b) w).setCell (.inr rfl) _⟩
 ·have:=heap_set (w:=w) (o:=0) (v:=.string s) h.1;simpa using this
 ·have:=h.2;rw[IS]at this;omega
theorem sZ(p s:ByteArray):(p++s).extract 0 p.size=p:=ByteArray.extract_append_eq_left rfl
theorem tZ(p s:ByteArray):(p++s).extract p.size (p++s).size=s:=ByteArray.extract_append_eq_right rfl (by simp)
theorem Md(b:Nat)(p s:ByteArray)(w:World)(h:bP w b (p++s)):
  Calls aa.prog 98 #[.pointer (some ⟨b,0,none⟩),.int .i64 p.size] w λe w'=>e=.returned (.string p)/\Rd w w' b s:=by
 refine (CH b p.size _ w h (by simp)).mono ?_;rintro e w' ⟨rfl,rfl⟩;rw[sZ,tZ];exact⟨rfl,Rd.of h⟩
theorem zp(b:Nat)(p s:ByteArray)(w:World)(h:bP w b (p++s))(hp:p.size<=8):
  Calls aa.prog 73 #[.pointer (some ⟨b,0,none⟩),.int .i64 p.size] w λe w'=>e=.returned (.int .u64 (be p))/\Rd w w' b s:=by
 refine (Kq b p.size _ w h (by simp) hp).mono ?_;rintro e w' ⟨rfl,rfl⟩;rw[sZ,tZ];exact⟨rfl,Rd.of h⟩
theorem ud(n:Int):be (ax n)=n%256:=by
 simp[be,ax,fL,lr,rp,show (ByteArray.mk #[byteOf n]).size=1 from rfl,ByteArray.getElem_eq_getElem_data]
theorem CG(p q:ByteArray):∀k,k<=p.size->fL (p++q) k=fL p k
 |0,_=>rfl
 |k+1,h=>by
  rw[fL,fL,CG p q k (by omega)];congr 1;unfold lr;rw[dif_pos (show k<p.size by omega),dif_pos (show k<(p++q).size by rw[IS];omega),ByteArray.getElem_append_left (by omega)]
theorem uk(p:ByteArray)(n:Int):be (p++ax n)=be p*256+n%256:=by
 rw[be,IS,da,fL,CG p _ _ (iR _),be];congr 1;unfold lr;rw[dif_pos (by rw[IS,da];omega),ByteArray.getElem_append_right (iR _),<-rp];congr 2;simp[ax,ByteArray.getElem_eq_getElem_data]
theorem xM(n:Int)(h0:0<=n)(h1:n<4294967296):be (cz n)=n:=by
 have e:cz n=((ax (n / 16777216)++ax (n / 65536))++ax (n / 256))++ax n:=rfl;rw[e,uk,uk,uk,ud];omega
theorem uG(d:Int):(fW d).size=8:=rn d 8
theorem Fe(d:Int)(h0:0<=d)(h1:d<18446744073709551616):∀k,k<=8->be (fF d k)=d / 2 ^ (64-8*k)
 |0,_=>by
  show (0:Int)=_;rw[Int.ediv_eq_zero_of_lt h0 (by simpa using h1)]
 |k+1,hk=>by
  rw[fF,uk,Fe d h0 h1 k (by omega),show 64-8*(k+1)=56-8*k by omega,show 64-8*k=(56-8*k)+8 by omega,Int.pow_add,<-Int.ediv_ediv_of_nonneg (by exact_mod_cast XN _)];omega
theorem Pu(d:Int)(h0:0<=d)(h1:d<18446744073709551616):be (fW d)=d:=by
 rw[fW,Fe d h0 h1 8 (by omega)];simp
theorem nc(b:Nat)(n:Int)(s:ByteArray)(w:World)(h:bP w b (ax n++s))(h0:0<=n)(h1:n<256):
  Calls aa.prog 53 #[.pointer (some ⟨b,0,none⟩)] w λe w'=>e=.returned (.int .i64 n)/\Rd w w' b s:=by
 have HT:Hid (Calls aa.prog 73 #[.pointer (some ⟨b,0,none⟩),.int .i64 1] w λe w'=>e=.returned (.int .u64 n)/\Rd w w' b s):=by
  have:=zp b (ax n) s w h (by rw[da];omega);rw[ud,YB h0 h1]at this;exact this
 have hi:n<=9223372036854775807:=by omega
 go_enter aa.func53,aa.ntmps53;go_wp2_with (go_at_call 73;refine HT.out.mono ?_;rintro e w' ⟨rfl,hr⟩)
 go_ret;exact⟨rfl,hr⟩
theorem vj(b:Nat)(n:Int)(s:ByteArray)(w:World)(h:bP w b (cz n++s))(h0:0<=n)(h1:n<4294967296):
  Calls aa.prog 100 #[.pointer (some ⟨b,0,none⟩)] w λe w'=>e=.returned (.int .i64 n)/\Rd w w' b s:=by
 have HT:Hid (Calls aa.prog 73 #[.pointer (some ⟨b,0,none⟩),.int .i64 4] w λe w'=>e=.returned (.int .u64 n)/\Rd w w' b s):=by
  have:=zp b (cz n) s w h (by rw[jP];omega);rw[xM n h0 h1]at this;exact this
 have hi:n<=9223372036854775807:=by omega
 go_enter aa.func100,aa.ntmps100;go_wp2_with (go_at_call 73;refine HT.out.mono ?_;rintro e w' ⟨rfl,hr⟩)
 go_ret;exact⟨rfl,hr⟩
theorem Cj(b:Nat)(d:Int)(s:ByteArray)(w:World)(h:bP w b (fW d++s))(h0:0<=d)(h1:d<18446744073709551616):
  Calls aa.prog 54 #[.pointer (some ⟨b,0,none⟩)] w λe w'=>e=.returned (.int .u64 d)/\Rd w w' b s:=by
 have HT:Hid (Calls aa.prog 73 #[.pointer (some ⟨b,0,none⟩),.int .i64 8] w λe w'=>e=.returned (.int .u64 d)/\Rd w w' b s):=by
  have:=zp b (fW d) s w h (by rw[uG];omega);rw[Pu d h0 h1,uG]at this;exact this
 go_enter aa.func54,aa.ntmps54;go_wp2_with (go_at_call 73;refine HT.out.mono ?_;rintro e w' ⟨rfl,hr⟩)
 go_ret;exact⟨rfl,hr⟩
theorem CL(b:Nat)(t s:ByteArray)(w:World)(h:bP w b (dJ t++s))(h1:t.size<256):
  Calls aa.prog 138 #[.pointer (some ⟨b,0,none⟩)] w λe w'=>e=.returned (.string t)/\Rd w w' b s:=by
 rw[dJ,ByteArray.append_assoc]at h;have HB:Hid (Calls aa.prog 53 #[.pointer (some ⟨b,0,none⟩)] w λe w'=>e=.returned (.int .i64 t.size)/\Rd w w' b (t++s)):=nc b t.size (t++s) w h (by omega) (by omega);have HT:Hid (∀w1,Rd w w1 b (t++s)->Calls aa.prog 98 #[.pointer (some ⟨b,0,none⟩),.int .i64 t.size] w1 λe w'=>e=.returned (.string t)/\Rd w w' b s):=λw1 h1=>(Md b t s w1 h1.1).mono λe w' ⟨he,hr⟩=>⟨he,h1.trans hr⟩
 have HC:Hid (∀w1,Rd w w1 b s->Calls aa.prog 41 #[.string t] w1 λe w'=>e=.returned (.string t)/\Rd w w' b s):=λw1 h1=>(sr t w1 (by omega)).mono λe w' ⟨he,hr⟩=>⟨he,h1.below hr⟩
 go_enter aa.func138,aa.ntmps138;go_wp2_with (first
  |(go_at_call 53;refine HB.out.mono ?_;rintro e w1 ⟨rfl,hr1⟩)
  |(go_at_call 98;refine (HT.out _ hr1).mono ?_;rintro e w2 ⟨rfl,hr2⟩)
  |(go_at_call 41;refine (HC.out _ hr2).mono ?_;rintro e w3 ⟨rfl,hr3⟩))
 go_ret;exact⟨rfl,hr3⟩
section
open Go.Lib (strCells strCells_length strCells_oneCell)
structure Rc where
 key:ByteArray
 c:Ctx
 sv:Value
 l:List aj
def jc(rs:List Rc):List Value:=rs.flatMap λr=>jU r.key r.c r.sv
def dk(rs:List Rc):ByteArray:=rs.foldl (λs r=>s++dc r.key r.c r.l) ByteArray.empty
def dp(w:World)(B:Nat)(rv:Value)(rs:List Rc):Prop:=w.ownsRow B 151 6 rv rs.length (jc rs)
theorem F5(a b:List Rc):jc (a++b)=jc a++jc b:=by simp[jc]
theorem Th(rs:List Rc)(k:Nat)(h:k<rs.length)(j:Nat)(hj:j<6):(jc rs)[k*6+j]?=(jU rs[k].key rs[k].c rs[k].sv)[j]? :=by
 induction rs generalizing k with
 |nil=>simp at h
 |cons r rs ih=>
  have e:jc (r::rs)=jU r.key r.c r.sv++jc rs:=by simp[jc]
  have el:(jU r.key r.c r.sv).length=6:=rfl;cases k with
  |zero=>rw[e,List.getElem?_append_left (by omega)];simp
  |succ k=>
   have h':k<rs.length:=by simpa using h
   rw[e,List.getElem?_append_right (by omega),el,show (k+1)*6+j-6=k*6+j by omega,ih k h'];rfl
theorem NJ(l:List Rc)(r:Rc):dk (l++ [r])=dk l++dc r.key r.c r.l:=by
 simp[dk,List.foldl_append]
theorem uE{l:List Rc}(h:k<l.length):dk (l.take (k+1))=dk (l.take k)++dc l[k].key l[k].c l[k].l:=by
 rw[Xq h,NJ]
theorem EX(l:List Rc):∀k,(dk (l.take k)).size<=(dk l).size:=λk=>by
 have key:∀(m:List Rc) (s:ByteArray),s.size<=(m.foldl (λs r=>s++dc r.key r.c r.l) s).size:=λm=>by
  induction m with
  |nil=>intro s;exact iR _
  |cons v m ih=>intro s;refine Xb ?_ (ih (s++dc v.key v.c v.l));rw[IS];omega
 conv=>rhs;rw[<-List.take_append_drop k l]
 rw[dk,dk,List.foldl_append];exact key _ _
theorem dp.cells{rv:Value}{rs:List Rc}(h:dp w B rv rs)(hk:k<rs.length):
  ∃g cap,rv=.slice (some ⟨g,0,none⟩) rs.length cap/\g<w.heap.size/\rs.length<=cap/\cap<=maxLen/\∀j,j<6->w.cell? ⟨g,k*6+j,none⟩=(jU rs[k].key rs[k].c rs[k].sv)[j]? :=by
 obtain⟨h1,h2⟩:=h;rcases h2 with⟨_,h2⟩|⟨g,cap,cur,hv,_,hh,hn,hc,hs,ht⟩
 ·omega
 ·refine⟨g,cap,hv,(Array.getElem?_eq_some_iff.1 hh).1,hn,hc,λj hj=>?_⟩;rw[<-Th rs k hk j hj,<-ht,List.getElem?_take,AS (by omega)];simp[World.cell?,hh]
theorem dp.len{v:Value}{rs:List Rc}(h:dp w B v rs): ∃ad cap,v=.slice ad rs.length cap/\cap<=maxLen/\rs.length<=cap:=by
 rcases h.2 with⟨h1,h2⟩|⟨g,cap,cur,hv,_,_,h4,h3,_⟩
 ·exact⟨_,_,by rw[h1,h2],by simp,by omega⟩
 ·exact⟨_,_,hv,h3,h4⟩
theorem pw{sv:Value}{l:List aj}(h:aC w sv l): ∃ad cap,sv=.slice ad l.length cap:=by
 rcases h.2 with⟨h1,h2⟩|⟨g,cap,cur,hv,_⟩
 ·exact⟨_,_,by rw[h1,h2]⟩
 ·exact⟨_,_,hv⟩
theorem Lb(B:Nat)(rv:Value)(rs:List Rc)(w:World)(h:dp w B rv rs)(hv:∀r∈rs,aC w r.sv r.l/\r.l.length<=100000)(hlen:(dk rs).size<=140737488355328):
  Calls aa.prog 48 #[.slice none 0 0,rv] w λe w'=>∃v',e=.returned v'/\aH w' w.heap.size v' (dk rs)/\Below w.heap.size w w':=by
 obtain⟨ad,cap,rfl,hcap,hlc⟩:=h.len;unfold maxLen at hcap;have H:Hid (dp w B (.slice ad rs.length cap) rs):=h;have HV:Hid (∀r∈rs,aC w r.sv r.l/\r.l.length<=100000):=hv;clear h hv;go_enter aa.func48,aa.ntmps48;go_wp2;go_loopw [0,9] (λo i wr=>∃k:Nat,k<=rs.length/\i=.int .i64 k/\Hid (aH wr w.heap.size o (dk (rs.take k)))/\Hid (Below w.heap.size w wr)) (λ_ i _=>rs.length-(intOf i).toNat)
 case atStart=>exact⟨0,by omega,rfl,aH.nil _ _,AT _ _⟩
 case round=>
  obtain⟨k,hk,rfl,hr,hb⟩:=hrel;have HR:Hid (aH wr w.heap.size u0 (dk (rs.take k))):=hr.out;have HB:Hid (Below w.heap.size w wr):=hb.out;have hsz:=hb.out.size;clear hr hb;by_cases hlt:k<rs.length
  ·obtain⟨g,cap',hsv',hgl,_,_,cc⟩:=dp.cells H.out hlt;cases hsv';have cw:∀j,j<6->wr.cell? ⟨g,k*6+j,none⟩=(jU rs[k].key rs[k].c rs[k].sv)[j]? :=λj hj=>(HB.out.cell (p:=⟨g,k*6+j,none⟩) hgl).trans (cc j hj);have c0:=cw 0 (by omega);have c1:=cw 1 (by omega);have c2:=cw 2 (by omega);have c3:=cw 3 (by omega);have c4:=cw 4 (by omega);have c5:=cw 5 (by omega);clear cc cw;simp[jU]at c0 c1 c2 c3 c4 c5;have hvk:=HV.out rs[k] (Xe hlt);have HVk:Hid (∀W,Below w.heap.size w W->aC W rs[k].sv rs[k].l):=λW hW=>ec hvk.1 hW (iR _);have hvl:=hvk.2;obtain⟨adv,capv,hsvv⟩:=pw hvk.1;clear hvk;have htk:=EX rs (k+1);rw[uE hlt,IS]at htk;have HT:Hid (dk (rs.take k)++dc rs[k].key rs[k].c rs[k].l=dk (rs.take (k+1))):=(uE hlt).symm;generalize dk (rs.take k)=st at*;have hst:st.size+(dc rs[k].key rs[k].c rs[k].l).size<=140737488355328:=by omega
   clear htk;generalize rs[k].key=key at*;generalize rs[k].c=c at*;generalize rs[k].sv=sv at*;generalize rs[k].l=l at*;subst hsvv;have g63:(k:Int)<(rs.length:Int):=by omega
   have k0:(0:Int)<=(k:Int):=by omega
   have HBa:Hid (Below w.heap.size w (wr.alloc (.cells #[.string key,.int .i64 (c 0),.int .i64 (c 1),.int .i64 (c 2),.int .i64 (c 3),.slice adv l.length capv] 151))):=HB.out.alloc hsz _;have HRa:Hid (aH (wr.alloc (.cells #[.string key,.int .i64 (c 0),.int .i64 (c 1),.int .i64 (c 2),.int .i64 (c 3),.slice adv l.length capv] 151)) w.heap.size u0 st):=HR.out.alloc _;go_wp2_with (go_at_call 70;refine (De w.heap.size u0 st key c (.slice adv l.length capv) l (wr.alloc (.cells #[.string key,.int .i64 (c 0),.int .i64 (c 1),.int .i64 (c 2),.int .i64 (c 3),.slice adv l.length capv] 151)) HRa.out (by simp;omega) (HVk.out _ HBa.out) hvl hst).mono ?_;rintro e w1 ⟨v1,rfl,hr1,hg1⟩;have HR1:Hid (aH w1 w.heap.size v1 (st++dc key c l)):=hr1;have HB1:Hid (Below w.heap.size w w1):=hg1.toBelow HBa.out (by simp;omega) HRa.out;clear hr1 hg1)
   refine⟨⟨k+1,by omega,by go_num,?_,HB1.out⟩,by simp[intOf];omega⟩;show aH _ _ _ _;rw[<-HT.out];exact HR1.out
  ·obtain rfl:k=rs.length:=by omega
   have HRe:Hid (aH wr w.heap.size u0 (dk rs)):=(by have:=HR.out;rw[Xx]at this;exact this)
   clear HR;go_wp2;go_ret;exact⟨_,rfl,HRe.out,HB.out⟩
end
def sT(v:aj):Prop:=v.rep<256/\0<=v.n/\v.n<4294967296/\v.val.size<256
theorem Rd.other{o:Obj}(h:Rd w w1 b s)(hk:w.heap[k]?=some o)(hn:k≠b):w1.heap[k]?=some o:=h.2.heap hk hn
theorem Rd.setCell{o:Nat}(h:Rd w w1 b s)(hk:w.heap.size<=k/\k≠b)(v:Value):Rd w (w1.setCell ⟨k,o,none⟩ v) b s:=
 ⟨⟨by rw[Xg _ _ _ _ (Xl hk.2)];exact h.1.1,h.1.2⟩,h.2.setCell (.inl hk.1) v⟩
theorem KT(b:Nat)(v:aj)(s:ByteArray)(w:World)(h:bP w b (fT v++s))(hv:sT v):
  Calls aa.prog 139 #[.pointer (some ⟨b,0,none⟩)] w λe w'=>e=.returned (.agg #[.int .i64 v.rep,.int .i64 v.n,.string v.val])/\Rd w w' b s:=by
 obtain⟨r,n,t⟩:=v;obtain⟨h1,h2,h3,h4⟩:=hv;rw[fT,bY,bY]at h;simp only[aj.rep,aj.n,aj.val] at*;have hlt:=h.lt;have HB:Hid (∀w1,Below w.heap.size w w1->Calls aa.prog 53 #[.pointer (some ⟨b,0,none⟩)] w1 λe w'=>e=.returned (.int .i64 r)/\Rd w1 w' b (cz n++(dJ t++s))):=λw1 hb=>nc b r _ w1 (h.below hb) (by omega) (by omega);have HN:Hid (∀w1,bP w1 b (cz n++(dJ t++s))->Calls aa.prog 100 #[.pointer (some ⟨b,0,none⟩)] w1 λe w'=>e=.returned (.int .i64 n)/\Rd w1 w' b (dJ t++s)):=λw1 hb=>vj b n _ w1 hb h2 h3;have HT:Hid (∀w1,bP w1 b (dJ t++s)->Calls aa.prog 138 #[.pointer (some ⟨b,0,none⟩)] w1 λe w'=>e=.returned (.string t)/\Rd w1 w' b s):=λw1 hb=>CL b t s w1 hb h4;clear h h1 h2 h3 h4;go_enter aa.func139,aa.ntmps139;go_upto_region 2 with (first
  |(go_at_call 53;refine (HB.out _ ((AT _ _).alloc (iR _) _)).mono ?_;rintro e w1 ⟨rfl,hr1⟩)
  |(go_at_call 100;refine (HN.out _ hr1.1).mono ?_;rintro e w2 ⟨rfl,hr2⟩))
 have hz:w.heap.size<w1.heap.size:=by have:=hr1.2.size;simp at this;omega
 have hz2:w.heap.size<w2.heap.size:=by have:=hr2.2.size;omega
 have HR0:Hid (bP (w2.alloc (.cells #[.int .i64 r,.int .i64 n] 142)) b (dJ t++s)):=hr2.1.below ((AT _ _).alloc (iR _) _);have HF:Hid (Fr (λk=>k=b) w (w2.alloc (.cells #[.int .i64 r,.int .i64 n] 142))):=((((Fr.refl _ w).alloc _).trans hr1.2).trans hr2.2).alloc _;have HO:Hid ((w2.alloc (.cells #[.int .i64 r,.int .i64 n] 142)).heap[w.heap.size]?=some (.cells #[.int .i64 0,.int .i64 0,.string ⟨#[]⟩] 144)):=by
  rw[OF _ _ _ hz2];exact hr2.other (hr1.other (BY w _) (by omega)) (by omega)
 have HD:Hid ((w2.alloc (.cells #[.int .i64 r,.int .i64 n] 142)).heap[w2.heap.size]?=some (.cells #[.int .i64 r,.int .i64 n] 142)):=BY w2 _;obtain⟨W0,hW0⟩: ∃W,W=w2.alloc (.cells #[.int .i64 r,.int .i64 n] 142):=⟨_,rfl⟩
 rw[<-hW0]at HR0 HF HO HD ⊢;obtain⟨d0,f0⟩:=al HD.out;have HT':Hid (∀q,Calls aa.prog 138 #[.pointer (some ⟨b,0,none⟩)] (W0.drewN q) λe w'=>e=.returned (.string t)/\w'.heap[w.heap.size]?=some (.cells #[.int .i64 0,.int .i64 0,.string ⟨#[]⟩] 144)/\w'.heap[w2.heap.size]?=some (.cells #[.int .i64 r,.int .i64 n] 142)/\Rd w w' b s):=λq=>by
  have hb:Below W0.heap.size W0 (W0.drewN q):=Xz (AT _ _) q;refine (HT.out _ (HR0.out.below hb)).mono ?_;rintro e w3 ⟨rfl,hr3⟩;exact⟨rfl,hr3.other HO.out (by omega),hr3.other HD.out (by omega),hr3.1,(HF.out.below hb).trans hr3.2⟩
 clear hW0 hr1 hr2 HB HN HT HR0 HF HO HD;go_region_with (first|(go_at_call 138;refine By (HT'.out 1) ?_;rintro e w3 ⟨rfl,hv3,hd3,hr3⟩;obtain⟨cv,fv⟩:=al hv3;obtain⟨cd,fd⟩:=al hd3;have HV3:Hid (w3.heap[w.heap.size]?=some (.cells #[.int .i64 0,.int .i64 0,.string ⟨#[]⟩] 144)):=hv3;have HR3:Hid (Rd w w3 b s):=hr3;clear hv3 hd3 hr3))
 all_goals
  go_wp2;refine XF (v:=.agg #[.int .i64 r,.int .i64 n,.string t]) ?_ rfl ⟨rfl,?_⟩
  ·simp[results,aa.results139,go_sem,cv]
  ·exact ((HR3.out.setCell (by omega) _).setCell (by omega) _).setCell (by omega) _
end Go.Proofs.YtldmcdeibiclkaaGreatDoorQ
namespace Go.Proofs
section
open Go.Shelf
def aa.CA:Go.Shelf.Ren:=⟨fun|7=>72|10=>97|n=>n,fun|23=>98|26=>9|3=>106|28=>155|0=>0|27=>154|33=>103|4=>4|n=>n,fun|n=>n⟩
theorem aa.Eu:Go.Proofs.SlLaysZ.n7 aa.prog aa.CA:={
 mixed:=by kernel_rfl
 f7:=⟨aa.f72.name,by decide,aa.func72.trans (congrArg some (by kernel_rfl))⟩
 f10:=⟨aa.f97.name,by decide,aa.func97.trans (congrArg some (by kernel_rfl))⟩
 t0:=aa.underlying0
 a0:=aa.isAgg0
 z0:=aa.sizeOf0
 v0:=aa.zeroValue0
 t4:=aa.underlying4
 a4:=aa.isAgg4
 z4:=aa.sizeOf4
 v4:=aa.zeroValue4
 t23:=aa.underlying98
 a23:=aa.isAgg98
 z23:=aa.sizeOf98
 v23:=aa.zeroValue98
 t26:=aa.underlying9
 a26:=aa.isAgg9
 z26:=aa.sizeOf9
 v26:=aa.zeroValue9
 t27:=aa.underlying154
 a27:=aa.isAgg154
 z27:=aa.sizeOf154
 v27:=aa.zeroValue154
 t28:=aa.underlying155
 a28:=aa.isAgg155
 z28:=aa.sizeOf155
 v28:=aa.zeroValue155
 t33:=aa.underlying103
 a33:=aa.isAgg103
 z33:=aa.sizeOf103
 v33:=aa.zeroValue103}
def aa.Fz:Go.Shelf.Ren:=⟨fun|6=>71|8=>95|9=>96|11=>136|13=>85|12=>137|23=>115|24=>116|14=>152|15=>153|16=>154|17=>155|18=>156|19=>157|20=>158|21=>159|22=>160|25=>163|26=>143|27=>144|28=>164|29=>165|30=>166|31=>167|n=>n,fun|26=>9|28=>155|24=>38|0=>0|3=>3|37=>175|48=>186|50=>44|4=>4|40=>200|39=>199|45=>55|5=>5|9=>9|51=>225|55=>228|57=>242|58=>243|33=>103|n=>n,fun|n=>n⟩
theorem aa.LW:Go.Proofs.SlLaysZ.n6 aa.prog aa.Fz:={
 mixed:=by kernel_rfl
 f6:=⟨aa.f71.name,by decide,aa.func71.trans (congrArg some (by kernel_rfl))⟩
 f8:=⟨aa.f95.name,by decide,aa.func95.trans (congrArg some (by kernel_rfl))⟩
 f11:=⟨aa.f136.name,by decide,aa.func136.trans (congrArg some (by kernel_rfl))⟩
 t0:=aa.underlying0
 a0:=aa.isAgg0
 z0:=aa.sizeOf0
 v0:=aa.zeroValue0
 t24:=aa.underlying38
 a24:=aa.isAgg38
 z24:=aa.sizeOf38
 v24:=aa.zeroValue38
 t26:=aa.underlying9
 a26:=aa.isAgg9
 z26:=aa.sizeOf9
 v26:=aa.zeroValue9
 t28:=aa.underlying155
 a28:=aa.isAgg155
 z28:=aa.sizeOf155
 v28:=aa.zeroValue155
 i26:=by kernel_rfl}
def aa.NK:Go.Shelf.Ren:=⟨fun|6=>96|8=>85|9=>137|19=>115|20=>116|21=>152|22=>153|23=>154|24=>155|25=>156|26=>157|27=>158|28=>159|29=>160|36=>163|31=>143|32=>144|37=>164|38=>165|39=>166|41=>167|n=>n,fun|27=>38|29=>9|3=>3|32=>175|26=>38|0=>0|44=>186|46=>44|4=>4|36=>200|35=>199|41=>55|5=>5|9=>9|53=>225|57=>228|63=>242|64=>243|n=>n,fun|n=>n⟩
theorem aa.DY:Go.Proofs.SlLaysM.n6 aa.prog aa.NK:={
 mixed:=by kernel_rfl
 f6:=⟨aa.f96.name,by decide,aa.func96.trans (congrArg some (by kernel_rfl))⟩
 f8:=aa.func85.trans (congrArg some (by kernel_rfl))
 f9:=⟨aa.f137.name,by decide,aa.func137.trans (congrArg some (by kernel_rfl))⟩
 f19:=aa.func115.trans (congrArg some (by kernel_rfl))
 f20:=aa.func116.trans (congrArg some (by kernel_rfl))
 f21:=⟨aa.f152.name,by decide,aa.func152.trans (congrArg some (by kernel_rfl))⟩
 f22:=⟨aa.f153.name,by decide,aa.func153.trans (congrArg some (by kernel_rfl))⟩
 f23:=⟨aa.f154.name,by decide,aa.func154.trans (congrArg some (by kernel_rfl))⟩
 f24:=⟨aa.f155.name,by decide,aa.func155.trans (congrArg some (by kernel_rfl))⟩
 f25:=⟨aa.f156.name,by decide,aa.func156.trans (congrArg some (by kernel_rfl))⟩
 f26:=⟨aa.f157.name,by decide,aa.func157.trans (congrArg some (by kernel_rfl))⟩
 f27:=⟨aa.f158.name,by decide,aa.func158.trans (congrArg some (by kernel_rfl))⟩
 f28:=⟨aa.f159.name,by decide,aa.func159.trans (congrArg some (by kernel_rfl))⟩
 f29:=⟨aa.f160.name,by decide,aa.func160.trans (congrArg some (by kernel_rfl))⟩
 f31:=aa.func143.trans (congrArg some (by kernel_rfl))
 f32:=aa.func144.trans (congrArg some (by kernel_rfl))
 f36:=⟨aa.f163.name,by decide,aa.func163.trans (congrArg some (by kernel_rfl))⟩
 f37:=⟨aa.f164.name,by decide,aa.func164.trans (congrArg some (by kernel_rfl))⟩
 f38:=⟨aa.f165.name,by decide,aa.func165.trans (congrArg some (by kernel_rfl))⟩
 f39:=⟨aa.f166.name,by decide,aa.func166.trans (congrArg some (by kernel_rfl))⟩
 f41:=⟨aa.f167.name,by decide,aa.func167.trans (congrArg some (by kernel_rfl))⟩
 t0:=aa.underlying0
 a0:=aa.isAgg0
 z0:=aa.sizeOf0
 v0:=aa.zeroValue0
 t3:=aa.underlying3
 a3:=aa.isAgg3
 z3:=aa.sizeOf3
 v3:=aa.zeroValue3
 t4:=aa.underlying4
 a4:=aa.isAgg4
 z4:=aa.sizeOf4
 v4:=aa.zeroValue4
 t5:=aa.underlying5
 a5:=aa.isAgg5
 z5:=aa.sizeOf5
 v5:=aa.zeroValue5
 t9:=aa.underlying9
 a9:=aa.isAgg9
 z9:=aa.sizeOf9
 v9:=aa.zeroValue9
 t26:=aa.underlying38
 a26:=aa.isAgg38
 z26:=aa.sizeOf38
 v26:=aa.zeroValue38
 t27:=aa.underlying38
 a27:=aa.isAgg38
 z27:=aa.sizeOf38
 v27:=aa.zeroValue38
 t29:=aa.underlying9
 a29:=aa.isAgg9
 z29:=aa.sizeOf9
 v29:=aa.zeroValue9
 t32:=aa.underlying175
 a32:=aa.isAgg175
 z32:=aa.sizeOf175
 v32:=aa.zeroValue175
 t35:=aa.underlying199
 a35:=aa.isAgg199
 z35:=aa.sizeOf199
 v35:=aa.zeroValue199
 t36:=aa.underlying200
 a36:=aa.isAgg200
 z36:=aa.sizeOf200
 v36:=aa.zeroValue200
 t41:=aa.underlying55
 a41:=aa.isAgg55
 z41:=aa.sizeOf55
 v41:=aa.zeroValue55
 t44:=aa.underlying186
 a44:=aa.isAgg186
 z44:=aa.sizeOf186
 v44:=aa.zeroValue186
 t46:=aa.underlying44
 a46:=aa.isAgg44
 z46:=aa.sizeOf44
 v46:=aa.zeroValue44
 t53:=aa.underlying225
 a53:=aa.isAgg225
 z53:=aa.sizeOf225
 v53:=aa.zeroValue225
 t57:=aa.underlying228
 a57:=aa.isAgg228
 z57:=aa.sizeOf228
 v57:=aa.zeroValue228
 t63:=aa.underlying242
 a63:=aa.isAgg242
 z63:=aa.sizeOf242
 v63:=aa.zeroValue242
 t64:=aa.underlying243
 a64:=aa.isAgg243
 z64:=aa.sizeOf243
 v64:=aa.zeroValue243}
end
end Go.Proofs
section
namespace Go.Proofs
open Go.RowKit Go.Maps Go.Sort Go.Shelf
namespace YtldmcdeibiclkaaGreatDoorQ
open Go.WideElems (Fit rd rg rd_mk)
theorem UZ(m:Nat):AnyZ.SortsIn aa.prog aa.Fz Fence.wide m:=
 ⟨λblk off cap ss W hH hblk hsz=>callsIn_wide.2 (AnyM.slices_Sort_string aa.DY blk off cap ss W hH hblk hsz),
  λp cap W=>callsIn_wide.2 (AnyM.slices_Sort_string_none aa.DY p cap W)⟩
theorem Jo(mb:Option Nat)(W:World):Calls aa.prog 72 #[.map mb] W λe w'=>e=.returned (.func (.func 97) #[] #[.pointer (some ⟨W.heap.size,0,none⟩)])/\w'=W.alloc (.cells #[.map mb] 98):=
 callsIn_wide.1 (AnyZ.keys_in aa.Eu Fence.wide 5 trivial rfl mb W)
theorem Ts(b nn:Nat)(D0:DataW Unit)(R:Value->Option (DataW Unit×List MemPlace))(w:World)(aD:w.ownsMap aa.prog 9 R b nn D0)(hmax:Maps.size D0<=maxLen)(hbytes:Maps.size D0*16<=140737488355328):
  Calls aa.prog 71 #[.func (.func 97) #[] #[.pointer (some ⟨w.heap.size,0,none⟩)]] (w.alloc (.cells #[.map (some b)] 98)) λe w'=>∃(v:Value) (ss:List (List UInt8)),e=.returned v/\ss.Perm (strKeys D0)/\
   w'.ownsRow (w.heap.size+1) 9 1 v ss.length ((ss.mergeSort (λx y=>decide (x<=y))).map encStr)/\Below (w.alloc (.cells #[.map (some b)] 98)).heap.size (w.alloc (.cells #[.map (some b)] 98)) w':=by
 have hbl:=aD.lt;have eF:SeqGives Fence.wide 2 aa.prog 97 #[.pointer (some ⟨w.heap.size,0,none⟩)] encStr (λss=>ss.Perm (strKeys D0)) (Maps.size D0) (w.alloc (.cells #[.map (some b)] 98)):=
  AnyZ.keys_gives (ρ:=aa.CA) {aa.Eu with} Fence.wide _ trivial rfl (by omega) w.heap.size b nn D0 _ (by simp) (by simp) (by
   obtain⟨es,clock,hb,Ft,hs,hD⟩:=aD;exact⟨es,clock,(OF _ _ b hbl).trans hb,Ft,hs,hD⟩)
 have h:=AnyZ.sorted_in aa.LW Fence.wide 5 trivial trivial trivial trivial rfl (by omega) (UZ _) (enters_of aa.func96 (by kernel_rfl) rfl) 97 #[.pointer (some ⟨w.heap.size,0,none⟩)] trivial (enters_of aa.func97 (by kernel_rfl) rfl) _ _ hmax hbytes _ eF;refine (callsIn_wide.1 h).mono ?_;rintro e w' ⟨v,ss,h1,h2,h3,_,h5⟩;rw[show (w.alloc (.cells #[.map (some b)] 98)).heap.size=w.heap.size+1 by simp]at h3;exact⟨v,ss,h1,h2,h3,h5⟩
def pa(e:MapEntry):List UInt8:=match e.key with
 |.string k=>k.data.toList
 |_=>[]
def de(es:List MapEntry):List (List UInt8):=es.map pa
def sS:Value->Option (DataW Unit×List MemPlace):=λ_=>some (.nil,[])
theorem Ow{e:MapEntry}{k:ByteArray}(he:e.key=.string k)(hk:k.size<=maxLen):rd aa.prog 9 sS e=some (.string k.data.toList,.nil):=by
 obtain⟨key,val,born⟩:=e;subst he;exact rd_mk (R:=sS) (yv:=(.nil,[])) (Go.WideMaps.keyOf_string_mk aa.underlying9 hk) rfl
theorem IZ{w:World}{m:Nat}{es:Array MapEntry}{clock:Nat}{Q:ByteArray->Prop}(hm:w.heap[m]?=some (.map es clock))(hst:kH Q es.toList clock)(hQ:∀k,Q k->k.size<=maxLen)(hsz:es.size<=maxLen):
  ∃D0:DataW Unit,w.ownsMap aa.prog 9 sS m es.size D0/\Maps.size D0=es.size/\(strKeys D0).Perm (de es.toList):=by
 obtain⟨h1,h2,h3,h4⟩:=hst;have hrd:∀x∈es.toList,∃k,x.key=.string k/\rd aa.prog 9 sS x=some (.string k.data.toList,.nil):=λx hx=>by
  obtain⟨k,hk,hq⟩:=h4 x hx;exact⟨k,hk,Ow hk (hQ k hq)⟩
 refine⟨_,⟨es,clock,hm,⟨hsz,⟨h3,h2,h1⟩,λx hx=>(hrd x hx).elim λk hk=>⟨_,hk.2⟩⟩,iR _,rfl⟩,?_,?_⟩
 ·show List.length _=_;rw[(Go.WideShapes.sorted_perm _).length_eq];simp
 ·show (List.map _ _).Perm _;refine ((Go.WideShapes.sorted_perm _).map _).trans (List.Perm.of_eq ?_);rw[Yd,de];apply XI;intro x hx;obtain⟨k,hk,hr⟩:=hrd x hx;simp[rg,hr,strOf,pa,hk]
end YtldmcdeibiclkaaGreatDoorQ
end Go.Proofs
end
namespace Go.Proofs.YtldmcdeibiclkaaGreatDoorQ
variable {w wr w1:World}{xs:List Value}{B b bo k i:Nat}{t e:TypeId}{v:Value}{A:Array Value}{s:ByteArray}{Q:ByteArray->Prop}
open Go.RowKit
section
open Go.Lib (strCells strCells_length strCells_oneCell)
theorem aa.Ba:(aa.prog.info? 151).map (λi=>(i.zero,i.size,i.bytes))=some (some (.agg #[.string ⟨#[]⟩,.int .i64 0,.int .i64 0,.int .i64 0,.int .i64 0,.slice none 0 0]),6,72):=by kernel_rfl
def fg(ss:List (List UInt8)):List (List UInt8):=ss.mergeSort λx y=>decide (x<=y)
theorem nS(ss:List (List UInt8)):(fg ss).Perm ss:=List.mergeSort_perm ss _
def dR(x:List UInt8):ByteArray:=⟨x.toArray⟩
theorem th(k:ByteArray):dR k.data.toList=k:=by
 apply Yp;simp[dR]
def dF(K:aw)(es:List MapEntry):List (ByteArray×Ctx×List aj):=(fg (de es)).map λx=>(dR x,(K (dR x)).1,(K (dR x)).2)
def kU(l:List (ByteArray×Ctx×List aj)):ByteArray:=l.foldl (λs r=>s++dc r.1 r.2.1 r.2.2) ByteArray.empty
def Rc.cg(r:Rc):ByteArray×Ctx×List aj:=(r.key,r.c,r.l)
theorem zz(rs:List Rc):dk rs=kU (rs.map Rc.cg):=by
 simp[dk,kU,List.foldl_map,Rc.cg]
theorem sx{es:List MapEntry}(h:∀e∈es,∃k,e.key=.string k/\Q k){x:List UInt8}(hx:x∈fg (de es)):Q (dR x):=by
 rw[(nS _).mem_iff,de,XP]at hx;obtain⟨e,he,rfl⟩:=hx;obtain⟨k,hk,hq⟩:=h e he;simpa[pa,hk,th] using hq
theorem jS{size n:Nat}(h:w.ownsRow B t size v n xs): ∃ad cap,v=.slice ad n cap/\(cap:Int)<=9223372036854775807/\n<=cap:=by
 rcases h.2 with⟨h1,h2⟩|⟨g,cap,cur,hv,_,_,h4,h3,_⟩
 ·exact⟨_,_,by rw[h1,h2],by simp,by omega⟩
 ·exact⟨_,_,hv,by unfold maxLen at h3;omega,h4⟩
theorem vH{n:Nat}(h:w.ownsRow B t 1 v n xs){x:Value}(hx:xs[k]?=some x): ∃g cap,v=.slice (some ⟨g,0,none⟩) n cap/\g<w.heap.size/\w.cell? ⟨g,k,none⟩=some x:=by
 have hk:k<n:=by
  have h1:=h.1
  have:=(List.getElem?_eq_some_iff.1 hx).1;omega
 rcases h.2 with⟨_,h2⟩|⟨g,cap,cur,hv,_,hh,hn,hc,hs,ht⟩
 ·omega
 ·refine⟨g,cap,hv,(Array.getElem?_eq_some_iff.1 hh).1,?_⟩;rw[<-ht,List.getElem?_take,AS (by omega)]at hx;simpa[World.cell?,hh] using hx
theorem JH{m:Nat}{es:Array MapEntry}{clock:Nat}(hm:w.heap[m]?=some (.map es clock))(hst:kH Q es.toList clock)(hQ:∀k,Q k->k.size<=maxLen)(hsz:es.size<=300000000000):
  Calls aa.prog 71 #[.func (.func 97) #[] #[.pointer (some ⟨w.heap.size,0,none⟩)]] (w.alloc (.cells #[.map (some m)] 98)) λe w'=>∃v:Value,e=.returned v/\
   w'.ownsRow (w.heap.size+1) 9 1 v es.size ((fg (de es.toList)).map encStr)/\Below w.heap.size w w':=by
 obtain⟨D0,aD,hD,hperm⟩:=IZ hm hst hQ (by unfold maxLen;omega);refine (Ts m es.size D0 sS w aD (by rw[hD];unfold maxLen;omega) (by rw[hD];omega)).mono ?_;rintro e w1 ⟨v,ss,rfl,hp,hrow,hb⟩;have hss:ss.mergeSort (λx y=>decide (x<=y))=fg (de es.toList):=mergeSort_of_perm (hp.trans hperm);have hl:ss.length=es.size:=by rw[(hp.trans hperm).length_eq,de,Xn,XC]
 rw[hss,hl]at hrow;exact⟨v,rfl,hrow,((AT _ _).alloc (iR _) _).trans (hb.mono (by simp))⟩
theorem GS(m n:Nat)(K:aw)(w:World)(es:Array MapEntry)(clock:Nat)(hm:w.heap[m]?=some (.map es clock))(hk:fX es.toList)(hall:∀s,ay s=n->∃sv,(cH es.toList s).getD lU=bL (K s).1 sv/\aC w sv (K s).2)(hst:kH (λk=>ay k=n/\k.size<=281474976710656/\cV k=true) es.toList clock)(hsz:es.size<=300000000000):
  Calls aa.prog 49 #[.map (some m)] w λe w'=>∃v rs,e=.returned v/\dp w' w.heap.size v rs/\(∀r∈rs,aC w' r.sv r.l)/\rs.map Rc.cg=dF K es.toList/\Below w.heap.size w w':=by
 obtain⟨svf,hsv⟩: ∃svf:ByteArray->Value,∀s,ay s=n->(cH es.toList s).getD lU=bL (K s).1 (svf s)/\aC w (svf s) (K s).2:=by
  have:∀s,∃v,ay s=n->(cH es.toList s).getD lU=bL (K s).1 v/\aC w v (K s).2:=λs=>by
   by_cases hs:ay s=n
   ·obtain⟨sv,h⟩:=hall s hs;exact⟨sv,λ_=>h⟩
   ·exact⟨.slice none 0 0,λh=>(hs h).elim⟩
  exact⟨λs=>(this s).choose,λs hs=>(this s).choose_spec hs⟩
 have hseg:∀x∈fg (de es.toList),ay (dR x)=n:=λx hx=>(sx hst.2.2.2 hx).1;have hll:(fg (de es.toList)).length=es.size:=by rw[(nS _).length_eq,de,Xn,XC]
 have hmlt:m<w.heap.size:=(Array.getElem?_eq_some_iff.1 hm).1;have HLk:Hid (∀s,ay s=n->∀W:World,W.heap[m]?=some (.map es clock)->(Instr.lookup 98 (.map (some m)) (.string s) false).run aa.prog W=.ok (bL (K s).1 (svf s)) W):=λs hs W hW=>by
  rw[oa W m es clock s hW hk,(hsv s hs).1]
 have HM:Hid (w.heap[m]?=some (.map es clock)):=hm;have HSv:Hid (∀s,ay s=n->aC w (svf s) (K s).2):=λs hs=>(hsv s hs).2;have HSeg:Hid (∀x∈fg (de es.toList),ay (dR x)=n):=hseg;have HKeys:Hid _:=Jo (some m) w;have HSort:Hid _:=JH hm hst (λk h=>by have:=h.2.1;unfold maxLen;omega) hsz;have HRo:Hid (dF K es.toList=(fg (de es.toList)).map λx=>(dR x,(K (dR x)).1,(K (dR x)).2)):=rfl;clear hsv hall hk hst hseg hm;generalize dF K es.toList=ro at*;obtain⟨i0,hi0,hz0,hz1,hz2⟩:=Xm aa.Ba;go_enter aa.func49,aa.ntmps49;go_wp2_with (first
  |(go_at_call 72;refine By HKeys.out ?_;rintro e w1 ⟨rfl,rfl⟩)
  |(go_at_call 71;refine By HSort.out ?_;rintro e w1 ⟨v1,rfl,hrow1,hb1⟩;obtain⟨ad,cap,rfl,hcap,hlc⟩:=jS hrow1;have HRow:Hid (w1.ownsRow (w.heap.size+1) 9 1 (.slice ad es.size cap) es.size ((fg (de es.toList)).map encStr)):=hrow1;have HB1:Hid (Below w.heap.size w w1):=hb1;clear hrow1 hb1))
 clear HKeys HSort;have hz1':=HB1.out.size;obtain⟨L,hL⟩: ∃L,L=fg (de es.toList):=⟨_,rfl⟩
 rw[<-hL]at hll HRow HSeg HRo;clear hL;obtain⟨rs,hrs⟩: ∃rs:List Rc,rs=L.map λx=>⟨dR x,(K (dR x)).1,svf (dR x),(K (dR x)).2⟩:=⟨_,rfl⟩
 have hrl:rs.length=es.size:=by rw[hrs,Xn,hll]
 have HGet:Hid (∀k (h:k<rs.length),rs[k].sv=svf rs[k].key/\rs[k].c=(K rs[k].key).1/\rs[k].l=(K rs[k].key).2/\ay rs[k].key=n/\(L.map encStr)[k]?=some (.string rs[k].key)):=λk h=>by
  subst hrs;rw[Xn]at h;refine⟨by simp,by simp,by simp,by simpa using HSeg.out _ (Xe h),?_⟩;rw[List.getElem?_map,List.getElem?_eq_getElem h];simp[encStr,dR]
 have HTri:Hid (rs.map Rc.cg=ro):=(show rs.map Rc.cg=ro by rw[HRo.out,hrs,Yd];rfl)
 have HVr:Hid (∀r∈rs,aC w r.sv r.l):=λr hr=>by
  subst hrs;obtain⟨x,hx,rfl⟩:=XP.1 hr;exact HSv.out _ (HSeg.out x hx)
 clear hrs HRo HSeg;go_loopw [3,10] (λo i wr=>∃k:Nat,k<=rs.length/\i=.int .i64 k/\Hid (dp wr w1.heap.size o (rs.take k))/\Hid (Below w1.heap.size w1 wr)) (λ_ i _=>rs.length-(intOf i).toNat)
 case atStart=>exact⟨0,by omega,rfl,XZ _ _ _ _,AT _ _⟩
 case round=>
  obtain⟨k,hk,rfl,hr,hb⟩:=hrel;have HR:Hid (dp wr w1.heap.size u3 (rs.take k)):=hr.out;have HB:Hid (Below w1.heap.size w1 wr):=hb.out;have hszr:=hb.out.size;clear hr hb;by_cases hlt:k<rs.length
  ·obtain⟨e1,e2,e3,e4,e5⟩:=HGet.out k hlt;obtain⟨g,cap',hv',hgl,hc⟩:=vH HRow.out e5;cases hv';have hcw:wr.cell? ⟨g,k,none⟩=some (.string rs[k].key):=(HB.out.cell (p:=⟨g,k,none⟩) hgl).trans hc;have hmw:wr.heap[m]?=some (.map es clock):=(HB.out.block m (by omega)).trans ((HB1.out.block m hmlt).trans HM.out);have hlk:=HLk.out _ e4 wr hmw;have hvk:aC w rs[k].sv rs[k].l:=HVr.out _ (Xe hlt);obtain⟨adv,capv,hsvv⟩:=pw hvk;have HT:Hid (rs.take (k+1)=rs.take k++ [rs[k]]):=Xq hlt;have HF:Hid (jc [rs[k]]= [.string rs[k].key,.int .i64 (rs[k].c 0),.int .i64 (rs[k].c 1),.int .i64 (rs[k].c 2),.int .i64 (rs[k].c 3),.slice adv rs[k].l.length capv]):=(show jc [rs[k]]= [.string rs[k].key,.int .i64 (rs[k].c 0),.int .i64 (rs[k].c 1),.int .i64 (rs[k].c 2),.int .i64 (rs[k].c 3),.slice adv rs[k].l.length capv] by rw[<-hsvv];rfl)
   rw[<-e1,<-e2,hsvv]at hlk;have htl:(rs.take k).length=k:=by rw[List.length_take];omega
   have HL1:Hid ((rs.take (k+1)).length=k+1):=(show (rs.take (k+1)).length=k+1 by rw[List.length_take];omega)
   have HRk:Hid (wr.ownsRow w1.heap.size 151 6 u3 k (jc (rs.take k))):=(by have:=HR.out;unfold dp at this;rw[htl]at this;exact this)
   clear HR e1 e2 e3 e4 e5 hvk hsvv hc hmw htl;generalize hq:rs[k]=rk at*;clear hq;generalize rk.key=key at*;generalize rk.c=c at*;generalize rk.l.length=len at*;have g63:(k:Int)<(es.size:Int):=by omega
   have k0:(0:Int)<=(k:Int):=by omega
   go_wp2_with (at_builtin;refine jm _ rfl _ _ _ rfl w1.heap.size 151 i0 _ 6 72 aa.underlying119 hi0 hz0 hz1 hz2 rfl (by omega) u3 _ _ rfl (Xh HRk.out _) ⟨wr.heap.size,0,none⟩ 1 1 _ rfl (by rfl) (Xr (BY wr _)) (by simp[Value.oneCell']) (by omega) (by unfold maxLen;omega) (by omega) (by simp;omega) ?_;intro g2 cap2 w2 hown2 hgr2)
   refine⟨⟨k+1,by omega,by go_num,?_,?_⟩,by simp[intOf];omega⟩
   ·show dp _ _ _ _;unfold dp;rw[HL1.out,HT.out,F5,HF.out];exact hown2
   ·exact hgr2.toBelow (HB.out.alloc hszr _) (by simp;omega) (Xh HRk.out _)
  ·obtain rfl:k=rs.length:=by omega
   have HRe:Hid (dp wr w1.heap.size u3 rs):=(by have:=HR.out;rw[Xx]at this;exact this)
   clear HR;go_wp2;go_ret;refine⟨_,rs,rfl,ej HRe.out hz1',λr hr=>?_,HTri.out,HB1.out.trans (HB.out.mono hz1')⟩;exact ec (HVr.out r hr) (HB1.out.trans (HB.out.mono hz1')) (iR _)
end
def gG(c:Ctx)(i j:Nat):Int:=if j<i then c j else 0
def kC(c:Ctx)(i:Nat):ByteArray:=(List.range' i (4-i)).foldr (λj s=>cz (c j)++s) ByteArray.empty
theorem Oh(c:Ctx):kC c 0=kr c:=by
 simp[kC,kr,gT,List.range'_succ,gN,bY,iZ]
theorem U4(c:Ctx)(h:i<4):kC c i=cz (c i)++kC c (i+1):=by
 unfold kC;rw[show 4-i=(4-(i+1))+1 by omega,List.range'_succ];simp
theorem S8(c:Ctx):kC c 4=ByteArray.empty:=rfl
def eO:List aj->ByteArray
 |[]=>ByteArray.empty
 |v::l=>fT v++eO l
theorem Uj(l:List aj):∀s,l.foldl (λs v=>s++fT v) s=s++eO l:=by
 induction l with
 |nil=>intro s;simp[eO,gN]
 |cons v l ih=>intro s;rw[Yl,ih,eO,bY]
theorem EN(l:List aj):dz l=eO l:=by rw[dz,Uj,iZ]
theorem Kg{l:List aj}(h:k<l.length):eO (l.drop k)=fT l[k]++eO (l.drop (k+1)):=by
 rw[List.drop_eq_getElem_cons h,eO]
def qX(key:ByteArray)(c:Ctx)(l:List aj):Prop:=key.size<256/\(∀i,i<4->0<=c i/\c i<4294967296)/\l.length<=100000/\∀v∈l,sT v
abbrev recC(key:ByteArray)(c:Ctx)(i:Nat)(sv:Value):Array Value:=#[.string key,.int .i64 (gG c i 0),.int .i64 (gG c i 1),.int .i64 (gG c i 2),.int .i64 (gG c i 3),sv]
def eZ(w wr:World)(b bo:Nat)(A:Array Value)(s:ByteArray):Prop:=
 wr.heap[bo]?=some (.cells A 151)/\wr.heap[w.heap.size]?=some (.cells #[.string ⟨#[]⟩,.int .i64 0,.int .i64 0,.int .i64 0,.int .i64 0,.slice none 0 0] 151)/\Rd w wr b s
theorem eZ.rd{w':World}{t:ByteArray}(h:eZ w wr b bo A s)(hr:Rd wr w' b t)(h1:bo≠b)(h2:w.heap.size≠b):eZ w w' b bo A t:=
 ⟨hr.other h.1 h1,hr.other h.2.1 h2,h.2.2.trans hr⟩
theorem eZ.set(h:eZ w wr b bo A s)(hb:b<w.heap.size/\w.heap.size<bo)(o:Nat)(v:Value):eZ w (wr.setCell ⟨bo,o,none⟩ v) b bo (A.setIfInBounds o v) s:=
 ⟨heap_set h.1,by rw[Xg _ _ _ _ (by show _≠bo;omega)];exact h.2.1,h.2.2.setCell ⟨by omega,by omega⟩ v⟩
theorem US(key:ByteArray)(c:Ctx)(sv:Value)(h:i<4):(recC key c i sv).setIfInBounds (1+i) (.int .i64 (c i))=recC key c (i+1) sv:=by
 rcases fp h with rfl|rfl|rfl|rfl<;>simp[recC,gG]
theorem N6(key:ByteArray)(c:Ctx)(sv:Value)(h:i<4):(recC key c i sv)[1+i]?=some (.int .i64 0):=by
 rcases fp h with rfl|rfl|rfl|rfl<;>simp[recC,gG]
theorem Rd.row{n size:Nat}{s0:ByteArray}(h:Rd w w1 b s)(h0:bP w b s0)(hr:w.ownsRow B t size v n xs)(ht:t≠158):w1.ownsRow B t size v n xs:=by
 obtain⟨h1,h2⟩:=hr;refine⟨h1,?_⟩;rcases h2 with h2|⟨g,cap,cur,hv,hg,hh,r⟩
 ·exact Or.inl h2
 ·exact Or.inr ⟨g,cap,cur,hv,hg,h.other hh (λe=>by subst e;rw[h0.1]at hh;cases hh;exact ht rfl),r⟩
theorem ql{size n:Nat}(h:w.ownsRow B t size v n xs)(hk:v.ownBlock=some k):B<=k:=by
 rcases h.2 with⟨h,_⟩|⟨g,cap,cur,rfl,hg,_⟩
 ·rw[h]at hk;cases hk
 ·cases hk;exact hg
theorem eZ.alloc(h:eZ w wr b bo A s)(o:Obj):eZ w (wr.alloc o) b bo A s:=
 have hb:Below wr.heap.size wr (wr.alloc o):=(AT _ _).alloc (iR _) o
 ⟨aQ h.1 hb,aQ h.2.1 hb,h.2.2.below hb⟩
theorem lO(h:w.grownBy w1 v.ownBlock){size n:Nat}(hr:w.ownsRow B e size v n xs){cs:Array Value}{fr:Nat×Nat}(hb:w.heap[b]?=some (.cells cs t fr))(hne:t≠e):w1.heap[b]?=some (.cells cs t fr):=
 bE.other (v1:=v) ⟨h,λ_ h=>Or.inl h⟩ hr hb hne
theorem eZ.grownBy{size n:Nat}(h:eZ w wr b bo A s)(hr:wr.ownsRow w.heap.size e size v n xs)(hg:wr.grownBy w1 v.ownBlock)(h1:151≠e)(h2:158≠e):eZ w w1 b bo A s:=
 ⟨lO hg hr h.1 h1,lO hg hr h.2.1 h1,⟨lO hg hr h.2.2.1.1 h2,h.2.2.1.2⟩,h.2.2.2.grown hg λk hk hlt=>by
  have:=ql hr hk;omega⟩
theorem gE{size n:Nat}{t':TypeId}{fr:Nat×Nat}{u:Value}(h:w.ownsRow B t size u n xs)(hb:w.heap[bo]?=some (.cells A t' fr))(ht:t≠t')(o:Nat)(v:Value):(w.setCell ⟨bo,o,none⟩ v).ownsRow B t size u n xs:=by
 obtain⟨h1,h2⟩:=h;refine⟨h1,?_⟩;rcases h2 with h2|⟨g,cap,cur,hv,hg,hh,r⟩
 ·exact Or.inl h2
 ·exact Or.inr ⟨g,cap,cur,hv,hg,by rw[Xg _ _ _ _ (λe=>by subst e;rw[hb]at hh;cases hh;exact ht rfl)];exact hh,r⟩
theorem gP{size n:Nat}(h:w.ownsRow B t size v n xs): ∃ad cap,v=.slice ad n cap:=by
 obtain⟨ad,cap,h,_⟩:=jS h;exact⟨ad,cap,h⟩
theorem UH(b:Nat)(key:ByteArray)(c:Ctx)(l:List aj)(s:ByteArray)(w:World)(h:bP w b (dc key c l++s))(hf:qX key c l):
  Calls aa.prog 101 #[.pointer (some ⟨b,0,none⟩)] w λe w'=>∃sv,e=.returned (.agg #[.string key,.int .i64 (c 0),.int .i64 (c 1),.int .i64 (c 2),.int .i64 (c 3),sv])/\w'.ownsRow w.heap.size 144 3 sv l.length (aX l)/\Rd w w' b s:=by
 obtain⟨hk,hc,hl,hv⟩:=hf;obtain⟨i0,hi0,hz0,hz1,hz2⟩:=Xm aa.vJ;have hlt:=h.lt;rw[dc,bY,bY,bY,<-Oh,EN]at h;have HT:Hid (∀w1,Below w.heap.size w w1->Calls aa.prog 138 #[.pointer (some ⟨b,0,none⟩)] w1 λe w'=>e=.returned (.string key)/\Rd w1 w' b (kC c 0++(cz l.length++(eO l++s)))):=λw1 hb=>CL b key _ w1 (h.below hb) hk;clear h;go_enter aa.func101,aa.ntmps101;go_wp2_with (first
  |(go_at_call 138;refine (HT.out _ ((AT _ _).alloc (iR _) _)).mono ?_;rintro e w1 ⟨rfl,hr1⟩))
 have hz:w.heap.size<w1.heap.size:=by have:=hr1.2.size;simp at this;omega
 have HS:Hid (eZ w (w1.alloc (.cells (recC key c 0 (.slice none 0 0)) 151)) b w1.heap.size (recC key c 0 (.slice none 0 0)) (kC c 0++(cz l.length++(eO l++s)))):=
  ⟨BY w1 _,by rw[OF _ _ _ hz];exact hr1.other (BY w _) (by omega),hr1.1.below ((AT _ _).alloc (iR _) _),(((Fr.refl _ w).alloc _).trans hr1.2).alloc _⟩
 have hbo:b<w1.heap.size:=by omega
 have HBo:Hid (b<w.heap.size/\w.heap.size<w1.heap.size):=(show b<w.heap.size/\w.heap.size<w1.heap.size by omega)
 generalize w1.heap.size=bo at*;clear hr1 HT;go_loopw [10] (λiv wr=>∃i:Nat,i<=4/\iv=.int .i64 i/\eZ w wr b bo (recC key c i (.slice none 0 0)) (kC c i++(cz l.length++(eO l++s)))) (λiv _=>4-(intOf iv).toNat)
 case atStart=>exact⟨0,by omega,rfl,HS.out⟩
 case round=>
  obtain⟨i,hi,rfl,hL⟩:=hrel;by_cases hi4:i<4
  ·have i1:(i:Int)<4:=by omega
   have i00:(0:Int)<=(i:Int):=by omega
   have HN:Hid (Calls aa.prog 100 #[.pointer (some ⟨b,0,none⟩)] wr λe w'=>e=.returned (.int .i64 (c i))/\eZ w w' b bo (recC key c i (.slice none 0 0)) (kC c (i+1)++(cz l.length++(eO l++s)))):=by
    have h3:=hL.2.2;rw[U4 c hi4,bY]at h3;refine (vj b (c i) _ wr h3.1 (hc i hi4).1 (hc i hi4).2).mono ?_;rintro e w' ⟨rfl,hr⟩;exact⟨rfl,hL.rd hr (by omega) (by omega)⟩
   clear HS hL;go_wp2_with (go_at_call 100;refine HN.out.mono ?_;rintro e w2 ⟨rfl,hL2⟩;obtain⟨c2,f2⟩:=al hL2.1;have cI:=(c2 (1+i)).trans (N6 key c (.slice none 0 0) hi4);have fI:=f2 (1+i);clear c2 f2;have HL2:Hid (eZ w w2 b bo (recC key c i (.slice none 0 0)) (kC c (i+1)++(cz l.length++(eO l++s)))):=hL2;clear hL2)
   refine⟨⟨i+1,by omega,by go_num,?_⟩,by simp[intOf];omega⟩
   have:=HL2.out.set HBo.out (1+i) (.int .i64 (c i));rw[US key c _ hi4]at this;exact this
  ·obtain rfl:i=4:=by omega
   have HN:Hid (Calls aa.prog 100 #[.pointer (some ⟨b,0,none⟩)] wr λe w'=>e=.returned (.int .i64 l.length)/\eZ w w' b bo (recC key c 4 (.slice none 0 0)) (eO l++s)):=by
    have h3:=hL.2.2;rw[S8,iZ]at h3;refine (vj b l.length _ wr h3.1 (by omega) (by omega)).mono ?_;rintro e w' ⟨rfl,hr⟩;exact⟨rfl,hL.rd hr (by omega) (by omega)⟩
   clear HS hL;go_wp2_with (go_at_call 100;refine HN.out.mono ?_;rintro e w2 ⟨rfl,hL2⟩;have HL2:Hid (eZ w w2 b bo (recC key c 4 (.slice none 0 0)) (eO l++s)):=hL2;clear hL2)
   clear HN;go_loopw [6] (λiv wr=>∃(k:Nat) (sv:Value),k<=l.length/\iv=.int .i64 k/\Hid (eZ w wr b bo (recC key c 4 sv) (eO (l.drop k)++s))/\Hid (wr.ownsRow w.heap.size 144 3 sv k (aX (l.take k)))) (λiv _=>l.length-(intOf iv).toNat)
   case atStart=>exact⟨0,.slice none 0 0,by omega,rfl,HL2.out,XZ _ _ _ _⟩
   case round=>
    obtain⟨k,sv,hk,rfl,HL,HO⟩:=hrel;clear HL2;obtain⟨ad,cap,rfl⟩:=gP HO.out;obtain⟨cb,fb⟩:=al HL.out.1;have c1:wr.cell? ⟨b,1,none⟩=some (.bool false):=(al HL.out.2.2.1.1).1 1;have c5:=cb 5;have f5:=fb 5;by_cases hkl:k<l.length
    ·have k1:(k:Int)<(l.length:Int):=by omega
     have hdk:decide ((k:Int)<(l.length:Int))=true:=by simpa using hkl
     have HVn:Hid (Calls aa.prog 139 #[.pointer (some ⟨b,0,none⟩)] wr.drew λe w'=>e=.returned (.agg #[.int .i64 l[k].rep,.int .i64 l[k].n,.string l[k].val])/\eZ w w' b bo (recC key c 4 (.slice ad k cap)) (eO (l.drop (k+1))++s)/\w'.ownsRow w.heap.size 144 3 (.slice ad k cap) k (aX (l.take k))):=by
      have h3:=HL.out.2.2;rw[Kg hkl,bY]at h3;refine (KT b l[k] _ _ (h3.1.below (AT _ _).drew) (hv _ (Xe hkl))).mono ?_;rintro e w' ⟨rfl,hr⟩;have hr':Rd wr w' b (eO (l.drop (k+1))++s):=⟨hr.1,(Fr.refl _ _).drew.trans hr.2⟩
      exact⟨rfl,HL.out.rd hr' (by omega) (by omega),hr'.row h3.1 HO.out (by decide)⟩
     go_upto_region 11 with fail;go_region_law (first
      |(refine step_append_lies _ rfl _ _ _ rfl w.heap.size 144 i0 _ 3 32 aa.underlying104 hi0 hz0 hz1 hz2 rfl (by omega) (.slice ad k cap) _ _ rfl (Xh HO3.out _) ⟨w3.heap.size,0,none⟩ 1 1 [.int .i64 l[k].rep,.int .i64 l[k].n,.string l[k].val] rfl rfl (Xr (BY w3 _)) (by simp[Value.oneCell']) (by omega) (by unfold maxLen;omega) (by omega) (by have:=HL3.out.2.2.2.size;simp;omega) (w3.heap.size+1) (by simp) ?_;intro g2 cap2 w4 hown4 hgr4 hat4 hlt4;have hL4:=(HL3.out.alloc _).grownBy (Xh HO3.out _) hgr4 (by decide) (by decide);obtain⟨cb4,fb4⟩:=al hL4.1;have c54:=cb4 5;have f54:=fb4 5;clear cb4 fb4;have HL4:Hid (eZ w w4 b bo (recC key c 4 (.slice ad k cap)) (eO (l.drop (k+1))++s)):=hL4;have HO4:Hid _:=hown4;clear hL4 hown4 hgr4)
      |(go_simp;go_at_call 139;refine By HVn.out ?_;rintro e w3 ⟨rfl,hL3,hO3⟩;obtain⟨cb3,fb3⟩:=al hL3.1;have hbo3:=(Array.getElem?_eq_some_iff.1 hL3.1).1;have c53:=cb3 5;have f53:=fb3 5;clear cb3 fb3;have HL3:Hid (eZ w w3 b bo (recC key c 4 (.slice ad k cap)) (eO (l.drop (k+1))++s)):=hL3;have HO3:Hid (w3.ownsRow w.heap.size 144 3 (.slice ad k cap) k (aX (l.take k))):=hO3;clear hL3 hO3))
     all_goals
      go_wp2;refine⟨⟨k+1,.slice (some ⟨g2,0,none⟩) (k+1) cap2,by omega,by go_num,HL4.out.set HBo.out 5 _,?_⟩,by simp[intOf];omega⟩;rw[Xq hkl,rL];exact gE HO4.out HL4.out.1 (by decide) _ _
    ·obtain rfl:k=l.length:=by omega
     obtain⟨cw,fw⟩:=al HL.out.2.1;go_wp2;have hp:∀j,j<4->gG c 4 j=c j:=λj hj=>by simp[gG,hj]
     refine XF (v:=.agg #[.string key,.int .i64 (c 0),.int .i64 (c 1),.int .i64 (c 2),.int .i64 (c 3),.slice ad l.length cap]) ?_ rfl ⟨_,rfl,?_,?_⟩
     ·rw[hp 0 (by omega),hp 1 (by omega),hp 2 (by omega),hp 3 (by omega)];simp[results,aa.results101,go_sem,cw]
     ·have h1:=HO.out;rw[Xx]at h1;exact gE (gE (gE (gE (gE (gE h1 HL.out.2.1 (by decide) _ _) (heap_set HL.out.2.1) (by decide) _ _) (heap_set (heap_set HL.out.2.1)) (by decide) _ _) (heap_set (heap_set (heap_set HL.out.2.1))) (by decide) _ _) (heap_set (heap_set (heap_set (heap_set HL.out.2.1)))) (by decide) _ _) (heap_set (heap_set (heap_set (heap_set (heap_set HL.out.2.1))))) (by decide) _ _
     ·have hne:w.heap.size<=w.heap.size/\w.heap.size≠b:=⟨iR _,by omega⟩
      have h2:=HL.out.2.2;rw[List.drop_length,eO,iZ]at h2;exact (((((h2.setCell hne _).setCell hne _).setCell hne _).setCell hne _).setCell hne _).setCell hne _
end Go.Proofs.YtldmcdeibiclkaaGreatDoorQ
