/-
  Toward summed_holds: Contract: wire.AppendRecords: the bytes of a row of records.
-/
import Derived.Test.YtldmcdeibiclkaaGreatC25
import Derived.Test.YtldmcdeibiclkaaGreatC16
import Derived.Test.YtldmcdeibiclkaaGreatC17
set_option linter.unusedVariables false
set_option linter.unusedSimpArgs false
set_option maxRecDepth 100000
set_option maxHeartbeats 20000000
namespace Go.Proofs.YtldmcdeibiclkaaGreatQ
variable {w:World}{k B:Nat}
open Go.RowKit
section
open Go.Lib (strCells strCells_length strCells_oneCell)
structure Rc where
 key:ByteArray
 c:Ctx
 sv:Value
 l:List ax
def im(rs:List Rc):List Value:=rs.flatMap λr=>jM r.key r.c r.sv
def dN(rs:List Rc):ByteArray:=rs.foldl (λs r=>s++cz r.key r.c r.l) ByteArray.empty
def gu(w:World)(B:Nat)(rv:Value)(rs:List Rc):Prop:=w.ownsRow B 152 6 rv rs.length (im rs)
theorem Ct(a b:List Rc):im (a++b)=im a++im b:=by simp[im]
theorem Kv(rs:List Rc)(k:Nat)(h:k<rs.length)(j:Nat)(hj:j<6):(im rs)[k*6+j]?=(jM rs[k].key rs[k].c rs[k].sv)[j]? :=by
 induction rs generalizing k with
 |nil=>simp at h
 |cons r rs ih=>
  have e:im (r::rs)=jM r.key r.c r.sv++im rs:=by simp[im]
  have el:(jM r.key r.c r.sv).length=6:=rfl;cases k with
  |zero=>rw[e,List.getElem?_append_left (by omega)];simp
  |succ k=>
   have h':k<rs.length:=by simpa using h
   rw[e,List.getElem?_append_right (by omega),el,show (k+1)*6+j-6=k*6+j by omega,ih k h'];rfl
theorem OX(l:List Rc)(r:Rc):dN (l++ [r])=dN l++cz r.key r.c r.l:=by
 simp[dN,List.foldl_append]
theorem vA{l:List Rc}(h:k<l.length):dN (l.take (k+1))=dN (l.take k)++cz l[k].key l[k].c l[k].l:=by
 rw[RO h,OX]
theorem Qi(l:List Rc):∀k,(dN (l.take k)).size<=(dN l).size:=λk=>by
 have key:∀(m:List Rc) (s:ByteArray),s.size<=(m.foldl (λs r=>s++cz r.key r.c r.l) s).size:=λm=>by
  induction m with
  |nil=>intro s;exact AI _
  |cons v m ih=>intro s;refine IT ?_ (ih (s++cz v.key v.c v.l));rw[QB];omega
 conv=>rhs;rw[<-R4 k l]
 rw[dN,dN,List.foldl_append];exact key _ _
theorem gu.cells{rv:Value}{rs:List Rc}(h:gu w B rv rs)(hk:k<rs.length):
  ∃g cap,rv=.slice (some ⟨g,0,none⟩) rs.length cap/\g<w.heap.size/\rs.length<=cap/\cap<=maxLen/\∀j,j<6->w.cell? ⟨g,k*6+j,none⟩=(jM rs[k].key rs[k].c rs[k].sv)[j]? :=by
 obtain⟨h1,h2⟩:=h;rcases h2 with⟨_,h2⟩|⟨g,cap,cur,hv,_,hh,hn,hc,hs,ht⟩
 ·omega
 ·refine⟨g,cap,hv,(Array.getElem?_eq_some_iff.1 hh).1,hn,hc,λj hj=>?_⟩;rw[<-Kv rs k hk j hj,<-ht,List.getElem?_take,IN (by omega)];simp[World.cell?,hh]
theorem gu.len{v:Value}{rs:List Rc}(h:gu w B v rs): ∃ad cap,v=.slice ad rs.length cap/\cap<=maxLen/\rs.length<=cap:=by
 rcases h.2 with⟨h1,h2⟩|⟨g,cap,cur,hv,_,_,h4,h3,_⟩
 ·exact⟨_,_,by rw[h1,h2],by simp,by omega⟩
 ·exact⟨_,_,hv,h3,h4⟩
theorem A3{sv:Value}{l:List ax}(h:aM w sv l): ∃ad cap,sv=.slice ad l.length cap:=by
 rcases h.2 with⟨h1,h2⟩|⟨g,cap,cur,hv,_⟩
 ·exact⟨_,_,by rw[h1,h2]⟩
 ·exact⟨_,_,hv⟩
theorem CZ(B:Nat)(rv:Value)(rs:List Rc)(w:World)(h:gu w B rv rs)(hv:∀r∈rs,aM w r.sv r.l/\r.l.length<=100000)(hlen:(dN rs).size<=140737488355328):
  Calls aa.prog 71 #[.slice none 0 0,rv] w λe w'=>∃v',e=.returned v'/\aR w' w.heap.size v' (dN rs)/\Below w.heap.size w w':=by
 obtain⟨ad,cap,rfl,hcap,hlc⟩:=h.len;unfold maxLen at hcap;have H:Hid (gu w B (.slice ad rs.length cap) rs):=h;have HV:Hid (∀r∈rs,aM w r.sv r.l/\r.l.length<=100000):=hv;clear h hv;go_enter aa.func71,aa.ntmps71;go_wp2;go_loopw [0,9] (λo i wr=>∃k:Nat,k<=rs.length/\i=.int .i64 k/\Hid (aR wr w.heap.size o (dN (rs.take k)))/\Hid (Below w.heap.size w wr)) (λ_ i _=>rs.length-(intOf i).toNat)
 case atStart=>exact⟨0,by omega,rfl,aR.nil _ _,AT _ _⟩
 case round=>
  obtain⟨k,hk,rfl,hr,hb⟩:=hrel;have HR:Hid (aR wr w.heap.size u0 (dN (rs.take k))):=hr.out;have HB:Hid (Below w.heap.size w wr):=hb.out;have hsz:=hb.out.size;clear hr hb;by_cases hlt:k<rs.length
  ·obtain⟨g,cap',hsv',hgl,_,_,cc⟩:=gu.cells H.out hlt;cases hsv';have cw:∀j,j<6->wr.cell? ⟨g,k*6+j,none⟩=(jM rs[k].key rs[k].c rs[k].sv)[j]? :=λj hj=>(HB.out.cell (p:=⟨g,k*6+j,none⟩) hgl).trans (cc j hj);have c0:=cw 0 (by omega);have c1:=cw 1 (by omega);have c2:=cw 2 (by omega);have c3:=cw 3 (by omega);have c4:=cw 4 (by omega);have c5:=cw 5 (by omega);clear cc cw;simp[jM]at c0 c1 c2 c3 c4 c5;have hvk:=HV.out rs[k] (OF hlt);have HVk:Hid (∀W,Below w.heap.size w W->aM W rs[k].sv rs[k].l):=λW hW=>cy hvk.1 hW (AI _);have hvl:=hvk.2;obtain⟨adv,capv,hsvv⟩:=A3 hvk.1;clear hvk;have htk:=Qi rs (k+1);rw[vA hlt,QB]at htk;have HT:Hid (dN (rs.take k)++cz rs[k].key rs[k].c rs[k].l=dN (rs.take (k+1))):=(vA hlt).symm;generalize dN (rs.take k)=st at*;have hst:st.size+(cz rs[k].key rs[k].c rs[k].l).size<=140737488355328:=by omega
   clear htk;generalize rs[k].key=key at*;generalize rs[k].c=c at*;generalize rs[k].sv=sv at*;generalize rs[k].l=l at*;subst hsvv;have g63:(k:Int)<(rs.length:Int):=by omega
   have k0:(0:Int)<=(k:Int):=by omega
   have HBa:Hid (Below w.heap.size w (wr.alloc (.cells #[.string key,.int .i64 (c 0),.int .i64 (c 1),.int .i64 (c 2),.int .i64 (c 3),.slice adv l.length capv] 152))):=HB.out.alloc hsz _;have HRa:Hid (aR (wr.alloc (.cells #[.string key,.int .i64 (c 0),.int .i64 (c 1),.int .i64 (c 2),.int .i64 (c 3),.slice adv l.length capv] 152)) w.heap.size u0 st):=HR.out.alloc _;go_wp2_with (go_at_call 92;refine (M4 w.heap.size u0 st key c (.slice adv l.length capv) l (wr.alloc (.cells #[.string key,.int .i64 (c 0),.int .i64 (c 1),.int .i64 (c 2),.int .i64 (c 3),.slice adv l.length capv] 152)) HRa.out (by simp;omega) (HVk.out _ HBa.out) hvl hst).mono ?_;rintro e w1 ⟨v1,rfl,hr1,hg1⟩;have HR1:Hid (aR w1 w.heap.size v1 (st++cz key c l)):=hr1;have HB1:Hid (Below w.heap.size w w1):=hg1.toBelow HBa.out (by simp;omega) HRa.out;clear hr1 hg1)
   refine⟨⟨k+1,by omega,by go_num,?_,HB1.out⟩,by simp[intOf];omega⟩;show aR _ _ _ _;rw[<-HT.out];exact HR1.out
  ·obtain rfl:k=rs.length:=by omega
   have HRe:Hid (aR wr w.heap.size u0 (dN rs)):=(by have:=HR.out;rw[List.take_length]at this;exact this)
   clear HR;go_wp2;go_ret;exact⟨_,rfl,HRe.out,HB.out⟩
end
end Go.Proofs.YtldmcdeibiclkaaGreatQ
section
namespace Go.Proofs
open Go.RowKit Go.Maps Go.Sort Go.Shelf
namespace YtldmcdeibiclkaaGreatQ
open Go.WideElems (Fit rd rg rd_mk)
theorem Hh(m:Nat):AnyZ.SortsIn aa.prog aa.BF Fence.wide m:=
 ⟨λblk off cap ss W hH hblk hsz=>callsIn_wide.2 (AnyM.slices_Sort_string aa.pC blk off cap ss W hH hblk hsz),
  λp cap W=>callsIn_wide.2 (AnyM.slices_Sort_string_none aa.pC p cap W)⟩
theorem Ow(mb:Option Nat)(W:World):Calls aa.prog 94 #[.map mb] W λe w'=>e=.returned (.func (.func 126) #[] #[.pointer (some ⟨W.heap.size,0,none⟩)])/\w'=W.alloc (.cells #[.map mb] 63):=
 callsIn_wide.1 (AnyZ.keys_in aa.vM Fence.wide 5 trivial rfl mb W)
theorem Kc(b nn:Nat)(D0:DataW Unit)(R:Value->Option (DataW Unit×List MemPlace))(w:World)(hown:w.ownsMap aa.prog 9 R b nn D0)(hmax:Maps.size D0<=maxLen)(hbytes:Maps.size D0*16<=140737488355328):
  Calls aa.prog 93 #[.func (.func 126) #[] #[.pointer (some ⟨w.heap.size,0,none⟩)]] (w.alloc (.cells #[.map (some b)] 63)) λe w'=>∃(v:Value) (ss:List (List UInt8)),e=.returned v/\ss.Perm (strKeys D0)/\
   w'.ownsRow (w.heap.size+1) 9 1 v ss.length ((ss.mergeSort (λx y=>decide (x<=y))).map encStr)/\Below (w.alloc (.cells #[.map (some b)] 63)).heap.size (w.alloc (.cells #[.map (some b)] 63)) w':=by
 have hbl:=hown.lt;have hseq:SeqGives Fence.wide 2 aa.prog 126 #[.pointer (some ⟨w.heap.size,0,none⟩)] encStr (λss=>ss.Perm (strKeys D0)) (Maps.size D0) (w.alloc (.cells #[.map (some b)] 63)):=
  AnyZ.keys_gives (ρ:=aa.Ao) {aa.vM with} Fence.wide _ trivial rfl (by omega) w.heap.size b nn D0 _ (by simp) (by simp) (by
   obtain⟨es,clock,hb,Ft,hs,hD⟩:=hown;exact⟨es,clock,(Qx _ _ b hbl).trans hb,Ft,hs,hD⟩)
 have h:=AnyZ.sorted_in aa.Qk Fence.wide 5 trivial trivial trivial trivial rfl (by omega) (Hh _) (enters_of aa.func91 (by kernel_rfl) rfl) 126 #[.pointer (some ⟨w.heap.size,0,none⟩)] trivial (enters_of aa.func126 (by kernel_rfl) rfl) _ _ hmax hbytes _ hseq;refine (callsIn_wide.1 h).mono ?_;rintro e w' ⟨v,ss,h1,h2,h3,_,h5⟩;rw[show (w.alloc (.cells #[.map (some b)] 63)).heap.size=w.heap.size+1 by simp]at h3;exact⟨v,ss,h1,h2,h3,h5⟩
def nh(e:MapEntry):List UInt8:=match e.key with
 |.string k=>k.data.toList
 |_=>[]
def cP(es:List MapEntry):List (List UInt8):=es.map nh
def pc:Value->Option (DataW Unit×List MemPlace):=λ_=>some (.nil,[])
theorem Ig{e:MapEntry}{k:ByteArray}(he:e.key=.string k)(hk:k.size<=maxLen):rd aa.prog 9 pc e=some (.string k.data.toList,.nil):=by
 obtain⟨key,val,born⟩:=e;subst he;exact rd_mk (R:=pc) (yv:=(.nil,[])) (Go.WideMaps.keyOf_string_mk aa.underlying9 hk) rfl
theorem Cr{w:World}{m:Nat}{es:Array MapEntry}{clock:Nat}{Q:ByteArray->Prop}(hm:w.heap[m]?=some (.map es clock))(hst:ie Q es.toList clock)(hQ:∀k,Q k->k.size<=maxLen)(hsz:es.size<=maxLen):
  ∃D0:DataW Unit,w.ownsMap aa.prog 9 pc m es.size D0/\Maps.size D0=es.size/\(strKeys D0).Perm (cP es.toList):=by
 obtain⟨h1,h2,h3,h4⟩:=hst;have hrd:∀x∈es.toList,∃k,x.key=.string k/\rd aa.prog 9 pc x=some (.string k.data.toList,.nil):=λx hx=>by
  obtain⟨k,hk,hq⟩:=h4 x hx;exact⟨k,hk,Ig hk (hQ k hq)⟩
 refine⟨_,⟨es,clock,hm,⟨hsz,⟨h3,h2,h1⟩,λx hx=>(hrd x hx).elim λk hk=>⟨_,hk.2⟩⟩,AI _,rfl⟩,?_,?_⟩
 ·show List.length _=_;rw[(Go.WideShapes.sorted_perm _).length_eq];simp
 ·show (List.map _ _).Perm _;refine ((Go.WideShapes.sorted_perm _).map _).trans (List.Perm.of_eq ?_);rw[List.map_map,cP];apply List.map_congr_left;intro x hx;obtain⟨k,hk,hr⟩:=hrd x hx;simp[rg,hr,strOf,nh,hk]
end YtldmcdeibiclkaaGreatQ
end Go.Proofs
end
namespace Go.Proofs.YtldmcdeibiclkaaGreatQ
variable {w w':World}{K:aB}{B b k m clock:Nat}{v x:Value}{bm:Nat->Nat}{Q:ByteArray->Prop}{t:TypeId}{xs:List Value}{es:List MapEntry}{M:Array Value}
open Go.RowKit
section
open Go.Lib (strCells strCells_length strCells_oneCell)
theorem aa.C5:(aa.prog.info? 152).map (λi=>(i.zero,i.size,i.bytes))=some (some (.agg #[.string ⟨#[]⟩,.int .i64 0,.int .i64 0,.int .i64 0,.int .i64 0,.slice none 0 0]),6,72):=by kernel_rfl
def fi(ss:List (List UInt8)):List (List UInt8):=ss.mergeSort λx y=>decide (x<=y)
theorem lY(ss:List (List UInt8)):(fi ss).Perm ss:=List.mergeSort_perm ss _
def da(x:List UInt8):ByteArray:=⟨x.toArray⟩
theorem pZ(k:ByteArray):da k.data.toList=k:=by
 apply RJ;simp[da]
def il(K:aB)(es:List MapEntry):List (ByteArray×Ctx×List ax):=(fi (cP es)).map λx=>(da x,(K (da x)).1,(K (da x)).2)
def dS(l:List (ByteArray×Ctx×List ax)):ByteArray:=l.foldl (λs r=>s++cz r.1 r.2.1 r.2.2) ByteArray.empty
def Rc.mN(r:Rc):ByteArray×Ctx×List ax:=(r.key,r.c,r.l)
theorem wv(rs:List Rc):dN rs=dS (rs.map Rc.mN):=by
 simp[dN,dS,List.foldl_map,Rc.mN]
theorem qZ(h:∀e∈es,∃k,e.key=.string k/\Q k){x:List UInt8}(hx:x∈fi (cP es)):Q (da x):=by
 rw[(lY _).mem_iff,cP,Rj]at hx;obtain⟨e,he,rfl⟩:=hx;obtain⟨k,hk,hq⟩:=h e he;simpa[nh,hk,pZ] using hq
theorem rF{size n:Nat}(h:w.ownsRow B t size v n xs): ∃ad cap,v=.slice ad n cap/\(cap:Int)<=9223372036854775807/\n<=cap:=by
 rcases h.2 with⟨h1,h2⟩|⟨g,cap,cur,hv,_,_,h4,h3,_⟩
 ·exact⟨_,_,by rw[h1,h2],by simp,by omega⟩
 ·exact⟨_,_,hv,by unfold maxLen at h3;omega,h4⟩
theorem p7{n:Nat}(h:w.ownsRow B t 1 v n xs)(hx:xs[k]?=some x): ∃g cap,v=.slice (some ⟨g,0,none⟩) n cap/\g<w.heap.size/\w.cell? ⟨g,k,none⟩=some x:=by
 have hk:k<n:=by
  have h1:=h.1
  have:=(List.getElem?_eq_some_iff.1 hx).1;omega
 rcases h.2 with⟨_,h2⟩|⟨g,cap,cur,hv,_,hh,hn,hc,hs,ht⟩
 ·omega
 ·refine⟨g,cap,hv,(Array.getElem?_eq_some_iff.1 hh).1,?_⟩;rw[<-ht,List.getElem?_take,IN (by omega)]at hx;simpa[World.cell?,hh] using hx
theorem MH{es:Array MapEntry}(hm:w.heap[m]?=some (.map es clock))(hst:ie Q es.toList clock)(hQ:∀k,Q k->k.size<=maxLen)(hsz:es.size<=300000000000):
  Calls aa.prog 93 #[.func (.func 126) #[] #[.pointer (some ⟨w.heap.size,0,none⟩)]] (w.alloc (.cells #[.map (some m)] 63)) λe w'=>∃v:Value,e=.returned v/\
   w'.ownsRow (w.heap.size+1) 9 1 v es.size ((fi (cP es.toList)).map encStr)/\Below w.heap.size w w':=by
 obtain⟨D0,hown,hD,hperm⟩:=Cr hm hst hQ (by unfold maxLen;omega);refine (Kc m es.size D0 pc w hown (by rw[hD];unfold maxLen;omega) (by rw[hD];omega)).mono ?_;rintro e w1 ⟨v,ss,rfl,hp,aF,hb⟩;have hss:ss.mergeSort (λx y=>decide (x<=y))=fi (cP es.toList):=mergeSort_of_perm (hp.trans hperm);have hl:ss.length=es.size:=by rw[(hp.trans hperm).length_eq,cP,Rb,RG]
 rw[hss,hl]at aF;exact⟨v,rfl,aF,((AT _ _).alloc (AI _) _).trans (hb.mono (by simp))⟩
theorem L6(m n:Nat)(K:aB)(w:World)(es:Array MapEntry)(clock:Nat)(hm:w.heap[m]?=some (.map es clock))(hk:dA es.toList)(hall:∀s,aI s=n->∃sv,(bp es.toList s).getD ij=bw (K s).1 sv/\aM w sv (K s).2)(hst:ie (λk=>aI k=n/\k.size<=281474976710656/\aK k=true) es.toList clock)(hsz:es.size<=300000000000):
  Calls aa.prog 72 #[.map (some m)] w λe w'=>∃v rs,e=.returned v/\gu w' w.heap.size v rs/\(∀r∈rs,aM w' r.sv r.l)/\rs.map Rc.mN=il K es.toList/\Below w.heap.size w w':=by
 obtain⟨svf,hsv⟩: ∃svf:ByteArray->Value,∀s,aI s=n->(bp es.toList s).getD ij=bw (K s).1 (svf s)/\aM w (svf s) (K s).2:=by
  have:∀s,∃v,aI s=n->(bp es.toList s).getD ij=bw (K s).1 v/\aM w v (K s).2:=λs=>by
   by_cases hs:aI s=n
   ·obtain⟨sv,h⟩:=hall s hs;exact⟨sv,λ_=>h⟩
   ·exact⟨.slice none 0 0,λh=>(hs h).elim⟩
  exact⟨λs=>(this s).choose,λs hs=>(this s).choose_spec hs⟩
 have hseg:∀x∈fi (cP es.toList),aI (da x)=n:=λx hx=>(qZ hst.2.2.2 hx).1;have hll:(fi (cP es.toList)).length=es.size:=by rw[(lY _).length_eq,cP,Rb,RG]
 have hmlt:m<w.heap.size:=(Array.getElem?_eq_some_iff.1 hm).1;have HLk:Hid (∀s,aI s=n->∀W:World,W.heap[m]?=some (.map es clock)->(Instr.lookup 63 (.map (some m)) (.string s) false).run aa.prog W=.ok (bw (K s).1 (svf s)) W):=λs hs W hW=>by
  rw[l8 W m es clock s hW hk,(hsv s hs).1]
 have HM:Hid (w.heap[m]?=some (.map es clock)):=hm;have HSv:Hid (∀s,aI s=n->aM w (svf s) (K s).2):=λs hs=>(hsv s hs).2;have HSeg:Hid (∀x∈fi (cP es.toList),aI (da x)=n):=hseg;have HKeys:Hid _:=Ow (some m) w;have HSort:Hid _:=MH hm hst (λk h=>by have:=h.2.1;unfold maxLen;omega) hsz;have HRo:Hid (il K es.toList=(fi (cP es.toList)).map λx=>(da x,(K (da x)).1,(K (da x)).2)):=rfl;clear hsv hall hk hst hseg hm;generalize il K es.toList=ro at*;obtain⟨i0,hi0,hz0,hz1,hz2⟩:=QN aa.C5;go_enter aa.func72,aa.ntmps72;go_wp2_with (first
  |(go_at_call 94;refine BY HKeys.out ?_;rintro e w1 ⟨rfl,rfl⟩)
  |(go_at_call 93;refine BY HSort.out ?_;rintro e w1 ⟨v1,rfl,hrow1,hb1⟩;obtain⟨ad,cap,rfl,hcap,hlc⟩:=rF hrow1;have HRow:Hid (w1.ownsRow (w.heap.size+1) 9 1 (.slice ad es.size cap) es.size ((fi (cP es.toList)).map encStr)):=hrow1;have HB1:Hid (Below w.heap.size w w1):=hb1;clear hrow1 hb1))
 clear HKeys HSort;have hz1':=HB1.out.size;obtain⟨L,hL⟩: ∃L,L=fi (cP es.toList):=⟨_,rfl⟩
 rw[<-hL]at hll HRow HSeg HRo;clear hL;obtain⟨rs,hrs⟩: ∃rs:List Rc,rs=L.map λx=>⟨da x,(K (da x)).1,svf (da x),(K (da x)).2⟩:=⟨_,rfl⟩
 have hrl:rs.length=es.size:=by rw[hrs,Rb,hll]
 have HGet:Hid (∀k (h:k<rs.length),rs[k].sv=svf rs[k].key/\rs[k].c=(K rs[k].key).1/\rs[k].l=(K rs[k].key).2/\aI rs[k].key=n/\(L.map encStr)[k]?=some (.string rs[k].key)):=λk h=>by
  subst hrs;rw[Rb]at h;refine⟨by simp,by simp,by simp,by simpa using HSeg.out _ (OF h),?_⟩;rw[List.getElem?_map,List.getElem?_eq_getElem h];simp[encStr,da]
 have HTri:Hid (rs.map Rc.mN=ro):=(show rs.map Rc.mN=ro by rw[HRo.out,hrs,List.map_map];rfl)
 have HVr:Hid (∀r∈rs,aM w r.sv r.l):=λr hr=>by
  subst hrs;obtain⟨x,hx,rfl⟩:=Rj.1 hr;exact HSv.out _ (HSeg.out x hx)
 clear hrs HRo HSeg;go_loopw [3,10] (λo i wr=>∃k:Nat,k<=rs.length/\i=.int .i64 k/\Hid (gu wr w1.heap.size o (rs.take k))/\Hid (Below w1.heap.size w1 wr)) (λ_ i _=>rs.length-(intOf i).toNat)
 case atStart=>exact⟨0,by omega,rfl,QT _ _ _ _,AT _ _⟩
 case round=>
  obtain⟨k,hk,rfl,hr,hb⟩:=hrel;have HR:Hid (gu wr w1.heap.size u3 (rs.take k)):=hr.out;have HB:Hid (Below w1.heap.size w1 wr):=hb.out;have hszr:=hb.out.size;clear hr hb;by_cases hlt:k<rs.length
  ·obtain⟨e1,e2,e3,e4,e5⟩:=HGet.out k hlt;obtain⟨g,cap',hv',hgl,hc⟩:=p7 HRow.out e5;cases hv';have hcw:wr.cell? ⟨g,k,none⟩=some (.string rs[k].key):=(HB.out.cell (p:=⟨g,k,none⟩) hgl).trans hc;have hmw:wr.heap[m]?=some (.map es clock):=(HB.out.block m (by omega)).trans ((HB1.out.block m hmlt).trans HM.out);have hlk:=HLk.out _ e4 wr hmw;have hvk:aM w rs[k].sv rs[k].l:=HVr.out _ (OF hlt);obtain⟨adv,capv,hsvv⟩:=A3 hvk;have HT:Hid (rs.take (k+1)=rs.take k++ [rs[k]]):=RO hlt;have HF:Hid (im [rs[k]]= [.string rs[k].key,.int .i64 (rs[k].c 0),.int .i64 (rs[k].c 1),.int .i64 (rs[k].c 2),.int .i64 (rs[k].c 3),.slice adv rs[k].l.length capv]):=(show im [rs[k]]= [.string rs[k].key,.int .i64 (rs[k].c 0),.int .i64 (rs[k].c 1),.int .i64 (rs[k].c 2),.int .i64 (rs[k].c 3),.slice adv rs[k].l.length capv] by rw[<-hsvv];rfl)
   rw[<-e1,<-e2,hsvv]at hlk;have htl:(rs.take k).length=k:=by rw[RS];omega
   have HL1:Hid ((rs.take (k+1)).length=k+1):=(show (rs.take (k+1)).length=k+1 by rw[RS];omega)
   have HRk:Hid (wr.ownsRow w1.heap.size 152 6 u3 k (im (rs.take k))):=(by have:=HR.out;unfold gu at this;rw[htl]at this;exact this)
   clear HR e1 e2 e3 e4 e5 hvk hsvv hc hmw htl;generalize hq:rs[k]=rk at*;clear hq;generalize rk.key=key at*;generalize rk.c=c at*;generalize rk.l.length=len at*;have g63:(k:Int)<(es.size:Int):=by omega
   have k0:(0:Int)<=(k:Int):=by omega
   go_wp2_with (at_builtin;refine o8 _ rfl _ _ _ rfl w1.heap.size 152 i0 _ 6 72 aa.underlying126 hi0 hz0 hz1 hz2 rfl (by omega) u3 _ _ rfl (QW HRk.out _) ⟨wr.heap.size,0,none⟩ 1 1 _ rfl (by rfl) (QJ (IS wr _)) (by simp[Value.oneCell']) (by omega) (by unfold maxLen;omega) (by omega) (by simp;omega) ?_;intro g2 cap2 w2 hown2 hgr2)
   refine⟨⟨k+1,by omega,by go_num,?_,?_⟩,by simp[intOf];omega⟩
   ·show gu _ _ _ _;unfold gu;rw[HL1.out,HT.out,Ct,HF.out];exact hown2
   ·exact hgr2.toBelow (HB.out.alloc hszr _) (by simp;omega) (QW HRk.out _)
  ·obtain rfl:k=rs.length:=by omega
   have HRe:Hid (gu wr w1.heap.size u3 rs):=(by have:=HR.out;rw[List.take_length]at this;exact this)
   clear HR;go_wp2;go_ret;refine⟨_,rs,rfl,bM HRe.out hz1',λr hr=>?_,HTri.out,HB1.out.trans (HB.out.mono hz1')⟩;exact cy (HVr.out r hr) (HB1.out.trans (HB.out.mono hz1')) (AI _)
end
theorem CQ{k:ByteArray}(h:aK k=true):k.data.toList.length<=8/\∀b∈k.data.toList,j6 b=true:=by
 simp only[aK,No,QS,List.all_eq_true]at h;exact⟨by rw[RG];exact h.1.2,h.2⟩
theorem wo{l:List ax}(h:∀v∈l,v.val.size<=12):(bI l).size<=18*l.length:=by
 have key:∀(m:List ax) (s:ByteArray),(∀v∈m,v.val.size<=12)->(m.foldl (λs v=>s++fD v) s).size<=s.size+18*m.length:=λm=>by
  induction m with
  |nil=>intro s _;simp
  |cons v m ih=>
   intro s hs;have h1:=ih (s++fD v) λx hx=>hs x (by simp[hx]);have h2:=hs v (by simp);rw[QB,xh]at h1;rw[List.foldl_cons,QH];omega
 have:=key l ByteArray.empty h;simpa[bI] using this
theorem wW{l:List (ByteArray×Ctx×List ax)}(h:∀r∈l,r.1.size<=8/\r.2.2.length<=20/\∀v∈r.2.2,v.val.size<=12):(dS l).size<=389*l.length:=by
 have key:∀(m:List (ByteArray×Ctx×List ax)) (s:ByteArray),(∀r∈m,r.1.size<=8/\r.2.2.length<=20/\∀v∈r.2.2,v.val.size<=12)->(m.foldl (λs r=>s++cz r.1 r.2.1 r.2.2) s).size<=s.size+389*m.length:=λm=>by
  induction m with
  |nil=>intro s _;simp
  |cons r m ih=>
   intro s hs;have h1:=ih (s++cz r.1 r.2.1 r.2.2) λx hx=>hs x (by simp[hx]);obtain⟨h2,h3,h4⟩:=hs r (by simp);have h5:=wo h4;rw[QB,vW]at h1;rw[List.foldl_cons,QH];omega
 have:=key l ByteArray.empty h;simpa[dS] using this
section
open Go.Lib (strCells strCells_length strCells_oneCell Bytes)
theorem rm{s:ByteArray}(h:aR w B v s):(convert 124 9 v).run aa.prog w=.ok (.string s) w:=by
 rcases h.2 with⟨rfl,h0⟩|⟨g,cap,cur,rfl,_,hh,hn,_,hs,ht⟩
 ·obtain rfl:s=ByteArray.empty:=by
   apply RJ;have:s.data.size=0:=h0;simpa using Array.eq_empty_of_size_eq_zero this
  simpa using Go.run_convert_bytes_nil (P:=aa.prog) w 124 5 aa.underlying124 aa.underlying5 0 0 9 aa.underlying9
 ·refine Go.Lib.run_convert_whole (P:=aa.prog) w 124 5 9 aa.underlying124 aa.underlying5 aa.underlying9 g 0 s (λi hi=>?_) cap;have e1:(strCells s)[i]?=some (.int .u8 (s[i].toNat:Int)):=by
   have hi':i<s.data.toList.length:=by rw[RG];exact hi
   rw[strCells,List.getElem?_map,List.getElem?_eq_getElem hi'];simp;rfl
  rw[<-ht,List.getElem?_take,IN (by omega)]at e1;simpa[World.cell?,hh] using e1
def eV(w:World)(m:Nat):List MapEntry:=match w.heap[m]? with
 |some (.map es _)=>es.toList
 |_=>[]
def dK(w:World)(bm:Nat->Nat)(K:aB)(n:Nat):ByteArray:=dS (il K (eV w (bm n)))
theorem MU{n:Nat}(h:w'.heap[bm n]?=w.heap[bm n]?):dK w' bm K n=dK w bm K n:=by
 simp only[dK,eV,h]
theorem xx(hK:kl K)(h:ie Q es clock)(hQ:∀k,Q k->aK k=true):∀r∈il K es,r.1.size<=8/\r.2.2.length<=20/\∀v∈r.2.2,v.val.size<=12:=λr hr=>by
 obtain⟨x,hx,rfl⟩:=Rj.1 hr
 have:=CQ (qZ (λe he=>(h.2.2.2 e he).imp λk hk=>⟨hk.1,hQ k hk.2⟩) hx);exact⟨by simpa using this.1,(hK _).2.1,(hK _).2.2.1⟩
theorem GH(K:aB)(es:List MapEntry):(il K es).length=es.length:=by
 rw[il,Rb,(lY _).length_eq,cP,Rb]
def J6(w:World)(bm:Nat->Nat):Prop:=∀n,n<64->(eV w (bm n)).length<=282429536481
def gX(w:World)(bm:Nat->Nat)(K:aB):Prop:=kl K/\J6 w bm
theorem Mv(h:w'.heap[m]?=w.heap[m]?):eV w' m=eV w m:=by simp only[eV,h]
theorem gX.below{W:World}{num:Nat}(hK:gX w bm K)(h:ba w b bm num K)(hb:Below w.heap.size w W):gX W bm K:=
 ⟨hK.1,λn hn=>by rw[Mv (hb.block _ (h.2.1 n hn).lt)];exact hK.2 n hn⟩
theorem yq{num:Nat}(h:ba w b bm num K)(hK:gX w bm K){n:Nat}(hn:n<64):(dK w bm K n).size<=109865089691109:=by
 have hf:=hK.2 n hn;obtain⟨es,clock,hm,hk,hall,hst,_⟩:=h.2.1 n hn;have h1:=wW (xx hK.1 hst λk h=>h.2.2);rw[GH]at h1;simp only[dK,eV,hm] at*;omega
theorem Aj(b num n:Nat)(bm:Nat->Nat)(K:aB)(w:World)(h:ba w b bm num K)(hK:gX w bm K)(hn:n<64):
  Calls aa.prog 49 #[.pointer (some ⟨b,0,none⟩),.int .i64 n] w λe w'=>e=.returned (.string (dK w bm K n))/\Below w.heap.size w w':=by
 have hc:=h.1.kZ hn;have hsz:=yq h hK hn;have h2:=hK.2 n hn;obtain⟨es,clock,hm,hk,hall,hst,_⟩:=h.2.1 n hn;simp only[eV,hm]at h2;have HF:Hid (∀r∈il K es.toList,r.1.size<=8/\r.2.2.length<=20/\∀v∈r.2.2,v.val.size<=12):=xx hK.1 hst λk h=>h.2.2;have HRec:Hid _:=L6 (bm n) n K w es clock hm hk hall hst (by rw[RG]at h2;omega);have HT:Hid (dK w bm K n=dS (il K es.toList)):=(show dK w bm K n=dS (il K es.toList) by simp only[dK,eV,hm])
 generalize dK w bm K n=tx at*;have hl':(n:Int)<64:=by omega
 have hl0:(0:Int)<=(n:Int):=by omega
 have hc':w.cell? ⟨b,1+n,none⟩=some (.map (some (bm n))):=by rw[Ry];exact hc
 clear h hK hm hk hall hst h2 hc;generalize bm n=m at*;go_enter aa.func49,aa.ntmps49;go_wp2_with (first
  |(go_at_call 72;refine BY HRec.out ?_;rintro e w1 ⟨rv,rs,rfl,aF,hv,htri,hb1⟩;have HA:Hid _:=CZ w.heap.size rv rs w1 aF (λr hr=>⟨hv r hr,by have h3:=(HF.out (Rc.mN r) (by rw[<-htri];exact List.mem_map_of_mem hr)).2.1;exact IT h3 (by decide)⟩) (by rw[wv,htri,<-HT.out];omega);have HB1:Hid (Below w.heap.size w w1):=hb1;have HE:Hid (dN rs=tx):=(show dN rs=tx by rw[wv,htri,<-HT.out]);clear aF hv htri hb1)
  |(go_at_call 71;refine BY HA.out ?_;rintro e w2 ⟨v2,rfl,hrow2,hb2⟩;rw[HE.out]at hrow2;have hcv:=rm hrow2;have HB2:Hid (Below w.heap.size w w2):=HB1.out.trans (hb2.mono HB1.out.size);clear hrow2 hb2))
 go_ret;exact⟨rfl,HB2.out⟩
end
section
open Go.Lib (strCells strCells_length strCells_oneCell)
theorem aa.zw:(aa.prog.info? 55).map (λi=>(i.zero,i.size,i.bytes))=some (some (.int .u64 0),1,8):=by kernel_rfl
def eZ(w:World)(B:Nat)(v:Value)(ds:List Int):Prop:=w.ownsRow B 55 1 v ds.length (ds.map (.int .u64))
theorem Bd(hs:k<M.size)(h:M.toList.take k=xs):(M.setIfInBounds k x).toList.take (k+1)=xs++ [x]:=by
 subst h;apply List.ext_getElem?;intro t;have hl:(M.toList.take k).length=k:=by simp;omega
 by_cases h1:t<k
 ·rw[List.getElem?_take,IN (by omega),List.getElem?_append_left (by omega),List.getElem?_take,IN h1];simp only[Array.getElem?_toList,Array.getElem?_setIfInBounds];rw[By (by omega)]
 ·rw[List.getElem?_append_right (by omega),hl];by_cases h2:t=k
  ·subst h2;rw[List.getElem?_take,IN (by omega)];simp only[Array.getElem?_toList,Array.getElem?_setIfInBounds];simp[hs]
  ·rw[List.getElem?_take,By (by omega),List.getElem?_eq_none (by simp;omega)]
def nf(w:World)(f:Nat->Int)(n k:Nat)(wr:World):Prop:=
 ∃M:Array Value,wr.heap[w.heap.size]?=some (.cells M 55)/\M.size=n/\M.toList.take k=((List.range k).map f).map (.int .u64)/\Below w.heap.size w wr
theorem nf.row{wr:World}{f:Nat->Int}{n:Nat}(h:nf w f n n wr)(hn:n<=maxLen):eZ wr w.heap.size (.slice (some ⟨w.heap.size,0,none⟩) n n) ((List.range n).map f):=by
 obtain⟨M,h1,h2,h3,h4⟩:=h;refine⟨by simp,Or.inr ⟨w.heap.size,n,M,by simp,AI _,h1,by simp,hn,by omega,?_⟩⟩;simpa using h3
theorem vX(h:w.heap[b]?=some (.cells M t))(hk:k<M.size):(∃x,w.cell? ⟨b,k,none⟩=some x)/\∀o,w.frozen? ⟨b,o,none⟩=false:=
 ⟨⟨M[k],by simp only[World.cell?,h];simp[hk]⟩,λo=>by simp[World.frozen?,h]⟩
noncomputable def uO:Func:={Tryz.f95 with ntmps:=20,results:=#[.tmp 6],body:=some YtldmcdeibiclkaaGreat.U.nc}
theorem aa.func95:aa.prog.funcs[95]?=some uO:=by
 rw[aa.is,aa.xg,YtldmcdeibiclkaaGreat.U.Gg,Array.getElem?_setIfInBounds_self,IN]
 ·rw[YtldmcdeibiclkaaGreat.U.ki,Tryz.func95];rfl
 ·have:=Tryz.func95;exact (Array.getElem?_eq_some_iff.1 this).1
theorem aa.ntmps95:uO.ntmps=20:=rfl
theorem aa.results95:uO.results=#[.tmp 6]:=rfl
attribute [local simp] aa.results95
theorem LH(b first c:Nat)(T:Nat->ByteArray)(w:World)(hT:∀k:Nat,k<64->∀W,Below w.heap.size w W->Calls aa.prog 49 #[.pointer (some ⟨b,0,none⟩),.int .i64 k] W λe w'=>e=.returned (.string (T k))/\Below W.heap.size W w')(hTs:∀k,k<64->(T k).size<=maxLen)(hc:c=1\/c=4\/c=16\/c=64)(hf:first+c<=64):
  Calls aa.prog 95 #[.int .i64 first,.int .i64 c,.func (.func 49) #[.pointer (some ⟨b,0,none⟩)] #[]] w λe w'=>∃v,e=.returned v/\eZ w' w.heap.size v ((List.range c).map λi=>cC (T (first+i)))/\Below w.heap.size w w':=by
 obtain⟨i0,hi0,hz0,hz1,hz2⟩:=QN aa.zw;have hmk:=run_make (P:=aa.prog) w 158 55 i0 _ aa.underlying158 hi0 hz0 .i64 .i64 c c (by omega) (by omega) (by rw[hz2];omega) (by omega);rw[hz1]at hmk;simp only[Int.toNat_natCast]at hmk;have hM:=size_madeCells (Value.int .u64 0).cells (c*1);generalize madeCells (Value.int .u64 0).cells (c*1)=M at hmk hM;have HM:Hid (M.size=c):=(show M.size=c by rw[hM,Nat.mul_one])
 have HT:Hid _:=hT;have HTs:Hid _:=hTs;clear hM hi0 hz0 hz1 hz2 hT hTs;obtain⟨b1,h1⟩: ∃x,((c:Int)==1)=x:=⟨_,rfl⟩
 obtain⟨b2,h2⟩: ∃x,((c:Int)==4)=x:=⟨_,rfl⟩
 obtain⟨b3,h3⟩: ∃x,((c:Int)==16)=x:=⟨_,rfl⟩
 obtain⟨b4,h4⟩: ∃x,((c:Int)==64)=x:=⟨_,rfl⟩
 have HB:Hid ((b1||b2||b3||b4)=true):=(show (b1||b2||b3||b4)=true by
  rw[<-h1,<-h2,<-h3,<-h4];rcases hc with rfl|rfl|rfl|rfl<;>rfl)
 clear hc;go_enter aa.func95,aa.ntmps95;simp only[YtldmcdeibiclkaaGreat.U.nc,YtldmcdeibiclkaaGreat.U.qOp,YtldmcdeibiclkaaGreat.U.qI,YtldmcdeibiclkaaGreat.U.qU,YtldmcdeibiclkaaGreat.U.gG,YtldmcdeibiclkaaGreat.U.sX,YtldmcdeibiclkaaGreat.U.tF];go_wp2
 all_goals
  clear h1 h2 h3 h4;(try cases (show b1=true by assumption))
  (try cases (show b1=false by assumption))
  (try cases (show b2=true by assumption))
  (try cases (show b2=false by assumption))
  (try cases (show b3=true by assumption))
  (try cases (show b3=false by assumption))
  (try cases (show b4=true by assumption))
  (try cases (show b4=false by assumption))
 all_goals first
  |(exact absurd HB.out (by decide))
  |(exact absurd (show true=false by assumption) (by decide))
  |skip
 all_goals
  clear HB;go_loopw [3] (λi wr=>∃k:Nat,k<=c/\i=.int .i64 k/\Hid (nf w (λi=>cC (T (first+i))) c k wr)) (λi _=>c-(intOf i).toNat)
  case atStart=>exact⟨0,by omega,rfl,M,IS w _,HM.out,by simp,(AT _ _).alloc (AI _) _⟩
  case round=>
   obtain⟨k,hk,rfl,hrel⟩:=hrel;by_cases hlt:k<c
   ·obtain⟨M',hh,hms,htk,hb⟩:=hrel.out;have hT1:=HT.out (first+k) (by omega);simp only[Int.natCast_add]at hT1;have HT1:Hid (∀W,Below w.heap.size w W->Calls aa.prog 49 #[.pointer (some ⟨b,0,none⟩),.int .i64 ((first:Int)+(k:Int))] W λe w'=>e=.returned (.string (T (first+k)))/\Below W.heap.size W w'):=hT1;have hsz:Hid ((T (first+k)).size<=maxLen):=HTs.out (first+k) (by omega);have HTk:Hid (((List.range (k+1)).map λi=>cC (T (first+i))).map (Value.int .u64)=((List.range k).map λi=>cC (T (first+i))).map (Value.int .u64)++ [.int .u64 (cC (T (first+k)))]):=(show (((List.range (k+1)).map λi=>cC (T (first+i))).map (Value.int .u64))=_ by simp[List.range_succ])
    have hF:=oc (T (first+k)) (T (first+k)).size;have hF0:0<=cC (T (first+k)):=hF.1;have hF1:cC (T (first+k))<18446744073709551616:=hF.2;clear hF hT1;have HS:Hid (∀W,Calls aa.prog 84 #[.string (T (first+k))] W λe w'=>e=.returned (.int .u64 (cC (T (first+k))))/\w'=W):=λW=>rH _ W hsz.out;generalize cC (T (first+k))=F at*;generalize T (first+k)=tx at*;have HH:Hid (wr.heap[w.heap.size]?=some (.cells M' 55)/\M'.size=c/\M'.toList.take k=((List.range k).map λi=>cC (T (first+i))).map (.int .u64)/\Below w.heap.size w wr):=⟨hh,hms,htk,hb⟩
    have hbs:=hb.size;have hbo:=(Array.getElem?_eq_some_iff.1 hh).1;clear hh hms htk hb hrel;have g63:(k:Int)<(c:Int):=by omega
    have k0:(0:Int)<=(k:Int):=by omega
    have f0:(0:Int)<=(first:Int):=by omega
    have fk:(first:Int)+(k:Int)<64:=by omega
    go_wp2_with (first
     |(go_at_call 49;refine BY (HT1.out _ HH.out.2.2.2) ?_;rintro e w1 ⟨rfl,hb1⟩;have HB1:Hid (Below wr.heap.size wr w1):=hb1;clear hb1)
     |(go_at_call 49;refine BY (HT1.out _ (HH.out.2.2.2.trans (HB1.out.mono hbs))) ?_;rintro e w3 ⟨rfl,hb3⟩;have HB3:Hid (Below wr.heap.size wr w3):=HB1.out.trans (hb3.mono HB1.out.size);have m0:=dw HH.out.1 HB3.out;obtain⟨⟨x1,m1⟩,m2⟩:=vX (k:=k) m0 (by rw[HH.out.2.1];exact hlt);have HM0:Hid (w3.heap[w.heap.size]?=some (.cells M' 55)):=m0;clear hb3 m0)
     |(go_at_call 84;refine BY (HS.out _) ?_;rintro e w2 ⟨rfl,rfl⟩))
    refine⟨⟨k+1,by omega,by go_num,_,heap_set HM0.out,by rw[Rt];exact HH.out.2.1,?_,(HH.out.2.2.2.trans (HB3.out.mono hbs)).setCell (AI _) _⟩,by simp[intOf];omega⟩;rw[HTk.out];exact Bd (by rw[HH.out.2.1];exact hlt) HH.out.2.2.1
   ·obtain rfl:k=c:=by omega
    have HR:Hid (nf w (λi=>cC (T (first+i))) k k wr):=hrel.out;clear hrel;go_wp2;go_ret;exact⟨_,rfl,HR.out.row (by unfold maxLen;omega),HR.out.elim λM' h=>h.2.2.2⟩
end
section
open Go.Lib (strCells strCells_length strCells_oneCell)
theorem zR{n:Nat}(h:n<=3):n=0\/n=1\/n=2\/n=3:=by omega
theorem tu(h:k<=3):4 ^ k<=64/\1<=4 ^ k:=by
 rcases zR h with rfl|rfl|rfl|rfl<;>decide
theorem vh(n:Nat)(hn:n<=3)(w:World):Calls aa.prog 70 #[.int .i64 n] w λe w'=>e=.returned (.int .i64 (4 ^ n:Nat))/\w'=w:=by
 go_enter aa.func70,aa.ntmps70;go_wp2;go_loop [3,5] (λc i=>∃k:Nat,k<=n/\i=.int .i64 k/\c=.int .i64 (4 ^ k:Nat)) (λ_ i=>n-(intOf i).toNat)
 case atStart=>exact⟨0,by omega,rfl,rfl⟩
 case round=>
  obtain⟨k,hk,rfl,rfl⟩:=hrel;by_cases hlt:k<n
  ·have g1:(k:Int)<(n:Int):=by omega
   have hp:=(tu (k:=k) (by omega)).1;have HP:Hid (4 ^ (k+1)=4 ^ k*4):=Nat.pow_succ ..;generalize 4 ^ k=p at*;go_wp2;exact⟨⟨k+1,by omega,by go_num,by rw[HP.out];go_num⟩,by simp[intOf];omega⟩
  ·obtain rfl:k=n:=by omega
   go_wp2;go_ret;exact⟨rfl,rfl⟩
theorem ur(l n:Nat)(hl:l<=4)(w:World):Calls aa.prog 48 #[.int .i64 l,.int .i64 n] w λe w'=>e=.returned (.bool (decide (l<=3/\n<4 ^ l)))/\w'=w:=by
 have l0:(0:Int)<=(l:Int):=by omega
 have n0:(0:Int)<=(n:Int):=by omega
 by_cases h3:l<=3
 ·have l3:(l:Int)<=3:=by omega
  have HW:Hid (∀W,Calls aa.prog 70 #[.int .i64 l] W λe w'=>e=.returned (.int .i64 (4 ^ l:Nat))/\w'=W):=λW=>vh l h3 W;have HD:Hid (decide (l<=3/\n<4 ^ l)=decide (n<4 ^ l)):=(show decide (l<=3/\n<4 ^ l)=decide (n<4 ^ l) by simp[h3])
  rw[HD.out];clear HD;generalize 4 ^ l=p at*;go_enter aa.func48,aa.ntmps48;go_wp2_with (go_at_call 70;refine BY (HW.out _) ?_;rintro e w1 ⟨rfl,rfl⟩)
  go_ret;exact⟨rfl,rfl⟩
 ·obtain rfl:l=4:=by omega
  go_enter aa.func48,aa.ntmps48;go_wp2;go_ret;exact⟨rfl,rfl⟩
def dF(d:Nat->Int):Nat->ByteArray
 |0=>ByteArray.empty
 |k+1=>dF d k++gh (d k)
theorem tG(d:Int):(gh d).size=8:=uj d 8
theorem oP(d:Nat->Int):∀k,(dF d k).size=8*k
 |0=>rfl
 |k+1=>by rw[dF,QB,oP d k,tG];omega
def fE(d:Nat->Int):Int:=cC (dF d 4)
theorem Ql(g off cap:Nat)(d:Nat->Int)(w:World)(hg:g<w.heap.size)(hc:∀j,j<4->w.cell? ⟨g,off+j,none⟩=some (.int .u64 (d j)))(hcap:(cap:Int)<=9223372036854775807):
  Calls aa.prog 131 #[.slice (some ⟨g,off,none⟩) 4 cap] w λe w'=>e=.returned (.int .u64 (fE d))/\Below w.heap.size w w':=by
 have HC:Hid _:=hc;clear hc;go_enter aa.func131,aa.ntmps131;go_wp2;go_loopw [3,8] (λo i wr=>∃k:Nat,k<=4/\i=.int .i64 k/\Hid (aR wr w.heap.size o (dF d k))/\Hid (Below w.heap.size w wr)) (λ_ i _=>4-(intOf i).toNat)
 case atStart=>exact⟨0,by omega,rfl,aR.nil _ _,AT _ _⟩
 case round=>
  obtain⟨k,hk,rfl,hr,hb⟩:=hrel;have HR:Hid (aR wr w.heap.size u3 (dF d k)):=hr.out;have HB:Hid (Below w.heap.size w wr):=hb.out;have hsz:=hb.out.size;clear hr hb;by_cases hlt:k<4
  ·have hcw:wr.cell? ⟨g,off+k,none⟩=some (.int .u64 (d k)):=(HB.out.cell (p:=⟨g,off+k,none⟩) hg).trans (HC.out k hlt);have g1:(k:Int)<4:=by omega
   have g0:(0:Int)<=(k:Int):=by omega
   have HA:Hid _:=BK w.heap.size u3 (dF d k) (d k) wr HR.out hsz (by rw[oP];omega);go_wp2_with (go_at_call 77;refine BY HA.out ?_;rintro e w1 ⟨v1,rfl,hr1,hg1⟩;have HR1:Hid (aR w1 w.heap.size v1 (dF d (k+1))):=hr1;have HB1:Hid (Below w.heap.size w w1):=hg1.toBelow HB.out hsz HR.out;clear hr1 hg1)
   exact⟨⟨k+1,by omega,by go_num,HR1.out,HB1.out⟩,by simp[intOf];omega⟩
  ·obtain rfl:k=4:=by omega
   have hcv:=rm HR.out;have HS:Hid (∀W,Calls aa.prog 84 #[.string (dF d 4)] W λe w'=>e=.returned (.int .u64 (fE d))/\w'=W):=λW=>rH _ W (by rw[oP];decide);go_wp2_with (go_at_call 84;refine BY (HS.out _) ?_;rintro e w2 ⟨rfl,rfl⟩)
   go_ret;exact⟨rfl,HB.out⟩
theorem eZ.len{ds:List Int}(h:eZ w B v ds): ∃ad cap,v=.slice ad ds.length cap/\(cap:Int)<=9223372036854775807/\ds.length<=cap:=rF h
theorem eZ.below{ds:List Int}(h:eZ w B v ds)(hb:Below w.heap.size w w'):eZ w' B v ds:=cy h hb (AI _)
theorem J2(B m:Nat)(v:Value)(f:Nat->Int)(w:World)(hm:1<=m/\m<=16)(h:eZ w B v ((List.range (m*4)).map f)):
  Calls aa.prog 96 #[v] w λe w'=>∃v',e=.returned v'/\eZ w' w.heap.size v' ((List.range m).map λi=>fE λj=>f (i*4+j))/\Below w.heap.size w w':=by
 obtain⟨g,cap,rfl,hgl,hcells,hcap,hcl⟩: ∃g cap,v=.slice (some ⟨g,0,none⟩) (m*4) cap/\g<w.heap.size/\(∀k,k<m*4->w.cell? ⟨g,k,none⟩=some (.int .u64 (f k)))/\(cap:Int)<=9223372036854775807/\m*4<=cap:=by
  have hl:((List.range (m*4)).map f).length=m*4:=by simp
  have hget:∀k,k<m*4->(((List.range (m*4)).map f).map (Value.int .u64))[k]?=some (.int .u64 (f k)):=λk hk=>by simp[hk]
  unfold eZ at h;rw[hl]at h;obtain⟨g,cap,hv,hg,_⟩:=p7 h (hget 0 (by omega));obtain⟨ad,cap',hv',hc1,hc2⟩:=rF h;rw[hv]at hv';cases hv';refine⟨g,cap,hv,hg,λk hk=>?_,hc1,hc2⟩;obtain⟨g',cap',hv',_,hc⟩:=p7 h (hget k hk);rw[hv]at hv';cases hv';exact hc
 clear h;obtain⟨i0,hi0,hz0,hz1,hz2⟩:=QN aa.zw;have hmk:=run_make (P:=aa.prog) w 158 55 i0 _ aa.underlying158 hi0 hz0 .i64 .i64 m m (by omega) (by omega) (by rw[hz2];omega) (by omega);rw[hz1]at hmk;simp only[Int.toNat_natCast]at hmk;have hM:=size_madeCells (Value.int .u64 0).cells (m*1);generalize madeCells (Value.int .u64 0).cells (m*1)=M at hmk hM;have HM:Hid (M.size=m):=(show M.size=m by rw[hM,Nat.mul_one])
 have HC:Hid _:=hcells;clear hM hi0 hz0 hz1 hz2 hcells;have hquo:Int.tdiv ((m*4:Nat):Int) 4=(m:Int):=by
  rw[Int.natCast_mul];exact Int.mul_tdiv_cancel _ (by decide)
 have hquo2:((m*4:Nat):Int) / 4=(m:Int):=by omega
 go_enter aa.func96,aa.ntmps96;go_wp2;clear hquo hquo2;go_loopw [11] (λi wr=>∃k:Nat,k<=m/\i=.int .i64 k/\Hid (nf w (λi=>fE λj=>f (i*4+j)) m k wr)) (λi _=>m-(intOf i).toNat)
 case atStart=>exact⟨0,by omega,rfl,M,IS w _,HM.out,by simp,(AT _ _).alloc (AI _) _⟩
 case round=>
  obtain⟨k,hk,rfl,hrel⟩:=hrel;by_cases hlt:k<m
  ·obtain⟨M',hh,hms,htk,hb⟩:=hrel.out;have HTk:Hid (((List.range (k+1)).map λi=>fE λj=>f (i*4+j)).map (Value.int .u64)=((List.range k).map λi=>fE λj=>f (i*4+j)).map (Value.int .u64)++ [.int .u64 (fE λj=>f (k*4+j))]):=(show (((List.range (k+1)).map λi=>fE λj=>f (i*4+j)).map (Value.int .u64))=_ by simp[List.range_succ])
   have HN:Hid _:=Ql g (k*4) (cap-k*4) (λj=>f (k*4+j)) wr (QL hgl hb.size) (λj hj=>(hb.cell (p:=⟨g,k*4+j,none⟩) hgl).trans (HC.out (k*4+j) (by omega))) (by omega);generalize (fE λj=>f (k*4+j))=F at*;have HH:Hid (wr.heap[w.heap.size]?=some (.cells M' 55)/\M'.size=m/\M'.toList.take k=((List.range k).map λi=>fE λj=>f (i*4+j)).map (.int .u64)/\Below w.heap.size w wr):=⟨hh,hms,htk,hb⟩
   have hbs:=hb.size;have hbo:=(Array.getElem?_eq_some_iff.1 hh).1;clear hh hms htk hb hrel;have hsl:∀W,(Instr.slice 158 (.slice (some ⟨g,0,none⟩) (m*4) cap) (some (.int .i64 ((k:Int)*4))) (some (.int .i64 (((k:Int)+1)*4))) none).run aa.prog W=.ok (.slice (some ⟨g,k*4,none⟩) 4 (cap-k*4)) W:=λW=>by
    have:=Go.Lib.run_slice_window (P:=aa.prog) W 158 55 aa.underlying158 aa.sizeOf55 g 0 (m*4) cap (k*4) ((k+1)*4) (by omega) (by omega);rw[show (k+1)*4-k*4=4 by omega,Nat.zero_add]at this;simpa using this
   have g63:(k:Int)<(m:Int):=by omega
   have k0:(0:Int)<=(k:Int):=by omega
   go_wp2_with (go_at_call 131;refine BY HN.out ?_;rintro e w3 ⟨rfl,hb3⟩;have HB3:Hid (Below wr.heap.size wr w3):=hb3;have m0:=dw HH.out.1 HB3.out;obtain⟨⟨x1,m1⟩,m2⟩:=vX (k:=k) m0 (by rw[HH.out.2.1];exact hlt);have HM0:Hid (w3.heap[w.heap.size]?=some (.cells M' 55)):=m0;clear hb3 m0)
   refine⟨⟨k+1,by omega,by go_num,_,heap_set HM0.out,by rw[Rt];exact HH.out.2.1,?_,(HH.out.2.2.2.trans (HB3.out.mono hbs)).setCell (AI _) _⟩,by simp[intOf];omega⟩;rw[HTk.out];exact Bd (by rw[HH.out.2.1];exact hlt) HH.out.2.2.1
  ·obtain rfl:k=m:=by omega
   have HR:Hid (nf w (λi=>fE λj=>f (i*4+j)) k k wr):=hrel.out;clear hrel;go_wp2;go_ret;exact⟨_,rfl,HR.out.row (by unfold maxLen;omega),HR.out.elim λM' h=>h.2.2.2⟩
end
section
open Go.Lib (strCells strCells_length strCells_oneCell)
def dg(T:Nat->ByteArray):Nat->Nat->Int
 |0,n=>cC (T n)
 |h+1,n=>fE λj=>dg T h (n*4+j)
@[simp] theorem aa.call95(args:Array Value)(w:World):Sem.run aa.prog (callFunc 95 args) w=.ok (.enter 95 args) w:=aa.aJ aa.func95 (by kernel_rfl) rfl args w
def zT:Value->Nat
 |.slice _ n _=>n
 |_=>0
theorem P3(T:Nat->ByteArray)(k n m:Nat):((List.range m).map λi=>fE λj=>(λi=>dg T k (n*(m*4)+i)) (i*4+j))=(List.range m).map λi=>dg T (k+1) (n*m+i):=by
 apply List.map_congr_left;intro i _;rw[dg];congr 1;funext j;show dg T k (n*(m*4)+(i*4+j))=dg T k ((n*m+i)*4+j);congr 1;rw[<-Nat.mul_assoc];omega
theorem Lj(b lv n:Nat)(T:Nat->ByteArray)(w:World)(hT:∀k:Nat,k<64->∀W,Below w.heap.size w W->Calls aa.prog 49 #[.pointer (some ⟨b,0,none⟩),.int .i64 k] W λe w'=>e=.returned (.string (T k))/\Below W.heap.size W w')(hTs:∀k,k<64->(T k).size<=maxLen)(hl:lv<=3)(hn:n<4 ^ lv):
  Calls aa.prog 75 #[.int .i64 lv,.int .i64 n,.func (.func 49) #[.pointer (some ⟨b,0,none⟩)] #[]] w λe w'=>e=.returned (.int .u64 (dg T (3-lv) n))/\Below w.heap.size w w':=by
 obtain⟨h,hh⟩: ∃h,h=3-lv:=⟨_,rfl⟩
 have hh3:h<=3:=by omega
 have e1:(3:Int)-(lv:Int)=(h:Int):=by omega
 have hpw:4 ^ lv*4 ^ h=64:=by
  rw[<-Nat.pow_add,show lv+h=3 by omega]
 obtain⟨c,hcd⟩: ∃c,c=4 ^ h:=⟨_,rfl⟩
 have hc4:c=1\/c=4\/c=16\/c=64:=by
  rw[hcd];rcases zR hh3 with rfl|rfl|rfl|rfl<;>decide
 have hf:n*c+c<=64:=by
  rw[<-hpw,<-hcd,<-Nat.succ_mul];exact R0 c hn
 have HW:Hid (∀W,Calls aa.prog 70 #[.int .i64 (h:Int)] W λe w'=>e=.returned (.int .i64 (c:Int))/\w'=W):=λW=>by rw[hcd];exact vh h hh3 W
 have HS:=LH b (n*c) c T w hT hTs hc4 hf;have HSeg:Hid (Calls aa.prog 95 #[.int .i64 ((n:Int)*(c:Int)),.int .i64 c,.func (.func 49) #[.pointer (some ⟨b,0,none⟩)] #[]] w λe w'=>∃v,e=.returned v/\eZ w' w.heap.size v ((List.range c).map λi=>cC (T (n*c+i)))/\Below w.heap.size w w'):=(by rw[<-Int.natCast_mul];exact HS)
 have hnc:(n:Int)*(c:Int)<=64:=by rw[<-Int.natCast_mul];omega
 have hnc0:(0:Int)<=(n:Int)*(c:Int):=by rw[<-Int.natCast_mul];omega
 have hcc:c<=64:=by omega
 have HD0:Hid (((List.range c).map λi=>cC (T (n*c+i)))=(List.range (4 ^ (h-0))).map λi=>dg T 0 (n*4 ^ (h-0)+i)):=(show _=_ by rw[Nat.sub_zero,<-hcd];rfl)
 rw[<-hh];clear HS hT hTs hpw hf hc4 hcd hh hn;go_enter aa.func75,aa.ntmps75;go_wp2_with (first
  |(go_at_call 70;refine BY (HW.out _) ?_;rintro e w0 ⟨rfl,hw0⟩;obtain rfl:=hw0.symm)
  |(go_at_call 95;go_loud (refine BY HSeg.out ?_;rintro e w1 ⟨v1,rfl,hr1,hb1⟩;rw[HD0.out]at hr1;have HR1:Hid (eZ w1 w.heap.size v1 ((List.range (4 ^ (h-0))).map λi=>dg T 0 (n*4 ^ (h-0)+i))):=hr1;have HB1:Hid (Below w.heap.size w w1):=hb1;clear hr1 hb1)))
 clear HW HSeg HD0 hnc hnc0 e1;go_loopw [8] (λo wr=>∃k:Nat,k<=h/\Hid (eZ wr w.heap.size o ((List.range (4 ^ (h-k))).map λi=>dg T k (n*4 ^ (h-k)+i)))/\Hid (Below w.heap.size w wr)) (λo _=>zT o)
 case atStart=>exact⟨0,by omega,HR1.out,HB1.out⟩
 case round=>
  obtain⟨k,hk,hr,hb⟩:=hrel;have HR:Hid (eZ wr w.heap.size u8 ((List.range (4 ^ (h-k))).map λi=>dg T k (n*4 ^ (h-k)+i))):=hr.out;have HB:Hid (Below w.heap.size w wr):=hb.out;have hsz:=hb.out.size;clear hr hb;by_cases hlt:k<h
  ·obtain⟨m,hm⟩: ∃m,m=4 ^ (h-(k+1)):=⟨_,rfl⟩
   have hL:4 ^ (h-k)=m*4:=by rw[hm,<-Nat.pow_succ];congr 1;omega
   have hm16:1<=m/\m<=16:=by
    have:h-(k+1)=0\/h-(k+1)=1\/h-(k+1)=2:=by omega
    rw[hm];rcases this with e|e|e<;>rw[e]<;>decide
   have HRm:eZ wr w.heap.size u8 ((List.range (m*4)).map λi=>dg T k (n*(m*4)+i)):=by have:=HR.out;rw[hL]at this;exact this
   obtain⟨ad,cap,rfl,hcap,_⟩:=HRm.len;have HP:Hid _:=J2 w.heap.size m _ (λi=>dg T k (n*(m*4)+i)) wr hm16 HRm;have HU:Hid _:=P3 T k n m;have HMm:Hid (m=4 ^ (h-(k+1))):=hm;simp only[Rb,List.length_range] at*;have hg1:(1:Int)<(m:Int)*4:=by omega
   clear HR HRm hL hm;go_wp2_with (go_at_call 96;refine BY HP.out ?_;rintro e w2 ⟨v2,rfl,hr2,hb2⟩;rw[HU.out]at hr2;have HR2:Hid (eZ w2 w.heap.size v2 ((List.range m).map λi=>dg T (k+1) (n*m+i))):=bM hr2 hsz;have HB2:Hid (Below w.heap.size w w2):=HB.out.trans (hb2.mono hsz);clear hr2 hb2)
   refine⟨⟨k+1,by omega,?_,HB2.out⟩,?_⟩
   ·show eZ _ _ _ _;rw[<-HMm.out];exact HR2.out
   ·obtain⟨ad2,cap2,e2,_⟩:=HR2.out.len;rw[e2];simp[zT];omega
  ·obtain rfl:k=h:=by omega
   have HR0:eZ wr w.heap.size u8 [dg T k n]:=by
    have:=HR.out;rw[Nat.sub_self]at this;simpa using this
   obtain⟨g,cap,rfl,hgl,hc0⟩:=p7 HR0 (k:=0) rfl;have hcp:(cap:Int)<=9223372036854775807:=by
    obtain⟨ad,cap',e,hc,_⟩:=HR0.len;cases e;exact hc
   simp only[RQ] at*;clear HR HR0;go_wp2;go_ret;exact⟨rfl,HB.out⟩
end
section
open Go.Lib (strCells strCells_length strCells_oneCell)
def ji(w:World)(bm:Nat->Nat)(K:aB)(lv n:Nat):Int:=dg (dK w bm K) (3-lv) n
theorem Nr{num:Nat}(h:ba w b bm num K)(hK:gX w bm K):∀k:Nat,k<64->∀W,Below w.heap.size w W->Calls aa.prog 49 #[.pointer (some ⟨b,0,none⟩),.int .i64 k] W λe w'=>e=.returned (.string (dK w bm K k))/\Below W.heap.size W w':=λk hk W hW=>by
 have e:dK W bm K k=dK w bm K k:=MU (hW.block _ (h.2.1 k hk).lt);rw[<-e];exact Aj b num k bm K W (h.below hW) (hK.below h hW) hk
theorem OZ{num:Nat}(h:ba w b bm num K)(hK:gX w bm K):∀k,k<64->(dK w bm K k).size<=maxLen:=λk hk=>by
 have:=yq h hK hk;unfold maxLen;omega
theorem yV(b num lv n:Nat)(bm:Nat->Nat)(K:aB)(w:World)(h:ba w b bm num K)(hK:gX w bm K)(hl:lv<=3)(hn:n<4 ^ lv):
  Calls aa.prog 51 #[.pointer (some ⟨b,0,none⟩),.int .i64 lv,.int .i64 n] w λe w'=>e=.returned (.int .u64 (ji w bm K lv n))/\Below w.heap.size w w':=by
 have HD:Hid _:=Lj b lv n (dK w bm K) w (Nr h hK) (OZ h hK) hl hn;have HE:Hid (dg (dK w bm K) (3-lv) n=ji w bm K lv n):=rfl;generalize ji w bm K lv n=D at*;clear h hK;go_enter aa.func51,aa.ntmps51;go_wp2_with (go_at_call 75;refine BY HD.out ?_;rintro e w1 ⟨rfl,hb1⟩;rw[HE.out];have HB:Hid (Below w.heap.size w w1):=hb1;clear hb1)
 go_ret;exact⟨rfl,HB.out⟩
theorem P9(b num lv n:Nat)(bm:Nat->Nat)(K:aB)(w:World)(h:ba w b bm num K)(hK:gX w bm K)(hl:lv<=3)(hn:n<4 ^ lv):
  Calls aa.prog 21 #[.pointer (some ⟨b,0,none⟩),.int .i64 lv,.int .i64 n] w λe w'=>e=.returned (.tuple #[.int .u64 (ji w bm K lv n),.int .i64 0])/\Below w.heap.size w w':=by
 have HD:Hid _:=yV b num lv n bm K w h hK hl hn;have HH:Hid (∀W,Calls aa.prog 48 #[.int .i64 lv,.int .i64 n] W λe w'=>e=.returned (.bool true)/\w'=W):=λW=>by
  have:=ur lv n (by omega) W;rwa [show decide (lv<=3/\n<4 ^ lv)=true by simp[hl,hn]]at this
 generalize ji w bm K lv n=D at*;clear h hK hn;go_enter aa.func21,aa.ntmps21;go_wp2_with (first
  |(go_at_call 48;refine BY (HH.out _) ?_;rintro e w0 ⟨rfl,hw0⟩;obtain rfl:=hw0.symm)
  |(go_at_call 51;refine BY HD.out ?_;rintro e w1 ⟨rfl,hb1⟩;have HB:Hid (Below w.heap.size w w1):=hb1;clear hb1))
 go_ret2;exact⟨rfl,HB.out⟩
theorem Mp(b num n:Nat)(bm:Nat->Nat)(K:aB)(w:World)(h:ba w b bm num K)(hK:gX w bm K)(hn:n<64):
  Calls aa.prog 19 #[.pointer (some ⟨b,0,none⟩),.int .i64 n] w λe w'=>e=.returned (.tuple #[.string (dK w bm K n),.int .i64 0])/\Below w.heap.size w w':=by
 have HD:Hid _:=Aj b num n bm K w h hK hn;have HH:Hid (∀W,Calls aa.prog 48 #[.int .i64 3,.int .i64 n] W λe w'=>e=.returned (.bool true)/\w'=W):=λW=>by
  have:=ur 3 n (by omega) W;rwa [show decide (3<=3/\n<4 ^ 3)=true by simp;omega]at this
 generalize dK w bm K n=D at*;clear h hK hn;go_enter aa.func19,aa.ntmps19;go_wp2_with (first
  |(go_at_call 48;refine BY (HH.out _) ?_;rintro e w0 ⟨rfl,hw0⟩;obtain rfl:=hw0.symm)
  |(go_at_call 49;refine BY HD.out ?_;rintro e w1 ⟨rfl,hb1⟩;have HB:Hid (Below w.heap.size w w1):=hb1;clear hb1))
 go_ret2;exact⟨rfl,HB.out⟩
def kU(d:Int):ByteArray:=dz 82++gh d
theorem Ni(d:Int)(w:World):
  Calls aa.prog 54 #[.agg #[.int .u64 d]] w λe w'=>e=.returned (.string (kU d))/\Below w.heap.size w w':=by
 have aF:aR ((w.alloc (.cells #[.int .u64 d] 104)).alloc (.cells #[.int .u8 82] 5)) (w.heap.size+1) (.slice (some ⟨w.heap.size+1,0,none⟩) 1 1) (dz 82):=
  ⟨rfl,Or.inr ⟨w.heap.size+1,1,#[.int .u8 82],rfl,AI _,wX w _ _,AI _,by decide,rfl,rfl⟩⟩
 have HA:Hid _:=BK (w.heap.size+1) _ _ d _ aF (by simp) (by decide);have HRow:Hid _:=aF;clear aF;go_enter aa.func54,aa.ntmps54;go_wp2_with (go_at_call 77;refine BY HA.out ?_;rintro e w1 ⟨v1,rfl,hr1,hg1⟩;have hcv:=rm hr1;have HB:Hid (Below w.heap.size w w1):=(hg1.toBelow (((AT (w.heap.size) w).alloc (AI _) _).alloc (by simp) _) (by simp;omega) (bM HRow.out (by omega)));clear hr1 hg1)
 go_ret;exact⟨rfl,HB.out⟩
theorem Cd(b num:Nat)(bm:Nat->Nat)(K:aB)(w:World)(h:ba w b bm num K)(hK:gX w bm K):
  Calls aa.prog 23 #[.pointer (some ⟨b,0,none⟩)] w λe w'=>e=.returned (.string (kU (ji w bm K 0 0)))/\Below w.heap.size w w':=by
 have HD:Hid (Calls aa.prog 51 #[.pointer (some ⟨b,0,none⟩),.int .i64 0,.int .i64 0] w λe w'=>e=.returned (.int .u64 (ji w bm K 0 0))/\Below w.heap.size w w'):=yV b num 0 0 bm K w h hK (by decide) (by decide);generalize ji w bm K 0 0=D at*;clear h hK;go_enter aa.func23,aa.ntmps23;go_wp2_with (first
  |(go_at_call 51;refine BY HD.out ?_;rintro e w1 ⟨rfl,hb1⟩;have HB1:Hid (Below w.heap.size w w1):=hb1;clear hb1)
  |(go_at_call 54;refine (Ni D _).mono ?_;rintro e w2 ⟨rfl,hb2⟩;have HB2:Hid (Below w.heap.size w w2):=HB1.out.trans (hb2.mono HB1.out.size);clear hb2))
 go_ret;exact⟨rfl,HB2.out⟩
end
end Go.Proofs.YtldmcdeibiclkaaGreatQ
