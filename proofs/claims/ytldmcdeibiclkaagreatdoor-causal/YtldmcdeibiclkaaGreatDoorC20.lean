/-
  Toward causal_holds: Contracts: maps.Keys and slices.Sorted on a segment's map: its keys, by rising bytes, in n
-/
import Derived.Test.YtldmcdeibiclkaaGreatDoorC19
import Derived.Test.YtldmcdeibiclkaaGreatDoorC18
set_option linter.unusedVariables false
set_option linter.unusedSimpArgs false
set_option maxRecDepth 100000
set_option maxHeartbeats 20000000
section
namespace Go.Proofs
open Go.RowKit Go.Maps Go.Sort Go.Shelf
namespace YtldmcdeibiclkaaGreatDoorQ
open Go.WideElems (Fit rd rg rd_mk)
theorem VD(m:Nat):AnyZ.SortsIn aa.prog aa.CN Fence.wide m:=
 ⟨λblk off cap ss W hH hblk hsz=>callsIn_wide.2 (AnyM.slices_Sort_string aa.FA blk off cap ss W hH hblk hsz),
  λp cap W=>callsIn_wide.2 (AnyM.slices_Sort_string_none aa.FA p cap W)⟩
theorem UI(mb:Option Nat)(W:World):Calls aa.prog 72 #[.map mb] W λe w'=>e= .returned (.func (.func 97) #[] #[.pointer (some ⟨W.heap.size,0,none⟩)])/\w'=W.alloc (.cells #[.map mb] 98):=
 callsIn_wide.1 (AnyZ.keys_in aa.ET Fence.wide 5 trivial rfl mb W)
theorem Ib(b nn:Nat)(D0:DataW Unit)(R:Value->Option (DataW Unit×List MemPlace))(w:World)(aA:w.ownsMap aa.prog 9 R b nn D0)(hmax:Maps.size D0<=maxLen)(hbytes:Maps.size D0*16<=140737488355328):
  Calls aa.prog 71 #[.func (.func 97) #[] #[.pointer (some ⟨w.heap.size,0,none⟩)]] (w.alloc (.cells #[.map (some b)] 98)) λe w'=>∃(v:Value) (ss:List (List UInt8)),e= .returned v/\ss.Perm (strKeys D0)/\
   w'.ownsRow (w.heap.size+1) 9 1 v ss.length ((ss.mergeSort (λx y=>decide (x<=y))).map encStr)/\Below (w.alloc (.cells #[.map (some b)] 98)).heap.size (w.alloc (.cells #[.map (some b)] 98)) w':=by
 have hbl:=aA.lt
 have eS:SeqGives Fence.wide 2 aa.prog 97 #[.pointer (some ⟨w.heap.size,0,none⟩)] encStr (λss=>ss.Perm (strKeys D0)) (Maps.size D0) (w.alloc (.cells #[.map (some b)] 98)):=
  AnyZ.keys_gives (ρ:=aa.Ep) {aa.ET with} Fence.wide _ trivial rfl (by omega) w.heap.size b nn D0 _ (by simp) (by simp) (by
   obtain⟨es,clock,hb,Ft,hs,hD⟩:=aA
   exact⟨es,clock,(OF _ _ b hbl).trans hb,Ft,hs,hD⟩)
 have h:=AnyZ.sorted_in aa.Ul Fence.wide 5 trivial trivial trivial trivial rfl (by omega) (VD _) (enters_of aa.func96 (by kernel_rfl) rfl) 97 #[.pointer (some ⟨w.heap.size,0,none⟩)] trivial (enters_of aa.func97 (by kernel_rfl) rfl) _ _ hmax hbytes _ eS
 refine (callsIn_wide.1 h).mono ?_
 rintro e w' ⟨v,ss,h1,h2,h3,_,h5⟩
 rw[show (w.alloc (.cells #[.map (some b)] 98)).heap.size=w.heap.size+1 by simp] at h3
 exact⟨v,ss,h1,h2,h3,h5⟩
def pT(e:MapEntry):List UInt8:=match e.key with
 | .string k=>k.data.toList
 |_=>[]
def cU(es:List MapEntry):List (List UInt8):=es.map pT
def rF:Value->Option (DataW Unit×List MemPlace):=λ_=>some (.nil,[])
theorem F4{e:MapEntry}{k:ByteArray}(he:e.key= .string k)(hk:k.size<=maxLen):rd aa.prog 9 rF e=some (.string k.data.toList,.nil):=by
 obtain⟨key,val,born⟩:=e
 subst he
 exact rd_mk (R:=rF) (yv:=(.nil,[])) (Go.WideMaps.keyOf_string_mk aa.underlying9 hk) rfl
theorem Ks{w:World}{m:Nat}{es:Array MapEntry}{clock:Nat}{Q:ByteArray->Prop}(hm:w.heap[m]? =some (.map es clock))(hst:kx Q es.toList clock)(hQ:∀k,Q k->k.size<=maxLen)(hsz:es.size<=maxLen):
  ∃D0:DataW Unit,w.ownsMap aa.prog 9 rF m es.size D0/\Maps.size D0=es.size/\(strKeys D0).Perm (cU es.toList):=by
 obtain⟨h1,h2,h3,h4⟩:=hst
 have hrd:∀x∈es.toList,∃k,x.key= .string k/\rd aa.prog 9 rF x=some (.string k.data.toList,.nil):=λx hx=>by
  obtain⟨k,hk,hq⟩:=h4 x hx
  exact⟨k,hk,F4 hk (hQ k hq)⟩
 refine⟨_,⟨es,clock,hm,⟨hsz,⟨h3,h2,h1⟩,λx hx=>(hrd x hx).elim λk hk=>⟨_,hk.2⟩⟩,AI _,rfl⟩,?_,?_⟩
 ·show List.length _=_
  rw[(Go.WideShapes.sorted_perm _).length_eq]
  simp
 ·show (List.map _ _).Perm _
  refine ((Go.WideShapes.sorted_perm _).map _).trans (List.Perm.of_eq ?_)
  rw[ZH,cU]
  apply Y9
  intro x hx
  obtain⟨k,hk,hr⟩:=hrd x hx
  simp[rg,hr,strOf,pT,hk]
end YtldmcdeibiclkaaGreatDoorQ
end Go.Proofs
end
namespace Go.Proofs.YtldmcdeibiclkaaGreatDoorQ
open Go.RowKit
section
open Go.Lib (strCells strCells_length strCells_oneCell)
theorem aa.Ez:(aa.prog.info? 151).map (λi=>(i.zero,i.size,i.bytes))=some (some (.agg #[.string ⟨#[]⟩,.int .i64 0,.int .i64 0,.int .i64 0,.int .i64 0,.slice none 0 0]),6,72):=by kernel_rfl
def eQ(ss:List (List UInt8)):List (List UInt8):=ss.mergeSort λx y=>decide (x<=y)
theorem oP(ss:List (List UInt8)):(eQ ss).Perm ss:=List.mergeSort_perm ss _
def dI(x:List UInt8):ByteArray:=⟨x.toArray⟩
theorem tE(k:ByteArray):dI k.data.toList=k:=by
 apply ZT;simp[dI]
def dA(K:aF)(es:List MapEntry):List (ByteArray×Ctx×List aj):=(eQ (cU es)).map λx=>(dI x,(K (dI x)).1,(K (dI x)).2)
def kG(l:List (ByteArray×Ctx×List aj)):ByteArray:=l.foldl (λs r=>s++dn r.1 r.2.1 r.2.2) ByteArray.empty
def Rc.bU(r:Rc):ByteArray×Ctx×List aj:=(r.key,r.c,r.l)
theorem wU(rs:List Rc):cV rs=kG (rs.map Rc.bU):=by
 simp[cV,kG,List.foldl_map,Rc.bU]
theorem rE{es:List MapEntry}{Q:ByteArray->Prop}(h:∀e∈es,∃k,e.key= .string k/\Q k){x:List UInt8}(hx:x∈eQ (cU es)):Q (dI x):=by
 rw[(oP _).mem_iff,cU,Ya] at hx
 obtain⟨e,he,rfl⟩:=hx
 obtain⟨k,hk,hq⟩:=h e he
 simpa[pT,hk,tE] using hq
theorem jJ{w:World}{B size n:Nat}{t:TypeId}{v:Value}{xs:List Value}(h:w.ownsRow B t size v n xs): ∃ad cap,v= .slice ad n cap/\(cap:Int)<=9223372036854775807/\n<=cap:=by
 rcases h.2 with ⟨h1,h2⟩|⟨g,cap,cur,hv,_,_,h4,h3,_⟩
 ·exact⟨_,_,by rw[h1,h2],by simp,by omega⟩
 ·exact⟨_,_,hv,by unfold maxLen at h3;omega,h4⟩
theorem tD{w:World}{B n:Nat}{t:TypeId}{v:Value}{xs:List Value}(h:w.ownsRow B t 1 v n xs){k:Nat}{x:Value}(hx:xs[k]? =some x): ∃g cap,v= .slice (some ⟨g,0,none⟩) n cap/\g< w.heap.size/\w.cell? ⟨g,k,none⟩=some x:=by
 have hk:k< n:=by
  have h1:=h.1
  have:=(YP.1 hx).1
  omega
 rcases h.2 with ⟨_,h2⟩|⟨g,cap,cur,hv,_,hh,hn,hc,hs,ht⟩
 ·omega
 ·refine⟨g,cap,hv,(IN.1 hh).1,?_⟩
  rw[←ht,YJ,AT (by omega)] at hx
  simpa[World.cell?,hh] using hx
theorem SX{w:World}{m:Nat}{es:Array MapEntry}{clock:Nat}{Q:ByteArray->Prop}(hm:w.heap[m]? =some (.map es clock))(hst:kx Q es.toList clock)(hQ:∀k,Q k->k.size<=maxLen)(hsz:es.size<=300000000000):
  Calls aa.prog 71 #[.func (.func 97) #[] #[.pointer (some ⟨w.heap.size,0,none⟩)]] (w.alloc (.cells #[.map (some m)] 98)) λe w'=>∃v:Value,e= .returned v/\
   w'.ownsRow (w.heap.size+1) 9 1 v es.size ((eQ (cU es.toList)).map encStr)/\Below w.heap.size w w':=by
 obtain⟨D0,aA,hD,hperm⟩:=Ks hm hst hQ (by unfold maxLen;omega)
 refine (Ib m es.size D0 rF w aA (by rw[hD];unfold maxLen;omega) (by rw[hD];omega)).mono ?_
 rintro e w1 ⟨v,ss,rfl,hp,hrow,hb⟩
 have hss:ss.mergeSort (λx y=>decide (x<=y))=eQ (cU es.toList):=mergeSort_of_perm (hp.trans hperm)
 have hl:ss.length=es.size:=by rw[(hp.trans hperm).length_eq,cU,Yr,YR]
 rw[hss,hl] at hrow
 exact⟨v,rfl,hrow,((By _ _).alloc (AI _) _).trans (hb.mono (by simp))⟩
theorem CA(m n:Nat)(K:aF)(w:World)(es:Array MapEntry)(clock:Nat)(hm:w.heap[m]? =some (.map es clock))(hk:fP es.toList)(hall:∀s,ay s=n->∃sv,(cg es.toList s).getD lC=bh (K s).1 sv/\aC w sv (K s).2)(hst:kx (λk=>ay k=n/\k.size<=281474976710656/\cL k=true) es.toList clock)(hsz:es.size<=300000000000):
  Calls aa.prog 49 #[.map (some m)] w λe w'=>∃v rs,e= .returned v/\dc w' w.heap.size v rs/\(∀r∈rs,aC w' r.sv r.l)/\rs.map Rc.bU=dA K es.toList/\Below w.heap.size w w':=by
 obtain⟨svf,hsv⟩: ∃svf:ByteArray->Value,∀s,ay s=n->(cg es.toList s).getD lC=bh (K s).1 (svf s)/\aC w (svf s) (K s).2:=by
  have:∀s,∃v,ay s=n->(cg es.toList s).getD lC=bh (K s).1 v/\aC w v (K s).2:=λs=>by
   by_cases hs:ay s=n
   ·obtain⟨sv,h⟩:=hall s hs
    exact⟨sv,λ_=>h⟩
   ·exact⟨.slice none 0 0,λh=>(hs h).elim⟩
  exact⟨λs=>(this s).choose,λs hs=>(this s).choose_spec hs⟩
 have hseg:∀x∈eQ (cU es.toList),ay (dI x)=n:=λx hx=>(rE hst.2.2.2 hx).1
 have hll:(eQ (cU es.toList)).length=es.size:=by rw[(oP _).length_eq,cU,Yr,YR]
 have hmlt:m< w.heap.size:=(IN.1 hm).1
 have HLk:Hid (∀s,ay s=n->∀W:World,W.heap[m]? =some (.map es clock)->(Instr.lookup 98 (.map (some m)) (.string s) false).run aa.prog W= .ok (bh (K s).1 (svf s)) W):=λs hs W hW=>by
  rw[oC W m es clock s hW hk,(hsv s hs).1]
 have HM:Hid (w.heap[m]? =some (.map es clock)):=hm
 have HSv:Hid (∀s,ay s=n->aC w (svf s) (K s).2):=λs hs=>(hsv s hs).2
 have HSeg:Hid (∀x∈eQ (cU es.toList),ay (dI x)=n):=hseg
 have HKeys:Hid _:=UI (some m) w
 have HSort:Hid _:=SX hm hst (λk h=>by have:=h.2.1;unfold maxLen;omega) hsz
 have HRo:Hid (dA K es.toList=(eQ (cU es.toList)).map λx=>(dI x,(K (dI x)).1,(K (dI x)).2)):=rfl
 clear hsv hall hk hst hseg hm
 generalize dA K es.toList=ro at*
 obtain⟨i0,hi0,hz0,hz1,hz2⟩:=Yk aa.Ez
 go_enter aa.func49,aa.ntmps49
 go_wp2_with (first
  |(go_at_call 72;refine BY HKeys.out ?_;rintro e w1 ⟨rfl,rfl⟩)
  |(go_at_call 71;refine BY HSort.out ?_;rintro e w1 ⟨v1,rfl,hrow1,hb1⟩;obtain⟨ad,cap,rfl,hcap,hlc⟩:=jJ hrow1;have HRow:Hid (w1.ownsRow (w.heap.size+1) 9 1 (.slice ad es.size cap) es.size ((eQ (cU es.toList)).map encStr)):=hrow1;have HB1:Hid (Below w.heap.size w w1):=hb1;clear hrow1 hb1))
 clear HKeys HSort
 have hz1':=HB1.out.size
 obtain⟨L,hL⟩: ∃L,L=eQ (cU es.toList):=⟨_,rfl⟩
 rw[←hL] at hll HRow HSeg HRo
 clear hL
 obtain⟨rs,hrs⟩: ∃rs:List Rc,rs=L.map λx=>⟨dI x,(K (dI x)).1,svf (dI x),(K (dI x)).2⟩:=⟨_,rfl⟩
 have hrl:rs.length=es.size:=by rw[hrs,Yr,hll]
 have HGet:Hid (∀k (h:k< rs.length),rs[k].sv=svf rs[k].key/\rs[k].c=(K rs[k].key).1/\rs[k].l=(K rs[k].key).2/\ay rs[k].key=n/\(L.map encStr)[k]? =some (.string rs[k].key)):=λk h=>by
  subst hrs
  rw[Yr] at h
  refine⟨by simp,by simp,by simp,by simpa using HSeg.out _ (X9 h),?_⟩
  rw[ZR,Yn h]
  simp[encStr,dI]
 have HTri:Hid (rs.map Rc.bU=ro):=(show rs.map Rc.bU=ro by rw[HRo.out,hrs,ZH];rfl)
 have HVr:Hid (∀r∈rs,aC w r.sv r.l):=λr hr=>by
  subst hrs
  obtain⟨x,hx,rfl⟩:=Ya.1 hr
  exact HSv.out _ (HSeg.out x hx)
 clear hrs HRo HSeg
 go_loopw [3,10] (λo i wr=>∃k:Nat,k<=rs.length/\i= .int .i64 k/\Hid (dc wr w1.heap.size o (rs.take k))/\Hid (Below w1.heap.size w1 wr)) (λ_ i _=>rs.length - (intOf i).toNat)
 case atStart=>exact⟨0,by omega,rfl,Y6 _ _ _ _,By _ _⟩
 case round=>
  obtain⟨k,hk,rfl,hr,hb⟩:=hrel
  have HR:Hid (dc wr w1.heap.size u3 (rs.take k)):=hr.out
  have HB:Hid (Below w1.heap.size w1 wr):=hb.out
  have hszr:=hb.out.size
  clear hr hb
  by_cases hlt:k< rs.length
  ·obtain⟨e1,e2,e3,e4,e5⟩:=HGet.out k hlt
   obtain⟨g,cap',hv',hgl,hc⟩:=tD HRow.out e5
   cases hv'
   have hcw:wr.cell? ⟨g,k,none⟩=some (.string rs[k].key):=(HB.out.cell (p:=⟨g,k,none⟩) hgl).trans hc
   have hmw:wr.heap[m]? =some (.map es clock):=(HB.out.block m (by omega)).trans ((HB1.out.block m hmlt).trans HM.out)
   have hlk:=HLk.out _ e4 wr hmw
   have hvk:aC w rs[k].sv rs[k].l:=HVr.out _ (X9 hlt)
   obtain⟨adv,capv,hsvv⟩:=pc hvk
   have HT:Hid (rs.take (k+1)=rs.take k++ [rs[k]]):=Yu hlt
   have HF:Hid (jk [rs[k]]= [.string rs[k].key,.int .i64 (rs[k].c 0),.int .i64 (rs[k].c 1),.int .i64 (rs[k].c 2),.int .i64 (rs[k].c 3),.slice adv rs[k].l.length capv]):=(show jk [rs[k]]= [.string rs[k].key,.int .i64 (rs[k].c 0),.int .i64 (rs[k].c 1),.int .i64 (rs[k].c 2),.int .i64 (rs[k].c 3),.slice adv rs[k].l.length capv] by rw[←hsvv];rfl)
   rw[←e1,←e2,hsvv] at hlk
   have htl:(rs.take k).length=k:=by rw[List.length_take];omega
   have HL1:Hid ((rs.take (k+1)).length=k+1):=(show (rs.take (k+1)).length=k+1 by rw[List.length_take];omega)
   have HRk:Hid (wr.ownsRow w1.heap.size 151 6 u3 k (jk (rs.take k))):=(by have:=HR.out;unfold dc at this;rw[htl] at this;exact this)
   clear HR e1 e2 e3 e4 e5 hvk hsvv hc hmw htl
   generalize hq:rs[k]=rk at*
   clear hq
   generalize rk.key=key at*
   generalize rk.c=c at*
   generalize rk.l.length=len at*
   have g63:(k:Int)< (es.size:Int):=by omega
   have k0:(0:Int)<=(k:Int):=by omega
   go_wp2_with (at_builtin;refine j6 _ rfl _ _ _ rfl w1.heap.size 151 i0 _ 6 72 aa.underlying119 hi0 hz0 hz1 hz2 rfl (by omega) u3 _ _ rfl (Yc HRk.out _) ⟨wr.heap.size,0,none⟩ 1 1 _ rfl (by rfl) (Yo (IS wr _)) (by simp[Value.oneCell']) (by omega) (by unfold maxLen;omega) (by omega) (by simp;omega) ?_;intro g2 cap2 w2 hown2 hgr2)
   refine⟨⟨k+1,by omega,by go_num,?_,?_⟩,by simp[intOf];omega⟩
   ·show dc _ _ _ _
    unfold dc
    rw[HL1.out,HT.out,zf,HF.out]
    exact hown2
   ·exact hgr2.toBelow (HB.out.alloc hszr _) (by simp;omega) (Yc HRk.out _)
  ·obtain rfl:k=rs.length:=by omega
   have HRe:Hid (dc wr w1.heap.size u3 rs):=(by have:=HR.out;rw[YD] at this;exact this)
   clear HR
   go_wp2
   go_ret
   refine⟨_,rs,rfl,cY HRe.out hz1',λr hr=>?_,HTri.out,HB1.out.trans (HB.out.mono hz1')⟩
   exact dp (HVr.out r hr) (HB1.out.trans (HB.out.mono hz1')) (AI _)
end
def gx(c:Ctx)(i j:Nat):Int:=if j< i then c j else 0
def kD(c:Ctx)(i:Nat):ByteArray:=(List.range' i (4 - i)).foldr (λj s=>cy (c j)++s) ByteArray.empty
theorem QI(c:Ctx):kD c 0=lj c:=by
 simp[kD,lj,jz,List.range'_succ,gI,cq,iY]
theorem IZ(c:Ctx){i:Nat}(h:i< 4):kD c i=cy (c i)++kD c (i+1):=by
 unfold kD
 rw[show 4 - i=(4 - (i+1))+1 by omega,List.range'_succ]
 simp
theorem K5(c:Ctx):kD c 4=ByteArray.empty:=rfl
def eX:List aj->ByteArray
 |[]=>ByteArray.empty
 |v::l=>gD v++eX l
theorem Lu(l:List aj):∀s,l.foldl (λs v=>s++gD v) s=s++eX l:=by
 induction l with
 |nil=>intro s;simp[eX,gI]
 |cons v l ih=>intro s;rw[Zy,ih,eX,cq]
theorem Ht(l:List aj):de l=eX l:=by rw[de,Lu,iY]
theorem Us{l:List aj}{k:Nat}(h:k< l.length):eX (l.drop k)=gD l[k]++eX (l.drop (k+1)):=by
 rw[aal h,eX]
def Em(key:ByteArray)(c:Ctx)(l:List aj):Prop:=key.size< 256/\(∀i,i< 4->0<=c i/\c i< 4294967296)/\l.length<=100000/\∀v∈l,Bz v
abbrev recC(key:ByteArray)(c:Ctx)(i:Nat)(sv:Value):Array Value:=#[.string key,.int .i64 (gx c i 0),.int .i64 (gx c i 1),.int .i64 (gx c i 2),.int .i64 (gx c i 3),sv]
def eU(w wr:World)(b bo:Nat)(A:Array Value)(s:ByteArray):Prop:=
 wr.heap[bo]? =some (.cells A 151)/\wr.heap[w.heap.size]? =some (.cells #[.string ⟨#[]⟩,.int .i64 0,.int .i64 0,.int .i64 0,.int .i64 0,.slice none 0 0] 151)/\Rd w wr b s
theorem eU.rd{w wr w':World}{b bo:Nat}{A:Array Value}{s t:ByteArray}(h:eU w wr b bo A s)(hr:Rd wr w' b t)(h1:bo≠b)(h2:w.heap.size≠b):eU w w' b bo A t:=
 ⟨hr.other h.1 h1,hr.other h.2.1 h2,h.2.2.trans hr⟩
theorem eU.set{w wr:World}{b bo:Nat}{A:Array Value}{s:ByteArray}(h:eU w wr b bo A s)(hb:b< w.heap.size/\w.heap.size< bo)(o:Nat)(v:Value):eU w (wr.setCell ⟨bo,o,none⟩ v) b bo (A.setIfInBounds o v) s:=
 ⟨heap_set h.1,by rw[Yj _ _ _ _ (by show _≠bo;omega)];exact h.2.1,h.2.2.setCell ⟨by omega,by omega⟩ v⟩
theorem Ma(key:ByteArray)(c:Ctx)(sv:Value){i:Nat}(h:i< 4):(recC key c i sv).setIfInBounds (1+i) (.int .i64 (c i))=recC key c (i+1) sv:=by
 rcases fg h with rfl|rfl|rfl|rfl<;>simp[recC,gx]
theorem MA(key:ByteArray)(c:Ctx)(sv:Value){i:Nat}(h:i< 4):(recC key c i sv)[1+i]? =some (.int .i64 0):=by
 rcases fg h with rfl|rfl|rfl|rfl<;>simp[recC,gx]
theorem Rd.row{w w1:World}{b B n size:Nat}{s s0:ByteArray}{t:TypeId}{v:Value}{xs:List Value}(h:Rd w w1 b s)(h0:bl w b s0)(hr:w.ownsRow B t size v n xs)(ht:t≠158):w1.ownsRow B t size v n xs:=by
 obtain⟨h1,h2⟩:=hr
 refine⟨h1,?_⟩
 rcases h2 with h2|⟨g,cap,cur,hv,hg,hh,r⟩
 ·exact Or.inl h2
 ·exact Or.inr ⟨g,cap,cur,hv,hg,h.other hh (λe=>by subst e;rw[h0.1] at hh;cases hh;exact ht rfl),r⟩
theorem pI{w:World}{B size n k:Nat}{t:TypeId}{v:Value}{xs:List Value}(h:w.ownsRow B t size v n xs)(hk:v.ownBlock=some k):B<=k:=by
 rcases h.2 with ⟨h,_⟩|⟨g,cap,cur,rfl,hg,_⟩
 ·rw[h] at hk;cases hk
 ·cases hk;exact hg
theorem eU.alloc{w wr:World}{b bo:Nat}{A:Array Value}{s:ByteArray}(h:eU w wr b bo A s)(o:Obj):eU w (wr.alloc o) b bo A s:=
 have hb:Below wr.heap.size wr (wr.alloc o):=(By _ _).alloc (AI _) o
 ⟨aY h.1 hb,aY h.2.1 hb,h.2.2.below hb⟩
theorem lW{w w1:World}{v:Value}(h:w.grownBy w1 v.ownBlock){B size n:Nat}{e:TypeId}{xs:List Value}(hr:w.ownsRow B e size v n xs){b:Nat}{cs:Array Value}{t:TypeId}{fr:Nat×Nat}(hb:w.heap[b]? =some (.cells cs t fr))(hne:t≠e):w1.heap[b]? =some (.cells cs t fr):=
 bw.other (v1:=v) ⟨h,λ_ h=>Or.inl h⟩ hr hb hne
theorem eU.grownBy{w wr w1:World}{b bo size n:Nat}{A:Array Value}{s:ByteArray}{e:TypeId}{v:Value}{xs:List Value}(h:eU w wr b bo A s)(hr:wr.ownsRow w.heap.size e size v n xs)(hg:wr.grownBy w1 v.ownBlock)(h1:151≠e)(h2:158≠e):eU w w1 b bo A s:=
 ⟨lW hg hr h.1 h1,lW hg hr h.2.1 h1,⟨lW hg hr h.2.2.1.1 h2,h.2.2.1.2⟩,h.2.2.2.grown hg λk hk hlt=>by
  have:=pI hr hk
  omega⟩
theorem fW{w:World}{B size n bo:Nat}{t t':TypeId}{A:Array Value}{fr:Nat×Nat}{u:Value}{xs:List Value}(h:w.ownsRow B t size u n xs)(hb:w.heap[bo]? =some (.cells A t' fr))(ht:t≠t')(o:Nat)(v:Value):(w.setCell ⟨bo,o,none⟩ v).ownsRow B t size u n xs:=by
 obtain⟨h1,h2⟩:=h
 refine⟨h1,?_⟩
 rcases h2 with h2|⟨g,cap,cur,hv,hg,hh,r⟩
 ·exact Or.inl h2
 ·exact Or.inr ⟨g,cap,cur,hv,hg,by rw[Yj _ _ _ _ (λe=>by subst e;rw[hb] at hh;cases hh;exact ht rfl)];exact hh,r⟩
theorem gY{w:World}{B size n:Nat}{t:TypeId}{v:Value}{xs:List Value}(h:w.ownsRow B t size v n xs): ∃ad cap,v= .slice ad n cap:=by
 obtain⟨ad,cap,h,_⟩:=jJ h
 exact⟨ad,cap,h⟩
theorem I8(b:Nat)(key:ByteArray)(c:Ctx)(l:List aj)(s:ByteArray)(w:World)(h:bl w b (dn key c l++s))(hf:Em key c l):
  Calls aa.prog 101 #[.pointer (some ⟨b,0,none⟩)] w λe w'=>∃sv,e= .returned (.agg #[.string key,.int .i64 (c 0),.int .i64 (c 1),.int .i64 (c 2),.int .i64 (c 3),sv])/\w'.ownsRow w.heap.size 144 3 sv l.length (aU l)/\Rd w w' b s:=by
 obtain⟨hk,hc,hl,hv⟩:=hf
 obtain⟨i0,hi0,hz0,hz1,hz2⟩:=Yk aa.oa
 have hlt:=h.lt
 rw[dn,cq,cq,cq,←QI,Ht] at h
 have HT:Hid (∀w1,Below w.heap.size w w1->Calls aa.prog 138 #[.pointer (some ⟨b,0,none⟩)] w1 λe w'=>e= .returned (.string key)/\Rd w1 w' b (kD c 0++(cy l.length++(eX l++s)))):=λw1 hb=>BJ b key _ w1 (h.below hb) hk
 clear h
 go_enter aa.func101,aa.ntmps101
 go_wp2_with (first
  |(go_at_call 138;refine (HT.out _ ((By _ _).alloc (AI _) _)).mono ?_;rintro e w1 ⟨rfl,hr1⟩))
 have hz:w.heap.size< w1.heap.size:=by have:=hr1.2.size;simp at this;omega
 have HS:Hid (eU w (w1.alloc (.cells (recC key c 0 (.slice none 0 0)) 151)) b w1.heap.size (recC key c 0 (.slice none 0 0)) (kD c 0++(cy l.length++(eX l++s)))):=
  ⟨IS w1 _,by rw[OF _ _ _ hz];exact hr1.other (IS w _) (by omega),hr1.1.below ((By _ _).alloc (AI _) _),(((Fr.refl _ w).alloc _).trans hr1.2).alloc _⟩
 have hbo:b< w1.heap.size:=by omega
 have HBo:Hid (b< w.heap.size/\w.heap.size< w1.heap.size):=(show b< w.heap.size/\w.heap.size< w1.heap.size by omega)
 generalize w1.heap.size=bo at*
 clear hr1 HT
 go_loopw [10] (λiv wr=>∃i:Nat,i<=4/\iv= .int .i64 i/\eU w wr b bo (recC key c i (.slice none 0 0)) (kD c i++(cy l.length++(eX l++s)))) (λiv _=>4 - (intOf iv).toNat)
 case atStart=>exact⟨0,by omega,rfl,HS.out⟩
 case round=>
  obtain⟨i,hi,rfl,hL⟩:=hrel
  by_cases hi4:i< 4
  ·have i1:(i:Int)< 4:=by omega
   have i00:(0:Int)<=(i:Int):=by omega
   have HN:Hid (Calls aa.prog 100 #[.pointer (some ⟨b,0,none⟩)] wr λe w'=>e= .returned (.int .i64 (c i))/\eU w w' b bo (recC key c i (.slice none 0 0)) (kD c (i+1)++(cy l.length++(eX l++s)))):=by
    have h3:=hL.2.2
    rw[IZ c hi4,cq] at h3
    refine (sS b (c i) _ wr h3.1 (hc i hi4).1 (hc i hi4).2).mono ?_
    rintro e w' ⟨rfl,hr⟩
    exact⟨rfl,hL.rd hr (by omega) (by omega)⟩
   clear HS hL
   go_wp2_with (go_at_call 100;refine HN.out.mono ?_;rintro e w2 ⟨rfl,hL2⟩;obtain⟨c2,f2⟩:=au hL2.1;have cI:=(c2 (1+i)).trans (MA key c (.slice none 0 0) hi4);have fI:=f2 (1+i);clear c2 f2;have HL2:Hid (eU w w2 b bo (recC key c i (.slice none 0 0)) (kD c (i+1)++(cy l.length++(eX l++s)))):=hL2;clear hL2)
   refine⟨⟨i+1,by omega,by go_num,?_⟩,by simp[intOf];omega⟩
   have:=HL2.out.set HBo.out (1+i) (.int .i64 (c i))
   rw[Ma key c _ hi4] at this
   exact this
  ·obtain rfl:i=4:=by omega
   have HN:Hid (Calls aa.prog 100 #[.pointer (some ⟨b,0,none⟩)] wr λe w'=>e= .returned (.int .i64 l.length)/\eU w w' b bo (recC key c 4 (.slice none 0 0)) (eX l++s)):=by
    have h3:=hL.2.2
    rw[K5,iY] at h3
    refine (sS b l.length _ wr h3.1 (by omega) (by omega)).mono ?_
    rintro e w' ⟨rfl,hr⟩
    exact⟨rfl,hL.rd hr (by omega) (by omega)⟩
   clear HS hL
   go_wp2_with (go_at_call 100;refine HN.out.mono ?_;rintro e w2 ⟨rfl,hL2⟩;have HL2:Hid (eU w w2 b bo (recC key c 4 (.slice none 0 0)) (eX l++s)):=hL2;clear hL2)
   clear HN
   go_loopw [6] (λiv wr=>∃(k:Nat) (sv:Value),k<=l.length/\iv= .int .i64 k/\Hid (eU w wr b bo (recC key c 4 sv) (eX (l.drop k)++s))/\Hid (wr.ownsRow w.heap.size 144 3 sv k (aU (l.take k)))) (λiv _=>l.length - (intOf iv).toNat)
   case atStart=>exact⟨0,.slice none 0 0,by omega,rfl,HL2.out,Y6 _ _ _ _⟩
   case round=>
    obtain⟨k,sv,hk,rfl,HL,HO⟩:=hrel
    clear HL2
    obtain⟨ad,cap,rfl⟩:=gY HO.out
    obtain⟨cb,fb⟩:=au HL.out.1
    have c1:wr.cell? ⟨b,1,none⟩=some (.bool false):=(au HL.out.2.2.1.1).1 1
    have c5:=cb 5
    have f5:=fb 5
    by_cases hkl:k< l.length
    ·have k1:(k:Int)< (l.length:Int):=by omega
     have hdk:decide ((k:Int)< (l.length:Int))=true:=by simpa using hkl
     have HVn:Hid (Calls aa.prog 139 #[.pointer (some ⟨b,0,none⟩)] wr.drew λe w'=>e= .returned (.agg #[.int .i64 l[k].rep,.int .i64 l[k].n,.string l[k].val])/\eU w w' b bo (recC key c 4 (.slice ad k cap)) (eX (l.drop (k+1))++s)/\w'.ownsRow w.heap.size 144 3 (.slice ad k cap) k (aU (l.take k))):=by
      have h3:=HL.out.2.2
      rw[Us hkl,cq] at h3
      refine (N0 b l[k] _ _ (h3.1.below (By _ _).drew) (hv _ (X9 hkl))).mono ?_
      rintro e w' ⟨rfl,hr⟩
      have hr':Rd wr w' b (eX (l.drop (k+1))++s):=⟨hr.1,(Fr.refl _ _).drew.trans hr.2⟩
      exact⟨rfl,HL.out.rd hr' (by omega) (by omega),hr'.row h3.1 HO.out (by decide)⟩
     go_upto_region 11 with fail
     go_region_law (first
      |(refine Z4 _ rfl _ _ _ rfl w.heap.size 144 i0 _ 3 32 aa.underlying104 hi0 hz0 hz1 hz2 rfl (by omega) (.slice ad k cap) _ _ rfl (Yc HO3.out _) ⟨w3.heap.size,0,none⟩ 1 1 [.int .i64 l[k].rep,.int .i64 l[k].n,.string l[k].val] rfl rfl (Yo (IS w3 _)) (by simp[Value.oneCell']) (by omega) (by unfold maxLen;omega) (by omega) (by have:=HL3.out.2.2.2.size;simp;omega) (w3.heap.size+1) (by simp) ?_;intro g2 cap2 w4 hown4 hgr4 hat4 hlt4;have hL4:=(HL3.out.alloc _).grownBy (Yc HO3.out _) hgr4 (by decide) (by decide);obtain⟨cb4,fb4⟩:=au hL4.1;have c54:=cb4 5;have f54:=fb4 5;clear cb4 fb4;have HL4:Hid (eU w w4 b bo (recC key c 4 (.slice ad k cap)) (eX (l.drop (k+1))++s)):=hL4;have HO4:Hid _:=hown4;clear hL4 hown4 hgr4)
      |(go_simp;go_at_call 139;refine BY HVn.out ?_;rintro e w3 ⟨rfl,hL3,hO3⟩;obtain⟨cb3,fb3⟩:=au hL3.1;have hbo3:=(IN.1 hL3.1).1;have c53:=cb3 5;have f53:=fb3 5;clear cb3 fb3;have HL3:Hid (eU w w3 b bo (recC key c 4 (.slice ad k cap)) (eX (l.drop (k+1))++s)):=hL3;have HO3:Hid (w3.ownsRow w.heap.size 144 3 (.slice ad k cap) k (aU (l.take k))):=hO3;clear hL3 hO3))
     all_goals
      go_wp2
      refine⟨⟨k+1,.slice (some ⟨g2,0,none⟩) (k+1) cap2,by omega,by go_num,HL4.out.set HBo.out 5 _,?_⟩,by simp[intOf];omega⟩
      rw[Yu hkl,mE]
      exact fW HO4.out HL4.out.1 (by decide) _ _
    ·obtain rfl:k=l.length:=by omega
     obtain⟨cw,fw⟩:=au HL.out.2.1
     go_wp2
     have hp:∀j,j< 4->gx c 4 j=c j:=λj hj=>by simp[gx,hj]
     refine YB (v:= .agg #[.string key,.int .i64 (c 0),.int .i64 (c 1),.int .i64 (c 2),.int .i64 (c 3),.slice ad l.length cap]) ?_ rfl ⟨_,rfl,?_,?_⟩
     ·rw[hp 0 (by omega),hp 1 (by omega),hp 2 (by omega),hp 3 (by omega)]
      simp[results,aa.results101,go_sem,cw]
     ·have h1:=HO.out
      rw[YD] at h1
      exact fW (fW (fW (fW (fW (fW h1 HL.out.2.1 (by decide) _ _) (heap_set HL.out.2.1) (by decide) _ _) (heap_set (heap_set HL.out.2.1)) (by decide) _ _) (heap_set (heap_set (heap_set HL.out.2.1))) (by decide) _ _) (heap_set (heap_set (heap_set (heap_set HL.out.2.1)))) (by decide) _ _) (heap_set (heap_set (heap_set (heap_set (heap_set HL.out.2.1))))) (by decide) _ _
     ·have hne:w.heap.size<=w.heap.size/\w.heap.size≠b:=⟨AI _,by omega⟩
      have h2:=HL.out.2.2
      rw[List.drop_length,eX,iY] at h2
      exact (((((h2.setCell hne _).setCell hne _).setCell hne _).setCell hne _).setCell hne _).setCell hne _
structure kV(c:Ctx)(l:List aj):Prop where
 ctx:fX c=true
 some: ∃i,i< 4/\c i≠0
 iX:∀v∈l,v.rep< 4/\1<=v.n/\v.val.size<=12/\v.n<=c v.rep
 sorted:l.Pairwise λa b=>aR a b=true
theorem Sz(r:Nat)(n:Int)(t:ByteArray)(w:World)(h1:r< 4)(h2:1<=n)(h3:t.size<=12):
  Calls aa.prog 161 #[.agg #[.int .i64 r,.int .i64 n,.string t]] w λe w'=>e= .returned (.bool true)/\Below w.heap.size w w':=by
 have HV:Hid (∀W,Calls aa.prog 37 #[.string t] W λe w'=>e= .returned (.bool true)/\w'=W):=λW=>by
  have:=vL t W (by unfold maxLen;omega)
  rw[ZL h3] at this
  exact this
 have a1:(r:Int)< 4:=by omega
 have a0:(0:Int)<=(r:Int):=by omega
 go_enter aa.func161,aa.ntmps161
 go_wp2_with (go_at_call 37;refine (HV.out _).mono ?_;rintro e w' ⟨rfl,rfl⟩)
 go_ret
 exact⟨rfl,(By _ _).alloc (AI _) _⟩
theorem Rw(d:Nat)(W:World)(a b c e:Int)(h:a≠0\/b≠0\/c≠0\/e≠0):(Op.equalIn (d+2) 102 (.agg #[.int .i64 a,.int .i64 b,.int .i64 c,.int .i64 e]) (.agg #[.int .i64 0,.int .i64 0,.int .i64 0,.int .i64 0])).run aa.prog W= .ok false W:=by
 have u3:=aa.underlying3
 have u9:=aa.underlying102
 have a3:=aa.isAgg3
 have z3:=aa.sizeOf3
 rw[Op.equalIn]
 simp only[YC,Y5 u9,YU]
 go_simp
 rw[show List.range' 0 4= [0,1,2,3] from rfl]
 simp only[List.forIn_cons,List.forIn_nil,YC,a3,YU,Yd,Yb]
 by_cases ha:a=0
 ·by_cases hb:b=0
  ·by_cases hc:c=0
   ·have he:e≠0:=by omega
    go_simp
   ·go_simp
  ·go_simp
 ·go_simp
theorem zC(W:World)(q:Nat)(os:Array Obj):Below W.heap.size W (Go.Sort.grow (W.drewN q) os):=
 ⟨rfl,rfl,rfl,by simp[Go.Sort.grow],λk hk=>by simp[Go.Sort.grow,aag,hk]⟩
theorem P5(c:Ctx)(sv:Value)(l:List aj)(w:World)(h:aC w sv l)(hs:kV c l)(hl:l.length<=100000):
  Calls aa.prog 140 #[bh c sv] w λe w'=>e= .returned (.bool true)/\Below w.heap.size w w':=by
 have HS:Hid (∀W,Calls aa.prog 38 #[cA c] W λe w'=>e= .returned (.bool true)/\Below W.heap.size W w'):=λW=>by
  have:=qO c W
  rw[hs.ctx] at this
  exact this
 obtain⟨ad,cap,rfl,hcap⟩:=h.len
 have HV:Hid (aC w (.slice ad l.length cap) l):=h
 have HSS:Hid (kV c l):=hs
 have hz:∀W,(Op.equalIn 10000 102 (.agg #[.int .i64 (c 0),.int .i64 (c 1),.int .i64 (c 2),.int .i64 (c 3)]) (.agg #[.int .i64 0,.int .i64 0,.int .i64 0,.int .i64 0])).run aa.prog W= .ok false W:=λW=>by
  refine Rw 9998 W _ _ _ _ ?_
  obtain⟨i,hi,hn⟩:=hs.some
  rcases fg hi with rfl|rfl|rfl|rfl
  ·exact .inl hn
  ·exact .inr (.inl hn)
  ·exact .inr (.inr (.inl hn))
  ·exact .inr (.inr (.inr hn))
 clear h hs
 go_enter aa.func140,aa.ntmps140
 go_wp2_with (go_at_call 38;refine (HS.out _).mono ?_;rintro e w1 ⟨rfl,hb1⟩;obtain⟨c1,f1⟩:=au (aY (IS w _) hb1);have HB1:Hid (Below w.heap.size w w1):=bG ((By _ _).alloc (AI _) _) hb1;have HC1:Hid (w1.heap[w.heap.size]? =some (.cells #[.int .i64 (c 0),.int .i64 (c 1),.int .i64 (c 2),.int .i64 (c 3),.slice ad l.length cap] 106)):=aY (IS w _) hb1;clear hb1)
 have HV1:Hid (aC w1 (.slice ad l.length cap) l):=dp HV.out HB1.out (AI _)
 have hw1:w.heap.size< w1.heap.size:=(IN.1 HC1.out).1
 clear HS c1 f1 hz HV
 go_loopw [18] (λiv wr=>∃k:Nat,k<=l.length/\iv= .int .i64 k/\Hid (Below w1.heap.size w1 wr)) (λiv _=>l.length - (intOf iv).toNat)
 case atStart=>exact⟨0,by omega,rfl,By _ _⟩
 case round=>
  obtain⟨k,hk,rfl,HB⟩:=hrel
  have hwr:=HB.out.size
  by_cases hlt:k< l.length
  ·obtain⟨g,cap',hsv',hg,_,_,d0,d1,d2⟩:=aC.cells (aC.below HV1.out HB.out) hlt
   cases hsv'
   obtain⟨s1,s2,s3,s4⟩:=HSS.out.iX _ (X9 hlt)
   have k1:(k:Int)< (l.length:Int):=by omega
   have k0:(0:Int)<=(k:Int):=by omega
   have HBox:Hid (wr.heap[w.heap.size]? =some (.cells #[.int .i64 (c 0),.int .i64 (c 1),.int .i64 (c 2),.int .i64 (c 3),.slice (some ⟨g,0,none⟩) l.length cap] 106)):=aY HC1.out HB.out
   have HPrev:Hid (∀j (h:j< l.length) w',Below wr.heap.size wr w'->w'.cell? ⟨g,j*3,none⟩=some (.int .i64 l[j].rep)/\w'.cell? ⟨g,j*3+1,none⟩=some (.int .i64 l[j].n)/\w'.cell? ⟨g,j*3+2,none⟩=some (.string l[j].val)):=λj hj w' hw=>by
    obtain⟨g',cap2,e,_,_,_,x0,x1,x2⟩:=aC.cells (aC.below HV1.out (bG HB.out hw)) hj
    cases e
    exact⟨x0,x1,x2⟩
   have HSort:Hid (∀j (h:j< k),aR (l[j]'(by omega)) l[k]=true):=λj h=>Y3.1 HSS.out.sorted j k (by omega) hlt h
   generalize hv:l[k]=v at*
   obtain⟨r,n,t⟩:=v
   simp only[aj.rep,aj.n,aj.val] at*
   have HOne:Hid (∀W,Calls aa.prog 161 #[.agg #[.int .i64 r,.int .i64 n,.string t]] W λe w'=>e= .returned (.bool true)/\Below W.heap.size W w'):=λW=>Sz r n t W s1 s2 s3
   have HSn:Hid (∀W,Calls aa.prog 83 #[cA c,.agg #[.int .i64 r,.int .i64 n]] W λe w'=>e= .returned (.bool true)/\Below W.heap.size W w'):=λW=>by
    have:=sf c r n W s1
    rw[ZL s4] at this
    exact this
   have HWv:Hid (∀w',Below (wr.heap.size+1) (wr.alloc (.cells #[.int .i64 r,.int .i64 n,.string t] 144)) w'->(∀o,w'.cell? ⟨wr.heap.size,o,none⟩=#[Value.int .i64 r,.int .i64 n,.string t][o]?)/\(∀o,w'.cell? ⟨w.heap.size,o,none⟩=#[Value.int .i64 (c 0),.int .i64 (c 1),.int .i64 (c 2),.int .i64 (c 3),.slice (some ⟨g,0,none⟩) l.length cap][o]?)/\Below wr.heap.size wr w'):=λw' hw=>by
    have hb':Below (wr.alloc (.cells #[.int .i64 r,.int .i64 n,.string t] 144)).heap.size (wr.alloc (.cells #[.int .i64 r,.int .i64 n,.string t] 144)) w':=by simpa using hw
    have hb0:Below wr.heap.size wr w':=bG ((By _ _).alloc (AI _) _) hb'
    exact⟨(au (aY (IS wr _) hb')).1,(au (aY HBox.out hb0)).1,hb0⟩
   go_upto_region 8 with (first
    |(go_at_call 161;refine (HOne.out _).mono ?_;rintro e w2 ⟨rfl,hb2⟩;rw[show (wr.alloc (.cells #[.int .i64 r,.int .i64 n,.string t] 144)).heap.size=wr.heap.size+1 by simp] at hb2;obtain⟨v2,b2,_⟩:=HWv.out _ hb2;have HB2:Hid (Below (wr.heap.size+1) (wr.alloc (.cells #[.int .i64 r,.int .i64 n,.string t] 144)) w2):=hb2;clear hb2)
    |(go_at_call 83;refine (HSn.out _).mono ?_;rintro e w3 ⟨rfl,hb3⟩;have hb3':=HB2.out.trans (hb3.mono (by have:=HB2.out.size;simpa using this));obtain⟨v3,b3,x3⟩:=HWv.out _ hb3';have HB3:Hid (Below wr.heap.size wr w3):=x3;clear hb3 hb3' x3))
   have hk3:Hid (Below w1.heap.size w1 w3):=bG HB.out HB3.out
   by_cases hk0:k=0
   ·subst hk0
    go_quiet (fail)
    go_wp2
    exact⟨⟨1,by omega,by go_num,Zr hk3.out _⟩,by simp[intOf];omega⟩
   ·obtain⟨j,rfl⟩: ∃j,k=j+1:=⟨k - 1,by omega⟩
    obtain⟨p0,p1,p2⟩:=HPrev.out j (by omega) w3 HB3.out
    have hjl:j< l.length:=by omega
    have hlj:=HSort.out j (by omega)
    generalize hvj:l[j]=u at*
    obtain⟨r',n',t'⟩:=u
    simp only[aj.rep,aj.n,aj.val] at*
    have hcmp: ∃z:Int,z< 0/\ky (gC r' r) (gC n' n)=z:=⟨_,by
     simp only[aR,aj.rep,aj.n,Yt] at hlj
     unfold ky gC
     split<;>split<;>omega,rfl⟩
    obtain⟨z,hz0,hz⟩:=hcmp
    have HD:Hid (∀W,Calls aa.prog 66 #[.agg #[.int .i64 r',.int .i64 n',.string t'],.agg #[.int .i64 r,.int .i64 n,.string t]] W λe w'=>e= .returned (.int .i64 z)/\Below W.heap.size W w'):=λW=>by
     refine (xQ r' n' r n t' t W).mono ?_
     rintro e w' ⟨rfl,q,os',rfl⟩
     exact⟨by rw[hz],zC W q os'⟩
    have j1:((j:Int)+1 - 1)=(j:Int):=by omega
    have j2:(0:Int)<=(j:Int):=by omega
    have j3:(j:Int)< (l.length:Int):=by omega
    have y4:=b3 4
    have q0:=v3 0
    have q1:=v3 1
    have q2:=v3 2
    simp at y4 q0 q1 q2
    have hmk:Hid (∀w',Below w3.heap.size w3 w'->w'.cell? ⟨w.heap.size,4,none⟩=some (.slice (some ⟨g,0,none⟩) l.length cap)/\w'.cell? ⟨g,j*3,none⟩=some (.int .i64 r')/\w'.cell? ⟨g,j*3+1,none⟩=some (.int .i64 n')/\w'.cell? ⟨g,j*3+2,none⟩=some (.string t')/\w'.cell? ⟨wr.heap.size,0,none⟩=some (.int .i64 r)/\w'.cell? ⟨wr.heap.size,1,none⟩=some (.int .i64 n)/\w'.cell? ⟨wr.heap.size,2,none⟩=some (.string t)):=λw' hw=>⟨aX y4 hw,aX p0 hw,aX p1 hw,aX p2 hw,aX q0 hw,aX q1 hw,aX q2 hw⟩
    clear y4 q0 q1 q2 p0 p1 p2 b3 v3 b2 v2 hlj hz hvj hv d0 d1 d2
    obtain⟨kI,hkI⟩: ∃z:Int,((j+1:Nat):Int)=z:=⟨_,rfl⟩
    have m1:IntKind.i64.wrap (kI - 1)=(j:Int):=by rw[IntKind.wrap_i64];omega
    have m2:(0:Int)< kI:=by omega
    have m3:kI<=100000:=by omega
    have HkI:Hid (kI=(j:Int)+1):=(show kI=(j:Int)+1 by omega)
    rw[hkI] at*
    clear j1 hkI
    go_region_held3 (λw'=>w'.cell? ⟨w.heap.size,4,none⟩=some (.slice (some ⟨g,0,none⟩) l.length cap)/\w'.cell? ⟨g,j*3,none⟩=some (.int .i64 r')/\w'.cell? ⟨g,j*3+1,none⟩=some (.int .i64 n')/\w'.cell? ⟨g,j*3+2,none⟩=some (.string t')/\w'.cell? ⟨wr.heap.size,0,none⟩=some (.int .i64 r)/\w'.cell? ⟨wr.heap.size,1,none⟩=some (.int .i64 n)/\w'.cell? ⟨wr.heap.size,2,none⟩=some (.string t))
     ((refine hmk.out _ ?_;first|exact hb4|(simp (maxDischargeDepth:=12) [By,XX];done)))
     (first|(go_at_call 66;refine BY (HD.out _) ?_;rintro e w4 ⟨rfl,hb4'⟩;have hb4:Below w3.heap.size w3 w4:=bG (By _ _).drew hb4';clear hb4'))
    all_goals
     go_wp2
     exact⟨⟨j+2,by omega,by rw[HkI.out];go_num,bG hk3.out hb4⟩,by rw[HkI.out];simp[intOf];omega⟩
  ·obtain rfl:k=l.length:=by omega
   go_wp2
   go_ret
   exact⟨rfl,HB1.out.trans (HB.out.mono HB1.out.size)⟩
theorem U2(key:ByteArray)(c:Ctx)(sv:Value)(l:List aj)(n:Nat)(w:World)(h:aC w sv l)(hs:kV c l)(hl:l.length<=100000)(hk:cL key=true)(dQ:key.size<=8)(hn:ay key=n):
  Calls aa.prog 102 #[.agg #[.string key,.int .i64 (c 0),.int .i64 (c 1),.int .i64 (c 2),.int .i64 (c 3),sv],.int .i64 n] w λe w'=>e= .returned (.bool true)/\Below w.heap.size w w':=by
 obtain⟨ad,cap,rfl,hcap⟩:=h.len
 have HK:Hid (∀W,Calls aa.prog 36 #[.string key] W λe w'=>e= .returned (.bool true)/\w'=W):=λW=>by
  have:=oH key W (by unfold maxLen;omega)
  rw[hk] at this
  exact this
 have HG:Hid (∀W,Calls aa.prog 62 #[.string key] W λe w'=>e= .returned (.int .i64 n)/\w'=W):=λW=>by
  have:=zZ key W (by unfold maxLen;omega)
  rw[hn] at this
  exact this
 have HS:Hid (∀W,Below w.heap.size w W->Calls aa.prog 140 #[bh c (.slice ad l.length cap)] W λe w'=>e= .returned (.bool true)/\Below w.heap.size w w'):=λW hW=>(P5 c _ l W (aC.below h hW) hs hl).mono λe w' ⟨he,hb⟩=>⟨he,bG hW hb⟩
 clear h hs
 go_enter aa.func102,aa.ntmps102
 go_wp2_with (first
  |(go_at_call 36;refine (HK.out _).mono ?_;rintro e w' ⟨rfl,rfl⟩)
  |(go_at_call 62;refine (HG.out _).mono ?_;rintro e w' ⟨rfl,rfl⟩)
  |(go_at_call 140;refine (HS.out _ ((By _ _).alloc (AI _) _)).mono ?_;rintro e w2 ⟨rfl,hb⟩))
 go_ret
 exact⟨rfl,hb⟩
abbrev ai:=ByteArray×Ctx×List aj
def eC:List ai->ByteArray
 |[]=>ByteArray.empty
 |r::l=>dn r.1 r.2.1 r.2.2++eC l
theorem XK(l:List ai):∀s,l.foldl (λs r=>s++dn r.1 r.2.1 r.2.2) s=s++eC l:=by
 induction l with
 |nil=>intro s;simp[eC,gI]
 |cons v l ih=>intro s;rw[Zy,ih,eC,cq]
theorem xm(l:List ai):kG l=eC l:=by rw[kG,XK,iY]
theorem S2{l:List ai}{k:Nat}(h:k< l.length):eC (l.drop k)=dn l[k].1 l[k].2.1 l[k].2.2++eC (l.drop (k+1)):=by
 rw[aal h,eC]
def nA(rs:List ai):Nat->ByteArray
 |0=>⟨#[]⟩
 |k+1=>(rs[k]?.map (·.1)).getD ⟨#[]⟩
structure kl(n:Nat)(rs:List ai):Prop where
 len:rs.length<=1000000
 snd:∀r∈rs,kV r.2.1 r.2.2/\r.2.2.length<=100000/\cL r.1=true/\ay r.1=n
 je:∀k (h:k< rs.length),(Op.bytesLess rs[k].1.toList (nA rs k).toList||rs[k].1.toList==(nA rs k).toList)=false
theorem ui{key:ByteArray}(h:cL key=true):1<=key.size/\key.size<=8:=by
 simp only[cL,IT,Yt] at h
 exact h.1
theorem kV.fit{key:ByteArray}{c:Ctx}{l:List aj}(h:kV c l)(hl:l.length<=100000)(hk:cL key=true):Em key c l:=by
 have hk':=ui hk
 have hc:∀i,i< 4->0<=c i/\c i<=1000000:=by
  have:=h.ctx
  simp only[fX,ew,IT,Yt] at this
  intro i hi
  rcases fg hi with rfl|rfl|rfl|rfl<;>omega
 refine⟨by omega,λi hi=>by have:=hc i hi;omega,hl,λv hv=>?_⟩
 obtain⟨h1,h2,h3,h4⟩:=h.iX v hv
 have:=hc _ h1
 exact⟨by omega,by omega,by omega,by omega⟩
theorem Rd.refl{w:World}{b:Nat}{s:ByteArray}(h:bl w b s):Rd w w b s:=⟨h,Fr.refl _ w⟩
theorem Rd.mS{w wr w1:World}{b size n:Nat}{s:ByteArray}{e:TypeId}{v:Value}{xs:List Value}(h:Rd w wr b s)(hr:wr.ownsRow w.heap.size e size v n xs)(hg:wr.grownBy w1 v.ownBlock)(h2:158≠e):Rd w w1 b s:=
 ⟨⟨lW hg hr h.1.1 h2,h.1.2⟩,h.2.grown hg λk hk hlt=>by
  have:=pI hr hk
  omega⟩
theorem tI{w:World}{B size n k:Nat}{t:TypeId}{v:Value}{xs:List Value}(h:w.ownsRow B t size v n xs)(hk:v.ownBlock=some k):k< w.heap.size:=by
 rcases h.2 with ⟨h,_⟩|⟨g,cap,cur,rfl,_,hh,_⟩
 ·rw[h] at hk;cases hk
 ·cases hk;exact (IN.1 hh).1
theorem uS{w w1:World}{v:Value}(h:w.grownBy w1 v.ownBlock){B size n:Nat}{e:TypeId}{xs:List Value}(hr:w.ownsRow B e size v n xs){B' size' n':Nat}{e':TypeId}{v':Value}{xs':List Value}(hr':w.ownsRow B' e' size' v' n' xs')(hne:e'≠e):w1.ownsRow B' e' size' v' n' xs':=by
 obtain⟨h1,h2⟩:=hr'
 refine⟨h1,?_⟩
 rcases h2 with h2|⟨g,cap,cur,hv,hg,hh,r⟩
 ·exact Or.inl h2
 ·exact Or.inr ⟨g,cap,cur,hv,hg,lW h hr hh hne,r⟩
theorem ya(b:Nat)(s:ByteArray)(w:World)(h:bl w b s):
  Calls aa.prog 99 #[.pointer (some ⟨b,0,none⟩)] w λe w'=>e= .returned (.bool false)/\w'=w:=by
 obtain⟨c,f⟩:=au h.1
 go_enter aa.func99,aa.ntmps99
 go_wp2
 go_ret
 exact⟨rfl,rfl⟩
structure ja(w wr:World)(v:Value)(rc:List Rc)(rs:List ai):Prop where
 row:dc wr w.heap.size v rc
 bU:rc.map Rc.bU=rs
 qS:∀r∈rc,wr.ownsRow w.heap.size 144 3 r.sv r.l.length (aU r.l)
theorem Pt(b n:Nat)(rs:List ai)(s:ByteArray)(w:World)(h:bl w b (cy rs.length++(eC rs++s)))(hr:kl n rs):
  Calls aa.prog 77 #[.pointer (some ⟨b,0,none⟩),.int .i64 n] w λe w'=>∃v rc,e= .returned v/\ja w w' v rc rs/\Rd w w' b s:=by
 have hlen:=hr.len
 obtain⟨i0,hi0,hz0,hz1,hz2⟩:=Yk aa.Ez
 have HN:Hid (Calls aa.prog 100 #[.pointer (some ⟨b,0,none⟩)] w λe w'=>e= .returned (.int .i64 rs.length)/\Rd w w' b (eC rs++s)):=sS b rs.length _ w h (by omega) (by omega)
 have HR:Hid (kl n rs):=hr
 have hbl:=h.lt
 clear h hr
 go_enter aa.func77,aa.ntmps77
 go_wp2_with (go_at_call 100;refine HN.out.mono ?_;rintro e w1 ⟨rfl,hr1⟩;have HR1:Hid (Rd w w1 b (eC rs++s)):=hr1;clear hr1)
 clear HN
 go_loopw [5,7,8] (λrv lv iv wr=>∃(k:Nat) (rc:List Rc),k<=rs.length/\iv= .int .i64 k/\lv= .string (nA rs k)/\Hid (ja w wr rv rc (rs.take k))/\Hid (Rd w wr b (eC (rs.drop k)++s))) (λ_ _ iv _=>rs.length - (intOf iv).toNat)
 case atStart=>exact⟨0,[],by omega,rfl,rfl,⟨Y6 _ _ _ _,rfl,λr hr=>by cases hr⟩,HR1.out⟩
 case round=>
  obtain⟨k,rc,hk,rfl,rfl,HA,HRd⟩:=hrel
  obtain⟨cr,fr⟩:=au HRd.out.1.1
  by_cases hkl:k< rs.length
  ·have k1:(k:Int)< (rs.length:Int):=by omega
   have hdk:decide ((k:Int)< (rs.length:Int))=true:=by simpa using hkl
   obtain⟨hsnd,hlv,hkey,hseg⟩:=HR.out.snd _ (X9 hkl)
   have hasc:=HR.out.je k hkl
   have HLk:Hid (nA rs (k+1)=rs[k].1):=(show nA rs (k+1)=rs[k].1 by simp[nA,hkl])
   have HTk:Hid (rs.take (k+1)=rs.take k++ [rs[k]]):=Yu hkl
   have HRd':Hid (bl wr b (dn rs[k].1 rs[k].2.1 rs[k].2.2++(eC (rs.drop (k+1))++s))):=by
    have:=HRd.out.1
    rw[S2 hkl,cq] at this
    exact this
   generalize rs[k]=r at*
   obtain⟨key,c,l⟩:=r
   simp only at*
   have dQ:=ui hkey
   have HRec:Hid (Calls aa.prog 101 #[.pointer (some ⟨b,0,none⟩)] wr λe w'=>∃ad cap,e= .returned (.agg #[.string key,.int .i64 (c 0),.int .i64 (c 1),.int .i64 (c 2),.int .i64 (c 3),.slice ad l.length cap])/\w'.ownsRow w.heap.size 144 3 (.slice ad l.length cap) l.length (aU l)/\ja w w' u5 rc (rs.take k)/\Rd w w' b (eC (rs.drop (k+1))++s)/\w.heap.size<=w'.heap.size):=by
    refine (I8 b key c l _ wr HRd'.out (hsnd.fit hlv hkey)).mono ?_
    rintro e w' ⟨sv,rfl,aA,hrd⟩
    obtain⟨ad,cap,rfl⟩:=gY aA
    have hA:=HA.out
    exact⟨ad,cap,rfl,cY aA HRd.out.2.size,⟨hrd.row HRd'.out hA.row (by decide),hA.bU,λr hr=>hrd.row HRd'.out (hA.qS r hr) (by decide)⟩,HRd.out.trans hrd,(HRd.out.trans hrd).2.size⟩
   have HIs:Hid (∀ad cap W,aC W (.slice ad l.length cap) l->Calls aa.prog 102 #[.agg #[.string key,.int .i64 (c 0),.int .i64 (c 1),.int .i64 (c 2),.int .i64 (c 3),.slice ad l.length cap],.int .i64 n] W λe w'=>e= .returned (.bool true)/\Below W.heap.size W w'):=λad cap W hW=>U2 key c _ l n W hW hsnd hlv hkey dQ.2 hseg
   have HM:Hid _:=rV b
   have HFl:Hid (Calls aa.prog 99 #[.pointer (some ⟨b,0,none⟩)] wr λe w'=>e= .returned (.bool false)/\w'=wr):=ya b _ wr HRd.out.1
   have hrcl:rc.length=k:=by have:=congrArg List.length HA.out.bU;simpa[Nat.min_eq_left hk] using this
   clear HRd' hsnd HR
   go_wp2_with (first
    |(go_at_call 101;refine HRec.out.mono ?_;rintro e w2 ⟨ad,cap,rfl,hown2,hA2,hrd2,hsz2⟩;have HB2:Hid (Below w2.heap.size w2 (w2.alloc (.cells #[.string key,.int .i64 (c 0),.int .i64 (c 1),.int .i64 (c 2),.int .i64 (c 3),.slice ad l.length cap] 151))):=(By _ _).alloc (AI _) _;have HO2:Hid (w2.ownsRow w.heap.size 144 3 (.slice ad l.length cap) l.length (aU l)):=hown2;have HA2:Hid (ja w w2 u5 rc (rs.take k)):=hA2;have HRd2:Hid (Rd w w2 b (eC (rs.drop (k+1))++s)):=hrd2;have HAk:Hid (w2.ownsRow w.heap.size 151 6 u5 k (jk rc)):=(by have:=hA2.row;unfold dc at this;rw[hrcl] at this;exact this);clear hown2 hA2 hrd2)
    |(go_at_call 99;refine HFl.out.mono ?_;rintro e w' ⟨rfl,hw'⟩;subst w')
    |(go_at_call 102;refine (HIs.out ad cap _ (cY (dp HO2.out HB2.out (AI _)) (Y2 _))).mono ?_;rintro e w3 ⟨rfl,hb3⟩;have hc3:=aY (IS w2 _) hb3;obtain⟨c3,f3⟩:=au hc3;have HC3:Hid (w3.heap[w2.heap.size]? =some (.cells #[.string key,.int .i64 (c 0),.int .i64 (c 1),.int .i64 (c 2),.int .i64 (c 3),.slice ad l.length cap] 151)):=hc3;have HB3:Hid (Below w2.heap.size w2 w3):=bG HB2.out hb3;clear hb3 hc3)
    |(go_at_call 57;refine (HM.out _).mono ?_;rintro e w' ⟨rfl,hw'⟩;subst w')
    |(at_builtin;refine j6 _ rfl _ _ _ rfl w.heap.size 151 i0 _ 6 72 aa.underlying119 hi0 hz0 hz1 hz2 rfl (by omega) u5 _ _ rfl (Yc (dp HAk.out HB3.out (AI _)) _) ⟨w3.heap.size,0,none⟩ 1 1 _ rfl (by rfl) (Yo (IS w3 _)) (by simp[Value.oneCell']) (by omega) (by unfold maxLen;omega) (by omega) (by have:=HB3.out.size;simp;omega) ?_;intro g4 cap4 w4 hown4 hgr4;have hne4:some w2.heap.size≠u5.ownBlock:=λe=>Nat.lt_irrefl _ (tI HAk.out e.symm);obtain⟨c4,f4⟩:=au ((hgr4.grown.block w2.heap.size (by have:=(IN.1 HC3.out).1;simp;omega) hne4).trans ((OF w3 _ _ (IN.1 HC3.out).1).trans HC3.out));have HO4:Hid (w4.ownsRow w.heap.size 151 6 (.slice (some ⟨g4,0,none⟩) (k+1) cap4) (k+1) (jk rc++ [.string key,.int .i64 (c 0),.int .i64 (c 1),.int .i64 (c 2),.int .i64 (c 3),.slice ad l.length cap])):=hown4;have HG4:Hid (bw (w3.alloc (.cells #[.string key,.int .i64 (c 0),.int .i64 (c 1),.int .i64 (c 2),.int .i64 (c 3),.slice ad l.length cap] 151)) w4 u5 (.slice (some ⟨g4,0,none⟩) (k+1) cap4)):=hgr4;clear hown4 hgr4 hne4))
   have HB3':Hid (Below w2.heap.size w2 (w3.alloc (.cells #[.string key,.int .i64 (c 0),.int .i64 (c 1),.int .i64 (c 2),.int .i64 (c 3),.slice ad l.length cap] 151))):=HB3.out.alloc HB3.out.size _
   have HRow:Hid _:=dp HAk.out HB3'.out (AI _)
   refine⟨⟨k+1,rc++ [⟨key,c,.slice ad l.length cap,l⟩],by omega,by go_num,by rw[HLk.out],⟨?_,?_,?_⟩,?_⟩,by simp[intOf];omega⟩
   ·unfold dc
    rw[Yh,hrcl,zf]
    exact HO4.out
   ·rw[HTk.out,Zx,HA2.out.bU]
    rfl
   ·intro r hr
    rcases Zl.1 hr with hr|hr
    ·exact uS HG4.out.grown HRow.out (dp (HA2.out.qS r hr) HB3'.out (AI _)) (by decide)
    ·obtain rfl:=Y4.1 hr
     exact uS HG4.out.grown HRow.out (dp HO2.out HB3'.out (AI _)) (by decide)
   ·exact (HRd2.out.below HB3'.out).mS HRow.out HG4.out.grown (by decide)
  ·obtain rfl:k=rs.length:=by omega
   go_wp2
   go_ret
   exact⟨_,rc,rfl,by have:=HA.out;rw[YD] at this;exact this,by have:=HRd.out;rw[List.drop_length,eC,iY] at this;exact this⟩
theorem XE{k:ByteArray}(h:cL k=true):k.data.toList.length<=8/\∀b∈k.data.toList,oY b=true:=by
 simp only[cL,IT,Yt,YY] at h
 exact⟨by rw[YR];exact h.1.2,h.2⟩
theorem QG{l:List aj}(h:∀v∈l,v.val.size<=12):(de l).size<=18*l.length:=by
 have key:∀(m:List aj) (s:ByteArray),(∀v∈m,v.val.size<=12)->(m.foldl (λs v=>s++gD v) s).size<=s.size+18*m.length:=λm=>by
  induction m with
  |nil=>intro s _;simp
  |cons v m ih=>
   intro s hs
   have h1:=ih (s++gD v) λx hx=>hs x (by simp[hx])
   have h2:=hs v (by simp)
   rw[No,Eb] at h1
   rw[Zy,Ys]
   omega
 have:=key l ByteArray.empty h
 simpa[de] using this
theorem JD{l:List (ByteArray×Ctx×List aj)}(h:∀r∈l,r.1.size<=8/\r.2.2.length<=100/\∀v∈r.2.2,v.val.size<=12):(kG l).size<=1829*l.length:=by
 have key:∀(m:List (ByteArray×Ctx×List aj)) (s:ByteArray),(∀r∈m,r.1.size<=8/\r.2.2.length<=100/\∀v∈r.2.2,v.val.size<=12)->(m.foldl (λs r=>s++dn r.1 r.2.1 r.2.2) s).size<=s.size+1829*m.length:=λm=>by
  induction m with
  |nil=>intro s _;simp
  |cons r m ih=>
   intro s hs
   have h1:=ih (s++dn r.1 r.2.1 r.2.2) λx hx=>hs x (by simp[hx])
   obtain⟨h2,h3,h4⟩:=hs r (by simp)
   have h5:=QG h4
   rw[No,CH] at h1
   rw[Zy,Ys]
   omega
 have:=key l ByteArray.empty h
 simpa[kG] using this
end Go.Proofs.YtldmcdeibiclkaaGreatDoorQ
