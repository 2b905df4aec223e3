/-
  Toward causal_holds: Rows of bytes that a call builds by append: which blocks turn, and where the new row lies.
-/
import Derived.Deep.AppendLies
import Derived.Lib.AppendStr
import Derived.Lib.SlBytesRow
import Derived.Below
import Derived.Test.YtldmcdeibiclkaaGreatDoorC18
import Derived.Test.YtldmcdeibiclkaaGreatDoorC17
import Derived.Laws.BitsLemmas
import Derived.Shelf.SlGeneric
import Derived.Shelf.SlIter.Nil
import Derived.Shelf.SortM.Plain
import Derived.Shelf.SortM.SortNone
import Derived.Ground.GgzProg
import Derived.Ground.SlgmProg
import Derived.Test.YtldmcdeibiclkaaGreatDoorC16
set_option linter.unusedVariables false
set_option linter.unusedSimpArgs false
set_option maxRecDepth 100000
set_option maxHeartbeats 20000000
namespace Go.Proofs.YtldmcdeibiclkaaGreatDoorQ
open Go.RowKit
section
open Go.Lib (strCells strCells_length strCells_oneCell)
structure bw(w w':World)(v v':Value):Prop where
 grown:w.grownBy w' v.ownBlock
 uB:∀g,v'.ownBlock=some g->v.ownBlock=some g\/w.heap.size<=g
theorem bw.refl(w:World)(v:Value):bw w w v v:=⟨⟨rfl,rfl,rfl,AI _,λ_ _ _=>rfl⟩,λ_ h=>Or.inl h⟩
theorem bw.trans{w w1 w2:World}{v v1 v2:Value}(h:bw w w1 v v1)(h':bw w1 w2 v1 v2):bw w w2 v v2:=
 ⟨⟨h'.grown.os.trans h.grown.os,h'.grown.tape.trans h.grown.tape,h'.grown.output.trans h.grown.output,X0 h.grown.size h'.grown.size,λk hk hn=>(h'.grown.block k (X4 hk h.grown.size) λe=>by
   rcases h.uB k e.symm with e1|e1
   ·exact hn e1.symm
   ·omega).trans (h.grown.block k hk hn)⟩,
  λg hg=>by
   rcases h'.uB g hg with e1|e1
   ·exact h.uB g e1
   ·exact Or.inr (X0 h.grown.size e1)⟩
theorem bw.alloc{w w1:World}{v v1:Value}(h:bw w w1 v v1)(o:Obj):bw w (w1.alloc o) v v1:=
 ⟨⟨h.grown.os,h.grown.tape,h.grown.output,X0 h.grown.size (by simp),λk hk hn=>(OF w1 o k (X4 hk h.grown.size)).trans (h.grown.block k hk hn)⟩,h.uB⟩
theorem bw.other{w w1:World}{v v1:Value}(h:bw w w1 v v1){B size n:Nat}{e:TypeId}{xs:List Value}(hr:w.ownsRow B e size v n xs){b:Nat}{cs:Array Value}{t:TypeId}{fr:Nat×Nat}(hb:w.heap[b]? =some (.cells cs t fr))(hne:t≠e):w1.heap[b]? =some (.cells cs t fr):=by
 rw[h.grown.block b (IN.1 hb).1,hb]
 intro e1
 rcases hr.2 with ⟨rfl,_⟩|⟨g,cap,cur,rfl,_,hg,_⟩
 ·cases e1
 ·simp only[Value.ownBlock,X2] at e1
  subst e1
  rw[hb] at hg
  cases hg
  exact hne rfl
theorem bw.map{w w1:World}{v v1:Value}(h:bw w w1 v v1){B size n:Nat}{e:TypeId}{xs:List Value}(hr:w.ownsRow B e size v n xs){b:Nat}{es:Array MapEntry}{c:Nat}(hb:w.heap[b]? =some (.map es c)):w1.heap[b]? =some (.map es c):=by
 rw[h.grown.block b (IN.1 hb).1,hb]
 intro e1
 rcases hr.2 with ⟨rfl,_⟩|⟨g,cap,cur,rfl,_,hg,_⟩
 ·cases e1
 ·simp only[Value.ownBlock,X2] at e1
  subst e1
  rw[hb] at hg
  cases hg
theorem bw.toBelow{B:Nat}{w0 w w1:World}{v v1:Value}(h:bw w w1 v v1)(hb:Below B w0 w)(hB:B<=w.heap.size){size n:Nat}{e:TypeId}{xs:List Value}(hr:w.ownsRow B e size v n xs):Below B w0 w1:=
 hb.grown h.grown hB λk hk=>by
  rcases hr.2 with ⟨rfl,_⟩|⟨g,cap,cur,rfl,hg,_⟩
  ·cases hk
  ·simp only[Value.ownBlock,X2] at hk;omega
section
variable {P:Program} (w:World)
theorem Sk(base:Nat)(t u ty e:TypeId)(i:TypeInfo)(ht:P.underlying t=some (.slice e))(hu:P.underlying u=some .string)(hi:P.info? e=some i)(hz:i.zero=some (.int .u8 0))(hsize:i.size=1)(dS:i.bytes=1)(v:Value)(n:Nat)(xs:List Value)(aA:w.ownsRow base e 1 v n xs)(s:ByteArray)(h63:n+s.size<=maxLen)(hbytes:n+s.size<=140737488355328)(hbase:base<=w.heap.size):
  ∃v' w',(Builtin.append_ #[t,u] ty #[v,.string s]).run P w= .ok v' w'/\w'.ownsRow base e 1 v' (n+s.size) (xs++strCells s)/\bw w w' v v':=by
 obtain⟨v',w',hr,h2,h3,_⟩:=Go.Lib.run_append_own_string (P:=P) w base t u ty e i ht hu hi hz hsize dS v n xs aA s h63 hbytes hbase
 refine⟨v',w',hr,h2,h3,λg' hg'=>?_⟩
 rcases aA.2 with ⟨rfl,rfl⟩|⟨g,cap,cur,rfl,hbg,hg,hnc,hcm,hcs,htake⟩
 ·obtain⟨v2,w2,hr2,h4,_⟩:=Go.Lib.run_append_own_string (P:=P) w w.heap.size t u ty e i ht hu hi hz hsize dS (.slice none 0 0) 0 xs ⟨aA.1,Or.inl ⟨rfl,rfl⟩⟩ s h63 hbytes (AI _)
  rw[hr] at hr2
  cases hr2
  right
  rcases h4.2 with ⟨rfl,_⟩|⟨g,cap,cur,rfl,hbg,_⟩
  ·cases hg'
  ·simp only[Value.ownBlock,X2] at hg';omega
 ·by_cases hroom:n+s.size<=cap
  ·have hcs':cur.size=cap:=by simpa using hcs
   have hr2:=Go.Lib.run_append_room_string (P:=P) w t u ty e i ht hu hi hsize g n cap cur hg s hroom (by omega)
   rw[hr] at hr2
   cases hr2
   exact Or.inl hg'
  ·have hxl:xs.length=n:=by simpa using aA.1
   have holds:∀j u,xs[j]? =some u->w.cell? ((⟨g,0,none⟩:Addr).add j)=some u:=aA.cells (g:=g) rfl
   have hr2:=Go.Lib.run_append_grow_string (P:=P) w t u ty e i (.int .u8 0) ht hu hi hz ⟨g,0,none⟩ n cap xs (by rw[hsize];simpa using hxl) holds s (by omega) (by simp only[maxLen] at h63;omega) (by rw[dS];exact growslice_fits (by omega) (by omega))
   rw[hr] at hr2
   cases hr2
   simp only[Value.ownBlock,X2] at hg'
   right;omega
theorem Uw{ops:Array Oper}{rest:List Oper}{o:Oper}{a:Act}{Q:Exit->Act->World->Prop}(hgd:o.guard=none)(sl x:Operand)(t u:TypeId)(ho:o.op= .call {callee:= .builtin .append,args:=#[sl,x],argTypes:=#[t,u]})(base:Nat)(e:TypeId)(i:TypeInfo)(ht:P.underlying t=some (.slice e))(hu:P.underlying u=some .string)(hi:P.info? e=some i)(hz:i.zero=some (.int .u8 0))(hsize:i.size=1)(dS:i.bytes=1)(v:Value)(n:Nat)(xs:List Value)(hs:a.eval sl=v)(aA:w.ownsRow base e 1 v n xs)(s:ByteArray)(hx:a.eval x= .string s)(h63:n+s.size<=maxLen)(hbytes:n+s.size<=140737488355328)(hbase:base<=w.heap.size)(h:∀v' w',w'.ownsRow base e 1 v' (n+s.size) (xs++strCells s)->bw w w' v v'->wpList P ops Q rest (a.put o.dst v') w'):wpList P ops Q (o::rest) a w:=by
 refine wpList_plain hgd λK hK=>?_
 obtain⟨v',w',hr,h2,h3⟩:=Sk (P:=P) w base t u o.type e i ht hu hi hz hsize dS v n xs aA s h63 hbytes hbase
 unfold Oper.wp execOp
 simp only[ho,resolve,invoke,builtin,YC,Zs,YU,List.map_toArray,YI,List.map_nil,hs,hx,hr]
 exact hK _ _ (h v' w' h2 h3)
theorem j6{ops:Array Oper}{rest:List Oper}{o:Oper}{a:Act}{Q:Exit->Act->World->Prop}(hgd:o.guard=none)(s x:Operand)(t:TypeId)(ho:o.op= .call {callee:= .builtin .append,args:=#[s,x],argTypes:=#[t,t]})(base:Nat)(e:TypeId)(i:TypeInfo)(z:Value)(size bytes:Nat)(ht:P.underlying t=some (.slice e))(hi:P.info? e=some i)(hz:i.zero=some z)(hsize:i.size=size)(dS:i.bytes=bytes)(hzs:z.cells.size=size)(hsz:0< size)(v:Value)(n:Nat)(xs:List Value)(hs:a.eval s=v)(aA:w.ownsRow base e size v n xs)(ad:Addr)(m c:Nat)(news:List Value)(hx:a.eval x= .slice (some ad) m c)(hl:news.length=m*size)(hnews:∀j u,news[j]? =some u->w.cell? (ad.add j)=some u)(h1:∀u∈news,u.oneCell'=true)(hm:0< m)(h63:n+m<=maxLen)(hbytes:(n+m)*bytes<=140737488355328)(hbase:base<=w.heap.size)(h:∀g cap w',w'.ownsRow base e size (.slice (some ⟨g,0,none⟩) (n+m) cap) (n+m) (xs++news)->bw w w' v (.slice (some ⟨g,0,none⟩) (n+m) cap)->wpList P ops Q rest (a.put o.dst (.slice (some ⟨g,0,none⟩) (n+m) cap)) w'):wpList P ops Q (o::rest) a w:=
 Zq w hgd s x t ho base e i z size bytes ht hi hz hsize dS hzs hsz v n xs hs aA ad m c news hx hl hnews h1 hm h63 hbytes hbase _ rfl λg cap w' h2 h3 h4 _=>
  h g cap w' h2 ⟨h3,λg' hg'=>by
   simp only[Value.ownBlock,X2] at hg'
   subst hg'
   rcases h4 with h4|h4
   ·exact Or.inl h4
   ·exact Or.inr (by omega)⟩
end
end
section
open Go.Lib (strCells strCells_length strCells_oneCell)
theorem aa.pd:(aa.prog.info? 5).map (λi=>(i.zero,i.size,i.bytes))=some (some (.int .u8 0),1,1):=by kernel_rfl
def aO(w:World)(B:Nat)(v:Value)(s:ByteArray):Prop:=w.ownsRow B 5 1 v s.size (strCells s)
def byteOf(z:Int):UInt8:=UInt8.ofNat (z % 256).toNat
theorem qW(z:Int):((byteOf z).toNat:Int)=z % 256:=by
 have h1:=ZZ z (show (256:Int)≠0 by decide)
 have h2:=aae z (show (0:Int)< 256 by decide)
 simp only[byteOf,UInt8.toNat_ofNat']
 omega
def cy(n:Int):ByteArray:=⟨#[byteOf (n / 16777216),byteOf (n / 65536),byteOf (n / 256),byteOf n]⟩
def al(n:Int):ByteArray:=⟨#[byteOf n]⟩
theorem jR(n:Int):(cy n).size=4:=rfl
theorem cS(n:Int):(al n).size=1:=rfl
theorem ot(a b:ByteArray):strCells (a++b)=strCells a++strCells b:=by
 simp[strCells,ByteArray.data_append]
theorem aO.of{w:World}{B n:Nat}{v:Value}{s t:ByteArray}{xs:List Value}(h:w.ownsRow B 5 1 v (s.size+n) (strCells s++xs))(hn:n=t.size)(hx:xs=strCells t):aO w B v (s++t):=by
 subst hn hx
 unfold aO
 rw[ot,No]
 exact h
theorem aO.nil(w:World)(B:Nat):aO w B (.slice none 0 0) ByteArray.empty:=Y6 _ _ _ _
theorem aO.below{w w':World}{B:Nat}{v:Value}{s:ByteArray}(h:aO w B v s)(hb:Below w.heap.size w w'):aO w' B v s:=dp h hb (AI _)
theorem aO.alloc{w:World}{B:Nat}{v:Value}{s:ByteArray}(h:aO w B v s)(o:Obj):aO (w.alloc o) B v s:=Yc h o
theorem aO.len{w:World}{B:Nat}{v:Value}{s:ByteArray}(h:aO w B v s): ∃ad cap,v= .slice ad s.size cap/\cap<=maxLen/\s.size<=cap:=by
 rcases h.2 with ⟨h1,h2⟩|⟨g,cap,cur,hv,_,_,h4,h3,_⟩
 ·exact⟨_,_,by rw[h1,h2],by simp,by omega⟩
 ·exact⟨_,_,hv,h3,h4⟩
theorem RB(n:Int):strCells (cy n)= [.int .u8 (n / 16777216 % 256),.int .u8 (n / 65536 % 256),.int .u8 (n / 256 % 256),.int .u8 (n % 256)]:=by
 simp[strCells,cy,qW]
theorem jW(n:Int):strCells (al n)= [.int .u8 (n % 256)]:=by
 simp[strCells,al,qW]
theorem tX(B:Nat)(v:Value)(s:ByteArray)(n:Int)(w:World)(h:aO w B v s)(hB:B<=w.heap.size)(hlen:s.size+4<=140737488355328):
  Calls aa.prog 94 #[v,.int .i64 n] w λe w'=>∃v',e= .returned v'/\aO w' B v' (s++cy n)/\bw w w' v v':=by
 obtain⟨i0,hi0,hz0,hz1,hz2⟩:=Yk aa.pd
 have H:Hid (aO w B v s):=h
 clear h
 go_enter aa.func94,aa.ntmps94
 go_wp2_with (at_builtin;refine j6 _ rfl _ _ _ rfl B 5 i0 _ 1 1 aa.underlying48 hi0 hz0 hz1 hz2 rfl (by omega) v _ _ rfl (Yc H.out _) ⟨w.heap.size,0,none⟩ 4 4 _ rfl (by rfl) (Yo (IS w _)) (by simp[Value.oneCell']) (by omega) (by unfold maxLen;omega) (by omega) (by simp;omega) ?_;intro g capn w1 aA hgr)
 go_ret
 refine⟨_,rfl,aO.of aA rfl ?_,(((bw.refl w v).alloc _).trans hgr)⟩
 rw[RB]
theorem Ar(B:Nat)(v:Value)(s t:ByteArray)(w:World)(h:aO w B v s)(hB:B<=w.heap.size)(hlen:s.size+1+t.size<=140737488355328):
  Calls aa.prog 93 #[v,.string t] w λe w'=>∃v',e= .returned v'/\aO w' B v' (s++(al t.size++t))/\bw w w' v v':=by
 obtain⟨i0,hi0,hz0,hz1,hz2⟩:=Yk aa.pd
 have H:Hid (aO w B v s):=h
 clear h
 go_enter aa.func93,aa.ntmps93
 go_wp2_with (first
  |(at_builtin;refine j6 _ rfl _ _ _ rfl B 5 i0 _ 1 1 aa.underlying48 hi0 hz0 hz1 hz2 rfl (by omega) v _ _ rfl (Yc H.out _) ⟨w.heap.size,0,none⟩ 1 1 _ rfl (by rfl) (Yo (IS w _)) (by simp[Value.oneCell']) (by omega) (by unfold maxLen;omega) (by omega) (by simp;omega) ?_;intro g capn w1 aA hgr;have HO:Hid _:=aA;have HG:Hid _:=hgr;clear aA hgr)
  |(at_builtin;refine Uw _ rfl _ _ _ _ rfl B 5 i0 aa.underlying48 aa.underlying9 hi0 hz0 hz1 hz2 _ _ _ rfl HO.out t rfl (by unfold maxLen;omega) (by omega) (by have:=HG.out.grown.size;simp at this;omega) ?_;intro v2 w2 hown2 hgr2))
 go_ret
 refine⟨_,rfl,?_,(((bw.refl w v).alloc _).trans HG.out).trans hgr2⟩
 rw[Zg,Nat.add_assoc] at hown2
 refine aO.of hown2 (by rw[No,cS]) ?_
 rw[ot,jW]
def iS(d:Int):Nat->ByteArray
 |0=>ByteArray.empty
 |k+1=>iS d k++al (d / 2 ^ (56 - 8*k))
def fG(d:Int):ByteArray:=iS d 8
theorem sY(d:Int):∀k,(iS d k).size=k
 |0=>rfl
 |k+1=>by rw[iS,No,sY d k,cS]
theorem gI(s:ByteArray):s++ByteArray.empty=s:=by
 apply ZT;simp
theorem iY(s:ByteArray):ByteArray.empty++s=s:=by
 apply ZT;simp
theorem cq(a b c:ByteArray):a++b++c=a++(b++c):=by
 apply ZT;simp[ByteArray.data_append]
theorem yG(B:Nat)(v:Value)(s:ByteArray)(d:Int)(w:World)(h:aO w B v s)(hB:B<=w.heap.size)(hlen:s.size+8<=140737488355328):
  Calls aa.prog 50 #[v,.int .u64 d] w λe w'=>∃v',e= .returned v'/\aO w' B v' (s++fG d)/\bw w w' v v':=by
 obtain⟨i0,hi0,hz0,hz1,hz2⟩:=Yk aa.pd
 have H:Hid (aO w B v s):=h
 clear h
 go_enter aa.func50,aa.ntmps50
 go_wp2
 go_loopw [0,5] (λo i wr=>∃k:Nat,k<=8/\i= .int .i64 (56 - 8*(k:Int))/\Hid (aO wr B o (s++iS d k))/\Hid (bw w wr v o)) (λ_ i _=>((intOf i)+8).toNat)
 case atStart=>exact⟨0,by omega,rfl,by show aO _ _ _ _;rw[iS,gI];exact H.out,bw.refl w v⟩
 case round=>
  obtain⟨k,hk,rfl,hrow,hgr⟩:=hrel
  by_cases hlt:k< 8
  ·have g1:(0:Int)<=56 - 8*(k:Int):=by omega
   have g2:56 - 8*(k:Int)<=64:=by omega
   have hsz:B<=wr.heap.size:=by have:=hgr.out.grown.size;omega
   have hl2:(s++iS d k).size+1<=140737488355328:=by rw[No,sY];omega
   have HN:Hid ((56 - 8*(k:Int)).toNat=56 - 8*k):=(show (56 - 8*(k:Int)).toNat=56 - 8*k by omega)
   have HR:Hid (aO wr B u0 (s++iS d k)):=hrow.out
   have HG:Hid (bw w wr v u0):=hgr.out
   clear hrow hgr
   generalize hst:s++iS d k=st at*
   have HST:Hid (st=s++iS d k):=hst.symm
   clear hst
   go_wp2_with (at_builtin;refine j6 _ rfl _ _ _ rfl B 5 i0 _ 1 1 aa.underlying48 hi0 hz0 hz1 hz2 rfl (by omega) u0 _ _ rfl (Yc HR.out _) ⟨wr.heap.size,0,none⟩ 1 1 _ rfl (by rfl) (Yo (IS wr _)) (by simp[Value.oneCell']) (by omega) (by unfold maxLen;omega) (by omega) (by simp;omega) ?_;intro g capn w1 aA hgr1)
   refine⟨⟨k+1,by omega,by go_num,?_,(HG.out.alloc _).trans hgr1⟩,by simp[intOf];omega⟩
   show aO _ _ _ _
   rw[iS,←cq,←HST.out]
   refine aO.of aA rfl ?_
   rw[jW,←HN.out]
  ·obtain rfl:k=8:=by omega
   have HR:Hid (aO wr B u0 (s++iS d 8)):=hrow.out
   have HG:Hid (bw w wr v u0):=hgr.out
   clear hrow hgr
   go_wp2
   go_ret
   exact⟨_,rfl,HR.out,HG.out⟩
end
section
open Go.Lib (strCells strCells_length strCells_oneCell)
def ed(t:ByteArray):ByteArray:=al t.size++t
def jz(c:Ctx):Nat->ByteArray
 |0=>ByteArray.empty
 |k+1=>jz c k++cy (c k)
def lj(c:Ctx):ByteArray:=jz c 4
def gD(v:aj):ByteArray:=al v.rep++(cy v.n++ed v.val)
def de(l:List aj):ByteArray:=l.foldl (λs v=>s++gD v) ByteArray.empty
def dn(key:ByteArray)(c:Ctx)(l:List aj):ByteArray:=ed key++(lj c++(cy l.length++de l))
theorem uP(t:ByteArray):(ed t).size=1+t.size:=by rw[ed,No,cS]
theorem uf(c:Ctx):∀k,(jz c k).size=4*k
 |0=>rfl
 |k+1=>by rw[jz,No,uf c k,jR];omega
theorem Eb(v:aj):(gD v).size=6+v.val.size:=by
 rw[gD,No,No,cS,jR,uP];omega
theorem Vh(l:List aj)(v:aj):de (l++ [v])=de l++gD v:=by
 simp[de,aac]
theorem zG{l:List aj}{k:Nat}(h:k< l.length):de (l.take (k+1))=de (l.take k)++gD l[k]:=by
 rw[Yu h,Vh]
theorem Lf(l:List aj):∀k,(de (l.take k)).size<=(de l).size:=λk=>by
 have key:∀(m:List aj) (s:ByteArray),s.size<=(m.foldl (λs v=>s++gD v) s).size:=λm=>by
  induction m with
  |nil=>intro s;exact AI _
  |cons v m ih=>intro s;refine X0 ?_ (ih (s++gD v));rw[No];omega
 conv=>rhs;rw[←aai k l]
 rw[de,de,aac]
 exact key _ _
theorem CH(key:ByteArray)(c:Ctx)(l:List aj):(dn key c l).size=21+key.size+(de l).size:=by
 simp only[dn,lj,No,uP,uf,jR];omega
def jU(key:ByteArray)(c:Ctx)(sv:Value):List Value:=[.string key,.int .i64 (c 0),.int .i64 (c 1),.int .i64 (c 2),.int .i64 (c 3),sv]
theorem aC.mS{w w':World}{B:Nat}{v v':Value}{s:ByteArray}{sv:Value}{l:List aj}(h:aC w sv l)(hr:aO w B v s)(hg:bw w w' v v'):aC w' sv l:=by
 refine⟨h.1,?_⟩
 rcases h.2 with h2|⟨g,cap,cur,hv,hb,hh,r⟩
 ·exact Or.inl h2
 ·exact Or.inr ⟨g,cap,cur,hv,hb,hg.other hr hh (by decide),r⟩
theorem nf{w:World}{b:Nat}{cs:Array Value}{t:TypeId}{fr:Nat×Nat}(h:w.heap[b]? =some (.cells cs t fr))(o:Nat):w.cell? ⟨b,o,none⟩=cs[o]? :=by
 simp[World.cell?,h]
theorem kF(w:World)(x o:Obj):((w.alloc x).alloc o).heap[w.heap.size+1]? =some o:=by
 have:=IS (w.alloc x) o
 simpa using this
theorem Dl(B:Nat)(v:Value)(s key:ByteArray)(c:Ctx)(sv:Value)(l:List aj)(w:World)(h:aO w B v s)(hB:B<=w.heap.size)(hv:aC w sv l)(hl:l.length<=100000)(hlen:s.size+(dn key c l).size<=140737488355328):
  Calls aa.prog 70 #[.agg (jU key c sv).toArray,v] w λe w'=>∃v',e= .returned v'/\aO w' B v' (s++dn key c l)/\bw w w' v v':=by
 obtain⟨i0,hi0,hz0,hz1,hz2⟩:=Yk aa.pd
 rw[CH] at hlen
 obtain⟨ad,cap,rfl,hcap⟩: ∃ad cap,sv= .slice ad l.length cap/\(cap:Int)<=9223372036854775807:=by
  rcases hv.2 with ⟨h1,h2⟩|⟨g,cap,cur,hv,_,_,_,h3,_⟩
  ·exact⟨_,_,by rw[h1,h2],by simp⟩
  ·exact⟨_,_,hv,by unfold maxLen at h3;omega⟩
 have H:Hid (aO w B v s):=h
 have HV:Hid (aC w (.slice ad l.length cap) l):=hv
 clear h hv
 have hb0:=IS w (.cells #[.string key,.int .i64 (c 0),.int .i64 (c 1),.int .i64 (c 2),.int .i64 (c 3),.slice ad l.length cap] 151)
 have HBx:Hid ((w.alloc (.cells #[.string key,.int .i64 (c 0),.int .i64 (c 1),.int .i64 (c 2),.int .i64 (c 3),.slice ad l.length cap] 151)).heap[w.heap.size]? =some (.cells #[.string key,.int .i64 (c 0),.int .i64 (c 1),.int .i64 (c 2),.int .i64 (c 3),.slice ad l.length cap] 151)):=hb0
 clear hb0
 have HA:Hid (aO (w.alloc (.cells #[.string key,.int .i64 (c 0),.int .i64 (c 1),.int .i64 (c 2),.int .i64 (c 3),.slice ad l.length cap] 151)) B v s):=H.out.alloc _
 have HGA:Hid (bw w (w.alloc (.cells #[.string key,.int .i64 (c 0),.int .i64 (c 1),.int .i64 (c 2),.int .i64 (c 3),.slice ad l.length cap] 151)) v v):=(bw.refl w v).alloc _
 simp only[jU]
 go_enter aa.func70,aa.ntmps70
 go_wp2_with (go_at_call 93;refine (Ar B v s key _ HA.out (by simp;omega) (by omega)).mono ?_;rintro e w1 ⟨v1,rfl,hr1,hg1⟩;have hb1:=hg1.other HA.out HBx.out (by decide);have k1:=nf hb1 1;have k2:=nf hb1 2;have k3:=nf hb1 3;have k4:=nf hb1 4;have HB1:Hid (w1.heap[w.heap.size]? =some (.cells #[.string key,.int .i64 (c 0),.int .i64 (c 1),.int .i64 (c 2),.int .i64 (c 3),.slice ad l.length cap] 151)):=hb1;have HR1:Hid (aO w1 B v1 (s++ed key)):=hr1;have HG1:Hid (bw w w1 v v1):=HGA.out.trans hg1;simp at k1 k2 k3 k4;clear hb1 hr1 hg1)
 have HKs:Hid (w1.cell? ⟨w.heap.size,1,none⟩=some (.int .i64 (c 0))/\w1.cell? ⟨w.heap.size,2,none⟩=some (.int .i64 (c 1))/\w1.cell? ⟨w.heap.size,3,none⟩=some (.int .i64 (c 2))/\w1.cell? ⟨w.heap.size,4,none⟩=some (.int .i64 (c 3))):=⟨k1,k2,k3,k4⟩
 clear k1 k2 k3 k4
 go_loopw [1,16] (λo i wr=>∃k:Nat,k<=4/\i= .int .i64 k/\Hid (aO wr B o (s++ed key++jz c k))/\Hid (bw w wr v o)/\Hid (wr.heap[w.heap.size]? =some (.cells #[.string key,.int .i64 (c 0),.int .i64 (c 1),.int .i64 (c 2),.int .i64 (c 3),.slice ad l.length cap] 151))) (λ_ i _=>4 - (intOf i).toNat)
 case atStart=>exact⟨0,by omega,rfl,by show aO _ _ _ _;rw[jz,gI];exact HR1.out,HG1.out,HB1.out⟩
 case round=>
  obtain⟨k,hk,rfl,hr,hg,hb⟩:=hrel
  have hsz:B<=wr.heap.size:=by have:=hg.out.grown.size;omega
  have HR:Hid (aO wr B u1 (s++ed key++jz c k)):=hr.out
  have HG:Hid (bw w wr v u1):=hg.out
  have HB:Hid (wr.heap[w.heap.size]? =some (.cells #[.string key,.int .i64 (c 0),.int .i64 (c 1),.int .i64 (c 2),.int .i64 (c 3),.slice ad l.length cap] 151)):=hb.out
  clear hr hg hb
  have hls:(s++ed key++jz c k).size+4<=140737488355328:=by rw[No,No,uP,uf];omega
  by_cases hlt:k< 4
  ·have HS:Hid (∀n:Int,n=c k->s++ed key++jz c k++cy n=s++ed key++jz c (k+1)):=λn hn=>by rw[hn,jz,cq]
   generalize hst:s++ed key++jz c k=st at*
   clear hst
   rcases fg hlt with rfl|rfl|rfl|rfl
   all_goals
    have hix:=tP
    go_wp2_with (go_at_call 94;refine (tX B u1 st _ wr HR.out hsz hls).mono ?_;rintro e w2 ⟨v2,rfl,hr2,hg2⟩;have hb2:=hg2.other HR.out HB.out (by decide);have HB2:Hid (w2.heap[w.heap.size]? =some (.cells #[.string key,.int .i64 (c 0),.int .i64 (c 1),.int .i64 (c 2),.int .i64 (c 3),.slice ad l.length cap] 151)):=hb2;have HR2:Hid _:=hr2;have HG2:Hid (bw w w2 v v2):=HG.out.trans hg2;clear hb2 hr2 hg2)
    have hr3:=HR2.out
    rw[HS.out _ rfl] at hr3
    exact⟨⟨_,by omega,by go_num,hr3,HG2.out,HB2.out⟩,by simp[intOf]⟩
  ·obtain rfl:k=4:=by omega
   have HRc:Hid (aO wr B u1 (s++ed key++lj c)):=HR.out
   clear HR
   have hls':(s++ed key++lj c).size+4+(de l).size<=140737488355328:=by rw[No,No,uP,lj,uf];omega
   clear hls
   have k5:=nf HB.out 5
   simp at k5
   have HVr:Hid (aC wr (.slice ad l.length cap) l):=HV.out.mS H.out HG.out
   have HE:Hid (s++ed key++lj c++(cy l.length++de l)=s++dn key c l):=(show s++ed key++lj c++(cy l.length++de l)=s++dn key c l by simp only[dn,cq])
   generalize hst:s++ed key++lj c=st at*
   clear hst
   go_wp2_with (go_at_call 94;refine (tX B u1 st _ wr HRc.out hsz (by omega)).mono ?_;rintro e w2 ⟨v2,rfl,hr2,hg2⟩;have hb2:=hg2.other HRc.out HB.out (by decide);have k6:=nf hb2 5;simp at k6;have HR2:Hid (aO w2 B v2 (st++cy l.length)):=hr2;have HV2:Hid (aC w2 (.slice ad l.length cap) l):=HVr.out.mS HRc.out hg2;have HG2:Hid (bw w w2 v v2):=HG.out.trans hg2;clear hb2 hr2 hg2)
   have HS2:Hid (s++dn key c l=st++cy l.length++de l):=(show s++dn key c l=st++cy l.length++de l by rw[←HE.out,cq])
   clear HE HV HVr HRc HB k5 k6 HG
   have hsz2:B<=w2.heap.size:=by have:=HG2.out.grown.size;omega
   have hl2:(st++cy l.length).size+(de l).size<=140737488355328:=by rw[No,jR];omega
   generalize hsu:st++cy l.length=su at*
   clear hsu
   go_loopw [1,33] (λo i wz=>∃k:Nat,k<=l.length/\i= .int .i64 k/\Hid (aO wz B o (su++de (l.take k)))/\Hid (bw w2 wz v2 o)) (λ_ i _=>l.length - (intOf i).toNat)
   case atStart=>exact⟨0,by omega,rfl,by show aO _ _ _ _;rw[List.take_zero,show de []=ByteArray.empty from rfl,gI];exact HR2.out,bw.refl _ _⟩
   case round=>
    obtain⟨k,hk,rfl,hr,hg⟩:=hrel
    have hsz:B<=wr.heap.size:=by have:=hg.out.grown.size;omega
    have HR:Hid (aO wr B u1 (su++de (l.take k))):=hr.out
    have HG:Hid (bw w2 wr v2 u1):=hg.out
    clear hr hg
    by_cases hlt:k< l.length
    ·have HVz:aC wr (.slice ad l.length cap) l:=HV2.out.mS HR2.out HG.out
     obtain⟨g,cap',hsv',hgl,_,_,c0,c1,c2⟩:=aC.cells HVz hlt
     cases hsv'
     have htk:=Lf l (k+1)
     rw[zG hlt,No,Eb] at htk
     have HT:Hid (su++de (l.take k)++gD l[k]=su++de (l.take (k+1))):=(show su++de (l.take k)++gD l[k]=su++de (l.take (k+1)) by rw[zG hlt,cq])
     have hls:(su++de (l.take k)).size+6+l[k].val.size<=140737488355328:=by rw[No];omega
     clear htk HVz
     have HVe:Hid (gD l[k]=al l[k].rep++(cy l[k].n++ed l[k].val)):=rfl
     generalize su++de (l.take k)=sk at*
     generalize gD l[k]=vb at*
     generalize l[k].rep=r at*
     generalize l[k].n=n at*
     generalize l[k].val=val at*
     have g63:(k:Int)< (l.length:Int):=by omega
     have k0:(0:Int)<=(k:Int):=by omega
     have HRa:Hid (aO (wr.alloc (.cells #[.int .i64 r,.int .i64 n,.string val] 144)) B u1 sk):=HR.out.alloc _
     have HBa:Hid ((wr.alloc (.cells #[.int .i64 r,.int .i64 n,.string val] 144)).heap[wr.heap.size]? =some (.cells #[.int .i64 r,.int .i64 n,.string val] 144)):=IS wr _
     go_wp2_with (first
      |(at_builtin;refine j6 _ rfl _ _ _ rfl B 5 i0 _ 1 1 aa.underlying48 hi0 hz0 hz1 hz2 rfl (by omega) u1 _ _ rfl (Yc HRa.out _) ⟨wr.heap.size+1,0,none⟩ 1 1 _ rfl (by rfl) (Yo (kF wr _ _)) (by simp[Value.oneCell']) (by omega) (by unfold maxLen;omega) (by omega) (by simp;omega) ?_;intro g3 cap3 w3 hown3 hgr3;have HR3:Hid (aO w3 B _ (sk++al r)):=aO.of hown3 rfl (jW r).symm;have HG3:Hid (bw wr w3 u1 _):=(((bw.refl wr u1).alloc _).alloc _).trans hgr3;have hb3:=hgr3.other (Yc HRa.out _) ((OF _ _ _ (by simp)).trans HBa.out) (by decide);have k7:=nf hb3 1;simp at k7;have hsz3:B<=w3.heap.size:=X0 hsz HG3.out.grown.size;have HB3:Hid (w3.heap[wr.heap.size]? =some (.cells #[.int .i64 r,.int .i64 n,.string val] 144)):=hb3;clear hown3 hgr3 hb3)
      |(go_at_call 94;refine (tX B _ _ _ w3 HR3.out hsz3 (by rw[No,cS];omega)).mono ?_;rintro e w4 ⟨v4,rfl,hr4,hg4⟩;have hb4:=hg4.other HR3.out HB3.out (by decide);have k8:=nf hb4 2;simp at k8;have HR4:Hid (aO w4 B v4 (sk++al r++cy n)):=hr4;have HG4:Hid (bw wr w4 u1 v4):=HG3.out.trans hg4;have hsz4:B<=w4.heap.size:=X0 hsz HG4.out.grown.size;clear hr4 hg4 hb4)
      |(go_at_call 93;refine (Ar B _ _ _ w4 HR4.out hsz4 (by rw[No,No,cS,jR];omega)).mono ?_;rintro e w5 ⟨v5,rfl,hr5,hg5⟩;have HR5:Hid (aO w5 B v5 (sk++al r++cy n++ed val)):=hr5;have HG5:Hid (bw wr w5 u1 v5):=HG4.out.trans hg5;clear hr5 hg5))
     refine⟨⟨k+1,by omega,by go_num,?_,HG.out.trans HG5.out⟩,by simp[intOf];omega⟩
     show aO _ _ _ _
     rw[←HT.out,HVe.out,←cq,←cq]
     exact HR5.out
    ·obtain rfl:k=l.length:=by omega
     have HRe:Hid (aO wr B u1 (s++dn key c l)):=(by have:=HR.out;rw[YD,←HS2.out] at this;exact this)
     go_wp2
     go_ret
     exact⟨_,rfl,HRe.out,HG2.out.trans HG.out⟩
end
def bl(w:World)(b:Nat)(s:ByteArray):Prop:=w.heap[b]? =some (.cells #[.string s,.bool false] 158)/\s.size<=140737488355328
theorem rV(b:Nat)(w:World):
  Calls aa.prog 57 #[.pointer (some ⟨b,0,none⟩),.bool true] w λe w'=>e= .returned (.tuple #[])/\w'=w:=by
 go_enter aa.func57,aa.ntmps57
 go_wp2
 go_end0
 exact⟨rfl,rfl⟩
theorem BI(b k:Nat)(T:ByteArray)(w:World)(h:bl w b T)(hk:k<=T.size):
  Calls aa.prog 98 #[.pointer (some ⟨b,0,none⟩),.int .i64 k] w λe w'=>e= .returned (.string (T.extract 0 k))/\w'=w.setCell ⟨b,0,none⟩ (.string (T.extract k T.size)):=by
 obtain⟨hb,hl⟩:=h
 obtain⟨c,f⟩:=au hb
 have hle:(k:Int)<=(T.size:Int):=by omega
 have hk0:(0:Int)<=(k:Int):=by omega
 have HM:Hid _:=rV b
 clear hb
 go_enter aa.func98,aa.ntmps98
 go_wp2_with (go_at_call 57;refine (HM.out _).mono ?_;rintro e w' ⟨rfl,rfl⟩)
 go_ret
 exact⟨rfl,rfl⟩
def fq(p:ByteArray):Nat->Int
 |0=>0
 |k+1=>fq p k*256+kW p k
def be(p:ByteArray):Int:=fq p p.size
theorem N7(n:Int)(h₀:0<=n)(h₁:n< 2 ^ 64):IntKind.u64.wrap n=n:=by rw[IntKind.wrap_u64];omega
theorem IY(x y:Int)(h0:0<=x)(h1:x< 72057594037927936)(h2:0<=y)(h3:y< 256):bits .or .u64 (x*256) y=x*256+y:=
 bits_join .u64 64 (by decide) N7 8 _ y (by omega) (by omega) (by omega) h2 h3 (by omega)
theorem Un(p:ByteArray)(k:Nat):0<=kW p k/\kW p k< 256:=by
 unfold kW
 split
 ·rename_i h
  have:=p[k].toNat_lt
  omega
 ·omega
theorem CJ(p:ByteArray):∀k,0<=fq p k/\fq p k< 256 ^ k
 |0=>by simp[fq]
 |k+1=>by
  have h1:=CJ p k
  have h2:=Un p k
  simp only[fq,Int.pow_succ]
  omega
theorem WK(p:ByteArray){k:Nat}(hk:k< 8):0<=fq p k/\fq p k< 72057594037927936:=by
 have h:=CJ p k
 have:(256:Int) ^ k<=256 ^ 7:=by
  have:=Nat.pow_le_pow_right (show 0< 256 by decide) (show k<=7 by omega)
  exact_mod_cast this
 have:(256:Int) ^ 7=72057594037927936:=by decide
 omega
theorem Gl(b k:Nat)(T:ByteArray)(w:World)(h:bl w b T)(hk:k<=T.size)(hk8:k<=8):
  Calls aa.prog 73 #[.pointer (some ⟨b,0,none⟩),.int .i64 k] w λe w'=>e= .returned (.int .u64 (be (T.extract 0 k)))/\w'=w.setCell ⟨b,0,none⟩ (.string (T.extract k T.size)):=by
 have HT:Hid (Calls aa.prog 98 #[.pointer (some ⟨b,0,none⟩),.int .i64 k] w λe w'=>e= .returned (.string (T.extract 0 k))/\w'=w.setCell ⟨b,0,none⟩ (.string (T.extract k T.size))):=BI b k T w h hk
 have hp:(T.extract 0 k).size=k:=by rw[ByteArray.size_extract];omega
 generalize T.extract 0 k=p at*
 generalize T.extract k T.size=T' at*
 clear h hk
 go_enter aa.func73,aa.ntmps73
 go_wp2_with (go_at_call 98;refine HT.out.mono ?_;rintro e w' ⟨rfl,rfl⟩)
 go_loop [5,13] (λd i=>∃j:Nat,j<=k/\i= .int .i64 j/\d= .int .u64 (fq p j)) (λ_ i=>k - (intOf i).toNat)
 case atStart=>exact⟨0,by omega,rfl,rfl⟩
 case round=>
  obtain⟨j,hj,rfl,rfl⟩:=hrel
  by_cases hlt:j< k
  ·have g1:(j:Int)< (k:Int):=by omega
   have hlp:j< p.size:=by omega
   have hst:Hid (fq p (j+1)=fq p j*256+(p[j].toNat:Int)):=by
    show fq p (j+1)=_
    rw[fq,xw p j hlp]
   have g0:(0:Int)<=(j:Int):=by omega
   have hb:=WK p (show j< 8 by omega)
   go_wp2
   refine⟨⟨j+1,by omega,by go_num,?_⟩,by simp[intOf];omega⟩
   have h2:=p[j].toNat_lt
   rw[hst.out,xF,IY _ _ hb.1 hb.2 (by omega) (by omega)]
  ·have hke:j=k:=by omega
   subst hke
   have hbe:fq p j=be p:=by rw[be,hp]
   rw[hbe]
   go_wp2
   go_ret
   exact⟨rfl,rfl⟩
def Rd(w w':World)(b:Nat)(s:ByteArray):Prop:=bl w' b s/\Fr (λk=>k=b) w w'
theorem Rd.trans{w w1 w2:World}{b:Nat}{s t:ByteArray}(h:Rd w w1 b s)(h':Rd w1 w2 b t):Rd w w2 b t:=⟨h'.1,h.2.trans h'.2⟩
theorem bl.lt{w:World}{b:Nat}{s:ByteArray}(h:bl w b s):b< w.heap.size:=(IN.1 h.1).1
theorem bl.below{w w1:World}{b:Nat}{s:ByteArray}(h:bl w b s)(hb:Below w.heap.size w w1):bl w1 b s:=⟨by rw[hb.block _ h.lt];exact h.1,h.2⟩
theorem Rd.below{w w1 w2:World}{b:Nat}{s:ByteArray}(h:Rd w w1 b s)(hb:Below w1.heap.size w1 w2):Rd w w2 b s:=⟨h.1.below hb,h.2.below hb⟩
theorem Rd.of{w:World}{b:Nat}{p s:ByteArray}(h:bl w b (p++s)):Rd w (w.setCell ⟨b,0,none⟩ (.string s)) b s:=by
 refine⟨⟨?_,?_⟩,(Fr.refl (λk=>k=b) w).setCell (.inr rfl) _⟩
 ·have:=heap_set (w:=w) (o:=0) (v:= .string s) h.1
  simpa using this
 ·have:=h.2;rw[No] at this;omega
theorem Cc(p s:ByteArray):(p++s).extract 0 p.size=p:=ByteArray.extract_append_eq_left rfl
theorem Fe(p s:ByteArray):(p++s).extract p.size (p++s).size=s:=ByteArray.extract_append_eq_right rfl (by simp)
theorem NP(b:Nat)(p s:ByteArray)(w:World)(h:bl w b (p++s)):
  Calls aa.prog 98 #[.pointer (some ⟨b,0,none⟩),.int .i64 p.size] w λe w'=>e= .returned (.string p)/\Rd w w' b s:=by
 refine (BI b p.size _ w h (by simp)).mono ?_
 rintro e w' ⟨rfl,rfl⟩
 rw[Cc,Fe]
 exact⟨rfl,Rd.of h⟩
theorem wV(b:Nat)(p s:ByteArray)(w:World)(h:bl w b (p++s))(hp:p.size<=8):
  Calls aa.prog 73 #[.pointer (some ⟨b,0,none⟩),.int .i64 p.size] w λe w'=>e= .returned (.int .u64 (be p))/\Rd w w' b s:=by
 refine (Gl b p.size _ w h (by simp) hp).mono ?_
 rintro e w' ⟨rfl,rfl⟩
 rw[Cc,Fe]
 exact⟨rfl,Rd.of h⟩
theorem E6(n:Int):be (al n)=n % 256:=by
 simp[be,al,fq,kW,qW,show (ByteArray.mk #[byteOf n]).size=1 from rfl,aam]
theorem BO(p q:ByteArray):∀k,k<=p.size->fq (p++q) k=fq p k
 |0,_=>rfl
 |k+1,h=>by
  rw[fq,fq,BO p q k (by omega)]
  congr 1
  unfold kW
  rw[dif_pos (show k< p.size by omega),dif_pos (show k< (p++q).size by rw[No];omega),ByteArray.getElem_append_left (by omega)]
theorem tZ(p:ByteArray)(n:Int):be (p++al n)=be p*256+n % 256:=by
 rw[be,No,cS,fq,BO p _ _ (AI _),be]
 congr 1
 unfold kW
 rw[dif_pos (by rw[No,cS];omega),ByteArray.getElem_append_right (AI _),←qW]
 congr 2
 simp[al,aam]
theorem Qe(n:Int)(h0:0<=n)(h1:n< 4294967296):be (cy n)=n:=by
 have e:cy n=((al (n / 16777216)++al (n / 65536))++al (n / 256))++al n:=rfl
 rw[e,tZ,tZ,tZ,E6]
 omega
theorem ub(d:Int):(fG d).size=8:=sY d 8
theorem Cl(d:Int)(h0:0<=d)(h1:d< 18446744073709551616):∀k,k<=8->be (iS d k)=d / 2 ^ (64 - 8*k)
 |0,_=>by
  show (0:Int)=_
  rw[Int.ediv_eq_zero_of_lt h0 (by simpa using h1)]
 |k+1,hk=>by
  rw[iS,tZ,Cl d h0 h1 k (by omega),show 64 - 8*(k+1)=56 - 8*k by omega,show 64 - 8*k=(56 - 8*k)+8 by omega,Int.pow_add,←Int.ediv_ediv_of_nonneg (by exact_mod_cast Y2 _)]
  omega
theorem Js(d:Int)(h0:0<=d)(h1:d< 18446744073709551616):be (fG d)=d:=by
 rw[fG,Cl d h0 h1 8 (by omega)]
 simp
theorem kA(b:Nat)(n:Int)(s:ByteArray)(w:World)(h:bl w b (al n++s))(h0:0<=n)(h1:n< 256):
  Calls aa.prog 53 #[.pointer (some ⟨b,0,none⟩)] w λe w'=>e= .returned (.int .i64 n)/\Rd w w' b s:=by
 have HT:Hid (Calls aa.prog 73 #[.pointer (some ⟨b,0,none⟩),.int .i64 1] w λe w'=>e= .returned (.int .u64 n)/\Rd w w' b s):=by
  have:=wV b (al n) s w h (by rw[cS];omega)
  rw[E6,ZS h0 h1] at this
  exact this
 have hi:n<=9223372036854775807:=by omega
 go_enter aa.func53,aa.ntmps53
 go_wp2_with (go_at_call 73;refine HT.out.mono ?_;rintro e w' ⟨rfl,hr⟩)
 go_ret
 exact⟨rfl,hr⟩
theorem sS(b:Nat)(n:Int)(s:ByteArray)(w:World)(h:bl w b (cy n++s))(h0:0<=n)(h1:n< 4294967296):
  Calls aa.prog 100 #[.pointer (some ⟨b,0,none⟩)] w λe w'=>e= .returned (.int .i64 n)/\Rd w w' b s:=by
 have HT:Hid (Calls aa.prog 73 #[.pointer (some ⟨b,0,none⟩),.int .i64 4] w λe w'=>e= .returned (.int .u64 n)/\Rd w w' b s):=by
  have:=wV b (cy n) s w h (by rw[jR];omega)
  rw[Qe n h0 h1] at this
  exact this
 have hi:n<=9223372036854775807:=by omega
 go_enter aa.func100,aa.ntmps100
 go_wp2_with (go_at_call 73;refine HT.out.mono ?_;rintro e w' ⟨rfl,hr⟩)
 go_ret
 exact⟨rfl,hr⟩
theorem CS(b:Nat)(d:Int)(s:ByteArray)(w:World)(h:bl w b (fG d++s))(h0:0<=d)(h1:d< 18446744073709551616):
  Calls aa.prog 54 #[.pointer (some ⟨b,0,none⟩)] w λe w'=>e= .returned (.int .u64 d)/\Rd w w' b s:=by
 have HT:Hid (Calls aa.prog 73 #[.pointer (some ⟨b,0,none⟩),.int .i64 8] w λe w'=>e= .returned (.int .u64 d)/\Rd w w' b s):=by
  have:=wV b (fG d) s w h (by rw[ub];omega)
  rw[Js d h0 h1,ub] at this
  exact this
 go_enter aa.func54,aa.ntmps54
 go_wp2_with (go_at_call 73;refine HT.out.mono ?_;rintro e w' ⟨rfl,hr⟩)
 go_ret
 exact⟨rfl,hr⟩
theorem BJ(b:Nat)(t s:ByteArray)(w:World)(h:bl w b (ed t++s))(h1:t.size< 256):
  Calls aa.prog 138 #[.pointer (some ⟨b,0,none⟩)] w λe w'=>e= .returned (.string t)/\Rd w w' b s:=by
 rw[ed,ByteArray.append_assoc] at h
 have HB:Hid (Calls aa.prog 53 #[.pointer (some ⟨b,0,none⟩)] w λe w'=>e= .returned (.int .i64 t.size)/\Rd w w' b (t++s)):=kA b t.size (t++s) w h (by omega) (by omega)
 have HT:Hid (∀w1,Rd w w1 b (t++s)->Calls aa.prog 98 #[.pointer (some ⟨b,0,none⟩),.int .i64 t.size] w1 λe w'=>e= .returned (.string t)/\Rd w w' b s):=λw1 h1=>(NP b t s w1 h1.1).mono λe w' ⟨he,hr⟩=>⟨he,h1.trans hr⟩
 have HC:Hid (∀w1,Rd w w1 b s->Calls aa.prog 41 #[.string t] w1 λe w'=>e= .returned (.string t)/\Rd w w' b s):=λw1 h1=>(qG t w1 (by omega)).mono λe w' ⟨he,hr⟩=>⟨he,h1.below hr⟩
 go_enter aa.func138,aa.ntmps138
 go_wp2_with (first
  |(go_at_call 53;refine HB.out.mono ?_;rintro e w1 ⟨rfl,hr1⟩)
  |(go_at_call 98;refine (HT.out _ hr1).mono ?_;rintro e w2 ⟨rfl,hr2⟩)
  |(go_at_call 41;refine (HC.out _ hr2).mono ?_;rintro e w3 ⟨rfl,hr3⟩))
 go_ret
 exact⟨rfl,hr3⟩
section
open Go.Lib (strCells strCells_length strCells_oneCell)
structure Rc where
 key:ByteArray
 c:Ctx
 sv:Value
 l:List aj
def jk(rs:List Rc):List Value:=rs.flatMap λr=>jU r.key r.c r.sv
def cV(rs:List Rc):ByteArray:=rs.foldl (λs r=>s++dn r.key r.c r.l) ByteArray.empty
def dc(w:World)(B:Nat)(rv:Value)(rs:List Rc):Prop:=w.ownsRow B 151 6 rv rs.length (jk rs)
theorem zf(a b:List Rc):jk (a++b)=jk a++jk b:=by simp[jk]
theorem XP(rs:List Rc)(k:Nat)(h:k< rs.length)(j:Nat)(hj:j< 6):(jk rs)[k*6+j]? =(jU rs[k].key rs[k].c rs[k].sv)[j]? :=by
 induction rs generalizing k with
 |nil=>simp at h
 |cons r rs ih=>
  have e:jk (r::rs)=jU r.key r.c r.sv++jk rs:=by simp[jk]
  have el:(jU r.key r.c r.sv).length=6:=rfl
  cases k with
  |zero=>rw[e,YW (by omega)];simp
  |succ k=>
   have h':k< rs.length:=by simpa using h
   rw[e,Yx (by omega),el,show (k+1)*6+j - 6=k*6+j by omega,ih k h']
   rfl
theorem Py(l:List Rc)(r:Rc):cV (l++ [r])=cV l++dn r.key r.c r.l:=by
 simp[cV,aac]
theorem tH{l:List Rc}{k:Nat}(h:k< l.length):cV (l.take (k+1))=cV (l.take k)++dn l[k].key l[k].c l[k].l:=by
 rw[Yu h,Py]
theorem DF(l:List Rc):∀k,(cV (l.take k)).size<=(cV l).size:=λk=>by
 have key:∀(m:List Rc) (s:ByteArray),s.size<=(m.foldl (λs r=>s++dn r.key r.c r.l) s).size:=λm=>by
  induction m with
  |nil=>intro s;exact AI _
  |cons v m ih=>intro s;refine X0 ?_ (ih (s++dn v.key v.c v.l));rw[No];omega
 conv=>rhs;rw[←aai k l]
 rw[cV,cV,aac]
 exact key _ _
theorem dc.cells{w:World}{B:Nat}{rv:Value}{rs:List Rc}(h:dc w B rv rs){k:Nat}(hk:k< rs.length):
  ∃g cap,rv= .slice (some ⟨g,0,none⟩) rs.length cap/\g< w.heap.size/\rs.length<=cap/\cap<=maxLen/\∀j,j< 6->w.cell? ⟨g,k*6+j,none⟩=(jU rs[k].key rs[k].c rs[k].sv)[j]? :=by
 obtain⟨h1,h2⟩:=h
 rcases h2 with ⟨_,h2⟩|⟨g,cap,cur,hv,_,hh,hn,hc,hs,ht⟩
 ·omega
 ·refine⟨g,cap,hv,(IN.1 hh).1,hn,hc,λj hj=>?_⟩
  rw[←XP rs k hk j hj,←ht,YJ,AT (by omega)]
  simp[World.cell?,hh]
theorem dc.len{w:World}{B:Nat}{v:Value}{rs:List Rc}(h:dc w B v rs): ∃ad cap,v= .slice ad rs.length cap/\cap<=maxLen/\rs.length<=cap:=by
 rcases h.2 with ⟨h1,h2⟩|⟨g,cap,cur,hv,_,_,h4,h3,_⟩
 ·exact⟨_,_,by rw[h1,h2],by simp,by omega⟩
 ·exact⟨_,_,hv,h3,h4⟩
theorem pc{w:World}{sv:Value}{l:List aj}(h:aC w sv l): ∃ad cap,sv= .slice ad l.length cap:=by
 rcases h.2 with ⟨h1,h2⟩|⟨g,cap,cur,hv,_⟩
 ·exact⟨_,_,by rw[h1,h2]⟩
 ·exact⟨_,_,hv⟩
theorem Vv(B:Nat)(rv:Value)(rs:List Rc)(w:World)(h:dc w B rv rs)(hv:∀r∈rs,aC w r.sv r.l/\r.l.length<=100000)(hlen:(cV rs).size<=140737488355328):
  Calls aa.prog 48 #[.slice none 0 0,rv] w λe w'=>∃v',e= .returned v'/\aO w' w.heap.size v' (cV rs)/\Below w.heap.size w w':=by
 obtain⟨ad,cap,rfl,hcap,hlc⟩:=h.len
 unfold maxLen at hcap
 have H:Hid (dc w B (.slice ad rs.length cap) rs):=h
 have HV:Hid (∀r∈rs,aC w r.sv r.l/\r.l.length<=100000):=hv
 clear h hv
 go_enter aa.func48,aa.ntmps48
 go_wp2
 go_loopw [0,9] (λo i wr=>∃k:Nat,k<=rs.length/\i= .int .i64 k/\Hid (aO wr w.heap.size o (cV (rs.take k)))/\Hid (Below w.heap.size w wr)) (λ_ i _=>rs.length - (intOf i).toNat)
 case atStart=>exact⟨0,by omega,rfl,aO.nil _ _,By _ _⟩
 case round=>
  obtain⟨k,hk,rfl,hr,hb⟩:=hrel
  have HR:Hid (aO wr w.heap.size u0 (cV (rs.take k))):=hr.out
  have HB:Hid (Below w.heap.size w wr):=hb.out
  have hsz:=hb.out.size
  clear hr hb
  by_cases hlt:k< rs.length
  ·obtain⟨g,cap',hsv',hgl,_,_,cc⟩:=dc.cells H.out hlt
   cases hsv'
   have cw:∀j,j< 6->wr.cell? ⟨g,k*6+j,none⟩=(jU rs[k].key rs[k].c rs[k].sv)[j]? :=λj hj=>(HB.out.cell (p:=⟨g,k*6+j,none⟩) hgl).trans (cc j hj)
   have c0:=cw 0 (by omega)
   have c1:=cw 1 (by omega)
   have c2:=cw 2 (by omega)
   have c3:=cw 3 (by omega)
   have c4:=cw 4 (by omega)
   have c5:=cw 5 (by omega)
   clear cc cw
   simp[jU] at c0 c1 c2 c3 c4 c5
   have hvk:=HV.out rs[k] (X9 hlt)
   have HVk:Hid (∀W,Below w.heap.size w W->aC W rs[k].sv rs[k].l):=λW hW=>dp hvk.1 hW (AI _)
   have hvl:=hvk.2
   obtain⟨adv,capv,hsvv⟩:=pc hvk.1
   clear hvk
   have htk:=DF rs (k+1)
   rw[tH hlt,No] at htk
   have HT:Hid (cV (rs.take k)++dn rs[k].key rs[k].c rs[k].l=cV (rs.take (k+1))):=(tH hlt).symm
   generalize cV (rs.take k)=st at*
   have hst:st.size+(dn rs[k].key rs[k].c rs[k].l).size<=140737488355328:=by omega
   clear htk
   generalize rs[k].key=key at*
   generalize rs[k].c=c at*
   generalize rs[k].sv=sv at*
   generalize rs[k].l=l at*
   subst hsvv
   have g63:(k:Int)< (rs.length:Int):=by omega
   have k0:(0:Int)<=(k:Int):=by omega
   have HBa:Hid (Below w.heap.size w (wr.alloc (.cells #[.string key,.int .i64 (c 0),.int .i64 (c 1),.int .i64 (c 2),.int .i64 (c 3),.slice adv l.length capv] 151))):=HB.out.alloc hsz _
   have HRa:Hid (aO (wr.alloc (.cells #[.string key,.int .i64 (c 0),.int .i64 (c 1),.int .i64 (c 2),.int .i64 (c 3),.slice adv l.length capv] 151)) w.heap.size u0 st):=HR.out.alloc _
   go_wp2_with (go_at_call 70;refine (Dl w.heap.size u0 st key c (.slice adv l.length capv) l (wr.alloc (.cells #[.string key,.int .i64 (c 0),.int .i64 (c 1),.int .i64 (c 2),.int .i64 (c 3),.slice adv l.length capv] 151)) HRa.out (by simp;omega) (HVk.out _ HBa.out) hvl hst).mono ?_;rintro e w1 ⟨v1,rfl,hr1,hg1⟩;have HR1:Hid (aO w1 w.heap.size v1 (st++dn key c l)):=hr1;have HB1:Hid (Below w.heap.size w w1):=hg1.toBelow HBa.out (by simp;omega) HRa.out;clear hr1 hg1)
   refine⟨⟨k+1,by omega,by go_num,?_,HB1.out⟩,by simp[intOf];omega⟩
   show aO _ _ _ _
   rw[←HT.out]
   exact HR1.out
  ·obtain rfl:k=rs.length:=by omega
   have HRe:Hid (aO wr w.heap.size u0 (cV rs)):=(by have:=HR.out;rw[YD] at this;exact this)
   clear HR
   go_wp2
   go_ret
   exact⟨_,rfl,HRe.out,HB.out⟩
end
def Bz(v:aj):Prop:=v.rep< 256/\0<=v.n/\v.n< 4294967296/\v.val.size< 256
theorem Rd.other{w w1:World}{b k:Nat}{s:ByteArray}{o:Obj}(h:Rd w w1 b s)(hk:w.heap[k]? =some o)(hn:k≠b):w1.heap[k]? =some o:=h.2.heap hk hn
theorem Rd.setCell{w w1:World}{b k o:Nat}{s:ByteArray}(h:Rd w w1 b s)(hk:w.heap.size<=k/\k≠b)(v:Value):Rd w (w1.setCell ⟨k,o,none⟩ v) b s:=
 ⟨⟨by rw[Yj _ _ _ _ (Ne.symm hk.2)];exact h.1.1,h.1.2⟩,h.2.setCell (.inl hk.1) v⟩
theorem N0(b:Nat)(v:aj)(s:ByteArray)(w:World)(h:bl w b (gD v++s))(hv:Bz v):
  Calls aa.prog 139 #[.pointer (some ⟨b,0,none⟩)] w λe w'=>e= .returned (.agg #[.int .i64 v.rep,.int .i64 v.n,.string v.val])/\Rd w w' b s:=by
 obtain⟨r,n,t⟩:=v
 obtain⟨h1,h2,h3,h4⟩:=hv
 rw[gD,cq,cq] at h
 simp only[aj.rep,aj.n,aj.val] at*
 have hlt:=h.lt
 have HB:Hid (∀w1,Below w.heap.size w w1->Calls aa.prog 53 #[.pointer (some ⟨b,0,none⟩)] w1 λe w'=>e= .returned (.int .i64 r)/\Rd w1 w' b (cy n++(ed t++s))):=λw1 hb=>kA b r _ w1 (h.below hb) (by omega) (by omega)
 have HN:Hid (∀w1,bl w1 b (cy n++(ed t++s))->Calls aa.prog 100 #[.pointer (some ⟨b,0,none⟩)] w1 λe w'=>e= .returned (.int .i64 n)/\Rd w1 w' b (ed t++s)):=λw1 hb=>sS b n _ w1 hb h2 h3
 have HT:Hid (∀w1,bl w1 b (ed t++s)->Calls aa.prog 138 #[.pointer (some ⟨b,0,none⟩)] w1 λe w'=>e= .returned (.string t)/\Rd w1 w' b s):=λw1 hb=>BJ b t s w1 hb h4
 clear h h1 h2 h3 h4
 go_enter aa.func139,aa.ntmps139
 go_upto_region 2 with (first
  |(go_at_call 53;refine (HB.out _ ((By _ _).alloc (AI _) _)).mono ?_;rintro e w1 ⟨rfl,hr1⟩)
  |(go_at_call 100;refine (HN.out _ hr1.1).mono ?_;rintro e w2 ⟨rfl,hr2⟩))
 have hz:w.heap.size< w1.heap.size:=by have:=hr1.2.size;simp at this;omega
 have hz2:w.heap.size< w2.heap.size:=by have:=hr2.2.size;omega
 have HR0:Hid (bl (w2.alloc (.cells #[.int .i64 r,.int .i64 n] 142)) b (ed t++s)):=hr2.1.below ((By _ _).alloc (AI _) _)
 have HF:Hid (Fr (λk=>k=b) w (w2.alloc (.cells #[.int .i64 r,.int .i64 n] 142))):=((((Fr.refl _ w).alloc _).trans hr1.2).trans hr2.2).alloc _
 have HO:Hid ((w2.alloc (.cells #[.int .i64 r,.int .i64 n] 142)).heap[w.heap.size]? =some (.cells #[.int .i64 0,.int .i64 0,.string ⟨#[]⟩] 144)):=by
  rw[OF _ _ _ hz2]
  exact hr2.other (hr1.other (IS w _) (by omega)) (by omega)
 have HD:Hid ((w2.alloc (.cells #[.int .i64 r,.int .i64 n] 142)).heap[w2.heap.size]? =some (.cells #[.int .i64 r,.int .i64 n] 142)):=IS w2 _
 obtain⟨W0,hW0⟩: ∃W,W=w2.alloc (.cells #[.int .i64 r,.int .i64 n] 142):=⟨_,rfl⟩
 rw[←hW0] at HR0 HF HO HD ⊢
 obtain⟨d0,f0⟩:=au HD.out
 have HT':Hid (∀q,Calls aa.prog 138 #[.pointer (some ⟨b,0,none⟩)] (W0.drewN q) λe w'=>e= .returned (.string t)/\w'.heap[w.heap.size]? =some (.cells #[.int .i64 0,.int .i64 0,.string ⟨#[]⟩] 144)/\w'.heap[w2.heap.size]? =some (.cells #[.int .i64 r,.int .i64 n] 142)/\Rd w w' b s):=λq=>by
  have hb:Below W0.heap.size W0 (W0.drewN q):=Zr (By _ _) q
  refine (HT.out _ (HR0.out.below hb)).mono ?_
  rintro e w3 ⟨rfl,hr3⟩
  exact⟨rfl,hr3.other HO.out (by omega),hr3.other HD.out (by omega),hr3.1,(HF.out.below hb).trans hr3.2⟩
 clear hW0 hr1 hr2 HB HN HT HR0 HF HO HD
 go_region_with (first|(go_at_call 138;refine BY (HT'.out 1) ?_;rintro e w3 ⟨rfl,hv3,hd3,hr3⟩;obtain⟨cv,fv⟩:=au hv3;obtain⟨cd,fd⟩:=au hd3;have HV3:Hid (w3.heap[w.heap.size]? =some (.cells #[.int .i64 0,.int .i64 0,.string ⟨#[]⟩] 144)):=hv3;have HR3:Hid (Rd w w3 b s):=hr3;clear hv3 hd3 hr3))
 all_goals
  go_wp2
  refine YB (v:= .agg #[.int .i64 r,.int .i64 n,.string t]) ?_ rfl ⟨rfl,?_⟩
  ·simp[results,aa.results139,go_sem,cv]
  ·exact ((HR3.out.setCell (by omega) _).setCell (by omega) _).setCell (by omega) _
end Go.Proofs.YtldmcdeibiclkaaGreatDoorQ
namespace Go.Proofs
section
open Go.Shelf
def aa.Ep:Go.Shelf.Ren:=⟨fun|7=>72|10=>97|n=>n,fun|23=>98|26=>9|3=>106|28=>155|0=>0|27=>154|33=>103|4=>4|n=>n,fun|n=>n⟩
theorem aa.ET:Go.Proofs.SlLaysZ.n7 aa.prog aa.Ep:={
 mixed:=by kernel_rfl
 f7:=⟨aa.f72.name,by decide,aa.func72.trans (congrArg some (by kernel_rfl))⟩
 f10:=⟨aa.f97.name,by decide,aa.func97.trans (congrArg some (by kernel_rfl))⟩
 t0:=aa.underlying0
 a0:=aa.isAgg0
 z0:=aa.sizeOf0
 v0:=aa.zeroValue0
 t4:=aa.underlying4
 a4:=aa.isAgg4
 z4:=aa.sizeOf4
 v4:=aa.zeroValue4
 t23:=aa.underlying98
 a23:=aa.isAgg98
 z23:=aa.sizeOf98
 v23:=aa.zeroValue98
 t26:=aa.underlying9
 a26:=aa.isAgg9
 z26:=aa.sizeOf9
 v26:=aa.zeroValue9
 t27:=aa.underlying154
 a27:=aa.isAgg154
 z27:=aa.sizeOf154
 v27:=aa.zeroValue154
 t28:=aa.underlying155
 a28:=aa.isAgg155
 z28:=aa.sizeOf155
 v28:=aa.zeroValue155
 t33:=aa.underlying103
 a33:=aa.isAgg103
 z33:=aa.sizeOf103
 v33:=aa.zeroValue103}
def aa.CN:Go.Shelf.Ren:=⟨fun|6=>71|8=>95|9=>96|11=>136|13=>85|12=>137|23=>115|24=>116|14=>152|15=>153|16=>154|17=>155|18=>156|19=>157|20=>158|21=>159|22=>160|25=>163|26=>143|27=>144|28=>164|29=>165|30=>166|31=>167|n=>n,fun|26=>9|28=>155|24=>38|0=>0|3=>3|37=>175|48=>186|50=>44|4=>4|40=>200|39=>199|45=>55|5=>5|9=>9|51=>225|55=>228|57=>242|58=>243|33=>103|n=>n,fun|n=>n⟩
theorem aa.Ul:Go.Proofs.SlLaysZ.n6 aa.prog aa.CN:={
 mixed:=by kernel_rfl
 f6:=⟨aa.f71.name,by decide,aa.func71.trans (congrArg some (by kernel_rfl))⟩
 f8:=⟨aa.f95.name,by decide,aa.func95.trans (congrArg some (by kernel_rfl))⟩
 f11:=⟨aa.f136.name,by decide,aa.func136.trans (congrArg some (by kernel_rfl))⟩
 t0:=aa.underlying0
 a0:=aa.isAgg0
 z0:=aa.sizeOf0
 v0:=aa.zeroValue0
 t24:=aa.underlying38
 a24:=aa.isAgg38
 z24:=aa.sizeOf38
 v24:=aa.zeroValue38
 t26:=aa.underlying9
 a26:=aa.isAgg9
 z26:=aa.sizeOf9
 v26:=aa.zeroValue9
 t28:=aa.underlying155
 a28:=aa.isAgg155
 z28:=aa.sizeOf155
 v28:=aa.zeroValue155
 i26:=by kernel_rfl}
def aa.Qp:Go.Shelf.Ren:=⟨fun|6=>96|8=>85|9=>137|19=>115|20=>116|21=>152|22=>153|23=>154|24=>155|25=>156|26=>157|27=>158|28=>159|29=>160|36=>163|31=>143|32=>144|37=>164|38=>165|39=>166|41=>167|n=>n,fun|27=>38|29=>9|3=>3|32=>175|26=>38|0=>0|44=>186|46=>44|4=>4|36=>200|35=>199|41=>55|5=>5|9=>9|53=>225|57=>228|63=>242|64=>243|n=>n,fun|n=>n⟩
theorem aa.FA:Go.Proofs.SlLaysM.n6 aa.prog aa.Qp:={
 mixed:=by kernel_rfl
 f6:=⟨aa.f96.name,by decide,aa.func96.trans (congrArg some (by kernel_rfl))⟩
 f8:=aa.func85.trans (congrArg some (by kernel_rfl))
 f9:=⟨aa.f137.name,by decide,aa.func137.trans (congrArg some (by kernel_rfl))⟩
 f19:=aa.func115.trans (congrArg some (by kernel_rfl))
 f20:=aa.func116.trans (congrArg some (by kernel_rfl))
 f21:=⟨aa.f152.name,by decide,aa.func152.trans (congrArg some (by kernel_rfl))⟩
 f22:=⟨aa.f153.name,by decide,aa.func153.trans (congrArg some (by kernel_rfl))⟩
 f23:=⟨aa.f154.name,by decide,aa.func154.trans (congrArg some (by kernel_rfl))⟩
 f24:=⟨aa.f155.name,by decide,aa.func155.trans (congrArg some (by kernel_rfl))⟩
 f25:=⟨aa.f156.name,by decide,aa.func156.trans (congrArg some (by kernel_rfl))⟩
 f26:=⟨aa.f157.name,by decide,aa.func157.trans (congrArg some (by kernel_rfl))⟩
 f27:=⟨aa.f158.name,by decide,aa.func158.trans (congrArg some (by kernel_rfl))⟩
 f28:=⟨aa.f159.name,by decide,aa.func159.trans (congrArg some (by kernel_rfl))⟩
 f29:=⟨aa.f160.name,by decide,aa.func160.trans (congrArg some (by kernel_rfl))⟩
 f31:=aa.func143.trans (congrArg some (by kernel_rfl))
 f32:=aa.func144.trans (congrArg some (by kernel_rfl))
 f36:=⟨aa.f163.name,by decide,aa.func163.trans (congrArg some (by kernel_rfl))⟩
 f37:=⟨aa.f164.name,by decide,aa.func164.trans (congrArg some (by kernel_rfl))⟩
 f38:=⟨aa.f165.name,by decide,aa.func165.trans (congrArg some (by kernel_rfl))⟩
 f39:=⟨aa.f166.name,by decide,aa.func166.trans (congrArg some (by kernel_rfl))⟩
 f41:=⟨aa.f167.name,by decide,aa.func167.trans (congrArg some (by kernel_rfl))⟩
 t0:=aa.underlying0
 a0:=aa.isAgg0
 z0:=aa.sizeOf0
 v0:=aa.zeroValue0
 t3:=aa.underlying3
 a3:=aa.isAgg3
 z3:=aa.sizeOf3
 v3:=aa.zeroValue3
 t4:=aa.underlying4
 a4:=aa.isAgg4
 z4:=aa.sizeOf4
 v4:=aa.zeroValue4
 t5:=aa.underlying5
 a5:=aa.isAgg5
 z5:=aa.sizeOf5
 v5:=aa.zeroValue5
 t9:=aa.underlying9
 a9:=aa.isAgg9
 z9:=aa.sizeOf9
 v9:=aa.zeroValue9
 t26:=aa.underlying38
 a26:=aa.isAgg38
 z26:=aa.sizeOf38
 v26:=aa.zeroValue38
 t27:=aa.underlying38
 a27:=aa.isAgg38
 z27:=aa.sizeOf38
 v27:=aa.zeroValue38
 t29:=aa.underlying9
 a29:=aa.isAgg9
 z29:=aa.sizeOf9
 v29:=aa.zeroValue9
 t32:=aa.underlying175
 a32:=aa.isAgg175
 z32:=aa.sizeOf175
 v32:=aa.zeroValue175
 t35:=aa.underlying199
 a35:=aa.isAgg199
 z35:=aa.sizeOf199
 v35:=aa.zeroValue199
 t36:=aa.underlying200
 a36:=aa.isAgg200
 z36:=aa.sizeOf200
 v36:=aa.zeroValue200
 t41:=aa.underlying55
 a41:=aa.isAgg55
 z41:=aa.sizeOf55
 v41:=aa.zeroValue55
 t44:=aa.underlying186
 a44:=aa.isAgg186
 z44:=aa.sizeOf186
 v44:=aa.zeroValue186
 t46:=aa.underlying44
 a46:=aa.isAgg44
 z46:=aa.sizeOf44
 v46:=aa.zeroValue44
 t53:=aa.underlying225
 a53:=aa.isAgg225
 z53:=aa.sizeOf225
 v53:=aa.zeroValue225
 t57:=aa.underlying228
 a57:=aa.isAgg228
 z57:=aa.sizeOf228
 v57:=aa.zeroValue228
 t63:=aa.underlying242
 a63:=aa.isAgg242
 z63:=aa.sizeOf242
 v63:=aa.zeroValue242
 t64:=aa.underlying243
 a64:=aa.isAgg243
 z64:=aa.sizeOf243
 v64:=aa.zeroValue243}
end
end Go.Proofs
