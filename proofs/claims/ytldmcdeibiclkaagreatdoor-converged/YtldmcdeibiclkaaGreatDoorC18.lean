/-
  Toward converged_holds: A frame: all blocks that were there, but those that are named, are as they were.
-/
import Derived.Test.YtldmcdeibiclkaaGreatDoorC17
import Derived.Deep.AppendLies
import Derived.Lib.AppendStr
import Derived.Lib.SlBytesRow
import Derived.Below
import Derived.Test.YtldmcdeibiclkaaGreatDoorC16
import Derived.Laws.BitsLemmas
set_option linter.unusedVariables false
set_option linter.unusedSimpArgs false
set_option maxRecDepth 100000
set_option maxHeartbeats 20000000
namespace Go.Proofs.YtldmcdeibiclkaaGreatDoorQ
variable {b B k o:Nat}{v v1 sv:Value}{s:ByteArray}{xs:List Value}{t e:TypeId}{l:List aj}{cs:Array Value}{ops:Array Oper}{rest:List Oper}{a:Act}{w':World}
open Go.RowKit
section
structure Fr(X:Nat->Prop)(w w':World):Prop where
 os:w'.os=w.os
 tape:w'.tape=w.tape
 output:w'.output=w.output
 size:w.heap.size<=w'.heap.size
 block:∀k,k<w.heap.size->¬X k->w'.heap[k]?=w.heap[k]?
section
variable {X Y:Nat->Prop}{w w1 w2:World}
theorem Fr.refl(X:Nat->Prop)(w:World):Fr X w w:=⟨rfl,rfl,rfl,eR _,λ_ _ _=>rfl⟩
theorem Fr.trans(h:Fr X w w1)(h':Fr X w1 w2):Fr X w w2:=
 ⟨h'.os.trans h.os,h'.tape.trans h.tape,h'.output.trans h.output,OF h.size h'.size,λk hk hn=>(h'.block k (VA hk h.size) hn).trans (h.block k hk hn)⟩
theorem Fr.weaken(h:Fr X w w1)(hX:∀k,X k->Y k):Fr Y w w1:=⟨h.os,h.tape,h.output,h.size,λk hk hn=>h.block k hk λe=>hn (hX k e)⟩
theorem Fr.below(h:Fr X w w1)(hb:Below w1.heap.size w1 w2):Fr X w w2:=
 ⟨hb.os.trans h.os,hb.tape.trans h.tape,hb.output.trans h.output,OF h.size hb.size,λk hk hn=>(hb.block k (VA hk h.size)).trans (h.block k hk hn)⟩
theorem Fr.lz(hb:Below w.heap.size w w1):Fr X w w1:=(Fr.refl X w).below hb
theorem Fr.grown{row:Option Nat}(h:Fr X w w1)(hg:w1.grownBy w2 row)(hr:∀k,row=some k->k<w.heap.size->X k):Fr X w w2:=
 ⟨hg.os.trans h.os,hg.tape.trans h.tape,hg.output.trans h.output,OF h.size hg.size,λk hk hn=>(hg.block k (VA hk h.size) (λe=>hn (hr k e.symm hk))).trans (h.block k hk hn)⟩
theorem Fr.drew(h:Fr X w w1):Fr X w w1.drew:=⟨h.os,h.tape,h.output,h.size,h.block⟩
theorem Fr.alloc(h:Fr X w w1)(o:Obj):Fr X w (w1.alloc o):=h.below ((AT _ _).alloc (eR _) o)
theorem Fr.setCell(h:Fr X w w1)(hb:w.heap.size<=b\/X b)(v:Value):Fr X w (w1.setCell ⟨b,o,none⟩ v):=
 ⟨h.os,h.tape,h.output,by simpa[World.setCell] using h.size,λk hk hn=>by
  have hne:k≠b:=λe=>by
   rcases hb with hb|hb
   ·omega
   ·exact hn (e▸hb)
  rw[VC _ _ _ _ hne];exact h.block k hk hn⟩
theorem Fr.toBelow(h:Fr X w w1)(hX:∀k,X k->B<=k)(hB:B<=w.heap.size):Below B w w1:=
 ⟨h.os,h.tape,h.output,h.size,λk hk=>h.block k (by omega) λe=>by have:=hX k e;omega⟩
theorem Fr.heap(h:Fr X w w1){o:Obj}(hk:w.heap[k]?=some o)(hn: ¬X k):w1.heap[k]?=some o:=by
 rw[h.block k (Array.getElem?_eq_some_iff.1 hk).1 hn];exact hk
theorem Fr.cell(h:Fr X w w1)(hc:w.cell? ⟨b,o,none⟩=some v)(hn: ¬X b):w1.cell? ⟨b,o,none⟩=some v:=by
 rw[World.cell?_of_block (h.block b (World.block_lt_of_cell? w _ hc) hn)];exact hc
theorem Fr.row{n size:Nat}(h:Fr X w w1)(hr:w.ownsRow B t size v n xs)(hn:∀g o l c,v=.slice (some ⟨g,o,none⟩) l c->¬X g):w1.ownsRow B t size v n xs:=by
 obtain⟨h1,h2⟩:=hr;refine⟨h1,?_⟩;rcases h2 with h2|⟨g,cap,cur,hv,hg,hh,r⟩
 ·exact Or.inl h2
 ·exact Or.inr ⟨g,cap,cur,hv,hg,h.heap hh (hn _ _ _ _ hv),r⟩
theorem Fr.rep{num:Nat}{bm:Nat->Nat}{K:al}(h:Fr X w w1)(hr:aA w b bm num K)(hb: ¬X b)(hm:∀n,n<64->¬X (bm n))(hv:∀g cur,w.heap[g]?=some (.cells cur 144 (0,0))->¬X g):aA w1 b bm num K:=
 hr.dH (h.block _ hr.1.lt hb) (λn hn=>h.block _ (hr.2.1 n hn).lt (hm n hn)) λg hg ⟨cur,hc⟩=>h.block g hg (hv g cur hc)
end
end
section
open Go.Lib (strCells strCells_length strCells_oneCell)
structure bq(w w':World)(v v':Value):Prop where
 grown:w.grownBy w' v.ownBlock
 tE:∀g,v'.ownBlock=some g->v.ownBlock=some g\/w.heap.size<=g
theorem bq.refl(w:World)(v:Value):bq w w v v:=⟨⟨rfl,rfl,rfl,eR _,λ_ _ _=>rfl⟩,λ_ h=>Or.inl h⟩
theorem bq.trans{w w1 w2:World}{v2:Value}(h:bq w w1 v v1)(h':bq w1 w2 v1 v2):bq w w2 v v2:=
 ⟨⟨h'.grown.os.trans h.grown.os,h'.grown.tape.trans h.grown.tape,h'.grown.output.trans h.grown.output,OF h.grown.size h'.grown.size,λk hk hn=>(h'.grown.block k (VA hk h.grown.size) λe=>by
   rcases h.tE k e.symm with e1|e1
   ·exact hn e1.symm
   ·omega).trans (h.grown.block k hk hn)⟩,
  λg hg=>by
   rcases h'.tE g hg with e1|e1
   ·exact h.tE g e1
   ·exact Or.inr (OF h.grown.size e1)⟩
theorem bq.alloc{w w1:World}(h:bq w w1 v v1)(o:Obj):bq w (w1.alloc o) v v1:=
 ⟨⟨h.grown.os,h.grown.tape,h.grown.output,OF h.grown.size (by simp),λk hk hn=>(Vx w1 o k (VA hk h.grown.size)).trans (h.grown.block k hk hn)⟩,h.tE⟩
theorem bq.other{w w1:World}(h:bq w w1 v v1){size n:Nat}(hr:w.ownsRow B e size v n xs){fr:Nat×Nat}(hb:w.heap[b]?=some (.cells cs t fr))(hne:t≠e):w1.heap[b]?=some (.cells cs t fr):=by
 rw[h.grown.block b (Array.getElem?_eq_some_iff.1 hb).1,hb];intro e1;rcases hr.2 with⟨rfl,_⟩|⟨g,cap,cur,rfl,_,hg,_⟩
 ·cases e1
 ·simp only[Value.ownBlock,Vv]at e1;subst e1;rw[hb]at hg;cases hg;exact hne rfl
theorem bq.map{w w1:World}{v v1:Value}(h:bq w w1 v v1){B size n:Nat}{e:TypeId}{xs:List Value}(hr:w.ownsRow B e size v n xs){b:Nat}{es:Array MapEntry}{c:Nat}(hb:w.heap[b]?=some (.map es c)):w1.heap[b]?=some (.map es c):=by
 rw[h.grown.block b (Array.getElem?_eq_some_iff.1 hb).1,hb];intro e1;rcases hr.2 with⟨rfl,_⟩|⟨g,cap,cur,rfl,_,hg,_⟩
 ·cases e1
 ·simp only[Value.ownBlock,Vv]at e1;subst e1;rw[hb]at hg;cases hg
theorem bq.toBelow{w0 w w1:World}(h:bq w w1 v v1)(hb:Below B w0 w)(hB:B<=w.heap.size){size n:Nat}(hr:w.ownsRow B e size v n xs):Below B w0 w1:=
 hb.grown h.grown hB λk hk=>by
  rcases hr.2 with⟨rfl,_⟩|⟨g,cap,cur,rfl,hg,_⟩
  ·cases hk
  ·simp only[Value.ownBlock,Vv]at hk;omega
section
variable {P:Program} (w:World)
theorem H4(base:Nat)(t u ty e:TypeId)(i:TypeInfo)(ht:P.underlying t=some (.slice e))(hu:P.underlying u=some .string)(hi:P.info? e=some i)(hz:i.zero=some (.int .u8 0))(hsize:i.size=1)(dQ:i.bytes=1)(v:Value)(n:Nat)(xs:List Value)(aD:w.ownsRow base e 1 v n xs)(s:ByteArray)(h63:n+s.size<=maxLen)(hbytes:n+s.size<=140737488355328)(hbase:base<=w.heap.size):
  ∃v' w',(Builtin.append_ #[t,u] ty #[v,.string s]).run P w=.ok v' w'/\w'.ownsRow base e 1 v' (n+s.size) (xs++strCells s)/\bq w w' v v':=by
 obtain⟨v',w',hr,h2,h3,_⟩:=Go.Lib.run_append_own_string (P:=P) w base t u ty e i ht hu hi hz hsize dQ v n xs aD s h63 hbytes hbase;refine⟨v',w',hr,h2,h3,λg' hg'=>?_⟩;rcases aD.2 with⟨rfl,rfl⟩|⟨g,cap,cur,rfl,hbg,hg,hnc,hcm,hcs,htake⟩
 ·obtain⟨v2,w2,hr2,h4,_⟩:=Go.Lib.run_append_own_string (P:=P) w w.heap.size t u ty e i ht hu hi hz hsize dQ (.slice none 0 0) 0 xs ⟨aD.1,Or.inl ⟨rfl,rfl⟩⟩ s h63 hbytes (eR _);rw[hr]at hr2;cases hr2;right;rcases h4.2 with⟨rfl,_⟩|⟨g,cap,cur,rfl,hbg,_⟩
  ·cases hg'
  ·simp only[Value.ownBlock,Vv]at hg';omega
 ·by_cases hroom:n+s.size<=cap
  ·have hcs':cur.size=cap:=by simpa using hcs
   have hr2:=Go.Lib.run_append_room_string (P:=P) w t u ty e i ht hu hi hsize g n cap cur hg s hroom (by omega);rw[hr]at hr2;cases hr2;exact Or.inl hg'
  ·have hxl:xs.length=n:=by simpa using aD.1
   have holds:∀j u,xs[j]?=some u->w.cell? ((⟨g,0,none⟩:Addr).add j)=some u:=aD.cells (g:=g) rfl;have hr2:=Go.Lib.run_append_grow_string (P:=P) w t u ty e i (.int .u8 0) ht hu hi hz ⟨g,0,none⟩ n cap xs (by rw[hsize];simpa using hxl) holds s (by omega) (by simp only[maxLen]at h63;omega) (by rw[dQ];exact growslice_fits (by omega) (by omega));rw[hr]at hr2;cases hr2;simp only[Value.ownBlock,Vv]at hg';right;omega
theorem Hm{o:Oper}{Q:Exit->Act->World->Prop}(hgd:o.guard=none)(sl x:Operand)(t u:TypeId)(ho:o.op=.call {callee:=.builtin .append,args:=#[sl,x],argTypes:=#[t,u]})(base:Nat)(e:TypeId)(i:TypeInfo)(ht:P.underlying t=some (.slice e))(hu:P.underlying u=some .string)(hi:P.info? e=some i)(hz:i.zero=some (.int .u8 0))(hsize:i.size=1)(dQ:i.bytes=1)(v:Value)(n:Nat)(xs:List Value)(hs:a.eval sl=v)(aD:w.ownsRow base e 1 v n xs)(s:ByteArray)(hx:a.eval x=.string s)(h63:n+s.size<=maxLen)(hbytes:n+s.size<=140737488355328)(hbase:base<=w.heap.size)(h:∀v' w',w'.ownsRow base e 1 v' (n+s.size) (xs++strCells s)->bq w w' v v'->wpList P ops Q rest (a.put o.dst v') w'):wpList P ops Q (o::rest) a w:=by
 refine wpList_plain hgd λK hK=>?_;obtain⟨v',w',hr,h2,h3⟩:=H4 (P:=P) w base t u o.type e i ht hu hi hz hsize dQ v n xs aD s h63 hbytes hbase;unfold Oper.wp execOp;simp only[ho,resolve,invoke,builtin,VQ,WG,We,List.map_toArray,VY,List.map_nil,hs,hx,hr];exact hK _ _ (h v' w' h2 h3)
theorem jw{o:Oper}{Q:Exit->Act->World->Prop}(hgd:o.guard=none)(s x:Operand)(t:TypeId)(ho:o.op=.call {callee:=.builtin .append,args:=#[s,x],argTypes:=#[t,t]})(base:Nat)(e:TypeId)(i:TypeInfo)(z:Value)(size bytes:Nat)(ht:P.underlying t=some (.slice e))(hi:P.info? e=some i)(hz:i.zero=some z)(hsize:i.size=size)(dQ:i.bytes=bytes)(hzs:z.cells.size=size)(hsz:0<size)(v:Value)(n:Nat)(xs:List Value)(hs:a.eval s=v)(aD:w.ownsRow base e size v n xs)(ad:Addr)(m c:Nat)(news:List Value)(hx:a.eval x=.slice (some ad) m c)(hl:news.length=m*size)(hnews:∀j u,news[j]?=some u->w.cell? (ad.add j)=some u)(h1:∀u∈news,u.oneCell'=true)(hm:0<m)(h63:n+m<=maxLen)(hbytes:(n+m)*bytes<=140737488355328)(hbase:base<=w.heap.size)(h:∀g cap w',w'.ownsRow base e size (.slice (some ⟨g,0,none⟩) (n+m) cap) (n+m) (xs++news)->bq w w' v (.slice (some ⟨g,0,none⟩) (n+m) cap)->wpList P ops Q rest (a.put o.dst (.slice (some ⟨g,0,none⟩) (n+m) cap)) w'):wpList P ops Q (o::rest) a w:=
 Xi w hgd s x t ho base e i z size bytes ht hi hz hsize dQ hzs hsz v n xs hs aD ad m c news hx hl hnews h1 hm h63 hbytes hbase _ rfl λg cap w' h2 h3 h4 _=>
  h g cap w' h2 ⟨h3,λg' hg'=>by
   simp only[Value.ownBlock,Vv]at hg';subst hg';rcases h4 with h4|h4
   ·exact Or.inl h4
   ·exact Or.inr (by omega)⟩
end
end
section
open Go.Lib (strCells strCells_length strCells_oneCell)
theorem aa.oc:(aa.prog.info? 5).map (λi=>(i.zero,i.size,i.bytes))=some (some (.int .u8 0),1,1):=by kernel_rfl
def aG(w:World)(B:Nat)(v:Value)(s:ByteArray):Prop:=w.ownsRow B 5 1 v s.size (strCells s)
def byteOf(z:Int):UInt8:=UInt8.ofNat (z%256).toNat
theorem rT(z:Int):((byteOf z).toNat:Int)=z%256:=by
 have h1:=Int.emod_nonneg z (show (256:Int)≠0 by decide);have h2:=Int.emod_lt_of_pos z (show (0:Int)<256 by decide);simp only[byteOf,UInt8.toNat_ofNat'];omega
def cF(n:Int):ByteArray:=⟨#[byteOf (n / 16777216),byteOf (n / 65536),byteOf (n / 256),byteOf n]⟩
def av(n:Int):ByteArray:=⟨#[byteOf n]⟩
theorem lZ(n:Int):(cF n).size=4:=rfl
theorem dO(n:Int):(av n).size=1:=rfl
theorem nO(a b:ByteArray):strCells (a++b)=strCells a++strCells b:=by
 simp[strCells,ByteArray.data_append]
theorem aG.of{w:World}{n:Nat}{t:ByteArray}(h:w.ownsRow B 5 1 v (s.size+n) (strCells s++xs))(hn:n=t.size)(hx:xs=strCells t):aG w B v (s++t):=by
 subst hn hx;unfold aG;rw[nO,IT];exact h
theorem aG.nil(w:World)(B:Nat):aG w B (.slice none 0 0) ByteArray.empty:=Ww _ _ _ _
theorem aG.below{w:World}(h:aG w B v s)(hb:Below w.heap.size w w'):aG w' B v s:=dS h hb (eR _)
theorem aG.alloc{w:World}(h:aG w B v s)(o:Obj):aG (w.alloc o) B v s:=VD h o
theorem aG.len{w:World}(h:aG w B v s): ∃ad cap,v=.slice ad s.size cap/\cap<=maxLen/\s.size<=cap:=by
 rcases h.2 with⟨h1,h2⟩|⟨g,cap,cur,hv,_,_,h4,h3,_⟩
 ·exact⟨_,_,by rw[h1,h2],by simp,by omega⟩
 ·exact⟨_,_,hv,h3,h4⟩
theorem MU(n:Int):strCells (cF n)= [.int .u8 (n / 16777216%256),.int .u8 (n / 65536%256),.int .u8 (n / 256%256),.int .u8 (n%256)]:=by
 simp[strCells,cF,rT]
theorem je(n:Int):strCells (av n)= [.int .u8 (n%256)]:=by
 simp[strCells,av,rT]
theorem th(B:Nat)(v:Value)(s:ByteArray)(n:Int)(w:World)(h:aG w B v s)(hB:B<=w.heap.size)(hlen:s.size+4<=140737488355328):
  Calls aa.prog 94 #[v,.int .i64 n] w λe w'=>∃v',e=.returned v'/\aG w' B v' (s++cF n)/\bq w w' v v':=by
 obtain⟨i0,hi0,hz0,hz1,hz2⟩:=VH aa.oc;have H:Hid (aG w B v s):=h;clear h;go_enter aa.func94,aa.ntmps94;go_wp2_with (at_builtin;refine jw _ rfl _ _ _ rfl B 5 i0 _ 1 1 aa.underlying48 hi0 hz0 hz1 hz2 rfl (by omega) v _ _ rfl (VD H.out _) ⟨w.heap.size,0,none⟩ 4 4 _ rfl (by rfl) (VM (BY w _)) (by simp[Value.oneCell']) (by omega) (by unfold maxLen;omega) (by omega) (by simp;omega) ?_;intro g capn w1 aD hgr)
 go_ret;refine⟨_,rfl,aG.of aD rfl ?_,(((bq.refl w v).alloc _).trans hgr)⟩;rw[MU]
theorem Ev(B:Nat)(v:Value)(s t:ByteArray)(w:World)(h:aG w B v s)(hB:B<=w.heap.size)(hlen:s.size+1+t.size<=140737488355328):
  Calls aa.prog 93 #[v,.string t] w λe w'=>∃v',e=.returned v'/\aG w' B v' (s++(av t.size++t))/\bq w w' v v':=by
 obtain⟨i0,hi0,hz0,hz1,hz2⟩:=VH aa.oc;have H:Hid (aG w B v s):=h;clear h;go_enter aa.func93,aa.ntmps93;go_wp2_with (first
  |(at_builtin;refine jw _ rfl _ _ _ rfl B 5 i0 _ 1 1 aa.underlying48 hi0 hz0 hz1 hz2 rfl (by omega) v _ _ rfl (VD H.out _) ⟨w.heap.size,0,none⟩ 1 1 _ rfl (by rfl) (VM (BY w _)) (by simp[Value.oneCell']) (by omega) (by unfold maxLen;omega) (by omega) (by simp;omega) ?_;intro g capn w1 aD hgr;have HO:Hid _:=aD;have HG:Hid _:=hgr;clear aD hgr)
  |(at_builtin;refine Hm _ rfl _ _ _ _ rfl B 5 i0 aa.underlying48 aa.underlying9 hi0 hz0 hz1 hz2 _ _ _ rfl HO.out t rfl (by unfold maxLen;omega) (by omega) (by have:=HG.out.grown.size;simp at this;omega) ?_;intro v2 w2 hown2 hgr2))
 go_ret;refine⟨_,rfl,?_,(((bq.refl w v).alloc _).trans HG.out).trans hgr2⟩;rw[WQ,Nat.add_assoc]at hown2;refine aG.of hown2 (by rw[IT,dO]) ?_;rw[nO,je]
def ft(d:Int):Nat->ByteArray
 |0=>ByteArray.empty
 |k+1=>ft d k++av (d / 2 ^ (56-8*k))
def fD(d:Int):ByteArray:=ft d 8
theorem ry(d:Int):∀k,(ft d k).size=k
 |0=>rfl
 |k+1=>by rw[ft,IT,ry d k,dO]
theorem gN(s:ByteArray):s++ByteArray.empty=s:=by
 apply WV;simp
theorem jm(s:ByteArray):ByteArray.empty++s=s:=by
 apply WV;simp
theorem cM(a b c:ByteArray):a++b++c=a++(b++c):=by
 apply WV;simp[ByteArray.data_append]
theorem vE(B:Nat)(v:Value)(s:ByteArray)(d:Int)(w:World)(h:aG w B v s)(hB:B<=w.heap.size)(hlen:s.size+8<=140737488355328):
  Calls aa.prog 50 #[v,.int .u64 d] w λe w'=>∃v',e=.returned v'/\aG w' B v' (s++fD d)/\bq w w' v v':=by
 obtain⟨i0,hi0,hz0,hz1,hz2⟩:=VH aa.oc;have H:Hid (aG w B v s):=h;clear h;go_enter aa.func50,aa.ntmps50;go_wp2;go_loopw [0,5] (λo i wr=>∃k:Nat,k<=8/\i=.int .i64 (56-8*(k:Int))/\Hid (aG wr B o (s++ft d k))/\Hid (bq w wr v o)) (λ_ i _=>((intOf i)+8).toNat)
 case atStart=>exact⟨0,by omega,rfl,by show aG _ _ _ _;rw[ft,gN];exact H.out,bq.refl w v⟩
 case round=>
  obtain⟨k,hk,rfl,hrow,hgr⟩:=hrel;by_cases hlt:k<8
  ·have g1:(0:Int)<=56-8*(k:Int):=by omega
   have g2:56-8*(k:Int)<=64:=by omega
   have hsz:B<=wr.heap.size:=by have:=hgr.out.grown.size;omega
   have hl2:(s++ft d k).size+1<=140737488355328:=by rw[IT,ry];omega
   have HN:Hid ((56-8*(k:Int)).toNat=56-8*k):=(show (56-8*(k:Int)).toNat=56-8*k by omega)
   have HR:Hid (aG wr B u0 (s++ft d k)):=hrow.out;have HG:Hid (bq w wr v u0):=hgr.out;clear hrow hgr;generalize hst:s++ft d k=st at*;have HST:Hid (st=s++ft d k):=hst.symm;clear hst;go_wp2_with (at_builtin;refine jw _ rfl _ _ _ rfl B 5 i0 _ 1 1 aa.underlying48 hi0 hz0 hz1 hz2 rfl (by omega) u0 _ _ rfl (VD HR.out _) ⟨wr.heap.size,0,none⟩ 1 1 _ rfl (by rfl) (VM (BY wr _)) (by simp[Value.oneCell']) (by omega) (by unfold maxLen;omega) (by omega) (by simp;omega) ?_;intro g capn w1 aD hgr1)
   refine⟨⟨k+1,by omega,by go_num,?_,(HG.out.alloc _).trans hgr1⟩,by simp[intOf];omega⟩;show aG _ _ _ _;rw[ft,<-cM,<-HST.out];refine aG.of aD rfl ?_;rw[je,<-HN.out]
  ·obtain rfl:k=8:=by omega
   have HR:Hid (aG wr B u0 (s++ft d 8)):=hrow.out;have HG:Hid (bq w wr v u0):=hgr.out;clear hrow hgr;go_wp2;go_ret;exact⟨_,rfl,HR.out,HG.out⟩
end
section
open Go.Lib (strCells strCells_length strCells_oneCell)
def ec(t:ByteArray):ByteArray:=av t.size++t
def jr(c:Ctx):Nat->ByteArray
 |0=>ByteArray.empty
 |k+1=>jr c k++cF (c k)
def kx(c:Ctx):ByteArray:=jr c 4
def gf(v:aj):ByteArray:=av v.rep++(cF v.n++ec v.val)
def dn(l:List aj):ByteArray:=l.foldl (λs v=>s++gf v) ByteArray.empty
def dp(key:ByteArray)(c:Ctx)(l:List aj):ByteArray:=ec key++(kx c++(cF l.length++dn l))
theorem sV(t:ByteArray):(ec t).size=1+t.size:=by rw[ec,IT,dO]
theorem uv(c:Ctx):∀k,(jr c k).size=4*k
 |0=>rfl
 |k+1=>by rw[jr,IT,uv c k,lZ];omega
theorem BH(v:aj):(gf v).size=6+v.val.size:=by
 rw[gf,IT,IT,dO,lZ,sV];omega
theorem RS(l:List aj)(v:aj):dn (l++ [v])=dn l++gf v:=by
 simp[dn,List.foldl_append]
theorem Cb(h:k<l.length):dn (l.take (k+1))=dn (l.take k)++gf l[k]:=by
 rw[VO h,RS]
theorem Nv(l:List aj):∀k,(dn (l.take k)).size<=(dn l).size:=λk=>by
 have key:∀(m:List aj) (s:ByteArray),s.size<=(m.foldl (λs v=>s++gf v) s).size:=λm=>by
  induction m with
  |nil=>intro s;exact eR _
  |cons v m ih=>intro s;refine OF ?_ (ih (s++gf v));rw[IT];omega
 conv=>rhs;rw[<-List.take_append_drop k l]
 rw[dn,dn,List.foldl_append];exact key _ _
theorem DL(key:ByteArray)(c:Ctx)(l:List aj):(dp key c l).size=21+key.size+(dn l).size:=by
 simp only[dp,kx,IT,sV,uv,lZ];omega
def jD(key:ByteArray)(c:Ctx)(sv:Value):List Value:=[.string key,.int .i64 (c 0),.int .i64 (c 1),.int .i64 (c 2),.int .i64 (c 3),sv]
theorem az.mj{w:World}{v':Value}(h:az w sv l)(hr:aG w B v s)(hg:bq w w' v v'):az w' sv l:=by
 refine⟨h.1,?_⟩;rcases h.2 with h2|⟨g,cap,cur,hv,hb,hh,r⟩
 ·exact Or.inl h2
 ·exact Or.inr ⟨g,cap,cur,hv,hb,hg.other hr hh (by decide),r⟩
theorem nf{w:World}{fr:Nat×Nat}(h:w.heap[b]?=some (.cells cs t fr))(o:Nat):w.cell? ⟨b,o,none⟩=cs[o]? :=by
 simp[World.cell?,h]
theorem kP(w:World)(x o:Obj):((w.alloc x).alloc o).heap[w.heap.size+1]?=some o:=by
 have:=BY (w.alloc x) o;simpa using this
theorem FB(B:Nat)(v:Value)(s key:ByteArray)(c:Ctx)(sv:Value)(l:List aj)(w:World)(h:aG w B v s)(hB:B<=w.heap.size)(hv:az w sv l)(hl:l.length<=100000)(hlen:s.size+(dp key c l).size<=140737488355328):
  Calls aa.prog 70 #[.agg (jD key c sv).toArray,v] w λe w'=>∃v',e=.returned v'/\aG w' B v' (s++dp key c l)/\bq w w' v v':=by
 obtain⟨i0,hi0,hz0,hz1,hz2⟩:=VH aa.oc;rw[DL]at hlen;obtain⟨ad,cap,rfl,hcap⟩: ∃ad cap,sv=.slice ad l.length cap/\(cap:Int)<=9223372036854775807:=by
  rcases hv.2 with⟨h1,h2⟩|⟨g,cap,cur,hv,_,_,_,h3,_⟩
  ·exact⟨_,_,by rw[h1,h2],by simp⟩
  ·exact⟨_,_,hv,by unfold maxLen at h3;omega⟩
 have H:Hid (aG w B v s):=h;have HV:Hid (az w (.slice ad l.length cap) l):=hv;clear h hv;have hb0:=BY w (.cells #[.string key,.int .i64 (c 0),.int .i64 (c 1),.int .i64 (c 2),.int .i64 (c 3),.slice ad l.length cap] 151);have HBx:Hid ((w.alloc (.cells #[.string key,.int .i64 (c 0),.int .i64 (c 1),.int .i64 (c 2),.int .i64 (c 3),.slice ad l.length cap] 151)).heap[w.heap.size]?=some (.cells #[.string key,.int .i64 (c 0),.int .i64 (c 1),.int .i64 (c 2),.int .i64 (c 3),.slice ad l.length cap] 151)):=hb0;clear hb0;have HA:Hid (aG (w.alloc (.cells #[.string key,.int .i64 (c 0),.int .i64 (c 1),.int .i64 (c 2),.int .i64 (c 3),.slice ad l.length cap] 151)) B v s):=H.out.alloc _;have HGA:Hid (bq w (w.alloc (.cells #[.string key,.int .i64 (c 0),.int .i64 (c 1),.int .i64 (c 2),.int .i64 (c 3),.slice ad l.length cap] 151)) v v):=(bq.refl w v).alloc _;simp only[jD];go_enter aa.func70,aa.ntmps70;go_wp2_with (go_at_call 93;refine (Ev B v s key _ HA.out (by simp;omega) (by omega)).mono ?_;rintro e w1 ⟨v1,rfl,hr1,hg1⟩;have hb1:=hg1.other HA.out HBx.out (by decide);have k1:=nf hb1 1;have k2:=nf hb1 2;have k3:=nf hb1 3;have k4:=nf hb1 4;have HB1:Hid (w1.heap[w.heap.size]?=some (.cells #[.string key,.int .i64 (c 0),.int .i64 (c 1),.int .i64 (c 2),.int .i64 (c 3),.slice ad l.length cap] 151)):=hb1;have HR1:Hid (aG w1 B v1 (s++ec key)):=hr1;have HG1:Hid (bq w w1 v v1):=HGA.out.trans hg1;simp at k1 k2 k3 k4;clear hb1 hr1 hg1)
 have HKs:Hid (w1.cell? ⟨w.heap.size,1,none⟩=some (.int .i64 (c 0))/\w1.cell? ⟨w.heap.size,2,none⟩=some (.int .i64 (c 1))/\w1.cell? ⟨w.heap.size,3,none⟩=some (.int .i64 (c 2))/\w1.cell? ⟨w.heap.size,4,none⟩=some (.int .i64 (c 3))):=⟨k1,k2,k3,k4⟩
 clear k1 k2 k3 k4;go_loopw [1,16] (λo i wr=>∃k:Nat,k<=4/\i=.int .i64 k/\Hid (aG wr B o (s++ec key++jr c k))/\Hid (bq w wr v o)/\Hid (wr.heap[w.heap.size]?=some (.cells #[.string key,.int .i64 (c 0),.int .i64 (c 1),.int .i64 (c 2),.int .i64 (c 3),.slice ad l.length cap] 151))) (λ_ i _=>4-(intOf i).toNat)
 case atStart=>exact⟨0,by omega,rfl,by show aG _ _ _ _;rw[jr,gN];exact HR1.out,HG1.out,HB1.out⟩
 case round=>
  obtain⟨k,hk,rfl,hr,hg,hb⟩:=hrel;have hsz:B<=wr.heap.size:=by have:=hg.out.grown.size;omega
  have HR:Hid (aG wr B u1 (s++ec key++jr c k)):=hr.out;have HG:Hid (bq w wr v u1):=hg.out;have HB:Hid (wr.heap[w.heap.size]?=some (.cells #[.string key,.int .i64 (c 0),.int .i64 (c 1),.int .i64 (c 2),.int .i64 (c 3),.slice ad l.length cap] 151)):=hb.out;clear hr hg hb;have hls:(s++ec key++jr c k).size+4<=140737488355328:=by rw[IT,IT,sV,uv];omega
  by_cases hlt:k<4
  ·have HS:Hid (∀n:Int,n=c k->s++ec key++jr c k++cF n=s++ec key++jr c (k+1)):=λn hn=>by rw[hn,jr,cM]
   generalize hst:s++ec key++jr c k=st at*;clear hst;rcases fc hlt with rfl|rfl|rfl|rfl
   all_goals
    have hix:=sf;go_wp2_with (go_at_call 94;refine (th B u1 st _ wr HR.out hsz hls).mono ?_;rintro e w2 ⟨v2,rfl,hr2,hg2⟩;have hb2:=hg2.other HR.out HB.out (by decide);have HB2:Hid (w2.heap[w.heap.size]?=some (.cells #[.string key,.int .i64 (c 0),.int .i64 (c 1),.int .i64 (c 2),.int .i64 (c 3),.slice ad l.length cap] 151)):=hb2;have HR2:Hid _:=hr2;have HG2:Hid (bq w w2 v v2):=HG.out.trans hg2;clear hb2 hr2 hg2)
    have hr3:=HR2.out;rw[HS.out _ rfl]at hr3;exact⟨⟨_,by omega,by go_num,hr3,HG2.out,HB2.out⟩,by simp[intOf]⟩
  ·obtain rfl:k=4:=by omega
   have HRc:Hid (aG wr B u1 (s++ec key++kx c)):=HR.out;clear HR;have hls':(s++ec key++kx c).size+4+(dn l).size<=140737488355328:=by rw[IT,IT,sV,kx,uv];omega
   clear hls;have k5:=nf HB.out 5;simp at k5;have HVr:Hid (az wr (.slice ad l.length cap) l):=HV.out.mj H.out HG.out;have HE:Hid (s++ec key++kx c++(cF l.length++dn l)=s++dp key c l):=(show s++ec key++kx c++(cF l.length++dn l)=s++dp key c l by simp only[dp,cM])
   generalize hst:s++ec key++kx c=st at*;clear hst;go_wp2_with (go_at_call 94;refine (th B u1 st _ wr HRc.out hsz (by omega)).mono ?_;rintro e w2 ⟨v2,rfl,hr2,hg2⟩;have hb2:=hg2.other HRc.out HB.out (by decide);have k6:=nf hb2 5;simp at k6;have HR2:Hid (aG w2 B v2 (st++cF l.length)):=hr2;have HV2:Hid (az w2 (.slice ad l.length cap) l):=HVr.out.mj HRc.out hg2;have HG2:Hid (bq w w2 v v2):=HG.out.trans hg2;clear hb2 hr2 hg2)
   have HS2:Hid (s++dp key c l=st++cF l.length++dn l):=(show s++dp key c l=st++cF l.length++dn l by rw[<-HE.out,cM])
   clear HE HV HVr HRc HB k5 k6 HG;have hsz2:B<=w2.heap.size:=by have:=HG2.out.grown.size;omega
   have hl2:(st++cF l.length).size+(dn l).size<=140737488355328:=by rw[IT,lZ];omega
   generalize hsu:st++cF l.length=su at*;clear hsu;go_loopw [1,33] (λo i wz=>∃k:Nat,k<=l.length/\i=.int .i64 k/\Hid (aG wz B o (su++dn (l.take k)))/\Hid (bq w2 wz v2 o)) (λ_ i _=>l.length-(intOf i).toNat)
   case atStart=>exact⟨0,by omega,rfl,by show aG _ _ _ _;rw[List.take_zero,show dn []=ByteArray.empty from rfl,gN];exact HR2.out,bq.refl _ _⟩
   case round=>
    obtain⟨k,hk,rfl,hr,hg⟩:=hrel;have hsz:B<=wr.heap.size:=by have:=hg.out.grown.size;omega
    have HR:Hid (aG wr B u1 (su++dn (l.take k))):=hr.out;have HG:Hid (bq w2 wr v2 u1):=hg.out;clear hr hg;by_cases hlt:k<l.length
    ·have HVz:az wr (.slice ad l.length cap) l:=HV2.out.mj HR2.out HG.out;obtain⟨g,cap',hsv',hgl,_,_,c0,c1,c2⟩:=az.cells HVz hlt;cases hsv';have htk:=Nv l (k+1);rw[Cb hlt,IT,BH]at htk;have HT:Hid (su++dn (l.take k)++gf l[k]=su++dn (l.take (k+1))):=(show su++dn (l.take k)++gf l[k]=su++dn (l.take (k+1)) by rw[Cb hlt,cM])
     have hls:(su++dn (l.take k)).size+6+l[k].val.size<=140737488355328:=by rw[IT];omega
     clear htk HVz;have HVe:Hid (gf l[k]=av l[k].rep++(cF l[k].n++ec l[k].val)):=rfl;generalize su++dn (l.take k)=sk at*;generalize gf l[k]=vb at*;generalize l[k].rep=r at*;generalize l[k].n=n at*;generalize l[k].val=val at*;have g63:(k:Int)<(l.length:Int):=by omega
     have k0:(0:Int)<=(k:Int):=by omega
     have HRa:Hid (aG (wr.alloc (.cells #[.int .i64 r,.int .i64 n,.string val] 144)) B u1 sk):=HR.out.alloc _;have HBa:Hid ((wr.alloc (.cells #[.int .i64 r,.int .i64 n,.string val] 144)).heap[wr.heap.size]?=some (.cells #[.int .i64 r,.int .i64 n,.string val] 144)):=BY wr _;go_wp2_with (first
      |(at_builtin;refine jw _ rfl _ _ _ rfl B 5 i0 _ 1 1 aa.underlying48 hi0 hz0 hz1 hz2 rfl (by omega) u1 _ _ rfl (VD HRa.out _) ⟨wr.heap.size+1,0,none⟩ 1 1 _ rfl (by rfl) (VM (kP wr _ _)) (by simp[Value.oneCell']) (by omega) (by unfold maxLen;omega) (by omega) (by simp;omega) ?_;intro g3 cap3 w3 hown3 hgr3;have HR3:Hid (aG w3 B _ (sk++av r)):=aG.of hown3 rfl (je r).symm;have HG3:Hid (bq wr w3 u1 _):=(((bq.refl wr u1).alloc _).alloc _).trans hgr3;have hb3:=hgr3.other (VD HRa.out _) ((Vx _ _ _ (by simp)).trans HBa.out) (by decide);have k7:=nf hb3 1;simp at k7;have hsz3:B<=w3.heap.size:=OF hsz HG3.out.grown.size;have HB3:Hid (w3.heap[wr.heap.size]?=some (.cells #[.int .i64 r,.int .i64 n,.string val] 144)):=hb3;clear hown3 hgr3 hb3)
      |(go_at_call 94;refine (th B _ _ _ w3 HR3.out hsz3 (by rw[IT,dO];omega)).mono ?_;rintro e w4 ⟨v4,rfl,hr4,hg4⟩;have hb4:=hg4.other HR3.out HB3.out (by decide);have k8:=nf hb4 2;simp at k8;have HR4:Hid (aG w4 B v4 (sk++av r++cF n)):=hr4;have HG4:Hid (bq wr w4 u1 v4):=HG3.out.trans hg4;have hsz4:B<=w4.heap.size:=OF hsz HG4.out.grown.size;clear hr4 hg4 hb4)
      |(go_at_call 93;refine (Ev B _ _ _ w4 HR4.out hsz4 (by rw[IT,IT,dO,lZ];omega)).mono ?_;rintro e w5 ⟨v5,rfl,hr5,hg5⟩;have HR5:Hid (aG w5 B v5 (sk++av r++cF n++ec val)):=hr5;have HG5:Hid (bq wr w5 u1 v5):=HG4.out.trans hg5;clear hr5 hg5))
     refine⟨⟨k+1,by omega,by go_num,?_,HG.out.trans HG5.out⟩,by simp[intOf];omega⟩;show aG _ _ _ _;rw[<-HT.out,HVe.out,<-cM,<-cM];exact HR5.out
    ·obtain rfl:k=l.length:=by omega
     have HRe:Hid (aG wr B u1 (s++dp key c l)):=(by have:=HR.out;rw[VW,<-HS2.out]at this;exact this)
     go_wp2;go_ret;exact⟨_,rfl,HRe.out,HG2.out.trans HG.out⟩
end
def bG(w:World)(b:Nat)(s:ByteArray):Prop:=w.heap[b]?=some (.cells #[.string s,.bool false] 158)/\s.size<=140737488355328
theorem uf(b:Nat)(w:World):
  Calls aa.prog 57 #[.pointer (some ⟨b,0,none⟩),.bool true] w λe w'=>e=.returned (.tuple #[])/\w'=w:=by
 go_enter aa.func57,aa.ntmps57;go_wp2;go_end0;exact⟨rfl,rfl⟩
theorem Bg(b k:Nat)(T:ByteArray)(w:World)(h:bG w b T)(hk:k<=T.size):
  Calls aa.prog 98 #[.pointer (some ⟨b,0,none⟩),.int .i64 k] w λe w'=>e=.returned (.string (T.extract 0 k))/\w'=w.setCell ⟨b,0,none⟩ (.string (T.extract k T.size)):=by
 obtain⟨hb,hl⟩:=h;obtain⟨c,f⟩:=au hb;have hle:(k:Int)<=(T.size:Int):=by omega
 have hk0:(0:Int)<=(k:Int):=by omega
 have HM:Hid _:=uf b;clear hb;go_enter aa.func98,aa.ntmps98;go_wp2_with (go_at_call 57;refine (HM.out _).mono ?_;rintro e w' ⟨rfl,rfl⟩)
 go_ret;exact⟨rfl,rfl⟩
def fx(p:ByteArray):Nat->Int
 |0=>0
 |k+1=>fx p k*256+ko p k
def be(p:ByteArray):Int:=fx p p.size
theorem Hk(n:Int)(h₀:0<=n)(h₁:n<2 ^ 64):IntKind.u64.wrap n=n:=by rw[IntKind.wrap_u64];omega
theorem NQ(x y:Int)(h0:0<=x)(h1:x<72057594037927936)(h2:0<=y)(h3:y<256):bits .or .u64 (x*256) y=x*256+y:=
 bits_join .u64 64 (by decide) Hk 8 _ y (by omega) (by omega) (by omega) h2 h3 (by omega)
theorem Ip(p:ByteArray)(k:Nat):0<=ko p k/\ko p k<256:=by
 unfold ko;split
 ·rename_i h
  have:=p[k].toNat_lt;omega
 ·omega
theorem CB(p:ByteArray):∀k,0<=fx p k/\fx p k<256 ^ k
 |0=>by simp[fx]
 |k+1=>by
  have h1:=CB p k;have h2:=Ip p k;simp only[fx,Int.pow_succ];omega
theorem QI(p:ByteArray)(hk:k<8):0<=fx p k/\fx p k<72057594037927936:=by
 have h:=CB p k;have:(256:Int) ^ k<=256 ^ 7:=by
  have:=Nat.pow_le_pow_right (show 0<256 by decide) (show k<=7 by omega);exact_mod_cast this
 have:(256:Int) ^ 7=72057594037927936:=by decide
 omega
theorem OT(b k:Nat)(T:ByteArray)(w:World)(h:bG w b T)(hk:k<=T.size)(hk8:k<=8):
  Calls aa.prog 73 #[.pointer (some ⟨b,0,none⟩),.int .i64 k] w λe w'=>e=.returned (.int .u64 (be (T.extract 0 k)))/\w'=w.setCell ⟨b,0,none⟩ (.string (T.extract k T.size)):=by
 have HT:Hid (Calls aa.prog 98 #[.pointer (some ⟨b,0,none⟩),.int .i64 k] w λe w'=>e=.returned (.string (T.extract 0 k))/\w'=w.setCell ⟨b,0,none⟩ (.string (T.extract k T.size))):=Bg b k T w h hk;have hp:(T.extract 0 k).size=k:=by rw[ByteArray.size_extract];omega
 generalize T.extract 0 k=p at*;generalize T.extract k T.size=T' at*;clear h hk;go_enter aa.func73,aa.ntmps73;go_wp2_with (go_at_call 98;refine HT.out.mono ?_;rintro e w' ⟨rfl,rfl⟩)
 go_loop [5,13] (λd i=>∃j:Nat,j<=k/\i=.int .i64 j/\d=.int .u64 (fx p j)) (λ_ i=>k-(intOf i).toNat)
 case atStart=>exact⟨0,by omega,rfl,rfl⟩
 case round=>
  obtain⟨j,hj,rfl,rfl⟩:=hrel;by_cases hlt:j<k
  ·have g1:(j:Int)<(k:Int):=by omega
   have hlp:j<p.size:=by omega
   have hst:Hid (fx p (j+1)=fx p j*256+(p[j].toNat:Int)):=by
    show fx p (j+1)=_;rw[fx,xB p j hlp]
   have g0:(0:Int)<=(j:Int):=by omega
   have hb:=QI p (show j<8 by omega);go_wp2;refine⟨⟨j+1,by omega,by go_num,?_⟩,by simp[intOf];omega⟩;have h2:=p[j].toNat_lt;rw[hst.out,xD,NQ _ _ hb.1 hb.2 (by omega) (by omega)]
  ·have hke:j=k:=by omega
   subst hke;have hbe:fx p j=be p:=by rw[be,hp]
   rw[hbe];go_wp2;go_ret;exact⟨rfl,rfl⟩
def Rd(w w':World)(b:Nat)(s:ByteArray):Prop:=bG w' b s/\Fr (λk=>k=b) w w'
theorem Rd.trans{w w1 w2:World}{t:ByteArray}(h:Rd w w1 b s)(h':Rd w1 w2 b t):Rd w w2 b t:=⟨h'.1,h.2.trans h'.2⟩
theorem bG.lt{w:World}(h:bG w b s):b<w.heap.size:=(Array.getElem?_eq_some_iff.1 h.1).1
theorem bG.below{w w1:World}(h:bG w b s)(hb:Below w.heap.size w w1):bG w1 b s:=⟨by rw[hb.block _ h.lt];exact h.1,h.2⟩
theorem Rd.below{w w1 w2:World}(h:Rd w w1 b s)(hb:Below w1.heap.size w1 w2):Rd w w2 b s:=⟨h.1.below hb,h.2.below hb⟩
theorem Rd.of{w:World}{p:ByteArray}(h:bG w b (p++s)):Rd w (w.setCell ⟨b,0,none⟩ (.string s)) b s:=by
 refine⟨⟨?_,?_⟩,(Fr.refl (λk=>k=b) w).setCell (.inr rfl) _⟩
 ·have:=heap_set (w:=w) (o:=0) (v:=.string s) h.1;simpa using this
 ·have:=h.2;rw[IT]at this;omega
theorem BN(p s:ByteArray):(p++s).extract 0 p.size=p:=ByteArray.extract_append_eq_left rfl
theorem zw(p s:ByteArray):(p++s).extract p.size (p++s).size=s:=ByteArray.extract_append_eq_right rfl (by simp)
theorem TH(b:Nat)(p s:ByteArray)(w:World)(h:bG w b (p++s)):
  Calls aa.prog 98 #[.pointer (some ⟨b,0,none⟩),.int .i64 p.size] w λe w'=>e=.returned (.string p)/\Rd w w' b s:=by
 refine (Bg b p.size _ w h (by simp)).mono ?_;rintro e w' ⟨rfl,rfl⟩;rw[BN,zw];exact⟨rfl,Rd.of h⟩
theorem xm(b:Nat)(p s:ByteArray)(w:World)(h:bG w b (p++s))(hp:p.size<=8):
  Calls aa.prog 73 #[.pointer (some ⟨b,0,none⟩),.int .i64 p.size] w λe w'=>e=.returned (.int .u64 (be p))/\Rd w w' b s:=by
 refine (OT b p.size _ w h (by simp) hp).mono ?_;rintro e w' ⟨rfl,rfl⟩;rw[BN,zw];exact⟨rfl,Rd.of h⟩
theorem F8(n:Int):be (av n)=n%256:=by
 simp[be,av,fx,ko,rT,show (ByteArray.mk #[byteOf n]).size=1 from rfl,ByteArray.getElem_eq_getElem_data]
theorem CG(p q:ByteArray):∀k,k<=p.size->fx (p++q) k=fx p k
 |0,_=>rfl
 |k+1,h=>by
  rw[fx,fx,CG p q k (by omega)];congr 1;unfold ko;rw[dif_pos (show k<p.size by omega),dif_pos (show k<(p++q).size by rw[IT];omega),ByteArray.getElem_append_left (by omega)]
theorem ur(p:ByteArray)(n:Int):be (p++av n)=be p*256+n%256:=by
 rw[be,IT,dO,fx,CG p _ _ (eR _),be];congr 1;unfold ko;rw[dif_pos (by rw[IT,dO];omega),ByteArray.getElem_append_right (eR _),<-rT];congr 2;simp[av,ByteArray.getElem_eq_getElem_data]
theorem I7(n:Int)(h0:0<=n)(h1:n<4294967296):be (cF n)=n:=by
 have e:cF n=((av (n / 16777216)++av (n / 65536))++av (n / 256))++av n:=rfl;rw[e,ur,ur,ur,F8];omega
theorem sI(d:Int):(fD d).size=8:=ry d 8
theorem Am(d:Int)(h0:0<=d)(h1:d<18446744073709551616):∀k,k<=8->be (ft d k)=d / 2 ^ (64-8*k)
 |0,_=>by
  show (0:Int)=_;rw[Int.ediv_eq_zero_of_lt h0 (by simpa using h1)]
 |k+1,hk=>by
  rw[ft,ur,Am d h0 h1 k (by omega),show 64-8*(k+1)=56-8*k by omega,show 64-8*k=(56-8*k)+8 by omega,Int.pow_add,<-Int.ediv_ediv_of_nonneg (by exact_mod_cast WD _)];omega
theorem Jb(d:Int)(h0:0<=d)(h1:d<18446744073709551616):be (fD d)=d:=by
 rw[fD,Am d h0 h1 8 (by omega)];simp
theorem mx(b:Nat)(n:Int)(s:ByteArray)(w:World)(h:bG w b (av n++s))(h0:0<=n)(h1:n<256):
  Calls aa.prog 53 #[.pointer (some ⟨b,0,none⟩)] w λe w'=>e=.returned (.int .i64 n)/\Rd w w' b s:=by
 have HT:Hid (Calls aa.prog 73 #[.pointer (some ⟨b,0,none⟩),.int .i64 1] w λe w'=>e=.returned (.int .u64 n)/\Rd w w' b s):=by
  have:=xm b (av n) s w h (by rw[dO];omega);rw[F8,Xf h0 h1]at this;exact this
 have hi:n<=9223372036854775807:=by omega
 go_enter aa.func53,aa.ntmps53;go_wp2_with (go_at_call 73;refine HT.out.mono ?_;rintro e w' ⟨rfl,hr⟩)
 go_ret;exact⟨rfl,hr⟩
theorem sR(b:Nat)(n:Int)(s:ByteArray)(w:World)(h:bG w b (cF n++s))(h0:0<=n)(h1:n<4294967296):
  Calls aa.prog 100 #[.pointer (some ⟨b,0,none⟩)] w λe w'=>e=.returned (.int .i64 n)/\Rd w w' b s:=by
 have HT:Hid (Calls aa.prog 73 #[.pointer (some ⟨b,0,none⟩),.int .i64 4] w λe w'=>e=.returned (.int .u64 n)/\Rd w w' b s):=by
  have:=xm b (cF n) s w h (by rw[lZ];omega);rw[I7 n h0 h1]at this;exact this
 have hi:n<=9223372036854775807:=by omega
 go_enter aa.func100,aa.ntmps100;go_wp2_with (go_at_call 73;refine HT.out.mono ?_;rintro e w' ⟨rfl,hr⟩)
 go_ret;exact⟨rfl,hr⟩
theorem zO(b:Nat)(d:Int)(s:ByteArray)(w:World)(h:bG w b (fD d++s))(h0:0<=d)(h1:d<18446744073709551616):
  Calls aa.prog 54 #[.pointer (some ⟨b,0,none⟩)] w λe w'=>e=.returned (.int .u64 d)/\Rd w w' b s:=by
 have HT:Hid (Calls aa.prog 73 #[.pointer (some ⟨b,0,none⟩),.int .i64 8] w λe w'=>e=.returned (.int .u64 d)/\Rd w w' b s):=by
  have:=xm b (fD d) s w h (by rw[sI];omega);rw[Jb d h0 h1,sI]at this;exact this
 go_enter aa.func54,aa.ntmps54;go_wp2_with (go_at_call 73;refine HT.out.mono ?_;rintro e w' ⟨rfl,hr⟩)
 go_ret;exact⟨rfl,hr⟩
theorem DY(b:Nat)(t s:ByteArray)(w:World)(h:bG w b (ec t++s))(h1:t.size<256):
  Calls aa.prog 138 #[.pointer (some ⟨b,0,none⟩)] w λe w'=>e=.returned (.string t)/\Rd w w' b s:=by
 rw[ec,ByteArray.append_assoc]at h;have HB:Hid (Calls aa.prog 53 #[.pointer (some ⟨b,0,none⟩)] w λe w'=>e=.returned (.int .i64 t.size)/\Rd w w' b (t++s)):=mx b t.size (t++s) w h (by omega) (by omega);have HT:Hid (∀w1,Rd w w1 b (t++s)->Calls aa.prog 98 #[.pointer (some ⟨b,0,none⟩),.int .i64 t.size] w1 λe w'=>e=.returned (.string t)/\Rd w w' b s):=λw1 h1=>(TH b t s w1 h1.1).mono λe w' ⟨he,hr⟩=>⟨he,h1.trans hr⟩
 have HC:Hid (∀w1,Rd w w1 b s->Calls aa.prog 41 #[.string t] w1 λe w'=>e=.returned (.string t)/\Rd w w' b s):=λw1 h1=>(rq t w1 (by omega)).mono λe w' ⟨he,hr⟩=>⟨he,h1.below hr⟩
 go_enter aa.func138,aa.ntmps138;go_wp2_with (first
  |(go_at_call 53;refine HB.out.mono ?_;rintro e w1 ⟨rfl,hr1⟩)
  |(go_at_call 98;refine (HT.out _ hr1).mono ?_;rintro e w2 ⟨rfl,hr2⟩)
  |(go_at_call 41;refine (HC.out _ hr2).mono ?_;rintro e w3 ⟨rfl,hr3⟩))
 go_ret;exact⟨rfl,hr3⟩
section
open Go.Lib (strCells strCells_length strCells_oneCell)
structure Rc where
 key:ByteArray
 c:Ctx
 sv:Value
 l:List aj
def iR(rs:List Rc):List Value:=rs.flatMap λr=>jD r.key r.c r.sv
def cZ(rs:List Rc):ByteArray:=rs.foldl (λs r=>s++dp r.key r.c r.l) ByteArray.empty
def da(w:World)(B:Nat)(rv:Value)(rs:List Rc):Prop:=w.ownsRow B 151 6 rv rs.length (iR rs)
theorem Fx(a b:List Rc):iR (a++b)=iR a++iR b:=by simp[iR]
theorem U0(rs:List Rc)(k:Nat)(h:k<rs.length)(j:Nat)(hj:j<6):(iR rs)[k*6+j]?=(jD rs[k].key rs[k].c rs[k].sv)[j]? :=by
 induction rs generalizing k with
 |nil=>simp at h
 |cons r rs ih=>
  have e:iR (r::rs)=jD r.key r.c r.sv++iR rs:=by simp[iR]
  have el:(jD r.key r.c r.sv).length=6:=rfl;cases k with
  |zero=>rw[e,List.getElem?_append_left (by omega)];simp
  |succ k=>
   have h':k<rs.length:=by simpa using h
   rw[e,List.getElem?_append_right (by omega),el,show (k+1)*6+j-6=k*6+j by omega,ih k h'];rfl
theorem Q9(l:List Rc)(r:Rc):cZ (l++ [r])=cZ l++dp r.key r.c r.l:=by
 simp[cZ,List.foldl_append]
theorem tY{l:List Rc}(h:k<l.length):cZ (l.take (k+1))=cZ (l.take k)++dp l[k].key l[k].c l[k].l:=by
 rw[VO h,Q9]
theorem CK(l:List Rc):∀k,(cZ (l.take k)).size<=(cZ l).size:=λk=>by
 have key:∀(m:List Rc) (s:ByteArray),s.size<=(m.foldl (λs r=>s++dp r.key r.c r.l) s).size:=λm=>by
  induction m with
  |nil=>intro s;exact eR _
  |cons v m ih=>intro s;refine OF ?_ (ih (s++dp v.key v.c v.l));rw[IT];omega
 conv=>rhs;rw[<-List.take_append_drop k l]
 rw[cZ,cZ,List.foldl_append];exact key _ _
theorem da.cells{w:World}{rv:Value}{rs:List Rc}(h:da w B rv rs)(hk:k<rs.length):
  ∃g cap,rv=.slice (some ⟨g,0,none⟩) rs.length cap/\g<w.heap.size/\rs.length<=cap/\cap<=maxLen/\∀j,j<6->w.cell? ⟨g,k*6+j,none⟩=(jD rs[k].key rs[k].c rs[k].sv)[j]? :=by
 obtain⟨h1,h2⟩:=h;rcases h2 with⟨_,h2⟩|⟨g,cap,cur,hv,_,hh,hn,hc,hs,ht⟩
 ·omega
 ·refine⟨g,cap,hv,(Array.getElem?_eq_some_iff.1 hh).1,hn,hc,λj hj=>?_⟩;rw[<-U0 rs k hk j hj,<-ht,List.getElem?_take,AS (by omega)];simp[World.cell?,hh]
theorem da.len{w:World}{rs:List Rc}(h:da w B v rs): ∃ad cap,v=.slice ad rs.length cap/\cap<=maxLen/\rs.length<=cap:=by
 rcases h.2 with⟨h1,h2⟩|⟨g,cap,cur,hv,_,_,h4,h3,_⟩
 ·exact⟨_,_,by rw[h1,h2],by simp,by omega⟩
 ·exact⟨_,_,hv,h3,h4⟩
theorem pk{w:World}(h:az w sv l): ∃ad cap,sv=.slice ad l.length cap:=by
 rcases h.2 with⟨h1,h2⟩|⟨g,cap,cur,hv,_⟩
 ·exact⟨_,_,by rw[h1,h2]⟩
 ·exact⟨_,_,hv⟩
theorem TI(B:Nat)(rv:Value)(rs:List Rc)(w:World)(h:da w B rv rs)(hv:∀r∈rs,az w r.sv r.l/\r.l.length<=100000)(hlen:(cZ rs).size<=140737488355328):
  Calls aa.prog 48 #[.slice none 0 0,rv] w λe w'=>∃v',e=.returned v'/\aG w' w.heap.size v' (cZ rs)/\Below w.heap.size w w':=by
 obtain⟨ad,cap,rfl,hcap,hlc⟩:=h.len;unfold maxLen at hcap;have H:Hid (da w B (.slice ad rs.length cap) rs):=h;have HV:Hid (∀r∈rs,az w r.sv r.l/\r.l.length<=100000):=hv;clear h hv;go_enter aa.func48,aa.ntmps48;go_wp2;go_loopw [0,9] (λo i wr=>∃k:Nat,k<=rs.length/\i=.int .i64 k/\Hid (aG wr w.heap.size o (cZ (rs.take k)))/\Hid (Below w.heap.size w wr)) (λ_ i _=>rs.length-(intOf i).toNat)
 case atStart=>exact⟨0,by omega,rfl,aG.nil _ _,AT _ _⟩
 case round=>
  obtain⟨k,hk,rfl,hr,hb⟩:=hrel;have HR:Hid (aG wr w.heap.size u0 (cZ (rs.take k))):=hr.out;have HB:Hid (Below w.heap.size w wr):=hb.out;have hsz:=hb.out.size;clear hr hb;by_cases hlt:k<rs.length
  ·obtain⟨g,cap',hsv',hgl,_,_,cc⟩:=da.cells H.out hlt;cases hsv';have cw:∀j,j<6->wr.cell? ⟨g,k*6+j,none⟩=(jD rs[k].key rs[k].c rs[k].sv)[j]? :=λj hj=>(HB.out.cell (p:=⟨g,k*6+j,none⟩) hgl).trans (cc j hj);have c0:=cw 0 (by omega);have c1:=cw 1 (by omega);have c2:=cw 2 (by omega);have c3:=cw 3 (by omega);have c4:=cw 4 (by omega);have c5:=cw 5 (by omega);clear cc cw;simp[jD]at c0 c1 c2 c3 c4 c5;have hvk:=HV.out rs[k] (VB hlt);have HVk:Hid (∀W,Below w.heap.size w W->az W rs[k].sv rs[k].l):=λW hW=>dS hvk.1 hW (eR _);have hvl:=hvk.2;obtain⟨adv,capv,hsvv⟩:=pk hvk.1;clear hvk;have htk:=CK rs (k+1);rw[tY hlt,IT]at htk;have HT:Hid (cZ (rs.take k)++dp rs[k].key rs[k].c rs[k].l=cZ (rs.take (k+1))):=(tY hlt).symm;generalize cZ (rs.take k)=st at*;have hst:st.size+(dp rs[k].key rs[k].c rs[k].l).size<=140737488355328:=by omega
   clear htk;generalize rs[k].key=key at*;generalize rs[k].c=c at*;generalize rs[k].sv=sv at*;generalize rs[k].l=l at*;subst hsvv;have g63:(k:Int)<(rs.length:Int):=by omega
   have k0:(0:Int)<=(k:Int):=by omega
   have HBa:Hid (Below w.heap.size w (wr.alloc (.cells #[.string key,.int .i64 (c 0),.int .i64 (c 1),.int .i64 (c 2),.int .i64 (c 3),.slice adv l.length capv] 151))):=HB.out.alloc hsz _;have HRa:Hid (aG (wr.alloc (.cells #[.string key,.int .i64 (c 0),.int .i64 (c 1),.int .i64 (c 2),.int .i64 (c 3),.slice adv l.length capv] 151)) w.heap.size u0 st):=HR.out.alloc _;go_wp2_with (go_at_call 70;refine (FB w.heap.size u0 st key c (.slice adv l.length capv) l (wr.alloc (.cells #[.string key,.int .i64 (c 0),.int .i64 (c 1),.int .i64 (c 2),.int .i64 (c 3),.slice adv l.length capv] 151)) HRa.out (by simp;omega) (HVk.out _ HBa.out) hvl hst).mono ?_;rintro e w1 ⟨v1,rfl,hr1,hg1⟩;have HR1:Hid (aG w1 w.heap.size v1 (st++dp key c l)):=hr1;have HB1:Hid (Below w.heap.size w w1):=hg1.toBelow HBa.out (by simp;omega) HRa.out;clear hr1 hg1)
   refine⟨⟨k+1,by omega,by go_num,?_,HB1.out⟩,by simp[intOf];omega⟩;show aG _ _ _ _;rw[<-HT.out];exact HR1.out
  ·obtain rfl:k=rs.length:=by omega
   have HRe:Hid (aG wr w.heap.size u0 (cZ rs)):=(by have:=HR.out;rw[VW]at this;exact this)
   clear HR;go_wp2;go_ret;exact⟨_,rfl,HRe.out,HB.out⟩
end
def C1(v:aj):Prop:=v.rep<256/\0<=v.n/\v.n<4294967296/\v.val.size<256
theorem Rd.other{w w1:World}{o:Obj}(h:Rd w w1 b s)(hk:w.heap[k]?=some o)(hn:k≠b):w1.heap[k]?=some o:=h.2.heap hk hn
theorem Rd.setCell{w w1:World}(h:Rd w w1 b s)(hk:w.heap.size<=k/\k≠b)(v:Value):Rd w (w1.setCell ⟨k,o,none⟩ v) b s:=
 ⟨⟨by rw[VC _ _ _ _ (VG hk.2)];exact h.1.1,h.1.2⟩,h.2.setCell (.inl hk.1) v⟩
theorem OX(b:Nat)(v:aj)(s:ByteArray)(w:World)(h:bG w b (gf v++s))(hv:C1 v):
  Calls aa.prog 139 #[.pointer (some ⟨b,0,none⟩)] w λe w'=>e=.returned (.agg #[.int .i64 v.rep,.int .i64 v.n,.string v.val])/\Rd w w' b s:=by
 obtain⟨r,n,t⟩:=v;obtain⟨h1,h2,h3,h4⟩:=hv;rw[gf,cM,cM]at h;simp only[aj.rep,aj.n,aj.val] at*;have hlt:=h.lt;have HB:Hid (∀w1,Below w.heap.size w w1->Calls aa.prog 53 #[.pointer (some ⟨b,0,none⟩)] w1 λe w'=>e=.returned (.int .i64 r)/\Rd w1 w' b (cF n++(ec t++s))):=λw1 hb=>mx b r _ w1 (h.below hb) (by omega) (by omega);have HN:Hid (∀w1,bG w1 b (cF n++(ec t++s))->Calls aa.prog 100 #[.pointer (some ⟨b,0,none⟩)] w1 λe w'=>e=.returned (.int .i64 n)/\Rd w1 w' b (ec t++s)):=λw1 hb=>sR b n _ w1 hb h2 h3;have HT:Hid (∀w1,bG w1 b (ec t++s)->Calls aa.prog 138 #[.pointer (some ⟨b,0,none⟩)] w1 λe w'=>e=.returned (.string t)/\Rd w1 w' b s):=λw1 hb=>DY b t s w1 hb h4;clear h h1 h2 h3 h4;go_enter aa.func139,aa.ntmps139;go_upto_region 2 with (first
  |(go_at_call 53;refine (HB.out _ ((AT _ _).alloc (eR _) _)).mono ?_;rintro e w1 ⟨rfl,hr1⟩)
  |(go_at_call 100;refine (HN.out _ hr1.1).mono ?_;rintro e w2 ⟨rfl,hr2⟩))
 have hz:w.heap.size<w1.heap.size:=by have:=hr1.2.size;simp at this;omega
 have hz2:w.heap.size<w2.heap.size:=by have:=hr2.2.size;omega
 have HR0:Hid (bG (w2.alloc (.cells #[.int .i64 r,.int .i64 n] 142)) b (ec t++s)):=hr2.1.below ((AT _ _).alloc (eR _) _);have HF:Hid (Fr (λk=>k=b) w (w2.alloc (.cells #[.int .i64 r,.int .i64 n] 142))):=((((Fr.refl _ w).alloc _).trans hr1.2).trans hr2.2).alloc _;have HO:Hid ((w2.alloc (.cells #[.int .i64 r,.int .i64 n] 142)).heap[w.heap.size]?=some (.cells #[.int .i64 0,.int .i64 0,.string ⟨#[]⟩] 144)):=by
  rw[Vx _ _ _ hz2];exact hr2.other (hr1.other (BY w _) (by omega)) (by omega)
 have HD:Hid ((w2.alloc (.cells #[.int .i64 r,.int .i64 n] 142)).heap[w2.heap.size]?=some (.cells #[.int .i64 r,.int .i64 n] 142)):=BY w2 _;obtain⟨W0,hW0⟩: ∃W,W=w2.alloc (.cells #[.int .i64 r,.int .i64 n] 142):=⟨_,rfl⟩
 rw[<-hW0]at HR0 HF HO HD ⊢;obtain⟨d0,f0⟩:=au HD.out;have HT':Hid (∀q,Calls aa.prog 138 #[.pointer (some ⟨b,0,none⟩)] (W0.drewN q) λe w'=>e=.returned (.string t)/\w'.heap[w.heap.size]?=some (.cells #[.int .i64 0,.int .i64 0,.string ⟨#[]⟩] 144)/\w'.heap[w2.heap.size]?=some (.cells #[.int .i64 r,.int .i64 n] 142)/\Rd w w' b s):=λq=>by
  have hb:Below W0.heap.size W0 (W0.drewN q):=Wq (AT _ _) q;refine (HT.out _ (HR0.out.below hb)).mono ?_;rintro e w3 ⟨rfl,hr3⟩;exact⟨rfl,hr3.other HO.out (by omega),hr3.other HD.out (by omega),hr3.1,(HF.out.below hb).trans hr3.2⟩
 clear hW0 hr1 hr2 HB HN HT HR0 HF HO HD;go_region_with (first|(go_at_call 138;refine By (HT'.out 1) ?_;rintro e w3 ⟨rfl,hv3,hd3,hr3⟩;obtain⟨cv,fv⟩:=au hv3;obtain⟨cd,fd⟩:=au hd3;have HV3:Hid (w3.heap[w.heap.size]?=some (.cells #[.int .i64 0,.int .i64 0,.string ⟨#[]⟩] 144)):=hv3;have HR3:Hid (Rd w w3 b s):=hr3;clear hv3 hd3 hr3))
 all_goals
  go_wp2;refine V9 (v:=.agg #[.int .i64 r,.int .i64 n,.string t]) ?_ rfl ⟨rfl,?_⟩
  ·simp[results,aa.results139,go_sem,cv]
  ·exact ((HR3.out.setCell (by omega) _).setCell (by omega) _).setCell (by omega) _
end Go.Proofs.YtldmcdeibiclkaaGreatDoorQ
