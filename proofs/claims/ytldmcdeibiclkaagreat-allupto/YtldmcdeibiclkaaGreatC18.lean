/-
  Toward all_holds
-/
import Derived.Test.YtldmcdeibiclkaaGreatC17
import Derived.Test.YtldmcdeibiclkaaGreatC01
import Derived.Deep.CutRange
import Derived.Deep.CutBlock
import Derived.Deep.QuietTactic
import Derived.BigQuiet
import Derived.Test.YtldmcdeibiclkaaGreatC15
import Derived.Test.YtldmcdeibiclkaaGreatC16
set_option linter.all false
noncomputable section
set_option maxRecDepth 100000
set_option maxHeartbeats 20000000
namespace Go.Proofs.YtldmcdeibiclkaaGreatQ
variable {b B h o:Nat}{name:ah}{t:ak}{v:ag}{xs:ae}
open Go.RowKit
abbrev aY:=ah×Ctx×ag
def fU(k:aY):List Value:=[.s k.1,.i (k.2.1 0),.i (k.2.1 1),.i (k.2.1 2),.i (k.2.1 3),k.2.2]
def flatK(l:List aY):List Value:=l.flatMap fU
abbrev p8(k:aY):Value:=.agg #[.s k.1,.i (k.2.1 0),.i (k.2.1 1),.i (k.2.1 2),.i (k.2.1 3),k.2.2]
theorem xq(l:List aY):(flatK l).length=l.length*6:=by
 induction l with
 |nil=>rfl
 |cons v l a=>simp only[flatK,acn,abo,abi] at*;rw[a];simp[fU];omega
theorem DL(a b:List aY):flatK (a++b)=flatK a++flatK b:=by simp[flatK]
theorem q6(l:List aY)(k:Nat)(h:k<l.length)(j:Nat)(hj:j<6):(flatK l)[k*6+j]?=(fU l[k])[j]? :=by
 induction l generalizing k with
 |nil=>simp at h
 |cons v l a=>
  have e:flatK (v::l)=fU v++flatK l:=by simp[flatK]
  have c:(fU v).length=6:=by simp[fU]
  grind
def Oz(w:af)(sv:ag)(l:List aY):Prop:=w.ownsRow 0 82 6 sv l.length (flatK l)
def jX(w:af)(b:Nat)(n:Nat)(sv:ag)(l:List aY):Prop:=
 w.heap[b]?=.c #[.i n,sv] 45/\Oz w sv l
theorem tN{a b:ah}(h:a=b):(a.toList==b.toList)=true:=by subst h;simp
theorem rM{a b:ah}(h: ¬a=b):(a.toList==b.toList)=false:=by
 rw[ByteArray.toList_eq,ByteArray.toList_eq];simp only[aaQ,ne_eq,Array.toList_inj];intro e;exact h (acj e)
def dD(l:List aY)(name:ah):aY:=(l.find? λk=>decide (k.1=name)).getD (name,λ_=>0,.slice none 0 0)
theorem Yp{l:List aY}{k:Nat}(h:k<l.length)(a:l[k].1=name)(c:∀j (hj:j<l.length),j<k->¬l[j].1=name):dD l name=l[k]:=by
 unfold dD;have:l.find? (λk=>decide (k.1=name))=some l[k]:=by
  rw[List.find?_eq_some_iff_getElem];grind
 rw[this];rfl
theorem Vf{l:List aY}(a:∀j (hj:j<l.length),¬l[j].1=name):dD l name=(name,λ_=>0,.slice none 0 0):=by
 unfold dD;have:l.find? (λk=>decide (k.1=name))=none:=by
  rw[List.find?_eq_none];intro x c;obtain⟨j,hj,rfl⟩:=acZ c;simpa using a j hj
 rw[this];rfl
theorem pI(b n:Nat)(sv:ag)(l:List aY)(name:ah)(w:af)(h:jX w b n sv l)(D:∀q∈l,∃ad m cap,q.2.2=.slice ad m cap)(hlen:l.length<=1900000000000):
  Calls aC.prog 38 #[.p b,.s name] w λe w'=>e=.r (p8 (dD l name))/\Below w w w':=by
 obtain⟨ad,cap,rfl,Q,S⟩:=cz h.2;have J:=(IN.1 h.1).1;have H:Hid _:=h.2;have T:=zu ((aH h.1).1);have K:Hid _:=D;clear h D;go_enter aC.func38,aC.ntmps38;go_wp2;go_loopw [5] (λi wr=>∃k:Nat,k<=l.length/\i=.i k/\Hid (Below w w wr)/\Hid (wr.heap[w.heap.size]?=.c #[.string {data:=#[]},.i 0,.i 0,.i 0,.i 0,.slice none 0 0] 82)/\Hid (∀j (hj:j<l.length),j<k->¬l[j].1=name)) (λi _=>l.length-(intOf i).toNat)
 case atStart=>exact⟨0,zo,rfl,zj.alloc zf _,By w _,λj _ hj=>absurd hj zo⟩
 case round=>
  obtain⟨k,hk,rfl,d,y,f⟩:=hrel;have cb:wr.cell? (.a b 1)=some (.slice ad l.length cap):=by
   rw[d.out.cell (p:=(.a b 1)) J,T.out];rfl
  have k0:(0:Int)<=(k:Int):=zo;by_cases C:k<l.length
  .obtain⟨g,R,E,_,_,U,x⟩:=dU H.out zo;cases E;have u:∀j,j<6->wr.cell? (.a g (k*6+j))=(fU l[k])[j]? :=λj hj=>by
    have F:k*6+j<l.length*6:=zo;have G:(flatK l)[k*6+j]?=some ((fU l[k])[j]'(by simpa[fU] using hj)):=by
     rw[q6 l k C j hj];simp
    rw[d.out.cell (p:=(.a g (k*6+j))) U,x _ _ F G];simp
   have c0:wr.cell? (.a g (k*6))=.s l[k].1:=u 0 zo;have c1:wr.cell? (.a g (k*6+1))=.i (l[k].2.1 0):=u 1 zo;have c2:wr.cell? (.a g (k*6+2))=.i (l[k].2.1 1):=u 2 zo;have c3:wr.cell? (.a g (k*6+3))=.i (l[k].2.1 2):=u 3 zo;have c4:wr.cell? (.a g (k*6+4))=.i (l[k].2.1 3):=u 4 zo;have V:wr.cell? (.a g (k*6+5))=some l[k].2.2:=u 5 zo;have W:(k:Int)<(l.length:Int):=zo;have L:Hid _:=λz=>Yp C z f.out;have M:Hid (¬l[k].1=name->∀j (hj:j<l.length),j<k+1->¬l[j].1=name):=λz j hj Z=>by
    by_cases e:j=k
    .subst e;exact z
    .exact f.out j hj zo
   have N:=K.out _ (IS C);clear u x f;generalize l[k]=q at*;obtain⟨nm,cx,vs⟩:=q;obtain⟨av,mv,cv,I⟩:=N;simp only at I;subst I;simp only at c0 c1 c2 c3 c4 V;by_cases z:nm=name
   .have hd:=tN z;have HE:Hid _:=L.out z;clear z L M;obtain⟨O,f'⟩:=aH y.out;go_wp2;refine abn (v:=p8 (dD l name)) ?_ rfl ⟨rfl,?_⟩
    .rw[HE.out];simp[results,aC.results38,go_sem,O]
    .exact (((((d.out.setCell zp _).setCell zp _).setCell zp _).setCell zp _).setCell zp _).setCell zp _
   .have hd:=rM z;have P:Hid _:=M.out z;clear z L M;go_wp2;exact⟨⟨k+1,zo,by go_num,d,y,P⟩,zi⟩
  .obtain rfl:k=l.length:=zo;have HM:Hid _:=Vf λj hj=>f.out j hj hj;obtain⟨O,f'⟩:=aH y.out;clear f;go_wp2;refine abn (v:=p8 (dD l name)) ?_ rfl ⟨rfl,?_⟩
   .rw[HM.out];simp[results,aC.results38,go_sem,O]
   .exact (((((d.out.setCell zp _).setCell zp _).setCell zp _).setCell zp _).setCell zp _).setCell zp _
section
structure Fr(X:Nat->Prop)(w w':af):Prop where
 os:w'.os=w.os
 tape:w'.tape=w.tape
 output:w'.output=w.output
 size:w<=w'.heap.size
 block:∀k,k<w.heap.size->¬X k->w'.heap[k]?=w.heap[k]?
section
variable {X Y:Nat->Prop}{w w1 w2:af}
def Fr.refl(X:Nat->Prop)(w:af):Fr X w w:=⟨rfl,rfl,rfl,aba _,λ_ _ _=>rfl⟩
def Fr.trans(h:Fr X w w1)(a:Fr X w1 w2):Fr X w w2:=
 ⟨a.os.trans h.os,a.tape.trans h.tape,a.output.trans h.output,IT h.size a.size,λk c d=>(a.block k (abc c h.size) d).trans (h.block k c d)⟩
def Fr.weaken(h:Fr X w w1)(a:∀k,X k->Y k):Fr Y w w1:=⟨h.os,h.tape,h.output,h.size,λk c d=>h.block k c λe=>d (a k e)⟩
def Fr.below(h:Fr X w w1)(hb:Below w1.heap.size w1 w2):Fr X w w2:=
 ⟨hb.os.trans h.os,hb.tape.trans h.tape,hb.output.trans h.output,IT h.size hb.size,λk a c=>(hb.block k (abc a h.size)).trans (h.block k a c)⟩
def Fr.cQ(hb:Below w.heap.size w w1):Fr X w w1:=(Fr.refl X w).below hb
def Fr.grown{row:Option Nat}(h:Fr X w w1)(a:w1.grownBy w2 row)(f:∀k,row=some k->k<w.heap.size->X k):Fr X w w2:=
 ⟨a.os.trans h.os,a.tape.trans h.tape,a.output.trans h.output,IT h.size a.size,λk c d=>(a.block k (abc c h.size) (λe=>d (f k e.symm c))).trans (h.block k c d)⟩
def Fr.drew(h:Fr X w w1):Fr X w w1.drew:=⟨h.os,h.tape,h.output,h.size,h.block⟩
def Fr.alloc(h:Fr X w w1)(o:Obj):Fr X w (w1.alloc o):=h.below ((aaP _ _).alloc (aba _) o)
theorem Fr.setCell(h:Fr X w w1)(hb:w.heap.size<=b\/X b)(v:ag):Fr X w (w1.setCell ⟨b,o,none⟩ v):=
 ⟨h.os,h.tape,h.output,by simpa[World.setCell] using h.size,λk c d=>by
  have a:k≠b:=λe=>by
   grind
  rw[aaS _ _ _ _ a];exact h.block k c d⟩
theorem Fr.toBelow(h:Fr X w w1)(a:∀k,X k->B<=k)(c:B<=w.heap.size):Below B w w1:=
 ⟨h.os,h.tape,h.output,h.size,λk d=>h.block k zo λe=>by have:=a k e;omega⟩
theorem Fr.heap(h:Fr X w w1){k:Nat}{o:Obj}(a:w.heap[k]?=some o)(c: ¬X k):w1.heap[k]?=some o:=by
 rw[h.block k (IN.1 a).1 c];exact a
theorem Fr.row{n size:Nat}(h:Fr X w w1)(e:w.ownsRow B t size v n xs)(f:∀g o l c,v=.slice (some ⟨g,o,none⟩) l c->¬X g):w1.ownsRow B t size v n xs:=by
 obtain⟨i,a⟩:=e;refine⟨i,?_⟩;rcases a with a|⟨g,cap,d,hv,j,k,r⟩
 .exact Or.inl a
 .exact Or.inr ⟨g,cap,d,hv,j,h.heap k (f _ _ _ _ hv),r⟩
def Fr.rep{num:Nat}{bm:Nat->Nat}{K:aL}(h:Fr X w w1)(c:aV w b bm num K)(hb: ¬X b)(e:∀n,n<64->¬X (bm n))(hv:∀g a,w.heap[g]?=some (.cells a 117 (0,0))->¬X g):aV w1 b bm num K:=
 c.de (h.block _ c.1.lt hb) (λn d=>h.block _ (c.2.1 n d).lt (e n d)) λg f ⟨a,i⟩=>h.block g f (hv g a i)
end
end
theorem aC.Iu:(aC.prog.info? 82).map (λi=>(i.zero,i.size,i.bytes))=some (some (.agg #[.s ⟨#[]⟩,.i 0,.i 0,.i 0,.i 0,.slice none 0 0]),6,72):=zk
def dP(l:List aY)(nm:ah):Nat:=(l.takeWhile λk=>Op.bytesLess k.1.toList nm.toList).length
def gQ(l:List aY)(nm:ah):Nat:=if ∃h:dP l nm<l.length,l[dP l nm].1=nm then dP l nm+1 else dP l nm
def fc(l:List aY)(q:aY):List aY:=l.take (dP l q.1)++q::l.drop (gQ l q.1)
theorem wQ(l:List aY)(nm:ah):dP l nm<=l.length:=by
 unfold dP;exact(List.takeWhile_prefix _).length_le
theorem F9(l:List aY)(nm:ah):gQ l nm<=l.length:=by
 unfold gQ;split
 .rename_i h;exact h.1
 .exact wQ l nm
theorem GI{l:List aY}{nm:ah}{k:Nat}(h:∀j (hj:j<l.length),j<k->Op.bytesLess l[j].1.toList nm.toList=true)(a:k<=l.length)(hs:∀c:k<l.length,Op.bytesLess l[k].1.toList nm.toList=false):dP l nm=k:=by
 unfold dP;induction l generalizing k with
 |nil=>simp at a;simp[a]
 |cons u l e=>
  cases k with
  |zero=>
   simp_all
  |succ k=>
   have d:=h 0 zp zo;simp at d;simp only[List.takeWhile,d,abi];rw[e (k:=k) (λj hj f=>zg) (by simpa using a) (λc=>zg)]
theorem ZE(l:List aY)(k:Nat)(h:k<l.length):flatK (l.take (k+1))=flatK (l.take k)++fU l[k]:=by
 rw[List.take_add_one,DL,abG h];simp[flatK]
theorem Nq(l:List aY)(k:Nat)(h:k<=l.length):flatK (l.drop k)=(flatK l).drop (k*6):=by
 have a:flatK l=flatK (l.take k)++flatK (l.drop k):=by rw[<-DL,adm]
 rw[a,List.drop_left' (by rw[xq,acN];omega)]
theorem T3{l:List aY}(a:∀q∈l,∃ad m cap,q.2.2=.slice ad m cap):∀u∈flatK l,u.oneCell'=true:=by
 intro u d;simp only[flatK,abO]at d;obtain⟨v,c,hv⟩:=d;obtain⟨ad,m,cap,e⟩:=a v c;simp[fU,e]at hv;rcases hv with rfl|rfl|rfl|rfl|rfl|rfl<;>rfl
theorem Yi{w w2:af}{g k:Nat}{l:List aY}{X:Obj}(e:∀t u,t<l.length*6->(flatK l)[t]?=some u->w.cell? (.a g t)=some u)(f:k<=l.length)(hb:Below (w.heap.size+1) (w.alloc X) w2)(i:g<w):
  ∀j u,(flatK (l.drop k))[j]?=some u->w2.cell? (((.a g (k*6)):Addr).add j)=some u:=by
 intro j u hj;have c:((.a g (k*6)):Addr).add j=(.a g (k*6+j)):=by unfold Addr.add;split<;>simp_all
 rw[c,hb.cell (p:=(.a g (k*6+j))) (show g<w+1 by omega),abp _ _ _ i];rw[Nq l k f,List.getElem?_drop]at hj;have d:=(List.getElem?_eq_some_iff.1 hj).1;rw[xq]at d;exact e _ _ d hj
theorem jq{W:af}{n size:Nat}{val:ag}(h:W.ownsRow B t size v n xs)(hb:b<B):(W.setCell (.a b o) val).ownsRow B t size v n xs:=by
 refine Fr.row (Fr.setCell (X:=λk=>k=b) (Fr.refl _ _) (Or.inr rfl) _) h λg p l c hv e=>?_;rcases h.2 with⟨i,_⟩|⟨g1,d,f,j,m,_⟩
 .rw[i]at hv;cases hv
 grind
theorem Zz(l:List aY)(q:aY):flatK (fc l q)=flatK (l.take (dP l q.1))++fU q++flatK (l.drop (gQ l q.1)):=by
 simp[fc,flatK]
theorem E3(l:List aY)(q:aY):(fc l q).length=dP l q.1+1+(l.length-gQ l q.1):=by
 have:=wQ l q.1;simp[fc];omega
theorem Ch{l:List aY}{nm:ah}(a:dP l nm=h)(c:h<l.length)(e:l[h].1=nm):gQ l nm=h+1:=by
 subst a;unfold gQ;simp_all
theorem BE{l:List aY}{nm:ah}(a:dP l nm=h)(c:h<l.length)(e: ¬l[h].1=nm):gQ l nm=h:=by
 subst a;unfold gQ;grind
theorem zS{l:List aY}{nm:ah}(a:dP l nm=h)(c: ¬h<l.length):gQ l nm=h:=by
 subst a;unfold gQ;grind
theorem yD(b n:Nat)(sv:ag)(l:List aY)(nm:ah)(C:Ctx)(Q:Option Addr)(R cv:Nat)(w:af)(h:jX w b n sv l)(bs:∀q∈l,∃ad m cap,q.2.2=.slice ad m cap)(hlen:l.length<=1900000000000):
  Calls aC.prog 42 #[.p b,p8 (nm,C,.slice Q R cv)] w λe w'=>e=.r (.tuple #[])/\∃bx,w'.heap[b]?=.c #[.i n,bx] 45/\w'.ownsRow w 82 6 bx (fc l (nm,C,.slice Q R cv)).length (flatK (fc l (nm,C,.slice Q R cv)))/\Fr (λk=>k=b) w w':=by
 obtain⟨ad,cap,rfl,cB,cN⟩:=cz h.2;have b6:=(IN.1 h.1).1;have H:=zu h.2;have b7:Hid (w.heap[b]?=.c #[.i n,.slice ad l.length cap] 45):=h.1;have bB:=zu bs;obtain⟨i0,T,a1,a6,a7⟩:=aaY aC.Iu;clear h bs;have G:Hid (∀w',Below (w.heap.size+1) (w.alloc (.cells (.q nm C (.slice Q R cv)) 82)) w'->w'.cell? (.a b 1)=some (.slice ad l.length cap)/\w'.frozen? (.a b 1)=false/\w'.heap[b]?=.c #[.i n,.slice ad l.length cap] 45/\∀o,w'.cell? (.a w o)=#[Value.string nm,.i (C 0),.i (C 1),.i (C 2),.i (C 3),.slice Q R cv][o]?):=λw' hw=>by
  have h1:w'.heap[b]?=.c #[.i n,.slice ad l.length cap] 45:=by
   rw[hw.block b zo,aaO _ _ _ b6];exact b7.out
  have h2:=aH h1;refine⟨by rw[h2.1];rfl,h2.2 1,h1,λo=>?_⟩;rw[hw.cell (p:=(.a w o)) (show w<w.heap.size+1 by omega)];exact(aH (By w _)).1 o
 go_enter aC.func42,aC.ntmps42;go_upto_block 0 with fail;go_cut [4,5] from 6 to 37 (λlf i wx=>i=.i (dP l nm:Nat)/\wx.ownsRow (w.heap.size+1) 82 6 lf (dP l nm) (flatK (l.take (dP l nm)))/\Below (w.heap.size+1) (w.alloc (.cells (.q nm C (.slice Q R cv)) 82)) wx)
 case first=>
  go_wp2_with fail;go_loopw [4,5] (λlf i wr=>∃k:Nat,k<=l.length/\i=.i k/\Hid (wr.ownsRow (w.heap.size+1) 82 6 lf k (flatK (l.take k)))/\Hid (Below (w.heap.size+1) (w.alloc (.cells (.q nm C (.slice Q R cv)) 82)) wr)/\Hid (∀j (hj:j<l.length),j<k->Op.bytesLess l[j].1.toList nm.toList=true)) (λ_ i _=>l.length-(intOf i).toNat)
  case atStart=>exact⟨0,zo,rfl,⟨by simp[flatK],Or.inl ⟨rfl,rfl⟩⟩,zj,λj _ hj=>absurd hj zo⟩
  case round=>
   obtain⟨k,hk,rfl,K,y,L⟩:=hrel;obtain⟨cb,fb,-,d⟩:=G.out _ y.out;have b0:wr.cell? (.a w 0)=.s nm:=d 0;have b8:w.heap.size+1<=wr.heap.size:=by have:=y.out.size;simp at this;omega
   have k0:(0:Int)<=(k:Int):=zo;have HW:Hid (∀m,(wr.drewN m).ownsRow (w.heap.size+1) 82 6 u4 k (flatK (l.take k))):=λm=>K.out;have M:=zu (λm=>abg y.out m);by_cases E:k<l.length
   .obtain⟨g,bc,U,_,_,hg,f⟩:=dU H.out zo;cases U;have O:∀j,j<6->wr.cell? (.a g (k*6+j))=(fU l[k])[j]? :=λj hj=>by
     have bL:k*6+j<l.length*6:=zo;have V:(flatK l)[k*6+j]?=some ((fU l[k])[j]'(by simpa[fU] using hj)):=by
      rw[q6 l k E j hj];simp
     rw[y.out.cell (p:=(.a g (k*6+j))) (show g<w+1 by omega),abp _ _ _ hg,f _ _ bL V];simp
    have c0:wr.cell? (.a g (k*6))=.s l[k].1:=O 0 zo;have c1:wr.cell? (.a g (k*6+1))=.i (l[k].2.1 0):=O 1 zo;have c2:wr.cell? (.a g (k*6+2))=.i (l[k].2.1 1):=O 2 zo;have c3:wr.cell? (.a g (k*6+3))=.i (l[k].2.1 2):=O 3 zo;have c4:wr.cell? (.a g (k*6+4))=.i (l[k].2.1 3):=O 4 zo;have c5:wr.cell? (.a g (k*6+5))=some l[k].2.2:=O 5 zo;have b9:(k:Int)<(l.length:Int):=zo;have ca:=bB.out _ (IS E);have HF:Hid (Op.bytesLess l[k].1.toList nm.toList=false->dP l nm=k):=λh=>GI L.out hk λ_=>h;have HA:Hid (Op.bytesLess l[k].1.toList nm.toList=true->∀j (hj:j<l.length),j<k+1->Op.bytesLess l[j].1.toList nm.toList=true):=λW j hj cW=>by
     by_cases e:j=k
     .subst e;exact W
     .exact L.out j hj zo
    have HE:=zu (ZE l k E);clear O f L d K y;generalize l[k]=q at*;obtain⟨na,cq,vs⟩:=q;obtain⟨aq,mq,kq,bN⟩:=ca;simp only at bN;subst bN;simp only at c0 c1 c2 c3 c4 c5;cases Z:Op.bytesLess na.toList nm.toList with
    |true=>
     have cc:=zu (HA.out Z);clear HA HF;go_wp2_with fail;go_quiet (fail);go_wp2_with (first
      |(at_builtin;refine abq _ rfl _ _ _ rfl (w.heap.size+1) 82 i0 _ 6 72 aC.underlying43 T a1 a6 a7 rfl zo u4 _ _ rfl ((HW.out _).alloc _) (.a wr 0) 1 1 [.s na,.i (cq 0),.i (cq 1),.i (cq 2),.i (cq 3),.slice aq mq kq] rfl rfl (aaT (cs:=(.q na cq (.slice aq mq kq))) (t:=82) (fr:=(0,0)) (By _ _)) zv zo ze zo zt (wr.heap.size+1) zp ?_;intro gg F w2 I J bR bd))
     refine⟨⟨k+1,zo,by go_num,?_,?_,cc⟩,zi⟩
     .rw[HE.out];exact I
     .exact pA (HW.out _) (M.out _) zt J
    |false=>
     have bo:=zu (HF.out Z);clear HA HF;go_wp2_with fail;go_quiet (fail);go_wp2_with fail;go_meet;rw[bo.out];exact⟨rfl,HW.out _,M.out _⟩
   .obtain rfl:k=l.length:=zo;have bo:=zu (GI L.out hk λh=>absurd h zo);clear d L;go_wp2_with fail;go_quiet (fail);go_wp2_with fail;go_meet;rw[bo.out];exact⟨rfl,HW.out _,M.out _⟩
 case rest=>
  have bm:=wQ l nm;have ab:=F9 l nm;have bn:dP l nm<=gQ l nm:=by unfold gQ;split<;>omega
  have an:Hid (flatK (fc l (nm,C,.slice Q R cv))=flatK (l.take (dP l nm))++ [.s nm,.i (C 0),.i (C 1),.i (C 2),.i (C 3),.slice Q R cv]++flatK (l.drop (gQ l nm))):=Zz l _;have ao:Hid ((fc l (nm,C,.slice Q R cv)).length=dP l nm+1+(l.length-gQ l nm)):=E3 l _;obtain⟨h,hh⟩: ∃h,dP l nm=h:=⟨_,rfl⟩
  obtain⟨x,hx⟩: ∃x,gQ l nm=x:=⟨_,rfl⟩
  rw[hh]at hcut bm bn an ao;rw[hx]at ab bn an ao;obtain⟨rfl,K,y⟩:=hcut;obtain⟨cd,_,-,d⟩:=G.out _ y;have HW:=zu K;have M:=zu y;have HH:=zu hh;have HX:=zu hx;have b8:w.heap.size+1<=wc.heap.size:=by have:=y.size;simp at this;omega
  have b0:wc.cell? (.a w 0)=.s nm:=d 0;have b1:wc.cell? (.a w 1)=.i (C 0):=d 1;have b2:wc.cell? (.a w 2)=.i (C 1):=d 2;have b3:wc.cell? (.a w 3)=.i (C 2):=d 3;have b4:wc.cell? (.a w 4)=.i (C 3):=d 4;have b5:wc.cell? (.a w 5)=some (.slice Q R cv):=d 5;clear K y d hh hx;go_upto_region 7 with (first
   |(at_builtin;refine abq _ rfl _ _ _ rfl (w.heap.size+1) 82 i0 _ 6 72 aC.underlying43 T a1 a6 a7 rfl zo u4 _ _ rfl (HW.out.alloc _) (.a wc 0) 1 1 [.s nm,.i (C 0),.i (C 1),.i (C 2),.i (C 3),.slice Q R cv] rfl rfl (aaT (cs:=(.q nm C (.slice Q R cv))) (t:=82) (fr:=(0,0)) (By _ _)) zv zo ze zo zt (wc.heap.size+1) zp ?_;intro gg F w2 I J bR bd;have cj:=zu I;have a8:=zu (pA HW.out M.out zo J);clear I J bR bd))
  clear cd b0 b1 b2 b3 b4 b5;obtain⟨cb,fb,-,d⟩:=G.out _ a8.out;have b0:w2.cell? (.a w 0)=.s nm:=d 0;clear d;have h0:(0:Int)<=(h:Int):=zo;go_cut [61] from 42 to 61 (λi wx=>i=.bool (decide (x=h+1))/\∃m,wx=w2.drewN m)
  case first=>
   by_cases E:h<l.length
   .obtain⟨g,bc,U,_,_,hg,f⟩:=dU H.out zo;cases U;have c0:w2.cell? (.a g (h*6))=.s l[h].1:=by
     have V:(flatK l)[h*6+0]?=.s l[h].1:=by
      rw[q6 l h E 0 zo];rfl
     rw[a8.out.cell (p:=(.a g (h*6))) (show g<w+1 by omega),abp _ _ _ hg];exact f _ _ zo V
    have b9:(h:Int)<(l.length:Int):=zo;by_cases W:l[h].1=nm
    .have hd:=tN W;have ar:Hid (x=h+1):=by have:=HX.out;rw[Ch HH.out E W]at this;exact this.symm
     clear W f;generalize l[h].1=na at*;go_wp2_with fail;go_quiet (fail);go_wp2_with fail;go_meet;exact⟨by simp[ar.out],_,rfl⟩
    .have hd:=rM W;have ar:Hid (x=h):=by have:=HX.out;rw[BE HH.out E W]at this;exact this.symm
     clear W f;generalize l[h].1=na at*;go_wp2_with fail;go_quiet (fail);go_wp2_with fail;go_meet;exact⟨by simp[ar.out],_,rfl⟩
   .obtain rfl:h=l.length:=zo;have ar:Hid (x=l.length):=by have:=HX.out;rw[zS HH.out E]at this;exact this.symm
    go_wp2_with fail;go_quiet (fail);go_wp2_with fail;go_meet;exact⟨by simp[ar.out],_,rfl⟩
  case rest=>
   obtain⟨rfl,m,rfl⟩:=hcut;have ck:Hid (x=h+1\/x=h):=by
    rcases abw h l.length with E|cY
    .by_cases W:l[h].1=nm
     .exact Or.inl (HX.out.symm.trans (Ch HH.out E W))
     .exact Or.inr (HX.out.symm.trans (BE HH.out E W))
    .exact Or.inr (HX.out.symm.trans (zS HH.out zo))
   go_upto_if 61 with fail;go_cut [5] from 62 to 63 (λi wx=>i=.i (x:Nat)/\wx=w2.drewN m)
   case first=>
    rcases ck.out with ay|ay
    .have hd:decide (x=h+1)=true:=by simpa using ay
     go_wp2_with fail;go_meet;exact⟨by rw[ay];go_num,rfl⟩
    .have hd:decide (x=h+1)=false:=by simp[ay]
     go_wp2_with fail;go_meet;exact⟨by rw[ay],rfl⟩
   case rest=>
    obtain⟨rfl,rfl⟩:=hcut;have S:Hid ((w2.drewN m).ownsRow (w.heap.size+1) 82 6 (.l gg (h+1) F) (h+1) (flatK (l.take h)++ [.s nm,.i (C 0),.i (C 1),.i (C 2),.i (C 3),.slice Q R cv])):=cj.out;have az:=zu (abg a8.out m);have zm:=a8.out.size;simp only[eK]at zm;have x0:(0:Int)<=(x:Int):=zo;have xl:(x:Int)<=(l.length:Int):=zo;have xc:(l.length:Int)<=(cap:Int):=zo;have bT:=zu ((show flatK (l.drop l.length)= [] by simp[flatK]));rcases H.out.2 with⟨cl,cm⟩|⟨g,bc,c6,hv,_,hh,_,_,_,ht⟩
    .injection cl with e1 e2 e3;obtain rfl:l= []:=acP cm;obtain rfl:x=0:=by simpa using ab
     obtain rfl:h=0:=by simpa using bm
     subst e1 e3;simp only[abM]at cb;have cn:Hid ((w2.drewN m).heap[b]?=.c #[.i n,.slice none 0 0] 45):=(G.out _ az.out).2.2.1;clear x0 xl xc;go_wp2_with (first
      |(at_builtin;refine wpList_append_own_none rfl _ _ _ rfl (w.heap.size+1) 82 i0 6 aC.underlying43 T (.l gg (0+1) F) _ _ rfl S.out rfl ?_))
     go_end0;refine⟨rfl,.l gg (0+1) F,?_,?_,?_⟩
     .rw[heap_set cn.out];rfl
     .have:=jq (o:=1) (val:=.l gg (0+1) F) S.out (show b<w+1 by omega);rw[an.out,ao.out];exact bU (by simpa[flatK] using this) zo
     .exact Fr.setCell (X:=λk=>k=b) (Fr.cQ ((zj.alloc zf _).trans (az.out.mono zo))) (Or.inr rfl) _
    cases hv;have hg:=(IN.1 hh).1;have bb:Hid (∀t u,t<l.length*6->(flatK l)[t]?=some u->w.cell? (.a g t)=some u):=λt u h1 h2=>by
     rw[<-ht,abQ,BY h1]at h2;simp only[World.cell?,hh];simpa using h2
    clear hh ht;by_cases cp:cap=x
    .have cr:x=l.length:=zo;have c7:cap-x=0:=zo;have c8:(x:Int)=(cap:Int):=zo;subst cp;go_wp2_with (first
      |(at_builtin;refine wpList_append_own_at _ rfl _ _ _ rfl (w.heap.size+1) 82 i0 _ 6 72 aC.underlying43 T a1 a6 a7 rfl zo (.l gg (h+1) F) _ _ rfl S.out (.a g 0) 0 0 [] rfl rfl (λj u hj=>by simp at hj) (λu hu=>by simp at hu) ze zo zt ?_;intro v3 w3 z D P aA;obtain⟨aB,N,rfl,-,-⟩:=cz z;have bp:=zu z;have aE:=zu (q7 S.out az.out zt D);obtain⟨cw,cA,aT,-⟩:=G.out _ aE.out;have br:Hid _:=aT;clear z D P aA aT))
     go_end0;refine⟨rfl,.slice aB (h+1+0) N,?_,?_,?_⟩
     .rw[heap_set br.out];rfl
     .have:=jq (o:=1) (val:=.slice aB (h+1+0) N) bp.out (show b<w+1 by omega);rw[an.out,ao.out,cr,bT.out,Nat.sub_self];exact bU this zo
     .exact Fr.setCell (X:=λk=>k=b) (Fr.cQ ((zj.alloc zf _).trans (aE.out.mono zo))) (Or.inr rfl) _
    .have cI:(x:Int)<(cap:Int):=zo;have cK: ¬cap-x=0:=zo;have HN:=zu (Yi bb.out ab az.out hg);have bZ:Hid (∀u∈flatK (l.drop x),u.oneCell'=true):=T3 λq hq=>bB.out q (List.mem_of_mem_drop hq);go_wp2_with (first
      |(at_builtin;refine wpList_append_own_at _ rfl _ _ _ rfl (w.heap.size+1) 82 i0 _ 6 72 aC.underlying43 T a1 a6 a7 rfl zo (.l gg (h+1) F) _ _ rfl S.out (.a g (x*6)) (l.length-x) (cap-x) (flatK (l.drop x)) rfl (by rw[xq,List.length_drop]) HN.out bZ.out ze zo zt ?_;intro v3 w3 z D P aA;obtain⟨aB,N,rfl,-,-⟩:=cz z;have bp:=zu z;have aE:=zu (q7 S.out az.out zt D);obtain⟨cw,cA,aT,-⟩:=G.out _ aE.out;have br:Hid _:=aT;clear z D P aA aT))
     go_end0;refine⟨rfl,.slice aB (h+1+(l.length-x)) N,?_,?_,?_⟩
     .rw[heap_set br.out];rfl
     .have:=jq (o:=1) (val:=.slice aB (h+1+(l.length-x)) N) bp.out (show b<w+1 by omega);rw[an.out,ao.out];exact bU this zo
     .exact Fr.setCell (X:=λk=>k=b) (Fr.cQ ((zj.alloc zf _).trans (aE.out.mono zo))) (Or.inr rfl) _
theorem aC.vu:(aC.prog.info? 9).map (λi=>(i.zero,i.size,i.bytes))=some (.s ⟨#[]⟩,1,16):=zk
def pU(q:aY):Nat:=match q.2.2 with
 |.slice _ m _=>m
 |_=>0
def iG(l:List aY):List Value:=(l.filter λq=>decide (0<pU q)).map λq=>.s q.1
theorem R4(l:List aY)(k:Nat)(h:k<l.length):iG (l.take (k+1))=iG (l.take k)++if 0<pU l[k] then [.s l[k].1] else []:=by
 unfold iG;rw[List.take_add_one,abG h];grind
theorem M0(l:List aY)(k:Nat):(iG (l.take k)).length<=l.length:=by
 unfold iG;grind
theorem OP(b n:Nat)(sv:ag)(l:List aY)(w:af)(h:jX w b n sv l)(D:∀q∈l,∃ad m cap,q.2.2=.slice ad m cap/\m<=8000000)(hlen:l.length<=1900000000000):
  Calls aC.prog 69 #[.p b] w λe w'=>∃v',e=.r v'/\w'.ownsRow w 9 1 v' (iG l).length (iG l)/\Below w w w':=by
 obtain⟨ad,cap,rfl,V,ao⟩:=cz h.2;have M:=(IN.1 h.1).1;have H:Hid _:=h.2;have HC:=zu ((aH h.1).1);have N:Hid _:=D;obtain⟨i0,O,P,Q,R⟩:=aaY aC.vu;clear h D;go_enter aC.func69,aC.ntmps69;go_wp2;go_loopw [3,4] (λlf i wr=>∃k:Nat,k<=l.length/\i=.i k/\Hid (wr.ownsRow w 9 1 lf (iG (l.take k)).length (iG (l.take k)))/\Hid (Below w w wr)) (λ_ i _=>l.length-(intOf i).toNat)
 case atStart=>exact⟨0,zo,rfl,⟨by simp[iG],Or.inl ⟨rfl,by simp[iG]⟩⟩,zj⟩
 case round=>
  obtain⟨k,hk,rfl,d,c⟩:=hrel;have cb:wr.cell? (.a b 1)=some (.slice ad l.length cap):=by
   rw[c.out.cell (p:=(.a b 1)) M,HC.out];rfl
  have k0:(0:Int)<=(k:Int):=zo;have aq:=c.out.size;by_cases u:k<l.length
  .obtain⟨g,W,E,_,_,hg,f⟩:=dU H.out zo;cases E;have x:∀j,j<6->wr.cell? (.a g (k*6+j))=(fU l[k])[j]? :=λj hj=>by
    have F:k*6+j<l.length*6:=zo;have G:(flatK l)[k*6+j]?=some ((fU l[k])[j]'(by simpa[fU] using hj)):=by
     rw[q6 l k u j hj];simp
    rw[c.out.cell (p:=(.a g (k*6+j))) hg,f _ _ F G];simp
   have c0:wr.cell? (.a g (k*6))=.s l[k].1:=x 0 zo;have c5:wr.cell? (.a g (k*6+5))=some l[k].2.2:=x 5 zo;have ar:(k:Int)<(l.length:Int):=zo;have S:=N.out _ (IS u);have K:Hid _:=R4 l k u;have T:Hid _:=M0 l k;clear x f;generalize l[k]=q at*;obtain⟨I,Z,vs⟩:=q;obtain⟨av,L,cv,J,ay⟩:=S;simp only at J;subst J;simp only at c0 c5;by_cases hm:0<L
   .have hd:(0:Int)<(L:Int):=zo;have y:Hid (iG (l.take (k+1))=iG (l.take k)++ [.s I]):=by
     have:=K.out;rw[BY (show 0<pU (I,Z,.slice av L cv) from hm)]at this;exact this
    have az:=T.out;clear K T;go_wp2_with (first
     |(at_builtin;refine abq _ rfl _ _ _ rfl w 9 i0 _ 1 16 aC.underlying27 O P Q R rfl zo u3 _ _ rfl (d.out.alloc _) (.a wr 0) 1 1 [.s I] rfl rfl (aaT (cs:=#[.s I]) (t:=9) (fr:=(0,0)) (By _ _)) zv zo ze zo zt (wr.heap.size+1) zp ?_;intro gg ab w2 z C aA an))
    refine⟨⟨k+1,zo,by go_num,?_,?_⟩,zi⟩
    .rw[y.out,abo];exact z
    .exact pA d.out c.out zo C
   .have U:L=0:=zo;subst U;have y:Hid (iG (l.take (k+1))=iG (l.take k)):=by
     have:=K.out;rw[AT (show¬0<pU (I,Z,.slice av 0 cv) from by simp[pU]),abU]at this;exact this
    clear K T hm;go_wp2;exact⟨⟨k+1,zo,by go_num,by rw[y.out];exact d,c⟩,zi⟩
  .have HK:Hid (List.take k l=l):=acK zo;go_wp2;go_ret;refine⟨_,rfl,?_,c.out⟩
   have:=d.out;rw[HK.out]at this;exact this
end Go.Proofs.YtldmcdeibiclkaaGreatQ
section
namespace Go.Proofs
open Go.Shelf Go.RowKit Go.Lib Go.Sort
namespace YtldmcdeibiclkaaGreatQ
def eM(ss:List (List UInt8)):List Value:=ss.map encStr
def mn(ss:List (List UInt8)):List (List UInt8):=ss.mergeSort λx y=>decide (x<=y)
def DC(a:List (List UInt8)):(mn a).Perm a:=List.mergeSort_perm a _
def Kg(a:List (List UInt8)):(mn a).length=a.length:=(DC a).length_eq
def OS(blk c cap:Nat)(d:List (List UInt8))(w:af)(g:Holds encStr w blk c d.toArray)(hblk:blk<w)(f:d.length<4611686018427387904):
  Calls aC.prog 91 #[.slice (.a blk c) d.length cap] w λe w'=>e=.r (.tuple #[])/\∃n os,w'=grow (putRow encStr (Sort.ahead w n) blk c (mn d).toArray) os:=
 AnyM.slices_Sort_string aC.wU blk c cap d w g hblk f
def Ye(p:Option Addr)(cap:Nat)(w:af):Calls aC.prog 91 #[.slice p 0 cap] w λe w'=>e=.r (.tuple #[])/\w'=w:=
 AnyM.slices_Sort_string_none aC.wU p cap w
theorem PV(B:Nat)(v:ag)(a:List (List UInt8))(w:af)(h:w.ownsRow B 9 1 v a.length (eM a))(i:a.length<4611686018427387904):
  Calls aC.prog 91 #[v] w λe w'=>e=.r (.tuple #[])/\w'.ownsRow B 9 1 v a.length (eM (mn a))/\w.grownBy w' v.ownBlock:=by
 obtain⟨I,l⟩:=h;rcases l with⟨rfl,l⟩|⟨g,cap,c,rfl,u,f,m,x,hs,y⟩
 .obtain rfl:a= []:=acP l;have z:eM (mn [])= []:=by simp[eM,mn]
  exact(Ye none 0 w).mono λe w' ⟨C,s⟩=>⟨C,by rw[s,z];exact abh _ _ _ _,by rw[s];exact⟨rfl,rfl,rfl,zf,λ_ _ _=>rfl⟩⟩
 have d:=(IN.1 f).1;have D:Holds encStr w g 0 a.toArray:=by
  intro j hj;have p:j<a.length:=by simpa using hj
  refine⟨?_,by simp[World.frozen?,f]⟩;have E:(eM a)[j]?=some (encStr a[j]):=by simp[eM,p]
  rw[<-y,abQ,BY zo]at E;simp only[World.cell?,f,Nat.zero_add];grind
 refine(OS g 0 cap a w D d i).mono ?_;rintro e w' ⟨rfl,n,os,rfl⟩;have hlen:=Kg a;refine⟨rfl,?_,?_⟩
 .have hb:(grow (putRow encStr (Sort.ahead w n) g 0 (mn a).toArray) os).heap[g]?=some (.cells (putCells encStr 0 (mn a).toArray c) 9 (0,0)):=by
   rw[heap_grow_old _ _ (by simp_all)];simp[putRow,mapBlock,Sort.ahead,abR,f,onCells]
  refine⟨by simp[eM,hlen],Or.inr ⟨g,cap,_,rfl,u,hb,m,x,by simp[putCells,hs],?_⟩⟩;apply adh;intro t;by_cases F:t<a.length
  .rw[abQ,BY zo,Array.getElem?_toList];have G:t<c.size:=by rw[hs];omega
   have H:t<(mn a).length:=zo;simp only[putCells,Array.getElem?_mapIdx,abI G,aca];rw[BY ⟨zo,zt⟩];simp only[eM,ada,abG H,aca,Nat.sub_zero];grind
  .rw[adi zt,adi (by simp[eM];omega)]
 .refine⟨rfl,rfl,rfl,by simp_all,λk J q=>?_⟩;rw[heap_grow_old _ _ (by simp_all)];simp only[putRow,mapBlock,Sort.ahead,abR];rw[AT (λe=>q (by subst e;rfl))]
end YtldmcdeibiclkaaGreatQ
end Go.Proofs
end
namespace Go.Proofs.YtldmcdeibiclkaaGreatQ
variable {w:af}{v:ag}{b:Nat}{A:aa}
open Go.RowKit
theorem y7(w:af)(X Y Z:Obj):(((w.alloc X).alloc Y).alloc Z).heap[w.heap.size+1+1]?=some Z:=by
 simpa using By ((w.alloc X).alloc Y) Z
theorem Pr(w:af)(X Y Z:Obj):(((w.alloc X).alloc Y).alloc Z).heap[w.heap.size]?=some X:=by
 rw[aaO _ _ _ zt,aaO _ _ _ zp];exact By w X
theorem zZ{base:Nat}{e:ak}{size:Nat}{n:Nat}{xs:ae}(h:w.ownsRow base e size v n xs){g:Nat}(a:v.ownBlock=some g):base<=g/\g<w:=by
 rcases h.2 with⟨c,_⟩|⟨d,cap,f,hv,hb,i,_⟩
 .rw[c]at a;cases a
 .rw[hv]at a;have:d=g:=by simpa[Value.ownBlock] using a
  grind
theorem KG{w3 w4:af}{c:ag}{X:Obj}(hb:w.heap[b]?=some X)(d:w.grownBy w3 v.ownBlock)(e:w3.grownBy w4 c.ownBlock)(f:some b≠v.ownBlock)(g:some b≠c.ownBlock):w4.heap[b]?=some X:=by
 have a:=(IN.1 hb).1;rw[e.block b (abc a d.size) g,d.block b a f,hb]
theorem Tc{w1:af}{B C:aa}{d e a:ak}(hb:Below (w.heap.size+3) (((w.alloc (.cells A d)).alloc (.cells B e)).alloc (.cells C a)) w1):
  w1.heap[w.heap.size+1+1]?=.c C a:=by
 rw[hb.block _ zo];exact y7 w _ _ _
theorem Hn{t:ak}(h:w.heap[b]?=.c A t):(∀o,w.cell? (.a b o)=A[o]?)/\(∀o,w.frozen? (.a b o)=false):=
 ⟨λo=>by simp[World.cell?,h],λo=>by simp[World.frozen?,h]⟩
theorem Wi(c:Ctx)(sv:ag)(l:List aG)(rep:Nat)(val:ah)(seen:Ctx)(w:af)(h:aU w sv l)(W:∀v∈l,v.rep<4)(hlen:l.length<=8000000)(H:rep<4)(hn:(aS l seen).length<20)(h0:0<=aO c seen rep)(h1:aO c seen rep<1000000):
  Calls aC.prog 33 #[bY c sv,.int .i64 rep,.string val,bz seen] w λe w'=>∃v' G,e=.returned (.tuple #[bY (bump (aO c seen) rep) v',.int .i64 0])/\G.Perm (aS l seen++ [(rep,aO c seen rep+1,val)])/\G.Pairwise (λa b=>bf b a=false)/\w'.ownsRow w.heap.size 117 3 v' G.length (aQ G)/\Below w.heap.size w w':=by
 obtain⟨ad,cap,rfl,Z⟩:=h.len;have H3:Hid (∀a b d,aU (((w.alloc a).alloc b).alloc d) (.slice ad l.length cap) l):=λa b d=>((aaV h a).alloc b).alloc d;have HR:Hid _:=W;clear h W;generalize I:aS l seen=U at*;have HU:Hid _:=I;clear I;go_enter aC.func33,aC.ntmps33;obtain⟨i0,N,O,P,Q⟩:=aaY aC.wJ;rcases dR H with rfl|rfl|rfl|rfl
 all_goals
  go_wp2_with (first
   |(go_at_call 59;refine(sN c _ l seen _ (H3.out _ _ _) HR.out hlen).mono ?_;rintro e w1 ⟨v',rfl,i,hb⟩;rw[HU.out]at i;obtain⟨z,k,R⟩:=qX i;subst R;simp at hb;obtain⟨b0,b1,b2,f0,f1,f2⟩:=nS hb;have HO:Hid _:=bU i (show w.heap.size+3<=_ by simp);have HB:Hid _:=hb;clear i hb)
   |(go_at_call 60;refine(tP c seen _).mono ?_;rintro e w2 ⟨rfl,C⟩;have x:=HB.out.trans (C.mono (by have:=HB.out.size;simp at this;omega));obtain⟨b0,b1,b2,f0,f1,f2⟩:=nS x;have J:Hid _:=x;have D:=zu (bH HO.out C zf);have z2:w.heap.size+1+1<w2.heap.size:=(by have:=x.size;simp at this;omega);clear x C)
   |(at_builtin;refine abq _ rfl _ _ _ rfl (w.heap.size+3) 117 i0 _ 3 32 aC.underlying72 N O P Q rfl zo (.slice z U.length k) _ _ rfl (((D.out.alloc _).alloc _).alloc _) ⟨w2.heap.size+1+1,0,none⟩ 1 1 [.int .i64 _,.int .i64 (aO c seen _+1),.string val] rfl rfl (aaT (cs:=#[.int .i64 _,.int .i64 (aO c seen _+1),.string val]) (t:=117) (fr:=(0,0)) (y7 w2 _ _ _)) zv zo ze zo zt (w2.heap.size+1+1+1) zp ?_;intro g K w3 m j y ab;have L:Hid _:=m;have E:Hid _:=j;have S:Hid _:=y;clear m j y)
   |(go_at_call 61;refine(G7 (w.heap.size+3) _ (U++ [(_,aO c seen _+1,val)]) _ (by have:=L.out;rw[abo,pc];exact this) zp zt).mono ?_;rintro e w4 ⟨rfl,G,n,p,r,f⟩;have s:∀b,b<=w2.heap.size->(b<w.heap.size+3\/b=w2.heap.size)->some b≠(Value.slice z U.length k).ownBlock/\some b≠some g:=(λb hb an=>by
     have key:∀q,(Value.slice z U.length k).ownBlock=some q->b≠q:=λq M=>by have:=zZ D.out M;omega
     refine⟨λe=>key b e.symm rfl,λe=>?_⟩;rcases S.out with h|h
     .exact key g h (by simpa using e)
     .have:b=g:=by simpa using e
      omega);obtain⟨c4,_⟩:=Hn (KG (Pr w2 _ _ _) E.out f (s _ zf (Or.inr rfl)).1 (s _ zf (Or.inr rfl)).2);obtain⟨r4,ao⟩:=Hn (KG (w:=((w2.alloc _).alloc _).alloc _) (b:=w.heap.size+1+1) (by rw[aaO _ _ _ zt,aaO _ _ _ zt,aaO _ _ _ z2];exact Tc J.out) E.out f (s _ zo (Or.inl zo)).1 (s _ zo (Or.inl zo)).2);have T:Hid _:=r;have V:Hid _:=f;have HP:Hid _:=n;have HS:Hid _:=p;clear r f n p s))
  refine abn (v:=.tuple #[bY (bump (aO c seen) _) (.slice (some ⟨g,0,none⟩) (U.length+1) K),.int .i64 0]) ?_ rfl ⟨_,G,rfl,HP.out,HS.out,?_,?_⟩
  .simp[results,aC.results33,go_sem,bump,r4]
  .exact bU (abP (abP (abP (abP (abP T.out zp _) zp _) zp _) zp _) zp _) zo
  .have base:=((zj.alloc zf _).alloc zp _).alloc zt _|>.trans (J.out.mono zo);have u:=(((base.alloc zo _).alloc zt _).alloc zt _).grown E.out zt (λq M=>by have:=zZ D.out M;omega);have F:=u.grown V.out u.size (λq M=>by have:=zZ L.out M;omega);repeat' (with_reducible (first|exact F|refine abm ?_ ?_ _|refine aaU ?_ ?_ _))
   all_goals (first|omega|(simp;omega))
theorem Bs(b num:Nat)(bm:Nat->Nat)(K:aL)(key val:ah)(seen:Ctx)(w:af)(h:aV w b bm num K)(N:mi K)(u:bq key=true)(ao:key.size<=8)(O:val.size<=12)(p:cR seen=true)(x:num<4)(Z:20<=(aS (K key).2 seen).length\/(aS (K key).2 seen).length<20/\1000000<=aO (K key).1 seen num):
  Calls aC.prog 13 #[.pointer (some ⟨b,0,none⟩),.string key,.string val,bz seen] w λe w'=>e=.returned (.int .i64 6)/\Below w.heap.size w w':=by
 have hb:=h.1;obtain⟨es,clock,hm,hk,j,_⟩:=h.2.1 _ (kP key);obtain⟨sv,k,f⟩:=j key rfl;obtain⟨ad,cap,rfl,ab⟩:=f.len;have y:∀W:af,W.heap[bm (aZ key)]?=some (.map es clock)->(Instr.lookup 63 (.map (some (bm (aZ key)))) (.s key) false).run aC.prog W=.ok (bY (K key).1 (.slice ad (K key).2.length cap)) W:=λW z=>by
  rw[qx W _ es clock key z hk,k]
 have C:=zu (λW z=>wm b num bm key W ze z);have D:=hb.num;have E:Hid (∀W,Below w w W->gz W b bm num):=λW z=>(h.below z).1;have HL:Hid ((K key).2.length<=8000000):=IT (N key).2.1 zd;have HR:=zu ((N key).1);generalize (K key).1=c at*;generalize (K key).2=l at*;have HV:Hid _:=f;have HN:Hid _:=Z;have P:Hid _:=lH key;have Q:Hid _:=tL val;have R:Hid _:=qK seen;have S:decide (val.size<=12)=true:=by simpa using O
 clear f j k N Z h;generalize m:bm (aZ key)=bms at*;have an:Hid _:=m;clear m;go_enter aC.func13,aC.ntmps13;go_wp2_with (first
  |(go_at_call 29;refine(P.out _ ze).mono ?_;rw[u];rintro e w1 ⟨rfl,rfl⟩)
  |(go_at_call 30;refine(Q.out _ ze).mono ?_;rw[S];rintro e w1 ⟨rfl,rfl⟩)
  |(go_at_call 31;refine(R.out _).mono ?_;rw[p];rintro e w2 ⟨rfl,F⟩;obtain⟨c2,d,aq⟩:=sL F;clear F))
 have T:Hid (∀w',Below w2 w2 w'->gz w' b bm num/\w'.cell? (.a b 0)=.i num/\(Instr.lookup 63 (.map (some bms)) (.s key) false).run aC.prog w'=.ok (bY c (.slice ad l.length cap)) w'/\aU w' (.slice ad l.length cap) l/\w'.cell? (.a (w.heap.size+1) 0)=.i (seen 0)/\w'.cell? (.a (w.heap.size+1) 1)=.i (seen 1)/\w'.cell? (.a (w.heap.size+1) 2)=.i (seen 2)/\w'.cell? (.a (w.heap.size+1) 3)=.i (seen 3)):=λw' n=>
  ⟨E.out _ (bk d n),aX (aX D d) n,y w' (bj (bj hm d) n),(aU.below HV.out d).below n,aX (c2 0) n,aX (c2 1) n,aX (c2 2) n,aX (c2 3) n⟩
 have U:Hid _:=d;clear d c2 y;go_region_held3 (λw'=>gz w' b bm num/\w'.cell? ⟨b,0,none⟩=some (.int .i64 num)/\(Instr.lookup 63 (.map (some bms)) (.string key) false).run aC.prog w'=.ok (bY c (.slice ad l.length cap)) w'/\aU w' (.slice ad l.length cap) l/\w'.cell? ⟨w.heap.size+1,0,none⟩=some (.int .i64 (seen 0))/\w'.cell? ⟨w.heap.size+1,1,none⟩=some (.int .i64 (seen 1))/\w'.cell? ⟨w.heap.size+1,2,none⟩=some (.int .i64 (seen 2))/\w'.cell? ⟨w.heap.size+1,3,none⟩=some (.int .i64 (seen 3)))
  ((refine T.out _ ?_;first|(simp (maxDischargeDepth:=12) [aaP,aaR,aaU,abm];done)|(simp (maxDischargeDepth:=12) [aaP,aaR,aaU,abm,J,G];done)|(simp (maxDischargeDepth:=12) [aaP,aaR,aaU,abm,L,H];done)|(simp (maxDischargeDepth:=12) [aaP,aaR,aaU,abm,V,y4,G,H];done)))
  (first
   |(go_at_call 32;refine AI (C.out _ (by go_split_ands;assumption)) ?_;rintro e M ⟨rfl,q,z6⟩;obtain⟨s1,s2⟩:=mG q;(try simp only[acS,eK]at z6);have L:Below w2 w2 M:=ju q (by first|(simp (maxDischargeDepth:=12) [aaP,aaR,aaU];done)|(simp (maxDischargeDepth:=12) [aaP,aaR,aaU,J,G];done));have H:=L.size;(try (have x6:w2<M.heap.size:=zo));(try (have ar:w3<M.heap.size:=zo));clear q)
   |(go_at_call 34;refine(rH val _ zo).mono ?_;rintro e w3 ⟨rfl,g⟩;obtain⟨q1,q2⟩:=mG g;have J:Below w2 w2 w3:=ju g (by first|(simp (maxDischargeDepth:=12) [aaP,aaR,aaU];done)|(simp (maxDischargeDepth:=12) [aaP,aaR,aaU,L,H];done));have G:=J.size;have z3:=g.size;(try simp only[acS,eK]at z3);(try (have x3:w2<w3.heap.size:=zo));(try (have av:M<w3.heap.size:=zo));clear g)
   |(go_at_call 33;refine(Vx c _ l num val seen _ (by go_split_ands;assumption) HR.out HL.out x HN.out).mono ?_;rintro e w4 ⟨rfl,r⟩;obtain⟨p1,p2⟩:=mG r;have V:Below w2 w2 w4:=ju r (by first|(simp (maxDischargeDepth:=12) [aaP,aaR,aaU,J,G];done)|(simp (maxDischargeDepth:=12) [aaP,aaR,aaU,L,H];done));have y4:=V.size;clear r))
 all_goals
  go_wp2_with (go_at_call 35;go_must (refine(Gz b key (λ_=>0) (.slice none 0 0) 6 _ zd).mono ?_);rintro e w5 ⟨rfl,I⟩;have B5:Below w2 w2 w5:=ju I (by simp (maxDischargeDepth:=12) [aaP,aaR,aaU,abm,V,y4,G,H]);clear I)
  go_ret;exact⟨rfl,bk U.out B5⟩
theorem Vl(n:Int)(w:af)(a:n<0\/3<n):
  Calls aC.prog 11 #[.i n] w λe w'=>e=.r (.tuple #[.pointer none,.i 1])/\w'=w:=by
 rcases a with a|a
 .go_enter aC.func11,aC.ntmps11;go_wp2;go_ret2;exact⟨rfl,rfl⟩
 .have c:0<=n:=zo;have d:4<=n:=zo;go_enter aC.func11,aC.ntmps11;go_wp2;go_ret2;exact⟨rfl,rfl⟩
theorem VJ(b:Nat)(key:ah)(w:af)(a:bq key=false)(c:key.size<=maxLen):
  Calls aC.prog 66 #[.p b,.s key] w λe w'=>e=.r (.tuple #[.slice none 0 0,bz λ_=>0,.i 2])/\Below w w w':=by
 have d:Hid _:=lH key;go_enter aC.func66,aC.ntmps66;go_wp2_with (go_at_call 29;refine(d.out _ c).mono ?_;rw[a];rintro e w1 ⟨rfl,rfl⟩)
 refine abn (v:=.tuple #[.slice none 0 0,bz λ_=>0,.i 2]) ?_ rfl ⟨rfl,?_⟩
 .simp[results,aC.results66,go_sem]
 .simp (maxDischargeDepth:=12) [aaP,aaR,aaU,abm]
theorem Pv(b:Nat)(key val:ah)(seen:Ctx)(w:af)(a:bq key=false)(c:key.size<=maxLen):
  Calls aC.prog 13 #[.p b,.s key,.s val,bz seen] w λe w'=>e=.r (.i 2)/\Below w w w':=by
 have d:Hid _:=lH key;go_enter aC.func13,aC.ntmps13;go_wp2_with (go_at_call 29;refine(d.out _ c).mono ?_;rw[a];rintro e w1 ⟨rfl,rfl⟩)
 go_ret;exact⟨rfl,(zj.alloc zf _).alloc zp _⟩
theorem M1(b:Nat)(key val:ah)(seen:Ctx)(w:af)(a:bq key=true)(c:key.size<=maxLen)(d:val.size<=maxLen)(hv:12<val.size):
  Calls aC.prog 13 #[.p b,.s key,.s val,bz seen] w λe w'=>e=.r (.i 3)/\Below w w w':=by
 have f:Hid _:=lH key;have g:Hid _:=λW=>by
  have:=tL val W d;rw[show decide (val.size<=12)=false from abC zo]at this;exact this
 go_enter aC.func13,aC.ntmps13;go_wp2_with (first
  |(go_at_call 29;refine(f.out _ c).mono ?_;rw[a];rintro e w1 ⟨rfl,rfl⟩)
  |(go_at_call 30;refine(g.out _).mono ?_;rintro e w1 ⟨rfl,rfl⟩))
 go_ret;exact⟨rfl,(zj.alloc zf _).alloc zp _⟩
theorem VM(b:Nat)(key val:ah)(seen:Ctx)(w:af)(a:bq key=true)(d:key.size<=maxLen)(hv:val.size<=12)(f:cR seen=false):
  Calls aC.prog 13 #[.p b,.s key,.s val,bz seen] w λe w'=>e=.r (.i 4)/\Below w w w':=by
 have g:Hid _:=lH key;have j:Hid _:=qK seen;have k:Hid _:=λW=>by
  have:=tL val W ze;rw[show decide (val.size<=12)=true from abJ hv]at this;exact this
 go_enter aC.func13,aC.ntmps13;go_wp2_with (first
  |(go_at_call 29;refine(g.out _ d).mono ?_;rw[a];rintro e w1 ⟨rfl,rfl⟩)
  |(go_at_call 30;refine(k.out _).mono ?_;rintro e w1 ⟨rfl,rfl⟩)
  |(go_at_call 31;refine(j.out _).mono ?_;rw[f];rintro e w2 ⟨rfl,c⟩;obtain⟨c2,l,m⟩:=sL c;clear c))
 go_ret;exact⟨rfl,l⟩
theorem YB(b:Nat)(key:ah)(seen:Ctx)(w:af)(a:bq key=false)(c:key.size<=maxLen):
  Calls aC.prog 15 #[.p b,.s key,bz seen] w λe w'=>e=.r (.i 2)/\Below w w w':=by
 have d:Hid _:=lH key;go_enter aC.func15,aC.ntmps15;go_wp2_with (go_at_call 29;refine(d.out _ c).mono ?_;rw[a];rintro e w1 ⟨rfl,rfl⟩)
 go_ret;exact⟨rfl,(zj.alloc zf _).alloc zp _⟩
theorem Vs(b:Nat)(key:ah)(seen:Ctx)(w:af)(a:bq key=true)(d:key.size<=maxLen)(f:cR seen=false):
  Calls aC.prog 15 #[.p b,.s key,bz seen] w λe w'=>e=.r (.i 4)/\Below w w w':=by
 have g:Hid _:=lH key;have j:Hid _:=qK seen;go_enter aC.func15,aC.ntmps15;go_wp2_with (first
  |(go_at_call 29;refine(g.out _ d).mono ?_;rw[a];rintro e w1 ⟨rfl,rfl⟩)
  |(go_at_call 31;refine(j.out _).mono ?_;rw[f];rintro e w2 ⟨rfl,c⟩;obtain⟨c2,k,l⟩:=sL c;clear c))
 go_ret;exact⟨rfl,k⟩
end Go.Proofs.YtldmcdeibiclkaaGreatQ
