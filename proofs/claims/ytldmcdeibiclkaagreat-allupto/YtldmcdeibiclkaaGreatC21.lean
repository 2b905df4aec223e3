/-
  Toward all_holds
-/
import Derived.Deep.AppendLies
import Derived.Lib.AppendStr
import Derived.Lib.SlBytesRow
import Derived.Below
import Derived.Test.YtldmcdeibiclkaaGreatC01
import Derived.Test.YtldmcdeibiclkaaGreatC16
import Derived.Laws.BitsLemmas
import Derived.Test.YtldmcdeibiclkaaGreatC18
import Derived.Test.YtldmcdeibiclkaaGreatC15
set_option linter.all false
noncomputable section
set_option maxRecDepth 100000
set_option maxHeartbeats 20000000
namespace Go.Proofs.YtldmcdeibiclkaaGreatQ
variable {v v1 sv:ag}{b B:Nat}{w1 w2 w':af}{xs:ae}{e t:ak}{cs:aa}{ops:Array Oper}{rest:List Oper}{o:Oper}
open Go.RowKit
section
open Go.Lib (strCells strCells_length strCells_oneCell)
structure cV(w w':af)(v v':ag):Prop where
 grown:w.grownBy w' v.ownBlock
 xw:∀g,v'.ownBlock=some g->v.ownBlock=some g\/w<=g
theorem cV.refl(w:af)(v:ag):cV w w v v:=⟨⟨rfl,rfl,rfl,zf,λ_ _ _=>rfl⟩,λ_ h=>Or.inl h⟩
theorem cV.trans{w:af}{v2:ag}(h:cV w w1 v v1)(a:cV w1 w2 v1 v2):cV w w2 v v2:=
 ⟨⟨a.grown.os.trans h.grown.os,a.grown.tape.trans h.grown.tape,a.grown.output.trans h.grown.output,IT h.grown.size a.grown.size,λk d f=>(a.grown.block k (abc d h.grown.size) λe=>by
   rcases h.xw k e.symm with c|c
   .exact f c.symm
   .omega).trans (h.grown.block k d f)⟩,
  λg i=>by
   rcases a.xw g i with c|c
   .exact h.xw g c
   .exact Or.inr (IT h.grown.size c)⟩
theorem cV.alloc{w:af}(h:cV w w1 v v1)(o:Obj):cV w (w1.alloc o) v v1:=
 ⟨⟨h.grown.os,h.grown.tape,h.grown.output,IT h.grown.size zp,λk a c=>(aaO w1 o k (abc a h.grown.size)).trans (h.grown.block k a c)⟩,h.xw⟩
theorem cV.other{w:af}(h:cV w w1 v v1){size n:Nat}(c:w.ownsRow B e size v n xs){fr:Nat×Nat}(hb:w.heap[b]?=some (.cells cs t fr))(d:t≠e):w1.heap[b]?=some (.cells cs t fr):=by
 rw[h.grown.block b (IN.1 hb).1,hb];intro a;rcases c.2 with⟨rfl,_⟩|⟨g,cap,f,rfl,_,i,_⟩
 .cases a
 .simp only[Value.ownBlock,aaX]at a;grind
theorem cV.map{w w1:af}{v v1:ag}(h:cV w w1 v v1){B size n:Nat}{e:ak}{xs:ae}(d:w.ownsRow B e size v n xs){b:Nat}{es:Array aw}{c:Nat}(hb:w.heap[b]?=some (.map es c)):w1.heap[b]?=some (.map es c):=by
 rw[h.grown.block b (IN.1 hb).1,hb];intro a;rcases d.2 with⟨rfl,_⟩|⟨g,cap,f,rfl,_,i,_⟩
 .cases a
 .simp only[Value.ownBlock,aaX]at a;grind
theorem cV.toBelow{w0 w:af}(h:cV w w1 v v1)(hb:Below B w0 w)(c:B<=w){size n:Nat}(d:w.ownsRow B e size v n xs):Below B w0 w1:=
 hb.grown h.grown c λk a=>by
  rcases d.2 with⟨rfl,_⟩|⟨g,cap,f,rfl,i,_⟩
  .cases a
  .simp only[Value.ownBlock,aaX]at a;omega
section
variable {P:aj} (w:af)
theorem RA(base:Nat)(t u q e:ak)(i:TypeInfo)(x:P.underlying t=some (.slice e))(y:P.underlying u=some .string)(hi:P.info? e=some i)(A:i.zero=some (.int .u8 0))(f:i.size=1)(k:i.bytes=1)(v:ag)(n:Nat)(xs:ae)(c:w.ownsRow base e 1 v n xs)(s:ah)(r:n+s.size<=maxLen)(h:n+s.size<=140737488355328)(l:base<=w):
  ∃v' w',(Builtin.append_ #[t,u] q #[v,.s s]).run P w=.ok v' w'/\w'.ownsRow base e 1 v' (n+s.size) (xs++strCells s)/\cV w w' v v':=by
 obtain⟨v',w',z,G,H,_⟩:=Go.Lib.run_append_own_string (P:=P) w base t u q e i x y hi A f k v n xs c s r h l;refine⟨v',w',z,G,H,λN j=>?_⟩;rcases c.2 with⟨rfl,rfl⟩|⟨g,cap,m,rfl,C,I,J,K,D,E⟩
 .obtain⟨O,w2,d,L,_⟩:=Go.Lib.run_append_own_string (P:=P) w w t u q e i x y hi A f k (.slice none 0 0) 0 xs ⟨c.1,Or.inl ⟨rfl,rfl⟩⟩ s r h zf;rw[z]at d;cases d;right;rcases L.2 with⟨rfl,_⟩|⟨g,cap,m,rfl,C,_⟩
  .cases j
  .simp only[Value.ownBlock,aaX]at j;omega
 .by_cases p:n+s.size<=cap
  .have F:m.size=cap:=by simpa using D
   have d:=Go.Lib.run_append_room_string (P:=P) w t u q e i x y hi f g n cap m I s p zo;rw[z]at d;cases d;exact Or.inl j
  .have M:xs.length=n:=by simpa using c.1
   have holds:=c.cells (g:=g) rfl;have d:=Go.Lib.run_append_grow_string (P:=P) w t u q e i (.int .u8 0) x y hi A (.a g 0) n cap xs zg holds s zo zo (by rw[k];exact growslice_fits zo zo);rw[z]at d;cases d;simp only[Value.ownBlock,aaX]at j;right;omega
theorem Nv{a:Act}{Q:Exit->Act->af->Prop}(j:o.guard=none)(sl x:ax)(t u:ak)(m:o.op=.call {callee:=.builtin .append,args:=#[sl,x],argTypes:=#[t,u]})(base:Nat)(e:ak)(i:TypeInfo)(p:P.underlying t=some (.slice e))(q:P.underlying u=some .string)(hi:P.info? e=some i)(r:i.zero=some (.int .u8 0))(d:i.size=1)(k:i.bytes=1)(v:ag)(n:Nat)(xs:ae)(hs:a.eval sl=v)(g:w.ownsRow base e 1 v n xs)(s:ah)(y:a.eval x=.s s)(l:n+s.size<=maxLen)(c:n+s.size<=140737488355328)(f:base<=w)(h:∀v' w',w'.ownsRow base e 1 v' (n+s.size) (xs++strCells s)->cV w w' v v'->wpList P ops Q rest (a.put o.dst v') w'):wpList P ops Q (o::rest) a w:=by
 refine wpList_plain j λK z=>?_;obtain⟨v',w',A,C,D⟩:=RA (P:=P) w base t u o.type e i p q hi r d k v n xs g s l c f;unfold Oper.wp execOp;simp only[m,resolve,invoke,builtin,abH,Sem.run_pure,abY,List.map_toArray,abv,List.map_nil,hs,y,A];exact z _ _ (h v' w' C D)
theorem kj{a:Act}{Q:Exit->Act->af->Prop}(r:o.guard=none)(s x:ax)(t:ak)(F:o.op=.call {callee:=.builtin .append,args:=#[s,x],argTypes:=#[t,t]})(base:Nat)(e:ak)(i:TypeInfo)(z:ag)(size bytes:Nat)(G:P.underlying t=some (.slice e))(hi:P.info? e=some i)(H:i.zero=some z)(f:i.size=size)(y:i.bytes=bytes)(A:z.cells.size=size)(C:0<size)(v:ag)(n:Nat)(xs:ae)(hs:a.eval s=v)(q:w.ownsRow base e size v n xs)(ad:Addr)(m c:Nat)(news:ae)(I:a.eval x=.slice (some ad) m c)(hl:news.length=m*size)(k:∀j u,news[j]?=some u->w.cell? (ad.add j)=some u)(h1:∀u∈news,u.oneCell'=true)(J:0<m)(D:n+m<=maxLen)(d:(n+m)*bytes<=140737488355328)(p:base<=w)(h:∀g cap w',w'.ownsRow base e size (.l g (n+m) cap) (n+m) (xs++news)->cV w w' v (.l g (n+m) cap)->wpList P ops Q rest (a.put o.dst (.l g (n+m) cap)) w'):wpList P ops Q (o::rest) a w:=
 abq w r s x t F base e i z size bytes G hi H f y A C v n xs hs q ad m c news I hl k h1 J D d p _ rfl λg cap w' K L M _=>
  h g cap w' K ⟨L,λN E=>by
   simp only[Value.ownBlock,aaX]at E;grind⟩
end
end
section
open Go.Lib (strCells strCells_length strCells_oneCell)
theorem aC.ri:(aC.prog.info? 5).map (λi=>(i.zero,i.size,i.bytes))=some (some (.int .u8 0),1,1):=zk
def bF(w:af)(B:Nat)(v:ag)(s:ah):Prop:=w.ownsRow B 5 1 v s.size (strCells s)
def byteOf(z:Int):UInt8:=UInt8.ofNat (z%256).toNat
theorem tW(z:Int):((byteOf z).toNat:Int)=z%256:=by
 have a:=Int.emod_nonneg z (show(256:Int)≠0 by decide);have c:=Int.emod_lt_of_pos z (show(0:Int)<256 by decide);simp only[byteOf,UInt8.toNat_ofNat'];omega
def dp(n:Int):ByteArray:=⟨#[byteOf (n / 16777216),byteOf (n / 65536),byteOf (n / 256),byteOf n]⟩
def aK(n:Int):ByteArray:=⟨#[byteOf n]⟩
def l6(n:Int):(dp n).size=4:=rfl
def dE(n:Int):(aK n).size=1:=rfl
theorem qA(a b:ah):strCells (a++b)=strCells a++strCells b:=by
 simp[strCells,ByteArray.data_append]
theorem bF.of{w:af}{n:Nat}{s t:ah}(h:w.ownsRow B 5 1 v (s.size+n) (strCells s++xs))(a:n=t.size)(c:xs=strCells t):bF w B v (s++t):=by
 subst a c;unfold bF;rw[qA,OF];exact h
def bF.nil(w:af)(B:Nat):bF w B (.slice none 0 0) ByteArray.empty:=abh _ _ _ _
theorem bF.below{w:af}{s:ah}(h:bF w B v s)(hb:Below w w w'):bF w' B v s:=bH h hb zf
def bF.alloc{w:af}{s:ah}(h:bF w B v s)(o:Obj):bF (w.alloc o) B v s:=aaV h o
theorem bF.len{w:af}{s:ah}(h:bF w B v s): ∃ad cap,v=.slice ad s.size cap/\cap<=maxLen/\s.size<=cap:=by
 rcases h.2 with⟨c,d⟩|⟨g,cap,a,hv,_,_,f,i,_⟩
 .grind
 grind
theorem Uu(n:Int):strCells (dp n)= [.int .u8 (n / 16777216%256),.int .u8 (n / 65536%256),.int .u8 (n / 256%256),.int .u8 (n%256)]:=by
 simp[strCells,dp,tW]
theorem kZ(n:Int):strCells (aK n)= [.int .u8 (n%256)]:=by
 simp[strCells,aK,tW]
theorem vY(B:Nat)(v:ag)(s:ah)(n:Int)(w:af)(h:bF w B v s)(q:B<=w)(hlen:s.size+4<=140737488355328):
  Calls aC.prog 124 #[v,.i n] w λe w'=>∃v',e=.r v'/\bF w' B v' (s++dp n)/\cV w w' v v':=by
 obtain⟨p,d,f,j,k⟩:=aaY aC.ri;have H:Hid _:=h;clear h;go_enter aC.func124,aC.ntmps124;go_wp2_with (at_builtin;refine kj _ rfl _ _ _ rfl B 5 p _ 1 1 aC.underlying124 d f j k rfl zo v _ _ rfl (aaV H.out _) (.a w 0) 4 4 _ rfl (by rfl) (aaT (By w _)) zv zo ze zo zt ?_;intro g m w1 c l)
 go_ret;refine⟨_,rfl,bF.of c rfl ?_,(((cV.refl w v).alloc _).trans l)⟩;rw[Uu]
theorem DQ(B:Nat)(v:ag)(s t:ah)(w:af)(h:bF w B v s)(x:B<=w)(hlen:s.size+1+t.size<=140737488355328):
  Calls aC.prog 123 #[v,.s t] w λe w'=>∃v',e=.r v'/\bF w' B v' (s++(aK t.size++t))/\cV w w' v v':=by
 obtain⟨n,f,i,j,k⟩:=aaY aC.ri;have H:Hid _:=h;clear h;go_enter aC.func123,aC.ntmps123;go_wp2_with (first
  |(at_builtin;refine kj _ rfl _ _ _ rfl B 5 n _ 1 1 aC.underlying124 f i j k rfl zo v _ _ rfl (aaV H.out _) (.a w 0) 1 1 _ rfl (by rfl) (aaT (By w _)) zv zo ze zo zt ?_;intro g p w1 d l;have u:Hid _:=d;have q:Hid _:=l;clear d l)
  |(at_builtin;refine Nv _ rfl _ _ _ _ rfl B 5 n aC.underlying124 aC.underlying9 f i j k _ _ _ rfl u.out t rfl ze zo (by have:=q.out.grown.size;simp at this;omega) ?_;intro y w2 c m))
 go_ret;refine⟨_,rfl,?_,(((cV.refl w v).alloc _).trans q.out).trans m⟩;rw[List.append_assoc,Nat.add_assoc]at c;refine bF.of c (by rw[OF,dE]) ?_;rw[qA,kZ]
def kT(d:Int):Nat->ah
 |0=>ByteArray.empty
 |k+1=>kT d k++aK (d / 2 ^ (56-8*k))
def eA(d:Int):ByteArray:=kT d 8
theorem uW(d:Int):∀k,(kT d k).size=k
 |0=>rfl
 |k+1=>by rw[kT,OF,uW d k,dE]
theorem iT(s:ah):s++ByteArray.empty=s:=by
 simp_all
theorem lG(s:ah):ByteArray.empty++s=s:=by
 simp_all
theorem cE(a b c:ah):a++b++c=a++(b++c):=by
 apply acj;simp_all
theorem Ca(B:Nat)(v:ag)(s:ah)(d:Int)(w:af)(h:bF w B v s)(G:B<=w)(hlen:s.size+8<=140737488355328):
  Calls aC.prog 77 #[v,.int .u64 d] w λe w'=>∃v',e=.r v'/\bF w' B v' (s++eA d)/\cV w w' v v':=by
 obtain⟨A,m,n,p,q⟩:=aaY aC.ri;have H:Hid _:=h;clear h;go_enter aC.func77,aC.ntmps77;go_wp2;go_loopw [0,5] (λo i wr=>∃k:Nat,k<=8/\i=.i (56-8*(k:Int))/\Hid (bF wr B o (s++kT d k))/\Hid (cV w wr v o)) (λ_ i _=>((intOf i)+8).toNat)
 case atStart=>exact⟨0,zo,rfl,by show bF _ _ _ _;rw[kT,iT];exact H.out,cV.refl w v⟩
 case round=>
  obtain⟨k,I,rfl,aT,c⟩:=hrel;by_cases C:k<8
  .have g1:(0:Int)<=56-8*(k:Int):=zo;have g2:56-8*(k:Int)<=64:=zo;have D:B<=wr:=by have:=c.out.grown.size;omega
   have E:(s++kT d k).size+1<=140737488355328:=by rw[OF,uW];omega
   have F:=zu ((show(56-8*(k:Int)).toNat=56-8*k by omega));have u:Hid _:=aT.out;have x:Hid _:=c.out;clear aT c;generalize f:s++kT d k=st at*;have y:Hid _:=f.symm;clear f;go_wp2_with (at_builtin;refine kj _ rfl _ _ _ rfl B 5 A _ 1 1 aC.underlying124 m n p q rfl zo u0 _ _ rfl (aaV u.out _) (.a wr 0) 1 1 _ rfl (by rfl) (aaT (By wr _)) zv zo ze zo zt ?_;intro g z w1 j l)
   refine⟨⟨k+1,zo,by go_num,?_,(x.out.alloc _).trans l⟩,zi⟩;show bF _ _ _ _;rw[kT,<-cE,<-y.out];refine bF.of j rfl ?_;rw[kZ,<-F.out]
  .obtain rfl:k=8:=zo;have u:Hid _:=aT.out;have x:Hid _:=c.out;clear aT c;go_wp2;go_ret;exact⟨_,rfl,u.out,x.out⟩
end
section
open Go.Lib (strCells strCells_length strCells_oneCell)
def eU(t:ah):ByteArray:=aK t.size++t
def gf(c:Ctx):Nat->ah
 |0=>ByteArray.empty
 |k+1=>gf c k++dp (c k)
def l9(c:Ctx):ByteArray:=gf c 4
def gq(v:aG):ByteArray:=aK v.rep++(dp v.n++eU v.val)
def dz(l:List aG):ByteArray:=l.foldl (λs v=>s++gq v) ByteArray.empty
def dY(key:ah)(c:Ctx)(l:List aG):ByteArray:=eU key++(l9 c++(dp l.length++dz l))
theorem te(t:ah):(eU t).size=1+t.size:=by rw[eU,OF,dE]
theorem ti(c:Ctx):∀k,(gf c k).size=4*k
 |0=>rfl
 |k+1=>by rw[gf,OF,ti c k,l6];omega
theorem Gn(v:aG):(gq v).size=6+v.val.size:=by
 rw[gq,OF,OF,dE,l6,te];omega
theorem Zt(l:List aG)(v:aG):dz (l++ [v])=dz l++gq v:=by
 simp[dz,acv]
theorem yp{l:List aG}{k:Nat}(h:k<l.length):dz (l.take (k+1))=dz (l.take k)++gq l[k]:=by
 rw[abE h,Zt]
theorem JX(l:List aG):∀k,(dz (l.take k)).size<=(dz l).size:=λk=>by
 have key:∀(m:List aG) (s:ah),s.size<=(m.foldl (λs v=>s++gq v) s).size:=λm=>by
  induction m with
  |nil=>grind
  |cons v m a=>grind
 conv=>rhs;rw[<-adm k l]
 rw[dz,dz,acv];exact key _ _
theorem I1(key:ah)(c:Ctx)(l:List aG):(dY key c l).size=21+key.size+(dz l).size:=by
 simp only[dY,l9,OF,te,ti,l6];omega
def mr(key:ah)(c:Ctx)(sv:ag):List Value:=[.s key,.i (c 0),.i (c 1),.i (c 2),.i (c 3),sv]
theorem aU.mw{w:af}{v':ag}{s:ah}{l:List aG}(h:aU w sv l)(c:bF w B v s)(d:cV w w' v v'):aU w' sv l:=by
 refine⟨h.1,?_⟩;rcases h.2 with f|⟨g,cap,a,hv,hb,i,r⟩
 .exact Or.inl f
 .exact Or.inr ⟨g,cap,a,hv,hb,d.other c i zd,r⟩
theorem pj{w:af}{fr:Nat×Nat}(h:w.heap[b]?=some (.cells cs t fr))(o:Nat):w.cell? (.a b o)=cs[o]? :=by
 simp[World.cell?,h]
theorem mH(w:af)(x o:Obj):((w.alloc x).alloc o).heap[w.heap.size+1]?=some o:=by
 have:=By (w.alloc x) o;simpa using this
theorem Fh(B:Nat)(v:ag)(s key:ah)(c:Ctx)(sv:ag)(l:List aG)(w:af)(h:bF w B v s)(hB:B<=w)(hv:aU w sv l)(hl:l.length<=8000000)(hlen:s.size+(dY key c l).size<=140737488355328):
  Calls aC.prog 92 #[.agg (mr key c sv).toArray,v] w λe w'=>∃v',e=.returned v'/\bF w' B v' (s++dY key c l)/\cV w w' v v':=by
 obtain⟨i0,ay,az,aA,aB⟩:=aaY aC.ri;rw[I1]at hlen;obtain⟨ad,cap,rfl,bB⟩: ∃ad cap,sv=.slice ad l.length cap/\(cap:Int)<=9223372036854775807:=by
  rcases hv.2 with⟨h1,h2⟩|⟨g,cap,bZ,hv,_,_,_,h3,_⟩
  .exact⟨_,_,by rw[h1,h2],zp⟩
  .exact⟨_,_,hv,by unfold maxLen at h3;omega⟩
 have H:=zu h;have HV:=zu hv;clear h hv;have M:=By w (.cells (.q key c (.slice ad l.length cap)) 152);have aE:Hid ((w.alloc (.cells (.q key c (.slice ad l.length cap)) 152)).heap[w.heap.size]?=.c (.q key c (.slice ad l.length cap)) 152):=M;clear M;have HA:Hid (bF (w.alloc (.cells (.q key c (.slice ad l.length cap)) 152)) B v s):=H.out.alloc _;have aT:Hid (cV w (w.alloc (.cells (.q key c (.slice ad l.length cap)) 152)) v v):=(cV.refl w v).alloc _;simp only[mr];go_enter aC.func92,aC.ntmps92;go_wp2_with (go_at_call 123;refine(DQ B v s key _ HA.out zt zo).mono ?_;rintro e w1 ⟨v1,rfl,N,E⟩;have f:=E.other HA.out aE.out zd;have k1:=pj f 1;have k2:=pj f 2;have k3:=pj f 3;have k4:=pj f 4;have a1:=zu f;have a6:Hid (bF w1 B v1 (s++eU key)):=N;have a7:=zu (aT.out.trans E);simp at k1 k2 k3 k4;clear f N E)
 have b0:Hid (w1.cell? (.a w 1)=.i (c 0)/\w1.cell? (.a w 2)=.i (c 1)/\w1.cell? (.a w 3)=.i (c 2)/\w1.cell? (.a w 4)=.i (c 3)):=⟨k1,k2,k3,k4⟩
 clear k1 k2 k3 k4;go_loopw [1,16] (λo i wr=>∃k:Nat,k<=4/\i=.i k/\Hid (bF wr B o (s++eU key++gf c k))/\Hid (cV w wr v o)/\Hid (wr.heap[w.heap.size]?=.c (.q key c (.slice ad l.length cap)) 152)) (λ_ i _=>4-(intOf i).toNat)
 case atStart=>exact⟨0,zo,rfl,by show bF _ _ _ _;rw[gf,iT];exact a6.out,a7.out,a1.out⟩
 case round=>
  obtain⟨k,hk,rfl,O,F,hb⟩:=hrel;have j:B<=wr:=by have:=F.out.grown.size;omega
  have G:=zu O.out;have D:=zu F.out;have HB:=zu hb.out;clear O F hb;have I:(s++eU key++gf c k).size+4<=140737488355328:=by rw[OF,OF,te,ti];omega
  by_cases m:k<4
  .have HS:Hid (∀n:Int,n=c k->s++eU key++gf c k++dp n=s++eU key++gf c (k+1)):=λn hn=>by rw[hn,gf,cE]
   generalize J:s++eU key++gf c k=st at*;clear J;rcases dR m with rfl|rfl|rfl|rfl
   all_goals
    have b1:=xA;go_wp2_with (go_at_call 124;refine(vY B u1 st _ wr G.out j I).mono ?_;rintro e w2 ⟨v2,rfl,p,d⟩;have u:=d.other G.out HB.out zd;have a8:=zu u;have z:Hid _:=p;have A:=zu (D.out.trans d);clear u p d)
    have R:=z.out;rw[HS.out _ rfl]at R;exact⟨⟨_,zo,by go_num,R,A.out,a8.out⟩,by simp[intOf]⟩
  .obtain rfl:k=4:=zo;have C:Hid (bF wr B u1 (s++eU key++l9 c)):=G.out;clear G;have bL:(s++eU key++l9 c).size+4+(dz l).size<=140737488355328:=by rw[OF,OF,te,l9,ti];omega
   clear I;have k5:=pj HB.out 5;simp at k5;have S:=zu (HV.out.mw H.out D.out);have HE:=zu ((show s++eU key++l9 c++(dp l.length++dz l)=s++dY key c l by simp only[dY,cE]));generalize J:s++eU key++l9 c=st at*;clear J;go_wp2_with (go_at_call 124;refine(vY B u1 st _ wr C.out j zo).mono ?_;rintro e w2 ⟨v2,rfl,p,d⟩;have u:=d.other C.out HB.out zd;have k6:=pj u 5;simp at k6;have z:=zu p;have bb:=zu (S.out.mw C.out d);have A:=zu (D.out.trans d);clear u p d)
   have bc:=zu ((show s++dY key c l=st++dp l.length++dz l by rw[<-HE.out,cE]));clear HE HV S C HB k5 k6 D;have bN:B<=w2:=by have:=A.out.grown.size;omega
   have b2:(st++dp l.length).size+(dz l).size<=140737488355328:=by rw[OF,l6];omega
   generalize bd:st++dp l.length=su at*;clear bd;go_loopw [1,33] (λo i wz=>∃k:Nat,k<=l.length/\i=.i k/\Hid (bF wz B o (su++dz (l.take k)))/\Hid (cV w2 wz v2 o)) (λ_ i _=>l.length-(intOf i).toNat)
   case atStart=>exact⟨0,zo,rfl,by show bF _ _ _ _;rw[ado,show dz []=ByteArray.empty from rfl,iT];exact z.out,cV.refl _ _⟩
   case round=>
    obtain⟨k,hk,rfl,O,F⟩:=hrel;have j:B<=wr:=by have:=F.out.grown.size;omega
    have G:=zu O.out;have D:=zu F.out;clear O F;by_cases m:k<l.length
    .have T:=bb.out.mw z.out D.out;obtain⟨g,bR,U,b3,_,_,c0,c1,c2⟩:=aU.cells T m;cases U;have V:=JX l (k+1);rw[yp m,OF,Gn]at V;have HT:=zu ((show su++dz (l.take k)++gq l[k]=su++dz (l.take (k+1)) by rw[yp m,cE]));have I:(su++dz (l.take k)).size+6+l[k].val.size<=140737488355328:=by rw[OF];omega
     clear V T;have bm:Hid (gq l[k]=aK l[k].rep++(dp l[k].n++eU l[k].val)):=rfl;generalize su++dz (l.take k)=sk at*;generalize gq l[k]=vb at*;generalize l[k].rep=r at*;generalize l[k].n=n at*;generalize l[k].val=val at*;have b4:(k:Int)<(l.length:Int):=zo;have k0:(0:Int)<=(k:Int):=zo;have W:Hid (bF (wr.alloc (.cells #[.i r,.i n,.s val] 117)) B u1 sk):=G.out.alloc _;have bn:Hid ((wr.alloc (.cells #[.i r,.i n,.s val] 117)).heap[wr.heap.size]?=.c #[.i r,.i n,.s val] 117):=By wr _;go_wp2_with (first
      |(at_builtin;refine kj _ rfl _ _ _ rfl B 5 i0 _ 1 1 aC.underlying124 ay az aA aB rfl zo u1 _ _ rfl (aaV W.out _) (.a (wr.heap.size+1) 0) 1 1 _ rfl (by rfl) (aaT (mH wr _ _)) zv zo ze zo zt ?_;intro g3 bT w3 x y;have X:Hid (bF w3 B _ (sk++aK r)):=bF.of x rfl (kZ r).symm;have Y:Hid (cV wr w3 u1 _):=(((cV.refl wr u1).alloc _).alloc _).trans y;have K:=y.other (aaV W.out _) ((aaO _ _ _ zp).trans bn.out) zd;have k7:=pj K 1;simp at k7;have Z:=IT j Y.out.grown.size;have bo:=zu K;clear x y K)
      |(go_at_call 124;refine(vY B _ _ _ w3 X.out Z (by rw[OF,dE];omega)).mono ?_;rintro e w4 ⟨v4,rfl,ab,L⟩;have an:=L.other X.out bo.out zd;have k8:=pj an 2;simp at k8;have bp:=zu ab;have ao:=zu (Y.out.trans L);have aq:=IT j ao.out.grown.size;clear ab L an)
      |(go_at_call 123;refine(DQ B _ _ _ w4 bp.out aq (by rw[OF,OF,dE,l6];omega)).mono ?_;rintro e w5 ⟨v5,rfl,ar,av⟩;have br:Hid (bF w5 B v5 (sk++aK r++dp n++eU val)):=ar;have bs:=zu (ao.out.trans av);clear ar av))
     refine⟨⟨k+1,zo,by go_num,?_,D.out.trans bs.out⟩,zi⟩;show bF _ _ _ _;rw[<-HT.out,bm.out,<-cE,<-cE];exact br.out
    .obtain rfl:k=l.length:=zo;have bx:=zu ((by have:=G.out;rw[abF,<-bc.out]at this;exact this));go_wp2;go_ret;exact⟨_,rfl,bx.out,A.out.trans D.out⟩
end
def hid{p:Prop}(h:p):Hid p:=h
abbrev RS:=ah×Bool
def ba(c:Bool)(r:RS):RS:=(r.1,r.2||!c)
def cT(n:Nat)(r:RS):ah×RS:=if r.2=true\/r.1.size<n then (⟨#[]⟩,(r.1,true)) else (r.1.extract 0 n,(r.1.extract n r.1.size,false))
def dL(p:ah):Nat->Int
 |0=>0
 |k+1=>dL p k*256+kB p k
def be(p:ah):Int:=dL p p.size
def aF(n:Nat)(r:RS):Nat×RS:=((be (cT n r).1).toNat,(cT n r).2)
def bX(r:RS):ah×RS:=cT (aF 1 r).1 (aF 1 r).2
def cM(w:af)(b:Nat)(r:RS):Prop:=w.heap[b]?=.c #[.s r.1,.bool r.2] 212/\r.1.size<=140737488355328
def Rd(w w':af)(b:Nat)(r:RS):Prop:=cM w' b r/\Fr (λk=>k=b) w w'
def Rd.trans{w:af}{s t:RS}(h:Rd w w1 b s)(a:Rd w1 w2 b t):Rd w w2 b t:=⟨a.1,h.2.trans a.2⟩
def cM.lt{w:af}{s:RS}(h:cM w b s):b<w:=(IN.1 h.1).1
theorem cM.below{w:af}{s:RS}(h:cM w b s)(hb:Below w w w1):cM w1 b s:=⟨by rw[hb.block _ h.lt];exact h.1,h.2⟩
def Rd.below{w:af}{s:RS}(h:Rd w w1 b s)(hb:Below w1 w1 w2):Rd w w2 b s:=⟨h.1.below hb,h.2.below hb⟩
def Rd.refl{w:af}{s:RS}(h:cM w b s):Rd w w b s:=⟨h,Fr.refl _ w⟩
def Rd.other{w:af}{k:Nat}{s:RS}{o:Obj}(h:Rd w w1 b s)(a:w.heap[k]?=some o)(c:k≠b):w1.heap[k]?=some o:=h.2.heap a c
theorem Rd.setCell{w:af}{k o:Nat}{s:RS}(h:Rd w w1 b s)(c:w<=k/\k≠b)(v:ag):Rd w (w1.setCell (.a k o) v) b s:=
 ⟨⟨by rw[aaS _ _ _ _ (Ne.symm c.2)];exact h.1.1,h.1.2⟩,h.2.setCell (.inl c.1) v⟩
theorem Rd.set{w:af}{o:Nat}{r s:RS}(h:cM w b r)(hs:s.1.size<=r.1.size)(e:(#[.s r.1,.bool r.2]:aa).setIfInBounds o v=#[.s s.1,.bool s.2]):Rd w (w.setCell (.a b o) v) b s:=by
 refine⟨⟨?_,IT hs h.2⟩,(Fr.refl (λk=>k=b) w).setCell (.inr rfl) _⟩
 have:=heap_set (w:=w) (o:=o) (v:=v) h.1;grind
theorem uZ(b:Nat)(c:Bool)(r:RS)(w:af)(h:cM w b r):
  Calls aC.prog 102 #[.p b,.bool c] w λe w'=>e=.r (.tuple #[])/\Rd w w' b (ba c r):=by
 obtain⟨a,f⟩:=aH h.1;go_enter aC.func102,aC.ntmps102;cases c
 .go_wp2;go_end0;exact⟨rfl,Rd.set h zf (by simp[ba])⟩
 .go_wp2;go_end0;exact⟨rfl,by simpa[ba] using Rd.refl h⟩
theorem D7(b:Nat)(r:RS)(w:af)(h:cM w b r):
  Calls aC.prog 175 #[.p b] w λe w'=>e=.r (.bool r.2)/\w'=w:=by
 obtain⟨c,f⟩:=aH h.1;go_enter aC.func175,aC.ntmps175;go_wp2;go_ret;exact⟨rfl,rfl⟩
def dJ(r:RS):Bool:=!r.2&&decide (r.1.size=0)
theorem Mu(b:Nat)(r:RS)(w:af)(h:cM w b r):
  Calls aC.prog 103 #[.p b] w λe w'=>e=.r (.bool (dJ r))/\w'=w:=by
 obtain⟨s,q⟩:=r;obtain⟨c,f⟩:=aH h.1;go_enter aC.func103,aC.ntmps103;cases q
 .by_cases hs:s.size=0
  .obtain rfl:s=⟨#[]⟩:=by
    obtain⟨d⟩:=s;rw[Array.eq_empty_of_size_eq_zero (show d.size=0 from hs)]
   go_wp2;go_ret;exact⟨rfl,rfl⟩
  .have a:s.toList≠[]:=λe=>hs (by rw[acC]at e;have:=congrArg List.length e;simpa using this);go_wp2;go_ret;simpa[dJ,hs] using a
 .go_wp2;go_ret;exact⟨rfl,rfl⟩
theorem Vg(T:ah)(w:af):
  Calls aC.prog 97 #[.s T] w λe w'=>e=.r (.p w)/\w'=w.alloc (.cells #[.s T,.bool false] 212):=by
 go_enter aC.func97,aC.ntmps97;go_wp2;go_ret;exact⟨rfl,rfl⟩
def mg{n:Nat}{r:RS}(h:r.2=true\/r.1.size<n):cT n r=(⟨#[]⟩,(r.1,true)):=BY h
theorem mA{n:Nat}{s:ah}(h:n<=s.size):cT n (s,false)=(s.extract 0 n,(s.extract n s.size,false)):=AT zt
theorem Ad(n:Nat)(r:RS):(cT n r).1.size<=n:=by
 unfold cT;split
 .exact aaZ _
 simp_all
theorem Kb(b k:Nat)(r:RS)(w:af)(h:cM w b r):
  Calls aC.prog 174 #[.p b,.i k] w λe w'=>e=.r (.s (cT k r).1)/\Rd w w' b (cT k r).2:=by
 obtain⟨s,q⟩:=r;have j:Hid _:=λc=>uZ b c _ w h;obtain⟨c,f⟩:=aH h.1;have hl:(s.size:Int)<=140737488355328:=by have:=h.2;simp only at this;omega
 have m:(0:Int)<=(k:Int):=zo;by_cases n:(k:Int)<=(s.size:Int)
 .have d:=zu ((by have:=j.out true;simp only[ba,Bool.not_true,Bool.or_false]at this;exact this));cases q
  .rw[mA zo];clear h j;go_enter aC.func174,aC.ntmps174;go_wp2_with (go_at_call 102;refine d.out.mono ?_;rintro e w1 ⟨rfl,a⟩;have g:=zu a;obtain⟨c1,l⟩:=aH a.1.1;clear a)
   go_ret;exact⟨rfl,g.out.trans (Rd.set g.out.1 (by simp[acO]) rfl)⟩
  .rw[mg (.inl rfl)];clear h j;go_enter aC.func174,aC.ntmps174;go_wp2_with (go_at_call 102;refine d.out.mono ?_;rintro e w1 ⟨rfl,a⟩;have g:Hid _:=a;obtain⟨c1,l⟩:=aH a.1.1;clear a)
   go_ret;exact⟨rfl,g.out⟩
 .have d:=zu ((by have:=j.out false;simp only[ba,Bool.not_false,Bool.or_true]at this;exact this));rw[mg (.inr (by simp only;omega))];clear h j;go_enter aC.func174,aC.ntmps174;go_wp2_with (go_at_call 102;refine d.out.mono ?_;rintro e w1 ⟨rfl,a⟩;have g:Hid _:=a;obtain⟨c1,l⟩:=aH a.1.1;clear a)
  go_ret;exact⟨rfl,g.out⟩
theorem PF(n:Int)(a:0<=n)(c:n<2 ^ 64):IntKind.u64.wrap n=n:=by rw[IntKind.wrap_u64];omega
theorem Sf(x y:Int)(d:0<=x)(h1:x<72057594037927936)(a:0<=y)(c:y<256):bits .or .u64 (x*256) y=x*256+y:=
 bits_join .u64 64 zd PF 8 _ y zo zo zo a c zo
theorem zE(p:ah)(k:Nat):0<=kB p k/\kB p k<256:=by
 unfold kB;split
 .rename_i h
  have:=p[k].toNat_lt;omega
 .omega
theorem sF(p:ah):∀k,0<=dL p k/\dL p k<256 ^ k
 |0=>by simp[dL]
 |k+1=>by
  have h1:=sF p k;have a:=zE p k;simp only[dL,Int.pow_succ];omega
theorem zW(p:ah){k m:Nat}(a:k<=m):0<=dL p k/\dL p k<256 ^ m:=by
 have h:=sF p k;have:(256:Int) ^ k<=256 ^ m:=by exact_mod_cast Nat.pow_le_pow_right (show 0<256 by decide) a
 omega
theorem A4(b k:Nat)(r:RS)(w:af)(h:cM w b r)(l:k<=8):
  Calls aC.prog 132 #[.p b,.i k] w λe w'=>e=.r (.int .u64 (aF k r).1)/\Rd w w' b (aF k r).2:=by
 have m:=zu (Kb b k r w h);have q:=Ad k r;unfold aF;generalize (cT k r).1=p at*;generalize (cT k r).2=r' at*;clear h;go_enter aC.func132,aC.ntmps132;go_wp2_with (go_at_call 174;refine m.out.mono ?_;rintro e w' ⟨rfl,g⟩;have n:=zu g;clear g)
 go_loop [5,13] (λd i=>∃j:Nat,j<=p.size/\i=.int .i64 j/\d=.int .u64 (dL p j)) (λ_ i=>p.size-(intOf i).toNat)
 case atStart=>exact⟨0,zo,rfl,rfl⟩
 case round=>
  obtain⟨j,hj,rfl,rfl⟩:=hrel;by_cases a:j<p.size
  .have g1:(j:Int)<(p.size:Int):=zo;have c:Hid (dL p (j+1)=dL p j*256+(p[j].toNat:Int)):=by
    show dL p (j+1)=_;rw[dL,sA p j a]
   have g0:(0:Int)<=(j:Int):=zo;have hb:=zW p (show j<=7 by omega);go_wp2;refine⟨⟨j+1,zo,by go_num,?_⟩,zi⟩;have s:=p[j].toNat_lt;rw[c.out,Bu,Sf _ _ hb.1 hb.2 zo zo]
  .obtain rfl:j=p.size:=zo;have f:dL p p.size=((be p).toNat:Int):=(Int.toNat_of_nonneg (sF p p.size).1).symm;rw[f];go_wp2;go_ret;exact⟨rfl,n.out⟩
theorem iM{k:Nat}(m:Nat)(r:RS)(h:k<=m):(aF k r).1<256 ^ m:=by
 have a:=zW (cT k r).1 (IT (Ad k r) h);have:((256 ^ m:Nat):Int)=(256:Int) ^ m:=by norm_cast
 show(be _).toNat<_;unfold be;omega
theorem rF(b:Nat)(r:RS)(w:af)(h:cM w b r):
  Calls aC.prog 98 #[.p b] w λe w'=>e=.r (.i (aF 1 r).1)/\Rd w w' b (aF 1 r).2:=by
 have a:Hid (Calls aC.prog 132 #[.p b,.i 1] w λe w'=>e=.r (.int .u64 (aF 1 r).1)/\Rd w w' b (aF 1 r).2):=A4 b 1 r w h zo;have hi:=iM 1 r zf;generalize aF 1 r=x at*;obtain⟨n,d⟩:=x;have f:(0:Int)<=(n:Int):=zo;have g:(n:Int)<=9223372036854775807:=by simp only at hi;omega
 simp only at*;go_enter aC.func98,aC.ntmps98;go_wp2_with (go_at_call 132;refine a.out.mono ?_;rintro e w' ⟨rfl,c⟩)
 go_ret;exact⟨rfl,c⟩
theorem xI(b:Nat)(r:RS)(w:af)(h:cM w b r):
  Calls aC.prog 176 #[.p b] w λe w'=>e=.r (.i (aF 4 r).1)/\Rd w w' b (aF 4 r).2:=by
 have a:Hid (Calls aC.prog 132 #[.p b,.i 4] w λe w'=>e=.r (.int .u64 (aF 4 r).1)/\Rd w w' b (aF 4 r).2):=A4 b 4 r w h zo;have hi:=iM 4 r zf;generalize aF 4 r=x at*;obtain⟨n,d⟩:=x;have f:(0:Int)<=(n:Int):=zo;have g:(n:Int)<=9223372036854775807:=by simp only at hi;omega
 simp only at*;go_enter aC.func176,aC.ntmps176;go_wp2_with (go_at_call 132;refine a.out.mono ?_;rintro e w' ⟨rfl,c⟩)
 go_ret;exact⟨rfl,c⟩
theorem It(b:Nat)(r:RS)(w:af)(h:cM w b r):
  Calls aC.prog 99 #[.p b] w λe w'=>e=.r (.int .u64 (aF 8 r).1)/\Rd w w' b (aF 8 r).2:=by
 have a:Hid (Calls aC.prog 132 #[.p b,.i 8] w λe w'=>e=.r (.int .u64 (aF 8 r).1)/\Rd w w' b (aF 8 r).2):=A4 b 8 r w h zo;go_enter aC.func99,aC.ntmps99;go_wp2_with (go_at_call 132;refine a.out.mono ?_;rintro e w' ⟨rfl,c⟩)
 go_ret;exact⟨rfl,c⟩
theorem BP(r:RS):(bX r).1.size<256:=by
 have a:=Ad (aF 1 r).1 (aF 1 r).2;have c:=iM 1 r zf;unfold bX;omega
theorem Kv(b:Nat)(r:RS)(w:af)(h:cM w b r):
  Calls aC.prog 193 #[.p b] w λe w'=>e=.r (.s (bX r).1)/\Rd w w' b (bX r).2:=by
 have n:=BP r;have k:=zu (rF b r w h);have l:Hid (∀w1,Rd w w1 b (aF 1 r).2->Calls aC.prog 174 #[.p b,.i (aF 1 r).1] w1 λe w'=>e=.r (.s (bX r).1)/\Rd w w' b (bX r).2):=λw1 a=>(Kb b _ _ w1 a.1).mono λe w' ⟨c,d⟩=>⟨c,a.trans d⟩
 have m:Hid (∀w1,Rd w w1 b (bX r).2->Calls aC.prog 34 #[.s (bX r).1] w1 λe w'=>e=.r (.s (bX r).1)/\Rd w w' b (bX r).2):=λw1 a=>(rH _ w1 zo).mono λe w' ⟨c,d⟩=>⟨c,a.below d⟩
 go_enter aC.func193,aC.ntmps193;go_wp2_with (first
  |(go_at_call 98;refine k.out.mono ?_;rintro e w1 ⟨rfl,f⟩)
  |(go_at_call 174;refine(l.out _ f).mono ?_;rintro e w2 ⟨rfl,g⟩)
  |(go_at_call 34;refine(m.out _ g).mono ?_;rintro e w3 ⟨rfl,j⟩))
 go_ret;exact⟨rfl,j⟩
section
open Go.Lib (strCells strCells_length strCells_oneCell)
structure Rc where
 key:ah
 c:Ctx
 sv:ag
 l:List aG
def lD(rs:List Rc):List Value:=rs.flatMap λr=>mr r.key r.c r.sv
def fy(rs:List Rc):ByteArray:=rs.foldl (λs r=>s++dY r.key r.c r.l) ByteArray.empty
def fD(w:af)(B:Nat)(rv:ag)(rs:List Rc):Prop:=w.ownsRow B 152 6 rv rs.length (lD rs)
theorem CG(a b:List Rc):lD (a++b)=lD a++lD b:=by simp[lD]
theorem WV(rs:List Rc)(k:Nat)(h:k<rs.length)(j:Nat)(hj:j<6):(lD rs)[k*6+j]?=(mr rs[k].key rs[k].c rs[k].sv)[j]? :=by
 induction rs generalizing k with
 |nil=>simp at h
 |cons r rs a=>
  have e:lD (r::rs)=mr r.key r.c r.sv++lD rs:=by simp[lD]
  have d:(mr r.key r.c r.sv).length=6:=rfl;grind
theorem WD(l:List Rc)(r:Rc):fy (l++ [r])=fy l++dY r.key r.c r.l:=by
 simp[fy,acv]
theorem vS{l:List Rc}{k:Nat}(h:k<l.length):fy (l.take (k+1))=fy (l.take k)++dY l[k].key l[k].c l[k].l:=by
 rw[abE h,WD]
theorem CP(l:List Rc):∀k,(fy (l.take k)).size<=(fy l).size:=λk=>by
 have key:∀(m:List Rc) (s:ah),s.size<=(m.foldl (λs r=>s++dY r.key r.c r.l) s).size:=λm=>by
  induction m with
  |nil=>grind
  |cons v m a=>grind
 conv=>rhs;rw[<-adm k l]
 rw[fy,fy,acv];exact key _ _
theorem fD.cells{w:af}{d:ag}{rs:List Rc}(h:fD w B d rs){k:Nat}(m:k<rs.length):
  ∃g cap,d=.l g rs.length cap/\g<w/\rs.length<=cap/\cap<=maxLen/\∀j,j<6->w.cell? (.a g (k*6+j))=(mr rs[k].key rs[k].c rs[k].sv)[j]? :=by
 obtain⟨s,f⟩:=h;rcases f with⟨_,f⟩|⟨g,cap,n,hv,_,i,p,q,hs,r⟩
 .omega
 .refine⟨g,cap,hv,(IN.1 i).1,p,q,λj hj=>?_⟩;rw[<-WV rs k m j hj,<-r,abQ,BY zo];simp[World.cell?,i]
theorem fD.len{w:af}{rs:List Rc}(h:fD w B v rs): ∃ad cap,v=.slice ad rs.length cap/\cap<=maxLen/\rs.length<=cap:=by
 rcases h.2 with⟨c,d⟩|⟨g,cap,a,hv,_,_,f,i,_⟩
 .grind
 grind
theorem vD{w:af}{l:List aG}(h:aU w sv l): ∃ad cap,sv=.slice ad l.length cap:=by
 rcases h.2 with⟨c,d⟩|⟨g,cap,a,hv,_⟩
 .grind
 .exact⟨_,_,hv⟩
theorem KX(B:Nat)(S:ag)(rs:List Rc)(w:af)(h:fD w B S rs)(hv:∀r∈rs,aU w r.sv r.l/\r.l.length<=8000000)(hlen:(fy rs).size<=140737488355328):
  Calls aC.prog 71 #[.slice none 0 0,S] w λe w'=>∃v',e=.r v'/\bF w' w v' (fy rs)/\Below w w w':=by
 obtain⟨ad,cap,rfl,u,X⟩:=h.len;unfold maxLen at u;have H:Hid _:=h;have Y:Hid _:=hv;clear h hv;go_enter aC.func71,aC.ntmps71;go_wp2;go_loopw [0,9] (λo i wr=>∃k:Nat,k<=rs.length/\i=.i k/\Hid (bF wr w o (fy (rs.take k)))/\Hid (Below w w wr)) (λ_ i _=>rs.length-(intOf i).toNat)
 case atStart=>exact⟨0,zo,rfl,bF.nil _ _,zj⟩
 case round=>
  obtain⟨k,hk,rfl,T,hb⟩:=hrel;have F:Hid _:=T.out;have G:Hid _:=hb.out;have I:=hb.out.size;clear T hb;by_cases f:k<rs.length
  .obtain⟨g,U,x,J,_,_,V⟩:=fD.cells H.out f;cases x;have s:=λj hj=>(G.out.cell (p:=(.a g (k*6+j))) J).trans (V j hj);have c0:=s 0 zo;have c1:=s 1 zo;have c2:=s 2 zo;have c3:=s 3 zo;have c4:=s 4 zo;have Z:=s 5 zo;clear V s;simp[mr]at c0 c1 c2 c3 c4 Z;have m:=Y.out rs[k] (IS f);have K:Hid (∀W,Below w w W->aU W rs[k].sv rs[k].l):=λW hW=>bH m.1 hW zf;have L:=m.2;obtain⟨n,d,y⟩:=vD m.1;clear m;have z:=CP rs (k+1);rw[vS f,OF]at z;have HT:=zu ((vS f).symm);generalize fy (rs.take k)=st at*;have M:st.size+(dY rs[k].key rs[k].c rs[k].l).size<=140737488355328:=zo;clear z;generalize rs[k].key=key at*;generalize rs[k].c=c at*;generalize rs[k].sv=sv at*;generalize rs[k].l=l at*;subst y;have ab:(k:Int)<(rs.length:Int):=zo;have k0:(0:Int)<=(k:Int):=zo;have A:Hid (Below w w (wr.alloc (.cells (.q key c (.slice n l.length d)) 152))):=G.out.alloc I _;have C:Hid (bF (wr.alloc (.cells (.q key c (.slice n l.length d)) 152)) w u0 st):=F.out.alloc _;go_wp2_with (go_at_call 92;refine(Fh w u0 st key c (.slice n l.length d) l (wr.alloc (.cells (.q key c (.slice n l.length d)) 152)) C.out zt (K.out _ A.out) L M).mono ?_;rintro e w1 ⟨v1,rfl,D,E⟩;have N:Hid _:=D;have O:Hid _:=E.toBelow A.out zt C.out;clear D E)
   refine⟨⟨k+1,zo,by go_num,?_,O.out⟩,zi⟩;show bF _ _ _ _;rw[<-HT.out];exact N.out
  .obtain rfl:k=rs.length:=zo;have R:Hid (bF wr w u0 (fy rs)):=(by have:=F.out;rw[abF]at this;exact this)
   clear F;go_wp2;go_ret;exact⟨_,rfl,R.out,G.out⟩
end
end Go.Proofs.YtldmcdeibiclkaaGreatQ
section
namespace Go.Proofs
open Go.RowKit Go.Maps Go.Sort Go.Shelf
namespace YtldmcdeibiclkaaGreatQ
open Go.WideElems (Fit rd rg rd_mk)
def NN(m:Nat):AnyZ.SortsIn aC.prog aC.CI Fence.wide m:=
 ⟨λblk a cap d W f hblk c=>callsIn_wide.2 (AnyM.slices_Sort_string aC.wU blk a cap d W f hblk c),
  λp cap W=>callsIn_wide.2 (AnyM.slices_Sort_string_none aC.wU p cap W)⟩
def Tt(a:Option Nat)(W:af):Calls aC.prog 94 #[.map a] W λe w'=>e=.r (.func (.func 126) #[] #[.p W.heap.size])/\w'=W.alloc (.cells #[.map a] 63):=
 callsIn_wide.1 (AnyZ.keys_in aC.Ds Fence.wide 5 trivial rfl a W)
theorem Yw(b nn:Nat)(D0:DataW Unit)(R:ag->Option (DataW Unit×List MemPlace))(w:af)(c:w.ownsMap aC.prog 9 R b nn D0)(f:Maps.size D0<=maxLen)(a:Maps.size D0*16<=140737488355328):
  Calls aC.prog 93 #[.func (.func 126) #[] #[.p w.heap.size]] (w.alloc (.cells #[.map (some b)] 63)) λe w'=>∃(v:ag) (d:List (List UInt8)),e=.r v/\d.Perm (strKeys D0)/\
   w'.ownsRow (w.heap.size+1) 9 1 v d.length ((d.mergeSort (λx y=>decide (x<=y))).map encStr)/\Below (w.alloc (.cells #[.map (some b)] 63)).heap.size (w.alloc (.cells #[.map (some b)] 63)) w':=by
 have i:=c.lt;have g:SeqGives Fence.wide 2 aC.prog 126 #[.p w.heap.size] encStr (λd=>d.Perm (strKeys D0)) (Maps.size D0) (w.alloc (.cells #[.map (some b)] 63)):=
  AnyZ.keys_gives (ρ:=aC.Ht) {aC.Ds with} Fence.wide _ trivial rfl zo w b nn D0 _ zp zp (by
   obtain⟨es,clock,hb,k,hs,l⟩:=c;exact⟨es,clock,(aaO _ _ b i).trans hb,k,hs,l⟩)
 have h:=AnyZ.sorted_in aC.Ue Fence.wide 5 trivial trivial trivial trivial rfl zo (NN _) (enters_of aC.func91 zk rfl) 126 #[.p w.heap.size] trivial (enters_of aC.func126 zk rfl) _ _ f a _ g;refine(callsIn_wide.1 h).mono ?_;rintro e w' ⟨v,d,m,n,j,_,q⟩;rw[show(w.alloc (.cells #[.map (some b)] 63)).heap.size=w.heap.size+1 by simp]at j;exact⟨v,d,m,n,j,q⟩
def rW(e:aw):List UInt8:=match e.key with
 |.s k=>k.data.toList
 |_=>[]
def fE(es:List aw):List (List UInt8):=es.map rW
def uV:ag->Option (DataW Unit×List MemPlace):=λ_=>some (.nil,[])
theorem Y6{e:aw}{k:ah}(a:e.key=.string k)(c:k.size<=maxLen):rd aC.prog 9 uV e=some (.string k.data.toList,.nil):=by
 obtain⟨key,val,born⟩:=e;subst a;exact rd_mk (R:=uV) (yv:=(.nil,[])) (Go.WideMaps.keyOf_string_mk aC.underlying9 c) rfl
theorem VI{w:af}{m:Nat}{es:Array aw}{clock:Nat}{Q:ah->Prop}(h:w.heap[m]?=some (.map es clock))(f:lU Q es.toList clock)(i:∀k,Q k->k.size<=maxLen)(g:es.size<=maxLen):
  ∃D0:DataW Unit,w.ownsMap aC.prog 9 uV m es.size D0/\Maps.size D0=es.size/\(strKeys D0).Perm (fE es.toList):=by
 obtain⟨j,l,n,p⟩:=f;have c:∀x∈es.toList,∃k,x.key=.string k/\rd aC.prog 9 uV x=some (.string k.data.toList,.nil):=λx d=>by
  obtain⟨k,a,q⟩:=p x d;exact⟨k,a,Y6 a (i k q)⟩
 refine⟨_,⟨es,clock,h,⟨g,⟨n,l,j⟩,λx d=>(c x d).elim λk a=>⟨_,a.2⟩⟩,zf,rfl⟩,?_,?_⟩
 .show List.length _=_;rw[(Go.WideShapes.sorted_perm _).length_eq];simp
 .show (List.map _ _).Perm _;refine((Go.WideShapes.sorted_perm _).map _).trans (List.Perm.of_eq ?_);rw[acE,fE];apply aci;intro x d;obtain⟨k,a,r⟩:=c x d;simp[rg,r,strOf,rW,a]
end YtldmcdeibiclkaaGreatQ
end Go.Proofs
end
namespace Go.Proofs.YtldmcdeibiclkaaGreatQ
variable {w:af}{Q:ah->Prop}{B:Nat}{t:ak}{v:ag}{xs:ae}
open Go.RowKit
section
open Go.Lib (strCells strCells_length strCells_oneCell)
theorem aC.JB:(aC.prog.info? 152).map (λi=>(i.zero,i.size,i.bytes))=some (some (.agg #[.s ⟨#[]⟩,.i 0,.i 0,.i 0,.i 0,.slice none 0 0]),6,72):=zk
def jT(ss:List (List UInt8)):List (List UInt8):=ss.mergeSort λx y=>decide (x<=y)
def pq(a:List (List UInt8)):(jT a).Perm a:=List.mergeSort_perm a _
def eG(x:List UInt8):ByteArray:=⟨x.toArray⟩
theorem xQ(k:ah):eG k.data.toList=k:=by
 apply acj;simp[eG]
def iN(K:aL)(es:List aw):List (ah×Ctx×List aG):=(jT (fE es)).map λx=>(eG x,(K (eG x)).1,(K (eG x)).2)
def fW(l:List (ah×Ctx×List aG)):ByteArray:=l.foldl (λs r=>s++dY r.1 r.2.1 r.2.2) ByteArray.empty
def Rc.bP(r:Rc):ah×Ctx×List aG:=(r.key,r.c,r.l)
theorem Cs(rs:List Rc):fy rs=fW (rs.map Rc.bP):=by
 simp[fy,fW,List.foldl_map,Rc.bP]
theorem AW{es:List aw}(h:∀e∈es,∃k,e.key=.s k/\Q k){x:List UInt8}(a:x∈jT (fE es)):Q (eG x):=by
 rw[(pq _).mem_iff,fE,aaW]at a;obtain⟨e,c,rfl⟩:=a;obtain⟨k,d,f⟩:=h e c;simpa[rW,d,xQ] using f
theorem lh{size n:Nat}(h:w.ownsRow B t size v n xs): ∃ad cap,v=.slice ad n cap/\(cap:Int)<=9223372036854775807/\n<=cap:=by
 rcases h.2 with⟨f,i⟩|⟨g,cap,a,hv,_,_,c,d,_⟩
 .grind
 .exact⟨_,_,hv,by unfold maxLen at d;omega,c⟩
theorem xx{n:Nat}(h:w.ownsRow B t 1 v n xs){k:Nat}{x:ag}(c:xs[k]?=some x): ∃g cap,v=.l g n cap/\g<w/\w.cell? (.a g k)=some x:=by
 have j:k<n:=by
  have m:=h.1;grind
 rcases h.2 with⟨_,p⟩|⟨g,cap,f,hv,_,d,q,r,hs,i⟩
 .omega
 .refine⟨g,cap,hv,(IN.1 d).1,?_⟩;rw[<-i,abQ,BY zo]at c;simpa[World.cell?,d] using c
theorem Xq{m:Nat}{es:Array aw}{clock:Nat}(i:w.heap[m]?=some (.map es clock))(d:lU Q es.toList clock)(j:∀k,Q k->k.size<=maxLen)(l:es.size<=300000000000):
  Calls aC.prog 93 #[.func (.func 126) #[] #[.p w.heap.size]] (w.alloc (.cells #[.map (some m)] 63)) λe w'=>∃v:ag,e=.r v/\
   w'.ownsRow (w.heap.size+1) 9 1 v es.size ((jT (fE es.toList)).map encStr)/\Below w w w':=by
 obtain⟨D0,c,g,a⟩:=VI i d j ze;refine(Yw m es.size D0 uV w c (by rw[g];unfold maxLen;omega) (by rw[g];omega)).mono ?_;rintro e w1 ⟨v,n,rfl,h,aT,hb⟩;have f:=mergeSort_of_perm (h.trans a);have hl:n.length=es.size:=by rw[(h.trans a).length_eq,fE,abe,Array.length_toList]
 rw[f,hl]at aT;exact⟨v,rfl,aT,(zj.alloc zf _).trans (hb.mono zp)⟩
theorem JI(m n:Nat)(K:aL)(w:af)(es:Array aw)(clock:Nat)(hm:w.heap[m]?=some (.map es clock))(hk:gk es.toList)(D:∀s,aZ s=n->∃sv,(cS es.toList s).getD pH=bY (K s).1 sv/\aU w sv (K s).2)(G:lU (λk=>aZ k=n/\k.size<=281474976710656/\bq k=true) es.toList clock)(av:es.size<=300000000000):
  Calls aC.prog 72 #[.map (some m)] w λe w'=>∃v rs,e=.r v/\fD w' w v rs/\(∀r∈rs,aU w' r.sv r.l)/\rs.map Rc.bP=iN K es.toList/\Below w w w':=by
 obtain⟨j,H⟩: ∃j:ah->ag,∀s,aZ s=n->(cS es.toList s).getD pH=bY (K s).1 (j s)/\aU w (j s) (K s).2:=by
  have:∀s,∃v,aZ s=n->(cS es.toList s).getD pH=bY (K s).1 v/\aU w v (K s).2:=λs=>by
   by_cases hs:aZ s=n
   .obtain⟨sv,h⟩:=D s hs;exact⟨sv,λ_=>h⟩
   .exact⟨.slice none 0 0,λh=>(hs h).elim⟩
  exact⟨λs=>(this s).choose,λs hs=>(this s).choose_spec hs⟩
 have E:∀x∈jT (fE es.toList),aZ (eG x)=n:=λx hx=>(AW G.2.2.2 hx).1;have O:(jT (fE es.toList)).length=es.size:=by rw[(pq _).length_eq,fE,abe,Array.length_toList]
 have R:=(IN.1 hm).1;have ay:Hid (∀s,aZ s=n->∀W:af,W.heap[m]?=some (.map es clock)->(Instr.lookup 63 (.map (some m)) (.s s) false).run aC.prog W=.ok (bY (K s).1 (j s)) W):=λs hs W hW=>by
  rw[qx W m es clock s hW hk,(H s hs).1]
 have HM:Hid _:=hm;have az:=zu (λs hs=>(H s hs).2);have f:Hid _:=E;have q:Hid _:=Tt (some m) w;have u:Hid _:=Xq hm G (λk h=>by have:=h.2.1;unfold maxLen;omega) av;have I:Hid (iN K es.toList=(jT (fE es.toList)).map λx=>(eG x,(K (eG x)).1,(K (eG x)).2)):=rfl;clear H D hk G E hm;generalize iN K es.toList=ro at*;obtain⟨i0,aA,aB,aE,aT⟩:=aaY aC.JB;go_enter aC.func72,aC.ntmps72;go_wp2_with (first
  |(go_at_call 94;refine AI q.out ?_;rintro e w1 ⟨rfl,rfl⟩)
  |(go_at_call 93;refine AI u.out ?_;rintro e w1 ⟨v1,rfl,d,S⟩;obtain⟨ad,cap,rfl,bd,bo⟩:=lh d;have F:Hid _:=d;have C:Hid _:=S;clear d S))
 clear q u;have y:=C.out.size;obtain⟨L,hL⟩: ∃L,L=jT (fE es.toList):=⟨_,rfl⟩
 rw[<-hL]at O F f I;clear hL;obtain⟨rs,z⟩: ∃rs:List Rc,rs=L.map λx=>⟨eG x,(K (eG x)).1,j (eG x),(K (eG x)).2⟩:=⟨_,rfl⟩
 have bp:rs.length=es.size:=by rw[z,abe,O]
 have T:Hid (∀k (h:k<rs.length),rs[k].sv=j rs[k].key/\rs[k].c=(K rs[k].key).1/\rs[k].l=(K rs[k].key).2/\aZ rs[k].key=n/\(L.map encStr)[k]?=.s rs[k].key):=λk h=>by
  subst z;rw[abe]at h;refine⟨zp,zp,zp,by simpa using f.out _ (IS h),?_⟩;rw[ada,abG h];simp[encStr,eG]
 have U:=zu ((show rs.map Rc.bP=ro by rw[I.out,z,acE];rfl));have V:Hid (∀r∈rs,aU w r.sv r.l):=λr N=>by
  subst z;obtain⟨x,hx,rfl⟩:=aaW.1 N;exact az.out _ (f.out x hx)
 clear z I f;go_loopw [3,10] (λo i wr=>∃k:Nat,k<=rs.length/\i=.i k/\Hid (fD wr w1 o (rs.take k))/\Hid (Below w1 w1 wr)) (λ_ i _=>rs.length-(intOf i).toNat)
 case atStart=>exact⟨0,zo,rfl,abh _ _ _ _,zj⟩
 case round=>
  obtain⟨k,hk,rfl,N,hb⟩:=hrel;have HR:Hid _:=N.out;have X:Hid _:=hb.out;have Y:=hb.out.size;clear N hb;by_cases J:k<rs.length
  .obtain⟨e1,e2,e3,e4,e5⟩:=T.out k J;obtain⟨g,bm,a1,a6,hc⟩:=xx F.out e5;cases a1;have br:=(X.out.cell (p:=(.a g k)) a6).trans hc;have Z:=(X.out.block m zo).trans ((C.out.block m R).trans HM.out);have a7:=ay.out _ e4 wr Z;have ab:=V.out _ (IS J);obtain⟨a8,an,A⟩:=vD ab;have HT:Hid _:=abE J;have HF:=zu ((show lD [rs[k]]= [.s rs[k].key,.i (rs[k].c 0),.i (rs[k].c 1),.i (rs[k].c 2),.i (rs[k].c 3),.slice a8 rs[k].l.length an] by rw[<-A];rfl));rw[<-e1,<-e2,A]at a7;have ao:(rs.take k).length=k:=by rw[acN];omega
   have bb:=zu ((show(rs.take (k+1)).length=k+1 by rw[acN];omega));have aq:=zu ((by have:=HR.out;unfold fD at this;rw[ao]at this;exact this));clear HR e1 e2 e3 e4 e5 ab A hc Z ao;generalize hq:rs[k]=rk at*;clear hq;generalize rk.key=key at*;generalize rk.c=c at*;generalize rk.l.length=len at*;have bs:(k:Int)<(es.size:Int):=zo;have k0:(0:Int)<=(k:Int):=zo;go_wp2_with (at_builtin;refine kj _ rfl _ _ _ rfl w1 152 i0 _ 6 72 aC.underlying126 aA aB aE aT rfl zo u3 _ _ rfl (aaV aq.out _) (.a wr 0) 1 1 _ rfl (by rfl) (aaT (By wr _)) zv zo ze zo zt ?_;intro g2 bn w2 M ar)
   refine⟨⟨k+1,zo,by go_num,?_,?_⟩,zi⟩
   .show fD _ _ _ _;unfold fD;rw[bb.out,HT.out,CG,HF.out];exact M
   .exact ar.toBelow (X.out.alloc Y _) zt (aaV aq.out _)
  .obtain rfl:k=rs.length:=zo;have bc:Hid (fD wr w1 u3 rs):=(by have:=HR.out;rw[abF]at this;exact this)
   clear HR;go_wp2;go_ret;refine⟨_,rs,rfl,bU bc.out y,λr N=>?_,U.out,C.out.trans (X.out.mono y)⟩;exact bH (V.out r N) (C.out.trans (X.out.mono y)) zf
end
end Go.Proofs.YtldmcdeibiclkaaGreatQ
