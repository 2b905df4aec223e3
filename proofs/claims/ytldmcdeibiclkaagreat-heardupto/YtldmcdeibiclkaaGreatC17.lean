/-
  Toward all_holds
-/
import Derived.Test.YtldmcdeibiclkaaGreatC16
import Derived.Laws.MakeOwn
import Derived.Deep.RegionHeld3
import Derived.Test.YtldmcdeibiclkaaGreatC01
import Derived.Test.YtldmcdeibiclkaaGreatC15
import Derived.WalkKit
import Derived.Maps.AppendAt
import Derived.Laws.AppendOwnNone
set_option linter.all false
noncomputable section
set_option maxRecDepth 100000
set_option maxHeartbeats 20000000
namespace Go.Proofs.YtldmcdeibiclkaaGreatQ
variable {w wr W w2 w1:af}{v z x y sv:ag}{t e ta tb:ak}{xs:ae}{B b o:Nat}{M A:aa}{X:Obj}{d:Ctx}
open Go.RowKit
theorem heap_set{fr:Nat×Nat}(h:w.heap[b]?=some (.cells M t fr)):(w.setCell (.a b o) v).heap[b]?=some (.cells (M.setIfInBounds o v) t fr):=by
 simp[World.setCell,abR,h]
def ew{c f:Nat}(h:c≠b):(w.setCell (.a b o) v).cell? (.a c f)=w.cell? (.a c f):=World.cell?_of_block (aaS w (.a b o) v c h)
def Gu{fr:Nat×Nat}(h:w.heap[b]?=some (.cells M t fr)):(((w.setCell (.a b o) x).setCell (.a b (o+1)) y).setCell (.a b (o+2)) z).heap[b]?=some (.cells (((M.setIfInBounds o x).setIfInBounds (o+1) y).setIfInBounds (o+2) z) t fr):=
 heap_set (heap_set (heap_set h))
theorem Zb{k:Nat}(hs:k*3+2<M.size)(h:M.toList.take (k*3)=xs):(((M.setIfInBounds (k*3) x).setIfInBounds (k*3+1) y).setIfInBounds (k*3+2) z).toList.take ((k+1)*3)=xs++ [x,y,z]:=by
 subst h;apply adh;intro t;have hl:(M.toList.take (k*3)).length=k*3:=zt;by_cases a:t<k*3
 .rw[abQ,BY zo,List.getElem?_append_left zo,abQ,BY a];grind
 .rw[adg zo,hl];by_cases c:t<(k+1)*3
  .rw[abQ,BY c];grind
  grind
theorem aC.rJ:(aC.prog.info? 88).map (λi=>(i.zero,i.size,i.bytes))=some (some (.agg #[.i 0,.i 0,.s ⟨#[]⟩]),3,32):=zk
theorem Ii(l:List aG)(k:Nat)(h:k<l.length):aQ (l.take (k+1))=aQ (l.take k)++ [.i l[k].rep,.i l[k].n,.s l[k].val]:=by
 rw[abE h,pc];simp[aQ,dT]
theorem Zc{bo k:Nat}(f:Below ((wr.alloc X).drew).heap.size ((wr.alloc X).drew) w1)(g:wr.heap[bo]?=.c M t)(hs:k*3+2<M.size):
  w1.heap[bo]?=.c M t/\(∃x,w1.cell? (.a bo (k*3))=some x)/\(∃x,w1.cell? (.a bo (k*3+1))=some x)/\(∃x,w1.cell? (.a bo (k*3+2))=some x)/\(∀o,w1.frozen? (.a bo o)=false)/\Below wr wr w1:=by
 have i:=(IN.1 g).1;have h:=((zj.alloc zf _).drew).trans (f.mono (by simp[World.drew]));have e:=bj g h;refine⟨e,⟨M[k*3],?_⟩,⟨M[k*3+1],?_⟩,⟨M[k*3+2],?_⟩,λo=>by simp[World.frozen?,e],h⟩
 .simp only[World.cell?,e];simp
 .simp only[World.cell?,e];simp
 .simp only[World.cell?,e];simp
def Mz(w:af)(l:List aG)(k:Nat)(wr:af):Prop:=
 ∃M:aa,wr.heap[w.heap.size]?=.c M 88/\M.size=l.length*3/\M.toList.take (k*3)=aQ (l.take k)/\Below w w wr
theorem Sx(sv:ag)(l:List aG)(w:af)(h:aU w sv l)(hlen:l.length<=8000000)(q:∀v∈l,v.val.size<=281474976710656):
  Calls aC.prog 90 #[sv] w λe w'=>∃v',e=.r v'/\w'.ownsRow w 88 3 v' l.length (aQ l)/\Below w w w':=by
 obtain⟨ad,cap,rfl,V⟩:=h.len;obtain⟨Z,E,F,G,I⟩:=aaY aC.rJ;have u:=run_make (P:=aC.prog) w 67 88 Z _ aC.underlying67 E F .i64 .i64 l.length l.length zo zo (by rw[I];omega) zo;rw[G]at u;simp only[Int.toNat_natCast]at u;have O:=size_madeCells (Value.agg #[.i 0,.i 0,.s ⟨#[]⟩]).cells (l.length*3);generalize madeCells (Value.agg #[.i 0,.i 0,.s ⟨#[]⟩]).cells (l.length*3)=M at u O;have H:Hid _:=h;have HV:Hid _:=q;have HM:Hid _:=O;clear h q O E F G I;go_enter aC.func90,aC.ntmps90;go_wp2;go_loopw [11] (λi wr=>∃k:Nat,k<=l.length/\i=.i k/\Mz w l k wr) (λi _=>l.length-(intOf i).toNat)
 case atStart=>exact⟨0,zo,rfl,M,By w _,HM.out,by simp[aQ],zj.alloc zf _⟩
 case round=>
  obtain⟨k,hk,rfl,hrel⟩:=hrel;by_cases C:k<l.length
  .obtain⟨g,Y,J,Q,_,_,c0,c1,c2⟩:=aU.cells H.out C;cases J;have R:Hid _:=HV.out _ (IS C);have S:Hid _:=Ii l k C;generalize l[k].rep=r at*;generalize l[k].n=n at*;generalize l[k].val=s at*;have hs:=R.out;obtain⟨T,K,j,f,hb⟩:=hrel;have ab:=(IN.1 K).1;have d0:=(hb.cell (p:=(.a g (k*3))) Q).trans c0;have d1:=(hb.cell (p:=(.a g (k*3+1))) Q).trans c1;have d2:=(hb.cell (p:=(.a g (k*3+2))) Q).trans c2;have an:(k:Int)<(l.length:Int):=zo;have k0:(0:Int)<=(k:Int):=zo;have Hc:Hid _:=And.intro c0 (And.intro c1 c2);have D:Hid _:=And.intro K (And.intro j (And.intro f hb));clear c0 c1 c2 K j f hb;have L:k*3+2<T.size:=by rw[D.out.2.1];omega
   have hH:=D.out.1;have c:wr≠w.heap.size:=zo;go_wp2_with fail;go_region_held3 (λw'=>w'.cell? (.a wr 0)=.i r/\w'.cell? (.a wr 1)=.i n/\w'.cell? (.a wr 2)=.s s)
    (first|go_keep|(go_split_ands;exact⟨aX (by assumption) m,aX (by assumption) m,aX (by assumption) m⟩)|(go_split_ands;exact⟨by rw[ew c,ew c,ew c];assumption,by rw[ew c,ew c,ew c];assumption,by rw[ew c,ew c,ew c];assumption⟩))
    (first|(go_at_call 34;refine(rH s _ hs).mono ?_;rintro e w1 ⟨rfl,m⟩;obtain⟨m0,⟨x0,m1⟩,⟨x1,m2⟩,⟨x2,m3⟩,m4,m5⟩:=Zc m hH L))
   go_wp2;refine⟨⟨k+1,zo,by go_num,_,Gu m0,by simp only[acW];exact D.out.2.1,?_,?_⟩,zi⟩
   .rw[S.out];exact Zb L D.out.2.2.1
   .exact (((D.out.2.2.2.trans (m5.mono D.out.2.2.2.size)).setCell zf _).setCell zf _).setCell zf _
  .have U:k=l.length:=zo;have HK:Hid (List.take k l=l):=acK zo;have N:Hid _:=hrel;clear hrel;go_wp2;go_ret;obtain⟨T,K,j,f,hb⟩:=N.out;refine⟨_,rfl,⟨by rw[sX],Or.inr ⟨w,l.length,T,rfl,zf,K,zf,ze,j,?_⟩⟩,hb⟩;rw[HK.out,U]at f;exact f
theorem Rf{P:aj}(h:(P.info? t).map (·.zero)=some (some z))(w:af):(zeroValue t).run P w=.ok z w:=by
 cases a:P.info? t with
 |none=>simp[a]at h
 |some i=>
  have c:i.zero=some z:=by simpa[a] using h
  simp[zeroValue,typeInfo,a,c]
def tD:Array Value:=#[Value.int .i64 0]++Array.replicate 64 (Value.map none)
theorem KL:tD.size=65:=by simp[tD]
theorem Yo:(tD=#[])=False:=by simp[tD]
theorem aC.Ul:(aC.prog.info? 66).map (·.zero)=some (some (.agg tD)):=zk
def aC.Lb(w:af):(zeroValue 66).run aC.prog w=.ok (.agg tD) w:=Rf aC.Ul w
def nB:aL:=λ_=>(λ_=>0,[])
def mi(K:aL):Prop:=∀s,(∀v∈(K s).2,v.rep<4)/\(K s).2.length<=5000000/\(∀v∈(K s).2,v.val.size<=12)/\∀i,i<4->0<=(K s).1 i/\(K s).1 i<=1000000
def xP(w:af)(num k:Nat)(bm:Nat->Nat)(wr:af):Prop:=
 (∃A:aa,wr.heap[w.heap.size]?=.c A 66/\A.size=65/\A[0]?=.i num/\∀n,n<k->A[n+1]?=some (.map (some (bm n))))/\
 (∀n,n<k->w.heap.size<bm n/\wr.heap[bm n]?=some (.map #[] 0))/\(∀n m,n<k->m<k->bm n=bm m->n=m)/\Below w w wr
theorem xP.step{w wr:af}{num k:Nat}{bm:Nat->Nat}(h:xP w num k bm wr)(u:k<64):
  xP w num (k+1) (λn=>if n=k then wr.heap.size else bm n) ((wr.setCell (.a w (1+k)) (.map (some wr))).alloc (.map #[] 0)):=by
 obtain⟨⟨A,p,s,C,D⟩,j,E,q⟩:=h;have c:=(IN.1 p).1;have f:(wr.setCell (.a w (1+k)) (.map (some wr))).heap.size=wr.heap.size:=by simp[World.setCell]
 have r:=λn i=>(IN.1 (j n i).2).1;refine⟨⟨A.setIfInBounds (k+1) (.map (some wr)),by rw[aaO _ _ _ (by rw[f];exact c),acV];exact heap_set p,by simpa using s,?_,λn i=>?_⟩,λn i=>?_,λn m i F G=>?_,(q.setCell zf _).alloc (by rw[f];exact q.size) _⟩
 .grind
 .grind
 .dsimp only;by_cases e:n=k
  .subst e;rw[BY rfl];refine⟨c,?_⟩
   have:=By (wr.setCell (.a w (1+n)) (.map (some wr))) (.map #[] 0);grind
  .rw[AT e];have g:n<k:=zo;refine⟨(j n g).1,?_⟩;have l:bm n≠w.heap.size:=zg;rw[aaO _ _ _ zg,aaS _ _ _ _ l];exact(j n g).2
 grind
theorem XX(n:Nat)(w:af)(g:n<4):
  Calls aC.prog 11 #[.i n] w λe w'=>∃b bm,e=.r (.tuple #[.p b,.i 0])/\w<=b/\(∀m,m<64->w.heap.size<=bm m)/\aV w' b bm n nB/\Below w w w':=by
 have F:(n:Int)<4:=zo;go_enter aC.func11,aC.ntmps11;have G:∀W:af,(Instr.makeMap 63 none).run aC.prog W=.ok (.map (some W)) (W.alloc (.map #[] 0)):=λW=>rfl;have Q:=aC.Lb;have H:=Yo;go_wp2;go_loopw [15] (λq wr=>∃k:Nat,k<=64/\q=.i k/\∃bm,xP w n k bm wr) (λq _=>64-(intOf q).toNat)
 case atStart=>
  refine⟨0,zo,rfl,λ_=>0,⟨_,By w _,by simp[KL],by simp[KL],λn g=>absurd g zo⟩,λn g=>absurd g zo,λn m g=>absurd g zo,zj.alloc zf _⟩
 case round=>
  obtain⟨k,R,rfl,bm,hrel⟩:=hrel;by_cases u:k<64
  .have k1:(k:Int)<64:=zo;have S:(0:Int)<=(k:Int):=zo;have C:Hid _:=hrel.step u;obtain⟨⟨A,j,I,_,_⟩,_⟩:=hrel;have c:=(IN.1 j).1;have f:(wr.alloc (.map #[] 0)).cell? (.a w (k+1))=some A[k+1]:=by
    rw[abp _ _ _ c];simp[World.cell?,j]
   have l:(wr.alloc (.map #[] 0)).cell? (.a w (1+k))=some A[k+1]:=by rw[acV];exact f
   have J:∀o,(wr.alloc (.map #[] 0)).frozen? (.a w o)=false:=λo=>by
    rw[World.frozen?_alloc_past _ _ _ c];simp[World.frozen?,j]
   clear j;go_wp2;refine⟨⟨k+1,zo,by go_num,λn=>if n=k then wr.heap.size else bm n,?_⟩,zi⟩;exact C.out
  .obtain rfl:k=64:=zo;have K:Hid _:=hrel;clear hrel;go_wp2;go_ret2;obtain⟨⟨A,j,I,L,N⟩,E,O,P⟩:=K.out;exact⟨w,bm,rfl,zf,λm D=>by have:=(E m D).1;omega,⟨⟨A,j,L,N⟩,λm D=>⟨#[],0,(E m D).2,by simp[gk],λs _=>⟨.slice none 0 0,rfl,⟨rfl,Or.inl ⟨rfl,rfl⟩⟩⟩,by simp[lU],λs h=>absurd rfl h⟩,O⟩,P⟩
theorem Y7{q:Nat}{B:aa}(g:Below ((((w.alloc (.cells A ta)).drewN q).alloc (.cells B tb)).drew).heap.size ((((w.alloc (.cells A ta)).drewN q).alloc (.cells B tb)).drew) w1):
  (∀o,w1.cell? (.a w o)=A[o]?)/\(∀o,w1.frozen? (.a w o)=false)/\(∀o,w1.cell? (.a (w.heap.size+1) o)=B[o]?)/\Below (w.heap.size+2) ((w.alloc (.cells A ta)).alloc (.cells B tb)) w1:=by
 have f:Below ((w.alloc (.cells A ta)).alloc (.cells B tb)).heap.size ((w.alloc (.cells A ta)).alloc (.cells B tb)) w1:=Kz g rfl rfl rfl rfl;have h:((w.alloc (.cells A ta)).alloc (.cells B tb)).heap.size=w.heap.size+2:=zp;rw[h]at f;have i:w1.heap[w.heap.size]?=.c A ta:=by
  rw[f.block _ zo,aaO _ _ _ zp];exact By w _
 have j:w1.heap[w.heap.size+1]?=.c B tb:=by
  rw[f.block _ zo];simpa using By (w.alloc (.cells A ta)) (.cells B tb)
 exact⟨λo=>by simp[World.cell?,i],λo=>by simp[World.frozen?,i],λo=>by simp[World.cell?,j],f⟩
theorem Zp(w:af)(A B:aa)(ta tb:ak)(q o:Nat):((((w.alloc (.cells A ta)).drewN q).alloc (.cells B tb)).drew).cell? ⟨w.heap.size+1,o,none⟩=B[o]? :=by
 have e:(((w.alloc (.cells A ta)).drewN q).alloc (.cells B tb)).heap[w.heap.size+1]?=.c B tb:=by
  have:=By ((w.alloc (.cells A ta)).drewN q) (.cells B tb);simp_all
 have a:((((w.alloc (.cells A ta)).drewN q).alloc (.cells B tb)).drew).heap[w.heap.size+1]?=.c B tb:=e;simp only[World.cell?,a];simp
def Ru(w:af)(A B:aa)(ta tb:ak)(q o:Nat):(((w.alloc (.cells A ta)).drewN q).alloc (.cells B tb)).cell? (.a (w.heap.size+1) o)=B[o]? :=Zp w A B ta tb q o
theorem QJ(b num:Nat)(bm:Nat->Nat)(K:aL)(key:ah)(w:af)(h:aV w b bm num K)(D:mi K)(p:bq key=true)(I:key.size<=8):
  Calls aC.prog 66 #[.pointer (some ⟨b,0,none⟩),.string key] w λe w'=>∃v',e=.returned (.tuple #[v',bz (K key).1,.int .i64 0])/\w'.ownsRow w.heap.size 88 3 v' (K key).2.length (aQ (K key).2)/\Below w.heap.size w w':=by
 obtain⟨es,clock,E,J,j,_⟩:=h.2.1 _ (kP key);obtain⟨sv,k,n⟩:=j key rfl;obtain⟨ad,cap,rfl,G⟩:=n.len;have L:∀W:af,W.heap[bm (aZ key)]?=some (.map es clock)->(Instr.lookup 63 (.map (some (bm (aZ key)))) (.s key) false).run aC.prog W=.ok (bY (K key).1 (.slice ad (K key).2.length cap)) W:=λW N=>by
  rw[qx W _ es clock key N J,k]
 have r:=(IN.1 E).1;have O:∀X,(w.alloc X).heap[bm (aZ key)]?=some (.map es clock):=λX=>by
  rw[aaO _ _ _ r];exact E
 have u:Hid _:=λX=>B2 b num bm key _ ze (h.below (zj.alloc zf X)).1;have C:=lH key;have P:Hid ((K key).2.length<=8000000):=IT (D key).2.1 zd;have Q:Hid (∀v∈(K key).2,v.val.size<=281474976710656):=λv hv=>by have:=(D key).2.2.1 v hv;omega
 generalize (K key).1=c at*;generalize (K key).2=l at*;have R:Hid _:=n;have F:Hid _:=C;clear n C j k D h E;generalize bm (aZ key)=bms at*;go_enter aC.func66,aC.ntmps66;go_wp2_with (first
  |(go_at_call 29;refine(F.out _ ze).mono ?_;rw[p];rintro e w1 ⟨rfl,rfl⟩)
  |(go_at_call 32;refine AI (u.out _) ?_;rintro e w0 ⟨rfl,q,rfl⟩))
 have f:w.heap.size+1≠w.heap.size:=zo;have S:Hid (∀A B,aU ((((w.alloc A).drewN q).alloc B).drew) (.slice ad l.length cap) l):=λA B=>(show aU ((((w.alloc A).drewN q).alloc B)) _ _ from aaV (show World.ownsRow ((w.alloc A).drewN q) 0 117 3 (.slice ad l.length cap) l.length (aQ l) from R.out.alloc A) B).drew;go_region_held3 (λw'=>w'.cell? (.a (w.heap.size+1) 0)=.i (c 0)/\w'.cell? (.a (w.heap.size+1) 1)=.i (c 1)/\w'.cell? (.a (w.heap.size+1) 2)=.i (c 2)/\w'.cell? (.a (w.heap.size+1) 3)=.i (c 3)/\w'.cell? (.a (w.heap.size+1) 4)=some (.slice ad l.length cap))
  (first|(simp[Ru];done)|go_keep|(go_split_ands;exact⟨aX (by assumption) g,aX (by assumption) g,aX (by assumption) g,aX (by assumption) g,aX (by assumption) g⟩)|(go_split_ands;exact⟨by rw[ew f,ew f,ew f,ew f];assumption,by rw[ew f,ew f,ew f,ew f];assumption,by rw[ew f,ew f,ew f,ew f];assumption,by rw[ew f,ew f,ew f,ew f];assumption,by rw[ew f,ew f,ew f,ew f];assumption⟩))
  (first|(go_at_call 90;refine(Sx _ l _ (S.out _ _) P.out Q.out).mono ?_;rintro e w1 ⟨v',rfl,m,g⟩;obtain⟨m0,m1,m2,H⟩:=Y7 g;have T:Hid _:=bU m (show w.heap.size+2<=_ by simp[World.drew]);have U:Hid _:=H;clear m H))
 all_goals
  go_wp2;refine abn (v:=.tuple #[v',bz c,.i 0]) ?_ rfl ⟨_,rfl,?_,?_⟩
  .simp[results,aC.results66,go_sem,m0]
  .exact bU (abP (abP (abP (abP T.out zp _) zp _) zp _) zp _) zo
  .have base:=((zj.alloc zf _).alloc zp _).trans (U.out.mono zo);exact(((base.setCell zf _).setCell zf _).setCell zf _).setCell zf _
def mG(hb:Below W.heap.size W w1):(∀b o,b<W.heap.size->w1.cell? ⟨b,o,none⟩=W.cell? ⟨b,o,none⟩)/\(∀b o,b<W.heap.size->w1.frozen? ⟨b,o,none⟩=W.frozen? ⟨b,o,none⟩):=
 ⟨λb o h=>hb.cell (p:=(.a b o)) h,λb o h=>hb.frozen (p:=(.a b o)) h⟩
theorem wm(b num:Nat)(bm:Nat->Nat)(key:ah)(w:af)(hs:key.size<=maxLen)(h:gz w b bm num):
  Calls aC.prog 32 #[.p b,.s key] w λe w'=>e=.r (.map (some (bm (aZ key))))/\Below w w w'/\w'=w.heap.size:=by
 refine(B2 b num bm key w hs h).mono ?_;rintro e w' ⟨rfl,q,rfl⟩;exact⟨rfl,abg zj q,rfl⟩
def aU.below{l:List aG}(h:aU w sv l)(hb:Below w w W):aU W sv l:=h.de λg a _=>hb.block g a
theorem aH(h:w.heap[b]?=.c A t):(∀o,w.cell? (.a b o)=A[o]?)/\(∀o,w.frozen? (.a b o)=false):=
 ⟨λo=>by simp[World.cell?,h],λo=>by simp[World.frozen?,h]⟩
def ju{w3:af}(hb:Below W W w3)(h:Below w w W):Below w w w3:=bk h hb
theorem sL{B:aa}(f:Below ((w.alloc (.cells A ta)).alloc (.cells B tb)).heap.size ((w.alloc (.cells A ta)).alloc (.cells B tb)) w2):
  (∀o,w2.cell? (.a (w.heap.size+1) o)=B[o]?)/\Below w w w2/\w.heap.size+1<w2.heap.size:=by
 have g:((w.alloc (.cells A ta)).alloc (.cells B tb)).heap.size=w.heap.size+2:=zp;rw[g]at f;have h:w2.heap[w.heap.size+1]?=.c B tb:=by
  rw[f.block _ zo];simpa using By (w.alloc (.cells A ta)) (.cells B tb)
 exact⟨λo=>by simp[World.cell?,h],((zj.alloc zf _).alloc zp _).trans (f.mono zo),(IN.1 h).1⟩
theorem Ow(b num:Nat)(bm:Nat->Nat)(K:aL)(key:ah)(seen:Ctx)(w:af)(h:aV w b bm num K)(I:mi K)(u:bq key=true)(Y:key.size<=8)(m:cR seen=true)(R:(aS (K key).2 seen).length=(K key).2.length):
  Calls aC.prog 15 #[.pointer (some ⟨b,0,none⟩),.string key,bz seen] w λe w'=>e=.returned (.int .i64 5)/\Below w.heap.size w w':=by
 have hb:=h.1;obtain⟨es,clock,Z,hk,g,_⟩:=h.2.1 _ (kP key);obtain⟨sv,j,n⟩:=g key rfl;obtain⟨ad,cap,rfl,S⟩:=n.len;have C:∀W:af,W.heap[bm (aZ key)]?=some (.map es clock)->(Instr.lookup 63 (.map (some (bm (aZ key)))) (.s key) false).run aC.prog W=.ok (bY (K key).1 (.slice ad (K key).2.length cap)) W:=λW D=>by
  rw[qx W _ es clock key D hk,j]
 have E:=zu (λW D=>wm b num bm key W ze D);have F:Hid (∀W,Below w w W->gz W b bm num):=λW D=>(h.below D).1;have HL:Hid ((K key).2.length<=8000000):=IT (I key).2.1 zd;have HR:=zu ((I key).1);generalize (K key).1=c at*;generalize (K key).2=l at*;have HV:Hid _:=n;have HN:Hid _:=R;have J:Hid _:=lH key;have L:Hid _:=qK seen;clear n g j I R h;generalize k:bm (aZ key)=bms at*;have T:Hid _:=k;clear k;go_enter aC.func15,aC.ntmps15;go_wp2_with (first
  |(go_at_call 29;refine(J.out _ ze).mono ?_;rw[u];rintro e w1 ⟨rfl,rfl⟩)
  |(go_at_call 31;refine(L.out _).mono ?_;rw[m];rintro e w2 ⟨rfl,G⟩;obtain⟨c2,f,ab⟩:=sL G;clear G))
 have N:Hid (∀w',Below w2 w2 w'->gz w' b bm num/\(Instr.lookup 63 (.map (some bms)) (.s key) false).run aC.prog w'=.ok (bY c (.slice ad l.length cap)) w'/\aU w' (.slice ad l.length cap) l/\w'.cell? (.a (w.heap.size+1) 0)=.i (seen 0)/\w'.cell? (.a (w.heap.size+1) 1)=.i (seen 1)/\w'.cell? (.a (w.heap.size+1) 2)=.i (seen 2)/\w'.cell? (.a (w.heap.size+1) 3)=.i (seen 3)):=λw' p=>
  ⟨F.out _ (bk f p),C w' (bj (bj Z f) p),(aU.below HV.out f).below p,aX (c2 0) p,aX (c2 1) p,aX (c2 2) p,aX (c2 3) p⟩
 have O:Hid _:=f;clear f c2 C;go_region_held3 (λw'=>gz w' b bm num/\(Instr.lookup 63 (.map (some bms)) (.string key) false).run aC.prog w'=.ok (bY c (.slice ad l.length cap)) w'/\aU w' (.slice ad l.length cap) l/\w'.cell? ⟨w.heap.size+1,0,none⟩=some (.int .i64 (seen 0))/\w'.cell? ⟨w.heap.size+1,1,none⟩=some (.int .i64 (seen 1))/\w'.cell? ⟨w.heap.size+1,2,none⟩=some (.int .i64 (seen 2))/\w'.cell? ⟨w.heap.size+1,3,none⟩=some (.int .i64 (seen 3)))
  ((refine N.out _ ?_;first|(simp (maxDischargeDepth:=12) [aaP,aaR,aaU,abm];done)|(simp (maxDischargeDepth:=12) [aaP,aaR,aaU,abm,P,U];done)|(simp (maxDischargeDepth:=12) [aaP,aaR,aaU,abm,Q,V];done)))
  (first|(go_at_call 32;refine AI (E.out _ (by go_split_ands;assumption)) ?_;rintro e w5 ⟨rfl,q,z5⟩;obtain⟨s1,s2⟩:=mG q;(try simp only[acS,eK]at z5);have P:Below w2 w2 w5:=ju q (by simp (maxDischargeDepth:=12) [aaP,aaR,aaU]);have U:=P.size;clear q)|(go_at_call 43;refine(QT c _ l seen _ (by go_split_ands;assumption) HR.out HL.out HN.out).mono ?_;rintro e w3 ⟨rfl,r⟩;obtain⟨q1,q2⟩:=mG r;have Q:Below w2 w2 w3:=ju r (by simp (maxDischargeDepth:=12) [aaP,aaR,aaU,P,U]);have V:=Q.size;clear r))
 all_goals
  go_wp2_with (go_at_call 35;refine(Gz b key (λ_=>0) (.slice none 0 0) 5 _ zd).mono ?_;rintro e w4 ⟨rfl,H⟩;have B4:Below w2 w2 w4:=ju H (by simp (maxDischargeDepth:=12) [aaP,aaR,aaU,abm,Q,V]);clear H)
  go_ret;exact⟨rfl,bk O.out B4⟩
theorem eK(w:af)(X:Obj):(w.alloc X).heap.size=w.heap.size+1:=zp
def wS{w4:af}{row:Option Nat}(h:Below w w W)(a:W.grownBy w4 row):w.grownBy w4 row:=
 ⟨a.os.trans h.os,a.tape.trans h.tape,a.output.trans h.output,IT h.size a.size,λk c f=>(a.block k (abc c h.size) f).trans (h.block k c)⟩
def aU.uU{l:List aG}(h:w.ownsRow B 117 3 v l.length (aQ l)):aU w v l:=bU h (aaZ _)
theorem NV{es:List aw}{key:ah}{c:Ctx}{l:List aG}(h:(cS es key).getD pH=bY c sv)(hv:aU w sv l)(hl:0<l.length):cS es key≠none:=λa=>by
 rw[a]at h;obtain⟨ad,cap,rfl,_⟩:=hv.len;grind
theorem Gy{c:Ctx}(a:∀i,i<4->0<=c i)(h:fj c):fj (aO c d):=by
 obtain⟨i,hi,f⟩:=h
 have:=a i hi;refine⟨i,hi,?_⟩;simp only[aO];omega
theorem UC(b num:Nat)(bm:Nat->Nat)(K:aL)(key:ah)(seen:Ctx)(w:af)(h:aV w b bm num K)(R:mi K)(p:bq key=true)(ar:key.size<=8)(u:cR seen=true)(hn:(aS (K key).2 seen).length<(K key).2.length):
  Calls aC.prog 15 #[.pointer (some ⟨b,0,none⟩),.string key,bz seen] w λe w'=>e=.returned (.int .i64 0)/\aV w' b bm num (dV K key (aO (K key).1 seen,aS (K key).2 seen))/\w.grownBy w' (some (bm (aZ key))):=by
 have hb:=h.1;have F:Hid _:=h;obtain⟨es,clock,hm,hk,q,_,T⟩:=h.2.1 _ (kP key);obtain⟨sv,f,n⟩:=q key rfl;have U:Hid (fj (aO (K key).1 seen)):=Gy (λi hi=>((R key).2.2.2 i hi).1) (T key (NV f n zo));obtain⟨ad,cap,rfl,ao⟩:=n.len;have G:∀W:af,W.heap[bm (aZ key)]?=some (.map es clock)->(Instr.lookup 63 (.map (some (bm (aZ key)))) (.s key) false).run aC.prog W=.ok (bY (K key).1 (.slice ad (K key).2.length cap)) W:=λW H=>by
  rw[qx W _ es clock key H hk,f]
 have I:=zu (λW H=>wm b num bm key W ze H);have J:Hid (∀W,Below w w W->gz W b bm num):=λW H=>(h.below H).1;have HL:Hid ((K key).2.length<=8000000):=IT (R key).2.1 (by decide);have HR:=zu ((R key).1);generalize (K key).1=c at*;generalize (K key).2=l at*;have HV:Hid _:=n;have HN:Hid _:=hn;have V:Hid _:=lH key;have Y:Hid _:=qK seen;clear n q f R hn h;generalize r:bm (aZ key)=bms at*;have L:Hid _:=r;clear r;go_enter aC.func15,aC.ntmps15;go_wp2_with (first
  |(go_at_call 29;refine(V.out _ ze).mono ?_;rw[p];rintro e w1 ⟨rfl,rfl⟩)
  |(go_at_call 31;refine(Y.out _).mono ?_;rw[u];rintro e w2 ⟨rfl,N⟩;obtain⟨c2,j,av⟩:=sL N;clear N))
 have Z:Hid (∀w',Below w2 w2 w'->gz w' b bm num/\(Instr.lookup 63 (.map (some bms)) (.s key) false).run aC.prog w'=.ok (bY c (.slice ad l.length cap)) w'/\aU w' (.slice ad l.length cap) l/\w'.cell? (.a (w.heap.size+1) 0)=.i (seen 0)/\w'.cell? (.a (w.heap.size+1) 1)=.i (seen 1)/\w'.cell? (.a (w.heap.size+1) 2)=.i (seen 2)/\w'.cell? (.a (w.heap.size+1) 3)=.i (seen 3)):=λw' C=>
  ⟨J.out _ (bk j C),G w' (bj (bj hm j) C),(aU.below HV.out j).below C,aX (c2 0) C,aX (c2 1) C,aX (c2 2) C,aX (c2 3) C⟩
 have O:Hid _:=j;clear j c2 G;go_region_held3 (λw'=>gz w' b bm num/\(Instr.lookup 63 (.map (some bms)) (.s key) false).run aC.prog w'=.ok (bY c (.slice ad l.length cap)) w'/\aU w' (.slice ad l.length cap) l/\w'.cell? (.a (w.heap.size+1) 0)=.i (seen 0)/\w'.cell? (.a (w.heap.size+1) 1)=.i (seen 1)/\w'.cell? (.a (w.heap.size+1) 2)=.i (seen 2)/\w'.cell? (.a (w.heap.size+1) 3)=.i (seen 3))
  ((refine Z.out _ ?_;first|(simp (maxDischargeDepth:=12) [aaP,aaR,aaU,abm];done)|(simp (maxDischargeDepth:=12) [aaP,aaR,aaU,abm,P,y5];done)|(simp (maxDischargeDepth:=12) [aaP,aaR,aaU,abm,S,z3];done)))
  (first|(go_at_call 32;refine AI (I.out _ (by go_split_ands;assumption)) ?_;rintro e w5 ⟨rfl,D,z5⟩;obtain⟨s1,s2⟩:=mG D;(try simp only[acS,eK]at z5);have P:Below w2 w2 w5:=ju D (by simp (maxDischargeDepth:=12) [aaP,aaR,aaU]);have y5:=P.size;clear D)|(go_at_call 43;refine(VV c _ l seen _ (by go_split_ands;assumption) HR.out HL.out HN.out).mono ?_;rintro e w3 ⟨v',rfl,k,E⟩;obtain⟨ay,aq,ab⟩:=qX k;subst ab;have O3:=k;(try simp only[acS,eK,z5]at O3);clear k;obtain⟨q1,q2⟩:=mG E;have S:Below w2 w2 w3:=ju E (by simp (maxDischargeDepth:=12) [aaP,aaR,aaU,P,y5]);have z3:=S.size;clear E))
 all_goals
  go_wp2_with (go_at_call 35;go_must (refine(Hu b num bm K key (aO c seen) _ (aS l seen) _ ⟨zo,p⟩ U.out (aV.below F.out (bk O.out (by simp (maxDischargeDepth:=12) [aaP,aaR,aaU,abm,S,z3]))) (by first|(refine aU.uU (B:=w2.heap.size) ?_;simp (maxDischargeDepth:=12) [aaV,O3];done)|(refine aU.uU (B:=w2.heap.size+1) ?_;simp (maxDischargeDepth:=12) [abP,O3];done))).mono ?_);rintro e w4 ⟨rfl,m,Q⟩;have P:=wS (w:=w2) (by simp (maxDischargeDepth:=12) [aaP,aaR,aaU,abm,S,z3]) Q;have an:Hid _:=m;clear m Q)
  go_ret;exact⟨rfl,an.out,by have g:=wS O.out P;rw[L.out]at g;exact g⟩
theorem jW(s:ah)(w:af)(hs:s.size<=maxLen):
  Calls aC.prog 36 #[.s s] w λe w'=>e=.r (.bool (bq s))/\w'=w:=by
 unfold maxLen at hs;go_enter aC.func36,aC.ntmps36;go_wp2;go_loop [3] (λi=>∃k:Nat,k<=s.size/\i=.i k/\Hid (∀j (h:j<s.size),j<k->oT s[j]=true)) (λi=>s.size-(intOf i).toNat)
 case atStart=>exact⟨0,zo,rfl,λj hj=>zo⟩
 case round=>
  obtain⟨k,C,rfl,a⟩:=hrel;by_cases m:k<s.size
  .by_cases hb:97<=s[k].toNat/\s[k].toNat<=122
   .obtain⟨n,p⟩:=hb;have f:Hid (∀j (h:j<s.size),j<k+1->oT s[j]=true):=λj h hj=>by
     by_cases e:j=k
     .subst e;exact abJ ⟨n,p⟩
     .exact a.out j h zo
    go_wp2;exact⟨⟨k+1,zo,by go_num,f⟩,zi⟩
   .have c:Hid _:=FP m hb;have g:s[k].toNat<97\/122<s[k].toNat:=zo;clear hb a;rcases g with g|g
    .go_wp2;go_ret;exact⟨im c.out.symm,rfl⟩
    .go_wp2;go_ret;exact⟨im c.out.symm,rfl⟩
  .by_cases hl:1<=s.size/\s.size<=8
   .have c:Hid _:=IE hl.1 hl.2 λj h=>a.out j h zo;have q:(1:Int)<=(s.size:Int):=zo;have u:(s.size:Int)<=8:=zo;clear a hl;go_wp2;go_ret;exact⟨im c.out.symm,rfl⟩
   .have c:Hid _:=IH hl;have l:s.size<1\/8<s.size:=zo;clear hl a;rcases l with l|l
    .have q: ¬(1:Int)<=(s.size:Int):=zo;go_wp2;go_ret;exact⟨im c.out.symm,rfl⟩
    .have q:(1:Int)<=(s.size:Int):=zo;have u: ¬(s.size:Int)<=8:=zo;go_wp2;go_ret;exact⟨im c.out.symm,rfl⟩
theorem lx(c:Ctx)(w:af):
  Calls aC.prog 37 #[bz c] w λe w'=>e=.r (.bool (cR c))/\Below w w w':=by
 go_enter aC.func37,aC.ntmps37;go_wp2;go_loop [3] (λi=>∃k:Nat,k<=4/\i=.i k/\∀j,j<k->0<=c j/\c j<=1000000) (λi=>4-(intOf i).toNat)
 case atStart=>exact⟨0,zo,rfl,λj hj=>zo⟩
 case round=>
  obtain⟨k,q,rfl,f⟩:=hrel;have a:=(show Hid _ from f)
  clear f;by_cases g:k<4
  .by_cases hb:0<=c k/\c k<=1000000
   .obtain⟨m,n⟩:=hb;have h:Hid (∀j,j<k+1->0<=c j/\c j<=1000000):=λj hj=>by
     by_cases e:j=k
     .subst e;exact⟨m,n⟩
     .exact a.out j zo
    clear a;rcases dR g with rfl|rfl|rfl|rfl
    all_goals
     go_wp2;exact⟨⟨_,zo,by go_num,h.out⟩,by simp[intOf]⟩
   .have hs:Hid _:=JP g hb;clear a;have l:c k<0\/1000000<c k:=zo;clear hb;rcases l with l|l
    all_goals
     try (have p:0<=c k:=zo)
     rcases dR g with rfl|rfl|rfl|rfl
     all_goals
      go_wp2;go_ret;exact⟨im hs.out.symm,zj.alloc zf _⟩
  .obtain rfl:k=4:=zo;have hs:Hid _:=Dn a.out;clear a;go_wp2;go_ret;exact⟨im hs.out.symm,zj.alloc zf _⟩
theorem Cg(c:Ctx)(r:Nat)(n:Int)(s:ah)(w:af)(a:r<4):
  Calls aC.prog 64 #[bz c,.agg #[.i r,.i n,.s s]] w λe w'=>e=.r (.bool (decide (n<=c r)))/\Below w w w':=by
 rcases dR a with rfl|rfl|rfl|rfl
 all_goals
  go_enter aC.func64,aC.ntmps64;go_wp2;go_quiet (fail);go_wp2;go_ret;exact⟨rfl,abg ((zj.alloc zf _).alloc zp _) _⟩
theorem ES(a c:Nat)(f g:Int)(h j:ah)(w:af):
  Calls aC.prog 65 #[.agg #[.i a,.i f,.s h],.agg #[.i c,.i g,.s j]] w λe w'=>e=.r (.bool (bf (a,f,h) (c,g,j)))/\Below w w w':=by
 have k:Hid (bf (a,f,h) (c,g,j)=decide (a<c\/a=c/\f<g)):=rfl;by_cases n:a<c
 .have l:(a:Int)<(c:Int):=zo;go_enter aC.func65,aC.ntmps65;go_wp2;go_ret;exact⟨im (by rw[k.out];simp[n]),(zj.alloc zf _).alloc zp _⟩
 .have l: ¬(a:Int)<(c:Int):=zo;by_cases p:a=c
  .have m:(a:Int)=(c:Int):=zo;subst p;go_enter aC.func65,aC.ntmps65;go_wp2;go_ret;exact⟨im (by rw[k.out];simp),(zj.alloc zf _).alloc zp _⟩
  .have m: ¬(a:Int)=(c:Int):=zo;have q:((a:Int)==(c:Int))=false:=zt;go_enter aC.func65,aC.ntmps65;go_wp2;go_ret;exact⟨im (by rw[k.out];simp[n,p]),(zj.alloc zf _).alloc zp _⟩
def lZ(c:Ctx):Array Value:=(.k c)
theorem GO(c:Ctx)(k:Nat)(h:k<4):(lZ c)[k]?=.i (c k):=by
 rcases dR h with rfl|rfl|rfl|rfl<;>rfl
theorem XV(c d:Ctx)(k:Nat)(v:Int)(h:k<4)(a:∀j,j<4->d j=if j=k then v else c j):(lZ c).setIfInBounds k (.i v)=lZ d:=by
 have f:=a 0 zo;have g:=a 1 zo;have l:=a 2 zo;have m:=a 3 zo;rcases dR h with rfl|rfl|rfl|rfl<;>simp[lZ,f,g,l,m]
theorem Zj{c:Ctx}(h:∀j,j<4->c j=d j):lZ c=lZ d:=by
 simp[lZ,h 0 zo,h 1 zo,h 2 zo,h 3 zo]
def p9(a b:Ctx)(k:Nat):Ctx:=λj=>if j<k then aO a b j else a j
def mO(w:af)(a b:Ctx)(k:Nat)(wr:af):Prop:=
 wr.heap[w.heap.size]?=.c (lZ (p9 a b k)) 34/\wr.heap[w.heap.size+1]?=.c (lZ b) 34/\wr.heap[w.heap.size+1+1]?=.c #[.i 0,.i 0,.i 0,.i 0] 34/\Below w w wr
def mO.drewN{a b:Ctx}{k:Nat}(h:mO w a b k wr)(q:Nat):mO w a b k (wr.drewN q):=⟨h.1,h.2.1,h.2.2.1,abg h.2.2.2 q⟩
theorem mO.skip{a b:Ctx}{k:Nat}(h:mO w a b k wr)(c:b k<=a k):mO w a b (k+1) wr:=by
 refine⟨?_,h.2.1,h.2.2.1,h.2.2.2⟩;rw[h.1];congr 2;refine Zj λj _=>?_;unfold p9 aO;grind
theorem mO.set{a b:Ctx}{k:Nat}(h:mO w a b k wr)(c:k<4)(f:a k<b k):mO w a b (k+1) (wr.setCell (.a w k) (.i (b k))):=by
 refine⟨?_,?_,?_,h.2.2.2.setCell zf _⟩
 .rw[heap_set h.1,XV (p9 a b k) (p9 a b (k+1)) k (b k) c];intro j _;unfold p9 aO;grind
 .rw[aaS _ _ _ _ (show w.heap.size+1≠w.heap.size by omega)];exact h.2.1
 .rw[aaS _ _ _ _ (show w.heap.size+1+1≠w.heap.size by omega)];exact h.2.2.1
theorem Ag(a b:Ctx)(w:af):
  Calls aC.prog 40 #[bz a,bz b] w λe w'=>e=.r (bz (aO a b))/\Below w w w':=by
 go_enter aC.func40,aC.ntmps40;go_wp2;go_loopw [5] (λi wr=>∃k:Nat,k<=4/\i=.i k/\mO w a b k wr) (λi _=>4-(intOf i).toNat)
 case atStart=>
  refine⟨0,zo,rfl,?_,?_,?_,((zj.alloc zf _).alloc zp _).alloc zt _⟩
  .rw[aaO _ _ _ zt,aaO _ _ _ zp]
   have:=By w (.cells (lZ (p9 a b 0)) 34);exact this
  .rw[aaO _ _ _ zp]
   have:=By (w.alloc (.cells (.k a) 34)) (.cells (lZ b) 34);rw[eK]at this;exact this
  .have:=By ((w.alloc (.cells (.k a) 34)).alloc (.cells (.k b) 34)) (.cells #[.i 0,.i 0,.i 0,.i 0] 34);simpa using this
 case round=>
  obtain⟨k,s,rfl,hrel⟩:=hrel;by_cases f:k<4
  .have u:(k:Int)<4:=zo;have C:(0:Int)<=(k:Int):=zo;have c0:wr.cell? (.a w k)=.i (a k):=by
    rw[(aH hrel.1).1,GO _ _ f];simp[p9]
   have D:=(aH hrel.1).2 k;have c1:wr.cell? (.a (w.heap.size+1) k)=.i (b k):=by
    rw[(aH hrel.2.1).1,GO _ _ f]
   have c:=zu hrel;clear hrel;by_cases g:a k<b k
   .have m:decide (a k<b k)=true:=by simpa using g
    go_wp2;go_quiet (fail);go_wp2;exact⟨⟨k+1,zo,by go_num,(c.out.drewN _).set f g⟩,zi⟩
   .have m:decide (a k<b k)=false:=by simpa using g
    go_wp2;go_quiet (fail);go_wp2;exact⟨⟨k+1,zo,by go_num,(c.out.drewN _).skip zo⟩,zi⟩
  .obtain rfl:k=4:=zo;obtain⟨h,n,j,l⟩:=hrel;obtain⟨e,_⟩:=aH h;obtain⟨p,E⟩:=aH j;have q:=zu l;have m0:wr.cell? (.a w 0)=.i (aO a b 0):=e 0;have m1:wr.cell? (.a w 1)=.i (aO a b 1):=e 1;have m2:wr.cell? (.a w 2)=.i (aO a b 2):=e 2;have F:wr.cell? (.a w 3)=.i (aO a b 3):=e 3;clear h n j l e;go_wp2;refine abn (v:=bz (aO a b)) ?_ rfl ⟨rfl,?_⟩
   .simp[results,aC.results40,go_sem,p]
   .exact (((q.out.setCell zt _).setCell zt _).setCell zt _).setCell zt _
def fT(w:af)(sv:ag)(l:List aG):Prop:=w.ownsRow 0 88 3 sv l.length (aQ l)
theorem dU{size:Nat}{n:Nat}(h:w.ownsRow B e size v n xs)(q:0<n):
  ∃g cap,v=.l g n cap/\n<=cap/\cap<=maxLen/\g<w/\∀t u,t<n*size->xs[t]?=some u->w.cell? (.a g t)=some u:=by
 rcases h.2 with⟨_,r⟩|⟨g,cap,j,hv,_,f,c,k,_,m⟩
 .omega
 .refine⟨g,cap,hv,c,k,(IN.1 f).1,λt u p i=>?_⟩;rw[<-m,abQ,BY p]at i;simp only[World.cell?,f];simpa using i
theorem cz{size:Nat}{n:Nat}(h:w.ownsRow B e size v n xs): ∃ad cap,v=.slice ad n cap/\(cap:Int)<=9223372036854775807/\n<=cap:=by
 rcases h.2 with⟨i,j⟩|⟨g,cap,a,hv,_,_,c,f,_⟩
 .grind
 .exact⟨_,_,hv,by unfold maxLen at f;omega,c⟩
theorem p5(sv:ag)(l:List aG)(seen:Ctx)(w:af)(h:fT w sv l)(hr:∀v∈l,v.rep<4)(hlen:l.length<=8000000):
  Calls aC.prog 39 #[sv,bz seen] w λe w'=>∃v',e=.r v'/\w'.ownsRow w 88 3 v' (aS l seen).length (aQ (aS l seen))/\Below w w w':=by
 obtain⟨ad,cap,rfl,az,a6⟩:=cz h;have H:=zu h;have HR:Hid _:=hr;clear h hr;go_enter aC.func39,aC.ntmps39;go_wp2;go_loopw [5,6] (λlf i wr=>∃k:Nat,k<=l.length/\i=.i k/\Hid (wr.ownsRow (w.heap.size+1) 88 3 lf (aS (l.take k) seen).length (aQ (aS (l.take k) seen)))/\Hid (Below (w.heap.size+1) (w.alloc (.cells (.k seen) 34)) wr)) (λ_ i _=>l.length-(intOf i).toNat)
 case atStart=>exact⟨0,zo,rfl,⟨by simp[aQ,aS],Or.inl ⟨rfl,by simp[aS]⟩⟩,zj⟩
 case round=>
  obtain⟨k,hk,rfl,j,m⟩:=hrel;by_cases F:k<l.length
  .obtain⟨g,aA,K,_,_,hg,f⟩:=dU H.out zo;cases K;obtain⟨f0,f1,f2⟩:=mU l k F;have c0:=f _ _ zo f0;have c1:=f _ _ zo f1;have c2:=f _ _ zo f2;have ab:=zu (HR.out _ (IS F));have HS:Hid _:=DY l seen k F;clear f0 f1 f2 f;generalize L:l[k].rep=r at*;generalize N:l[k].n=n at*;generalize O:l[k].val=s at*;have P:Hid (l[k]=(r,n,s)):=by rw[<-L,<-N,<-O];rfl
   clear L N O;have u:=zu m.out;have a7:w.heap.size+1<=wr.heap.size:=by have:=m.out.size;simp at this;omega
   have Q:Hid (∀w',Below wr wr w'->w'.cell? (.a g (k*3))=.i r/\w'.cell? (.a g (k*3+1))=.i n/\w'.cell? (.a g (k*3+2))=.s s/\w'.cell? (.a w 0)=.i (seen 0)/\w'.cell? (.a w 1)=.i (seen 1)/\w'.cell? (.a w 2)=.i (seen 2)/\w'.cell? (.a w 3)=.i (seen 3)):=λw' Y=>by
    have an:g<wr:=zo;have hold:∀o,w'.cell? (.a g o)=w.cell? (.a g o):=λo=>by
     rw[Y.cell (p:=(.a g o)) an,u.out.cell (p:=(.a g o)) (show g<w+1 by omega),abp _ _ _ hg]
    have C:∀o,w'.cell? (.a w o)=#[Value.int .i64 (seen 0),.i (seen 1),.i (seen 2),.i (seen 3)][o]? :=λo=>by
     rw[Y.cell (p:=(.a w o)) (show w<wr.heap.size by omega),u.out.cell (p:=(.a w o)) (show w<w.heap.size+1 by omega)];exact(aH (By w _)).1 o
    exact⟨(hold _).trans c0,(hold _).trans c1,(hold _).trans c2,C 0,C 1,C 2,C 3⟩
   have a8:(k:Int)<(l.length:Int):=zo;have k0:(0:Int)<=(k:Int):=zo;have HW:Hid (∀w1,Below wr wr w1->w1.ownsRow (w.heap.size+1) 88 3 u5 (aS (List.take k l) seen).length (aQ (aS (List.take k l) seen))):=λw1 Y=>bH j.out Y zf;have R:=zu (λW=>Cg seen r n s W ab.out);have E:gT seen l[k]=decide (n<=seen r):=by rw[P.out];rfl
   have HQ:Hid _:=E;clear E c0 c1 c2 m j;go_wp2_with fail;go_region_held3 (λw'=>w'.cell? ⟨g,k*3,none⟩=some (.int .i64 r)/\w'.cell? ⟨g,k*3+1,none⟩=some (.int .i64 n)/\w'.cell? ⟨g,k*3+2,none⟩=some (.string s)/\w'.cell? ⟨w.heap.size,0,none⟩=some (.int .i64 (seen 0))/\w'.cell? ⟨w.heap.size,1,none⟩=some (.int .i64 (seen 1))/\w'.cell? ⟨w.heap.size,2,none⟩=some (.int .i64 (seen 2))/\w'.cell? ⟨w.heap.size,3,none⟩=some (.int .i64 (seen 3)))
    ((refine Q.out _ ?_;first|(simp (maxDischargeDepth:=12) [aaP,aaR];done)|(simp (maxDischargeDepth:=12) [S];done)))
    (first|(go_at_call 64;refine AI (R.out _) ?_;rintro e w1 ⟨rfl,T⟩;have S:Below wr wr w1:=ju T (by simp[aaP,aaR]);clear T))
   obtain⟨e0,e1,e2,_⟩:=Q.out _ S;have D:=zu S;have z1:=S.size;clear S;by_cases c:n<=seen r
   .have G:Hid (aS (List.take (k+1) l) seen=aS (List.take k l) seen):=by
     have:=HS.out;rw[HQ.out,BY (by simpa using c),abU]at this;exact this
    have hd:decide (n<=seen r)=true:=by simpa using c
    clear c;go_wp2;exact⟨⟨k+1,zo,by go_num,by rw[G.out];exact HW.out _ D.out,u.out.trans (D.out.mono zo)⟩,zi⟩
   .have G:Hid (aS (List.take (k+1) l) seen=aS (List.take k l) seen++ [(r,n,s)]):=by
     have:=HS.out;rw[HQ.out,AT (by simpa using c),P.out]at this;exact this
    obtain⟨i0,ao,aq,ar,av⟩:=aaY aC.rJ;have hd:decide (n<=seen r)=false:=by simpa using c
    clear c;have U:Hid ((aS (List.take k l) seen).length<=8000000):=IT (abV _ _) zt;have V:=zu (HW.out _ D.out);go_wp2_with (first
     |(at_builtin;refine abq _ rfl _ _ _ rfl (w.heap.size+1) 88 i0 _ 3 32 aC.underlying67 ao aq ar av rfl zo u5 _ _ rfl (V.out.alloc _) (.a w1 0) 1 1 [.i r,.i n,.s s] rfl rfl (aaT (cs:=#[.i r,.i n,.s s]) (t:=88) (fr:=(0,0)) (By w1 _)) zv zo (by have:=U.out;unfold maxLen;omega) (by have:=U.out;omega) zt (w1.heap.size+1) zp ?_;intro gg aB w2 I J bb aE))
    refine⟨⟨k+1,zo,by go_num,?_,?_⟩,zi⟩
    .rw[G.out,pc,abo];exact I
    .have hB:=(u.out.trans (D.out.mono zo)).alloc zo (.cells #[.i r,.i n,.s s] 88);refine hB.grown J zt λq Z=>?_;rcases V.out.2 with⟨h1,_⟩|⟨g1,aT,a1,ay,bc,_⟩
     .rw[h1]at Z;cases Z
     .rw[ay]at Z;simp[Value.ownBlock]at Z;omega
  .have bd:k=l.length:=zo;have HK:Hid (List.take k l=l):=acK zo;have HO:=zu j.out;clear j;go_wp2;go_ret;refine⟨_,rfl,?_,?_⟩
   .have:=HO.out;rw[HK.out]at this;exact bU this zo
   .exact (zj.alloc zf _).trans (m.out.mono zo)
def l7(l:List aG)(v:aG):Nat:=(l.takeWhile λu=>bf u v).length
def dc(l:List aG)(v:aG):List aG:=l.take (l7 l v)++v::l.drop (l7 l v)
theorem I0{l:List aG}{v:aG}{k:Nat}(h:∀j (hj:j<l.length),j<k->bf l[j] v=true)(a:k<=l.length)(hs:∀c:k<l.length,bf l[k] v=false):l7 l v=k:=by
 unfold l7;induction l generalizing k with
 |nil=>simp at a;simp[a]
 |cons u l g=>
  cases k with
  |zero=>
   simp_all
  |succ k=>
   have f:=h 0 zp zo;simp at f;simp only[List.takeWhile,f,abi];rw[g (k:=k) (λj hj i=>zg) (by simpa using a) (λc=>zg)]
theorem q7{A:af}{size n:Nat}(c:w.ownsRow B e size v n xs)(hb:Below B A w)(j:B<=w)(a:w.grownBy w2 v.ownBlock):Below B A w2:=by
 refine hb.grown a j λq f=>?_;rcases c.2 with⟨k,_⟩|⟨g1,h,i,g,l,_⟩
 .rw[k]at f;cases f
 .rw[g]at f;simp[Value.ownBlock]at f;omega
theorem pA{A:af}{size n:Nat}(c:w.ownsRow B e size v n xs)(hb:Below B A w)(f:B<=w)(a:(w.alloc X).grownBy w2 v.ownBlock):Below B A w2:=
 q7 (c.alloc X) (hb.alloc f X) zt a
theorem NT(l:List aG)(k:Nat)(h:k<=l.length):aQ (l.drop k)=(aQ l).drop (k*3):=by
 have a:aQ l=aQ (l.take k)++aQ (l.drop k):=by rw[<-pc,adm]
 rw[a,List.drop_left' (by rw[sX,acN];omega)]
theorem Nw(l:List aG):∀u∈aQ l,u.oneCell'=true:=by
 intro u a;simp only[aQ,abO]at a;obtain⟨v,_,hv⟩:=a;simp[dT]at hv;rcases hv with rfl|rfl|rfl<;>rfl
theorem PA{g k:Nat}{l:List aG}(h:∀t u,t<l.length*3->(aQ l)[t]?=some u->w.cell? (.a g t)=some u)(i:k<=l.length)(hb:Below (w.heap.size+1) (w.alloc X) w2)(m:g<w):
  ∀j u,(aQ (l.drop k))[j]?=some u->w2.cell? (((.a g (k*3)):Addr).add j)=some u:=by
 intro j u hj;have c:((.a g (k*3)):Addr).add j=(.a g (k*3+j)):=by unfold Addr.add;split<;>simp_all
 rw[c,hb.cell (p:=(.a g (k*3+j))) (show g<w+1 by omega),abp _ _ _ m];rw[NT l k i,List.getElem?_drop]at hj;have f:=(List.getElem?_eq_some_iff.1 hj).1;rw[sX]at f;exact h _ _ f hj
theorem Z6(sv:Value)(l:List aG)(r0:Nat)(n0:Int)(s0:ByteArray)(w:World)(h:fT w sv l)(hnn: ¬sv=.slice none 0 0)(hlen:l.length<=12000000):
  Calls aC.prog 41 #[sv,.agg #[.i r0,.i n0,.s s0]] w λe w'=>∃v',e=.r v'/\w'.ownsRow w 88 3 v' (l.length+1) (aQ (dc l (r0,n0,s0)))/\Below w w w':=by
 obtain⟨ad,cap,rfl,hcap,hlc⟩:=cz h;have H:=zu h;clear h;go_enter aC.func41,aC.ntmps41;go_wp2;go_loopw [5,6] (λlf i wr=>∃k:Nat,k<=l.length/\i=.i k/\Hid (wr.ownsRow (w.heap.size+1) 88 3 lf k (aQ (l.take k)))/\Hid (Below (w.heap.size+1) (w.alloc (.cells #[.i r0,.i n0,.s s0] 88)) wr)/\Hid (∀j (hj:j<l.length),j<k->bf l[j] (r0,n0,s0)=true)) (λ_ i _=>l.length-(intOf i).toNat)
 case atStart=>exact⟨0,zo,rfl,⟨by simp[aQ],Or.inl ⟨rfl,rfl⟩⟩,zj,λj _ hj=>absurd hj zo⟩
 case round=>
  obtain⟨k,hk,rfl,hown,hbel,hall⟩:=hrel;have HBel:=zu hbel.out;have hsz:w.heap.size+1<=wr.heap.size:=by have:=hbel.out.size;simp at this;omega
  have hbox:Hid (∀w',Below wr wr w'->∀o,w'.cell? (.a w o)=#[Value.int .i64 r0,.i n0,.s s0][o]?):=λw' hw o=>by
   rw[hw.cell (p:=(.a w o)) (show w<wr.heap.size by omega),HBel.out.cell (p:=(.a w o)) (show w<w.heap.size+1 by omega)];exact(aH (By w _)).1 o
  have HW:Hid (∀w1,Below wr wr w1->w1.ownsRow (w.heap.size+1) 88 3 u5 k (aQ (l.take k))):=λw1 hw=>bH hown.out hw zf;obtain⟨i0,hi0,hz0,hz1,hz2⟩:=aaY aC.rJ;have k0:(0:Int)<=(k:Int):=zo;clear hbel hown;by_cases hlt:k<l.length
  .obtain⟨g,cap',hsv',_,_,hg,hcells⟩:=dU H.out zo;cases hsv';have hold:Hid (∀w',Below wr wr w'->∀o,w'.cell? (.a g o)=w.cell? (.a g o)):=λw' hw o=>by
    rw[hw.cell (p:=(.a g o)) (show g<wr by omega),HBel.out.cell (p:=(.a g o)) (show g<w+1 by omega),abp _ _ _ hg]
   obtain⟨f0,f1,f2⟩:=mU l k hlt;have c0:=hcells _ _ zo f0;have c1:=hcells _ _ zo f1;have c2:=hcells _ _ zo f2;have HCells:Hid _:=hcells;clear f0 f1 f2 hcells;generalize hrr:l[k].rep=r at*;generalize hnn:l[k].n=n at*;generalize hvv:l[k].val=s at*;have Hvk:Hid (l[k]=(r,n,s)):=by rw[<-hrr,<-hnn,<-hvv];rfl
   clear hrr hnn hvv;have hmk:Hid (∀w',Below wr wr w'->w'.cell? (.a g (k*3))=.i r/\w'.cell? (.a g (k*3+1))=.i n/\w'.cell? (.a g (k*3+2))=.s s/\w'.cell? (.a w 0)=.i r0/\w'.cell? (.a w 1)=.i n0/\w'.cell? (.a w 2)=.s s0):=λw' hw=>
    ⟨(hold.out w' hw _).trans c0,(hold.out w' hw _).trans c1,(hold.out w' hw _).trans c2,hbox.out w' hw 0,hbox.out w' hw 1,hbox.out w' hw 2⟩
   have g63:(k:Int)<(l.length:Int):=zo;clear c0 c1 c2;go_wp2_with fail;go_region_held3 (λw'=>w'.cell? ⟨g,k*3,none⟩=some (.int .i64 r)/\w'.cell? ⟨g,k*3+1,none⟩=some (.int .i64 n)/\w'.cell? ⟨g,k*3+2,none⟩=some (.string s)/\w'.cell? ⟨w.heap.size,0,none⟩=some (.int .i64 r0)/\w'.cell? ⟨w.heap.size,1,none⟩=some (.int .i64 n0)/\w'.cell? ⟨w.heap.size,2,none⟩=some (.string s0))
    ((refine hmk.out _ ?_;first|(simp (maxDischargeDepth:=12) [aaP,aaR];done)|(simp (maxDischargeDepth:=12) [B1];done)))
    (first|(go_at_call 65;refine(ES r r0 n n0 s s0 _).mono ?_;rintro e w1 ⟨rfl,hb1⟩;have B1:Below wr wr w1:=ju hb1 (by simp[aaP,aaR]);clear hb1))
   obtain⟨e0,e1,e2,e3,e4,e5⟩:=hmk.out _ B1;have HB1:=zu B1;have z1:=B1.size;have HW1:=zu (HW.out _ B1);clear B1;cases hah:bf (r,n,s) (r0,n0,s0) with
   |true=>
    go_wp2_with (first
     |(at_builtin;refine abq _ rfl _ _ _ rfl (w.heap.size+1) 88 i0 _ 3 32 aC.underlying67 hi0 hz0 hz1 hz2 rfl zo u5 _ _ rfl (HW1.out.alloc _) (.a w1 0) 1 1 [.i r,.i n,.s s] rfl rfl (aaT (cs:=#[.i r,.i n,.s s]) (t:=88) (fr:=(0,0)) (By w1 _)) zv zo ze zo zt (w1.heap.size+1) zp ?_;intro gg capn w2 hown2 hgrow hat hlt2))
    refine⟨⟨k+1,zo,by go_num,?_,?_,?_⟩,zi⟩
    .rw[Ii l k hlt,Hvk.out];exact hown2
    .have hB:=(HBel.out.trans (HB1.out.mono zo)).alloc zo (.cells #[.i r,.i n,.s s] 88);refine hB.grown hgrow zt λq hq=>?_;rcases HW1.out.2 with⟨h1,_⟩|⟨g1,cap1,cur1,hv1,hg1,_⟩
     .rw[h1]at hq;cases hq
     .rw[hv1]at hq;simp[Value.ownBlock]at hq;omega
    .intro j hj hjk;by_cases e:j=k
     .subst e;rw[Hvk.out];exact hah
     .exact hall.out j hj zo
   |false=>
    have hkc:(k:Int)<=(l.length:Int):=zo;have hkc2:(l.length:Int)<=(cap:Int):=zo;go_wp2_with (first
     |(at_builtin;(refine abq _ rfl _ _ _ rfl (w.heap.size+1) 88 i0 _ 3 32 aC.underlying67 hi0 hz0 hz1 hz2 rfl zo u5 _ _ rfl (HW1.out.alloc _) (.a w1 0) 1 1 [.i r0,.i n0,.s s0] rfl rfl (aaT (cs:=#[.i r0,.i n0,.s s0]) (t:=88) (fr:=(0,0)) (By w1 _)) zv zo ze zo zt (w1.heap.size+1) zp ?_;intro gg capn w2 hown2 hgrow hat hlt2;have HO2:=zu hown2;have HB2:=zu (pA HW1.out (HBel.out.trans (HB1.out.mono zo)) zo hgrow);have z2:=HB2.out.size;(try simp only[eK]at z2);have HN2:Hid _:=PA HCells.out (k:=k) zo HB2.out hg;clear hown2 hgrow hat hlt2))
     |(at_builtin;refine wpList_append_own_at _ rfl _ _ _ rfl (w.heap.size+1) 88 i0 _ 3 32 aC.underlying67 hi0 hz0 hz1 hz2 rfl zo (.l gg (k+1) capn) _ _ rfl HO2.out (.a g (k*3)) (l.length-k) (cap-k) (aQ (l.drop k)) rfl (by rw[sX,List.length_drop]) HN2.out (Nw _) ze zo zo ?_;intro v3 w3 hown3 hgrow3 hnil3 hat3;have HO3:=zu hown3;have HB3:=zu (q7 HO2.out HB2.out zo hgrow3);clear hown3 hgrow3 hnil3 hat3))
    go_ret;refine⟨_,rfl,?_,(zj.alloc zf _).trans (HB3.out.mono zo)⟩;have hhd:=I0 hall.out hk (λ_=>by rw[Hvk.out];exact hah);have e1:aQ (dc l (r0,n0,s0))=aQ (l.take k)++ [.i r0,.i n0,.s s0]++aQ (l.drop k):=by
     unfold dc;rw[hhd];simp[aQ,dT]
    rw[e1,show l.length+1=k+1+(l.length-k) by omega];exact bU HO3.out zo
  .obtain rfl:k=l.length:=zo;have hb0:=hbox.out wr zj;have e3:=hb0 0;have e4:=hb0 1;have e5:=hb0 2;have HW1:=zu (HW.out _ zj);have hhd:=zu (I0 hall.out zf (λh=>absurd h zo));have He1:Hid (aQ (dc l (r0,n0,s0))=aQ (l.take l.length)++ [.i r0,.i n0,.s s0]):=by
    show _=_;unfold dc;rw[hhd.out,List.drop_length];simp[aQ,dT]
   have hkc2:(l.length:Int)<=(cap:Int):=zo;clear hb0;rcases H.out.2 with⟨hsv,hl0⟩|⟨g,cap',cur,hv,_,hh,_⟩
   .exact absurd hsv hnn
   cases hv;by_cases hcl:cap=l.length
   .subst hcl;go_wp2_with (first
     |(at_builtin;(refine abq _ rfl _ _ _ rfl (w.heap.size+1) 88 i0 _ 3 32 aC.underlying67 hi0 hz0 hz1 hz2 rfl zo u5 _ _ rfl (HW1.out.alloc _) (.a wr 0) 1 1 [.i r0,.i n0,.s s0] rfl rfl (aaT (cs:=#[.i r0,.i n0,.s s0]) (t:=88) (fr:=(0,0)) (By wr _)) zv zo ze zo zt (wr.heap.size+1) zp ?_;intro gg capn w2 hown2 hgrow hat hlt2;have HO2:=zu hown2;have HB2:=zu (pA HW1.out HBel.out zo hgrow);have z2:=HB2.out.size;(try simp only[eK]at z2);clear hown2 hgrow hat hlt2))
     |(at_builtin;refine wpList_append_own_at _ rfl _ _ _ rfl (w.heap.size+1) 88 i0 _ 3 32 aC.underlying67 hi0 hz0 hz1 hz2 rfl zo (.l gg (l.length+1) capn) _ _ rfl HO2.out (.a g 0) 0 0 [] rfl rfl (λj u hj=>by simp at hj) (λu hu=>by simp at hu) ze zo zo ?_;intro v3 w3 hown3 hgrow3 hnil3 hat3;have HO3:=zu hown3;have HB3:=zu (q7 HO2.out HB2.out zo hgrow3);clear hown3 hgrow3 hnil3 hat3))
    go_ret;refine⟨_,rfl,?_,(zj.alloc zf _).trans (HB3.out.mono zo)⟩
    have:=HO3.out;rw[abU,<-He1.out]at this;exact bU this zo
   .have hcl':(l.length:Int)<(cap:Int):=zo;have hcl2: ¬cap-l.length=0:=zo;go_wp2_with (first
     |(at_builtin;(refine abq _ rfl _ _ _ rfl (w.heap.size+1) 88 i0 _ 3 32 aC.underlying67 hi0 hz0 hz1 hz2 rfl zo u5 _ _ rfl (HW1.out.alloc _) (.a wr 0) 1 1 [.i r0,.i n0,.s s0] rfl rfl (aaT (cs:=#[.i r0,.i n0,.s s0]) (t:=88) (fr:=(0,0)) (By wr _)) zv zo ze zo zt (wr.heap.size+1) zp ?_;intro gg capn w2 hown2 hgrow hat hlt2;have HO2:=zu hown2;have HB2:=zu (pA HW1.out HBel.out zo hgrow);have z2:=HB2.out.size;(try simp only[eK]at z2);clear hown2 hgrow hat hlt2))
     |(at_builtin;refine wpList_append_own_at _ rfl _ _ _ rfl (w.heap.size+1) 88 i0 _ 3 32 aC.underlying67 hi0 hz0 hz1 hz2 rfl zo (.l gg (l.length+1) capn) _ _ rfl HO2.out (.a g (l.length*3)) 0 (cap-l.length) [] rfl rfl (λj u hj=>by simp at hj) (λu hu=>by simp at hu) ze zo zo ?_;intro v3 w3 hown3 hgrow3 hnil3 hat3;have HO3:=zu hown3;have HB3:=zu (q7 HO2.out HB2.out zo hgrow3);clear hown3 hgrow3 hnil3 hat3))
    go_ret;refine⟨_,rfl,?_,(zj.alloc zf _).trans (HB3.out.mono zo)⟩
    have:=HO3.out;rw[abU,<-He1.out]at this;exact bU this zo
theorem Nl(r0:Nat)(n0:Int)(g:ah)(w:af):
  Calls aC.prog 41 #[.slice none 0 0,.agg #[.i r0,.i n0,.s g]] w λe w'=>∃v',e=.r v'/\w'.ownsRow w 88 3 v' 1 (aQ [(r0,n0,g)])/\Below w w w':=by
 obtain⟨E,h,p,q,u⟩:=aaY aC.rJ;have j:Hid ((w.alloc (.cells #[.i r0,.i n0,.s g] 88)).ownsRow (w.heap.size+1) 88 3 (.slice none 0 0) 0 []):=⟨rfl,Or.inl ⟨rfl,rfl⟩⟩
 go_enter aC.func41,aC.ntmps41;go_wp2;go_loopw [5,6] (λF i wr=>F=.slice none 0 0/\i=.i 0/\wr=w.alloc (.cells #[.i r0,.i n0,.s g] 88)) (λ_ _ _=>0)
 case atStart=>exact⟨rfl,rfl,rfl⟩
 case round=>
  obtain⟨rfl,rfl,rfl⟩:=hrel;go_wp2_with (first
   |(at_builtin;refine abq _ rfl _ _ _ rfl (w.heap.size+1) 88 E _ 3 32 aC.underlying67 h p q u rfl zo (.slice none 0 0) _ _ rfl (j.out.alloc _) (.a (w.heap.size+1) 0) 1 1 [.i r0,.i n0,.s g] rfl rfl (aaT (cs:=#[.i r0,.i n0,.s g]) (t:=88) (fr:=(0,0)) (by have:=By (w.alloc (.cells #[.i r0,.i n0,.s g] 88)) (.cells #[.i r0,.i n0,.s g] 88);simpa using this)) zv zo ze zo zp (w.heap.size+1+1) zp ?_;intro G k w2 c f C m;have n:Hid _:=c;have D:Hid _:=pA j.out zj zp f;clear c f C m)
   |(at_builtin;refine wpList_append_own_none rfl _ _ _ rfl (w.heap.size+1) 88 E 3 aC.underlying67 h (.l G 1 k) _ _ rfl n.out rfl ?_))
  go_ret;exact⟨_,rfl,bU n.out zo,(zj.alloc zf _).trans (D.out.mono zo)⟩
theorem Ah(sv:ag)(l:List aG)(r0:Nat)(n0:Int)(a:ah)(w:af)(h:fT w sv l)(hlen:l.length<=12000000):
  Calls aC.prog 41 #[sv,.agg #[.i r0,.i n0,.s a]] w λe w'=>∃v',e=.r v'/\w'.ownsRow w 88 3 v' (l.length+1) (aQ (dc l (r0,n0,a)))/\Below w w w':=by
 by_cases hs:sv=.slice none 0 0
 .subst hs;obtain⟨ad,cap,hv,_,_⟩:=cz h;have hl:l= []:=acP zg;subst hl;exact Nl r0 n0 a w
 .exact Z6 sv l r0 n0 a w h hs hlen
end Go.Proofs.YtldmcdeibiclkaaGreatQ
