/-
  Toward all_holds
-/
import Derived.Test.YtldmcdeibiclkaaGreatC25
import Derived.Test.YtldmcdeibiclkaaGreatC29
import Derived.Test.YtldmcdeibiclkaaGreatC30
import Derived.Test.YtldmcdeibiclkaaGreatC01
import Derived.Test.YtldmcdeibiclkaaGreatC24
import Derived.Test.YtldmcdeibiclkaaGreatC26
import Derived.Test.YtldmcdeibiclkaaGreatC27
import Derived.Test.YtldmcdeibiclkaaGreatC18
set_option linter.all false
noncomputable section
set_option maxRecDepth 100000
set_option maxHeartbeats 20000000
namespace Go.Proofs.YtldmcdeibiclkaaGreatQ
variable {U:List ah}{L:Let}
section
section
variable {w:af}{b num:Nat}{bm:Nat->Nat}{K:aL}
theorem NG(c:aV w b bm num K)(g:mi K){n:Nat}(d:n<64):(fW (fq K n)).size<=90000029*(fq K n).length:=by
 have e:=zD (c.2.1 n d);obtain⟨es,clock,i,l,f,a,_⟩:=c.2.1 n d;have m:=AA (Ai g a λk h=>h.2.2);have j:dB w (bm n)=es.toList:=by simp[dB,i]
 grind
theorem I7(a:aV w b bm num K)(c:mi K):∀ns:List Nat,(∀n∈ns,n<64)->(cU (gK K ns)).size<=5*ns.length+90000029*(ns.map λn=>(fq K n).length).sum
 |[],_=>aaZ _
 |n::ns,d=>by
  have h1:=I7 a c ns λm e=>d m (by simp[e]);have f:=NG a c (d n zp);rw[show gK K (n::ns)=(n,fq K n)::gK K ns from rfl,cU,gB,<-Ba];simp only[OF,dE,l6,abv,adb,abi];omega
theorem uc(K:aL):∀ns:List Nat,eP (iY K) (λn=>(fq K n).length) ns=cU (gK K ns)
 |[]=>rfl
 |n::ns=>by
  rw[eP,uc K ns,show gK K (n::ns)=(n,fq K n)::gK K ns from rfl,cU,gB,<-Ba,show iY K n=fW (fq K n) from rfl];simp only[cE]
theorem bQ.size(h:bQ U K)(d:aV w b bm num K)(f:mi K){ns:List Nat}(c:∀n∈ns,n<64)(e:ns.Pairwise (· < ·)):(cU (gK K ns)).size<=117100000000000:=by
 have j:=I7 d f ns c;have k:=h.jO d ns c;have l:=BF ns U (e.imp λ{a b} g=>zo);have o:=rj (a:=0) (m:=64) e λx i=>⟨aaZ _,c x i⟩
 have p:=h.1;omega
end
end
def ki.oj{c:Ctx}{l:List aG}(h:ki c l):gN c l:=⟨h.ctx,λv hv=>⟨(h.each v hv).1,h.pos v hv,(h.each v hv).2.2,(h.each v hv).2.1⟩,h.sorted⟩
def gN.ZX{c:Ctx}{l:List aG}(h:gN c l):ki c l:=⟨h.sorted,λv hv=>⟨(h.fX v hv).1,(h.fX v hv).2.2.2,(h.fX v hv).2.2.1⟩,h.len,h.ctx,λv hv=>(h.fX v hv).2.1⟩
def cF.fit{K:aL}(h:cF K):Fit K:=λs=>⟨(h s).oj,(h s).len⟩
theorem cF.cX:∀{rs:List aJ} {K:aL},cF K->(∀r∈rs,il r.2.1 r.2.2)->cF (cX K rs)
 |[],_,h,_=>h
 |r::rs,K,h,hs=>by
  rw[show Go.Proofs.YtldmcdeibiclkaaGreatQ.cX K (r::rs)=Go.Proofs.YtldmcdeibiclkaaGreatQ.cX (dV K r.1 (jg (K r.1) r.2)) rs from rfl];exact cF.cX (h.upd (Q2 (h r.1).oj (hs r zp).oj).ZX) λx a=>hs x (by simp[a])
theorem cF.da{K:aL}(h:cF K){sg:List (Nat×List aJ)}(a:qh sg):cF (da K sg):=
 h.cX λr d=>by
  obtain⟨g,e,c⟩:=abO.1 d;exact((a.num g e).2.snd r c).1
theorem Aw(kind:Nat)(sg:List (Nat×List aJ)):(Let.bS kind sg).bytes.size=2+(cU sg).size:=by
 simp only[Let.bytes,OF,dE];omega
theorem ZT{w:af}{b num:Nat}{bm:Nat->Nat}{K:aL}(f:aV w b bm num K)(d:cF K)(h:bQ U K)(c:L.Ok)(k:∀kind sg,L=.bS kind sg->bQ U (da K sg)):yg b num bm K w L where
 rep:=f
 qj:=⟨d.ok,h.CK f⟩
 fit:=d.fit
 ok:=c
 out W hw ns ha a:=by
  rw[hw.bS a,Aw]
  have:=h.size hw d.ok a ha;omega
 bS kind sg e W hw:=by
  subst e;have i:=d.da c.2;have a:∀n∈sg.map (·.1),n<64:=λn l=>by
   obtain⟨g,m,rfl⟩:=aaW.1 l;exact(c.2.num g m).1
  have j:=k kind sg rfl;refine⟨⟨i.ok,j.CK hw⟩,?_⟩;rw[hw.bS a,Aw]
  have:=j.size hw i.ok a c.2.l8;omega
theorem bQ.join{K:aL}(h:bQ U K){sg:List (Nat×List aJ)}(hs:∀g∈sg,∀r∈g.2,r.1∈U):bQ U (da K sg):=by
 refine⟨h.1,λs d=>?_⟩;by_cases e: ∃r∈sg.flatMap (·.2),r.1=s
 .obtain⟨r,a,rfl⟩:=e;obtain⟨g,f,c⟩:=abO.1 a;exact hs g f r c
 .rw[da,xG λr a i=>e ⟨r,a,i⟩]at d;exact h.2 s d
theorem me(n:Nat)(r:RS):(cT n r).2.1.size<=r.1.size:=by
 unfold cT;split
 .exact aba _
 simp_all
theorem SE{n:Nat}{r:RS}(h:(cT n r).2.2=false):(cT n r).2.1.size+n<=r.1.size:=by
 unfold cT at*;split at h
 .cases h
 .rename_i a;rw[AT a];simp_all
def Uv(r:RS):(bE r).2.1.size<=r.1.size:=
 IT (me _ _) (IT (me _ _) (IT (me 4 _) (me 1 r)))
theorem G9:∀(n:Nat) (x:List aG×RS),(eF n x).2.1.size<=x.2.1.size
 |0,x=>aba _
 |n+1,x=>by
  cases a:x.2.2 with
  |true=>rw[vE _ a];exact aba _
  |false=>rw[qZ a];exact IT (G9 n _) (Uv x.2)
def Ks(r:RS):∀i,(cH i r).1.size<=r.1.size
 |0=>aba _
 |i+1=>IT (me 4 _) (Ks r i)
theorem Nt{r:RS}(h:(cg r).2.2=false):(cg r).2.1.size+1<=r.1.size:=by
 have a:=tK _ _ h;have c:=vK (mh a);have d:=mh c;have e:(aF 1 r).2.1.size+1<=r.1.size:=SE d;have f:(bX r).2.1.size<=(aF 1 r).2.1.size:=me _ _;have g:=Ks (bX r).2 4;have i:(aF 4 (cH 4 (bX r).2)).2.1.size<=(cH 4 (bX r).2).1.size:=me _ _;have j:(cg r).2.1.size<=(aF 4 (cH 4 (bX r).2)).2.1.size:=G9 _ _;omega
theorem E8{n:Nat}:∀(k:Nat) (x:ah×List aJ×RS),(eZ n k x).2.2.2=false->(eZ n k x).2.1.length+(eZ n k x).2.2.1.size<=x.2.1.length+x.2.2.1.size
 |0,x,_=>aba _
 |k+1,x,a=>by
  have c:=xY _ _ a;rw[uJ c]at a ⊢;have e:=E8 k _ a;have d:=(Cn (xY _ _ a)).1;have f:=Nt d;have g:(x.2.1++ [(cg x.2.2).1]).length=x.2.1.length+1:=zp;have h:(ba (kN n x.1 (cg x.2.2).1) (cg x.2.2).2).1.size=(cg x.2.2).2.1.size:=rfl;grind
theorem PN{n:Nat}{r:RS}(h:(bW n r).2.2=false):(bW n r).1.length+(bW n r).2.1.size<=r.1.size:=by
 have a:=E8 _ _ h;have c:(aF 4 r).2.1.size<=r.1.size:=me _ _;simp only[abM]at a;show(eZ n _ _).2.1.length+(eZ n _ _).2.2.1.size<=_;omega
theorem FO{lev:Nat}:∀(k:Nat) (x:Int×List (Nat×List aJ)×RS),(eY bW lev k x).2.2.2=false->((eY bW lev k x).2.1.flatMap (·.2)).length+(eY bW lev k x).2.2.1.size<=(x.2.1.flatMap (·.2)).length+x.2.2.1.size
 |0,x,_=>aba _
 |k+1,x,a=>by
  cases c:x.2.2.2 with
  |true=>rw[mJ _ _ _ c,c]at a;cases a
  |false=>
   rw[uD c]at a ⊢;have h1:=FO k _ a;have d:(bW (aF 1 x.2.2).1 (rA lev x.1 x.2.2)).2.2=false:=by
    cases e:(bW (aF 1 x.2.2).1 (rA lev x.1 x.2.2)).2.2 with
    |true=>rw[mJ _ _ _ (by exact e)]at a;grind
    |false=>rfl
   have f:=PN d;have g:(rA lev x.1 x.2.2).1.size<=x.2.2.1.size:=me _ _;grind
theorem LK{T:ah}(h:dZ T=some L):L.keys.length<=T.size:=by
 unfold dZ at h;split at h
 .split at h<;>cases h;exact aaZ _
 .split at h
  .split at h<;>cases h;exact aaZ _
  .split at h
   .split at h
    .rename_i a;cases h;simp only[dJ,No,Bool.not_eq_true']at a;have c:=FO _ _ a.1;have e:(aF 1 (aF 1 (T,false)).2).2.1.size<=(aF 1 (T,false)).2.1.size:=me _ _;have f:(aF 1 (T,false)).2.1.size<=T.size:=me 1 (T,false);have d:(Let.keys (.bS (aF 1 (T,false)).1 (cf bW 3 (aF 1 (T,false)).2).1)).length=((cf bW 3 (aF 1 (T,false)).2).1.flatMap (·.2)).length:=by
      simp only[Let.keys,List.length_flatMap,abe]
     rw[d];simp only[List.flatMap_nil,abM,ba]at c;show((eY bW 3 _ _).2.1.flatMap (·.2)).length<=_;simp only[ba];omega
    .cases h
   .cases h
end Go.Proofs.YtldmcdeibiclkaaGreatQ
namespace Go.Proofs.YtldmcdeibiclkaaGreatQ
open Go.RowKit
theorem IW(n:Int):be (aK n)=n%256:=by
 simp[be,aK,dL,kB,tW,show(ByteArray.mk #[byteOf n]).size=1 from rfl,ByteArray.getElem_eq_getElem_data]
theorem JA(p q:ah):∀k,k<=p.size->dL (p++q) k=dL p k
 |0,_=>rfl
 |k+1,h=>by
  rw[dL,dL,JA p q k zo];congr 1;unfold kB;rw[dif_pos (show k<p.size by omega),dif_pos (show k<(p++q).size by grind),ByteArray.getElem_append_left zo]
theorem wG(p:ah)(n:Int):be (p++aK n)=be p*256+n%256:=by
 rw[be,OF,dE,dL,JA p _ _ zf,be];congr 1;unfold kB;rw[dif_pos (by rw[OF,dE];omega),ByteArray.getElem_append_right zf,<-tW];congr 2;simp[aK,ByteArray.getElem_eq_getElem_data]
def Ap(d:Int):(eA d).size=8:=uW d 8
theorem Fl(d:Int)(a:0<=d)(h1:d<18446744073709551616):∀k,k<=8->be (kT d k)=d / 2 ^ (64-8*k)
 |0,_=>by
  show(0:Int)=_;omega
 |k+1,c=>by
  rw[kT,wG,Fl d a h1 k zo,show 64-8*(k+1)=56-8*k by omega,show 64-8*k=(56-8*k)+8 by omega,Int.pow_add,<-Int.ediv_ediv_of_nonneg zg];omega
theorem vU(d:Int)(a:0<=d)(h1:d<18446744073709551616):be (eA d)=d:=by
 rw[eA,Fl d a h1 8 zo];simp
theorem KI(d:Nat->Int):∀k i,i<k->(cu d k).extract (8*i) (8*i+8)=eA (d i)
 |k+1,i,h=>by
  have hs:=kx d k;rw[cu,ByteArray.extract_append];by_cases e:i=k
  .subst e;rw[hs,show 8*i-8*i=0 by omega,show 8*i+8-8*i=8 by omega];have c:(eA (d i)).extract 0 8=eA (d i):=by rw[<-Ap (d i)];simp
   rw[c];have a:(cu d i).extract (8*i) (8*i+8)=ByteArray.empty:=by
    simp_all
   rw[a,lG]
  .rw[KI d k i zo,hs];have a:(eA (d k)).extract (8*i-8*k) (8*i+8-8*k)=ByteArray.empty:=by
    rw[show 8*i+8-8*k=0 by omega];simp_all
   rw[a,iT]
theorem Mm{D:ah}{d:Nat->Int}(h:tI D d){x:Int}(a:0<=x)(h1:x<18446744073709551616){i:Nat}(hi:i<4):eA x=D.extract (8*i) (8*i+8)↔x=d i:=by
 rw[h.2 i hi];refine⟨λe=>by rw[<-e,vU x a h1],λe=>DG ?_ (by rw[vU x a h1,e])⟩;rw[Ap,acO,h.1];omega
theorem yP:∀(ps:List Pt) (k:Nat) (h:k<ps.length),(rn ps)[k*3]?=.i ps[k].1/\(rn ps)[k*3+1]?=.s ps[k].2.1/\(rn ps)[k*3+2]?=some ps[k].2.2.1
 |p::ps,0,_=>by simp[rn]
 |p::ps,k+1,h=>by
  have:=yP ps k (by simpa using h);simp only[rn,acn,List.getElem_cons_succ] at*;grind
theorem M5{W:af}{B a b:Nat}(f:a<256)(hb:b<256)(h:W.heap[B]?=.c #[.int .u8 a,.int .u8 b] 5):(convert 124 9 (.l B 2 2)).run aC.prog W=.ok (.s (aK a++aK b)) W:=by
 have e:aK a++aK b=⟨#[byteOf a,byteOf b]⟩:=by apply acj;simp[aK,ByteArray.data_append]
 rw[e];have d:W.heap[B]?=.c #[.int .u8 ((a:Int)%256),.int .u8 ((b:Int)%256)] 5:=zg;refine run_convert_bytes_arg (P:=aC.prog) _ 124 5 aC.underlying124 aC.underlying5 B 0 2 2 [(a:Int)%256,(b:Int)%256] rfl (λj hj=>?_) 9 aC.underlying9;rw[(aH d).1];grind
def gu(D:Nat->Int):List Nat->ah
 |[]=>ByteArray.empty
 |n::ns=>aK n++cu (λj=>D (n*4+j)) 4++gu D ns
theorem SM(D:Nat->Int)(l:List Nat)(n:Nat):gu D (l++ [n])=gu D l++(aK n++cu (λj=>D (n*4+j)) 4):=by
 induction l with
 |nil=>simp[gu,iT,lG]
 |cons x l a=>rw[abT,gu,a,gu];simp only[cE]
def sC(T:Nat->ah)(c:Nat->Nat)(lev:Nat)(ns:List Nat):ByteArray:=
 if ns= [] then ⟨#[]⟩ else if lev=2 then aK 83++aK ns.length++eP T c ns else aK 78++(aK (lev+1:Nat)++aK ns.length)++gu (dg T (3-(lev+2))) ns
theorem NP{w:af}{rb base lev:Nat}{T:Nat->ah}{c:Nat->Nat}(hS:∀W,Below w w W->mu W rb T c)(a6:lev<3)(v:ag)(ps:List Pt)(sg:List Nd)(hP:kJ w base v ps)(hl:ps.length<=64)(c5:sg.length=ps.length)(C:∀i (h:i<ps.length),(sg[i]'zo).1=ps[i].1/\tI ps[i].2.1 (sg[i]'zo).2)(ab:∀g∈sg,g.1<4 ^ lev)(V:(sg.map (·.1)).Pairwise (· < ·))(ao:∀k n,0<=dg T k n/\dg T k n<18446744073709551616)(hc:∀n,n<64->c n<=4294967295)(aq:∀ns:List Nat,ns.Pairwise (· < ·)->(∀n∈ns,n<64)->(eP T c ns).size<=140737488355000):
  Calls aC.prog 82 #[.p rb,.i lev,v] w λe w'=>e=.r (.s (sC T c lev (bV (dg T (3-(lev+1))) sg)))/\Below w w w':=by
 obtain⟨i0,b3,b4,b5,b6⟩:=aaY aC.yF;obtain⟨ad,cap,rfl⟩:=dS hP.1;have HP:=zu hP;have h4:=(mz (show lev<=3 by omega)).1;have E:Hid (∀i (h:i<ps.length) W,Below w w W->Calls aC.prog 76 #[.p rb,.i lev,.i ps[i].1] W λe w'=>e=.r (.s (cu (λj=>dg T (3-(lev+1)) (ps[i].1*4+j)) 4))/\Below W W w'):=λi h W X=>by
  have h1:=ab (sg[i]'zo) (IS _);rw[(C i h).1]at h1;exact B9 (hS W X) a6 h1 W zj
 have F:Hid (∀i (h:i<ps.length),(sg[i]'zo).1=ps[i].1/\tI ps[i].2.1 (sg[i]'zo).2/\ps[i].1<64):=λi h=>⟨(C i h).1,(C i h).2,by have h1:=ab (sg[i]'zo) (IS _);rw[(C i h).1]at h1;omega⟩
 have b7:=zu ao;have f:=vq (D:=dg T (3-(lev+1))) ab;have y:=vR (D:=dg T (3-(lev+1))) V;have G:=(mz (show lev+1<=3 by omega)).1;have b8:=rj (a:=0) (m:=64) y λx hx=>⟨aaZ _,abc (f x hx) G⟩
 have a7:Hid (∀d,bV (dg T (3-(lev+1))) sg=d->bV (dg T (3-(lev+1))) sg=d):=λ_ h=>h;generalize a8:bV (dg T (3-(lev+1))) sg=d at*;have b9:=zu a8;have o:Hid (sC T c lev d=if d= [] then ⟨#[]⟩ else if lev=2 then aK (83:Nat)++aK d.length++eP T c d else aK 78++(aK (lev+1:Nat)++aK d.length)++gu (dg T (3-(lev+2))) d):=hid rfl;generalize sC T c lev d=cm at*;clear hP C a8 a7;go_enter aC.func82,aC.ntmps82;go_upto_block 0 with fail;have bb:Hid (∀n,0<=dg T (3-(lev+1)) n/\dg T (3-(lev+1)) n<18446744073709551616):=λn=>ao _ n;go_cut [7,8,9,10] from 14 to 61 (λov _ _ _ wx=>Hid (fi wx w ov d)/\Hid (Below w w wx))
 case first=>
  clear hS hc aq ao b7 V f y b8 o;generalize dg T (3-(lev+1))=DD at*;go_wp2_with fail;go_loopw [7,8] (λov iv wr=>∃k:Nat,k<=ps.length/\iv=.i k/\Hid (fi wr w ov (bV DD (sg.take k)))/\Hid (Below w w wr)) (λ_ iv _=>ps.length-(intOf iv).toNat)
  case atStart=>exact⟨0,zo,rfl,abh _ _ _ _,zj⟩
  case round=>
   obtain⟨k,hk,rfl,Y,H⟩:=hrel;by_cases t:k<ps.length
   .obtain⟨g,bd,e,_,_,hg,cc⟩:=dU HP.out.1 zo;cases e;obtain⟨f0,f1,_⟩:=yP ps k t;have p0:=cc (k*3) _ zo f0;have p1:=cc (k*3+1) _ zo f1;have N:Hid (∀W,Below w w W->W.cell? (.a g (k*3))=.i ps[k].1/\W.cell? (.a g (k*3+1))=.s ps[k].2.1):=λW X=>⟨aX p0 X,aX p1 X⟩
    have ca:k<sg.length:=zo;obtain⟨bp,ar,cb⟩:=F.out k t;have HT:=zu (Dz DD ca);have hL:(bV DD (sg.take k)).length<=256:=IT (Fa DD _) (by have:=ade k sg;omega);have I:=hid (E.out k t wr H.out);rw[<-bp]at N I cb;clear cc p0 p1 f0 f1 bp;generalize sg[k]=nd at*;generalize ps[k].2.1=D at*;have c6:=ar.1;have cd:Hid (∀i,i<4->(eA (DD (nd.1*4+i))=D.extract (8*i) (8*i+8)↔DD (nd.1*4+i)=nd.2 i)):=λi hi=>Mm ar (bb.out _).1 (bb.out _).2 hi;have cj:Hid (∀i,i<4->(cu (λj=>DD (nd.1*4+j)) 4).extract (8*i) (8*i+8)=eA (DD (nd.1*4+i))):=λi hi=>KI _ 4 i hi;have ck:(cu (λj=>DD (nd.1*4+j)) 4).size=32:=kx _ 4;generalize cu (λj=>DD (nd.1*4+j)) 4=mine at*;generalize bV DD (sg.take k)=L at*;have a1:(k:Int)<(ps.length:Int):=zo;have a0:(0:Int)<=(k:Int):=zo;obtain⟨p0,p1⟩:=N.out wr H.out;clear ar F E;go_wp2_with (go_at_call 76;refine I.out.mono ?_;rintro e w2 ⟨rfl,av⟩;have br:Hid (fi w2 w u7 (L++dI DD nd 0)):=(by rw[show dI DD nd 0= [] from rfl,abU];exact bH Y.out av zf);have bs:=zu (bk H.out av);clear av)
    clear Y H p0 p1 I;go_loopw [7,10] (λov jv wq=>∃j:Nat,j<=4/\jv=.i j/\Hid (fi wq w ov (L++dI DD nd j))/\Hid (Below w w wq)) (λ_ jv _=>4-(intOf jv).toNat)
    case atStart=>exact⟨0,zo,rfl,br.out,bs.out⟩
    case round=>
     obtain⟨j,hj,rfl,J,z⟩:=hrel;clear br bs;by_cases bx:j<4
     .have j1:(j:Int)<4:=zo;have j0:(0:Int)<=(j:Int):=zo;have w8:IntKind.i64.wrap (8*(j:Int))=8*(j:Int):=by rw[IntKind.wrap_i64];omega
      have c7:IntKind.i64.wrap (8*(j:Int)+8)=8*(j:Int)+8:=by rw[IntKind.wrap_i64];omega
      have n0:(0:Int)<=(nd.1:Int):=zo;have n1:(nd.1:Int)<=64:=zo;have c8:(L++dI DD nd j).length<=260:=by have:=Au DD nd j;rw[abo];omega
      have O:Hid (L++dI DD nd (j+1)=(L++dI DD nd j)++(if DD (nd.1*4+j)≠nd.2 j then [nd.1*4+j] else [])):=(show _=_ by rw[Dd,List.append_assoc])
      have ay:=cd.out j bx;rw[<-cj.out j bx]at ay;have u:=hid ay;obtain⟨p0,p1⟩:=N.out wr z.out;have c9:=z.out.size;clear ay;generalize L++dI DD nd j=Li at*;generalize hA:mine.extract (8*j) (8*j+8)=A at*;generalize hB:D.extract (8*j) (8*j+8)=B at*;by_cases hd:DD (nd.1*4+j)=nd.2 j
      .rw[AT (by simpa using hd),abU]at O;have bB:=tN (u.out.2 hd);clear u hd;go_upto_region 9 with fail;go_quiet (fail);go_wp2;exact⟨⟨j+1,zo,by go_num,by rw[O.out];exact bH J.out (abg zj _) zf,abg z.out _⟩,zi⟩
      .rw[BY (by simpa using hd)]at O;have bB:=rM (λe=>hd (u.out.1 e));clear u hd;go_upto_region 9 with fail;go_quiet (fail);have R:Below wr wr (wr.drewN nq):=abg zj _;obtain⟨Wq,bL⟩: ∃W,W=wr.drewN nq:=⟨_,rfl⟩
       rw[<-bL]at R ⊢;have az:=zu (bk z.out R);obtain⟨p0,p1⟩:=N.out Wq az.out;have bN:Hid ((Wq.alloc (.cells #[.i (4*(nd.1:Int)+(j:Int))] 3)).ownsRow w 3 1 u7 Li.length (Li.map λ(n:Nat)=>Value.int .i64 (n:Int))):=aaV (bH J.out R zf) _;have aA:Hid (Below w w (Wq.alloc (.cells #[.i (4*(nd.1:Int)+(j:Int))] 3))):=az.out.alloc az.out.size _;clear bL R J z bB;go_wp2_with (at_builtin;refine kj _ rfl _ _ _ rfl w 3 i0 _ 1 8 aC.underlying180 b3 b4 b5 b6 rfl zo u7 _ _ rfl bN.out (.a Wq 0) 1 1 _ rfl (by rfl) (aaT (By Wq _)) zv zo ze zo aA.out.size ?_;intro g7 c0 w7 M Z;have cl:=hid M;have cp:=hid Z;clear M Z)
       refine⟨⟨j+1,zo,by go_num,?_,cp.out.toBelow aA.out aA.out.size bN.out⟩,zi⟩;rw[O.out];have h7:=cl.out;rw[show(4*(nd.1:Int)+(j:Int))=((nd.1*4+j:Nat):Int) by omega]at h7;exact fi.snoc h7
     .obtain rfl:j=4:=zo;rw[<-HT.out]at J;go_wp2;exact⟨⟨k+1,zo,by go_num,J.out,z.out⟩,zi⟩
   .obtain rfl:k=ps.length:=zo;have hR:=Y.out;rw[acK zo]at hR;have cq:=hid hR;clear hR Y;go_wp2_with fail;go_meet;exact⟨by have:=cq.out;rw[b9.out]at this;exact this,H.out⟩
 case rest=>
  obtain⟨Y,H⟩:=hcut;obtain⟨cr,bR,rfl⟩:=dS Y.out;by_cases e0:d.length=0
  .have cv:=zu (o.out.trans (BY (acP e0)));have e1:(d.length:Int)=0:=zo;clear o hS E F f y;go_wp2;go_ret;exact⟨by rw[cv.out];rfl,H.out⟩
  .have e1: ¬(d.length:Int)=0:=zo;have aB:d≠[]:=λe=>e0 (by rw[e];rfl);rw[AT aB]at o;by_cases l2:(lev:Int)=2
   .have aE:lev=2:=zo;rw[BY aE]at o;have cw:Hid (Calls aC.prog 109 #[.p rb,.s ⟨#[83]⟩,.slice cr d.length bR] wc λe w'=>e=.r (.s cm)/\Below wc wc w'):=(by
     have:=F7 (hS wc H.out) 83 w _ d Y.out zo (λn hn=>abc (f n hn) G) (λn hn=>hc n (abc (f n hn) G)) (aq d y λn hn=>abc (f n hn) G);rw[<-o.out]at this;exact this)
    clear hS E F f y aB;go_wp2_with (go_at_call 109;refine cw.out.mono ?_;rintro e w3 ⟨rfl,bT⟩;have cx:=hid bT;clear bT)
    go_ret;exact⟨rfl,bk H.out cx.out⟩
   .have aE: ¬lev=2:=zo;rw[AT aE]at o;have db:((d.length:Int)==0)=false:=by simpa using e0
    have dd:((lev:Int)==2)=false:=by simpa using l2
    have di:(lev:Int)+1<=2:=zo;have dj:(0:Int)<=(lev:Int):=zo;have cA:∀(W:af) B,W=B->(convert 124 9 (.l B 2 2)).run aC.prog (W.alloc (.cells #[.int .u8 ((lev:Int)+1),.int .u8 d.length] 5))=.ok (.s (aK (lev+1:Nat)++aK d.length)) (W.alloc (.cells #[.int .u8 ((lev:Int)+1),.int .u8 d.length] 5)):=λW B hB=>M5 zo zo (by subst hB;exact By W _);have cB:(aK (lev+1:Nat)++aK d.length).size=2:=rfl;have cI:Hid (∀i (h:i<d.length) W,Below w w W->Calls aC.prog 76 #[.p rb,.i ((lev:Int)+1),.i d[i]] W λe w'=>e=.r (.s (cu (λj=>dg T (3-(lev+2)) (d[i]*4+j)) 4))/\Below W W w'):=λi h W X=>by
     have:=B9 (lv:=lev+1) (hS W X) zo (f d[i] (IS h)) W zj;rw[show((lev+1:Nat):Int)=(lev:Int)+1 by omega]at this;exact this
    have cK:Hid (∀i (h:i<d.length),d[i]<64):=λi h=>abc (f _ (IS h)) G;rw[show aK 78=ByteArray.mk #[78] from rfl]at o;generalize aK (lev+1:Nat)++aK d.length=hb at*;clear hS E F f y aB aq hc;go_wp2;have bZ:Hid (Below wc wc (wc.alloc (.cells #[.int .u8 ((lev:Int)+1),.int .u8 d.length] 5))):=zj.alloc zf _;clear cA;generalize dg T (3-(lev+2))=DE at*;have b0:Hid (∀k,(gu DE (d.take k)).size<=33*64):=λk=>by
     have key:∀l:List Nat,(gu DE l).size=33*l.length:=λl=>by
      induction l with
      |nil=>rfl
      |cons x l ih=>rw[gu,OF,OF,ih,kx,dE,abi];omega
     rw[key,acN];omega
    have dk:(⟨#[78]⟩++hb:ah).size=3:=by rw[OF,cB];rfl
    generalize (⟨#[78]⟩++hb:ah)=hN at*;go_loopw [11,12] (λsv iv wr=>∃k:Nat,k<=d.length/\iv=.i k/\sv=.s (hN++gu DE (d.take k))/\Hid (Below wc wc wr)) (λ_ iv _=>d.length-(intOf iv).toNat)
    case atStart=>exact⟨0,zo,rfl,by simp[gu],bZ.out⟩
    case round=>
     obtain⟨k,hk,rfl,rfl,S⟩:=hrel;clear bZ;by_cases t:k<d.length
     .have k1:(k:Int)<(d.length:Int):=zo;have k0:(0:Int)<=(k:Int):=zo;obtain⟨g,bd,e,_,_,hg,cc⟩:=dU Y.out zo;cases e;have cn:=cc k (.i d[k]) zo (by simp[t]);have dm:=aX cn S.out;have c1:=cK.out k t;have n1:(d[k]:Int)<=255:=zo;have n0:(0:Int)<=(d[k]:Int):=zo;have cN:Hid (hN++gu DE (d.take (k+1))=hN++gu DE (d.take k)++aK d[k]++cu (λj=>DE (d[k]*4+j)) 4):=(show _=_ by rw[abE t,SM];simp only[cE])
      have dq:(hN++gu DE (d.take k)).size<=2115:=by have:=b0.out k;rw[OF];omega
      have b1:=hid (cI.out k t wr (bk H.out S.out));have ck:(cu (λj=>DE (d[k]*4+j)) 4).size=32:=kx _ 4;have cW:Hid (∀W,Below wc wc W->W.cell? (.a g k)=.i d[k]):=λW X=>aX cn X;have hcv:∀(W:af) B,W=B->(convert 124 9 (.l B 1 1)).run aC.prog (W.alloc (.cells #[.int .u8 d[k]] 5))=.ok (.s (aK d[k])) (W.alloc (.cells #[.int .u8 d[k]] 5)):=λW B hB=>sP zo (by subst hB;exact By W _);have dt:(aK d[k]).size=1:=rfl;generalize hN++gu DE (d.take k)=st at*;generalize cu (λj=>DE (d[k]*4+j)) 4=nb at*;generalize aK d[k]=ob at*;generalize d[k]=nk at*;clear cc cn;go_wp2_with (go_at_call 76;refine b1.out.mono ?_;rintro e w4 ⟨rfl,b2⟩;have aT:=zu (bk S.out b2);have du:=cW.out w4 aT.out;clear b2)
      exact⟨⟨k+1,zo,by go_num,by rw[cN.out],aT.out.alloc aT.out.size _⟩,zi⟩
     .obtain rfl:k=d.length:=zo;have cY:=o.out;rw[abF,<-cY];go_wp2;go_ret;exact⟨rfl,bk H.out S.out⟩
end Go.Proofs.YtldmcdeibiclkaaGreatQ
namespace Go.Proofs.YtldmcdeibiclkaaGreatQ
section
theorem oN{n:Nat}{p:ah}(q:ah)(h:p.size=n):cT n (p++q,false)=(p,(q,false)):=by
 subst h;have a:(p++q).extract 0 p.size=p:=by
  apply acj;simp_all
 have c:(p++q).extract p.size (p++q).size=q:=by
  rw[ByteArray.extract_append,OF,show p.size-p.size=0 by omega,show p.size+q.size-p.size=q.size by omega,show p.extract p.size (p.size+q.size)=ByteArray.empty by
   simp_all,lG]
  simp
 unfold cT;grind
theorem LL{x:Int}(a:0<=x)(h1:x<4294967296):be (dp x)=x:=by
 have e:dp x=aK (x / 16777216)++aK (x / 65536)++aK (x / 256)++aK x:=by apply acj;simp[dp,aK,ByteArray.data_append]
 rw[e,wG,wG,wG,IW];omega
section
variable (q:ah)
theorem rq(x:Int):aF 1 (aK x++q,false)=((x%256).toNat,(q,false)):=by
 unfold aF;rw[oN q (dE x),IW]
theorem CS(x:Int):(aF 4 (dp x++q,false)).2=(q,false):=by
 unfold aF;rw[oN q (l6 x)]
theorem EG{n:Nat}(h:n<4294967296):aF 4 (dp n++q,false)=(n,(q,false)):=by
 unfold aF;rw[oN q (l6 n),LL zo zo,Int.toNat_natCast]
theorem Hi{k:ah}(h:k.size<256):bX (eU k++q,false)=(k,(q,false)):=by
 unfold bX;rw[eU,cE,rq];exact oN q zo
theorem K6{v:aG}(h:v.val.size<256):(bE (gq v++q,false)).2=(q,false):=by
 simp only[bE,gq,cE,rq,CS,Hi _ h]
theorem TN(c:Ctx):cH 4 (l9 c++q,false)=(q,false):=by
 show(aF 4 (aF 4 (aF 4 (aF 4 (l9 c++q,false)).2).2).2).2=_;simp only[l9,gf,lG,cE,CS]
theorem Ze(v:aG)(l:List aG):dz (v::l)=gq v++dz l:=by
 have key:∀(l:List aG) s,l.foldl (λs v=>s++gq v) s=s++dz l:=λl=>by
  induction l with
  |nil=>intro s;simp[dz]
  |cons v l a=>
   intro s;have e:dz (v::l)=gq v++dz l:=by
    show List.foldl (λs v=>s++gq v) (ByteArray.empty++gq v) l=_;rw[a,lG]
   rw[acJ,a,e,cE]
 show List.foldl (λs v=>s++gq v) (ByteArray.empty++gq v) l=_;rw[key,lG]
theorem Hl:∀(l acc:List aG),(∀v∈l,v.val.size<256)->(eF l.length (acc,(dz l++q,false))).2=(q,false)
 |[],acc,_=>by simp[eF,dz,lG]
 |v::l,acc,h=>by
  rw[abi,qZ (by rfl),Ze,cE,K6 _ (h v zp)];exact Hl l _ λu a=>h u (by simp[a])
def uY(r:aJ):Prop:=r.1.size<256/\r.2.2.length<4294967296/\∀v∈r.2.2,v.val.size<256
theorem K4{r:aJ}(h:uY r):(cg (dY r.1 r.2.1 r.2.2++q,false)).1.1=r.1/\(cg (dY r.1 r.2.1 r.2.2++q,false)).2=(q,false):=by
 simp only[cg,dY,cE,Hi _ h.1,TN,EG _ h.2.1,Hl _ _ _ h.2.2,and_self]
abbrev keysOf(l:List aJ):List ByteArray:=l.map (·.1)
theorem FM{n:Nat}:∀(rs:List aJ) (last:ah) (acc:List aJ),(∀r∈rs,uY r)->(∀s∈keysOf (eZ n rs.length (last,acc,(jM rs++q,false))).2.1,s∈keysOf acc++keysOf rs)/\((eZ n rs.length (last,acc,(jM rs++q,false))).2.2.2=false->(eZ n rs.length (last,acc,(jM rs++q,false))).2.2=(q,false))
 |[],last,acc,_=>by simp[eZ,jM,lG]
 |r::rs,last,acc,h=>by
  obtain⟨h1,a⟩:=K4 (jM rs++q) (h r zp);rw[abi,uJ (by rfl),jM,cE];simp only[h1,a];generalize kN n last (cg (dY r.1 r.2.1 r.2.2++(jM rs++q),false)).1=g;cases g with
  |true=>
   obtain⟨c,d⟩:=FM rs r.1 (acc++ [(cg (dY r.1 r.2.1 r.2.2++(jM rs++q),false)).1]) λx f=>h x (by simp[f]);refine⟨λs hs=>?_,d⟩
   have:=c s hs;grind
  |false=>
   rw[qL _ _ (by rfl)];refine⟨λs hs=>?_,λe=>by cases e⟩;grind
theorem LX{n:Nat}{rs:List aJ}(h:∀r∈rs,uY r)(hl:rs.length<4294967296)(r:RS)(e:r.1=gB rs++q):(∀s∈keysOf (bW n r).1,s∈keysOf rs)/\((bW n r).2.2=false->(bW n r).2=(q,false)):=by
 obtain⟨s,f⟩:=r;obtain rfl:s=gB rs++q:=e;unfold bW;cases f with
 |false=>
  rw[gB,cE,EG _ hl];obtain⟨a,c⟩:=FM q rs ⟨#[]⟩ [] h;exact⟨λs hs=>by simpa using a s hs,c⟩
 |true=>
  have e:(aF 4 (gB rs++q,true)).2.2=true:=by unfold aF cT;rw[BY (.inl rfl)]
  rw[qL _ _ e];grind
theorem Ia{lev:Nat}:∀(sg:List (Nat×List aJ)) (last:Int) (acc:List (Nat×List aJ)) (f:Bool),(∀g∈sg,g.2.length<4294967296/\∀r∈g.2,uY r)->∀s∈(eY bW lev sg.length (last,acc,(cU sg,f))).2.1.flatMap λg=>keysOf g.2,s∈(acc.flatMap λg=>keysOf g.2)++sg.flatMap λg=>keysOf g.2
 |[],_,acc,f,_=>λs hs=>by simpa[eY] using hs
 |g::sg,last,acc,true,_=>by
  rw[mJ _ _ _ (by rfl)];grind
 |g::sg,last,acc,false,h=>by
  rw[abi,uD (by rfl),cU];simp only[rA,rq];obtain⟨h1,c⟩:=LX (n:=((g.1:Int)%256).toNat) (cU sg) (h g zp).2 (h g zp).1 (ba (decide (last<((((g.1:Int)%256).toNat:Nat):Int))&&decide (lev<=3/\((g.1:Int)%256).toNat<4 ^ lev)) (gB g.2++cU sg,false)) rfl;generalize bW ((g.1:Int)%256).toNat (ba (decide (last<((((g.1:Int)%256).toNat:Nat):Int))&&decide (lev<=3/\((g.1:Int)%256).toNat<4 ^ lev)) (gB g.2++cU sg,false))=R at*;obtain⟨rs,r⟩:=R;simp only at*;cases a:r.2 with
  |false=>
   obtain rfl:=c a;intro s hs
   have:=Ia (lev:=lev) sg _ _ false (λx d=>h x (by simp[d])) s hs;grind
  |true=>
   rw[mJ _ _ _ (by exact a)];grind
end
theorem Px{kind:Nat}{sg:List (Nat×List aJ)}(c:kind=83\/kind=84)(hl:sg.length<256)(h:∀g∈sg,g.2.length<4294967296/\∀r∈g.2,uY r):∀s∈lO (Let.bS kind sg).bytes,s∈(Let.bS kind sg).keys:=by
 have a:((kind:Int)%256).toNat=kind:=zo;intro s hs;unfold lO dZ at hs;rw[Let.bytes,rq,a]at hs;simp only at hs;rw[AT zo,AT zo,BY c]at hs;split at hs
 .simp only[cf,rq,aca,Option.getD_some,Let.keys,show((sg.length:Int)%256).toNat=sg.length by omega,ba]at hs
  have:=Ia (lev:=3) sg _ _ _ h s hs;simp only[List.flatMap_nil,List.nil_append]at this;exact this
 .cases hs
theorem CD{T:ah}{x:Nat}{q:ah}(h:T=aK x++q)(c:x=82\/x=78):lO T= []:=by
 subst h;have a:((x:Int)%256).toNat=x:=zo;unfold lO dZ;rw[rq,a];simp only;rcases c with rfl|rfl
 .rw[BY rfl];split<;>rfl
 .rw[AT zd,BY rfl];split<;>rfl
end
end Go.Proofs.YtldmcdeibiclkaaGreatQ
namespace Go.Proofs.YtldmcdeibiclkaaGreatQ
open Go.RowKit
section
variable {U:List ah}
theorem Zm(d:Int):fO U (kK d):=⟨by rw[kK,OF,dE,eA,uW];omega,by rw[CD (T:=kK d) (x:=82) (q:=eA d) rfl (.inl rfl)];exactλs hs=>by cases hs⟩
theorem I5{w w4 D:af}{wb:Nat}{pv hv:ag}{gs:List PG}{hs:List Nat}{o:Option Addr}{f u p:Nat}{ls:List ah}{lt:ah}(M:∀T∈ls,fO U T)(N:fO U lt)(h:dQ U w4 wb pv (.slice o ls.length f) hv gs hs)(Z:Below w w w4)(hR:w4.ownsRow 0 9 1 (.slice o ls.length f) ls.length (ls.map Value.string))(hG:(w4.alloc (.cells #[.s lt] 9)).grownBy D (Value.slice o ls.length f).ownBlock)(hO:D.ownsRow 0 9 1 (.l u (ls.length+1) p) (ls.length+1) (ls.map Value.string++ [.s lt]))(hb:D.heap[wb]?=.c #[pv,.slice o ls.length f,hv] 30)(hA:(Value.slice o ls.length f).ownBlock=some u\/u=(w4.alloc (.cells #[.s lt] 9)).heap.size):
  ∃y,dQ U (D.setCell (.a wb 1) (.l u (ls.length+1) p)) wb pv y hv gs hs/\(∀ad n cap,Value.slice o ls.length f=.slice ad n cap->∃O G,y=.slice O (n+1) G)/\Fr (λk=>k=wb\/(Value.slice o ls.length f).ownBlock=some k) w (D.setCell (.a wb 1) (.l u (ls.length+1) p))/\∀k,y.ownBlock=some k->(Value.slice o ls.length f).ownBlock=some k\/w<=k:=by
 generalize R:Value.slice o ls.length f=le at*;obtain⟨w6,x⟩: ∃W,W=D.setCell (.a wb 1) (.l u (ls.length+1) p):=⟨_,rfl⟩
 have H:Fr (λk=>k=wb\/le.ownBlock=some k) w4 w6:=by
  rw[x];exact Fr.setCell (X:=λk=>k=wb\/le.ownBlock=some k) (((Fr.refl _ w4).alloc _).grown hG λk e _=>Or.inr e) (Or.inr (Or.inl rfl)) _
 have v:∀j t d,w4.heap[j]?=.c d t->t≠30->t≠9->¬(j=wb\/le.ownBlock=some j):=by
  rintro j t d hj t1 t2 (e|e)
  .rw[e]at hj;exact t1 (oD hj h.blk)
  .obtain⟨I,z⟩:=fe hR e;exact t2 (oD hj z)
 have hM:∀j es c,w4.heap[j]?=some (.map es c)->¬(j=wb\/le.ownBlock=some j):=by
  rintro j es c hj (e|e)
  .rw[e,h.blk]at hj;cases hj
  .obtain⟨I,z⟩:=fe hR e;rw[z]at hj;cases hj
 have hold:∀k∈hs,fB w6 k λg=>g<w4.heap.size/\le.ownBlock≠some g:=λk r=>by
  have E:fB w4 k λg=>g<w4.heap.size/\le.ownBlock≠some g:=by
   cases e:le.ownBlock with
   |none=>exact(h.holds k r).weaken λg i _=>⟨i,by simp⟩
   |some b=>exact(h.free b e k r).weaken λg i S=>⟨i,λB=>S (acy B).symm⟩
  obtain⟨d,ht⟩:=(h.holds k r).typed;refine E.frame H (v _ _ _ ht (by decide) (by decide)) (λg d i=>v g _ d i (by decide) (by decide)) (λg d i=>v g _ d i (by decide) (by decide)) (λg d _ i=>v g _ d i (by decide) (by decide)) (λg d i hc=>?_);rintro (e|e)
  .rw[e]at hc;exact absurd (oD hc h.blk) (by decide)
  .exact i.2 e
 have hz:=hG.size;simp only[eK]at hz;have J:le.ownBlock=some u\/w4<=u:=hA.imp id λe=>by rw[e];simp
 rw[<-x];refine⟨.l u (ls.length+1) p,⟨?_,?_,?_,?_,h.apart,λk r=>(hold k r).weaken λ_ _ _=>trivial,⟨ls++ [lt],?_,λT F=>?_⟩,λk e k' V=>?_⟩,λad n cap e=>?_,(Fr.cQ Z).trans H,λk e=>?_⟩
 .rw[x,heap_set hb];rfl
 .exact H.fh h.og λk d r=>v k _ d r (by decide) (by decide)
 .exact H.fh h.aT λk d r=>v k _ d r (by decide) (by decide)
 .intro g i;obtain⟨⟨A,kb⟩,km,⟨C,kr⟩⟩:=(h.dx g i).kinds;refine(h.dx g i).frame H (v _ _ _ kb (by decide) (by decide)) (λm Y=>?_) (v _ _ _ kr (by decide) (by decide)) (λk d r=>v k _ d r (by decide) (by decide)) (λk d r=>v k _ d r (by decide) (by decide)) (λk d r=>v k _ d r (by decide) (by decide));obtain⟨es,c,Y⟩:=km m Y;exact hM _ es c Y
 .rw[abo,acQ,abZ,x];refine(Fr.setCell (X:=λk=>k=wb) (Fr.refl _ _) (Or.inr rfl) _).fh hO λg d i e=>?_;have B:=e;rw[B]at i;exact absurd (oD i hb) (by decide)
 .rcases abr.1 F with F|F
  .exact M T F
  .rw[abu]at F;rw[F];exact N
 .have B:u=k:=by simpa[Value.ownBlock] using e
  subst B;exact(hold k' V).weaken λg _ i e=>by
   subst e;rcases J with E|E
   .exact i.2 E
   .have:=i.1;omega
 .rw[<-R]at e;cases e;exact⟨_,_,rfl⟩
 .have B:u=k:=by simpa[Value.ownBlock] using e
  subst B;exact J.imp id λE=>IT Z.size E
def ec(U:List ah)(wb:Nat)(pv le hv:ag)(gs:List PG)(hs:List Nat)(w w':af):Prop:=∃le' hv' gs' hs',dQ U w' wb pv le' hv' gs' hs'/\gs'.length=gs.length/\hs'.length<=hs.length+3/\(∀g'∈gs',∃g∈gs,g'.bm=g.bm/\g'.rb=g.rb/\(bQ U g.K->bQ U g'.K))/\(∀ad n cap,le=.slice ad n cap->∃ad' n' cap',le'=.slice ad' n' cap'/\n'<=n+1)/\
 Fr (λk=>(k=wb\/le.ownBlock=some k\/hv.ownBlock=some k)\/∃g∈gs,gD g.bm k\/k=g.rb) w w'/\(∀k,le'.ownBlock=some k->le.ownBlock=some k\/w<=k)/\∀k,hv'.ownBlock=some k->hv.ownBlock=some k\/w<=k
section
variable {wb:Nat}{pv le hv:ag}{gs:List PG}{hs:List Nat}{w W w':af}
theorem ec.from(h:ec U wb pv le hv gs hs W w')(hb:Below w w W):ec U wb pv le hv gs hs w w':=by
 obtain⟨a,c,d,f,g,i,j,l,m,n,o,p⟩:=h;exact⟨a,c,d,f,g,i,j,l,m,(Fr.cQ hb).trans n,λk e=>(o k e).imp id λh=>IT hb.size h,λk e=>(p k e).imp id λh=>IT hb.size h⟩
theorem ec.held{a:ag}{c:List Nat}{j:Nat}(h1:dQ U w' wb pv le a gs c)(i:c.length=hs.length+j)(hj:j<=3)(d:Fr (λk=>k=wb\/hv.ownBlock=some k) w w')(f:∀k,a.ownBlock=some k->hv.ownBlock=some k\/w<=k):ec U wb pv le hv gs hs w w':=
 ⟨le,a,gs,c,h1,rfl,zo,λg h=>⟨g,h,rfl,rfl,id⟩,λad n cap e=>⟨ad,n,cap,e,zo⟩,d.weaken λk e=>.inl (e.imp id .inr),λk e=>.inl e,f⟩
theorem ec.same(h:dQ U w wb pv le hv gs hs)(hb:Below w w W):ec U wb pv le hv gs hs w W:=ec.held (j:=0) (h.below hb) rfl zo (Fr.cQ hb) λk e=>.inl e
theorem ec.AK(h: ∃a,dQ U w' wb pv le hv a hs/\a.length=gs.length/\(∀g'∈a,∃g∈gs,g'.bm=g.bm/\g'.rb=g.rb/\(bQ U g.K->bQ U g'.K))/\Fr (λk=>∃g∈gs,gD g.bm k\/k=g.rb) w w'):ec U wb pv le hv gs hs w w':=by
 obtain⟨a,c,d,f,i⟩:=h;exact⟨le,hv,a,hs,c,d,zo,f,λad n cap e=>⟨ad,n,cap,e,zo⟩,i.weaken λk e=>.inr e,λk e=>.inl e,λk e=>.inl e⟩
theorem ec.kept{d:ag}(h:ec U wb pv le hv gs hs w W)(j: ∃a,dQ U W wb pv le hv a hs/\a.length=gs.length/\(∀g'∈a,∃g∈gs,g'.bm=g.bm/\g'.rb=g.rb/\(bQ U g.K->bQ U g'.K))/\dQ U w' wb pv d hv a hs)(l:∀ad n cap,le=.slice ad n cap->∃f c,d=.slice f (n+1) c)(m:Fr (λk=>k=wb\/le.ownBlock=some k) W w')(o:∀k,d.ownBlock=some k->le.ownBlock=some k\/W<=k):ec U wb pv le hv gs hs w w':=by
 obtain⟨a,_,p,r,s⟩:=j;obtain⟨_,_,_,_,_,_,_,_,_,i,_⟩:=h;refine⟨d,hv,a,hs,s,p,zo,r,λad n cap e=>?_,i.trans (m.weaken λk e=>.inl (e.imp id .inl)),λk e=>(o k e).imp id λh=>IT i.size h,λk e=>.inl e⟩;obtain⟨f,c,t⟩:=l ad n cap e;exact⟨f,n+1,c,t,zf⟩
theorem gY.Xp{B N:Nat}(h:gY U B N w wb pv le hv gs hs)(y:ec U wb pv le hv gs hs w w')(I:0<gs.length): ∃p d f a i,gY U B (N+1) w' wb p d f a i/\0<a.length/\Below B w w':=by
 obtain⟨d,f,a,i,z,J,hj,t,A,u,C,D⟩:=y;have E:=h.gl;have F:=h.hl;refine⟨pv,d,f,a,i,⟨z,h.nZ,h.pa,λk e=>?_,λr j=>?_,λr j=>?_,zo,zo,IT h.base u.size,λk e=>?_,λad n cap e=>?_⟩,zo,u.toBelow (λk e=>?_) h.base⟩
 .exact (D k e).elim (h.qJ k) (IT h.base)
 .obtain⟨g,l,o,s,_⟩:=t r j;rw[o,s];exact h.cU g l
 .obtain⟨g,l,_,_,v⟩:=t r j;exact v (h.len g l)
 .exact (C k e).elim (h.leB k) (IT h.base)
 .obtain⟨ls,hl,_⟩:=h.law.oi;obtain⟨m,c,o,_⟩:=cz hl;obtain⟨G,n',x,s,v⟩:=A m ls.length c o
  have:=h.ll m ls.length c o;rw[s]at e;cases e;omega
 .rcases e with (e|e|e)|⟨g,l,⟨n,H,e⟩|e⟩
  .rw[e];exact h.nZ
  .exact h.leB k e
  .exact h.qJ k e
  .rw[e];exact(h.cU g l).1 n H
  .rw[e];exact(h.cU g l).2
end
end
end Go.Proofs.YtldmcdeibiclkaaGreatQ
namespace Go.Proofs.YtldmcdeibiclkaaGreatQ
variable {c2:Ctx}{l2:List aG}
def jV(v:aG)(st:Bool×ah)(u:aG):Bool×ByteArray:=if u.rep=v.rep/\u.n=v.n then (true,if Op.bytesLess u.val.toList st.2.toList=true then u.val else st.2) else st
def tY(c2:Ctx)(l2:List aG)(v:aG):Bool×ByteArray:=l2.foldl (jV v) (!gT c2 v,v.val)
def ie(c2:Ctx)(l2:List aG)(v:aG):Option aG:=if (tY c2 l2 v).1=true then some (v.rep,v.n,(tY c2 l2 v).2) else none
def sJ(c1:Ctx)(l1:List aG)(c2:Ctx)(l2:List aG):List aG:=(aS l2 c1).foldl dc ((l1.filterMap (ie c2 l2)).foldl dc [])
theorem xo{v:aG}:∀{l:List aG} (st:Bool×ah),(∀u∈l,¬(u.rep=v.rep/\u.n=v.n))->l.foldl (jV v) st=st
 |[],st,_=>rfl
 |u::l,st,h=>by
  rw[acJ,jV,AT (h u zp)];exact xo st λx a=>h x (by simp[a])
theorem R0(hs:l2.Pairwise λa b=>bf a b=true)(v:aG):ie c2 l2 v=eE c2 l2 v:=by
 unfold ie eE;cases j:qi l2 v with
 |none=>
  have c:∀u∈l2,¬(u.rep=v.rep/\u.n=v.n):=λu d e=>by
   have:=List.find?_eq_none.1 j u d;grind
  rw[tY,xo _ c];grind
 |some u=>
  obtain⟨d,k,l⟩:=Jo j;obtain⟨a,b,rfl⟩:=List.append_of_mem d;obtain⟨m,hb,f⟩:=ach.1 hs;have g:∀x∈a,¬(x.rep=v.rep/\x.n=v.n):=λx h e=>by
   have:=(jR _ _).1 (f x h u zp);grind
  have i:∀x∈b,¬(x.rep=v.rep/\x.n=v.n):=λx h e=>by
   have:=(jR _ _).1 ((abB.1 hb).1 x h);grind
  have hj:tY c2 (a++u::b) v=(true,if Op.bytesLess u.val.toList v.val.toList=true then u.val else v.val):=by
   rw[tY,acv,xo _ g,acJ,xo _ i];exact BY ⟨k,l⟩
  rw[hj,BY rfl];simp only[aaX,abx,true_and,Proofs.bytesLess_eq,acC,abb,Go.Lib.minS];grind
theorem yU:∀(xs o:List aG),ma o->(o++xs).Pairwise kE->ma (xs.foldl dc o)/\(xs.foldl dc o).Perm (o++xs)
 |[],o,h,_=>⟨h,zp⟩
 |x::xs,o,h,f=>by
  have g:=ach.1 f;have a:∀u∈o,¬(u.rep=x.rep/\u.n=x.n):=λu i e=>by
   have:=g.2.2 u i x zp;rcases this with this|this
   .exact this e.1
   .exact this e.2
  have j:=B8 o x h a;have c:=rV o x;have d:=tU ((c.append_right xs).trans zp) f;obtain⟨k,l⟩:=yU xs (dc o x) j d;exact⟨k,l.trans ((c.append_right xs).trans zp)⟩
theorem Za{c1:Ctx}{c:List aG}(h1:gN c1 c)(g:gN c2 l2):sJ c1 c c2 l2=nD c1 c c2 l2:=by
 have e:c.filterMap (ie c2 l2)=c.filterMap (eE c2 l2):=by
  congr 1;funext v;exact R0 g.sorted v
 have k:=Cu h1 g;have d:(ml c1 c c2 l2).Perm (c.filterMap (eE c2 l2)++aS l2 c1):=List.perm_append_comm;have f:=tU d.symm k;obtain⟨l,j⟩:=yU (c.filterMap (eE c2 l2)) [] List.Pairwise.nil (ach.1 f).1;have i:=tU (j.append_right _) f;obtain⟨m,p2⟩:=yU (aS l2 c1) _ l i;refine Dh h1 g ?_ ?_
 .rw[sJ,e];exact p2.trans ((j.append_right _).trans d.symm)
 .rw[sJ,e];exact m.imp λ{a b} h=>by
   have:=(jR _ _).1 h;simp only[bf,acA,aG.rep,aG.n];omega
end Go.Proofs.YtldmcdeibiclkaaGreatQ
namespace Go.Proofs.YtldmcdeibiclkaaGreatQ
variable {listed:Array Bool}{dst:Nat->Nat}
open Go.RowKit
section
abbrev cP(nm:ah)(c:Ctx)(sv:ag):Array Value:=(.q nm c sv)
structure jn(w W:af)(bo:Nat)(an:ah)(ac:Ctx)(asv:ag)(bn:ah)(bc:Ctx)(bsv sv:ag)(L:List aG):Prop where
 b0:W.heap[w.heap.size]?=.c (cP an ac asv) 82
 b1:W.heap[w.heap.size+1]?=.c (cP bn bc bsv) 82
 b2:W.heap[w.heap.size+2]?=.c #[.s ⟨#[]⟩,.i 0,.i 0,.i 0,.i 0,.slice none 0 0] 82
 b3:W.heap[bo]?=.c (cP an (aO ac bc) sv) 82
 row:W.ownsRow w 88 3 sv L.length (aQ L)
 bR:Below w w W
 hi:w.heap.size+2<bo
section
variable {w W W':af}{bo:Nat}{an bn:ah}{ac bc:Ctx}{asv bsv sv sv':ag}{L L':List aG}
theorem jn.below(h:jn w W bo an ac asv bn bc bsv sv L)(hb:Below W W W'):jn w W' bo an ac asv bn bc bsv sv L:=
 ⟨bj h.b0 hb,bj h.b1 hb,bj h.b2 hb,bj h.b3 hb,bH h.row hb zf,bk h.bR hb,h.hi⟩
theorem jn.set(h:jn w W bo an ac asv bn bc bsv sv L)(c:W.ownsRow w 88 3 sv' L'.length (aQ L')):jn w (W.setCell (.a bo 5) sv') bo an ac asv bn bc bsv sv' L':=by
 have hi:=h.hi;refine⟨?_,?_,?_,by simpa[cP] using heap_set (o:=5) (v:=sv') h.b3,dy c h.b3 zd _ _,h.bR.setCell (by show _<=bo;omega) _,h.hi⟩
 .rw[aaS _ _ _ _ (by show _≠bo;omega)];exact h.b0
 .rw[aaS _ _ _ _ (by show _≠bo;omega)];exact h.b1
 .rw[aaS _ _ _ _ (by show _≠bo;omega)];exact h.b2
theorem jn.other{bv:Nat}(h:jn w W bo an ac asv bn bc bsv sv L)(hb:bo<bv)(c:∀q,sv.ownBlock=some q->q<bv)(o:Nat)(x:ag):jn w (W.setCell (.a bv o) x) bo an ac asv bn bc bsv sv L:=by
 have hi:=h.hi;refine⟨?_,?_,?_,?_,nh h.row λq _ e=>aaS _ _ _ _ zg,h.bR.setCell (by show _<=bv;omega) _,h.hi⟩
 .rw[aaS _ _ _ _ (by show _≠bv;omega)];exact h.b0
 .rw[aaS _ _ _ _ (by show _≠bv;omega)];exact h.b1
 .rw[aaS _ _ _ _ (by show _≠bv;omega)];exact h.b2
 .rw[aaS _ _ _ _ (by show _≠bv;omega)];exact h.b3
theorem jn.fin(h:jn w W bo an ac asv bn bc bsv sv L):∀w',w'=((((((W.setCell (.a (w.heap.size+2) 0) (.s an)).setCell (.a (w.heap.size+2) 1) (.i (aO ac bc 0))).setCell (.a (w.heap.size+2) 2) (.i (aO ac bc 1))).setCell (.a (w.heap.size+2) 3) (.i (aO ac bc 2))).setCell (.a (w.heap.size+2) 4) (.i (aO ac bc 3))).setCell (.a (w.heap.size+2) 5) sv)->w'.ownsRow w 88 3 sv L.length (aQ L)/\Below w w w':=λw' d=>by
 subst d;have c:=h.b2;have hl:w<=w.heap.size+2:=zo;exact⟨dy (dy (dy (dy (dy (dy h.row c zd _ _) (heap_set c) zd _ _) (heap_set (heap_set c)) zd _ _) (heap_set (heap_set (heap_set c))) zd _ _) (heap_set (heap_set (heap_set (heap_set c)))) zd _ _) (heap_set (heap_set (heap_set (heap_set (heap_set c))))) zd _ _,(((((h.bR.setCell hl _).setCell hl _).setCell hl _).setCell hl _).setCell hl _).setCell hl _⟩
end
theorem wj:∀(xs o:List aG),(xs.foldl dc o).length=o.length+xs.length
 |[],o=>rfl
 |x::xs,o=>by rw[acJ,wj xs,wy,abi];omega
theorem rS{α:Type}{l:List α}{k:Nat}(h:k<l.length):l.take (k+1)=l.take k++ [l[k]]:=by
 simp_all
end
section
section
variable {P:aj}{ops:Array Oper}{Q:Exit->Act->af->Prop}
def lastB(ops:Array Oper)(n:Nat):Bool:=(List.range n).all λj=>((ops[n]?).map λo=>o.after.any λe=>e.on==j&&Region.binds .any e).getD false
theorem IZ{n:Nat}(hl:lastB ops n=true)(hi:n∈Region.ready .any ops listed):∀j,j<n->listed.getD j false=true:=λj hj=>by
 obtain⟨a,_,c⟩:=qM hi;have d:=abK.1 hl j (ace.2 hj);grind
theorem Hh{I:Array Bool->Act->af->Prop}{F:Act->af->Prop}{n:Nat}(l:ops.size=n+1)(hb:Ee ops=true)(hl:lastB ops n=true)(step:∀listed a w i,i<n->I listed a w->i∈Region.ready .any ops listed->wpOp P ops Q i (I (listed.setIfInBounds i true)) a w)(last:∀listed a w,(∀j,j<n->listed.getD j false=true)->I listed a w->wpOp P ops Q n F a w)(done:∀a w,F a w->Q .normal a w)(fuel:Nat)(listed:Array Bool)(a:Act)(w:af)(hs:listed=Array.replicate (n+1) false)(m:n+1<=fuel)(h:I listed a w):wpAny P .any ops Q fuel listed a w:=by
 subst hs;refine A7 (I:=λlisted a w=>listed.size=n+1/\((listed.getD n true=false/\I listed a w)\/((∀j,j<n+1->listed.getD j false=true)/\F a w))) ?_ ?_ (λlisted o hs=>Ic hb o hs) _ _ _ _ (by simp[l]) (by simpa using m) ⟨zp,.inl ⟨by simp_all,h⟩⟩
 .rintro listed a w i ⟨f,h⟩ hi;obtain⟨p,g,_⟩:=qM hi;rcases h with⟨d,c⟩|⟨d,c⟩
  .by_cases e:i=n
   .subst e;exact wpOp_mono (λr w' k=>⟨by simpa using f,.inr ⟨λj hj=>(vL zo).2 (by
     by_cases e:j=i
     .exact .inl e
     .exact .inr (IZ hl hi j zo)),k⟩⟩) (last listed a w (IZ hl hi) c)
   .refine wpOp_mono (λr w' k=>⟨by simpa using f,.inl ⟨?_,k⟩⟩) (step listed a w i zo c hi);simp_all
  .exact absurd (d i zo) (Jm g)
 .rintro listed a w ⟨f,h⟩ s;rcases h with⟨d,_⟩|⟨_,c⟩
  .have:=zR d;omega
  .exact done a w c
theorem C7{K:Act->af->Prop}{i:Nat}{o:Oper}{a:Act}{w w':af}(c:ops[i]?=some o)(d:o.guard=none)(e:(execOp a.eval o).run P w=.ok .skip w')(h:K (a.put o.dst undef) w'):wpOp P ops Q i K a w:=
 wpOp_step c λg f=>by
  rw[BY (by simp[Region.wanted,d])];unfold Oper.wp;rw[e,Oper.upon_skip];exact f _ _ h
end
theorem gA.begin{val:Nat->ag->af->Prop}{W w:af}(hb:Below W W w)(a:Act)(n:Nat):gA dst val W a n (Array.replicate (n+1) false) a w:=by
 have c:∀j,¬(Array.replicate (n+1) false).getD j false=true:=λj=>by
  rw[acd,Array.getElem?_replicate];split<;>simp
 exact⟨hb,rfl,rfl,λs _=>rfl,λj _ h=>absurd h (c j),zp⟩
theorem C1(T:aa):∀(ds:List Nat) (A:aa),T.size=A.size->(∀s,s∉ds->T.getD s undef=A.getD s undef)->T=ds.foldl (λB d=>B.setIfInBounds d (T.getD d undef)) A
 |[],A,hs,h=>by
  apply acm hs;intro i h1 a
  have:=h i zp;simp_all
 |d::ds,A,hs,h=>by
  refine C1 T ds (A.setIfInBounds d (T.getD d undef)) (by simpa using hs) λs c=>?_;rw[acd (xs:=A.setIfInBounds _ _),acz];by_cases e:d=s
  .grind
  .rw[AT e,<-acd];grind
def gA.Kc{val:Nat->ag->af->Prop}{W:af}{a0:Act}{n:Nat}{a:Act}{w:af}(h:gA dst val W a0 n listed a w):a.tmps=((List.range n).map dst).foldl (λB d=>B.setIfInBounds d (a.tmps.getD d undef)) a0.tmps:=
 C1 _ _ _ h.size λs hs=>h.old s λj hj _ e=>hs (aaW.2 ⟨j,ace.2 hj,e.symm⟩)
end
end Go.Proofs.YtldmcdeibiclkaaGreatQ
