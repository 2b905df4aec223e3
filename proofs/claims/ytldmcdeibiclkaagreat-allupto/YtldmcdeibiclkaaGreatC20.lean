/-
  Toward all_holds
-/
import Derived.Test.YtldmcdeibiclkaaGreatC18
import Derived.Test.YtldmcdeibiclkaaGreatC01
import Derived.Test.YtldmcdeibiclkaaGreatC19
import Derived.Maps.RangeRun
import Derived.Deep.AppendLies
import Derived.Test.YtldmcdeibiclkaaGreatC16
import Derived.Deep.MidRow
import Derived.Maps.RangeWalk
set_option linter.all false
noncomputable section
set_option maxRecDepth 100000
set_option maxHeartbeats 20000000
namespace Go.Proofs.YtldmcdeibiclkaaGreatQ
variable {K:aL}{w w1 w':af}{rb B n':Nat}{sv v:ag}{b:ah}{L:List (List UInt8)}{es:Array aw}{seen d:Ctx}{e:aw}{α:Type}{x:aY}{t:ak}{xs:ae}{X:Nat->Prop}
open Go.RowKit
theorem Ej:∀(x y:List UInt8),Op.bytesLess x y=decide (x<y)
 |[],[]=>by simp[Op.bytesLess]
 |_::_,[]=>by simp[Op.bytesLess]
 |[],_::_=>by simp[Op.bytesLess]
 |a::x,b::y=>by
  rw[Op.bytesLess,Ej x y];simp only[List.cons_lt_cons_iff];grind
def jK(a b:ah):Prop:=Op.bytesLess a.toList b.toList=true
theorem nu{a:ah}:jK a b↔a.toList<b.toList:=by rw[jK,Ej,abb]
theorem bytes_inj{a:ah}(h:a.toList=b.toList):a=b:=by
 by_cases e:a=b
 .exact e
 .have:=rM e;grind
def WT(a:ah): ¬jK a a:=λh=>List.lt_irrefl _ (nu.1 h)
def GX{a:ah}(h:jK a b): ¬a=b:=λe=>WT b (e▸h)
def Gd{a c:ah}(h:jK a b)(f:jK b c):jK a c:=nu.2 (List.lt_trans (nu.1 h) (nu.1 f))
theorem Uf{a:ah}(h: ¬jK a b)(f: ¬a=b):jK b a:=by
 rw[nu] at*;by_cases c:b.toList<a.toList
 .exact c
 .exact absurd (bytes_inj (List.le_antisymm (List.not_lt.1 c) (List.not_lt.1 h))) f
def nJ(l:List aY):Prop:=l.Pairwise λa b=>jK a.1 b.1
theorem AV(p:α->Bool)(l:List α):l.take (l.takeWhile p).length=l.takeWhile p/\l.drop (l.takeWhile p).length=l.dropWhile p:=by
 induction l with
 |nil=>simp
 |cons x l a=>
  rw[List.takeWhile_cons,List.dropWhile_cons];grind
def Qa(l:List aY)(nm:ah):l.take (dP l nm)=l.takeWhile λk=>Op.bytesLess k.1.toList nm.toList:=(AV _ l).1
def Sb(l:List aY)(nm:ah):l.drop (dP l nm)=l.dropWhile λk=>Op.bytesLess k.1.toList nm.toList:=(AV _ l).2
theorem F0(l:List aY)(nm:ah):∀x∈l.take (dP l nm),jK x.1 nm:=by
 rw[Qa];intro x a;induction l with
 |nil=>simp at a
 |cons y l c=>
  rw[List.takeWhile_cons]at a;by_cases h:Op.bytesLess y.1.toList nm.toList=true
  .rw[BY h]at a;rcases abk.1 a with rfl|a
   .exact h
   .exact c a
  grind
theorem IG(l:List aY)(nm:ah)(hs:nJ l): ∃j,l=l.take (dP l nm)++(j++l.drop (gQ l nm))/\(∀x∈j,x.1=nm)/\∀x∈l.drop (gQ l nm),jK nm x.1:=by
 have hcut:=adm (dP l nm) l;have m:(l.drop (dP l nm)).Pairwise λa b=>jK a.1 b.1:=List.Pairwise.drop hs;by_cases c:dP l nm<l.length
 .have n:=List.drop_eq_getElem_cons c;have p: ¬jK l[dP l nm].1 nm:=by
   have r:=Sb l nm;rw[n]at r;intro s
   have:=List.head?_dropWhile_not (λk:aY=>Op.bytesLess k.1.toList nm.toList) l;rw[<-r]at this;simp only[List.head?_cons]at this;rw[s]at this;cases this
  rw[n]at m;obtain⟨u,_⟩:=abB.1 m;by_cases q:l[dP l nm].1=nm
  .have i:=Ch rfl c q;refine⟨[l[dP l nm]],?_,λx f=>?_,λx f=>?_⟩
   .grind
   .grind
   grind
  .have i:=BE rfl c q;have h:=Uf p q;refine⟨[],?_,λx f=>by simp at f,λx f=>?_⟩
   .grind
   .rw[i,n]at f;rcases abk.1 f with rfl|f
    .exact h
    .exact Gd h (u x f)
 .have i:=zS rfl c;grind
theorem Nf(l:List aY)(q:aY)(hs:nJ l):nJ (fc l q):=by
 obtain⟨i,j,k,c⟩:=IG l q.1 hs;have f:=F0 l q.1;unfold fc nJ;rw[ach];refine⟨List.Pairwise.take hs,abB.2 ⟨c,List.Pairwise.drop hs⟩,λa h b hb=>?_⟩;rcases abk.1 hb with rfl|hb
 .exact f a h
 .exact Gd (f a h) (c b hb)
theorem IF(l:List aY)(s:ah):(dD l s).1=s:=by
 unfold dD;cases h:l.find? (λk=>decide (k.1=s)) with
 |none=>rfl
 |some x=>grind
theorem Ex{l:List aY}{s:ah}(h:∀x∈l,¬x.1=s):l.find? (λk=>decide (k.1=s))=none:=by
 grind
theorem TJ(l:List aY)(q:aY)(t:ah)(hs:nJ l):dD (fc l q) t=if t=q.1 then q else dD l t:=by
 obtain⟨a,f,i,n⟩:=IG l q.1 hs;have j:=F0 l q.1;by_cases h:t=q.1
 .subst h;rw[BY rfl];unfold dD fc;rw[List.find?_append,Ex λx c=>GX (j x c)];simp
 .rw[AT h];have m:(fc l q).find? (λk=>decide (k.1=t))=l.find? λk=>decide (k.1=t):=by
   conv=>rhs;rw[f]
   unfold fc;rw[List.find?_append,List.find?_append,List.find?_append,Ex (l:=a) λx c e=>h (by rw[<-e,i x c])];grind
  unfold dD;rw[m]
theorem Hw(l:List aY)(q:aY):(fc l q).length<=l.length+1:=by
 have a:=wQ l q.1;have c:dP l q.1<=gQ l q.1:=by unfold gQ;split<;>omega
 have f:=F9 l q.1;rw[E3];omega
theorem NS{l:List aY}{q:aY}(h:x∈fc l q):x=q\/x∈l:=by
 unfold fc at h;grind
theorem vH{l:List aY}(hs:nJ l)(h:x∈l):dD l x.1=x:=by
 unfold dD;induction l with
 |nil=>simp at h
 |cons y l a=>
  obtain⟨c,f⟩:=abB.1 hs;rcases abk.1 h with rfl|h
  .simp
  .rw[List.find?_cons_of_neg (by simpa using GX (c x h))];exact a f h
theorem vG{a b:aG}:bf a b=true↔(a.rep<b.rep\/a.rep=b.rep/\a.n<b.n):=by simp[bf]
theorem Jq{a b:aG}:bf a b=false↔¬(a.rep<b.rep\/a.rep=b.rep/\a.n<b.n):=by simp[bf]
def ma(l:List aG):Prop:=l.Pairwise λa b=>bf a b=true
theorem ma.two{l:List aG}(h:ma l){a b:aG}(c:a∈l)(hb:b∈l):a=b\/bf a b=true\/bf b a=true:=by
 induction l with
 |nil=>simp at c
 |cons y l j=>
  obtain⟨m,k⟩:=abB.1 h;rcases abk.1 c with f|f<;>rcases abk.1 hb with i|i
  .grind
  .grind
  .grind
  .exact j k f i
def XW(l:List aG)(v:aG):l.take (l7 l v)=l.takeWhile (λu=>bf u v)/\l.drop (l7 l v)=l.dropWhile (λu=>bf u v):=AV _ l
theorem rV(l:List aG)(v:aG):(dc l v).Perm (l++ [v]):=by
 unfold dc;refine List.perm_middle.trans ?_;rw[adm];exact(List.perm_append_singleton v l).symm
theorem B8(l:List aG)(v:aG)(hs:ma l)(k:∀u∈l,¬(u.rep=v.rep/\u.n=v.n)):ma (dc l v):=by
 obtain⟨m,p⟩:=XW l v;have q:∀x∈l.take (l7 l v),bf x v=true:=by
  rw[m];intro x c;clear m p hs k;induction l with
  |nil=>simp at c
  |cons y l C=>
   rw[List.takeWhile_cons]at c;grind
 have r:∀x∈l.drop (l7 l v),bf v x=true:=by
  intro x c;have i:ma (l.drop (l7 l v)):=List.Pairwise.drop hs;have h:∀u∈l.drop (l7 l v),u∈l:=λu A=>List.mem_of_mem_drop A;have f:=List.head?_dropWhile_not (λu:aG=>bf u v) l;rw[<-p]at f;generalize l.drop (l7 l v)=d at*;cases d with
  |nil=>simp at c
  |cons y d=>
   simp only[List.head?_cons]at f;have D:=k y (h y zp);have j:bf v y=true:=by
    rw[vG]
    have:=Jq.1 f;omega
   obtain⟨s,_⟩:=abB.1 i;rcases abk.1 c with rfl|c
   .exact j
   .have:=s x c;rw[vG] at*;omega
 unfold dc ma;rw[ach];refine⟨List.Pairwise.take hs,abB.2 ⟨r,List.Pairwise.drop hs⟩,λa z b hb=>?_⟩;rcases abk.1 hb with rfl|hb
 .exact q a z
 .have s:=q a z;have E:=r b hb;rw[vG] at*;omega
theorem VS{l f:List aG}{v:aG}(hs:ma l)(k:∀u∈l,¬(u.rep=v.rep/\u.n=v.n))(m:f.Perm (l++ [v]))(i:f.Pairwise (λa b=>bf b a=false)):f=dc l v:=by
 have hi:=B8 l v hs k;have c:=m.trans (rV l v).symm;refine List.Perm.eq_of_pairwise (le:=λa b=>bf b a=false) (λa b p hb q j=>?_) i (hi.imp λ{a b} h=>?_) c
 .rcases hi.two (c.subset p) hb with h|h|h
  .exact h
  .rw[h]at j;cases j
  grind
 .rw[vG]at h;rw[Jq];omega
structure ki(c:Ctx)(l:List aG):Prop where
 sorted:ma l
 each:∀v∈l,v.rep<4/\v.n<=c v.rep/\v.val.size<=12
 len:l.length<=5000000
 ctx:∀i,i<4->0<=c i/\c i<=1000000
 pos:∀v∈l,1<=v.n
theorem sM{c:Ctx}(h:cR c=true):∀i,i<4->0<=c i/\c i<=1000000:=by
 simp only[cR,gC,No,abb]at h;grind
theorem td{c:Ctx}(a:∀i,i<4->0<=c i/\c i<=1000000)(f:∀i,i<4->0<=d i/\d i<=1000000):∀i,i<4->0<=aO c d i/\aO c d i<=1000000:=by
 intro i hi;have h:=a i hi;have j:=f i hi;unfold aO;omega
def uq{l:List aG}{c:Ctx}{v:aG}(h:v∈aS l c):v∈l:=(acw.1 h).1
theorem ki.del{c:Ctx}{l:List aG}(h:ki c l)(hs:cR seen=true):ki (aO c seen) (aS l seen) where
 sorted:=adt _ h.sorted
 each v hv:=by
  obtain⟨a,i,f⟩:=h.each v (uq hv);exact⟨a,by unfold aO;omega,f⟩
 len:=IT (abV _ _) h.len
 ctx:=td h.ctx (sM hs)
 pos v hv:=h.pos v (uq hv)
theorem ki.D3{c:Ctx}{l:List aG}(h:ki c l)(n:Nat)(val:ah):∀u∈aS l seen,¬(u.rep=(aG.rep (n,aO c seen n+1,val))/\u.n=aG.n (n,aO c seen n+1,val)):=by
 intro u a ⟨f,i⟩;obtain⟨p,j,q⟩:=h.each u (uq a);have k:u.n=aO c seen n+1:=i;have m:u.rep=n:=f;rw[m,k]at j;have:c n<=aO c seen n:=by unfold aO;omega
 omega
theorem ki.put{c:Ctx}{l:List aG}(h:ki c l)(hs:cR seen=true)(n:Nat)(j:n<4)(val:ah)(hv:val.size<=12)(hl:(aS l seen).length<20)(hb:aO c seen n<1000000):
  ki (bump (aO c seen) n) (dc (aS l seen) (n,aO c seen n+1,val)) where
 sorted:=B8 _ _ (adt _ h.sorted) (h.D3 n val)
 each v a:=by
  have f:∀i,aO c seen i<=bump (aO c seen) n i:=λi=>by unfold bump;split<;>omega
  rcases abr.1 ((rV _ _).subset a) with a|a
  .obtain⟨k,p,m⟩:=h.each v (uq a);refine⟨k,?_,m⟩
   have:=f v.rep;have:c v.rep<=aO c seen v.rep:=by unfold aO;omega
   omega
  .rw[abu]at a;subst a;exact⟨j,by simp[bump],hv⟩
 len:=by
  have:=(rV (aS l seen) (n,aO c seen n+1,val)).length_eq;simp at this;omega
 ctx i hi:=by
  have k:=td h.ctx (sM hs) i hi;unfold bump;grind
 pos v a:=by
  rcases abr.1 ((rV _ _).subset a) with a|a
  .exact h.pos v (uq a)
  .rw[abu]at a;subst a
   have:=(td h.ctx (sM hs) n j).1;grind
theorem wy(l:List aG)(v:aG):(dc l v).length=l.length+1:=by
 have:=(rV l v).length_eq;simpa using this
def cF(K:aL):Prop:=∀s,ki (K s).1 (K s).2
theorem cF.ok(h:cF K):mi K:=λs=>⟨λv hv=>((h s).each v hv).1,by have:=(h s).len;omega,λv hv=>((h s).each v hv).2.2,(h s).ctx⟩
theorem cF.none:cF nB:=λs=>⟨List.Pairwise.nil,λv hv=>absurd hv (by simp[nB]),by simp[nB],λi _=>by simp[nB],λv hv=>absurd hv (by simp[nB])⟩
theorem cF.upd(h:cF K){s:ah}{c:Ctx}{l:List aG}(hs:ki c l):cF (dV K s (c,l)):=λt=>by
 unfold dV;split
 .exact hs
 .exact h t
theorem mW{s:ah}(h:bq s=true):s.size<=8:=by
 simp only[bq,No,abb]at h;exact h.1.2
def lL(K:aL)(n:Nat)(key val:ah)(seen:Ctx):Int:=
 if bq key=false then 2 else if 12<val.size then 3 else if cR seen=false then 4 else if 20<=(aS (K key).2 seen).length then 6 else if 1000000<=(K key).1 n then 6 else if 1000000<=seen n then 6 else 0
def lS(K:aL)(n:Nat)(key val:ah)(seen:Ctx):aL:=
 if lL K n key val seen=0 then dV K key (bump (aO (K key).1 seen) n,dc (aS (K key).2 seen) (n,aO (K key).1 seen n+1,val)) else K
def oC(K:aL)(key:ah)(seen:Ctx):Int:=
 if bq key=false then 2 else if cR seen=false then 4 else if (aS (K key).2 seen).length=(K key).2.length then 5 else 0
def ly(K:aL)(key:ah)(seen:Ctx):aL:=
 if oC K key seen=0 then dV K key (aO (K key).1 seen,aS (K key).2 seen) else K
theorem Ay(K:aL)(n:Nat)(key val:ah)(seen:Ctx):
  (bq key=false/\lL K n key val seen=2)\/(bq key=true/\12<val.size/\lL K n key val seen=3)\/(bq key=true/\val.size<=12/\cR seen=false/\lL K n key val seen=4)\/
  (bq key=true/\val.size<=12/\cR seen=true/\20<=(aS (K key).2 seen).length/\lL K n key val seen=6)\/
  (bq key=true/\val.size<=12/\cR seen=true/\(aS (K key).2 seen).length<20/\1000000<=(K key).1 n/\lL K n key val seen=6)\/
  (bq key=true/\val.size<=12/\cR seen=true/\(aS (K key).2 seen).length<20/\(K key).1 n<1000000/\1000000<=seen n/\lL K n key val seen=6)\/
  (bq key=true/\val.size<=12/\cR seen=true/\(aS (K key).2 seen).length<20/\(K key).1 n<1000000/\seen n<1000000/\lL K n key val seen=0):=by
 unfold lL;by_cases a:bq key=false
 .grind
 .have c:bq key=true:=by simpa using a
  rw[AT a];by_cases f:12<val.size
  .grind
  .rw[AT f];have h:val.size<=12:=zo;by_cases i:cR seen=false
   .grind
   grind
theorem yB(K:aL)(key:ah)(seen:Ctx):
  (bq key=false/\oC K key seen=2)\/(bq key=true/\cR seen=false/\oC K key seen=4)\/(bq key=true/\cR seen=true/\(aS (K key).2 seen).length=(K key).2.length/\oC K key seen=5)\/
  (bq key=true/\cR seen=true/\¬(aS (K key).2 seen).length=(K key).2.length/\oC K key seen=0):=by
 unfold oC;by_cases a:bq key=false
 .grind
 grind
theorem Ij{c:Ctx}{n:Nat}{x:Int}(h:c n<x)(a:d n<x):aO c d n<x:=by unfold aO;omega
theorem FG{c:Ctx}{n:Nat}{x:Int}(h:x<=c n\/x<=d n):x<=aO c d n:=by unfold aO;omega
theorem SI{n:Nat}{key val:ah}(h:cF K)(a:n<4):cF (lS K n key val seen):=by
 unfold lS;rcases Ay K n key val seen with⟨_,e⟩|⟨_,_,e⟩|⟨_,_,_,e⟩|⟨_,_,_,_,e⟩|⟨_,_,_,_,_,e⟩|⟨_,_,_,_,_,_,e⟩|⟨_,c,f,i,j,k,e⟩
 all_goals rw[e]
 all_goals try (rw[AT zd];exact h)
 rw[BY rfl];exact h.upd ((h key).put f n a val c i (Ij j k))
theorem OJ{key:ah}(h:cF K):cF (ly K key seen):=by
 unfold ly;rcases yB K key seen with⟨_,e⟩|⟨_,_,e⟩|⟨_,_,_,e⟩|⟨_,a,c,e⟩
 all_goals rw[e]
 all_goals try (rw[AT zd];exact h)
 rw[BY rfl];exact h.upd ((h key).del a)
def EO{bm:Nat->Nat}{key:ah}(a:w.grownBy w' (some (bm (aZ key)))):Fr (λk=>∃n,n<64/\k=bm n) w w':=
 (Fr.refl _ w).grown a λk e _=>⟨aZ key,kP key,(acy e).symm⟩
theorem Tx(b num:Nat)(bm:Nat->Nat)(K:aL)(key val:ah)(seen:Ctx)(w:af)(h:aV w b bm num K)(m:cF K)(a:num<4)(q:key.size<=maxLen)(z:val.size<=maxLen):
  Calls aC.prog 13 #[.p b,.s key,.s val,bz seen] w λe w'=>e=.r (.i (lL K num key val seen))/\aV w' b bm num (lS K num key val seen)/\Fr (λk=>∃n,n<64/\k=bm n) w w':=by
 unfold lS;rcases Ay K num key val seen with⟨c,e⟩|⟨c,j,e⟩|⟨c,j,l,e⟩|⟨c,j,l,u,e⟩|⟨c,j,l,u,y,e⟩|⟨c,j,l,u,y,A,e⟩|⟨c,j,l,u,y,A,e⟩
 all_goals rw[e]
 .exact (Pv b key val seen w c q).mono λe w' ⟨f,hb⟩=>⟨f,by rw[AT zd];exact h.below hb,Fr.cQ hb⟩
 .exact (M1 b key val seen w c q z j).mono λe w' ⟨f,hb⟩=>⟨f,by rw[AT zd];exact h.below hb,Fr.cQ hb⟩
 .exact (VM b key val seen w c q j l).mono λe w' ⟨f,hb⟩=>⟨f,by rw[AT zd];exact h.below hb,Fr.cQ hb⟩
 .exact (Bs b num bm K key val seen w h m.ok c (mW c) j l a (Or.inl u)).mono λe w' ⟨f,hb⟩=>⟨f,by rw[AT zd];exact h.below hb,Fr.cQ hb⟩
 .exact (Bs b num bm K key val seen w h m.ok c (mW c) j l a (Or.inr ⟨u,FG (Or.inl y)⟩)).mono λe w' ⟨f,hb⟩=>⟨f,by rw[AT zd];exact h.below hb,Fr.cQ hb⟩
 .exact (Bs b num bm K key val seen w h m.ok c (mW c) j l a (Or.inr ⟨u,FG (Or.inr A)⟩)).mono λe w' ⟨f,hb⟩=>⟨f,by rw[AT zd];exact h.below hb,Fr.cQ hb⟩
 .rw[BY rfl];refine(N9 b num bm K key val seen w h m.ok c (mW c) j l a u (td (m key).ctx (sM l) num a).1 (Ij y A)).mono λe w' ⟨f,G,D,hs,H,E⟩=>⟨f,?_,EO E⟩
  have C:ma (aS (K key).2 seen):=adt _ (m key).sorted;have F:=VS C ((m key).D3 num val) D hs;grind
theorem VQ(b num:Nat)(bm:Nat->Nat)(K:aL)(key:ah)(seen:Ctx)(w:af)(h:aV w b bm num K)(l:cF K)(f:key.size<=maxLen):
  Calls aC.prog 15 #[.p b,.s key,bz seen] w λe w'=>e=.r (.i (oC K key seen))/\aV w' b bm num (ly K key seen)/\Fr (λk=>∃n,n<64/\k=bm n) w w':=by
 unfold ly;rcases yB K key seen with⟨a,e⟩|⟨a,j,e⟩|⟨a,j,m,e⟩|⟨a,j,m,e⟩
 all_goals rw[e]
 .exact (YB b key seen w a f).mono λe w' ⟨c,hb⟩=>⟨c,by rw[AT zd];exact h.below hb,Fr.cQ hb⟩
 .exact (Vs b key seen w a f j).mono λe w' ⟨c,hb⟩=>⟨c,by rw[AT zd];exact h.below hb,Fr.cQ hb⟩
 .exact (Ow b num bm K key seen w h l.ok a (mW a) j m).mono λe w' ⟨c,hb⟩=>⟨c,by rw[AT zd];exact h.below hb,Fr.cQ hb⟩
 .rw[BY rfl];have q:(aS (K key).2 seen).length<=(K key).2.length:=abV _ _;exact(UC b num bm K key seen w h l.ok a (mW a) j zo).mono λe w' ⟨c,u,y⟩=>⟨c,u,EO y⟩
theorem p7{n size:Nat}(h:w.ownsRow B t size v n xs):∀g o l c,v=.slice (.a g o) l c->∃f,w.heap[g]?=.c f t:=by
 intro g o l c e;rcases h.2 with⟨i,_⟩|⟨j,cap,f,hv,k,m,r⟩
 .rw[i]at e;cases e
 grind
theorem Fr.fh{n size:Nat}(h:Fr X w w1)(f:w.ownsRow B t size v n xs)(i:∀g a,w.heap[g]?=.c a t->¬X g):w1.ownsRow B t size v n xs:=
 h.row f λg o l c e=>by
  obtain⟨a,j⟩:=p7 f g o l c e;exact i g a j
structure cG(w:af)(rb n:Nat)(sv:ag)(l:List aY)(K:aL):Prop where
 ref:jX w rb n sv l
 sorted:nJ l
 at_:∀s,(dD l s).2.1=(K s).1/\fT w (dD l s).2.2 (K s).2
 kn:∀q∈l,fj q.2.1
theorem cG.mem_iff{n:Nat}{l:List aY}(h:cG w rb n sv l K)(s:ah):(∃q∈l,q.1=s)↔fj (K s).1:=by
 refine⟨λ⟨q,a,e⟩=>?_,λc=>?_⟩
 .rw[<-(h.at_ s).1,<-e,vH h.sorted a];exact h.kn q a
 .cases f:l.find? (λk=>decide (k.1=s)) with
  |some q=>grind
  |none=>
   have j:=(h.at_ s).1;rw[dD,f]at j;obtain⟨i,hi,m⟩:=c;grind
theorem cG.known{n:Nat}{l:List aY}(h:cG w rb n sv l K){s:ah}(c:(K s).2.length≠0):fj (K s).1:=by
 refine(h.mem_iff s).1 ?_;cases f:l.find? (λk=>decide (k.1=s)) with
 |some q=>grind
 |none=>
  have a:=(h.at_ s).2;rw[dD,f]at a;obtain⟨ad,cap,e,_,_⟩:=cz a;grind
theorem cG.of{n:Nat}{l:List aY}(h:cG w rb n sv l K)(s:ah): ∃ad cap,dD l s=(s,(K s).1,.slice ad (K s).2.length cap)/\fT w (.slice ad (K s).2.length cap) (K s).2:=by
 obtain⟨c,a⟩:=h.at_ s;have f:=IF l s;obtain⟨ad,cap,e,_,_⟩:=cz a;grind
theorem cG.De{n:Nat}{l:List aY}(h:cG w rb n sv l K):∀q∈l,∃ad m cap,q.2.2=.slice ad m cap/\m=(K q.1).2.length:=λq a=>by
 obtain⟨ad,cap,e,_⟩:=h.of q.1;rw[vH h.sorted a]at e;grind
theorem cG.sl{n:Nat}{l:List aY}(h:cG w rb n sv l K):∀q∈l,∃ad m cap,q.2.2=.slice ad m cap:=λq a=>by
 obtain⟨ad,m,cap,e,_⟩:=h.De q a;grind
def cG.frame{n:Nat}{l:List aY}(h:cG w rb n sv l K)(f:Fr X w w1)(hb: ¬X rb)(j:∀g i,w.heap[g]?=.c i 82->¬X g)(hv:∀s g o m c,(dD l s).2.2=.slice (.a g o) m c->¬X g):cG w1 rb n sv l K:=
 ⟨⟨f.heap h.ref.1 hb,f.fh h.ref.2 j⟩,h.sorted,λs=>⟨(h.at_ s).1,f.row (h.at_ s).2 (hv s)⟩,h.kn⟩
def cG.below{n:Nat}{l:List aY}(h:cG w rb n sv l K)(hb:Below w w w1):cG w1 rb n sv l K:=
 h.frame (X:=λ_=>False) (Fr.cQ hb) (λh=>h) (λ_ _ _ h=>h) (λ_ _ _ _ _ _ h=>h)
theorem AB{n:Nat}{a:ag}{l:List aY}{key:ah}{c:Ctx}{vl:List aG}(h:cG w rb n sv l K)(hb:w'.heap[rb]?=.c #[.i n,a] 45)(j:w'.ownsRow w 82 6 a (fc l (key,c,v)).length (flatK (fc l (key,c,v))))(hv:w'.ownsRow w 88 3 v vl.length (aQ vl))(m:Fr (λk=>k=rb) w w')(f:fj c):cG w' rb n a (fc l (key,c,v)) (dV K key (c,vl)):=by
 refine⟨⟨hb,bU j (aaZ _)⟩,Nf _ _ h.sorted,λs=>?_,λq p=>(NS p).elim (λe=>by rw[e];exact f) (h.kn q)⟩;rw[TJ _ _ _ h.sorted];unfold dV;by_cases e:s=key
 .rw[BY e,BY e];exact⟨rfl,bU hv (aaZ _)⟩
 .rw[AT e,AT e];refine⟨(h.at_ s).1,m.fh (h.at_ s).2 λg r u e=>?_⟩;have y:=e;rw[y,h.ref.1]at u;grind
theorem Xa(rb n:Nat)(sv:ag)(l:List aY)(K:aL)(key val:ah)(seen:Ctx)(w:af)(h:cG w rb n sv l K)(y:cF K)(p:n<4)(hlen:l.length<=1900000000000)(a:key.size<=maxLen)(q:val.size<=maxLen):
  Calls aC.prog 14 #[.pointer (some ⟨rb,0,none⟩),.string key,.string val,bz seen] w λe w'=>e=.returned (.int .i64 (lL K n key val seen))/\(∃r E,cG w' rb n r E (lS K n key val seen)/\E.length<=l.length+1)/\Fr (λk=>k=rb) w w':=by
 obtain⟨ad,cap,z,hv⟩:=h.of key;have A:=(y.ok key).1;have m:(K key).2.length<=8000000:=IT (y.ok key).2.1 zd;unfold lS;rcases Ay K n key val seen with⟨c,e⟩|⟨c,i,e⟩|⟨c,i,j,e⟩|⟨c,i,j,s,e⟩|⟨c,i,j,s,u,e⟩|⟨c,i,j,s,u,C,e⟩|⟨c,i,j,s,u,C,e⟩
 all_goals rw[e]
 .exact (Uo rb key val seen w a q c).mono λe w' ⟨f,hb⟩=>⟨f,by rw[AT zd];exact⟨sv,l,h.below hb,zo⟩,Fr.cQ hb⟩
 .exact (Ua rb key val seen w a q c i).mono λe w' ⟨f,hb⟩=>⟨f,by rw[AT zd];exact⟨sv,l,h.below hb,zo⟩,Fr.cQ hb⟩
 .exact (Xl rb key val seen w a q c i j).mono λe w' ⟨f,hb⟩=>⟨f,by rw[AT zd];exact⟨sv,l,h.below hb,zo⟩,Fr.cQ hb⟩
 .exact (R8 rb n sv l key key val seen _ ad cap _ w h.ref h.sl hlen z hv A m a c j p i s).mono λe w' ⟨f,hb⟩=>⟨f,by rw[AT zd];exact⟨sv,l,h.below hb,zo⟩,Fr.cQ hb⟩
 .exact (Qi rb n sv l key key val seen _ ad cap _ w h.ref h.sl hlen z hv A m a c j p i s u).mono λe w' ⟨f,hb⟩=>⟨f,by rw[AT zd];exact⟨sv,l,h.below hb,zo⟩,Fr.cQ hb⟩
 .exact (Un rb n sv l key key val seen _ ad cap _ w h.ref h.sl hlen z hv A m a c j p i s u C).mono λe w' ⟨f,hb⟩=>⟨f,by rw[AT zd];exact⟨sv,l,h.below hb,zo⟩,Fr.cQ hb⟩
 .rw[BY rfl];refine(Xg rb n sv l key key val seen _ ad cap _ w h.ref h.sl hlen z hv A m a c j p i s u C (td (y key).ctx (sM j) n p).1).mono λe w' ⟨f,r,H,F,hb,I,D,G⟩=>⟨f,⟨r,_,AB h hb I ?_ G ⟨n,p,by have:=(td (y key).ctx (sM j) n p).1;simp only[bump,abj];omega⟩,Hw _ _⟩,G⟩
  rw[wy];exact D
theorem Pw(rb n:Nat)(sv:ag)(l:List aY)(K:aL)(key:ah)(seen:Ctx)(w:af)(h:cG w rb n sv l K)(r:cF K)(hlen:l.length<=1900000000000)(a:key.size<=maxLen):
  Calls aC.prog 16 #[.pointer (some ⟨rb,0,none⟩),.string key,bz seen] w λe w'=>e=.returned (.int .i64 (oC K key seen))/\(∃c u,cG w' rb n c u (ly K key seen)/\u.length<=l.length+1)/\Fr (λk=>k=rb) w w':=by
 obtain⟨ad,cap,y,hv⟩:=h.of key;have z:=(r.ok key).1;have m:(K key).2.length<=8000000:=IT (r.ok key).2.1 zd;unfold ly;rcases yB K key seen with⟨f,e⟩|⟨f,p,e⟩|⟨f,p,q,e⟩|⟨f,p,q,e⟩
 all_goals rw[e]
 .exact (WW rb key seen w a f).mono λe w' ⟨j,hb⟩=>⟨j,by rw[AT zd];exact⟨sv,l,h.below hb,zo⟩,Fr.cQ hb⟩
 .exact (We rb key seen w a f p).mono λe w' ⟨j,hb⟩=>⟨j,by rw[AT zd];exact⟨sv,l,h.below hb,zo⟩,Fr.cQ hb⟩
 .exact (Md rb n sv l key key seen _ ad cap _ w h.ref h.sl hlen y hv z m a f p q).mono λe w' ⟨j,hb⟩=>⟨j,by rw[AT zd];exact⟨sv,l,h.below hb,zo⟩,Fr.cQ hb⟩
 .rw[BY rfl];exact(PT rb n sv l key key seen _ ad cap _ w h.ref h.sl hlen y hv z m a f p q).mono λe w' ⟨j,c,D,A,hb,E,s,C⟩=>⟨j,⟨c,_,AB h hb E s C (Gy (λi hi=>((r key).ctx i hi).1) (h.known λe=>q (by rw[List.length_eq_zero_iff.1 e];rfl))),Hw _ _⟩,C⟩
theorem Qp(b num:Nat)(bm:Nat->Nat)(K:aL)(key:ah)(w:af)(h:aV w b bm num K)(f:cF K)(c:key.size<=maxLen):
  Calls aC.prog 66 #[.p b,.s key] w λe w'=>∃v',e=.r (.tuple #[v',bz (if bq key=true then (K key).1 else λ_=>0),.i (if bq key=true then 0 else 2)])/\w'.ownsRow w 88 3 v' (if bq key=true then (K key).2 else []).length (aQ (if bq key=true then (K key).2 else []))/\Below w w w':=by
 by_cases a:bq key=true
 .simp only[BY a];exact QJ b num bm K key w h f.ok a (mW a)
 .simp only[AT a];exact(VJ b key w (by simpa using a) c).mono λe w' ⟨j,hb⟩=>⟨_,j,abh w' _ _ _,hb⟩
theorem Km(rb n:Nat)(sv:ag)(l:List aY)(K:aL)(key:ah)(w:af)(h:cG w rb n sv l K)(hlen:l.length<=1900000000000)(a:key.size<=maxLen):
  Calls aC.prog 28 #[.p rb,.s key] w λe w'=>∃v',e=.r (.tuple #[v',bz (if bq key=true then (K key).1 else λ_=>0),.i (if bq key=true then 0 else 2)])/\fT w' v' (if bq key=true then (K key).2 else [])/\Below w w w':=by
 by_cases c:bq key=true
 .simp only[BY c];refine(UN rb n sv l key w h.ref h.sl hlen a c).mono λe w' ⟨f,hb⟩=>?_;obtain⟨ad,cap,j,hv⟩:=h.of key;rw[j]at f;exact⟨_,f,(Fr.cQ (X:=λ_=>False) hb).row hv λ_ _ _ _ _ h=>h,hb⟩
 .simp only[AT c];exact(TY rb key w a (by simpa using c)).mono λe w' ⟨f,hb⟩=>⟨_,f,abh w' _ _ _,hb⟩
def iJ(k:ah):List UInt8:=k.data.toList
theorem AN(x:List UInt8):iJ ⟨x.toArray⟩=x:=by simp[iJ]
theorem I9{a:ah}(h:iJ a=iJ b):a=b:=by
 cases a;cases b;simp only[iJ,Array.toList_inj]at h;rw[h]
theorem D2(k:ah):encStr (iJ k)=.s k:=by cases k;simp[iJ]
def JC(k:ah):k.toList=iJ k:=ByteArray.toList_eq ..
def Live(K:aL)(s:ah):Prop:=(K s).2≠[]
def nY(K:aL)(n:Nat)(L:List (List UInt8)):Prop:=L.Nodup/\∀k,iJ k∈L↔aZ k<n/\Live K k
def mV(K:aL)(n:Nat)(es:List aw)(seen:Array Nat)(L:List (List UInt8)):Prop:=
 L.Nodup/\∀k,iJ k∈L↔(aZ k<n/\Live K k)\/(aZ k=n/\Live K k/\∃e∈es,e.key=.s k/\e.born∈seen)
theorem nY.zero(K:aL):nY K 0 []:=⟨List.nodup_nil,λk=>zp⟩
theorem nY.start{n:Nat}(h:nY K n L)(es:List aw):mV K n es #[] L:=⟨h.1,λk=>by rw[h.2 k];simp⟩
theorem map_inj{β:Type}{f:α->β}:∀{l:List α},(l.map f).Nodup->∀{a b:α},a∈l->b∈l->f a=f b->a=b
 |[],_,_,_,c,_,_=>by simp at c
 |x::l,h,a,b,c,hb,e=>by
  rw[abv,List.nodup_cons]at h;rcases abk.1 c with c|c<;>rcases abk.1 hb with hb|hb
  .rw[c,hb]
  .grind
  .grind
  .exact map_inj h.2 c hb e
theorem Ep{s:ah}:∀{es:List aw},gk es->cS es s=some v->∃e∈es,e.key=.s s/\e.val=v
 |[],_,h=>by cases h
 |x::es,a,h=>by
  obtain⟨q,c⟩:=a x zp;simp only[cS,c]at h;by_cases hs:s=q
  .grind
  .rw[AT hs]at h;obtain⟨e,j,k,l⟩:=Ep (λf i=>a f (by simp[i])) h;grind
theorem Dx{s:ah}:∀{es:List aw},gk es->(es.map (·.key)).Nodup->∀e∈es,e.key=.s s->cS es s=some e.val
 |[],_,_,e,a,_=>by simp at a
 |x::es,i,c,e,a,hs=>by
  obtain⟨q,j⟩:=i x zp;rw[abv,List.nodup_cons]at c;simp only[cS,j];rcases abk.1 a with rfl|a
  .grind
  .have f: ¬s=q:=λh=>c.1 (aaW.2 ⟨e,a,by rw[hs,j,h]⟩);rw[AT f];exact Dx (λh k=>i h (by simp[k])) c.2 e a hs
theorem aU.Oo{l:List aG}(h:aU w (.slice none 0 0) l):l= []:=by
 obtain⟨ad,cap,e,_⟩:=h.len;grind
theorem UR{n:Nat}{clock:Nat}(h:gk es.toList)(a:∀s,aZ s=n->∃sv,(cS es.toList s).getD pH=bY (K s).1 sv/\aU w sv (K s).2)(c:lU (λk=>aZ k=n/\k.size<=281474976710656/\bq k=true) es.toList clock)(f:e∈es.toList): ∃s sv,e.key=.s s/\aZ s=n/\s.size<=281474976710656/\e.val=bY (K s).1 sv/\aU w sv (K s).2:=by
 obtain⟨s,hs,i,l⟩:=c.2.2.2 e f;obtain⟨sv,j,m⟩:=a s i;rw[Dx h c.1 e f hs]at j;grind
theorem mem_left{seen:Array Nat}:e∈(leftOf es seen).toList↔e∈es.toList/\¬e.born∈seen:=by
 unfold leftOf;simp
theorem mV.done{n:Nat}{seen:Array Nat}(h:mV K n es.toList seen L)(p:gk es.toList)(a:∀s,aZ s=n->∃sv,(cS es.toList s).getD pH=bY (K s).1 sv/\aU w sv (K s).2)(q:(leftOf es seen).size=0):nY K (n+1) L:=by
 refine⟨h.1,λk=>?_⟩;rw[h.2 k];constructor
 .grind
 .rintro⟨y,j⟩;by_cases e:aZ k=n
  .refine Or.inr ⟨e,j,?_⟩;obtain⟨sv,r,l⟩:=a k e;cases m:cS es.toList k with
   |none=>
    rw[m]at r;have:sv=.slice none 0 0:=by
     grind
    rw[this]at l;exact absurd l.Oo j
   |some v=>
    obtain⟨e,u,c,_⟩:=Ep p m;refine⟨e,u,c,?_⟩;have f:(leftOf es seen).toList= []:=acP (by simpa using q);have i: ¬e∈(leftOf es seen).toList:=by rw[f];simp
    rw[mem_left]at i;grind
  grind
theorem mV.dead{n:Nat}{seen:Array Nat}{s:ah}(h:mV K n es.toList seen L)(hb:(es.toList.map (·.born)).Nodup)(i:e∈(leftOf es seen).toList)(hs:e.key=.s s)(hl: ¬Live K s):mV K n es.toList (seen.push e.born) L:=by
 refine⟨h.1,λk=>?_⟩;rw[h.2 k];have c:=(mem_left.1 i).1;constructor
 .grind
 .rintro (f|⟨f,l,m,j,p,a⟩)
  .exact Or.inl f
  .rw[Array.mem_push]at a;rcases a with a|a
   .grind
   .have:=map_inj hb j c a;grind
theorem mV.live{n:Nat}{seen:Array Nat}{s:ah}(h:mV K n es.toList seen L)(hb:(es.toList.map (·.born)).Nodup)(m:(es.toList.map (·.key)).Nodup)(u:e∈(leftOf es seen).toList)(hs:e.key=.s s)(C:aZ s=n)(hl:Live K s):mV K n es.toList (seen.push e.born) (L++ [iJ s]):=by
 obtain⟨i,y⟩:=mem_left.1 u;refine⟨?_,λk=>?_⟩
 .rw[List.nodup_append];refine⟨h.1,zp,λa q b j z=>?_⟩;rw[abu]at j;rw[z,j,h.2 s]at q;rcases q with⟨c,_⟩|⟨_,_,r,l,p,f⟩
  .omega
  .have:=map_inj m l i (by rw[p,hs]);grind
 .rw[abr,h.2 k,abu];constructor
  .rintro ((c|⟨c,A,r,l,p,f⟩)|c)
   .exact Or.inl c
   .grind
   .have:=I9 c;grind
  .rintro (c|⟨c,A,r,l,p,f⟩)
   .grind
   .rw[Array.mem_push]at f;rcases f with f|f
    .grind
    .have:=map_inj hb l i f;grind
theorem filter_le{p q:α->Bool}(h:∀x,q x=true->p x=true)(l:List α):(l.filter q).length<=(l.filter p).length:=by
 induction l with
 |nil=>simp
 |cons x l a=>
  grind
theorem aab{p q:α->Bool}(h:∀x,q x=true->p x=true){e:α}(f:p e=true)(i:q e=false)(l:List α)(a:e∈l):(l.filter q).length<(l.filter p).length:=by
 induction l with
 |nil=>simp at a
 |cons x l j=>
  have c:=filter_le h l;grind
theorem Di(es:Array aw)(seen:Array Nat):(leftOf es seen).size=(es.toList.filter λe=>!seen.contains e.born).length:=by
 rw[show(leftOf es seen).size=(leftOf es seen).toList.length from(Array.length_toList).symm];unfold leftOf;grind
theorem TK{seen:Array Nat}(a:e∈(leftOf es seen).toList):(leftOf es (seen.push e.born)).size<(leftOf es seen).size:=by
 obtain⟨c,f⟩:=mem_left.1 a;rw[Di,Di];refine aab (λx h=>?_) (by simpa using f) zp _ c;grind
def kO(l:List aY):List (List UInt8):=(l.filter λq=>decide (0<pU q)).map λq=>iJ q.1
theorem RL(l:List aY):iG l=eM (kO l):=by
 unfold iG eM kO;rw[acE];apply aci;intro q _;simp[D2]
theorem Jj(l:List aY):(kO l).length<=l.length:=by
 unfold kO;grind
theorem II{l:List aY}(h:nJ l):(kO l).Pairwise λa b=>a<b:=by
 unfold kO;rw[acs];refine(adt _ h).imp λ{a b} c=>?_
 have:=nu.1 c;rwa [JC,JC]at this
theorem Rj{l:List aY}(h:nJ l):(kO l).Nodup:=
 (II h).imp λ{a b} c e=>zg
theorem JS{n:Nat}{l:List aY}(h:cG w rb n sv l K)(k:ah):iJ k∈kO l↔Live K k:=by
 obtain⟨ad,cap,a,_⟩:=h.of k;unfold kO Live;rw[aaW];constructor
 .rintro⟨q,j,e⟩;obtain⟨c,m⟩:=acw.1 j;have i:=I9 e;rw[<-i,vH h.sorted c]at a;rw[i]at a;have hl:pU q=(K k).2.length:=by rw[a];rfl
  grind
 .intro hl;have f:dD l k∈l:=by
   unfold dD at a ⊢;cases p:l.find? (λq=>decide (q.1=k)) with
   |none=>
    grind
   |some q=>grind
  refine⟨dD l k,acw.2 ⟨f,?_⟩,by rw[IF]⟩
  have:=List.length_pos_iff.2 hl;rw[a];exact abJ (by simpa[pU] using this)
theorem TA{l:List aY}(h:cG w rb n' sv l K)(a:L.Nodup)(c:∀k,iJ k∈L->Live K k):L.length<=l.length:=by
 refine IT (List.Nodup.length_le_of_subset a λx f=>?_) (Jj l)
 have:=(JS h ⟨x.toArray⟩).2 (c ⟨x.toArray⟩ (by rw[AN];exact f));rwa [AN]at this
theorem Zk{l:List aY}(h:cG w rb n' sv l K)(i:nY K 64 L):mn L=kO l:=by
 have p:=(DC L).trans ((List.perm_ext_iff_of_nodup i.1 (Rj h.sorted)).2 λx=>by
  have j:=i.2 ⟨x.toArray⟩;have k:=JS h ⟨x.toArray⟩;rw[AN]at j k;rw[j,k];exact⟨λh=>h.2,λh=>⟨kP _,h⟩⟩)
 refine List.Perm.eq_of_pairwise (le:=λa b=>a<=b) (λa b _ _ m n=>List.le_antisymm m n) ?_ ((II h.sorted).imp λ{a b} f=>List.le_of_lt f) p
 have:=List.pairwise_mergeSort (le:=λ(x y:List UInt8)=>decide (x<=y)) (λa b c m n=>zg) (λa b=>zg) L;exact this.imp λ{a b} f=>by simpa using f
end Go.Proofs.YtldmcdeibiclkaaGreatQ
namespace Go.Proofs.YtldmcdeibiclkaaGreatQ
variable {o:Oper}{v:ag}{xs:ae}{g:Nat}{t:ak}
section
open Go
section
variable {P:aj} (w:af)
theorem Sk(t G:ak)(base:Nat)(e:ak)(i:TypeInfo)(z:ag)(size bytes:Nat)(H:P.underlying t=some (.slice e))(hi:P.info? e=some i)(N:i.zero=some z)(q:i.size=size)(A:i.bytes=bytes)(I:z.cells.size=size)(J:0<size)(v:ag)(n:Nat)(xs:ae)(h:w.ownsRow base e size v n xs)(ad:Addr)(m c:Nat)(news:ae)(hl:news.length=m*size)(f:∀j u,news[j]?=some u->w.cell? (ad.add j)=some u)(h1:∀u∈news,u.oneCell'=true)(S:0<m)(C:n+m<=maxLen)(p:(n+m)*bytes<=140737488355328)(s:base<=w):
  ∃g cap w',(Builtin.append_ #[t,t] G #[v,.slice (some ad) m c]).run P w=.ok (.l g (n+m) cap) w'/\
   w'.ownsRow base e size (.l g (n+m) cap) (n+m) (xs++news)/\w.grownBy w' v.ownBlock/\(v.ownBlock=some g\/g=w/\w.grownBy w' none):=by
 obtain⟨g,cap,w',O,T,Q,D,_⟩:=run_append_lies (P:=P) w t G base e i z size bytes H hi N q A I J v n xs h ad m c news hl f h1 S C p s _ rfl;refine⟨g,cap,w',O,T,Q,?_⟩;rcases D with D|D
 .exact Or.inl D
 .refine Or.inr ⟨D,?_⟩;rcases h.2 with⟨rfl,_⟩|⟨k,kc,E,rfl,_,R,_,_,M,_⟩
  .exact Q
  .have U:=(IN.1 R).1;subst q;subst A;by_cases r:n+m<=kc
   .have F:n*i.size+news.length<=E.size:=by rw[hl,M,<-Nat.add_mul];exact Nat.mul_le_mul_right _ r
    have y:=run_append_room (P:=P) w t G e i H hi k n kc E R ad m c news hl f h1 r F;grind
   .have y:=run_append_grow (P:=P) w t G e i z H hi N (.a k 0) n kc xs h.1 (h.cells (g:=k) rfl) ad m c news hl f zo (by simp only[maxLen]at C;omega) (growslice_fits zo p);rw[O]at y;injection y with _ V;rw[V];exact⟨rfl,rfl,rfl,zp,λj hj _=>by first|exact heap_alloc_old w.drew _ j hj|exact heap_alloc_old w.drew _ hj⟩
theorem U9{a:Act}{K:Act->af->Prop}{Q:Exit->Act->af->Prop}(s x:ax)(t:ak)(E:o.op=.call {callee:=.builtin .append,args:=#[s,x],argTypes:=#[t,t]})(base:Nat)(e:ak)(i:TypeInfo)(z:ag)(size bytes:Nat)(F:P.underlying t=some (.slice e))(hi:P.info? e=some i)(G:i.zero=some z)(k:i.size=size)(y:i.bytes=bytes)(A:z.cells.size=size)(C:0<size)(v:ag)(n:Nat)(xs:ae)(hs:a.eval s=v)(r:w.ownsRow base e size v n xs)(ad:Addr)(m c:Nat)(news:ae)(H:a.eval x=.slice (some ad) m c)(hl:news.length=m*size)(p:∀j u,news[j]?=some u->w.cell? (ad.add j)=some u)(h1:∀u∈news,u.oneCell'=true)(I:0<m)(D:n+m<=maxLen)(f:(n+m)*bytes<=140737488355328)(q:base<=w)(h:∀g cap w',w'.ownsRow base e size (.l g (n+m) cap) (n+m) (xs++news)->w.grownBy w' v.ownBlock->(v.ownBlock=some g\/g=w/\w.grownBy w' none)->K (a.put o.dst (.l g (n+m) cap)) w'):o.wp P a w K Q:=by
 obtain⟨g,cap,w',J,M,N,O⟩:=Sk (P:=P) w t o.type base e i z size bytes F hi G k y A C v n xs r ad m c news hl p h1 I D f q;unfold Oper.wp execOp;simp only[E,resolve,invoke,builtin,abH,Sem.run_pure,abY,List.map_toArray,abv,List.map_nil,hs,H,J];exact h g cap w' M N O
theorem sZ{ops:Array Oper}{rest:List Oper}{a:Act}{Q:Exit->Act->af->Prop}(y:o.guard=none)(s x:ax)(t:ak)(F:o.op=.call {callee:=.builtin .append,args:=#[s,x],argTypes:=#[t,t]})(base:Nat)(e:ak)(i:TypeInfo)(z:ag)(size bytes:Nat)(G:P.underlying t=some (.slice e))(hi:P.info? e=some i)(H:i.zero=some z)(k:i.size=size)(A:i.bytes=bytes)(C:z.cells.size=size)(D:0<size)(v:ag)(n:Nat)(xs:ae)(hs:a.eval s=v)(r:w.ownsRow base e size v n xs)(ad:Addr)(m c:Nat)(news:ae)(I:a.eval x=.slice (some ad) m c)(hl:news.length=m*size)(p:∀j u,news[j]?=some u->w.cell? (ad.add j)=some u)(h1:∀u∈news,u.oneCell'=true)(J:0<m)(E:n+m<=maxLen)(f:(n+m)*bytes<=140737488355328)(q:base<=w)(h:∀g cap w',w'.ownsRow base e size (.l g (n+m) cap) (n+m) (xs++news)->w.grownBy w' v.ownBlock->(v.ownBlock=some g\/g=w/\w.grownBy w' none)->wpList P ops Q rest (a.put o.dst (.l g (n+m) cap)) w'):wpList P ops Q (o::rest) a w:=
 wpList_plain y λ_ M=>U9 w s x t F base e i z size bytes G hi H k A C D v n xs hs r ad m c news I hl p h1 J E f q λg cap w' N O R=>M _ _ (h g cap w' N O R)
end
theorem Oi{w w':af}{base size n m:Nat}{e:ak}{news:ae}{cap:Nat}(f:w.ownsRow base e size v n xs)(u:w'.ownsRow base e size (.l g m cap) m (xs++news))(i:v.ownBlock=some g\/g=w/\w.grownBy w' none):∀k o l c,v=.slice (.a k o) l c->(∃p,w'.heap[k]?=.c p e)/\∀j,j<n*size->w'.cell? (.a k j)=w.cell? (.a k j):=by
 intro k o l c hv;rcases f.2 with⟨h,_⟩|⟨k',kc,p,q,_,y,_,_,D,E⟩
 .rw[h]at hv;cases hv
 .rw[q]at hv;cases hv;have z:=(IN.1 y).1;rcases i with i|⟨_,i⟩
  .rw[q]at i;have r:k=g:=by simpa[Value.ownBlock] using i
   subst r;refine⟨?_,λj hj=>?_⟩
   .rcases u.2 with⟨h,_⟩|⟨_,_,A,F,_,G,_⟩
    .cases h
    grind
   .have H:=f.cells (g:=k) (by rw[q];rfl) j;have I:=u.cells (g:=k) rfl j;have s:j<xs.length:=by rw[f.1];exact hj
    have J:=H xs[j] (by simp[s]);have M:=I xs[j] zg;have C:((.a k 0):Addr).add j=(.a k j):=by unfold Addr.add;split<;>simp_all
    grind
  .exact⟨⟨p,by rw[i.block k z zp];exact y⟩,λj _=>World.cell?_of_block (a:=(.a k j)) (i.block k z zp)⟩
theorem oD{w:af}{a:ak}{c f:aa}(h:w.heap[g]?=.c c t)(i:w.heap[g]?=.c f a):t=a:=by
 grind
theorem fe{w:af}{B n size:Nat}(h:w.ownsRow B t size v n xs){b:Nat}(e:v.ownBlock=some b): ∃a,w.heap[b]?=.c a t:=by
 rcases h.2 with⟨f,_⟩|⟨g,cap,c,hv,_,i,_⟩
 .rw[f]at e;cases e
 .rw[hv]at e;simp[Value.ownBlock]at e;grind
end
end Go.Proofs.YtldmcdeibiclkaaGreatQ
namespace Go.Proofs.YtldmcdeibiclkaaGreatQ
open Go.RowKit
theorem aC.Zl:(aC.prog.info? 64).map (·.size)=some 64:=zk
theorem SQ(W:af)(cs:ae)(k:Nat)(v:ag)(f:k<64)(hv:cs[k]?=some v):(Instr.index 64 (.agg cs.toArray) (.i k)).run aC.prog W=.ok v W:=by
 have u:=aC.underlying64;have a:=aC.isAgg63;have z:=aC.sizeOf63;have c:(0:Int)<=(k:Int)/\(k:Int)<64:=zo;simp[Instr.index,asIntOf,abH,abW u,abY,c,z,part,a,hv];intro h;omega
theorem Ws(W:af)(m:Nat)(es:Array aw)(clock:Nat)(a:W.heap[m]?=some (.map es clock)):(Instr.range 63 (.map (some m))).run aC.prog W=.ok (.p W) (W.alloc (.mapIter (some m) clock #[] clock)):=by
 have u:=aC.underlying63;simp[Instr.range,abH,abW u,abY,getObj,newObj,Sem.run,a]
def wA(W:af)(r:Nat)(es:Array aw):Nat:=
 match W.heap[r]? with
 |some (.mapIter _ _ seen _)=>(leftOf es seen).size
 |_=>0
theorem RX(b num:Nat)(bm:Nat->Nat)(K:aL)(w:af)(h:aV w b bm num K)(hK:cF K)(bo:∀L:List (List UInt8),L.Nodup->(∀k,iJ k∈L->Live K k)->L.length<=1900000000000):
  Calls aC.prog 68 #[.p b] w λe w'=>∃v' L,e=.r v'/\nY K 64 L/\w'.ownsRow w 9 1 v' L.length (eM (mn L))/\Below w w w':=by
 obtain⟨cs,bp,aB⟩: ∃cs:ae,cs.length=64/\∀n,n<64->cs[n]?=some (.map (some (bm n))):=
  ⟨(List.range 64).map λn=>.map (some (bm n)),zp,λn hn=>by simp[hn]⟩
 have br:w.rangeAt b 1 cs:=λj v hv=>by
  have hj:j<64:=by have:=(List.getElem?_eq_some_iff.1 hv).1;omega
  rw[aB j hj]at hv;rw[<-hv,acV 1 j];exact h.1.bC hj
 have df:=h.1.lt;have ck:Hid _:=br;have cl:=zu aB;have cm:Hid ((aC.prog.info? 64).map (·.size)=some cs.length):=(by rw[bp];exact aC.Zl)
 have an:=zu h;have HK:Hid _:=hK;have bs:Hid _:=bo;obtain⟨i0,cn,cp,cq,cr⟩:=aaY aC.vu;have ao:=trivial;clear h hK bo br aB bp;go_enter aC.func68,aC.ntmps68;go_wp2_with (first
  |(have _t:=ao;refine wpList_load_mid rfl 64 _ rfl b 1 rfl cs _ ck.out aC.underlying64 rfl cm.out ?_;clear ao))
 go_loopw [3,12] (λks i wr=>∃(n:Nat) (L:List (List UInt8)),n<=64/\i=.i n/\Hid (nY K n L)/\Hid (wr.ownsRow w 9 1 ks L.length (eM L))/\Hid (Below w w wr)) (λ_ i _=>64-(intOf i).toNat)
 case atStart=>exact⟨0,[],zo,rfl,nY.zero K,abh _ _ _ _,zj⟩
 case round=>
  obtain⟨n,L,hn,rfl,hinv,f,l⟩:=hrel;obtain⟨y,cv⟩: ∃W,W=wr:=⟨_,rfl⟩
  subst cv;have n0:(0:Int)<=(n:Int):=zo;by_cases T:n<64
  .have di:(n:Int)<64:=zo;obtain⟨es,clock,hm,S,aq,bx⟩:=(an.out.below l.out).2.1 n T;have cw:=λW=>SQ W cs n _ T (cl.out n T);have cx:=Ws y (bm n) es clock hm;obtain⟨ad,cap,rfl,bB,cA⟩:=cz f.out;have ar:=((an.out.2.1 n T)).lt;generalize bm n=m at*;go_wp2;have HM:Hid _:=hm;have bL:=zu S;have av:=zu aq;have F:=zu bx.1;have ay:=zu l.out;have cB:=l.out.size;have aE:=zu hinv.out;have aT:=zu f.out;clear hm S aq bx l hinv f cw cx;go_loopw [3] (λks wi=>∃(seen:Array Nat) (M:List (List UInt8)),Hid (mV K n es.toList seen M)/\Hid (wi.ownsRow w 9 1 ks M.length (eM M))/\Hid (Below w w wi)/\Hid (wi.heap[y.heap.size]?=some (.mapIter (some m) clock seen clock))) (λ_ wi=>wA wi y es)
   case atStart=>exact⟨#[],L,aE.out.start _,aT.out.alloc _,ay.out.alloc cB _,By y _⟩
   case round=>
    obtain⟨seen,M,hM,z,H,bN⟩:=hrel;obtain⟨U,A,rfl,cI,c9⟩:=cz z.out;have a1:=zu z.out;have G:=zu H.out;have V:Hid _:=bN.out;have I:=zu hM.out;have bR:=zu ((G.out.block m ar).trans ((ay.out.block m ar).symm.trans HM.out));have cK:=G.out.size;clear hM z H bN;rcases run_next_at (P:=aC.prog) wr 0 y m clock clock seen es clock V.out bR.out F.out.2.2.1 zf with⟨hzero,a6⟩|⟨e,he,w1,Y,a6⟩
    .go_wp2;exact⟨⟨n+1,M,zo,by go_num,I.out.done bL.out av.out hzero,a1.out,G.out⟩,zi⟩
    .obtain⟨s,sv,hs,bT,cN,J,bZ⟩:=UR bL.out av.out F.out ((mem_left.1 he).1);obtain⟨dj,db,rfl,cW⟩:=bZ.len;rw[hs,J]at a6;have b0:=(IN.1 V.out).1;obtain⟨W1,u⟩: ∃W,W=Go.ChangeMaps.setBlock w1 y (.mapIter (some m) clock (seen.push e.born) clock):=⟨_,rfl⟩
     rw[<-u]at a6;have e1:∀k:Nat,w1.heap[k]?=wr.heap[k]? :=λk=>by rcases Y with rfl|rfl<;>rfl
     have a7:w1=wr.heap.size:=by rcases Y with rfl|rfl<;>rfl
     have Z:Below w w w1:=by rcases Y with rfl|rfl;exact G.out;exact G.out.drew
     have C:W1.heap[y.heap.size]?=some (.mapIter (some m) clock (seen.push e.born) clock):=by rw[u];simp[Go.ChangeMaps.setBlock,a7,b0]
     have D:∀k:Nat,k≠y->W1.heap[k]?=wr.heap[k]? :=λk S=>by
      rw[u,<-e1 k];simp only[Go.ChangeMaps.setBlock,acz];rw[AT (Ne.symm S)]
     have az:=(D m zo).trans bR.out;have a8:Below w w W1:=⟨by rw[u];exact Z.os,by rw[u];exact Z.tape,by rw[u];exact Z.output,by rw[u];simp[Go.ChangeMaps.setBlock,a7];exact cK,λk S=>(D k zo).trans (G.out.block k S)⟩
     have b1:Hid (W1.ownsRow w 9 1 (.slice U M.length A) M.length (eM M)):=(by
      refine⟨a1.out.1,?_⟩;rcases a1.out.2 with h2|⟨g,cap,b2,hv,hg,hh,rr⟩
      .exact Or.inl h2
      .exact Or.inr ⟨g,cap,b2,hv,hg,(D g (λe'=>by rw[e',V.out]at hh;cases hh)).trans hh,rr⟩)
     have cY:=run_entry_at (P:=aC.prog) W1 y m clock seen es clock e C az ((mem_left.1 he).1) F.out.2.1;rw[hs,J]at cY;have aA:Hid _:=C;have b3:Hid _:=a8;have b4:=a8.size;have b5:=(IN.1 C).1;have N:Hid (∀W,W.heap[y.heap.size]?=some (.mapIter (some m) clock (seen.push e.born) clock)->wA W y es<wA wr y es):=λW hW=>by
      unfold wA;rw[hW,V.out];exact TK he
     have HE:Hid _:=he;have b6:Hid _:=hs;have c0:Hid _:=bT;have b7:Hid (Live K s↔0<(K s).2.length):=List.length_pos_iff.symm;have dk:=(HK.out s).len;generalize (K s).1=c at*;generalize (K s).2.length=len at*;clear Y u e1 a7 Z C D az a8 J bZ hs he bT;by_cases hl:0<len
     .have dm:(0:Int)<(len:Int):=zo;have bb:=zu (b7.out.2 hl);have O:=zu (I.out.live F.out.2.1 F.out.1 HE.out b6.out c0.out bb.out);have dq:=bs.out M I.out.1 λk S=>by
       rcases (I.out.2 k).1 S with⟨_,h2⟩|⟨_,h2,_⟩<;>exact h2
      have b8:=zu ((show eM (M++ [iJ s])=eM M++ [.s s] by simp[eM,D2]));have b9:Hid (∀W:af,W.ownsRow w 9 1 (.slice U M.length A) M.length (eM M)->W.heap[y.heap.size]?=some (.mapIter (some m) clock (seen.push e.born) clock)->some y.heap.size≠(Value.slice U M.length A).ownBlock):=λW hr hi e'=>by
       obtain⟨b2,hc⟩:=fe hr e'.symm;rw[hi]at hc;cases hc
      go_wp2_with (first
       |(go_at_call 34;refine(rH s _ cN).mono ?_;rintro e3 w3 ⟨rfl,ab⟩;have ca:=zu ((b3.out.alloc b4 _).trans (ab.mono zt));have bc:=zu (bH (b1.out.alloc _) ab zf);have bd:=zu (bj ((aaO W1 _ _ b5).trans aA.out) ab);have z3:=ca.out.size;have r3:=(IN.1 bd.out).1;clear ab)
       |(at_builtin;refine abq _ rfl _ _ _ rfl w 9 i0 _ 1 16 aC.underlying27 cn cp cq cr rfl zo (.slice U M.length A) _ _ rfl (bc.out.alloc _) (.a w3 0) 1 1 [.s s] rfl rfl (aaT (cs:=#[.s s]) (t:=9) (fr:=(0,0)) (By w3 _)) zv zo ze zo zt _ rfl ?_;intro gg dd w4 Q q cb cc;have c1:=zu Q;have c5:=zu (pA bc.out ca.out z3 q);have cd:=zu ((q.block y zt (b9.out w3 bc.out bd.out)).trans ((aaO w3 _ _ r3).trans bd.out));clear Q q cb cc))
      refine⟨⟨seen.push e.born,M++ [iJ s],O.out,?_,c5.out,cd.out⟩,N.out _ cd.out⟩;show w4.ownsRow _ _ _ _ _ _;rw[b8.out,abo,acQ];exact c1.out
     .obtain rfl:len=0:=zo;have O:Hid _:=I.out.dead F.out.2.1 HE.out b6.out (λh=>by have:=b7.out.1 h;omega);go_wp2;have hX:=λX=>(aaO W1 X _ b5).trans aA.out;exact⟨⟨seen.push e.born,M,O.out,b1.out.alloc _,b3.out.alloc b4 _,hX _⟩,N.out _ (hX _)⟩
  .obtain rfl:n=64:=zo;obtain⟨ad,cap,rfl,bB,cA⟩:=cz f.out;have aE:Hid _:=hinv.out;have c6:Hid _:=l.out;have aT:Hid _:=f.out;have dt:=bs.out L hinv.out.1 λk S=>((hinv.out.2 k).1 S).2;have bn:Hid _:=PV w (.slice ad L.length cap) L y f.out zo;have cj:=l.out.size;clear hinv l f;go_wp2_with (first
    |(go_at_call 91;refine AI bn.out ?_;rintro e w1 ⟨rfl,R,E⟩;have c7:Hid _:=R;have c8:Hid _:=q7 aT.out c6.out cj E;clear R E))
   go_ret;exact⟨_,L,rfl,aE.out,c7.out,c8.out⟩
end Go.Proofs.YtldmcdeibiclkaaGreatQ
