/-
  Toward settled_holds: A letter of one replica of the net may be heard by another.
-/
import Derived.Test.YtldmcdeibiclkaaGreatDoorC27
set_option linter.unusedVariables false
set_option linter.unusedSimpArgs false
set_option maxRecDepth 100000
set_option maxHeartbeats 20000000
namespace Go.Proofs.YtldmcdeibiclkaaGreatDoorQ
variable {L:Let}{i k lev o:Nat}{ns:List Nat}
open Go.RowKit
section
section
variable {w:World}{b num:Nat}{bm:Nat->Nat}{K:aw}{ks:Nat->ByteArray}
theorem xG(h:aB w b bm num K)(hk:∀s,cF (K s).1->∃k,k<3/\s=ks k):xa w bm:=λn hn=>by
 have hN:=(h.2.1 n hn).names;have hl:(fg (de (cM w (bm n)))).length=(cM w (bm n)).length:=by rw[(nS _).length_eq,de,Xn]
 rw[<-hl];have hnd:(fg (de (cM w (bm n)))).Nodup:=hN.1.imp λ{a b} hab e=>by rw[e]at hab;exact List.lt_irrefl _ hab
 have:=List.Nodup.length_le_of_subset (l₂:=[(ks 0).data.toList,(ks 1).data.toList,(ks 2).data.toList]) hnd λx hx=>by
  obtain⟨k,hk3,e⟩:=hk _ ((hN.2 x).1 hx).2;have hx':x=(ks k).data.toList:=by rw[<-e];simp[dR]
  rw[hx'];rcases (show k=0\/k=1\/k=2 by omega) with rfl|rfl|rfl<;>simp
 simp at this;omega
theorem Ot(h:aB w b bm num K){s:ByteArray}(hn: ¬cF (K s).1):(K s).2= []:=by
 have hs:=h.2.1 (ay s) (eU s);have he:=(not_congr (DW hs rfl)).2 hn;have he':cH (cM w (bm (ay s))) s=none:=XD λh=>he h;obtain⟨es,clock,e1,e2,e3,e4,e5⟩:=hs;have hes:cM w (bm (ay s))=es.toList:=by simp[cM,e1]
 rw[hes]at he';obtain⟨sv,h1,h2⟩:=e3 s rfl;rw[he']at h1;simp only[Option.getD_none,lU,bL]at h1;injection h1 with h1;have hz:(#[Value.int .i64 ((K s).1 0),.int .i64 ((K s).1 1),.int .i64 ((K s).1 2),.int .i64 ((K s).1 3),sv]:Array Value)[4]?=some (.slice none 0 0):=by rw[<-h1];rfl
 simp at hz;rw[hz]at h2;obtain⟨ad,cap,e⟩:=pw h2;injection e with _ e;exact List.eq_nil_of_length_eq_zero e.symm
end
theorem Cy{M:Nat}:∀{sg:List (Nat×List ai)},(∀g∈sg,(dS g.2).size<=M)->(bp sg).size<=sg.length*(5+M)
 |[],_=>by simp[bp]
 |g::sg,h=>by
  have h1:=Cy (sg:=sg) λx hx=>h x (by simp[hx]);have h2:=h g (by simp);simp only[bp,gB,IS,da,jP,Xp,Nat.add_mul] at*;omega
theorem xx{w:World}{b num kind:Nat}{bm:Nat->Nat}{K:aw}(h:aB w b bm num K)(hK:dK w bm K)(hl:ns.length<=64)(hns:∀n∈ns,n<64):(Let.aK kind (bC w bm K ns)).bytes.size<=140737488355328:=by
 have h1:=Cy (M:=1829000) (sg:=bC w bm K ns) λg hg=>by
  obtain⟨n,hn,rfl⟩:=XP.1 hg
  have:=yX h hK (hns n hn);rw[dE,rQ]at this;exact this
 have h2:(bC w bm K ns).length=ns.length:=Xn ..;simp only[Let.bytes,IS,da];rw[h2]at h1;have h3:ns.length*(5+1829000)<=64*(5+1829000):=Nat.mul_le_mul_right _ hl;omega
theorem LR{sg:List Nd}(h:kV lev sg):(Let.nodes lev sg).bytes.size<=140737488355328:=by
 have:=h.len.2;simp only[Let.bytes,IS,da,Ek];omega
abbrev lM(w:World)(g:au):Prop:=∀i,i<g.nr->aB w (g.b i) (g.bm i) i (g.K i)
section
variable {w:World}{g:au}{ks:Nat->ByteArray}
theorem nU(hN:lM w g)(hI:bz ks g)(hi:i<g.nr):dK w (g.bm i) (g.K i):=
 ⟨hI.eT i hi,xG (hN i hi) (hI.fx i hi)⟩
theorem BG(hN:lM w g)(hI:bz ks g)(hi:i<g.nr):Fit (g.K i):=λs=>by
 refine⟨?_,Xb (hI.eT i hi s).2.1 (by decide)⟩;by_cases hk:cF (g.K i s).1
 ·obtain⟨l,hl,rfl⟩:=hI.fx i hi s hk;exact hI.kY hi hl
 ·rw[Ot (hN i hi) hk];exact⟨(hI.eT i hi s).2.2.2,(λv hv=>by cases hv),List.Pairwise.nil⟩
theorem qM(hN:lM w g)(hI:bz ks g)(hk:k<g.nr)(hL:l7 (g.K k) L):L.Ok:=by
 cases L with
 |root d=>exact hL
 |nodes lev sg=>exact hL
 |aK kind sg=>
  obtain⟨h0,ns,h1,h2,h3,rfl⟩:=hL;have hr:=hN k hk;refine⟨h0,?_⟩;rw[<-hr.aK h2];exact LS hr (BG hN hI hk) (nU hN hI hk).2 h1 h2 h3
theorem Gh(hN:lM w g)(hI:bz ks g)(hk:k<g.nr)(hL:l7 (g.K k) L):L.bytes.size<=140737488355328:=by
 cases L with
 |root d=>simp only[Let.bytes,IS,da,uG];decide
 |nodes lev sg=>exact LR hL
 |aK kind sg=>
  obtain⟨h0,ns,h1,h2,h3,rfl⟩:=hL;have hr:=hN k hk;rw[<-hr.aK h2];exact xx hr (nU hN hI hk) h1.2 h2
theorem IY(hN:lM w g)(hI:bz ks g)(hi:i<g.nr)(hk:k<g.nr)(hL:l7 (g.K k) L):uf (g.b i) i (g.bm i) (g.K i) w L where
 rep:=hN i hi
 xz:=nU hN hI hi
 fit:=BG hN hI hi
 ok:=qM hN hI hk hL
 size:=Gh hN hI hk hL
 out:=λW hW ns hl hns=>xx hW ⟨hI.eT i hi,xG hW (hI.fx i hi)⟩ hl hns
 aK:=λkind sg e=>by
  have hok:=qM hN hI hk hL;have hI':=hI.eW (i:=i) g.A hi hk (hN k hk).kB hL hok;subst e;obtain⟨h0,ns,h1,h2,h3,rfl⟩:=hL;have eK:(g.eW ks i k (.aK kind (cE (g.K k) ns)) g.A).K i=cm (g.K i) (cE (g.K k) ns):=by simp[au.eW,ir]
  have hm:(cE (g.K k) ns).map (·.1)=ns:=by rw[cE,Yd];show ns.map (λn=>n)=ns;rw[List.map_id']
  refine⟨λx hx r hr=>?_,λW hW=>?_⟩
  ·obtain⟨n,hn,rfl⟩:=XP.1 hx;obtain⟨_,_,e⟩:=(rX (hN k hk).kB (h2 n hn)).1 hr;rw[e];exact Xb (hI.eT k hk r.1).2.1 (by decide)
  ·have hf:dK W (g.bm i) (cm (g.K i) (cE (g.K k) ns)):=⟨eK▸hI'.eT i hi,xG hW (eK▸hI'.fx i hi)⟩
   refine⟨hf,?_⟩;rw[hm];exact xx hW hf h1.2 h2
end
end
structure Ab where
 K:Nat->aw
 kn:Nat->Nat->Nat->Bool
 go:Nat->Nat->Nat->Bool
abbrev au.ab(g:au):Ab:=⟨g.K,g.kn,g.go⟩
def Ab.ag(ks:Nat->ByteArray)(s:Ab)(i k:Nat)(L:Let):Ab where
 K:=λj=>if j=i then ir (s.K i) L else s.K j
 kn:=λj l q=>if j=i then cO (cG ks L) 3 (s.kn i) (s.kn k) l q else s.kn j l q
 go:=λj l q=>if j=i then cO (cG ks L) 3 (s.go i) (s.go k) l q else s.go j l q
noncomputable def kE(ks:Nat->ByteArray):Nat->Ab->Nat->Nat->Option Let->Ab
 |0,s,_,_,_=>s
 |_+1,s,_,_,none=>s
 |m+1,s,i,k,some L=>kE ks m (s.ag ks i k L) k i (cQ (s.K i) L)
theorem Ai(ks:Nat->ByteArray)(m:Nat)(s:Ab)(i k:Nat):kE ks m s i k none=s:=by cases m<;>rfl
def nq:Let->Nat
 |.root _=>1
 |.nodes lev _=>2+lev
 |.aK kind _=>kind-78
theorem UK(h:L.Ok):1<=nq L/\nq L<=6:=by
 cases L with
 |root d=>exact⟨iR _,by show 1<=6;decide⟩
 |nodes lev sg=>have:=(show kV lev sg from h).low;simp only[nq];omega
 |aK kind sg=>obtain⟨rfl|rfl,_⟩:=h<;>simp[nq]
theorem Dd(K:aw)(lv n:Nat):0<=aS K lv n/\aS K lv n<18446744073709551616:=UW _ _ _
theorem AP{K:aw}(hl:lev<3)(h1:1<=ns.length/\ns.length<=64)(hns:∀n∈ns,n<4 ^ lev)(ha:ns.Pairwise (· < ·)):kV lev (dZ K lev ns) where
 low:=hl
 len:=by rw[dZ,Xn];exact h1
 num:=λg hg=>by
  obtain⟨n,hn,rfl⟩:=XP.1 hg;refine⟨hns n hn,λi hi=>?_⟩;show 0<=(if i<4 then aS K (lev+1) (n*4+i) else 0)/\(if i<4 then aS K (lev+1) (n*4+i) else 0)<_;rw[AS hi];exact Dd _ _ _
 jh:=by
  rw[dZ,Yd];show List.Pairwise _ (ns.map λn=>n);rw[List.map_id'];exact ha
theorem TL{K:aw}{L':Let}(hok:L.Ok)(h:cQ K L=some L'):l7 (ir K L) L'/\nq L'=nq L+1:=by
 cases L with
 |root d=>
  simp only[cQ]at h;split at h
  ·cases h
  ·cases h;exact⟨AP (by decide) (by decide) (by simp) (by simp),rfl⟩
 |nodes lev sg=>
  have ho:kV lev sg:=hok;have hl:=ho.low;have hd:=vq (D:=aS K (lev+1)) λg hg=>(ho.num g hg).1;have ha:=yJ (D:=aS K (lev+1)) ho.jh;have h4:=(ly (show lev+1<=3 by omega)).1;have hn:=xp (a:=0) (m:=64) ha λx hx=>⟨XN _,Xc (hd x hx) h4⟩
  simp only[cQ]at h;split at h
  ·cases h
  ·rename_i h0;have hp:1<=(bJ (aS K (lev+1)) sg).length/\(bJ (aS K (lev+1)) sg).length<=64:=⟨List.length_pos_iff.2 h0,by omega⟩
   split at h
   ·rename_i h2;cases h;subst h2;exact⟨⟨.inl rfl,_,hp,hd,ha,rfl⟩,rfl⟩
   ·cases h;refine⟨AP (by omega) hp hd ha,?_⟩;simp only[nq];omega
 |aK kind sg=>
  obtain⟨hk,hs⟩:=hok;simp only[cQ]at h;split at h
  ·cases h
  ·rename_i h4;cases h;refine⟨⟨.inr rfl,_,?_,λn hn=>?_,hs.jh,rfl⟩,?_⟩
   ·rw[Xn];exact hs.len
   ·obtain⟨g,hg,rfl⟩:=XP.1 hn;exact (hs.num g hg).1
   ·rcases hk with rfl|rfl
    ·rfl
    ·exact absurd rfl h4
def j8:Let->Nat
 |.root _=>82
 |.nodes _ _=>78
 |.aK kind _=>kind
theorem DX(hok:L.Ok){T:ByteArray}(hT:L.bytes=T):0<T.size/\∀h:0<T.size,(T[0]'h).toNat=j8 L:=by
 have key:∀(n:Nat) (R:ByteArray),n<256->L.bytes=ax n++R->n=j8 L->0<T.size/\∀h:0<T.size,(T[0]'h).toNat=j8 L:=λn R hn e hb=>by
  rw[hT]at e;have e':T=ByteArray.empty++(ax n++R):=by rw[iZ];exact e
  have hp:0<T.size:=by rw[e,IS,da];omega
  exact⟨hp,λh=>by rw[<-hb];exact byte_at (P:=ByteArray.empty) hn e' h⟩
 cases L with
 |root d=>exact key 82 _ (by decide) rfl rfl
 |nodes lev sg=>exact key 78 _ (by decide) rfl rfl
 |aK kind sg=>exact key kind _ (by rcases hok.1 with rfl|rfl<;>decide) rfl rfl
def jn(w:World)(b o:Nat):List Value:=(List.range 240).map λj=>(w.cell? ⟨b,o+j,none⟩).getD undef
def nG(w:World)(b o:Nat):Prop:=∀j,j<240->(w.cell? ⟨b,o+j,none⟩).isSome=true
def zg(w:World):Value->Prop
 |.pointer (some ⟨b,o,none⟩)=>nG w b o
 |_=>False
def A8(w:World):Value->Value
 |.pointer (some ⟨b,o,none⟩)=>.agg (jn w b o).toArray
 |_=>undef
theorem Vu(w:World)(b o:Nat):zg w (.pointer (some ⟨b,o,none⟩))=nG w b o:=rfl
theorem AV(w:World)(b o:Nat):A8 w (.pointer (some ⟨b,o,none⟩))=.agg (jn w b o).toArray:=rfl
theorem En(w:World)(b o:Nat):(jn w b o).length=240:=by simp[jn]
theorem Ly{w:World}{b:Nat}(h:nG w b o):w.rangeAt b o (jn w b o):=λj v hv=>by
 have hj:j<240:=by have:=(List.getElem?_eq_some_iff.1 hv).1;rwa [En]at this
 have:=h j hj;obtain⟨u,hu⟩:=Option.isSome_iff_exists.1 this;simp[jn,hj,hu]at hv;rw[hu,hv]
theorem Gl{w:World}{b:Nat}{f:Nat->Nat->Bool}(h:∀k j,k<3->j<80->w.cell? ⟨b,o+k*80+j,none⟩=some (.bool (f k j))):(jn w b o).toArray=gL f/\nG w b o:=by
 have hc:∀q,q<240->w.cell? ⟨b,o+q,none⟩=some (.bool (f (q / 80) (q%80))):=λq hq=>by
  have:=h (q / 80) (q%80) (by omega) (by omega);rw[show o+q / 80*80+q%80=o+q by omega]at this;exact this
 refine⟨?_,λj hj=>by rw[hc j hj];rfl⟩;unfold gL jn;congr 1;refine XI λj hj=>?_;rw[hc j (List.mem_range.1 hj)];rfl
theorem Oi(w:World)(b o:Nat):jn w.drew b o=jn w b o:=rfl
theorem M0(w:World)(b o:Nat):nG w.drew b o=nG w b o:=rfl
theorem aa.II:(aa.prog.info? 34).map (·.size)=some 240:=by kernel_rfl
theorem IL(d:Option Tmp)(x:Operand)(ty:TypeId)(pos:String)(aft:Array Edge)(gd:Option (Nat×Bool))(a:Act)(w:World)(K:Act->World->Prop)(Q:Exit->Act->World->Prop)(h:zg w (a.eval x)):
  Oper.wp aa.prog {dst:=d,op:=.load 34 x,type:=ty,pos:=pos,after:=aft,guard:=gd} a w K Q=K (a.put d (A8 w (a.eval x))) w:=by
 unfold zg at h;split at h
 ·rename_i b o heq;rw[heq,AV];unfold Oper.wp execOp;simp only[heq,Instr.loadAt,Instr.sureAddr,Xt,X2,XJ,Yv w b o 34 (jn w b o) _ (Ly h) aa.underlying34 rfl (by rw[aa.II,En])];rfl
 ·exact h.elim
end Go.Proofs.YtldmcdeibiclkaaGreatDoorQ
namespace Go.Proofs.YtldmcdeibiclkaaGreatDoorQ
variable {K K':aw}{j lv b l:Nat}{x y:ByteArray}{ws:List Wr}{m:Int}{d:Ctx}
section
theorem Ao(h:jl ws){k:Nat}(h1:1<=m):∀i,i<=ws.length->m<=bF (ws.take i) b k->∃(j:Nat) (x:Wr),ws[j]?=some x/\x.1=b/\x.2.1=k/\x.2.2.1=m
 |0,_,h2=>by simp[bF]at h2;omega
 |i+1,hi,h2=>by
  by_cases hm:m<=bF (ws.take i) b k
  ·exact Ao h h1 i (by omega) hm
  ·have hx:ws[i]?=some ws[i]:=List.getElem?_eq_getElem (by omega);rw[Xq (by omega),oq]at h2;have hs:=h i _ hx;by_cases hc:ws[i].1=b/\ws[i].2.1=k
   ·refine⟨i,_,hx,hc.1,hc.2,?_⟩;rw[hs,hc.1,hc.2];simp only[bF,hc,and_self,No]at h2;omega
   ·simp only[bF,hc,Xd]at h2;omega
theorem Good.unique(hS:jl ws){k:Nat}{c:Ctx}{kn:Nat->Bool}(h:Good ws k c kn)(h':Good ws k d kn):c=d:=by
 have key:∀{c d:Ctx},Good ws k c kn->Good ws k d kn->∀b,¬c b<d b:=λ{c d} h h' b hlt=>by
  have h1:=h.2.2 b;have h2:=h'.2.2 b;obtain⟨j,x,hx,e1,e2,e3⟩:=Ao hS (b:=b) (k:=k) (m:=c b+1) (by omega) ws.length (iR _) (by rw[Xx];omega)
  have:=(h'.1 j x hx).2 ⟨e2,by rw[e1,e3];omega⟩
  have:=((h.1 j x hx).1 this).2;rw[e1,e3]at this;omega
 funext b
 have:=key h h' b
 have:=key h' h b;omega
theorem VP{ks:Nat->ByteArray}{g:au}(hI:bz ks g){i:Nat}(hi:i<g.nr)(hj:j<g.nr)(hl:l<3)(hk:g.kn i l=g.kn j l)(hg:g.go i l=g.go j l):g.K i (ks l)=g.K j (ks l):=by
 have h1:=hI.cU i l hi hl;have h2:=hI.cU j l hj hl;rw[hk]at h1;exact Prod.ext (h1.unique hI.eF h2) (by rw[hI.hex i l hi hl,hI.hex j l hj hl,hk,hg])
def RI(K K':aw)(n:Nat):Prop:=∀s,ay s=n->(cF (K s).1↔cF (K' s).1)/\(cF (K s).1->K s=K' s)
theorem SS{n:Nat}(h:RI K K' n):aJ K n=aJ K' n:=by
 have hN:jR K n=jR K' n:=by
  funext L;unfold jR;refine propext ⟨λ⟨h1,h2⟩=>⟨h1,λx=>?_⟩,λ⟨h1,h2⟩=>⟨h1,λx=>?_⟩⟩
  ·rw[h2 x];exact⟨λq=>⟨q.1,(h _ q.1).1.1 q.2⟩,λq=>⟨q.1,(h _ q.1).1.2 q.2⟩⟩
  ·rw[h2 x];exact⟨λq=>⟨q.1,(h _ q.1).1.2 q.2⟩,λq=>⟨q.1,(h _ q.1).1.1 q.2⟩⟩
 have hn:lL K n=lL K' n:=by unfold lL;rw[hN]
 have hr:j5 K n=j5 K' n:=by
  unfold j5;rw[<-hn];by_cases hex: ∃L,jR K n L
  ·obtain⟨L,hL⟩:=hex;rw[wO hL];refine XI λx hx=>?_;obtain⟨h1,h2⟩:=(hL.2 x).1 hx;rw[(h _ h1).2 h2]
  ·have:lL K n= []:=by unfold lL;rw[dif_neg hex]
   rw[this];rfl
 unfold aJ;rw[hr]
def dP(K K':aw)(lv n:Nat):Prop:=aS K lv n≠aS K' lv n
structure kl(K K':aw):Prop where
 leaf:∀n,n<64->aJ K n≠aJ K' n->dP K K' 3 n
 node:∀lv n,lv<3->n<4 ^ lv->(∃i,i<4/\dP K K' (lv+1) (n*4+i))->dP K K' lv n
theorem kl.symm(h:kl K K'):kl K' K:=
 ⟨λn hn e=>(h.leaf n hn e.symm).symm,λlv n hl hn ⟨i,hi,hd⟩=>(h.node lv n hl hn ⟨i,hi,hd.symm⟩).symm⟩
theorem yp(K:aw)(hl:lv<3)(n:Nat):aS K lv n=gJ λj=>aS K (lv+1) (n*4+j):=by
 unfold aS;rw[show 3-lv=(3-(lv+1))+1 by omega,dg]
theorem Sx{n:Nat}(hl:lv<3)(h:dP K K' lv n): ∃i,i<4/\dP K K' (lv+1) (n*4+i):=by
 refine XD λhn=>h ?_;rw[yp K hl,yp K' hl,gJ,gJ,wB 4 λi hi=>?_];exact XD λe=>hn ⟨i,hi,e⟩
open Classical in
noncomputable def bq(K K':aw)(lv:Nat):List Nat:=(List.range (4 ^ lv)).filter λn=>decide (dP K K' lv n)
theorem xq{n:Nat}:n∈bq K K' lv↔n<4 ^ lv/\dP K K' lv n:=by
 simp[bq,List.mem_filter,List.mem_range]
theorem AX(K K':aw)(lv:Nat):bq K K' lv=bq K' K lv:=by
 unfold bq;refine YK λn _=>?_;rw[decide_eq_decide];exact⟨Xl,Xl⟩
theorem IV(m:Nat):List.range (m*4)=(List.range m).flatMap λn=>(List.range 4).map λj=>n*4+j:=by
 induction m with
 |zero=>rfl
 |succ m ih=>
  have e:(m+1)*4=m*4+4:=by omega
  rw[e,List.range_add,ih,XV (n:=m),XU];simp
theorem BX{α β:Type}(p:α->Bool)(f:α->List β):∀l:List α,(∀a∈l,p a=false->f a= [])->(l.filter p).flatMap f=l.flatMap f
 |[],_=>rfl
 |a::l,h=>by
  have ih:=BX p f l λx hx=>h x (by simp[hx]);cases hp:p a with
  |true=>rw[List.filter_cons_of_pos hp,XM,XM,ih]
  |false=>rw[List.filter_cons_of_neg (by rw[hp];simp),ih,XM,h a (by simp) hp,YH]
theorem Aw(hT:kl K K')(hl:lv<3):bJ (aS K (lv+1)) (dZ K' lv (bq K K' lv))=bq K K' (lv+1):=by
 have h1:bJ (aS K (lv+1)) (dZ K' lv (bq K K' lv))=(bq K K' lv).flatMap λn=>((List.range 4).map λj=>n*4+j).filter λc=>Classical.propDecidable (dP K K' (lv+1) c)|>.decide:=by
  unfold bJ dZ;rw[List.flatMap_map];refine k9 _ λn _=>?_;unfold dL;rw[List.filter_map];congr 1;refine YK λj hj=>?_;have hj4:j<4:=List.mem_range.1 hj;simp only[hj4,No,Function.comp];exact decide_eq_decide.2 Iff.rfl
 rw[h1];unfold bq;rw[BX _ _ _ λn hn hp=>?_,XH,IV,uP]
 ·rw[List.filter_eq_nil_iff];intro c hc hd;obtain⟨j,hj,rfl⟩:=XP.1 hc;have hd':dP K K' (lv+1) (n*4+j):=by simpa using hd
  have:=hT.node lv n hl (List.mem_range.1 hn) ⟨j,List.mem_range.1 hj,hd'⟩;simp[this]at hp
theorem WK(hl:lv<3)(h:bq K K' lv≠[]):bq K K' (lv+1)≠[]:=by
 obtain⟨n,hn⟩:=List.exists_mem_of_ne_nil _ h;obtain⟨h1,h2⟩:=xq.1 hn;obtain⟨i,hi,hd⟩:=Sx hl h2;exact List.ne_nil_of_mem (xq.2 ⟨by rw[XH];omega,hd⟩)
theorem FG(h:dP K K' 0 0):bq K K' 0= [0]:=by
 unfold bq;simp[XV,h]
end
section
structure Cv where
 s:Ab
 L:Option Let
 i:Nat
 k:Nat
 bg:Nat
 told:Nat
def touY(m:Nat):Option Let->Nat
 |some (.aK kind sg)=>if kind=83 then sg.length else m
 |_=>m
noncomputable def kx(ks:Nat->ByteArray):Nat->Cv->Cv
 |0,c=>c
 |m+1,c=>match c.L with
  |none=>c
  |some L=>kx ks m ⟨c.s.ag ks c.i c.k L,cQ (c.s.K c.i) L,c.k,c.i,(if (cQ (c.s.K c.i) L).isSome then c.bg+1 else c.bg),touY c.told (cQ (c.s.K c.i) L)⟩
theorem xm(ks:Nat->ByteArray)(m:Nat)(s:Ab)(i k bg told:Nat):kx ks m ⟨s,none,i,k,bg,told⟩=⟨s,none,i,k,bg,told⟩:=by
 cases m with
 |zero=>rw[kx]
 |succ m=>rw[kx]
theorem mC(ks:Nat->ByteArray)(m:Nat)(s:Ab)(L:Let)(i k bg told:Nat):kx ks (m+1) ⟨s,some L,i,k,bg,told⟩=kx ks m ⟨s.ag ks i k L,cQ (s.K i) L,k,i,(if (cQ (s.K i) L).isSome then bg+1 else bg),touY told (cQ (s.K i) L)⟩:=by
 rw[kx]
theorem sK(ks:Nat->ByteArray)(s:Ab)(i k:Nat){L:Let}(h:∀kind sg,L≠.aK kind sg):s.ag ks i k L=s:=by
 have h1:ir (s.K i) L=s.K i:=by
  cases L with
  |aK kind sg=>exact absurd rfl (h kind sg)
  |_=>rfl
 have h2:cG ks L=λ_=>false:=by
  funext l;cases L with
  |aK kind sg=>exact absurd rfl (h kind sg)
  |_=>rfl
 unfold Ab.ag;rw[h1,h2];have h3:∀(a b:Nat->Nat->Bool),cO (λ_=>false) 3 a b=a:=λa b=>by funext l q;simp[cO]
 simp only[h3];cases s with
 |mk K kn go=>
  congr 1
  ·funext j;split
   ·rename_i e;rw[e]
   ·rfl
  ·funext j l q;split
   ·rename_i e;rw[e]
   ·rfl
  ·funext j l q;split
   ·rename_i e;rw[e]
   ·rfl
section
variable {ks:Nat->ByteArray}{s:Ab}{i k:Nat}
theorem KY(h: ¬dP (s.K i) (s.K k) 0 0):kx ks 9 ⟨s,some (.root (aS (s.K k) 0 0)),i,k,1,0⟩=⟨s,none,k,i,1,0⟩:=by
 have e:cQ (s.K i) (.root (aS (s.K k) 0 0))=none:=by
  simp only[cQ];rw[AS];exact (XD λq=>h λe=>q e.symm)
 have h1:=sK ks s i k (L:=.root (aS (s.K k) 0 0)) (λ_ _ h=>by cases h);generalize Let.root (aS (s.K k) 0 0)=L1 at*;rw[mC ks 8,e,h1,xm];simp only[Option.isSome_none,Xf,Xd,touY]
theorem SX(hT:kl (s.K i) (s.K k))(h:dP (s.K i) (s.K k) 0 0):
  kx ks 9 ⟨s,some (.root (aS (s.K k) 0 0)),i,k,1,0⟩=⟨(s.ag ks i k (.aK 83 (cE (s.K k) (bq (s.K i) (s.K k) 3)))).ag ks k i (.aK 84 (cE (cm (s.K i) (cE (s.K k) (bq (s.K i) (s.K k) 3))) (bq (s.K i) (s.K k) 3))),none,i,k,6,(bq (s.K i) (s.K k) 3).length⟩:=by
 have hne:∀lv,lv<=3->bq (s.K i) (s.K k) lv≠[]:=λlv hl=>by
  induction lv with
  |zero=>rw[FG h];simp
  |succ lv ih=>exact WK (by omega) (ih (by omega))
 have e1:cQ (s.K i) (.root (aS (s.K k) 0 0))=some (.nodes 0 (dZ (s.K i) 0 (bq (s.K i) (s.K k) 0))):=by
  simp only[cQ];rw[AI λe=>h e.symm,FG h]
 have f1:∀lv,lv<3->bJ (aS (s.K k) (lv+1)) (dZ (s.K i) lv (bq (s.K i) (s.K k) lv))=bq (s.K i) (s.K k) (lv+1):=λlv hl=>by
  rw[AX (s.K i) (s.K k) lv,AX (s.K i) (s.K k) (lv+1)];exact Aw hT.symm hl
 have f0:∀lv,lv<3->bJ (aS (s.K i) (lv+1)) (dZ (s.K k) lv (bq (s.K i) (s.K k) lv))=bq (s.K i) (s.K k) (lv+1):=λlv hl=>Aw hT hl;have e2:cQ (s.K k) (.nodes 0 (dZ (s.K i) 0 (bq (s.K i) (s.K k) 0)))=some (.nodes 1 (dZ (s.K k) 1 (bq (s.K i) (s.K k) 1))):=by
  simp only[cQ,f1 0 (by omega)];rw[AI (hne 1 (by omega)),AI (by omega)]
 have e3:cQ (s.K i) (.nodes 1 (dZ (s.K k) 1 (bq (s.K i) (s.K k) 1)))=some (.nodes 2 (dZ (s.K i) 2 (bq (s.K i) (s.K k) 2))):=by
  simp only[cQ,f0 1 (by omega)];rw[AI (hne 2 (by omega)),AI (by omega)]
 have e4:cQ (s.K k) (.nodes 2 (dZ (s.K i) 2 (bq (s.K i) (s.K k) 2)))=some (.aK 83 (cE (s.K k) (bq (s.K i) (s.K k) 3))):=by
  simp only[cQ,f1 2 (by omega)];rw[AI (hne 3 (by omega)),No]
 have hm:(cE (s.K k) (bq (s.K i) (s.K k) 3)).map (·.1)=bq (s.K i) (s.K k) 3:=by rw[cE,Yd];show (bq (s.K i) (s.K k) 3).map (λn=>n)=_;rw[List.map_id']
 have e5:cQ (s.K i) (.aK 83 (cE (s.K k) (bq (s.K i) (s.K k) 3)))=some (.aK 84 (cE (cm (s.K i) (cE (s.K k) (bq (s.K i) (s.K k) 3))) (bq (s.K i) (s.K k) 3))):=by
  simp only[cQ,hm];rw[AI (by omega)]
 have hl:(cE (s.K k) (bq (s.K i) (s.K k) 3)).length=(bq (s.K i) (s.K k) 3).length:=Xn ..;have h1:=sK ks s i k (L:=.root (aS (s.K k) 0 0)) (λ_ _ h=>by cases h);have h2:=sK ks s k i (L:=.nodes 0 (dZ (s.K i) 0 (bq (s.K i) (s.K k) 0))) (λ_ _ h=>by cases h);have h3:=sK ks s i k (L:=.nodes 1 (dZ (s.K k) 1 (bq (s.K i) (s.K k) 1))) (λ_ _ h=>by cases h);have h4:=sK ks s k i (L:=.nodes 2 (dZ (s.K i) 2 (bq (s.K i) (s.K k) 2))) (λ_ _ h=>by cases h);have t2:∀m,touY m (some (.nodes 0 (dZ (s.K i) 0 (bq (s.K i) (s.K k) 0))))=m:=λm=>by simp only[touY]
 have t3:∀m,touY m (some (.nodes 1 (dZ (s.K k) 1 (bq (s.K i) (s.K k) 1))))=m:=λm=>by simp only[touY]
 have t4:∀m,touY m (some (.nodes 2 (dZ (s.K i) 2 (bq (s.K i) (s.K k) 2))))=m:=λm=>by simp only[touY]
 have t5:∀m,touY m (some (.aK 83 (cE (s.K k) (bq (s.K i) (s.K k) 3))))=(bq (s.K i) (s.K k) 3).length:=λm=>by simp only[touY,No,hl]
 have t6:∀m,touY m (some (.aK 84 (cE (cm (s.K i) (cE (s.K k) (bq (s.K i) (s.K k) 3))) (bq (s.K i) (s.K k) 3))))=m:=λm=>by simp[touY]
 have e6:∀K,cQ K (.aK 84 (cE (cm (s.K i) (cE (s.K k) (bq (s.K i) (s.K k) 3))) (bq (s.K i) (s.K k) 3)))=none:=λK=>by simp[cQ]
 clear hm hl hne f0 f1;generalize Let.root (aS (s.K k) 0 0)=L1 at*;generalize Let.nodes 0 (dZ (s.K i) 0 (bq (s.K i) (s.K k) 0))=L2 at*;generalize Let.nodes 1 (dZ (s.K k) 1 (bq (s.K i) (s.K k) 1))=L3 at*;generalize Let.nodes 2 (dZ (s.K i) 2 (bq (s.K i) (s.K k) 2))=L4 at*;generalize Let.aK 84 (cE (cm (s.K i) (cE (s.K k) (bq (s.K i) (s.K k) 3))) (bq (s.K i) (s.K k) 3))=L6 at*;generalize Let.aK 83 (cE (s.K k) (bq (s.K i) (s.K k) 3))=L5 at*;generalize (bq (s.K i) (s.K k) 3).length=n at*;rw[mC ks 8,e1,h1,t2,mC ks 7,e2,h2,t3,mC ks 6,e3,h3,t4,mC ks 5,e4,h4,t5,mC ks 4,e5,t6,mC ks 3,e6,xm];simp only[Option.isSome_some,No,Option.isSome_none,Xf,Xd,touY]
end
end
theorem BM(K:aw)(ns:List Nat):(cE K ns).map (·.1)=ns:=by rw[cE,Yd];show ns.map (λn=>n)=ns;rw[List.map_id']
section
theorem rZ{a b:ByteArray}(h:a++x=b++y)(hs:a.size=b.size):a=b/\x=y:=by
 have h1:=sZ a x;have h2:=tZ a x;rw[h,hs]at h1 h2;exact⟨h1.symm.trans (sZ b y),h2.symm.trans (tZ b y)⟩
theorem zu{n:Int}(h:cz m++x=cz n++y)(hm:0<=m/\m<4294967296)(hn:0<=n/\n<4294967296):m=n/\x=y:=by
 obtain⟨h1,h2⟩:=rZ h rfl;exact⟨by rw[<-xM m hm.1 hm.2,h1,xM n hn.1 hn.2],h2⟩
theorem EH{m n:Nat}(h:ax m++x=ax n++y)(hm:m<256)(hn:n<256):m=n/\x=y:=by
 obtain⟨h1,h2⟩:=rZ h rfl;have h3:be (ax m)=be (ax n):=by rw[h1]
 rw[ud,ud]at h3;exact⟨by omega,h2⟩
theorem C2{s t:ByteArray}(h:dJ s++x=dJ t++y)(hs:s.size<256)(ht:t.size<256):s=t/\x=y:=by
 rw[dJ,dJ,bY,bY]at h;obtain⟨h1,h2⟩:=EH h hs ht;exact rZ h2 h1
theorem Hr{c:Ctx}(hc:∀i,i<4->0<=c i/\c i<4294967296)(hd:∀i,i<4->0<=d i/\d i<4294967296):∀{m:Nat} {x y:ByteArray},m<=4->gT c m++x=gT d m++y->(∀i,i<m->c i=d i)/\x=y
 |0,x,y,_,h=>⟨λi hi=>by omega,(rZ h rfl).2⟩
 |m+1,x,y,hm,h=>by
  rw[gT,gT,bY,bY]at h;obtain⟨h1,h2⟩:=Hr hc hd (by omega) h;obtain⟨h3,h4⟩:=zu h2 (hc m (by omega)) (hd m (by omega));refine⟨λi hi=>?_,h4⟩;by_cases e:i=m
  ·rw[e,h3]
  ·exact h1 i (by omega)
theorem Gq:∀{l l':List aj},(∀v∈l,sT v)->(∀v∈l',sT v)->l.length=l'.length->eO l++x=eO l'++y->l=l'/\x=y
 |[],[],_,_,_,h=>⟨rfl,(rZ h rfl).2⟩
 |u::l,v::l',hu,hv,e,h=>by
  obtain⟨u1,u2,u3,u4⟩:=hu u (by simp);obtain⟨v1,v2,v3,v4⟩:=hv v (by simp);simp only[eO,fT,bY]at h;obtain⟨e1,h1⟩:=EH h u1 v1;obtain⟨e2,h2⟩:=zu h1 ⟨u2,u3⟩ ⟨v2,v3⟩;obtain⟨e3,h3⟩:=C2 h2 u4 v4;obtain⟨e4,h4⟩:=Gq (λw hw=>hu w (by simp[hw])) (λw hw=>hv w (by simp[hw])) (by simpa using e) h3;exact⟨by rw[e4,show u=v from Prod.ext e1 (Prod.ext e2 e3)],h4⟩
theorem Bw:∀{l l':List ai},(∀r∈l,qX r.1 r.2.1 r.2.2)->(∀r∈l',qX r.1 r.2.1 r.2.2)->dS l=dS l'->∀r∈l,∃r'∈l',r'.1=r.1/\(∀i,i<4->r.2.1 i=r'.2.1 i)/\r.2.2=r'.2.2
 |[],_,_,_,_,r,hr=>by cases hr
 |r::l,[],_,_,h,_,_=>by
  have:=congrArg ByteArray.size h;simp only[dS,dc,IS,rh,ByteArray.size_empty]at this;omega
 |r::l,r'::l',h1,h2,h,q,hq=>by
  obtain⟨a1,a2,a3,a4⟩:=h1 r (by simp);obtain⟨b1,b2,b3,b4⟩:=h2 r' (by simp);simp only[dS,dc,kr,EN,bY]at h;obtain⟨e1,g1⟩:=C2 h a1 b1;obtain⟨e2,g2⟩:=Hr a2 b2 (iR 4) g1;obtain⟨e3,g3⟩:=zu g2 ⟨by omega,by omega⟩ ⟨by omega,by omega⟩;obtain⟨e4,g4⟩:=Gq a4 b4 (by omega) g3;rcases YQ.1 hq with rfl|hq
  ·exact⟨r',by simp,e1.symm,e2,e4⟩
  ·obtain⟨p,hp,hx⟩:=Bw (λr hr=>h1 r (by simp[hr])) (λr hr=>h2 r (by simp[hr])) g4 q hq;exact⟨p,by simp[hp],hx⟩
section
variable {w:World}{g g':au}{ks:Nat->ByteArray}
theorem zh(hR:lM w g)(hI:bz ks g){i n:Nat}(hi:i<g.nr)(hj:j<g.nr)(hn:n<64)(ht:aJ (g.K i) n=aJ (g.K j) n){s:ByteArray}(hs:ay s=n)(hk:cF (g.K i s).1):(∀b,b<4->(g.K i s).1 b=(g.K j s).1 b)/\(g.K i s).2=(g.K j s).2:=by
 have fit:∀{i},i<g.nr->∀r∈j5 (g.K i) n,qX r.1 r.2.1 r.2.2:=λ{i} hi r hr=>by
  have:=qM hR hI hi (L:=.aK 83 (cE (g.K i) [n])) ⟨.inl rfl,[n],by simp,by simpa using hn,by simp,rfl⟩;obtain⟨h1,h2,h3,_⟩:=(this.2.num (n,j5 (g.K i) n) (by simp[cE])).2.snd r hr;exact h1.fit h2 h3
 rw[aJ,aJ,rQ,rQ]at ht;obtain⟨r,hr,e1,e2,e3⟩:=Bw (fit hi) (fit hj) ht (s,g.K i s) ((rX (hR i hi).kB hn).2 ⟨hs,hk,rfl⟩);have h3:=((rX (hR j hj).kB hn).1 hr).2.2;rw[h3,e1]at e2 e3;exact⟨e2,e3⟩
theorem Dz{c:Ctx}(h: ¬cF c)(hb:b<4):c b=0:=XD λe=>h ⟨b,hb,e⟩
theorem Nb(hR:lM w g)(hI:bz ks g){i:Nat}(hi:i<g.nr)(hj:j<g.nr)(hl:l<3)(ht:aJ (g.K i) (ay (ks l))=aJ (g.K j) (ay (ks l))):g.kn i l=g.kn j l/\g.go i l=g.go j l:=by
 have hn:=eU (ks l);have hc:∀b,b<4->(g.K i (ks l)).1 b=(g.K j (ks l)).1 b:=λb hb=>by
  by_cases h1:cF (g.K i (ks l)).1
  ·exact (zh hR hI hi hj hn ht rfl h1).1 b hb
  ·by_cases h2:cF (g.K j (ks l)).1
   ·exact ((zh hR hI hj hi hn ht.symm rfl h2).1 b hb).symm
   ·rw[Dz h1 hb,Dz h2 hb]
 have aV:g.kn i l=g.kn j l:=by
  funext q;have g1:=hI.cU i l hi hl;have g2:=hI.cU j l hj hl;cases hx:g.ws[q]? with
  |none=>rw[g1.2.1 q (List.getElem?_eq_none_iff.1 hx),g2.2.1 q (List.getElem?_eq_none_iff.1 hx)]
  |some x=>rw[Bool.eq_iff_iff,g1.1 q x hx,g2.1 q x hx,hc _ (hI.dq x (List.mem_of_getElem? hx))]
 have key:∀{i j},i<g.nr->j<g.nr->aJ (g.K i) (ay (ks l))=aJ (g.K j) (ay (ks l))->g.kn i l=g.kn j l->∀q,g.go i l q=true->g.go j l q=true:=λ{i j} hi hj ht aV q hq=>by
  refine XD λhno=>?_;have h1:=hI.dH i l q hi hl hq;have g1:=hI.cU i l hi hl;cases hx:g.ws[q]? with
  |none=>rw[g1.2.1 q (List.getElem?_eq_none_iff.1 hx)]at h1;cases h1
  |some x=>
   obtain⟨e1,e2⟩:=(g1.1 q x hx).1 h1;have dq:=hI.dq x (List.mem_of_getElem? hx);have hs:=hI.eF q x hx;have h0:=qw (g.ws.take q) x.1 x.2.1;have hv:=(zh hR hI hi hj hn ht rfl ⟨x.1,dq,by omega⟩).2;rw[hI.hex i l hi hl,hI.hex j l hj hl]at hv;have hin:(x.1,x.2.2.1,x.2.2.2)∈expected g.ws (g.kn j l) (g.go j l) l:=by
    rw[expected,YM];refine⟨x.1,List.mem_range.2 dq,?_⟩;have hq:=(List.getElem?_eq_some_iff.1 hx).1;have hp:=Bz g.ws (g.kn j l) (g.go j l) l x.1 (show q+1<=g.ws.length from hq);rw[rz hx e1 rfl (by rw[<-aV];exact h1) (by simpa using hno)]at hp;exact hp.subset (by simp)
   rw[<-hv,expected,YM]at hin;obtain⟨b,_,hb⟩:=hin;obtain⟨p,y,hp,hy,y1,y2,y3,y4,y5⟩:=pY hb;injection y5 with z1 z2;injection z2 with z2 z3;have hN:=hI.eF.num;have hpq:p=q:=by
    rcases Nat.lt_trichotomy p q with h|h|h
    ·have:=hN p q y x h hy hx (by rw[y2,z1]) (by rw[y1,e1]);omega
    ·exact h
    ·have:=hN q p x y h hx hy (by rw[y2,z1]) (by rw[y1,e1]);omega
   rw[hpq,hq]at y4;cases y4
 refine⟨aV,funext λq=>Bool.eq_iff_iff.2 ⟨key hi hj ht aV q,key hj hi ht.symm aV.symm q⟩⟩
theorem QV(hI:bz ks g){i:Nat}(hi:i<g.nr)(hj:j<g.nr)(h:∀l,l<3->g.kn i l=g.kn j l/\g.go i l=g.go j l)(n:Nat):aJ (g.K i) n=aJ (g.K j) n:=by
 have hkey:∀l,l<3->g.K i (ks l)=g.K j (ks l):=λl hl=>VP hI hi hj hl (h l hl).1 (h l hl).2;refine SS λs hs=>⟨⟨λh=>?_,λh=>?_⟩,λh=>?_⟩
 ·obtain⟨l,hl,rfl⟩:=hI.fx i hi s h;rw[<-hkey l hl];exact h
 ·obtain⟨l,hl,rfl⟩:=hI.fx j hj s h;rw[hkey l hl];exact h
 ·obtain⟨l,hl,rfl⟩:=hI.fx i hi s h;exact hkey l hl
theorem C0(ks:Nat->ByteArray):∀(m:Nat) (s:Ab) (i k:Nat) (oL:Option Let) (a b:Nat),kE ks m s i k oL=(kx ks m ⟨s,oL,i,k,a,b⟩).s
 |0,s,i,k,oL,a,b=>by rw[kE,kx]
 |m+1,s,i,k,none,a,b=>by rw[Ai,xm]
 |m+1,s,i,k,some L,a,b=>by rw[mC,kE];exact C0 ks m _ _ _ _ _ _
theorem Sg(hR:lM w g)(hI:bz ks g){a:Nat}(ha:a<g.nr)(hb:b<g.nr)(hab:a≠b)(hT:kl (g.K a) (g.K b))(e:g'.ab=kE ks 9 g.ab a b (some (.root (aS (g.K b) 0 0))))(hl:l<3)(j q:Nat):
  g'.kn j l q=(if j=a\/j=b then g.kn a l q||g.kn b l q else g.kn j l q)/\g'.go j l q=(if j=a\/j=b then g.go a l q||g.go b l q else g.go j l q):=by
 have stay:aJ (g.K a) (ay (ks l))=aJ (g.K b) (ay (ks l))->g'.kn j l q=g.kn j l q->g'.go j l q=g.go j l q->g'.kn j l q=(if j=a\/j=b then g.kn a l q||g.kn b l q else g.kn j l q)/\g'.go j l q=(if j=a\/j=b then g.go a l q||g.go b l q else g.go j l q):=λht h1 h2=>by
  obtain⟨e1,e2⟩:=Nb hR hI ha hb hl ht;rw[h1,h2,e1,e2,Bool.or_self,Bool.or_self];split
  ·rename_i hj;rcases hj with rfl|rfl
   ·rw[e1,e2];exact⟨rfl,rfl⟩
   ·exact⟨rfl,rfl⟩
  ·exact⟨rfl,rfl⟩
 have hn:=eU (ks l);rw[C0 ks 9 g.ab a b _ 1 0]at e;by_cases h:dP (g.K a) (g.K b) 0 0
 ·rw[SX (ks:=ks) (s:=g.ab) hT h]at e;have ekn:g'.kn=_:=congrArg Ab.kn e;have ego:g'.go=_:=congrArg Ab.go e;by_cases hd:ay (ks l)∈bq (g.K a) (g.K b) 3
  ·have ht:∀kind K,cG ks (.aK kind (cE K (bq (g.K a) (g.K b) 3))) l=true:=λkind K=>by
    simp only[cG,BM];exact YD hd
   have ne:=hab.symm;rw[ekn,ego];by_cases h1:j=a
   ·subst h1;simp[Ab.ag,cO,ht,hl,hab,au.ab]
   ·by_cases h2:j=b
    ·subst h2;simp[Ab.ag,cO,ht,hl,h1,au.ab];cases g.kn a l q<;>cases g.kn j l q<;>cases g.go a l q<;>cases g.go j l q<;>simp
    ·simp[Ab.ag,h1,h2,au.ab]
  ·have ht:∀kind K,cG ks (.aK kind (cE K (bq (g.K a) (g.K b) 3))) l=false:=λkind K=>by
    simp only[cG,BM];exact YN hd
   refine stay (XD λh=>hd (xq.2 ⟨hn,hT.leaf _ hn h⟩)) ?_ ?_
   ·rw[ekn];by_cases h1:j=b<;>by_cases h2:j=a<;>simp[Ab.ag,cO,ht,h1,h2,hab,hab.symm,au.ab]
   ·rw[ego];by_cases h1:j=b<;>by_cases h2:j=a<;>simp[Ab.ag,cO,ht,h1,h2,hab,hab.symm,au.ab]
 ·rw[KY (ks:=ks) (s:=g.ab) h]at e;have ekn:g'.kn=g.kn:=congrArg Ab.kn e;have ego:g'.go=g.go:=congrArg Ab.go e;have up:∀lv n,lv<3->n<4 ^ (lv+1)->dP (g.K a) (g.K b) (lv+1) n->dP (g.K a) (g.K b) lv (n / 4):=λlv n hl hn hd=>by
   rw[XH]at hn;exact hT.node lv (n / 4) hl (by omega) ⟨n%4,by omega,by rwa [show n / 4*4+n%4=n by omega]⟩
  refine stay (XD λhne=>h ?_) (by rw[ekn]) (by rw[ego]);have h2:=up 2 _ (by omega) hn (hT.leaf _ hn hne);have h1:=up 1 _ (by omega) (by show _<16;omega) h2;have h0:=up 0 _ (by omega) (by show _<4;omega) h1;rwa [show ay (ks l) / 4 / 4 / 4=0 by omega]at h0
end
structure Ring(n i:Nat)(V v:Nat->Bool):Prop where
 le:∀j,j<n->v j=true->∃k,k<n/\V k=true
 ge:∀j,j<n->V j=true->v j=true
 up:i<n->∀j,j<=i->V j=true->v i=true
 all:∀m,n<=m+1->m<=i->(∃k,k<n/\V k=true)->v (m%n)=true
theorem Ring.start{n:Nat}(h:2<=n)(V:Nat->Bool):Ring n 0 V V:=
 ⟨λj hj h=>⟨j,hj,h⟩,λ_ _ h=>h,λ_ j hj h=>by rwa [show j=0 by omega]at h,λm h1 h2=>by omega⟩
theorem Ring.step{n i:Nat}{V v v':Nat->Bool}(h:Ring n i V v)(hn:2<=n)(hv:∀j,v' j=if j=i%n\/j=(i+1)%n then v (i%n)||v ((i+1)%n) else v j):Ring n (i+1) V v':=by
 have l1:=Nat.mod_lt i (show 0<n by omega);have l2:=Nat.mod_lt (i+1) (show 0<n by omega);have mono:∀j,v j=true->v' j=true:=λj hj=>by
  rw[hv];split
  ·rename_i e;rcases e with rfl|rfl<;>simp[hj]
  ·exact hj
 have two:v (i%n)=true\/v ((i+1)%n)=true->v' ((i+1)%n)=true:=λh=>by
  rw[hv,AS (.inr rfl)];rcases h with h|h<;>simp[h]
 refine⟨λj hj hx=>?_,λj hj hx=>mono j (h.ge j hj hx),λhi j hj hx=>?_,λm h1 h2 hx=>?_⟩
 ·rw[hv]at hx;split at hx
  ·rcases (Xw _ _).mp hx with hx|hx
   ·exact h.le _ l1 hx
   ·exact h.le _ l2 hx
  ·exact h.le j hj hx
 ·have e1:=Nat.mod_eq_of_lt hi;have e0:=Nat.mod_eq_of_lt (show i<n by omega);rw[e1,e0]at two;by_cases e:j=i+1
  ·subst e;exact mono _ (h.ge _ hi hx)
  ·exact two (.inl (h.up (by omega) j (by omega) hx))
 ·by_cases e:m=i+1
  ·subst e;refine two ?_;by_cases hin:n<=i+1
   ·exact .inl (h.all i hin (iR _) hx)
   ·obtain⟨k,hk,hV⟩:=hx;rw[Nat.mod_eq_of_lt (show i<n by omega),Nat.mod_eq_of_lt (show i+1<n by omega)];by_cases ek:k=i+1
    ·subst ek;exact .inr (h.ge _ hk hV)
    ·exact .inl (h.up (by omega) k (by omega) hV)
  ·exact mono _ (h.all m h1 (by omega) hx)
theorem Ring.done{n:Nat}{V v:Nat->Bool}(h:Ring n (2*n) V v){i:Nat}(hi:i<n)(hj:j<n):v i=v j:=by
 have key:∀{i j},i<n->j<n->v i=true->v j=true:=λ{i j} hi hj hx=>by
  have:=h.all (n+j) (by omega) (by omega) (h.le i hi hx);rwa [Nat.add_mod_left,Nat.mod_eq_of_lt hj]at this
 exact Bool.eq_iff_iff.2 ⟨key hi hj,key hj hi⟩
structure mw(g0:au)(i:Nat)(g:au):Prop where
 nr:g.nr=g0.nr
 kn:∀l q,l<3->Ring g.nr i (λj=>g0.kn j l q) (λj=>g.kn j l q)
 go:∀l q,l<3->Ring g.nr i (λj=>g0.go j l q) (λj=>g.go j l q)
theorem mw.start{g:au}(h:2<=g.nr):mw g 0 g:=⟨rfl,λ_ _ _=>.start h _,λ_ _ _=>.start h _⟩
theorem mw.step{w:World}{ks:Nat->ByteArray}{g0 g g':au}{i a b:Nat}(h:mw g0 i g)(hn:2<=g.nr)(hR:lM w g)(hI:bz ks g)(bA:g'.nr=g.nr)(hab:(a=i%g.nr/\b=(i+1)%g.nr)\/(b=i%g.nr/\a=(i+1)%g.nr))(hne:a≠b)(hT:kl (g.K a) (g.K b))(e:g'.ab=kE ks 9 g.ab a b (some (.root (aS (g.K b) 0 0)))):mw g0 (i+1) g':=by
 have l1:=Nat.mod_lt i (show 0<g.nr by omega);have l2:=Nat.mod_lt (i+1) (show 0<g.nr by omega);have hJ:=λ{l} hl j q=>Sg hR hI (a:=a) (b:=b) (l:=l) (by omega) (by omega) hne hT e hl j q;refine⟨bA.trans h.nr,λl q hl=>?_,λl q hl=>?_⟩
 ·rw[bA];refine (h.kn l q hl).step hn λj=>?_;rw[(hJ hl j q).1];rcases hab with⟨rfl,rfl⟩|⟨rfl,rfl⟩
  ·rfl
  ·rw[Bool.or_comm];simp only[Or.comm]
 ·rw[bA];refine (h.go l q hl).step hn λj=>?_;rw[(hJ hl j q).2];rcases hab with⟨rfl,rfl⟩|⟨rfl,rfl⟩
  ·rfl
  ·rw[Bool.or_comm];simp only[Or.comm]
theorem mw.done{ks:Nat->ByteArray}{g0 g:au}(h:mw g0 (2*g.nr) g)(hI:bz ks g){i:Nat}(hi:i<g.nr)(hj:j<g.nr)(n:Nat):aJ (g.K i) n=aJ (g.K j) n:=
 QV hI hi hj (λl hl=>⟨funext λq=>(h.kn l q hl).done hi hj,funext λq=>(h.go l q hl).done hi hj⟩) n
end
end Go.Proofs.YtldmcdeibiclkaaGreatDoorQ
namespace Go.Proofs.YtldmcdeibiclkaaGreatDoorQ
variable {F F':Nat->Int}{G G':Nat->ByteArray}{W W':World}{k N q b l:Nat}{t:TypeId}
open Go.RowKit
section
open Go.Lib (strCells strCells_length strCells_oneCell)
def bw(F:Nat->Int):Array Value:=((List.range 256).map λq=>Value.int .u64 (F q)).toArray
def bM(G:Nat->ByteArray):Array Value:=((List.range 64).map λq=>Value.string (G q)).toArray
theorem ki(F:Nat->Int):(bw F).size=256:=by simp[bw]
theorem jF(G:Nat->ByteArray):(bM G).size=64:=by simp[bM]
theorem l9(h:q<256):(bw F)[q]?=some (.int .u64 (F q)):=by simp[bw,h]
theorem xX(h:q<64):(bM G)[q]?=some (.string (G q)):=by simp[bM,h]
theorem vz(h:∀q,q<256->F q=F' q):bw F=bw F':=by
 unfold bw;rw[XI λq hq=>by rw[h q (List.mem_range.1 hq)]]
theorem zM(h:∀q,q<64->G q=G' q):bM G=bM G':=by
 unfold bM;rw[XI λq hq=>by rw[h q (List.mem_range.1 hq)]]
theorem map_set{α:Type}(f:Nat->α)(n k:Nat)(v:α):((List.range n).map f).toArray.setIfInBounds k v=((List.range n).map λq=>if q=k then v else f q).toArray:=by
 apply Array.ext_getElem?;intro j;rw[Array.getElem?_setIfInBounds];by_cases hj:j<n
 ·by_cases e:k=j
  ·subst e;simp[hj]
  ·rw[AI e];have e': ¬j=k:=λq=>e q.symm;simp[hj,e']
 ·have h1:((List.range n).map f).toArray[j]?=none:=by simp;omega
  have h2:((List.range n).map λq=>if q=k then v else f q).toArray[j]?=none:=by simp;omega
  rw[h1,h2];by_cases e:k=j
  ·subst e;rw[AS rfl,AI (by simpa using hj)]
  ·rw[AI e]
theorem Ty(v:Int):(bw F).setIfInBounds k (.int .u64 v)=bw λq=>if q=k then v else F q:=by
 unfold bw;rw[map_set];congr 1;refine XI λq _=>?_;by_cases e:q=k
 ·simp[e]
 ·simp[e]
theorem Ol(v:ByteArray):(bM G).setIfInBounds k (.string v)=bM λq=>if q=k then v else G q:=by
 unfold bM;rw[map_set];congr 1;refine XI λq _=>?_;by_cases e:q=k
 ·simp[e]
 ·simp[e]
theorem aa.NO:(aa.prog.info? 88).map (·.zero)=some (some (.agg (bw λ_=>0))):=by kernel_rfl
theorem aa.D8(w:World):(zeroValue 88).run aa.prog w=.ok (.agg (bw λ_=>0)) w:=pc aa.NO w
theorem aa.Ig:(aa.prog.info? 89).map (·.zero)=some (some (.agg (bM λ_=>⟨#[]⟩))):=by kernel_rfl
theorem aa.FF(w:World):(zeroValue 89).run aa.prog w=.ok (.agg (bM λ_=>⟨#[]⟩)) w:=pc aa.Ig w
theorem aa.zZ:(aa.prog.info? 88).map (·.size)=some 256:=by kernel_rfl
theorem aa.Aa:(aa.prog.info? 89).map (·.size)=some 64:=by kernel_rfl
def kg(N:Nat)(w:World)(b o:Nat):List Value:=(List.range N).map λj=>(w.cell? ⟨b,o+j,none⟩).getD undef
def kB(N:Nat)(w:World)(b o:Nat):Prop:=∀j,j<N->(w.cell? ⟨b,o+j,none⟩).isSome=true
def sa(N:Nat)(w:World):Value->Prop
 |.pointer (some ⟨b,o,none⟩)=>kB N w b o
 |_=>False
def uY(N:Nat)(w:World):Value->Value
 |.pointer (some ⟨b,o,none⟩)=>.agg (kg N w b o).toArray
 |_=>undef
theorem JN(N:Nat)(w:World)(b o:Nat):sa N w (.pointer (some ⟨b,o,none⟩))=kB N w b o:=rfl
theorem CF(N:Nat)(w:World)(b o:Nat):uY N w (.pointer (some ⟨b,o,none⟩))=.agg (kg N w b o).toArray:=rfl
theorem UL(N:Nat)(w:World)(b o:Nat):kg N w.drew b o=kg N w b o:=rfl
theorem S4(N:Nat)(w:World)(b o:Nat):kB N w.drew b o=kB N w b o:=rfl
theorem ye{w:World}{C:Array Value}{fr:Nat×Nat}(h:w.heap[b]?=some (.cells C t fr))(hC:C.size=N):(kg N w b 0).toArray=C/\kB N w b 0:=by
 have hc:∀j,w.cell? ⟨b,0+j,none⟩=C[j]? :=λj=>by simp[World.cell?,h]
 refine⟨?_,λj hj=>by rw[hc,Array.getElem?_eq_getElem (by omega)];rfl⟩;apply Array.ext_getElem?;intro j;by_cases hj:j<N
 ·have:C[j]?=some C[j]:=Array.getElem?_eq_getElem (by omega);simp[kg,hj,World.cell?,h,this]
 ·rw[Array.getElem?_eq_none (by simp[kg];omega),Array.getElem?_eq_none (by omega)]
theorem Ht(T:TypeId){u:TypeDesc}(hu:aa.prog.underlying T=some u)(hg:u.isRow=true)(hs:(aa.prog.info? T).map (·.size)=some N)(d:Option Tmp)(x:Operand)(ty:TypeId)(pos:String)(aft:Array Edge)(gd:Option (Nat×Bool))(a:Act)(w:World)(K:Act->World->Prop)(Q:Exit->Act->World->Prop)(h:sa N w (a.eval x)):
  Oper.wp aa.prog {dst:=d,op:=.load T x,type:=ty,pos:=pos,after:=aft,guard:=gd} a w K Q=K (a.put d (uY N w (a.eval x))) w:=by
 unfold sa at h;split at h
 ·rename_i b o heq;have hr:w.rangeAt b o (kg N w b o):=λj v hv=>by
   have hj:j<N:=by have:=(List.getElem?_eq_some_iff.1 hv).1;simpa[kg] using this
   obtain⟨z,hz⟩:=Option.isSome_iff_exists.1 (h j hj);simp[kg,hj,hz]at hv;rw[hz,hv]
  rw[heq,CF];unfold Oper.wp execOp;simp only[heq,Instr.loadAt,Instr.sureAddr,Xt,X2,XJ,Yv w b o T (kg N w b o) _ hr hu hg (by rw[hs];simp[kg])];rfl
 ·exact h.elim
def pq(N:Nat)(w:World)(b o:Nat)(cs:Array Value):Prop:=w.there b o N/\cs.size=N/\cs.all (·.oneCell')=true
def qQ(N:Nat)(w:World):Value->Value->Prop
 |.pointer (some ⟨b,o,none⟩),.agg cs=>pq N w b o cs
 |_,_=>False
def uD(w:World):Value->Value->World
 |.pointer (some ⟨b,o,none⟩),.agg cs=>w.setCells b o cs.toList
 |_,_=>w
theorem Hu(N:Nat)(w:World)(b o:Nat)(cs:Array Value):qQ N w (.pointer (some ⟨b,o,none⟩)) (.agg cs)=pq N w b o cs:=rfl
theorem yb(w:World)(b o:Nat)(cs:Array Value):uD w (.pointer (some ⟨b,o,none⟩)) (.agg cs)=w.setCells b o cs.toList:=rfl
theorem FH(T:TypeId)(hs:(aa.prog.info? T).map (·.size)=some N)(d:Option Tmp)(x y:Operand)(ty:TypeId)(pos:String)(aft:Array Edge)(gd:Option (Nat×Bool))(a:Act)(w:World)(K:Act->World->Prop)(Q:Exit->Act->World->Prop)(h:qQ N w (a.eval x) (a.eval y)):
  Oper.wp aa.prog {dst:=d,op:=.store T x y,type:=ty,pos:=pos,after:=aft,guard:=gd} a w K Q=K (a.put d undef) (uD w (a.eval x) (a.eval y)):=by
 unfold qQ at h;split at h
 ·rename_i b o cs heq heq';rw[heq,heq',yb];unfold Oper.wp execOp;simp only[heq,heq',Instr.storeAt,Instr.sureAddr,Xt,X2,XJ,run_storeVar_mid w b o T cs (by rw[h.2.1];exact h.1) (by rw[hs,h.2.1]) h.2.2];rfl
 ·exact h.elim
section
variable (d:Option Tmp) (x y:Operand) (ty:TypeId) (pos:String) (aft:Array Edge) (gd:Option (Nat×Bool)) (a:Act) (w:World) (K:Act->World->Prop) (Q:Exit->Act->World->Prop)
theorem Se(h:sa 256 w (a.eval x)):Oper.wp aa.prog {dst:=d,op:=.load 88 x,type:=ty,pos:=pos,after:=aft,guard:=gd} a w K Q=K (a.put d (uY 256 w (a.eval x))) w:=Ht _ aa.underlying88 rfl aa.zZ d x ty pos aft gd a w K Q h
theorem Oq(h:sa 64 w (a.eval x)):Oper.wp aa.prog {dst:=d,op:=.load 89 x,type:=ty,pos:=pos,after:=aft,guard:=gd} a w K Q=K (a.put d (uY 64 w (a.eval x))) w:=Ht _ aa.underlying89 rfl aa.Aa d x ty pos aft gd a w K Q h
theorem Aj(h:qQ 256 w (a.eval x) (a.eval y)):Oper.wp aa.prog {dst:=d,op:=.store 88 x y,type:=ty,pos:=pos,after:=aft,guard:=gd} a w K Q=K (a.put d undef) (uD w (a.eval x) (a.eval y)):=FH _ aa.zZ d x y ty pos aft gd a w K Q h
theorem Fc(h:qQ 64 w (a.eval x) (a.eval y)):Oper.wp aa.prog {dst:=d,op:=.store 89 x y,type:=ty,pos:=pos,after:=aft,guard:=gd} a w K Q=K (a.put d undef) (uD w (a.eval x) (a.eval y)):=FH _ aa.Aa d x y ty pos aft gd a w K Q h
end
attribute [local go_sem ↓] Se Oq Aj Fc Yn Yo
attribute [local go_sem] JN CF UL S4 Hu yb
noncomputable def bW(K:aw)(j n q:Nat):Int:=if q%64<4 ^ (q / 64)/\(j<=q / 64\/q / 64+1=j/\q%64<n) then aS K (q / 64) (q%64) else 0
theorem E0{K:aw}{n:Nat}(hl:l<4)(hn:n<4 ^ l)(h64:n<64)(q:Nat):bW K (l+1) (n+1) q=if q=l*64+n then aS K l n else bW K (l+1) n q:=by
 unfold bW;by_cases e:q=l*64+n
 ·subst e;have e1:(l*64+n) / 64=l:=by omega
  have e2:(l*64+n)%64=n:=by omega
  rw[AS rfl,e1,e2,AS ⟨hn,.inr ⟨rfl,by omega⟩⟩]
 ·rw[AI e];have:(q / 64+1=l+1/\q%64<n+1)↔(q / 64+1=l+1/\q%64<n):=⟨λ⟨h1,h2⟩=>⟨h1,by omega⟩,λ⟨h1,h2⟩=>⟨h1,by omega⟩⟩
  simp only[this]
theorem BP{K:aw}(q:Nat):bW K (l+1) (4 ^ l) q=bW K l 0 q:=by
 unfold bW;by_cases h:q%64<4 ^ (q / 64)
 ·by_cases h1:l<=q / 64
  ·rw[AS,AS ⟨h,.inl h1⟩];refine⟨h,?_⟩;by_cases h2:l=q / 64
   ·right;subst h2;exact⟨rfl,h⟩
   ·left;omega
  ·rw[AI,AI]
   ·rintro⟨_,h2|h2⟩<;>omega
   ·rintro⟨_,h2|h2⟩<;>omega
 ·rw[AI (λx=>h x.1),AI (λx=>h x.1)]
structure dn(w:World)(F:Nat->Int)(G:Nat->ByteArray)(W:World):Prop where
 x0:W.heap[w.heap.size]?=some (.cells (bw λ_=>0) 88)
 x1:W.heap[w.heap.size+1]?=some (.cells (bM λ_=>⟨#[]⟩) 89)
 x2:W.heap[w.heap.size+2]?=some (.cells (bw F) 88)
 x3:W.heap[w.heap.size+3]?=some (.cells (bM G) 89)
 ba:Below w.heap.size w W
theorem dn.below{w:World}(h:dn w F G W)(hb:Below W.heap.size W W'):dn w F G W':=
 ⟨aQ h.x0 hb,aQ h.x1 hb,aQ h.x2 hb,aQ h.x3 hb,bc h.ba hb⟩
theorem dn.grow{w:World}(h:dn w F G W){B size n:Nat}{v v':Value}{xs:List Value}(hr:W.ownsRow B 5 size v n xs)(hB:w.heap.size<=B)(hg:_root_.Go.Proofs.YtldmcdeibiclkaaGreatDoorQ.bE W W' v v'):dn w F G W':=
 ⟨hg.other hr h.x0 (by decide),hg.other hr h.x1 (by decide),hg.other hr h.x2 (by decide),hg.other hr h.x3 (by decide),hg.toBelow h.ba h.ba.size (ej hr hB)⟩
theorem dn.Ck{w:World}{v:Int}(h:dn w F G W)(hF:∀q,q<256->F' q=if q=k then v else F q):dn w F' G (W.setCell ⟨w.heap.size+2,k,none⟩ (.int .u64 v)):=by
 refine⟨?_,?_,?_,?_,h.ba.setCell (show w.heap.size<=w.heap.size+2 by omega) _⟩
 ·rw[Xg _ _ _ _ (by show _≠w.heap.size+2;omega)];exact h.x0
 ·rw[Xg _ _ _ _ (by show _≠w.heap.size+2;omega)];exact h.x1
 ·rw[heap_set h.x2,Ty,vz hF]
 ·rw[Xg _ _ _ _ (by show _≠w.heap.size+2;omega)];exact h.x3
theorem dn.UI{w:World}{v:ByteArray}(h:dn w F G W)(hG:∀q,q<64->G' q=if q=k then v else G q):dn w F G' (W.setCell ⟨w.heap.size+3,k,none⟩ (.string v)):=by
 refine⟨?_,?_,?_,?_,h.ba.setCell (show w.heap.size<=w.heap.size+3 by omega) _⟩
 ·rw[Xg _ _ _ _ (by show _≠w.heap.size+3;omega)];exact h.x0
 ·rw[Xg _ _ _ _ (by show _≠w.heap.size+3;omega)];exact h.x1
 ·rw[Xg _ _ _ _ (by show _≠w.heap.size+3;omega)];exact h.x2
 ·rw[heap_set h.x3,Ol,zM hG]
theorem dn.VK{w:World}(h:dn w F G W)(hF:∀q,q<256->F q=F' q):dn w F' G W:=⟨h.x0,h.x1,by rw[<-vz hF];exact h.x2,h.x3,h.ba⟩
theorem DH(F:Nat->Int):(bw F).all (·.oneCell')=true:=by
 rw[bw,List.all_toArray,List.all_map,List.all_eq_true];intro q _;rfl
theorem H4(G:Nat->ByteArray):(bM G).all (·.oneCell')=true:=by
 rw[bM,List.all_toArray,List.all_map,List.all_eq_true];intro q _;rfl
theorem uQ{w:World}{A:Array Value}(h:w.heap[b]?=some (.cells A t))(hs:A.size=N):w.there b 0 N:=λj hj=>by
 obtain⟨e,f⟩:=al h;refine⟨?_,f _⟩;rw[e,Array.getElem?_eq_getElem (by omega)];rfl
structure Dr(w:World)(D T:Array Value)(W:World):Prop where
 there:(W.drew.setCells w.heap.size 0 D.toList).there (w.heap.size+1) 0 64
 Ii:(loadVar 88 ⟨w.heap.size,0,none⟩).run aa.prog ((W.drew.setCells w.heap.size 0 D.toList).setCells (w.heap.size+1) 0 T.toList)=.ok (.agg D) ((W.drew.setCells w.heap.size 0 D.toList).setCells (w.heap.size+1) 0 T.toList)
 Pc:(loadVar 89 ⟨w.heap.size+1,0,none⟩).run aa.prog ((W.drew.setCells w.heap.size 0 D.toList).setCells (w.heap.size+1) 0 T.toList)=.ok (.agg T) ((W.drew.setCells w.heap.size 0 D.toList).setCells (w.heap.size+1) 0 T.toList)
 ba:Below w.heap.size w ((W.drew.setCells w.heap.size 0 D.toList).setCells (w.heap.size+1) 0 T.toList)
 dO:(W.drew.setCells w.heap.size 0 D.toList).heap[w.heap.size+3]?=some (.cells T 89)
theorem DJ{w:World}(h:dn w F G W):Dr w (bw F) (bM G) W:=by
 have h0:(W.drew.setCells w.heap.size 0 (bw F).toList).heap[w.heap.size]?=some (.cells (bw F) 88):=pK (w:=W.drew) h.x0 (bw F) (by rw[ki,ki]);have f0:Fr (λq=>q=w.heap.size) W.drew (W.drew.setCells w.heap.size 0 (bw F).toList):=Fr.setCells (X:=λq=>q=w.heap.size) (Fr.refl _ _) (Or.inr rfl) _ _;have h1:(W.drew.setCells w.heap.size 0 (bw F).toList).heap[w.heap.size+1]?=some (.cells (bM λ_=>⟨#[]⟩) 89):=f0.heap h.x1 (by show ¬w.heap.size+1=w.heap.size;omega);have f1:Fr (λq=>q=w.heap.size+1) (W.drew.setCells w.heap.size 0 (bw F).toList) ((W.drew.setCells w.heap.size 0 (bw F).toList).setCells (w.heap.size+1) 0 (bM G).toList):=Fr.setCells (X:=λq=>q=w.heap.size+1) (Fr.refl _ _) (Or.inr rfl) _ _;have g0:=f1.heap h0 (by show ¬w.heap.size=w.heap.size+1;omega);have g1:=pK h1 (bM G) (by rw[jF,jF]);refine⟨uQ h1 (jF _),?_,?_,qN _ (qN _ h.ba.drew (iR _) _) (by omega) _,f0.heap h.x3 (by show ¬w.heap.size+3=w.heap.size;omega)⟩
 ·have:=Yv (P:=aa.prog) _ w.heap.size 0 88 (bw F).toList _ (vD g0) aa.underlying88 rfl (by rw[aa.zZ,XC,ki]);rwa [YR]at this
 ·have:=Yv (P:=aa.prog) _ (w.heap.size+1) 0 89 (bM G).toList _ (vD g1) aa.underlying89 rfl (by rw[aa.Aa,XC,jF]);rwa [YR]at this
theorem Cp(b num:Nat)(bm:Nat->Nat)(K:aw)(w:World)(h:aB w b bm num K)(hK:dK w bm K):
  Calls aa.prog 33 #[.pointer (some ⟨b,0,none⟩)] w λe w'=>e=.returned (.tuple #[.agg (bw (bW K 0 0)),.agg (bM (aJ K))])/\Below w.heap.size w w':=by
 have HSg:Hid (∀n:Nat,n<64->∀W,Below w.heap.size w W->Calls aa.prog 11 #[.pointer (some ⟨b,0,none⟩),.int .i64 n] W λe w'=>e=.returned (.tuple #[.string (aJ K n),.int .i64 0])/\Below W.heap.size W w'):=λn hn W hW=>by
  have:=zY b num n bm K W (h.below hW) (hK.below h hW) hn;rw[(h.below hW).text hn]at this;exact this
 have HTs:Hid (∀n,n<64->(aJ K n).size<=maxLen):=λn hn=>by rw[<-h.text hn];exact GJ h hK n hn
 have hz:=aa.D8;have hzt:=aa.FF;have s1:=ki;have s2:=jF;have HJ0:Hid (dn w (bW K 4 0) (λq=>if q<0 then aJ K q else ⟨#[]⟩) ((((w.alloc (.cells (bw λ_=>0) 88)).alloc (.cells (bM λ_=>⟨#[]⟩) 89)).alloc (.cells (bw λ_=>0) 88)).alloc (.cells (bM λ_=>⟨#[]⟩) 89))):=by
  refine⟨?_,?_,?_,?_,((((AT _ _).alloc (iR _) _).alloc (by simp) _).alloc (by simp;omega) _).alloc (by simp;omega) _⟩
  ·rw[OF _ _ _ (by simp;omega)];exact um w _ _ _
  ·rw[OF _ _ _ (by simp<;>omega)];simpa using yG w _ _ _
  ·rw[OF _ _ _ (by simp),vz (F:=bW K 4 0) (F':=λ_=>0) λq hq=>?_]
   ·exact qe w _ _ _
   ·unfold bW;rw[AI];rintro⟨_,h|h⟩<;>omega
  ·have:=BY (((w.alloc (.cells (bw λ_=>0) 88)).alloc (.cells (bM λ_=>⟨#[]⟩) 89)).alloc (.cells (bw λ_=>0) 88)) (.cells (bM λ_=>⟨#[]⟩) 89);simp only[World.alloc,Yh]at this;rw[zM (G:=λq=>if q<0 then aJ K q else ⟨#[]⟩) (G':=λ_=>⟨#[]⟩) λq _=>by simp];exact this
 clear h hK;go_enter aa.func33,aa.ntmps33;go_wp2;go_loopw [6] (λiv wr=>∃n:Nat,n<=64/\iv=.int .i64 n/\Hid (dn w (bW K 4 n) (λq=>if q<n then aJ K q else ⟨#[]⟩) wr)) (λiv _=>64-(intOf iv).toNat)
 case atStart=>exact⟨0,by omega,rfl,HJ0.out⟩
 case round=>
  obtain⟨n,hn,rfl,HJ⟩:=hrel;clear HJ0;by_cases hlt:n<64
  ·have n1:(n:Int)<64:=by omega
   have n0:(0:Int)<=(n:Int):=by omega
   have HSn:Hid (Calls aa.prog 11 #[.pointer (some ⟨b,0,none⟩),.int .i64 n] wr λe w2=>e=.returned (.tuple #[.string (aJ K n),.int .i64 0])/\dn w (bW K 4 n) (λq=>if q<n then aJ K q else ⟨#[]⟩) w2):=(HSg.out n hlt wr HJ.out.ba).mono λe w2 ⟨he,hb⟩=>⟨he,HJ.out.below hb⟩
   have HSm:Hid (∀W,Calls aa.prog 13 #[.string (aJ K n)] W λe w'=>e=.returned (.int .u64 (aS K 3 n))/\w'=W):=λW=>wP (aJ K n) W (HTs.out n hlt);have HFin:Hid (∀w2,dn w (bW K 4 n) (λq=>if q<n then aJ K q else ⟨#[]⟩) w2->dn w (bW K 4 (n+1)) (λq=>if q<n+1 then aJ K q else ⟨#[]⟩) ((w2.setCell ⟨w.heap.size+3,n,none⟩ (.string (aJ K n))).setCell ⟨w.heap.size+2,192+n,none⟩ (.int .u64 (aS K 3 n)))):=λw2 h2=>by
    refine (h2.UI (k:=n) (v:=aJ K n) λq _=>?_).Ck (k:=192+n) (v:=aS K 3 n) λq _=>E0 (l:=3) (by omega) hlt hlt q;by_cases e:q=n
    ·subst e;simp
    ·rw[AI e];by_cases hq:q<n
     ·rw[AS hq,AS (by omega)]
     ·rw[AI hq,AI (by omega)]
   have HT3:Hid (∀w2,dn w (bW K 4 n) (λq=>if q<n then aJ K q else ⟨#[]⟩) w2->w2.cell? ⟨w.heap.size+3,n,none⟩=some (.string ⟨#[]⟩)/\w2.frozen? ⟨w.heap.size+3,n,none⟩=false/\w2.cell? ⟨w.heap.size+2,192+n,none⟩=some (.int .u64 0)/\w2.frozen? ⟨w.heap.size+2,192+n,none⟩=false):=λw2 h2=>by
    refine⟨?_,(al h2.x3).2 _,?_,(al h2.x2).2 _⟩
    ·rw[(al h2.x3).1,xX hlt];simp
    ·rw[(al h2.x2).1,l9 (by omega)];congr 2;unfold bW;rw[AI];rintro⟨_,h|h⟩<;>omega
   clear HJ HSg;generalize aJ K n=tx at*;generalize aS K 3 n=dx at*;go_wp2_with (first
    |(go_at_call 11;refine By HSn.out ?_;rintro e w2 ⟨rfl,hj2⟩;obtain⟨q1,q2,q3,q4⟩:=HT3.out _ hj2;have HJ2:Hid _:=hj2;clear hj2)
    |(go_at_call 13;refine By (HSm.out _) ?_;rintro e w3 ⟨rfl,hw3⟩;obtain rfl:=hw3.symm))
   exact⟨⟨n+1,by omega,by go_num,HFin.out _ HJ2.out⟩,by simp[intOf];omega⟩
  ·have HJe:Hid (dn w (bW K 3 0) (aJ K) wr):=(by
    obtain rfl:n=64:=by omega
    obtain⟨x0,x1,x2,x3,x4⟩:=HJ.out;exact⟨x0,x1,by rw[<-vz λq _=>BP (l:=3) q];exact x2,by rw[zM (G:=aJ K) (G':=λq=>if q<64 then aJ K q else ⟨#[]⟩) λq hq=>by rw[AS hq]];exact x3,x4⟩)
   clear HJ HSg HTs hn;have hlt': ¬(n:Int)<64:=by omega
   clear hlt;generalize n=n64 at*;obtain⟨i0,hi0,hz0,hz1,hz2⟩:=Xm aa.oP;go_wp2;go_loopw [7,8] (λwv lv wr=>∃j:Nat,j<=3/\wv=.int .i64 (if j=0 then 0 else 4 ^ (j-1):Nat)/\lv=.int .i64 ((j:Int)-1)/\Hid (dn w (bW K j 0) (aJ K) wr)) (λ_ lv _=>(intOf lv+1).toNat)
   case atStart=>exact⟨3,by omega,rfl,rfl,HJe.out⟩
   case round=>
    obtain⟨j,hj,rfl,rfl,HJ⟩:=hrel;clear HJe;cases j with
    |zero=>
     have HJf:Hid (dn w (bW K 0 0) (aJ K) wr):=HJ.out;clear HJ;have hm1:((0:Nat):Int)-1= -1:=by omega
     rw[hm1];have d2:=ye (show wr.heap[w.heap.size+1+1]?=_ from HJf.out.x2) (ki _);have d3:=ye (show wr.heap[w.heap.size+1+1+1]?=_ from HJf.out.x3) (jF _);have d4:=ye (show (wr.drew.setCells w.heap.size 0 (bw (bW K 0 0)).toList).heap[w.heap.size+1+1+1]?=_ from (DJ HJf.out).dO) (jF _);have p1:pq 256 wr.drew w.heap.size 0 (bw (bW K 0 0)):=⟨uQ (w:=wr.drew) HJf.out.x0 (ki _),ki _,DH _⟩
     have HE:Hid (Dr w (bw (bW K 0 0)) (bM (aJ K)) wr):=DJ HJf.out;have p2:pq 64 (wr.drew.setCells w.heap.size 0 (bw (bW K 0 0)).toList) (w.heap.size+1) 0 (bM (aJ K)):=⟨HE.out.there,jF _,H4 _⟩
     clear HJf s1 s2;generalize hD:bw (bW K 0 0)=D at*;generalize hTT:bM (aJ K)=TT at*;have HDT:Hid (bw (bW K 0 0)=D/\bM (aJ K)=TT):=⟨hD,hTT⟩
     clear hD hTT;obtain⟨r2,q2⟩:=d2;obtain⟨r3,q3⟩:=d3;obtain⟨r4,q4⟩:=d4;go_wp2;go_region_law (fail)
     all_goals
      have l0:=HE.out.Ii;have l1:=HE.out.Pc;go_wp2;refine XF (v:=.tuple #[.agg D,.agg TT]) ?_ rfl ⟨by rw[HDT.out.1,HDT.out.2],HE.out.ba⟩;simp only[results,aa.results33];simp[asAddr,l0,l1]
    |succ l=>
     have hl:l<3:=by omega
     have el:((l+1:Nat):Int)-1=(l:Int):=by omega
     have ew:(if l+1=0 then 0 else 4 ^ (l+1-1):Nat)=4 ^ l:=by simp
     rw[el,ew];have hp:=(ly (show l<=3 by omega)).1;have hp2:=(ly (show l+1<=3 by omega)).1;have hps:4 ^ (l+1)=4 ^ l*4:=XH ..;have l0:(0:Int)<=(l:Int):=by omega
     have l3:(l:Int)+1<4:=by omega
     clear el ew;obtain⟨wd,hwd⟩: ∃wd:Nat,4 ^ l=wd:=⟨_,rfl⟩
     rw[hwd]at hp hps ⊢;have HWd:Hid (4 ^ l=wd):=hwd;clear hwd;go_wp2;go_loopw [9] (λnv wr=>∃n:Nat,n<=wd/\nv=.int .i64 n/\Hid (dn w (bW K (l+1) n) (aJ K) wr)) (λnv _=>wd-(intOf nv).toNat)
     case atStart=>exact⟨0,by omega,rfl,HJ.out⟩
     case round=>
      obtain⟨n,hn,rfl,HI⟩:=hrel;clear HJ;by_cases hlt:n<wd
      ·have n1:(n:Int)<(wd:Int):=by omega
       have n0:(0:Int)<=(n:Int):=by omega
       obtain⟨d,hd⟩: ∃d:Nat->Int,d=λi=>aS K (l+1) (n*4+i):=⟨_,rfl⟩
       have HDg:Hid (aS K l n=cS (cP d 4)):=(show _=_ by rw[yp K hl,hd];rfl)
       have HC:Hid (∀W,dn w (bW K (l+1) n) (aJ K) W->∀i,i<4->W.cell? ⟨w.heap.size+1+1,(l+1)*64+(4*n+i),none⟩=some (.int .u64 (d i))):=λW hW i hi=>by
        rw[(al hW.x2).1,l9 (by omega),hd];congr 2;unfold bW;rw[show ((l+1)*64+(4*n+i)) / 64=l+1 by omega,show ((l+1)*64+(4*n+i))%64=n*4+i by omega,AS ⟨by rw[hps];omega,.inl (iR _)⟩]
       clear hd;obtain⟨W0,hW0⟩: ∃W,W=wr:=⟨_,rfl⟩
       have HW0:Hid (W0.heap.size<=wr.heap.size/\w.heap.size<=W0.heap.size):=(by rw[hW0];exact⟨iR _,HI.out.ba.size⟩)
       clear hW0;go_wp2;go_loopw [10,11] (λo iv wx=>∃i:Nat,i<=4/\iv=.int .i64 i/\Hid (aH wx W0.heap.size o (cP d i))/\Hid (dn w (bW K (l+1) n) (aJ K) wx)/\Hid (W0.heap.size<=wx.heap.size)) (λ_ iv _=>4-(intOf iv).toNat)
       case atStart=>exact⟨0,by omega,rfl,aH.nil _ _,HI.out,HW0.out.1⟩
       case round=>
        obtain⟨i,hi,rfl,HR,HX,HZ⟩:=hrel;by_cases hi4:i<4
        ·have a1:(i:Int)<4:=by omega
         have a0:(0:Int)<=(i:Int):=by omega
         have hsn:(cP d i).size=8*i:=oh d i;go_wp2;go_loopw [10,12] (λo kv wy=>∃m:Nat,m<=8/\kv=.int .i64 (7-(m:Int))/\Hid (aH wy W0.heap.size o (cP d i++fF (d i) m))/\Hid (dn w (bW K (l+1) n) (aJ K) wy)/\Hid (W0.heap.size<=wy.heap.size)) (λ_ kv _=>(intOf kv+1).toNat)
         case atStart=>exact⟨0,by omega,rfl,by show aH _ _ _ _;rw[fF,gN];exact HR.out,HX.out,HZ.out⟩
         case round=>
          obtain⟨m,hm,rfl,HR2,HX2,HZ2⟩:=hrel;by_cases hm8:m<8
          ·have g1:(0:Int)<=7-(m:Int):=by omega
           have g2:7-(m:Int)<=7:=by omega
           have hc:=HC.out _ HX2.out i hi4;have hz2':=HZ2.out;have hwz:=HX2.out.ba.size;have hl2:(cP d i++fF (d i) m).size+1<=140737488355328:=by rw[IS,rn,hsn];omega
           have HNk:Hid ((8*(7-(m:Int))).toNat=56-8*m):=(show (8*(7-(m:Int))).toNat=56-8*m by omega)
           generalize hst:cP d i++fF (d i) m=st at*;have HST:Hid (st=cP d i++fF (d i) m):=hst.symm;clear hst;generalize d i=di at*;go_wp2_with (at_builtin;refine jm _ rfl _ _ _ rfl W0.heap.size 5 i0 _ 1 1 aa.underlying48 hi0 hz0 hz1 hz2 rfl (by omega) u10 _ _ rfl (Xh HR2.out _) ⟨wr.heap.size,0,none⟩ 1 1 _ rfl (by rfl) (Xr (BY wr _)) (by simp[Value.oneCell']) (by omega) (by unfold maxLen;omega) (by omega) (by simp;omega) ?_;intro g capn w1 aD hgr1)
           refine⟨⟨m+1,by omega,by first|omega|go_num,?_,(HX2.out.below ((AT _ _).alloc (iR _) _)).grow (Xh HR2.out _) HW0.out.2 hgr1,by have:=hgr1.grown.size;simp at this;show _<=_;omega⟩,by simp[intOf];omega⟩;show aH _ _ _ _;rw[fF,<-bY,<-HST.out];refine aH.of aD rfl ?_;rw[jA,show 8*(7-m)=56-8*m by omega]
          ·obtain rfl:m=8:=by omega
           have HR8:Hid (aH wr W0.heap.size u10 (cP d (i+1))):=HR2.out;clear HR2 HR HX HZ;go_wp2;exact⟨⟨i+1,by omega,by go_num,HR8.out,HX2.out,HZ2.out⟩,by simp[intOf];omega⟩
        ·obtain rfl:i=4:=by omega
         have hcv:=oU HR.out;have hcvd:(convert 48 9 u10).run aa.prog wr.drew=.ok (.string (cP d 4)) wr.drew:=oU (w:=wr.drew) HR.out;have HSm:Hid (∀W,Calls aa.prog 13 #[.string (cP d 4)] W λe w'=>e=.returned (.int .u64 (aS K l n))/\w'=W):=λW=>by
          rw[HDg.out];exact wP (cP d 4) W (by rw[oh];decide)
         have HFin:Hid (∀W:World,W.heap=wr.heap->W.os=wr.os->W.tape=wr.tape->W.output=wr.output->dn w (bW K (l+1) (n+1)) (aJ K) (W.setCell ⟨w.heap.size+1+1,l*64+n,none⟩ (.int .u64 (aS K l n)))):=λW e1 e2 e3 e4=>by
          have hW:dn w (bW K (l+1) n) (aJ K) W:=HX.out.below ⟨e2,e3,e4,by rw[e1];exact iR _,λk _=>by rw[e1]⟩;exact hW.Ck λq _=>E0 (by omega) (by rw[HWd.out];exact hlt) (by omega) q
         have hcs:wr.cell? ⟨w.heap.size+1+1,l*64+n,none⟩=some (.int .u64 0):=by
          rw[(al HX.out.x2).1,l9 (by omega)];congr 2;unfold bW;rw[show (l*64+n) / 64=l by omega,show (l*64+n)%64=n by omega,AI];rintro⟨_,h|h⟩<;>omega
         have hfs:wr.frozen? ⟨w.heap.size+1+1,l*64+n,none⟩=false:=(al HX.out.x2).2 _;generalize cP d 4=nb at*;generalize aS K l n=dx at*;have l4:(l:Int)<4:=by omega
         have n64:(n:Int)<64:=by omega
         clear HR HX HDg HC;go_wp2;go_region_with (first|(go_at_call 13;refine By (HSm.out _) ?_;rintro e w3 ⟨rfl,hw3⟩;obtain rfl:=hw3.symm))
         all_goals
          go_wp2;exact⟨⟨n+1,by omega,by go_num,(HFin.out wr rfl rfl rfl rfl).below (AT _ _).drew⟩,by simp[intOf];omega⟩
      ·obtain rfl:n=wd:=by omega
       have HJn:Hid (dn w (bW K l 0) (aJ K) wr):=HI.out.VK λq _=>by rw[<-HWd.out];exact BP q
       clear HI;have hq4:(n:Int) / 4=((if l=0 then 0 else 4 ^ (l-1):Nat):Int):=by
        rw[<-HWd.out];rcases (show l=0\/l=1\/l=2 by omega) with rfl|rfl|rfl<;>rfl
       have HQ4:Hid ((n:Int) / 4=((if l=0 then 0 else 4 ^ (l-1):Nat):Int)):=hq4;clear hq4;go_wp2;refine⟨⟨l,by omega,?_,by go_num,HJn.out⟩,by simp[intOf]⟩;rw[HQ4.out]
end
end Go.Proofs.YtldmcdeibiclkaaGreatDoorQ
