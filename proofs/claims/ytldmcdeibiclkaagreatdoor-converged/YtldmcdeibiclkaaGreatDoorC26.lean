/-
  Toward converged_holds: Contract: learns: what one replica knows of comes to another.
-/
import Derived.Test.YtldmcdeibiclkaaGreatDoorC24
import Derived.Test.YtldmcdeibiclkaaGreatDoorC25
set_option linter.unusedVariables false
set_option linter.unusedSimpArgs false
set_option maxRecDepth 100000
set_option maxHeartbeats 20000000
namespace Go.Proofs.YtldmcdeibiclkaaGreatDoorQ
open Go.RowKit
section
attribute [local go_sem ↓] um yf Xa Xb
attribute [local go_sem] tM qo ym sj sA uI vp
def eu(t:Nat->Bool)(n:Nat)(a b:Nat->Nat->Bool)(k j:Nat):Bool:=if k<n/\t k=true then a k j||b k j else a k j
end
end Go.Proofs.YtldmcdeibiclkaaGreatDoorQ
namespace Go.Proofs.YtldmcdeibiclkaaGreatDoorQ
variable {m lev:Nat}{ns:List Nat}
section
def jL(K:al)(n:Nat)(L:List (List UInt8)):Prop:=L.Pairwise (λa b=>a<b)/\∀x,x∈L↔aC (dF x)=n/\cH (K (dF x)).1
theorem jL.unique{K:al}{n:Nat}:∀{L M:List (List UInt8)},L.Pairwise (λa b=>a<b)->M.Pairwise (λa b=>a<b)->(∀x,x∈L↔x∈M)->L=M
 |[],[],_,_,_=>rfl
 |[],y::b,_,_,h=>by have:=(h y).2 (by simp);cases this
 |x::a,[],_,_,h=>by have:=(h x).1 (by simp);cases this
 |x::a,y::b,ha,hb,h=>by
  have ha':=List.pairwise_cons.1 ha;have hb':=List.pairwise_cons.1 hb;have e:x=y:=by
   rcases Xm.1 ((h x).1 (by simp)) with e|hx
   ·exact e
   ·rcases Xm.1 ((h y).2 (by simp)) with e|hy
    ·exact e.symm
    ·exact absurd (ha'.1 y hy) (List.lt_asymm (hb'.1 x hx))
  subst e;congr 1;refine jL.unique (K:=K) (n:=n) ha'.2 hb'.2 λv=>⟨λhv=>?_,λhv=>?_⟩
  ·rcases Xm.1 ((h v).1 (by simp[hv])) with e|h'
   ·subst e;exact absurd (ha'.1 v hv) (List.lt_irrefl _)
   ·exact h'
  ·rcases Xm.1 ((h v).2 (by simp[hv])) with e|h'
   ·subst e;exact absurd (hb'.1 v hv) (List.lt_irrefl _)
   ·exact h'
open Classical in
noncomputable def kX(K:al)(n:Nat):List (List UInt8):=if h: ∃L,jL K n L then h.choose else []
theorem xp{K:al}{n:Nat}{L:List (List UInt8)}(h:jL K n L):kX K n=L:=by
 have hex: ∃L,jL K n L:=⟨L,h⟩
 unfold kX;rw[dif_pos hex];have hc:=hex.choose_spec;exact jL.unique (K:=K) (n:=n) hc.1 h.1 λx=>by rw[hc.2,h.2]
noncomputable def kS(K:al)(n:Nat):List ai:=(kX K n).map λx=>(dF x,(K (dF x)).1,(K (dF x)).2)
noncomputable def aB(K:al)(n:Nat):ByteArray:=kL (kS K n)
noncomputable def aM(K:al)(lv n:Nat):Int:=dg (aB K) (3-lv) n
noncomputable def bZ(K:al)(ns:List Nat):List (Nat×List ai):=ns.map λn=>(n,kS K n)
noncomputable def dP(K:al)(lev:Nat)(ns:List Nat):List Nd:=ns.map λn=>(n,λi=>if i<4 then aM K (lev+1) (n*4+i) else 0)
theorem FD{w:World}{n:Nat}{K:al}(h:ot w m n K){s:ByteArray}(hs:aC s=n):cy (cE w m) s≠none↔cH (K s).1:=by
 obtain⟨es,clock,e1,e2,e3,e4,e5⟩:=h;have hes:cE w m=es.toList:=by simp[cE,e1]
 rw[hes];refine⟨e5 s,λhk hn=>?_⟩;obtain⟨sv,h1,_⟩:=e3 s hs;rw[hn]at h1;obtain⟨i,hi,hne⟩:=hk;simp only[Option.getD_none,lh,bD]at h1;injection h1 with h1;have hz:∀(j:Nat) (x:Value),(#[Value.int .i64 0,.int .i64 0,.int .i64 0,.int .i64 0,.slice none 0 0]:Array Value)[j]?=some x->(#[Value.int .i64 ((K s).1 0),.int .i64 ((K s).1 1),.int .i64 ((K s).1 2),.int .i64 ((K s).1 3),sv]:Array Value)[j]?=some x:=λj x hx=>by rw[<-h1];exact hx
 rcases fc hi with rfl|rfl|rfl|rfl
 ·have:=hz 0 _ rfl;simp at this;exact hne this
 ·have:=hz 1 _ rfl;simp at this;exact hne this
 ·have:=hz 2 _ rfl;simp at this;exact hne this
 ·have:=hz 3 _ rfl;simp at this;exact hne this
theorem ot.names{w:World}{n:Nat}{K:al}(h:ot w m n K):jL K n (eP (cX (cE w m))):=by
 have hk:=λs hs=>FD h (s:=s) hs;obtain⟨es,clock,e1,e2,e3,e4,e5⟩:=h;have hes:cE w m=es.toList:=by simp[cE,e1]
 rw[hes]at hk ⊢;refine⟨AQ e2 e4.1,λx=>⟨λhx=>?_,λhx=>?_⟩⟩
 ·have h1:=(qL e4.2.2.2 hx).1;exact⟨h1,(hk _ h1).1 (Fl e2 hx)⟩
 ·have:=Lo ((hk _ hx.1).2 hx.2) e2;simpa[dF] using this
theorem EY{w:World}{n:Nat}{K:al}(h:ot w m n K):dN K (cE w m)=kS K n:=by
 rw[dN,kS,xp h.names]
section
variable {w:World}{b num:Nat}{bm:Nat->Nat}{K:al}
theorem aA.text(h:aA w b bm num K){n:Nat}(hn:n<64):eO w bm K n=aB K n:=by rw[eO,aB,EY (h.2.1 n hn)]
theorem aA.aL(h:aA w b bm num K)(hns:∀n∈ns,n<64):cm w bm K ns=bZ K ns:=
 Wb λn hn=>by rw[EY (h.2.1 n (hns n hn))]
theorem aA.qC(h:aA w b bm num K){lv n:Nat}(hl:lv<=3)(hn:n<4 ^ lv):bK w bm K lv n=aM K lv n:=
 uH (λk hk=>h.text hk) _ (by omega) _ (by rw[show 3-(3-lv)=lv by omega];exact hn)
theorem aA.nodes(h:aA w b bm num K)(hl:lev<3)(hn:∀n∈ns,n<4 ^ lev):gv w bm K lev ns=dP K lev ns:=by
 refine Wb λn hm=>?_;congr 1;funext i;unfold kids
 have:=hn n hm;split
 ·exact h.qC (by omega) (by rw[Wf];omega)
 ·rfl
theorem aA.bF(h:aA w b bm num K)(hl:lev<3){sg:List Nd}(hns:∀g∈sg,g.1<4 ^ lev):bF (bK w bm K (lev+1)) sg=bF (aM K (lev+1)) sg:=by
 have hg:∀g∈sg,dy (bK w bm K (lev+1)) g 4=dy (aM K (lev+1)) g 4:=λg hg=>by
  unfold dy;congr 1;refine Xe λj hj=>?_
  have:=hns g hg;have hj':=List.mem_range.1 hj;rw[h.qC (by omega) (by rw[Wf];omega)]
 exact kA sg hg
end
noncomputable def bW(K:al):Let->Option Let
 |.root d=>if d=aM K 0 0 then none else some (.nodes 0 (dP K 0 [0]))
 |.nodes lev sg=>if bF (aM K (lev+1)) sg= [] then none else if lev=2 then some (.aL 83 (bZ K (bF (aM K (lev+1)) sg))) else some (.nodes (lev+1) (dP K (lev+1) (bF (aM K (lev+1)) sg)))
 |.aL kind sg=>if kind=84 then none else some (.aL 84 (bZ (bO K sg) (sg.map (·.1))))
theorem RH{w w':World}{b num:Nat}{bm:Nat->Nat}{K:al}{L:Let}(h:aA w b bm num K)(h':aA w' b bm num (gY K L))(hok:L.Ok):vY w w' bm K L=bW K L:=by
 cases L with
 |root d=>
  show lH w bm K d=_;simp only[lH,bW];rw[h.qC (by omega) (by decide),h.nodes (by omega) (by simp)]
 |nodes lev sg=>
  have ho:lS lev sg:=hok;have hn:∀g∈sg,g.1<4 ^ lev:=λg hg=>(ho.num g hg).1;have hl:=ho.low;have hd:=tq (D:=aM K (lev+1)) hn;show ma w bm K lev sg=_;simp only[ma,bW];rw[h.bF hl hn];by_cases h0:bF (aM K (lev+1)) sg= []
  ·rw[AS h0,AS h0]
  ·rw[AI h0,AI h0];by_cases h2:lev=2
   ·subst h2;rw[AS rfl,AS rfl,h.aL λn hn=>hd n hn]
   ·rw[AI h2,AI h2,h.nodes (by omega) hd]
 |aL kind sg=>
  show (if kind=84 then none else some (Let.aL 84 (cm w' bm (bO K sg) (sg.map (·.1)))))=_;simp only[bW];rw[aA.aL (K:=bO K sg) h' λn hn=>?_];obtain⟨g,hg,rfl⟩:=Wm.1 hn;exact (hok.2.num g hg).1
theorem Od(b num:Nat)(bm:Nat->Nat)(K:al)(L:Let)(w:World)(h:sG b num bm K w L):
  Calls aa.prog 18 #[.pointer (some ⟨b,0,none⟩),.string L.bytes] w λe w'=>e=.returned (.tuple #[.string (fK (bW K L)),.int .i64 0])/\aA w' b bm num (gY K L)/\Fr (λq=>kN bm q/\∃k sg,L=.aL k sg) w w':=by
 refine (Of b num bm K L w h).mono ?_;rintro e w' ⟨R,rfl,rfl,h1,h2⟩;exact⟨by rw[RH h.rep h1 h.ok],h1,h2⟩
end
end Go.Proofs.YtldmcdeibiclkaaGreatDoorQ
namespace Go.Proofs.YtldmcdeibiclkaaGreatDoorQ
variable {L:Let}{i k l lev:Nat}{K':al}{ns:List Nat}{s:ByteArray}
open Go.RowKit
def eT(ks:Nat->ByteArray):Let->Nat->Bool
 |.aL _ sg,k=>decide (aC (ks k)∈sg.map (·.1))
 |_,_=>false
def lL(K:al):Let->Prop
 |.root d=>0<=d/\d<18446744073709551616
 |.nodes lev sg=>lS lev sg
 |.aL kind sg=>(kind=83\/kind=84)/\∃ns,(1<=ns.length/\ns.length<=64)/\(∀n∈ns,n<64)/\ns.Pairwise (· < ·)/\sg=bZ K ns
def jh(K:al):Prop:=∀n,n<64->jL K n (kX K n)
theorem aA.j7{w:World}{b num:Nat}{bm:Nat->Nat}{K:al}(h:aA w b bm num K):jh K:=λn hn=>by
 have:=(h.2.1 n hn).names;rw[xp this];exact this
theorem zq{K:al}(hN:jh K){n:Nat}(hn:n<64){r:ai}:r∈kS K n↔aC r.1=n/\cH (K r.1).1/\r.2=K r.1:=by
 rw[kS,Wm];constructor
 ·rintro⟨x,hx,rfl⟩;obtain⟨h1,h2⟩:=((hN n hn).2 x).1 hx;exact⟨h1,h2,rfl⟩
 ·rintro⟨h1,h2,h3⟩;refine⟨r.1.data.toList,((hN n hn).2 _).2 ?_,?_⟩
  ·rw[sW];exact⟨h1,h2⟩
  ·rw[sW];exact Prod.ext rfl h3.symm
theorem O6{K:al}(hN:jh K')(hns:∀n∈ns,n<64)(hok:ki (bZ K' ns))(h1:aC s∈ns)(h2:cH (K' s).1):bO K (bZ K' ns) s=kJ (K s) (K' s):=
 Sv hok (g:=(aC s,kS K' (aC s))) (r:=(s,K' s)) (Wm.2 ⟨_,h1,rfl⟩) ((zq hN (hns _ h1)).2 ⟨rfl,h2,rfl⟩)
theorem uP{K:al}(hN:jh K')(hns:∀n∈ns,n<64)(h: ¬(aC s∈ns/\cH (K' s).1)):bO K (bZ K' ns) s=K s:=by
 refine IQ λg hg r hr e=>h ?_;obtain⟨n,hn,rfl⟩:=Wm.1 hg;obtain⟨h1,h2,_⟩:=(zq hN (hns n hn)).1 hr;subst e;exact⟨h1▸hn,h2⟩
theorem unknown{c:Ctx}(h: ¬cH c):∀b,b<4->c b=0:=λb hb=>V0 λhn=>h ⟨b,hb,hn⟩
def ay.fG(g:ay)(ks:Nat->ByteArray)(i k:Nat)(L:Let)(A:Array Value):ay:=
 {g with
  K:=λj=>if j=i then gY (g.K i) L else g.K j
  kn:=λj l q=>if j=i then eu (eT ks L) 3 (g.kn i) (g.kn k) l q else g.kn j l q
  go:=λj l q=>if j=i then eu (eT ks L) 3 (g.go i) (g.go k) l q else g.go j l q
  A:=A}
theorem GJ{K:al}(hN:jh K')(hL:lL K' L)(hok:L.Ok)(ks:Nat->ByteArray)(l:Nat):(gY K L (ks l)=kJ (K (ks l)) (K' (ks l))/\eT ks L l=true)\/(gY K L (ks l)=K (ks l)/\(eT ks L l=true->¬cH (K' (ks l)).1)):=by
 cases L with
 |root d=>exact .inr ⟨rfl,λh=>by cases h⟩
 |nodes lev sg=>exact .inr ⟨rfl,λh=>by cases h⟩
 |aL kind sg=>
  obtain⟨_,ns,h1,h2,h3,rfl⟩:=hL;have hm:(bZ K' ns).map (·.1)=ns:=by rw[bZ,WN];show ns.map (λn=>n)=ns;rw[List.map_id']
  by_cases hk:aC (ks l)∈ns/\cH (K' (ks l)).1
  ·exact .inl ⟨O6 hN h2 hok.2 hk.1 hk.2,by simp only[eT,hm];exact Xl hk.1⟩
  ·refine .inr ⟨uP hN h2 hk,λht hk'=>hk ⟨?_,hk'⟩⟩;simp only[eT,hm]at ht;exact of_decide_eq_true ht
theorem Ex{K:al}(hN:jh K')(hL:lL K' L)(h: ¬cH (K' s).1):gY K L s=K s:=by
 cases L with
 |root d=>rfl
 |nodes lev sg=>rfl
 |aL kind sg=>
  obtain⟨_,ns,h1,h2,h3,rfl⟩:=hL;exact uP hN h2 λhk=>h hk.2
theorem yy(f:Nat->Bool):∀n,cg f n<=n
 |0=>eR _
 |n+1=>by
  have:=yy f n;simp only[cg];split<;>omega
theorem bS.kQ{ks:Nat->ByteArray}{g:ay}(hI:bS ks g)(hi:i<g.nr)(hl:l<3):fR (g.K i (ks l)).1 (g.K i (ks l)).2:=by
 rw[hI.hex i l hi hl];exact Be hI.eH hI.hlen hI.dq (hI.dc i l hi hl)
theorem bS.CE{ks:Nat->ByteArray}{g:ay}(hI:bS ks g)(hk:k<g.nr)(hl:l<3)(h: ¬cH (g.K k (ks l)).1):∀j,g.kn k l j=false:=λj=>by
 cases hj:g.kn k l j with
 |false=>rfl
 |true=>
  have hG:=hI.dc k l hk hl;have hlt:j<g.ws.length:=V0 λhn=>by rw[hG.2.1 j (by omega)]at hj;cases hj
  have hx:g.ws[j]?=some g.ws[j]:=List.getElem?_eq_getElem hlt;have h1:=((hG.1 j _ hx).1 hj).2;have h2:=(hI.eH.le hx).1;have h3:=unknown h _ (hI.dQ _ (VB hlt));omega
theorem uY{ks:Nat->ByteArray}{g:ay}(hI:bS ks g)(hi:i<g.nr)(hk:k<g.nr)(hl:l<3)(hN:jh (g.K k))(hL:lL (g.K k) L)(hok:L.Ok):
  Good g.ws l (gY (g.K i) L (ks l)).1 (eu (eT ks L) 3 (g.kn i) (g.kn k) l)/\(gY (g.K i) L (ks l)).2=expected g.ws (eu (eT ks L) 3 (g.kn i) (g.kn k) l) (eu (eT ks L) 3 (g.go i) (g.go k) l) l/\(gY (g.K i) L (ks l)).1 i=(g.K i (ks l)).1 i:=by
 have hGi:=hI.dc i l hi hl;have hGk:=hI.dc k l hk hl;rcases GJ (K:=g.K i) hN hL hok ks l with⟨e,ht⟩|⟨e,ht⟩
 ·have e1:eu (eT ks L) 3 (g.kn i) (g.kn k) l=λj=>g.kn i l j||g.kn k l j:=funext λj=>by simp[eu,ht,hl]
  have e2:eu (eT ks L) 3 (g.go i) (g.go k) l=λj=>g.go i l j||g.go k l j:=funext λj=>by simp[eu,ht,hl]
  rw[e,e1,e2];refine⟨hGi.join hGk,?_,?_⟩
  ·show ly _ _ _ _=_;have o1:=hI.kQ hi hl;have o2:=hI.kQ hk hl;rw[hI.hex i l hi hl]at o1;rw[hI.hex k l hk hl]at o2;rw[hI.hex i l hi hl,hI.hex k l hk hl];exact Rv hI.eH.num hGi hGk (λj=>hI.dE i l j hi hl) (λj=>hI.dE k l j hk hl) o1 o2
  ·have h1:=hI.aD i l hi hl;have h2:=(hGk.2.2 i).2;simp only[kJ,aU];omega
 ·have e1:eu (eT ks L) 3 (g.kn i) (g.kn k) l=g.kn i l:=funext λj=>by
   unfold eu;split
   ·rename_i h;rw[hI.CE hk hl (ht h.2) j,Bool.or_false]
   ·rfl
  have e2:eu (eT ks L) 3 (g.go i) (g.go k) l=g.go i l:=funext λj=>by
   unfold eu;split
   ·rename_i h;have hn:=hI.CE hk hl (ht h.2) j;have hs:g.go k l j=false:=by
     cases hg:g.go k l j with
     |false=>rfl
     |true=>rw[hI.dE k l j hk hl hg]at hn;cases hn
    rw[hs,Bool.or_false]
   ·rfl
  rw[e,e1,e2];exact⟨hGi,hI.hex i l hi hl,rfl⟩
theorem bS.fG{ks:Nat->ByteArray}{g:ay}(hI:bS ks g)(A:Array Value)(hi:i<g.nr)(hk:k<g.nr)(hN:jh (g.K k))(hL:lL (g.K k) L)(hok:L.Ok):bS ks (g.fG ks i k L A) where
 cC:=hI.cC
 hlen:=hI.hlen
 eH:=hI.eH
 dq:=hI.dq
 dQ:=hI.dQ
 dc:=λj l hj hl=>by
  simp only[ay.fG];by_cases e:j=i
  ·subst e;simpa using (uY hI hi hk hl hN hL hok).1
  ·simpa[e] using hI.dc j l hj hl
 aD:=λj l hj hl=>by
  simp only[ay.fG];by_cases e:j=i
  ·subst e;rw[AS rfl,(uY hI hi hk hl hN hL hok).2.2];exact hI.aD j l hj hl
  ·simpa[e] using hI.aD j l hj hl
 hex:=λj l hj hl=>by
  simp only[ay.fG];by_cases e:j=i
  ·subst e;simpa using (uY hI hi hk hl hN hL hok).2.1
  ·simpa[e] using hI.hex j l hj hl
 il:=λj l q hj hl hq=>by
  simp only[ay.fG];by_cases e:j=i
  ·subst e;rw[AS rfl];unfold eu;rw[hI.il j l q hi hl hq,hI.il k l q hk hl hq];simp
  ·rw[AI e];exact hI.il j l q hj hl hq
 jH:=hI.jH
 jb:=hI.jb
 eM:=λj hj=>by
  simp only[ay.fG];by_cases e:j=i
  ·subst e;rw[AS rfl];intro s;by_cases hs: ∃l,l<3/\s=ks l
   ·obtain⟨l,hl,rfl⟩:=hs;obtain⟨h1,h2,_⟩:=uY hI hi hk hl hN hL hok;have ho:=Be hI.eH hI.hlen hI.dq (go:=eu (eT ks L) 3 (g.go j) (g.go k) l) h1;rw[h2];refine⟨λv hv=>(ho.iS v hv).1,?_,λv hv=>(ho.iS v hv).2.2.1,ho.ctx⟩;rw[sT λq x hx h=>⟨((h1.1 q x hx).1 h).1,hI.dQ x (List.mem_of_getElem? hx)⟩]
    have:=yy (λq=>eu (eT ks L) 3 (g.kn j) (g.kn k) l q&&!eu (eT ks L) 3 (g.go j) (g.go k) l q) g.ws.length
    have:=hI.hlen;omega
   ·rw[Ex hN hL λh=>hs (hI.eV k hk s h)];exact hI.eM j hj s
  ·rw[AI e];exact hI.eM j hj
 eV:=λj hj s hs=>by
  simp only[ay.fG]at hs;by_cases e:j=i
  ·subst e;rw[AS rfl]at hs;by_cases hk':cH (g.K k s).1
   ·exact hI.eV k hk s hk'
   ·rw[Ex hN hL hk']at hs;exact hI.eV j hj s hs
  ·rw[AI e]at hs;exact hI.eV j hj s hs
 dE:=λj l q hj hl h=>by
  simp only[ay.fG]at h ⊢;by_cases e:j=i
  ·subst e;rw[AS rfl]at h ⊢;unfold eu at h ⊢;split
   ·rename_i ht;rw[AS ht,VU]at h;rw[VU];exact h.imp (hI.dE j l q hj hl) (hI.dE k l q hk hl)
   ·rename_i ht;rw[AI ht]at h;exact hI.dE j l q hj hl h
  ·rw[AI e]at h ⊢;exact hI.dE j l q hj hl h
section
section
variable {w:World}{b num:Nat}{bm:Nat->Nat}{K:al}{ks:Nat->ByteArray}
theorem vz(h:aA w b bm num K)(hk:∀s,cH (K s).1->∃k,k<3/\s=ks k):yr w bm:=λn hn=>by
 have hN:=(h.2.1 n hn).names;have hl:(eP (cX (cE w (bm n)))).length=(cE w (bm n)).length:=by rw[(oe _).length_eq,cX,VJ]
 rw[<-hl];have hnd:(eP (cX (cE w (bm n)))).Nodup:=hN.1.imp λ{a b} hab e=>by rw[e]at hab;exact List.lt_irrefl _ hab
 have:=List.Nodup.length_le_of_subset (l₂:=[(ks 0).data.toList,(ks 1).data.toList,(ks 2).data.toList]) hnd λx hx=>by
  obtain⟨k,hk3,e⟩:=hk _ ((hN.2 x).1 hx).2;have hx':x=(ks k).data.toList:=by rw[<-e];simp[dF]
  rw[hx'];rcases (show k=0\/k=1\/k=2 by omega) with rfl|rfl|rfl<;>simp
 simp at this;omega
theorem Iy(h:aA w b bm num K)(hn: ¬cH (K s).1):(K s).2= []:=by
 have hs:=h.2.1 (aC s) (eX s);have he:=(not_congr (FD hs rfl)).2 hn;have he':cy (cE w (bm (aC s))) s=none:=V0 λh=>he h;obtain⟨es,clock,e1,e2,e3,e4,e5⟩:=hs;have hes:cE w (bm (aC s))=es.toList:=by simp[cE,e1]
 rw[hes]at he';obtain⟨sv,h1,h2⟩:=e3 s rfl;rw[he']at h1;simp only[Option.getD_none,lh,bD]at h1;injection h1 with h1;have hz:(#[Value.int .i64 ((K s).1 0),.int .i64 ((K s).1 1),.int .i64 ((K s).1 2),.int .i64 ((K s).1 3),sv]:Array Value)[4]?=some (.slice none 0 0):=by rw[<-h1];rfl
 simp at hz;rw[hz]at h2;obtain⟨ad,cap,e⟩:=pk h2;injection e with _ e;exact List.eq_nil_of_length_eq_zero e.symm
end
theorem Gn{M:Nat}:∀{sg:List (Nat×List ai)},(∀g∈sg,(gb g.2).size<=M)->(bR sg).size<=sg.length*(5+M)
 |[],_=>by simp[bR]
 |g::sg,h=>by
  have h1:=Gn (sg:=sg) λx hx=>h x (by simp[hx]);have h2:=h g (by simp);simp only[bR,gB,IT,dO,lZ,VL,Nat.add_mul] at*;omega
theorem wU{w:World}{b num kind:Nat}{bm:Nat->Nat}{K:al}(h:aA w b bm num K)(hK:dD w bm K)(hl:ns.length<=64)(hns:∀n∈ns,n<64):(Let.aL kind (cm w bm K ns)).bytes.size<=140737488355328:=by
 have h1:=Gn (M:=1829000) (sg:=cm w bm K ns) λg hg=>by
  obtain⟨n,hn,rfl⟩:=Wm.1 hg
  have:=xY h hK (hns n hn);rw[eO,BP]at this;exact this
 have h2:(cm w bm K ns).length=ns.length:=VJ ..;simp only[Let.bytes,IT,dO];rw[h2]at h1;have h3:ns.length*(5+1829000)<=64*(5+1829000):=Nat.mul_le_mul_right _ hl;omega
theorem OY{sg:List Nd}(h:lS lev sg):(Let.nodes lev sg).bytes.size<=140737488355328:=by
 have:=h.len.2;simp only[Let.bytes,IT,dO,BJ];omega
abbrev o6(w:World)(g:ay):Prop:=∀i,i<g.nr->aA w (g.b i) (g.bm i) i (g.K i)
section
variable {w:World}{g:ay}{ks:Nat->ByteArray}
theorem nX(hN:o6 w g)(hI:bS ks g)(hi:i<g.nr):dD w (g.bm i) (g.K i):=
 ⟨hI.eM i hi,vz (hN i hi) (hI.eV i hi)⟩
theorem ED(hN:o6 w g)(hI:bS ks g)(hi:i<g.nr):Fit (g.K i):=λs=>by
 refine⟨?_,OF (hI.eM i hi s).2.1 (by decide)⟩;by_cases hk:cH (g.K i s).1
 ·obtain⟨l,hl,rfl⟩:=hI.eV i hi s hk;exact hI.kQ hi hl
 ·rw[Iy (hN i hi) hk];exact⟨(hI.eM i hi s).2.2.2,(λv hv=>by cases hv),List.Pairwise.nil⟩
theorem oV(hN:o6 w g)(hI:bS ks g)(hk:k<g.nr)(hL:lL (g.K k) L):L.Ok:=by
 cases L with
 |root d=>exact hL
 |nodes lev sg=>exact hL
 |aL kind sg=>
  obtain⟨h0,ns,h1,h2,h3,rfl⟩:=hL;have hr:=hN k hk;refine⟨h0,?_⟩;rw[<-hr.aL h2];exact TU hr (ED hN hI hk) (nX hN hI hk).2 h1 h2 h3
theorem TQ(hN:o6 w g)(hI:bS ks g)(hk:k<g.nr)(hL:lL (g.K k) L):L.bytes.size<=140737488355328:=by
 cases L with
 |root d=>simp only[Let.bytes,IT,dO,sI];decide
 |nodes lev sg=>exact OY hL
 |aL kind sg=>
  obtain⟨h0,ns,h1,h2,h3,rfl⟩:=hL;have hr:=hN k hk;rw[<-hr.aL h2];exact wU hr (nX hN hI hk) h1.2 h2
theorem QQ(hN:o6 w g)(hI:bS ks g)(hi:i<g.nr)(hk:k<g.nr)(hL:lL (g.K k) L):sG (g.b i) i (g.bm i) (g.K i) w L where
 rep:=hN i hi
 wQ:=nX hN hI hi
 fit:=ED hN hI hi
 ok:=oV hN hI hk hL
 size:=TQ hN hI hk hL
 out:=λW hW ns hl hns=>wU hW ⟨hI.eM i hi,vz hW (hI.eV i hi)⟩ hl hns
 aL:=λkind sg e=>by
  have hok:=oV hN hI hk hL;have hI':=hI.fG (i:=i) g.A hi hk (hN k hk).j7 hL hok;subst e;obtain⟨h0,ns,h1,h2,h3,rfl⟩:=hL;have eK:(g.fG ks i k (.aL kind (bZ (g.K k) ns)) g.A).K i=bO (g.K i) (bZ (g.K k) ns):=by simp[ay.fG,gY]
  have hm:(bZ (g.K k) ns).map (·.1)=ns:=by rw[bZ,WN];show ns.map (λn=>n)=ns;rw[List.map_id']
  refine⟨λx hx r hr=>?_,λW hW=>?_⟩
  ·obtain⟨n,hn,rfl⟩:=Wm.1 hx;obtain⟨_,_,e⟩:=(zq (hN k hk).j7 (h2 n hn)).1 hr;rw[e];exact OF (hI.eM k hk r.1).2.1 (by decide)
  ·have hf:dD W (g.bm i) (bO (g.K i) (bZ (g.K k) ns)):=⟨eK▸hI'.eM i hi,vz hW (eK▸hI'.eV i hi)⟩
   refine⟨hf,?_⟩;rw[hm];exact wU hW hf h1.2 h2
end
end
structure Ab where
 K:Nat->al
 kn:Nat->Nat->Nat->Bool
 go:Nat->Nat->Nat->Bool
abbrev ay.ab(g:ay):Ab:=⟨g.K,g.kn,g.go⟩
def Ab.ag(ks:Nat->ByteArray)(s:Ab)(i k:Nat)(L:Let):Ab where
 K:=λj=>if j=i then gY (s.K i) L else s.K j
 kn:=λj l q=>if j=i then eu (eT ks L) 3 (s.kn i) (s.kn k) l q else s.kn j l q
 go:=λj l q=>if j=i then eu (eT ks L) 3 (s.go i) (s.go k) l q else s.go j l q
def tS:Let->Nat
 |.root _=>1
 |.nodes lev _=>2+lev
 |.aL kind _=>kind-78
theorem zf(K:al)(lv n:Nat):0<=aM K lv n/\aM K lv n<18446744073709551616:=Rp _ _ _
theorem zR{K:al}(hl:lev<3)(h1:1<=ns.length/\ns.length<=64)(hns:∀n∈ns,n<4 ^ lev)(ha:ns.Pairwise (· < ·)):lS lev (dP K lev ns) where
 low:=hl
 len:=by rw[dP,VJ];exact h1
 num:=λg hg=>by
  obtain⟨n,hn,rfl⟩:=Wm.1 hg;refine⟨hns n hn,λi hi=>?_⟩;show 0<=(if i<4 then aM K (lev+1) (n*4+i) else 0)/\(if i<4 then aM K (lev+1) (n*4+i) else 0)<_;rw[AS hi];exact zf _ _ _
 iM:=by
  rw[dP,WN];show List.Pairwise _ (ns.map λn=>n);rw[List.map_id'];exact ha
theorem Ku{K:al}{L':Let}(hok:L.Ok)(h:bW K L=some L'):lL (gY K L) L'/\tS L'=tS L+1:=by
 cases L with
 |root d=>
  simp only[bW]at h;split at h
  ·cases h
  ·cases h;exact⟨zR (by decide) (by decide) (by simp) (by simp),rfl⟩
 |nodes lev sg=>
  have ho:lS lev sg:=hok;have hl:=ho.low;have hd:=tq (D:=aM K (lev+1)) λg hg=>(ho.num g hg).1;have ha:=yD (D:=aM K (lev+1)) ho.iM;have h4:=(kU (show lev+1<=3 by omega)).1;have hn:=wH (a:=0) (m:=64) ha λx hx=>⟨WD _,VA (hd x hx) h4⟩
  simp only[bW]at h;split at h
  ·cases h
  ·rename_i h0;have hp:1<=(bF (aM K (lev+1)) sg).length/\(bF (aM K (lev+1)) sg).length<=64:=⟨List.length_pos_iff.2 h0,by omega⟩
   split at h
   ·rename_i h2;cases h;subst h2;exact⟨⟨.inl rfl,_,hp,hd,ha,rfl⟩,rfl⟩
   ·cases h;refine⟨zR (by omega) hp hd ha,?_⟩;simp only[tS];omega
 |aL kind sg=>
  obtain⟨hk,hs⟩:=hok;simp only[bW]at h;split at h
  ·cases h
  ·rename_i h4;cases h;refine⟨⟨.inr rfl,_,?_,λn hn=>?_,hs.iM,rfl⟩,?_⟩
   ·rw[VJ];exact hs.len
   ·obtain⟨g,hg,rfl⟩:=Wm.1 hn;exact (hs.num g hg).1
   ·rcases hk with rfl|rfl
    ·rfl
    ·exact absurd rfl h4
def kB:Let->Nat
 |.root _=>82
 |.nodes _ _=>78
 |.aL kind _=>kind
theorem vQ(hok:L.Ok){T:ByteArray}(hT:L.bytes=T):0<T.size/\∀h:0<T.size,(T[0]'h).toNat=kB L:=by
 have key:∀(n:Nat) (R:ByteArray),n<256->L.bytes=av n++R->n=kB L->0<T.size/\∀h:0<T.size,(T[0]'h).toNat=kB L:=λn R hn e hb=>by
  rw[hT]at e;have e':T=ByteArray.empty++(av n++R):=by rw[jm];exact e
  have hp:0<T.size:=by rw[e,IT,dO];omega
  exact⟨hp,λh=>by rw[<-hb];exact byte_at (P:=ByteArray.empty) hn e' h⟩
 cases L with
 |root d=>exact key 82 _ (by decide) rfl rfl
 |nodes lev sg=>exact key 78 _ (by decide) rfl rfl
 |aL kind sg=>exact key kind _ (by rcases hok.1 with rfl|rfl<;>decide) rfl rfl
end Go.Proofs.YtldmcdeibiclkaaGreatDoorQ
namespace Go.Proofs.YtldmcdeibiclkaaGreatDoorQ
variable {K K':al}{lv:Nat}{ws:List Wr}{g:ay}
section
theorem Aw(h:jg ws){b k:Nat}{m:Int}(h1:1<=m):∀i,i<=ws.length->m<=bu (ws.take i) b k->∃(j:Nat) (x:Wr),ws[j]?=some x/\x.1=b/\x.2.1=k/\x.2.2.1=m
 |0,_,h2=>by simp[bu]at h2;omega
 |i+1,hi,h2=>by
  by_cases hm:m<=bu (ws.take i) b k
  ·exact Aw h h1 i (by omega) hm
  ·have hx:ws[i]?=some ws[i]:=List.getElem?_eq_getElem (by omega);rw[VO (by omega),oo]at h2;have hs:=h i _ hx;by_cases hc:ws[i].1=b/\ws[i].2.1=k
   ·refine⟨i,_,hx,hc.1,hc.2,?_⟩;rw[hs,hc.1,hc.2];simp only[bu,hc,and_self,IS]at h2;omega
   ·simp only[bu,hc,Vy]at h2;omega
theorem Good.unique(hS:jg ws){k:Nat}{c d:Ctx}{kn:Nat->Bool}(h:Good ws k c kn)(h':Good ws k d kn):c=d:=by
 have key:∀{c d:Ctx},Good ws k c kn->Good ws k d kn->∀b,¬c b<d b:=λ{c d} h h' b hlt=>by
  have h1:=h.2.2 b;have h2:=h'.2.2 b;obtain⟨j,x,hx,e1,e2,e3⟩:=Aw hS (b:=b) (k:=k) (m:=c b+1) (by omega) ws.length (eR _) (by rw[VW];omega)
  have:=(h'.1 j x hx).2 ⟨e2,by rw[e1,e3];omega⟩
  have:=((h.1 j x hx).1 this).2;rw[e1,e3]at this;omega
 funext b
 have:=key h h' b
 have:=key h' h b;omega
theorem II{ks:Nat->ByteArray}(hI:bS ks g){i j l:Nat}(hi:i<g.nr)(hj:j<g.nr)(hl:l<3)(hk:g.kn i l=g.kn j l)(hg:g.go i l=g.go j l):g.K i (ks l)=g.K j (ks l):=by
 have h1:=hI.dc i l hi hl;have h2:=hI.dc j l hj hl;rw[hk]at h1;exact Prod.ext (h1.unique hI.eH h2) (by rw[hI.hex i l hi hl,hI.hex j l hj hl,hk,hg])
def SO(K K':al)(n:Nat):Prop:=∀s,aC s=n->(cH (K s).1↔cH (K' s).1)/\(cH (K s).1->K s=K' s)
theorem xA{n:Nat}(h:SO K K' n):aB K n=aB K' n:=by
 have hN:jL K n=jL K' n:=by
  funext L;unfold jL;refine propext ⟨λ⟨h1,h2⟩=>⟨h1,λx=>?_⟩,λ⟨h1,h2⟩=>⟨h1,λx=>?_⟩⟩
  ·rw[h2 x];exact⟨λq=>⟨q.1,(h _ q.1).1.1 q.2⟩,λq=>⟨q.1,(h _ q.1).1.2 q.2⟩⟩
  ·rw[h2 x];exact⟨λq=>⟨q.1,(h _ q.1).1.2 q.2⟩,λq=>⟨q.1,(h _ q.1).1.1 q.2⟩⟩
 have hn:kX K n=kX K' n:=by unfold kX;rw[hN]
 have hr:kS K n=kS K' n:=by
  unfold kS;rw[<-hn];by_cases hex: ∃L,jL K n L
  ·obtain⟨L,hL⟩:=hex;rw[xp hL];refine Wb λx hx=>?_;obtain⟨h1,h2⟩:=(hL.2 x).1 hx;rw[(h _ h1).2 h2]
  ·have:kX K n= []:=by unfold kX;rw[dif_neg hex]
   rw[this];rfl
 unfold aB;rw[hr]
def dz(K K':al)(lv n:Nat):Prop:=aM K lv n≠aM K' lv n
structure iE(K K':al):Prop where
 leaf:∀n,n<64->aB K n≠aB K' n->dz K K' 3 n
 node:∀lv n,lv<3->n<4 ^ lv->(∃i,i<4/\dz K K' (lv+1) (n*4+i))->dz K K' lv n
theorem iE.symm(h:iE K K'):iE K' K:=
 ⟨λn hn e=>(h.leaf n hn e.symm).symm,λlv n hl hn ⟨i,hi,hd⟩=>(h.node lv n hl hn ⟨i,hi,hd.symm⟩).symm⟩
theorem yL(K:al)(hl:lv<3)(n:Nat):aM K lv n=fV λj=>aM K (lv+1) (n*4+j):=by
 unfold aM;rw[show 3-lv=(3-(lv+1))+1 by omega,dg]
theorem Ud{n:Nat}(hl:lv<3)(h:dz K K' lv n): ∃i,i<4/\dz K K' (lv+1) (n*4+i):=by
 refine V0 λhn=>h ?_;rw[yL K hl,yL K' hl,fV,fV,yg 4 λi hi=>?_];exact V0 λe=>hn ⟨i,hi,e⟩
theorem SJ{n:Nat}(h:dz K K' 3 n):aB K n≠aB K' n:=λe=>h (by
 show dg (aB K) 0 n=dg (aB K') 0 n;rw[dg,dg,e])
open Classical in
noncomputable def aQ(K K':al)(lv:Nat):List Nat:=(List.range (4 ^ lv)).filter λn=>decide (dz K K' lv n)
theorem ue{n:Nat}:n∈aQ K K' lv↔n<4 ^ lv/\dz K K' lv n:=by
 simp[aQ,List.mem_filter,List.mem_range]
theorem Dt(K K':al)(lv:Nat):aQ K K' lv=aQ K' K lv:=by
 unfold aQ;refine Xe λn _=>?_;rw[decide_eq_decide];exact⟨VG,VG⟩
theorem Rh(m:Nat):List.range (m*4)=(List.range m).flatMap λn=>(List.range 4).map λj=>n*4+j:=by
 induction m with
 |zero=>rfl
 |succ m ih=>
  have e:(m+1)*4=m*4+4:=by omega
  rw[e,List.range_add,ih,Wn (n:=m),WI];simp
theorem C0{α β:Type}(p:α->Bool)(f:α->List β):∀l:List α,(∀a∈l,p a=false->f a= [])->(l.filter p).flatMap f=l.flatMap f
 |[],_=>rfl
 |a::l,h=>by
  have ih:=C0 p f l λx hx=>h x (by simp[hx]);cases hp:p a with
  |true=>rw[List.filter_cons_of_pos hp,Wi,Wi,ih]
  |false=>rw[List.filter_cons_of_neg (by rw[hp];simp),ih,Wi,h a (by simp) hp,List.nil_append]
theorem vO(hT:iE K K')(hl:lv<3):bF (aM K (lv+1)) (dP K' lv (aQ K K' lv))=aQ K K' (lv+1):=by
 have h1:bF (aM K (lv+1)) (dP K' lv (aQ K K' lv))=(aQ K K' lv).flatMap λn=>((List.range 4).map λj=>n*4+j).filter λc=>Classical.propDecidable (dz K K' (lv+1) c)|>.decide:=by
  unfold bF dP;rw[List.flatMap_map];refine kA _ λn _=>?_;unfold dy;rw[List.filter_map];congr 1;refine Xe λj hj=>?_;have hj4:j<4:=List.mem_range.1 hj;simp only[hj4,IS,Function.comp];exact decide_eq_decide.2 Iff.rfl
 rw[h1];unfold aQ;rw[C0 _ _ _ λn hn hp=>?_,Wf,Rh,si]
 ·rw[List.filter_eq_nil_iff];intro c hc hd;obtain⟨j,hj,rfl⟩:=Wm.1 hc;have hd':dz K K' (lv+1) (n*4+j):=by simpa using hd
  have:=hT.node lv n hl (List.mem_range.1 hn) ⟨j,List.mem_range.1 hj,hd'⟩;simp[this]at hp
theorem zS(hl:lv<3)(h:aQ K K' lv≠[]):aQ K K' (lv+1)≠[]:=by
 obtain⟨n,hn⟩:=List.exists_mem_of_ne_nil _ h;obtain⟨h1,h2⟩:=ue.1 hn;obtain⟨i,hi,hd⟩:=Ud hl h2;exact List.ne_nil_of_mem (ue.2 ⟨by rw[Wf];omega,hd⟩)
theorem zd(h:dz K K' 0 0):aQ K K' 0= [0]:=by
 unfold aQ;simp[Wn,h]
theorem FP(hT:iE K K')(h: ¬dz K K' 0 0):∀lv,lv<=3->aQ K K' lv= []
 |0,_=>by unfold aQ;simp[Wn,h]
 |lv+1,hl=>by
  rw[<-vO hT (by omega),FP hT h lv (by omega)];rfl
end
section
structure Cv where
 s:Ab
 L:Option Let
 i:Nat
 k:Nat
 aW:Nat
 told:Nat
def touT(m:Nat):Option Let->Nat
 |some (.aL kind sg)=>if kind=83 then sg.length else m
 |_=>m
noncomputable def gW(ks:Nat->ByteArray):Nat->Cv->Cv
 |0,c=>c
 |m+1,c=>match c.L with
  |none=>c
  |some L=>gW ks m ⟨c.s.ag ks c.i c.k L,bW (c.s.K c.i) L,c.k,c.i,(if (bW (c.s.K c.i) L).isSome then c.aW+1 else c.aW),touT c.told (bW (c.s.K c.i) L)⟩
theorem yV(ks:Nat->ByteArray)(m:Nat)(s:Ab)(i k aW told:Nat):gW ks m ⟨s,none,i,k,aW,told⟩=⟨s,none,i,k,aW,told⟩:=by
 cases m with
 |zero=>rw[gW]
 |succ m=>rw[gW]
theorem ni(ks:Nat->ByteArray)(m:Nat)(s:Ab)(L:Let)(i k aW told:Nat):gW ks (m+1) ⟨s,some L,i,k,aW,told⟩=gW ks m ⟨s.ag ks i k L,bW (s.K i) L,k,i,(if (bW (s.K i) L).isSome then aW+1 else aW),touT told (bW (s.K i) L)⟩:=by
 rw[gW]
theorem rV(ks:Nat->ByteArray)(s:Ab)(i k:Nat){L:Let}(h:∀kind sg,L≠.aL kind sg):s.ag ks i k L=s:=by
 have h1:gY (s.K i) L=s.K i:=by
  cases L with
  |aL kind sg=>exact absurd rfl (h kind sg)
  |_=>rfl
 have h2:eT ks L=λ_=>false:=by
  funext l;cases L with
  |aL kind sg=>exact absurd rfl (h kind sg)
  |_=>rfl
 unfold Ab.ag;rw[h1,h2];have h3:∀(a b:Nat->Nat->Bool),eu (λ_=>false) 3 a b=a:=λa b=>by funext l q;simp[eu]
 simp only[h3];cases s with
 |mk K kn go=>
  congr 1
  ·funext j;split
   ·rename_i e;rw[e]
   ·rfl
  ·funext j l q;split
   ·rename_i e;rw[e]
   ·rfl
  ·funext j l q;split
   ·rename_i e;rw[e]
   ·rfl
section
variable {ks:Nat->ByteArray}{s:Ab}{i k:Nat}
theorem QC(h: ¬dz (s.K i) (s.K k) 0 0):gW ks 9 ⟨s,some (.root (aM (s.K k) 0 0)),i,k,1,0⟩=⟨s,none,k,i,1,0⟩:=by
 have e:bW (s.K i) (.root (aM (s.K k) 0 0))=none:=by
  simp only[bW];rw[AS];exact (V0 λq=>h λe=>q e.symm)
 have h1:=rV ks s i k (L:=.root (aM (s.K k) 0 0)) (λ_ _ h=>by cases h);generalize Let.root (aM (s.K k) 0 0)=L1 at*;rw[ni ks 8,e,h1,yV];simp only[Option.isSome_none,Vz,Vy,touT]
theorem SI(hT:iE (s.K i) (s.K k))(h:dz (s.K i) (s.K k) 0 0):
  gW ks 9 ⟨s,some (.root (aM (s.K k) 0 0)),i,k,1,0⟩=⟨(s.ag ks i k (.aL 83 (bZ (s.K k) (aQ (s.K i) (s.K k) 3)))).ag ks k i (.aL 84 (bZ (bO (s.K i) (bZ (s.K k) (aQ (s.K i) (s.K k) 3))) (aQ (s.K i) (s.K k) 3))),none,i,k,6,(aQ (s.K i) (s.K k) 3).length⟩:=by
 have hne:∀lv,lv<=3->aQ (s.K i) (s.K k) lv≠[]:=λlv hl=>by
  induction lv with
  |zero=>rw[zd h];simp
  |succ lv ih=>exact zS (by omega) (ih (by omega))
 have e1:bW (s.K i) (.root (aM (s.K k) 0 0))=some (.nodes 0 (dP (s.K i) 0 (aQ (s.K i) (s.K k) 0))):=by
  simp only[bW];rw[AI λe=>h e.symm,zd h]
 have f1:∀lv,lv<3->bF (aM (s.K k) (lv+1)) (dP (s.K i) lv (aQ (s.K i) (s.K k) lv))=aQ (s.K i) (s.K k) (lv+1):=λlv hl=>by
  rw[Dt (s.K i) (s.K k) lv,Dt (s.K i) (s.K k) (lv+1)];exact vO hT.symm hl
 have f0:∀lv,lv<3->bF (aM (s.K i) (lv+1)) (dP (s.K k) lv (aQ (s.K i) (s.K k) lv))=aQ (s.K i) (s.K k) (lv+1):=λlv hl=>vO hT hl;have e2:bW (s.K k) (.nodes 0 (dP (s.K i) 0 (aQ (s.K i) (s.K k) 0)))=some (.nodes 1 (dP (s.K k) 1 (aQ (s.K i) (s.K k) 1))):=by
  simp only[bW,f1 0 (by omega)];rw[AI (hne 1 (by omega)),AI (by omega)]
 have e3:bW (s.K i) (.nodes 1 (dP (s.K k) 1 (aQ (s.K i) (s.K k) 1)))=some (.nodes 2 (dP (s.K i) 2 (aQ (s.K i) (s.K k) 2))):=by
  simp only[bW,f0 1 (by omega)];rw[AI (hne 2 (by omega)),AI (by omega)]
 have e4:bW (s.K k) (.nodes 2 (dP (s.K i) 2 (aQ (s.K i) (s.K k) 2)))=some (.aL 83 (bZ (s.K k) (aQ (s.K i) (s.K k) 3))):=by
  simp only[bW,f1 2 (by omega)];rw[AI (hne 3 (by omega)),IS]
 have hm:(bZ (s.K k) (aQ (s.K i) (s.K k) 3)).map (·.1)=aQ (s.K i) (s.K k) 3:=by rw[bZ,WN];show (aQ (s.K i) (s.K k) 3).map (λn=>n)=_;rw[List.map_id']
 have e5:bW (s.K i) (.aL 83 (bZ (s.K k) (aQ (s.K i) (s.K k) 3)))=some (.aL 84 (bZ (bO (s.K i) (bZ (s.K k) (aQ (s.K i) (s.K k) 3))) (aQ (s.K i) (s.K k) 3))):=by
  simp only[bW,hm];rw[AI (by omega)]
 have hl:(bZ (s.K k) (aQ (s.K i) (s.K k) 3)).length=(aQ (s.K i) (s.K k) 3).length:=VJ ..;have h1:=rV ks s i k (L:=.root (aM (s.K k) 0 0)) (λ_ _ h=>by cases h);have h2:=rV ks s k i (L:=.nodes 0 (dP (s.K i) 0 (aQ (s.K i) (s.K k) 0))) (λ_ _ h=>by cases h);have h3:=rV ks s i k (L:=.nodes 1 (dP (s.K k) 1 (aQ (s.K i) (s.K k) 1))) (λ_ _ h=>by cases h);have h4:=rV ks s k i (L:=.nodes 2 (dP (s.K i) 2 (aQ (s.K i) (s.K k) 2))) (λ_ _ h=>by cases h);have t2:∀m,touT m (some (.nodes 0 (dP (s.K i) 0 (aQ (s.K i) (s.K k) 0))))=m:=λm=>by simp only[touT]
 have t3:∀m,touT m (some (.nodes 1 (dP (s.K k) 1 (aQ (s.K i) (s.K k) 1))))=m:=λm=>by simp only[touT]
 have t4:∀m,touT m (some (.nodes 2 (dP (s.K i) 2 (aQ (s.K i) (s.K k) 2))))=m:=λm=>by simp only[touT]
 have t5:∀m,touT m (some (.aL 83 (bZ (s.K k) (aQ (s.K i) (s.K k) 3))))=(aQ (s.K i) (s.K k) 3).length:=λm=>by simp only[touT,IS,hl]
 have t6:∀m,touT m (some (.aL 84 (bZ (bO (s.K i) (bZ (s.K k) (aQ (s.K i) (s.K k) 3))) (aQ (s.K i) (s.K k) 3))))=m:=λm=>by simp[touT]
 have e6:∀K,bW K (.aL 84 (bZ (bO (s.K i) (bZ (s.K k) (aQ (s.K i) (s.K k) 3))) (aQ (s.K i) (s.K k) 3)))=none:=λK=>by simp[bW]
 clear hm hl hne f0 f1;generalize Let.root (aM (s.K k) 0 0)=L1 at*;generalize Let.nodes 0 (dP (s.K i) 0 (aQ (s.K i) (s.K k) 0))=L2 at*;generalize Let.nodes 1 (dP (s.K k) 1 (aQ (s.K i) (s.K k) 1))=L3 at*;generalize Let.nodes 2 (dP (s.K i) 2 (aQ (s.K i) (s.K k) 2))=L4 at*;generalize Let.aL 84 (bZ (bO (s.K i) (bZ (s.K k) (aQ (s.K i) (s.K k) 3))) (aQ (s.K i) (s.K k) 3))=L6 at*;generalize Let.aL 83 (bZ (s.K k) (aQ (s.K i) (s.K k) 3))=L5 at*;generalize (aQ (s.K i) (s.K k) 3).length=n at*;rw[ni ks 8,e1,h1,t2,ni ks 7,e2,h2,t3,ni ks 6,e3,h3,t4,ni ks 5,e4,h4,t5,ni ks 4,e5,t6,ni ks 3,e6,yV];simp only[Option.isSome_some,IS,Option.isSome_none,Vz,Vy,touT]
end
end
section
theorem Oy(K:al)(ns:List Nat):(bZ K ns).map (·.1)=ns:=by rw[bZ,WN];show ns.map (λn=>n)=ns;rw[List.map_id']
theorem Ec:∀n∈aQ K K' 3,n<64:=λn hn=>(ue.1 hn).1
theorem Sk{ks:Nat->ByteArray}{g2:ay}(hI2:bS ks g2)(h2:g2.nr=2)(hT:iE (g.K 0) (g.K 1))(hN1:jh (g.K 1))(hN0:jh (g2.K 0))(hab:g2.ab=(g.ab.ag ks 0 1 (.aL 83 (bZ (g.K 1) (aQ (g.K 0) (g.K 1) 3)))).ag ks 1 0 (.aL 84 (bZ (bO (g.K 0) (bZ (g.K 1) (aQ (g.K 0) (g.K 1) 3))) (aQ (g.K 0) (g.K 1) 3)))):
  ∀n,n<64->aB (g2.K 0) n=aB (g2.K 1) n:=λn hn=>by
 have eK:g2.K=_:=congrArg Ab.K hab;have ekn:g2.kn=_:=congrArg Ab.kn hab;have ego:g2.go=_:=congrArg Ab.go hab;have k0:g2.K 0=bO (g.K 0) (bZ (g.K 1) (aQ (g.K 0) (g.K 1) 3)):=by rw[eK];simp[Ab.ag,gY]
 have k1:g2.K 1=bO (g.K 1) (bZ (g2.K 0) (aQ (g.K 0) (g.K 1) 3)):=by rw[k0,eK];simp[Ab.ag,gY]
 by_cases hd:n∈aQ (g.K 0) (g.K 1) 3
 ·have hkey:∀l,l<3->aC (ks l)=n->g2.K 0 (ks l)=g2.K 1 (ks l):=λl hl hs=>by
   have ht:∀kind K,eT ks (.aL kind (bZ K (aQ (g.K 0) (g.K 1) 3))) l=true:=λkind K=>by
    simp only[eT,Oy];exact Xl (by rw[hs];exact hd)
   refine II hI2 (by omega) (by omega) hl ?_ ?_
   ·rw[ekn];funext j;simp[Ab.ag,eu,ht,hl,ay.ab];cases g.kn 0 l j<;>cases g.kn 1 l j<;>simp
   ·rw[ego];funext j;simp[Ab.ag,eu,ht,hl,ay.ab];cases g.go 0 l j<;>cases g.go 1 l j<;>simp
  refine xA λs hs=>⟨⟨λh=>?_,λh=>?_⟩,λh=>?_⟩
  ·obtain⟨l,hl,rfl⟩:=hI2.eV 0 (by omega) s h;rw[<-hkey l hl hs];exact h
  ·obtain⟨l,hl,rfl⟩:=hI2.eV 1 (by omega) s h;rw[hkey l hl hs];exact h
  ·obtain⟨l,hl,rfl⟩:=hI2.eV 0 (by omega) s h;exact hkey l hl hs
 ·have h0:∀s,aC s=n->g2.K 0 s=g.K 0 s:=λs hs=>by rw[k0];exact uP hN1 Ec λh=>hd (hs▸h.1)
  have h1:∀s,aC s=n->g2.K 1 s=g.K 1 s:=λs hs=>by rw[k1];exact uP hN0 Ec λh=>hd (hs▸h.1)
  have e0:aB (g2.K 0) n=aB (g.K 0) n:=xA λs hs=>by rw[h0 s hs];exact⟨Iff.rfl,λ_=>rfl⟩
  have e1:aB (g2.K 1) n=aB (g.K 1) n:=xA λs hs=>by rw[h1 s hs];exact⟨Iff.rfl,λ_=>rfl⟩
  rw[e0,e1];exact V0 λh=>hd (ue.2 ⟨hn,hT.leaf n hn h⟩)
open Classical in
theorem Sx(hT:iE K K')(f:Nat->Bool)(hf:∀n,n<64->(f n=true↔aB K n≠aB K' n)):cg f 64=(aQ K K' 3).length:=by
 have key:∀(f:Nat->Bool) m,cg f m=((List.range m).filter f).length:=λf m=>by
  induction m with
  |zero=>rfl
  |succ m ih=>
   rw[Wn,List.filter_append,VF,<-ih];simp only[cg];cases hm:f m<;>simp[hm]
 rw[key];unfold aQ;congr 1;refine Xe λn hn=>?_;have hn':n<64:=List.mem_range.1 hn;cases h:f n with
 |true=>symm;rw[VN];exact hT.leaf n hn' ((hf n hn').1 h)
 |false=>
  symm;rw[WY];intro hd
  have:=(hf n hn').2 (SJ hd);rw[h]at this;cases this
theorem TM(h:∀n,n<64->aB K n=aB K' n): ¬dz K K' 0 0:=λhd=>hd (uH h 3 (by omega) 0 (by decide))
end
end Go.Proofs.YtldmcdeibiclkaaGreatDoorQ
