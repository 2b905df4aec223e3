/-
  Toward causal_holds: A letter of one replica of the net may be heard by another.
-/
import Derived.Test.YtldmcdeibiclkaaGreatDoorC28
import Derived.Test.YtldmcdeibiclkaaGreatDoorC27
set_option linter.unusedVariables false
set_option linter.unusedSimpArgs false
set_option maxRecDepth 100000
set_option maxHeartbeats 20000000
namespace Go.Proofs.YtldmcdeibiclkaaGreatDoorQ
open Go.RowKit
section
section
variable {w:World} {b num:Nat} {bm:Nat->Nat} {K:aF} {ks:Nat->ByteArray}
theorem yq(h:aE w b bm num K)(hk:∀s,cQ (K s).1->∃k,k< 3/\s=ks k):vM w bm:=λn hn=>by
 have hN:=(h.2.1 n hn).names
 have hl:(eQ (cU (cp w (bm n)))).length=(cp w (bm n)).length:=by rw[(oP _).length_eq,cU,Yr]
 rw[←hl]
 have hnd:(eQ (cU (cp w (bm n)))).Nodup:=hN.1.imp λ{a b} hab e=>by rw[e] at hab;exact List.lt_irrefl _ hab
 have:=List.Nodup.length_le_of_subset (l₂:=[(ks 0).data.toList,(ks 1).data.toList,(ks 2).data.toList]) hnd λx hx=>by
  obtain⟨k,hk3,e⟩:=hk _ ((hN.2 x).1 hx).2
  have hx':x=(ks k).data.toList:=by rw[←e];simp[dI]
  rw[hx']
  rcases (show k=0\/k=1\/k=2 by omega) with rfl|rfl|rfl<;>simp
 simp at this
 omega
theorem LK(h:aE w b bm num K){s:ByteArray}(hn: ¬ cQ (K s).1):(K s).2= []:=by
 have hs:=h.2.1 (ay s) (fa s)
 have he:=(not_congr (Bm hs rfl)).2 hn
 have he':cg (cp w (bm (ay s))) s=none:=Zn λh=>he h
 obtain⟨es,clock,e1,e2,e3,e4,e5⟩:=hs
 have hes:cp w (bm (ay s))=es.toList:=by simp[cp,e1]
 rw[hes] at he'
 obtain⟨sv,h1,h2⟩:=e3 s rfl
 rw[he'] at h1
 simp only[Option.getD_none,lC,bh] at h1
 injection h1 with h1
 have hz:(#[Value.int .i64 ((K s).1 0),.int .i64 ((K s).1 1),.int .i64 ((K s).1 2),.int .i64 ((K s).1 3),sv]:Array Value)[4]? =some (.slice none 0 0):=by rw[←h1];rfl
 simp at hz
 rw[hz] at h2
 obtain⟨ad,cap,e⟩:=pc h2
 injection e with _ e
 exact List.eq_nil_of_length_eq_zero e.symm
end
theorem Ed{M:Nat}:∀{sg:List (Nat×List ai)},(∀g∈sg,(eC g.2).size<=M)->(ba sg).size<=sg.length*(5+M)
 |[],_=>by simp[ba]
 |g::sg,h=>by
  have h1:=Ed (sg:=sg) λx hx=>h x (by simp[hx])
  have h2:=h g (by simp)
  simp only[ba,gB,No,cS,jR,Ys,Nat.add_mul] at*
  omega
theorem xq{w:World}{b num kind:Nat}{bm:Nat->Nat}{K:aF}(h:aE w b bm num K)(hK:dX w bm K){ns:List Nat}(hl:ns.length<=64)(hns:∀n∈ns,n< 64):(Let.aV kind (bp w bm K ns)).bytes.size<=140737488355328:=by
 have h1:=Ed (M:=1829000) (sg:=bp w bm K ns) λg hg=>by
  obtain⟨n,hn,rfl⟩:=Ya.1 hg
  have:=vO h hK (hns n hn)
  rw[dy,xm] at this
  exact this
 have h2:(bp w bm K ns).length=ns.length:=Yr ..
 simp only[Let.bytes,No,cS]
 rw[h2] at h1
 have h3:ns.length*(5+1829000)<=64*(5+1829000):=Nat.mul_le_mul_right _ hl
 omega
theorem Qm{lev:Nat}{sg:List Nd}(h:kP lev sg):(Let.nodes lev sg).bytes.size<=140737488355328:=by
 have:=h.len.2
 simp only[Let.bytes,No,cS,EN]
 omega
section
variable {B:Nat} {w:World} {bt:Nat} {g:ax} {ks:Nat->ByteArray}
theorem qw(hN:aS B w bt g)(hI:bF ks g){i:Nat}(hi:i< g.nr):dX w (g.bm i) (g.K i):=
 ⟨hI.eL i hi,yq (hN.bk i hi) (hI.gq i hi)⟩
theorem BL(hN:aS B w bt g)(hI:bF ks g){i:Nat}(hi:i< g.nr):Fit (g.K i):=λs=>by
 refine⟨?_,X0 (hI.eL i hi s).2.1 (by decide)⟩
 by_cases hk:cQ (g.K i s).1
 ·obtain⟨l,hl,rfl⟩:=hI.gq i hi s hk
  exact hI.lk hi hl
 ·rw[LK (hN.bk i hi) hk]
  exact⟨(hI.eL i hi s).2.2.2,(λv hv=>by cases hv),List.Pairwise.nil⟩
theorem rZ(hN:aS B w bt g)(hI:bF ks g){k:Nat}(hk:k< g.nr){L:Let}(hL:l7 (g.K k) L):L.Ok:=by
 cases L with
 |root d=>exact hL
 |nodes lev sg=>exact hL
 |aV kind sg=>
  obtain⟨h0,ns,h1,h2,h3,rfl⟩:=hL
  have hr:=hN.bk k hk
  refine⟨h0,?_⟩
  rw[←hr.aV h2]
  exact Hg hr (BL hN hI hk) (qw hN hI hk).2 h1 h2 h3
theorem Ai(hN:aS B w bt g)(hI:bF ks g){k:Nat}(hk:k< g.nr){L:Let}(hL:l7 (g.K k) L):L.bytes.size<=140737488355328:=by
 cases L with
 |root d=>simp only[Let.bytes,No,cS,ub];decide
 |nodes lev sg=>exact Qm hL
 |aV kind sg=>
  obtain⟨h0,ns,h1,h2,h3,rfl⟩:=hL
  have hr:=hN.bk k hk
  rw[←hr.aV h2]
  exact xq hr (qw hN hI hk) h1.2 h2
theorem R8(hN:aS B w bt g)(hI:bF ks g){i k:Nat}(hi:i< g.nr)(hk:k< g.nr){L:Let}(hL:l7 (g.K k) L):tl (g.b i) i (g.bm i) (g.K i) w L where
 rep:=hN.bk i hi
 yB:=qw hN hI hi
 fit:=BL hN hI hi
 ok:=rZ hN hI hk hL
 size:=Ai hN hI hk hL
 out:=λW hW ns hl hns=>xq hW ⟨hI.eL i hi,yq hW (hI.gq i hi)⟩ hl hns
 aV:=λkind sg e=>by
  have hok:=rZ hN hI hk hL
  have hI':=hI.eM (i:=i) g.A hi hk (hN.bk k hk).vh hL hok
  subst e
  obtain⟨h0,ns,h1,h2,h3,rfl⟩:=hL
  have eK:(g.eM ks i k (.aV kind (gP (g.K k) ns)) g.A).K i=cu (g.K i) (gP (g.K k) ns):=by simp[ax.eM,iI]
  have hm:(gP (g.K k) ns).map (·.1)=ns:=by rw[gP,ZH];show ns.map (λn=>n)=ns;rw[List.map_id']
  refine⟨λx hx r hr=>?_,λW hW=>?_⟩
  ·obtain⟨n,hn,rfl⟩:=Ya.1 hx
   obtain⟨_,_,e⟩:=(xR (hN.bk k hk).vh (h2 n hn)).1 hr
   rw[e]
   exact X0 (hI.eL k hk r.1).2.1 (by decide)
  ·have hf:dX W (g.bm i) (cu (g.K i) (gP (g.K k) ns)):=⟨eK ▸ hI'.eL i hi,yq hW (eK ▸ hI'.gq i hi)⟩
   refine⟨hf,?_⟩
   rw[hm]
   exact xq hW hf h1.2 h2
end
end
structure Ab where
 K:Nat->aF
 kn:Nat->Nat->Nat->Bool
 go:Nat->Nat->Nat->Bool
abbrev ax.ab(g:ax):Ab:=⟨g.K,g.kn,g.go⟩
def Ab.ag(ks:Nat->ByteArray)(s:Ab)(i k:Nat)(L:Let):Ab where
 K:=λj=>if j=i then iI (s.K i) L else s.K j
 kn:=λj l q=>if j=i then cT (cE ks L) 3 (s.kn i) (s.kn k) l q else s.kn j l q
 go:=λj l q=>if j=i then cT (cE ks L) 3 (s.go i) (s.go k) l q else s.go j l q
noncomputable def oX(ks:Nat->ByteArray):Nat->Ab->Nat->Nat->Option Let->Ab
 |0,s,_,_,_=>s
 |_+1,s,_,_,none=>s
 |m+1,s,i,k,some L=>oX ks m (s.ag ks i k L) k i (gb (s.K i) L)
theorem Kt(ks:Nat->ByteArray)(m:Nat)(s:Ab)(i k:Nat):oX ks m s i k none=s:=by cases m<;>rfl
def nq:Let->Nat
 | .root _=>1
 | .nodes lev _=>2+lev
 | .aV kind _=>kind - 78
theorem WB{L:Let}(h:L.Ok):1<=nq L/\nq L<=6:=by
 cases L with
 |root d=>exact⟨AI _,by show 1<=6;decide⟩
 |nodes lev sg=>have:=(show kP lev sg from h).low;simp only[nq];omega
 |aV kind sg=>obtain⟨rfl|rfl,_⟩:=h<;>simp[nq]
theorem Fv(K:aF)(lv n:Nat):0<=eE K lv n/\eE K lv n< 18446744073709551616:=KY _ _ _
theorem Ah{K:aF}{lev:Nat}{ns:List Nat}(hl:lev< 3)(h1:1<=ns.length/\ns.length<=64)(hns:∀n∈ns,n< 4 ^ lev)(ha:ns.Pairwise (· < ·)):kP lev (qi K lev ns) where
 low:=hl
 len:=by rw[qi,Yr];exact h1
 num:=λg hg=>by
  obtain⟨n,hn,rfl⟩:=Ya.1 hg
  refine⟨hns n hn,λi hi=>?_⟩
  show 0<=(if i< 4 then eE K (lev+1) (n*4+i) else 0)/\(if i< 4 then eE K (lev+1) (n*4+i) else 0)< _
  rw[AT hi]
  exact Fv _ _ _
 je:=by
  rw[qi,ZH]
  show List.Pairwise _ (ns.map λn=>n)
  rw[List.map_id']
  exact ha
theorem GW{K:aF}{L L':Let}(hok:L.Ok)(h:gb K L=some L'):l7 (iI K L) L'/\nq L'=nq L+1:=by
 cases L with
 |root d=>
  simp only[gb] at h
  split at h
  ·cases h
  ·cases h
   exact⟨Ah (by decide) (by decide) (by simp) (by simp),rfl⟩
 |nodes lev sg=>
  have ho:kP lev sg:=hok
  have hl:=ho.low
  have hd:=sA (D:=eE K (lev+1)) λg hg=>(ho.num g hg).1
  have ha:=xE (D:=eE K (lev+1)) ho.je
  have h4:=(oD (show lev+1<=3 by omega)).1
  have hn:=uU (a:=0) (m:=64) ha λx hx=>⟨Y2 _,X4 (hd x hx) h4⟩
  simp only[gb] at h
  split at h
  ·cases h
  ·rename_i h0
   have hp:1<=(bO (eE K (lev+1)) sg).length/\(bO (eE K (lev+1)) sg).length<=64:=⟨List.length_pos_iff.2 h0,by omega⟩
   split at h
   ·rename_i h2
    cases h
    subst h2
    exact⟨⟨.inl rfl,_,hp,hd,ha,rfl⟩,rfl⟩
   ·cases h
    refine⟨Ah (by omega) hp hd ha,?_⟩
    simp only[nq]
    omega
 |aV kind sg=>
  obtain⟨hk,hs⟩:=hok
  simp only[gb] at h
  split at h
  ·cases h
  ·rename_i h4
   cases h
   refine⟨⟨.inr rfl,_,?_,λn hn=>?_,hs.je,rfl⟩,?_⟩
   ·rw[Yr];exact hs.len
   ·obtain⟨g,hg,rfl⟩:=Ya.1 hn
    exact (hs.num g hg).1
   ·rcases hk with rfl|rfl
    ·rfl
    ·exact absurd rfl h4
def jH:Let->Nat
 | .root _=>82
 | .nodes _ _=>78
 | .aV kind _=>kind
theorem Bj{L:Let}(hok:L.Ok){T:ByteArray}(hT:L.bytes=T):0< T.size/\∀h:0< T.size,(T[0]'h).toNat=jH L:=by
 have key:∀(n:Nat) (R:ByteArray),n< 256->L.bytes=al n++R->n=jH L->0< T.size/\∀h:0< T.size,(T[0]'h).toNat=jH L:=λn R hn e hb=>by
  rw[hT] at e
  have e':T=ByteArray.empty++(al n++R):=by rw[iY];exact e
  have hp:0< T.size:=by rw[e,No,cS];omega
  exact⟨hp,λh=>by rw[←hb];exact byte_at (P:=ByteArray.empty) hn e' h⟩
 cases L with
 |root d=>exact key 82 _ (by decide) rfl rfl
 |nodes lev sg=>exact key 78 _ (by decide) rfl rfl
 |aV kind sg=>exact key kind _ (by rcases hok.1 with rfl|rfl<;>decide) rfl rfl
def jx(w:World)(b o:Nat):List Value:=(List.range 240).map λj=>(w.cell? ⟨b,o+j,none⟩).getD undef
def mF(w:World)(b o:Nat):Prop:=∀j,j< 240->(w.cell? ⟨b,o+j,none⟩).isSome=true
def vP(w:World):Value->Prop
 | .pointer (some ⟨b,o,none⟩)=>mF w b o
 |_=>False
def Bo(w:World):Value->Value
 | .pointer (some ⟨b,o,none⟩)=> .agg (jx w b o).toArray
 |_=>undef
theorem Rk(w:World)(b o:Nat):vP w (.pointer (some ⟨b,o,none⟩))=mF w b o:=rfl
theorem CU(w:World)(b o:Nat):Bo w (.pointer (some ⟨b,o,none⟩))= .agg (jx w b o).toArray:=rfl
theorem C8(w:World)(b o:Nat):(jx w b o).length=240:=by simp[jx]
theorem PB{w:World}{b o:Nat}(h:mF w b o):w.rangeAt b o (jx w b o):=λj v hv=>by
 have hj:j< 240:=by have:=(YP.1 hv).1;rwa [C8] at this
 have:=h j hj
 obtain⟨u,hu⟩:=Option.isSome_iff_exists.1 this
 simp[jx,hj,hu] at hv
 rw[hu,hv]
theorem Bd{w:World}{b o:Nat}{f:Nat->Nat->Bool}(h:∀k j,k< 3->j< 80->w.cell? ⟨b,o+k*80+j,none⟩=some (.bool (f k j))):(jx w b o).toArray=gv f/\mF w b o:=by
 have hc:∀q,q< 240->w.cell? ⟨b,o+q,none⟩=some (.bool (f (q / 80) (q % 80))):=λq hq=>by
  have:=h (q / 80) (q % 80) (by omega) (by omega)
  rw[show o+q / 80*80+q % 80=o+q by omega] at this
  exact this
 refine⟨?_,λj hj=>by rw[hc j hj];rfl⟩
 unfold gv jx
 congr 1
 refine Y9 λj hj=>?_
 rw[hc j (YV.1 hj)];rfl
theorem Vu(w:World)(b o:Nat):jx w.drew b o=jx w b o:=rfl
theorem Sn(w:World)(b o:Nat):mF w.drew b o=mF w b o:=rfl
theorem aa.Xr:(aa.prog.info? 34).map (·.size)=some 240:=by kernel_rfl
theorem UT(d:Option Tmp)(x:Operand)(ty:TypeId)(pos:String)(aft:Array Edge)(gd:Option (Nat×Bool))(a:Act)(w:World)(K:Act->World->Prop)(Q:Exit->Act->World->Prop)(h:vP w (a.eval x)):
  Oper.wp aa.prog {dst:=d,op:= .load 34 x,type:=ty,pos:=pos,after:=aft,guard:=gd} a w K Q=K (a.put d (Bo w (a.eval x))) w:=by
 unfold vP at h
 split at h
 ·rename_i b o heq
  rw[heq,CU]
  unfold Oper.wp execOp
  simp only[heq,Instr.loadAt,Instr.sureAddr,YC,Zs,YU,run_loadVar_mid w b o 34 (jx w b o) _ (PB h) aa.underlying34 rfl (by rw[aa.Xr,C8])]
  rfl
 ·exact h.elim
section
attribute [local go_sem ↓] UT Z0 Z1
attribute [local go_sem] Rk CU Vu Sn
theorem aS.none{w w1:World}{B bt:Nat}{g:ax}(hn:aS B w bt g)(h:Fr (λ_=>False) w w1):aS B w1 bt g:=
 hn.fr h ⟨id,id,λ_ _=>id,λ_ _ _ _=>id,λ_ _ _=>id,λ_ _ _=>id,λ_ _ _=>id⟩
def uq(g:ax)(bt q:Nat):Prop:=q=bt\/∃j,j< g.nr/\jg (g.bm j) q
structure mY(B:Nat)(w:World)(bt:Nat)(g:ax)(ks:Nat->ByteArray)(hear:Nat)(s0:Ab)(m i k n:Nat)(oL:Option Let)(g1:ax)(W:World):Prop where
 c9:aS B W bt g1
 inv:bF ks g1
 nr:g1.nr=g.nr
 ws:g1.ws=g.ws
 hi:i< g1.nr
 hk:k< g1.nr
 letter:∀L,oL=some L->l7 (g1.K k) L/\nq L=n/\m+n=hear+1
 ab:oX ks m g1.ab i k oL=s0
 bP:Below B w W
 bm:g1.bm=g.bm
 fr:Fr (uq g bt) w W
theorem zy{T:ByteArray}(h:0< T.size):T.toList.isEmpty=false:=by
 rw[Go.Lib.toList_data,List.isEmpty_eq_false_iff]
 intro e
 have:T.data.toList.length=0:=by rw[e];rfl
 rw[YR] at this
 have h':0< T.data.size:=h
 omega
def yK:Value->Value->Nat
 | .string s,.int _ n=>if s.size=0 then 0 else 8 - n.toNat
 |_,_=>0
theorem mY.next{B:Nat}{w W W3 w4 w5:World}{bt hear m i k n n':Nat}{g g1:ax}{ks:Nat->ByteArray}{s0:Ab}{L:Let}{A:Array Value}(h:mY B w bt g ks hear s0 (m+1) i k n (some L) g1 W)(h3:Fr (λ_=>False) W W3)(hR:aE w4 (g1.b i) (g1.bm i) i (iI (g1.K i) L))(h4:Fr (jg (g1.bm i)) W3 w4)(h5:Fr (λq=>q=bt) w4 w5)(hT:w5.heap[bt]? =some (.cells A 42))(hA:gu g1.A A i 3 3 (cE ks L) (g1.kn i) (g1.go i) (g1.kn k) (g1.go k))(hn:∀L',gb (g1.K i) L=some L'->n'=n+1):mY B w bt g ks hear s0 m k i n' (gb (g1.K i) L) (g1.eM ks i k L A) w5:=by
 obtain⟨hL,hs,hm⟩:=h.letter L rfl
 have hN3:=h.c9.none h3
 have hok:=rZ h.c9 h.inv h.hk hL
 obtain⟨hN5,hB5⟩:=hN3.eM (ks:=ks) (k:=k) (L:=L) h.hi (by have:=h.inv.aZ;have:=h.hi;omega) h4 h5 hR hT hA
 refine⟨hN5,h.inv.eM A h.hi h.hk (h.c9.bk k h.hk).vh hL hok,h.nr,h.ws,h.hk,h.hi,λL' hL'=>?_,?_,h.bP.trans ((h3.toBelow (λ_ e=>e.elim) (by have:=h.c9.hB.1;have:=(IN.1 h.c9.hT).1;omega)).trans hB5),h.bm,((h.fr.trans (h3.weaken λ_ e=>e.elim)).trans (h4.weaken λq hq=> .inr ⟨i,h.nr ▸ h.hi,h.bm ▸ hq⟩)).trans (h5.weaken λq hq=> .inl hq)⟩
 ·obtain⟨h1,h2⟩:=GW hok hL'
  rw[hn L' hL']
  refine⟨?_,by rw[h2,hs],by omega⟩
  simpa[ax.eM] using h1
 ·rw[←h.ab]
  rfl
structure wG(B:Nat)(w:World)(bt:Nat)(g:ax)(ks:Nat->ByteArray)(hear:Nat)(s0:Ab)(m i k n p:Nat)(L:Let)(g1:ax)(W:World):Prop where
 told:W.heap[p]? =some (.cells (b3 (cE ks L)) 82)
 c9:W.heap[bt]? =some (.cells g1.A 42)
 fin:∀w5 A n',w5.heap[bt]? =some (.cells A 42)->gu g1.A A i 3 3 (cE ks L) (g1.kn i) (g1.go i) (g1.kn k) (g1.go k)->Fr (λq=>q=bt) W w5->(∀L',gb (g1.K i) L=some L'->n'=n+1)->mY B w bt g ks hear s0 m k i n' (gb (g1.K i) L) (g1.eM ks i k L A) w5
theorem XJ{B:Nat}{w W W3:World}{bt hear m i k n p:Nat}{g g1:ax}{ks:Nat->ByteArray}{s0:Ab}{L:Let}{T:ByteArray}(h:mY B w bt g ks hear s0 (m+1) i k n (some L) g1 W)(hT:L.bytes=T)(h3:Fr (λ_=>False) W W3)(hp:W3.heap[p]? =some (.cells (b3 (cE ks L)) 82)):
  Calls aa.prog 18 #[.pointer (some ⟨g1.b i,0,none⟩),.string T] W3 λe w4=>e= .returned (.tuple #[.string (jb (gb (g1.K i) L)),.int .i64 0])/\wG B w bt g ks hear s0 m i k n p L g1 w4:=by
 obtain⟨hL,_,_⟩:=h.letter L rfl
 have hN3:=h.c9.none h3
 rw[←hT]
 refine (JK (g1.b i) i (g1.bm i) (g1.K i) L W3 (R8 hN3 h.inv h.hi h.hk hL)).mono ?_
 rintro e w4 ⟨rfl,hr,hf⟩
 have hf':Fr (jg (g1.bm i)) W3 w4:=hf.weaken λq hq=>hq.1
 have hX:∀{q:Nat} {C:Array Value} {t:TypeId} {fr:Nat×Nat},W3.heap[q]? =some (.cells C t fr)->w4.heap[q]? =some (.cells C t fr):=λ{q C t fr} hq=>hf'.heap hq λ⟨n,hn,e⟩=>by
  obtain⟨es,clock,hm⟩:=hN3.map h.hi hn
  rw[e,hm] at hq;cases hq
 exact⟨rfl,hX hp,hX hN3.hT,λw5 A n' h1 h2 h4 h5=>h.next h3 hr hf' h4 h1 h2 h5⟩
def Ui(B bt:Nat)(g:ax)(ks:Nat->ByteArray)(s0:Ab)(w:World)(e:Ending)(w':World):Prop:=
 ∃(n:Nat) (g':ax),e= .returned (.tuple #[.int .i64 n,.bool true])/\(Below B w w'/\Fr (uq g bt) w w')/\g'.nr=g.nr/\g'.ws=g.ws/\aS B w' bt g'/\bF ks g'/\g'.ab=s0
theorem Tc(B bt i k hear:Nat)(g:ax)(ks:Nat->ByteArray)(w:World)(hN:aS B w bt g)(hI:bF ks g)(hK:dP w ks)(hB0:0< B)(hi:i< g.nr)(hk:k< g.nr)(hh:hear<=1000):
  Calls aa.prog 15 #[.pointer (some ⟨bt,0,none⟩),.int .i64 i,.int .i64 k,.int .i64 hear] w λe w'=>Ui B bt g ks (oX ks hear g.ab i k (some (.root (eE (g.K k) 0 0)))) w e w':=by
 have HHello:Hid (Calls aa.prog 12 #[.pointer (some ⟨g.b k,0,none⟩)] w λe w'=>e= .returned (.string (jb (some (.root (eE (g.K k) 0 0)))))/\Below w.heap.size w w'):=by
  have hr:=hN.bk k hk
  have:=IP (g.b k) k (g.bm k) (g.K k) w hr (qw hN hI hk)
  rw[hr.uh (by omega) (by decide)] at this
  exact this
 have hnr4:=hI.aZ
 have t0:w.cell? ⟨bt,0,none⟩=some (.slice (some ⟨g.br,0,none⟩) g.nr g.bQ):=by rw[(au hN.hT).1];exact hN.h0
 have t1:w.cell? ⟨g.br,k,none⟩=some (.pointer (some ⟨g.b k,0,none⟩)):=by rw[(au hN.hR).1];exact hN.eZ k hk
 have bd:(k:Int)< (g.nr:Int):=by omega
 have hk0:(0:Int)<=(k:Int):=by omega
 have HKA:Hid (dP w ks):=hK
 have hBw:B<=w.heap.size:=by have:=hN.hB.1;have:=(IN.1 hN.hT).1;omega
 have HJ0:Hid (∀W,Below w.heap.size w W->mY B w bt g ks hear (oX ks hear g.ab i k (some (.root (eE (g.K k) 0 0)))) hear i k 1 (some (.root (eE (g.K k) 0 0))) g W):=λW hW=>
  ⟨hN.none (Fr.iV hW),hI,rfl,rfl,hi,hk,λL hL=>by cases hL;exact⟨Fv _ _ _,rfl,rfl⟩,rfl,hW.mono hBw,rfl,Fr.iV hW⟩
 clear hN hI hK
 generalize oX ks hear g.ab i k (some (.root (eE (g.K k) 0 0)))=s0 at*
 generalize hL0:some (Let.root (eE (g.K k) 0 0))=oL0 at*
 clear hL0
 go_enter aa.func15,aa.ntmps15
 go_wp2_with (go_at_call 12;refine BY HHello.out ?_;rintro e w1 ⟨rfl,hb1⟩;have HJ1:Hid _:=HJ0.out _ hb1;clear hb1)
 clear HJ0 HHello t0 t1
 go_loopw [10,11,12,13] (λlv tv fv nv wr=>∃(m ti fi n:Nat) (oL:Option Let) (g1:ax),lv= .string (jb oL)/\tv= .int .i64 ti/\fv= .int .i64 fi/\nv= .int .i64 n/\1<=n/\n<=7/\Hid (mY B w bt g ks hear s0 m ti fi n oL g1 wr)) (λlv _ _ nv _=>yK lv nv)
 case atStart=>exact⟨_,_,_,1,_,_,rfl,rfl,rfl,rfl,by omega,by omega,HJ1.out⟩
 case round=>
  obtain⟨m,ti,fi,n,oL,g1,rfl,rfl,rfl,rfl,hn1,hn7,HJ⟩:=hrel
  clear HJ1
  cases oL with
  |none=>
   have HE:Hid (∃n':Nat,∃g':ax,(n':Int)=n/\(Below B w wr/\Fr (uq g bt) w wr)/\g'.nr=g.nr/\g'.ws=g.ws/\aS B wr bt g'/\bF ks g'/\g'.ab=s0):=⟨n,g1,rfl,⟨HJ.out.bP,HJ.out.fr⟩,HJ.out.nr,HJ.out.ws,HJ.out.c9,HJ.out.inv,by rw[←HJ.out.ab,Kt]⟩
   have eo:jb none=⟨#[]⟩:=rfl
   rw[eo]
   clear HJ
   by_cases hle:(n:Int)<=(hear:Int)
   all_goals
    go_wp2
    go_ret2
    obtain⟨n',g',e,h1,h2,h3,h4,h5,h6⟩:=HE.out
    exact⟨n,g',rfl,h1,h2,h3,h4,h5,h6⟩
  |some L=>
   obtain⟨hL,hst,hmn⟩:=HJ.out.letter L rfl
   have hok:=rZ HJ.out.c9 HJ.out.inv HJ.out.hk hL
   have hle6:=WB hok
   obtain⟨T,hT⟩: ∃T,L.bytes=T:=⟨_,rfl⟩
   have eo:jb (some L)=T:=hT
   rw[eo]
   obtain⟨hT0,hTb⟩:=Bj hok hT
   have hTe:=zy hT0
   have hTi:(0:Int)< (T.size:Int):=by omega
   cases m with
   |zero=>
    have hlt: ¬ (n:Int)<=(hear:Int):=by omega
    go_wp2
    go_ret2
    exact⟨n,g1,rfl,⟨HJ.out.bP,HJ.out.fr⟩,HJ.out.nr,HJ.out.ws,HJ.out.c9,HJ.out.inv,HJ.out.ab⟩
   |succ m=>
    have hle:(n:Int)<=(hear:Int):=by omega
    have hb0:(T[0]'hT0).toNat=jH L:=hTb hT0
    have hi4:ti< 4:=by have:=HJ.out.inv.aZ;have:=HJ.out.hi;omega
    have hk4:fi< 4:=by have:=HJ.out.inv.aZ;have:=HJ.out.hk;omega
    have HKr:Hid (dP wr ks):=HKA.out.below hB0 HJ.out.bP
    have hbt:bt< wr.heap.size:=(IN.1 HJ.out.c9.hT).1
    have hbr:g1.br< wr.heap.size:=(IN.1 HJ.out.c9.hR).1
    have hwr0:0< wr.heap.size:=by omega
    obtain⟨W1,hW1⟩: ∃W,W=wr.alloc (.cells (b3 λ_=>false) 82):=⟨_,rfl⟩
    have hB1:Below wr.heap.size wr W1:=by rw[hW1];exact (By _ _).alloc (AI _) _
    have hp1:W1.heap[wr.heap.size]? =some (.cells (b3 λ_=>false) 82):=by rw[hW1];exact IS wr _
    have HTl:Hid ((jH L=83\/jH L=84)->Calls aa.prog 30 #[.pointer (some ⟨bt,0,none⟩),.string T,.int .i64 fi] W1 λe w2=>e= .returned (.tuple #[.agg (b3 (cE ks L)),.bool true])/\Below wr.heap.size wr w2/\w2.heap[wr.heap.size]? =some (.cells (b3 λ_=>false) 82)):=λhb=>by
     cases L with
     |root d=>rcases hb with hb|hb<;>cases hb
     |nodes lev sg=>rcases hb with hb|hb<;>cases hb
     |aV kind sg=>
      obtain⟨_,ns,h1,h2,h3,rfl⟩:=hL
      have hN1:=HJ.out.c9.none (Fr.iV hB1)
      have hr1:=hN1.bk fi HJ.out.hk
      have hm:(gP (g1.K fi) ns).map (·.1)=ns:=by rw[gP,ZH];show ns.map (λn=>n)=ns;rw[List.map_id']
      refine (OG B bt fi kind g1 ks ns W1 hN1 (HKr.out.below (B:=wr.heap.size) hwr0 hB1) hB0 HJ.out.hk HJ.out.inv.aZ.2 (qw hN1 HJ.out.inv HJ.out.hk) h1 h2 h3 T (by rw[hr1.aV h2];exact hT) (by rw[←hT];exact Ai HJ.out.c9 HJ.out.inv HJ.out.hk ⟨by assumption,ns,h1,h2,h3,rfl⟩)).mono ?_
      rintro e w2 ⟨rfl,hb2⟩
      refine⟨?_,bG hB1 hb2,aY hp1 hb2⟩
      rw[show cE ks (.aV kind (gP (g1.K fi) ns))=λk=>decide (ay (ks k)∈ns) from funext λk=>by simp only[cE,hm]]
    subst hW1
    have HH:Hid (∀W3,Fr (λ_=>False) wr W3->W3.heap[wr.heap.size]? =some (.cells (b3 (cE ks L)) 82)->Calls aa.prog 18 #[.pointer (some ⟨g1.b ti,0,none⟩),.string T] W3 λe w4=>e= .returned (.tuple #[.string (jb (gb (g1.K ti) L)),.int .i64 0])/\wG B w bt g ks hear s0 m ti fi n wr.heap.size L g1 w4):=λW3 h3 hp=>XJ HJ.out hT h3 hp
    have HLn:Hid (∀w4,w4.heap[bt]? =some (.cells g1.A 42)->Calls aa.prog 31 #[.pointer (some ⟨bt,0,none⟩),.int .i64 ti,.int .i64 fi,.agg (b3 (cE ks L)),.agg (gv (g1.kn fi)),.agg (gv (g1.go fi))] w4.drew λe w5=>e= .returned (.tuple #[])/\∃A',w5.heap[bt]? =some (.cells A' 42)/\gu g1.A A' ti 3 3 (cE ks L) (g1.kn ti) (g1.go ti) (g1.kn fi) (g1.go fi)/\Fr (λq=>q=bt) w4 w5):=λw4 h4=>by
     refine (Iz bt ti fi g1.A (cE ks L) (g1.kn ti) (g1.go ti) (g1.kn fi) (g1.go fi) w4.drew h4 HJ.out.c9.hA hi4 (λk j hk hj=>HJ.out.c9.bd ti k j hi4 hk hj) (λk j hk hj=>HJ.out.c9.hgo ti k j hi4 hk hj)).mono ?_
     rintro e w5 ⟨rfl,A',h1,h2,h3⟩
     exact⟨rfl,A',h1,h2,(Fr.refl _ w4).drew.trans h3⟩
    have HR3:Hid (∀w4,w4.heap[bt]? =some (.cells g1.A 42)->((jx w4 bt (2+fi*240)).toArray=gv (g1.kn fi)/\mF w4 bt (2+fi*240))/\((jx w4 bt (962+fi*240)).toArray=gv (g1.go fi)/\mF w4 bt (962+fi*240))):=λw4 h4=>
     ⟨Bd λk j hk hj=>by rw[(au h4).1];exact HJ.out.c9.bd fi k j hk4 hk hj,Bd λk j hk hj=>by rw[(au h4).1];exact HJ.out.c9.hgo fi k j hk4 hk hj⟩
    have t0:wr.cell? ⟨bt,0,none⟩=some (.slice (some ⟨g1.br,0,none⟩) g1.nr g1.bQ):=by rw[(au HJ.out.c9.hT).1];exact HJ.out.c9.h0
    have t1:wr.cell? ⟨g1.br,ti,none⟩=some (.pointer (some ⟨g1.b ti,0,none⟩)):=by rw[(au HJ.out.c9.hR).1];exact HJ.out.c9.eZ ti HJ.out.hi
    have hin:(ti:Int)< (g1.nr:Int):=by have:=HJ.out.hi;omega
    have hi0:(0:Int)<=(ti:Int):=by omega
    have hi4':(ti:Int)< 4:=by omega
    have hf4':(fi:Int)< 4:=by omega
    have hf0:(0:Int)<=(fi:Int):=by omega
    have hn9:(n:Int)<=6:=by omega
    have hnet4:=HJ.out.inv.aZ.2
    have hb8:jH L=82/\cE ks L=(λ_=>false)\/jH L=78/\cE ks L=(λ_=>false)\/jH L=83\/jH L=84:=by
     cases L with
     |root d=>exact .inl ⟨rfl,rfl⟩
     |nodes lev sg=>exact .inr (.inl ⟨rfl,rfl⟩)
     |aV kind sg=>exact .inr (.inr hok.1)
    have hn6:n<=6:=by omega
    have hTs: ¬ T.size=0:=by omega
    have hne: ¬ bt=wr.heap.size:=by omega
    have hne2: ¬ g1.br=wr.heap.size:=by omega
    clear HJ hL hst hmn hok hle6 hT eo hTb hB1 hp1 HKr HKA
    generalize hOA:gb (g1.K ti) L=oA at*
    have HOA:Hid (gb (g1.K ti) L=oA):=hOA
    clear hOA
    rcases hb8 with ⟨hb,htd⟩|⟨hb,htd⟩|hb|hb
    all_goals
     rw[hb] at hb0
     have HTD:Hid (jH L=82\/jH L=78->cE ks L=λ_=>false):=(λh=>by first|exact htd|(rw[hb] at h;omega))
     try clear htd
     go_upto_region 14 with (first
      |(go_at_call 30;refine BY (HTl.out (by rw[hb];simp)) ?_;rintro e w2 ⟨rfl,hb2,hp2⟩;have u0:=aX t0 hb2;have u1:=aX t1 hb2;obtain⟨ct,ft⟩:=au hp2;have ct0:=ct 0;have ct1:=ct 1;have ct2:=ct 2;have HB2:Hid (Below wr.heap.size wr w2):=hb2;have HP2:Hid (w2.heap[wr.heap.size]? =some (.cells (b3 λ_=>false) 82)):=hp2;clear ct hb2 hp2)
      |(go_at_call 18;refine BY (HH.out _ (by first|exact (Fr.refl _ _).alloc _|exact (((Fr.iV HB2.out).setCell (Or.inl (AI _)) _).setCell (Or.inl (AI _)) _).setCell (Or.inl (AI _)) _) (by first|(rw[HTD.out (by rw[hb];simp)];exact IS wr _)|exact heap_set (heap_set (heap_set HP2.out)))) ?_;rintro e w4 ⟨rfl,hk4'⟩;have HK4:Hid (wG B w bt g ks hear s0 m ti fi n wr.heap.size L g1 w4):=hk4';clear hk4'))
     obtain⟨⟨rk,hsk⟩,rg,hsg⟩:=HR3.out _ HK4.out.c9
     obtain⟨ct4,_⟩:=au HK4.out.told
     have d0:=ct4 0
     have d1:=ct4 1
     have d2:=ct4 2
     have HL4:Hid (Calls aa.prog 31 #[.pointer (some ⟨bt,0,none⟩),.int .i64 ti,.int .i64 fi,.agg (b3 (cE ks L)),.agg (gv (g1.kn fi)),.agg (gv (g1.go fi))] w4.drew λe w5=>e= .returned (.tuple #[])/\∃A',w5.heap[bt]? =some (.cells A' 42)/\gu g1.A A' ti 3 3 (cE ks L) (g1.kn ti) (g1.go ti) (g1.kn fi) (g1.go fi)/\Fr (λq=>q=bt) w4 w5):=HLn.out _ HK4.out.c9
     clear ct4
     go_region_with (first|(go_at_call 31;refine BY HL4.out ?_;rintro e w5 ⟨rfl,A',hT5,hA5,hf5⟩;have HF5:Hid (∀n',(∀L',oA=some L'->n'=n+1)->mY B w bt g ks hear s0 m fi ti n' oA (g1.eM ks ti fi L A') w5):=(λn' h=>by have:=HK4.out.fin w5 A' n' hT5 hA5 hf5;rw[HOA.out] at this;exact this h);clear hT5 hA5 hf5))
     all_goals
      clear HK4 HL4 d0 d1 d2 rk hsk rg hsg
      cases oA with
      |none=>
       have eo2:jb none=⟨#[]⟩:=rfl
       rw[eo2]
       go_wp2
       refine⟨⟨m,fi,ti,n,none,_,rfl,rfl,rfl,rfl,hn1,hn7,HF5.out n (λL' h=>by cases h)⟩,?_⟩
       have hz:(⟨#[]⟩:ByteArray).size=0:=rfl
       simp[yK,hTs,hz]
       omega
      |some L'=>
       obtain⟨T',hT'⟩: ∃T',L'.bytes=T':=⟨_,rfl⟩
       have eo2:jb (some L')=T':=hT'
       have HJ5:Hid _:=HF5.out (n+1) (λ_ _=>rfl)
       obtain⟨hL5,_⟩:=HJ5.out.letter L' rfl
       have hp':=(Bj (rZ HJ5.out.c9 HJ5.out.inv HJ5.out.hk hL5) hT').1
       have hTe':=zy hp'
       rw[eo2]
       clear HF5
       go_wp2
       refine⟨⟨m,fi,ti,n+1,some L',_,by rw[eo2],rfl,rfl,by go_num,by omega,by omega,HJ5.out⟩,?_⟩
       have hp2: ¬ T'.size=0:=by omega
       simp[yK,hTs,hp2]
       omega
end
theorem Fw{ws:List Wr}{kn go:Nat->Bool}{k:Nat}(x:Wr)(h:kn ws.length=false):expected (ws++ [x]) kn go k=expected ws kn go k:=by
 have hw:∀j,j< ws.length->(ws++ [x])[j]? =ws[j]? :=λj hj=>YW hj
 have hl:(ws++ [x])[ws.length]? =some x:=by simp
 unfold expected
 refine l9 _ λb _=>?_
 rw[Yh,Za,pN hl (λq=>by rw[h] at q;exact absurd q.2.2.1 (by decide)),uc hw (λ_ _=>Iff.rfl)]
theorem EX{ws:List Wr}{kn go:Nat->Bool}{k:Nat}{v:aj}(h:v∈expected ws kn go k):v.rep< 4/\∃x∈ws,v.val=x.2.2.2:=by
 unfold expected at h
 obtain⟨b,hb,hv⟩:=Zk.1 h
 obtain⟨j,x,_,hx,_,_,_,_,rfl⟩:=rp hv
 exact⟨YV.1 hb,x,aaj hx,rfl⟩
theorem Av(ws:List Wr)(i k:Nat)(n:Int)(val:ByteArray)(j l:Nat):bK (ws++ [(i,k,n,val)]) j l=bK ws j l+(if i=j/\k=l then 1 else 0):=by
 rw[pB];simp[bK]
def ax.iF(g:ax)(i k:Nat)(val:ByteArray):Wr:=(i,k,bK g.ws i k+1,val)
def ax.put(g:ax)(ks:Nat->ByteArray)(i k:Nat)(m:Mem)(val:ByteArray)(l':List aj)(wv:Value)(A:Array Value):ax:=
 {g with
  K:=λj=>if j=i then bq (g.K i) (ks k) (bump (aL (g.K i (ks k)).1 m.1) i,l') else g.K j
  ws:=g.ws++ [g.iF i k val]
  wv:=wv
  kn:=λj l q=>if j=i/\l=k then (if q=g.ws.length then true else g.kn i k q||m.2 q) else g.kn j l q
  go:=λj l q=>if j=i/\l=k then g.go i k q||m.2 q else g.go j l q
  A:=A}
theorem bF.put{ks:Nat->ByteArray}{g:ax}(hI:bF ks g)(dQ:∀k l,k< 3->l< 3->ks k=ks l->k=l){i k:Nat}{m:Mem}{val:ByteArray}{l':List aj}(wv:Value)(A:Array Value)(hi:i< g.nr)(hk:k< 3)(hm:Good g.ws k m.1 m.2)(dx:val.size<=12)(hlen:g.ws.length< 80)(hp:l'.Perm (aQ (g.K i (ks k)).2 m.1++ [(i,aL (g.K i (ks k)).1 m.1 i+1,val)]))(hs2:(l'.Pairwise λa b=>aR b a=false)/\l'.length<=20):bF ks (g.put ks i k m val l' wv A):=by
 have hs:=hs2.1
 have hi4:i< 4:=X4 hi hI.aZ.2
 have hbi:aL (g.K i (ks k)).1 m.1 i=bK g.ws i k:=by
  have h1:=hI.aA i k hi hk
  have h2:=(hm.2.2 i).2
  simp only[aL];omega
 have eS:kB (g.ws++ [g.iF i k val]):=hI.eS.snoc i k val
 have hl':l'=expected (g.ws++ [g.iF i k val]) (λq=>if q=g.ws.length then true else g.kn i k q||m.2 q) (λq=>g.go i k q||m.2 q) k:=by
  rw[hbi] at hp
  refine R4 (m:=m.2) (c:=m.1) (kn:=g.kn i k) (go:=g.go i k) hi4 (hI.hex i k hi hk) (λq x hx hxk=>by rw[hm.1 q x hx];exact⟨λh=>h.2,λh=>⟨hxk,h⟩⟩) hp hs eS.num (λq hq=>?_) (λq _=>rfl) (by simp) ?_
  ·rw[AS (by omega)]
  ·simp[hI.im i k g.ws.length hi hk (AI _),hm.2.1 g.ws.length (AI _)]
 have hval':∀x∈g.ws++ [g.iF i k val],x.2.2.2.size<=12:=λx hx=>by
  rcases Zl.1 hx with hx|hx
  ·exact hI.dx x hx
  ·rw[Y4.1 hx];exact dx
 have dB:Good (g.ws++ [g.iF i k val]) k (bump (aL (g.K i (ks k)).1 m.1) i) (λq=>if q=g.ws.length then true else g.kn i k q||m.2 q):=by
  refine Good.put hI.eS ((hI.dB i k hi hk).join hm) hbi (λq hq=>by rw[AS (by omega)]) (by simp) (λq hq=>?_)
  rw[AS (by omega),(hI.dB i k hi hk).2.1 q (by omega),hm.2.1 q (by omega)];rfl
 exact {
  aZ:=hI.aZ
  hlen:=by simp only[ax.put,Yh,Za];omega
  eS:=eS
  dx:=hval'
  dS:=λx hx=>by
   rcases Zl.1 hx with hx|hx
   ·exact hI.dS x hx
   ·rw[Y4.1 hx];exact hi4
  dB:=λj l hj hl=>by
   simp only[ax.put]
   by_cases e:j=i
   ·subst e
    by_cases e':l=k
    ·subst e'
     simpa[bq] using dB
    ·have hne:ks l≠ks k:=λq=>e' (dQ l k hl hk q)
     have hh:Good (g.ws++ [g.iF j k val]) l (g.K j (ks l)).1 (g.kn j l):=(hI.dB j l hj hl).other j k val
     simpa[bq,e',hne] using hh
   ·have hh:Good (g.ws++ [g.iF i k val]) l (g.K j (ks l)).1 (g.kn j l):=(hI.dB j l hj hl).other i k val
    simpa[e] using hh
  aA:=λj l hj hl=>by
   simp only[ax.put,ax.iF]
   rw[Av]
   by_cases e:j=i
   ·subst e
    by_cases e':l=k
    ·subst e'
     simp only[XZ,bq,and_self,bump]
     rw[hbi]
    ·have hne:ks l≠ks k:=λq=>e' (dQ l k hl hk q)
     have hne': ¬ k=l:=λq=>e' q.symm
     simpa[bq,hne,hne'] using hI.aA j l hj hl
   ·have hne': ¬ i=j:=λq=>e q.symm
    simpa[e,hne'] using hI.aA j l hj hl
  hex:=λj l hj hl=>by
   simp only[ax.put]
   by_cases e:j=i
   ·subst e
    by_cases e':l=k
    ·subst e'
     simpa[bq] using hl'
    ·have hne:ks l≠ks k:=λq=>e' (dQ l k hl hk q)
     have:=hI.hex j l hj hl
     rw[←Fw (g.iF j k val) ((hI.dB j l hj hl).2.1 _ (AI _))] at this
     simpa[bq,e',hne] using this
   ·have:=hI.hex j l hj hl
    rw[←Fw (g.iF i k val) ((hI.dB j l hj hl).2.1 _ (AI _))] at this
    simpa[e] using this
  im:=λj l q hj hl hq=>by
   simp only[ax.put,Yh,Za] at hq ⊢
   by_cases e:j=i/\l=k
   ·rw[AT e,hI.im i k q hi hk (by omega),hm.2.1 q (by omega)];rfl
   ·rw[AS e];exact hI.im j l q hj hl (by omega)
  jN:=λl x hl hx=>(hI.jN l x hl hx).other i k val
  jw:=hI.jw
  eL:=λj hj=>by
   simp only[ax.put]
   by_cases e:j=i
   ·subst e
    rw[AT rfl]
    have hb:=λb=>dB.bounds (by simp only[Yh,Za];omega) b
    refine (hI.eL j hj).upd (λv hv=>?_) ?_ (λv hv=>?_) λb _=>by have:=hb b;omega
    ·rw[hl'] at hv;exact (EX hv).1
    ·exact X0 hs2.2 (by decide)
    ·rw[hl'] at hv
     obtain⟨_,x,hx,e⟩:=EX hv
     rw[e];exact hval' x hx
   ·rw[AS e];exact hI.eL j hj
  gq:=λj hj s hs=>by
   simp only[ax.put] at hs
   by_cases e:j=i
   ·subst e
    rw[AT rfl] at hs
    by_cases e':s=ks k
    ·exact⟨k,hk,e'⟩
    ·simp only[bq,AS e'] at hs
     exact hI.gq j hj s hs
   ·rw[AS e] at hs;exact hI.gq j hj s hs
  dF:=λj l q hj hl h=>by
   simp only[ax.put] at h ⊢
   by_cases e:j=i/\l=k
   ·obtain⟨rfl,rfl⟩:=e
    simp only[and_self,XZ,YF] at h ⊢
    split
    ·rfl
    ·rw[YF];exact h.imp (hI.dF j l q hj hl) id
   ·rw[AS e] at h ⊢;exact hI.dF j l q hj hl h}
theorem aS.put{X:Nat->Prop}{B:Nat}{w w2:World}{bt:Nat}{g:ax}{ks:Nat->ByteArray}{i k n0:Nat}{m:Mem}{val:ByteArray}{l':List aj}{wv:Value}{A:Array Value}(hN:aS B w bt g)(hF:Fr X w w2)(ht:lV X w bt i n0 g)(hi4:i< 4)(hk:k< 3)(hlen:g.ws.length< 80)(hT:w2.heap[bt]? =some (.cells A 42))(hA:A.size=1939)(bk:aE w2 (g.b i) (g.bm i) i (bq (g.K i) (ks k) (bump (aL (g.K i (ks k)).1 m.1) i,l')))(h1:A[1]? =some wv)(hw:w2.ownsRow B 115 4 wv (g.ws.length+1) (eY (g.ws++ [g.iF i k val])))(hc:A[1927+i*3+k]? =some (.int .i64 (bK g.ws i k+1)))(hg:∀j,j< 80->A[962+i*240+k*80+j]? =some (.bool (g.go i k j||m.2 j)))(bd:∀j,j< 80->A[2+i*240+k*80+j]? =some (.bool (if j=g.ws.length then true else g.kn i k j||m.2 j)))(ho:∀q,(q< 2+i*240+k*80\/2+i*240+k*80+80<=q)->(q< 962+i*240+k*80\/962+i*240+k*80+80<=q)->q≠1->q≠1927+i*3+k->A[q]? =g.A[q]?):aS B w2 bt (g.put ks i k m val l' wv A) where
 hB:=hN.hB
 hT:=hT
 hA:=hA
 h0:=by show A[0]? =_;rw[ho 0 (by omega) (by omega) (by omega) (by omega)];exact hN.h0
 hR:=hF.heap hN.hR (ht.cells hN hN.hR (by decide) (by decide))
 eZ:=hN.eZ
 bk:=λj hj=>by
  simp only[ax.put]
  by_cases e:j=i
  ·subst e;rw[AT rfl];exact bk
  ·rw[AS e];exact ht.rep hN hF hj e
 eP:=hN.eP
 h1:=h1
 hw:=by simp only[ax.put,Yh,Za];exact hw
 bd:=λj l q hj hl hq=>by
  simp only[ax.put]
  by_cases e:j=i/\l=k
  ·obtain⟨rfl,rfl⟩:=e
   rw[AT ⟨rfl,rfl⟩];exact bd q hq
  ·rw[AS e,ho _ (by omega) (by omega) (by omega) (by omega)];exact hN.bd j l q hj hl hq
 hgo:=λj l q hj hl hq=>by
  simp only[ax.put]
  by_cases e:j=i/\l=k
  ·obtain⟨rfl,rfl⟩:=e
   rw[AT ⟨rfl,rfl⟩];exact hg q hq
  ·rw[AS e,ho _ (by omega) (by omega) (by omega) (by omega)];exact hN.hgo j l q hj hl hq
 eJ:=λl hl=>by show A[1922+l]? =_;rw[ho _ (by omega) (by omega) (by omega) (by omega)];exact hN.eJ l hl
 cm:=λl hl=>hF.iO (hN.cm l hl) λb cur hb=>ht.cells hN hb (by decide) (by decide)
 eF:=hN.eF
 ki:=λj l hj hl=>by
  simp only[ax.put,ax.iF]
  rw[Av]
  by_cases e:i=j/\k=l
  ·obtain⟨rfl,rfl⟩:=e
   rw[AT ⟨rfl,rfl⟩];exact hc
  ·rw[AS e,ho _ (by omega) (by omega) (by omega) (by omega),Int.add_zero];exact hN.ki j l hj hl
end Go.Proofs.YtldmcdeibiclkaaGreatDoorQ
