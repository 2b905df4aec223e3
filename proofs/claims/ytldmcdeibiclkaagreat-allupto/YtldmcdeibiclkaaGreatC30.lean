/-
  Toward all_holds
-/
import Derived.Test.YtldmcdeibiclkaaGreatC29
import Derived.Test.YtldmcdeibiclkaaGreatC18
import Derived.Test.YtldmcdeibiclkaaGreatC01
import Derived.Test.YtldmcdeibiclkaaGreatC27
set_option linter.all false
noncomputable section
set_option maxRecDepth 100000
set_option maxHeartbeats 20000000
namespace Go.Proofs.YtldmcdeibiclkaaGreatQ
variable {T:ak->Prop}{w1:af}{e:ak}{xs:ae}
open Go.RowKit
section
def nA(l:List aJ)(nm:ah):Bool:=match l.getLast? with
 |none=>true
 |some t=>mf nm t.1
def gy(bC:Nat):Nat->List aJ×RS->List aJ×RS
 |0,x=>x
 |k+1,x=>if x.2.2=true then x else gy bC k (x.1++ [(dK bC x.2).1],ba (nA x.1 (dK bC x.2).1.1) (dK bC x.2).2)
theorem BO(bC n:Nat){x:List aJ×RS}(h:x.2.2=true):gy bC n x=x:=by
 cases n with
 |zero=>rfl
 |succ n=>rw[gy,BY h]
def lF(lev n:Nat)(r:RS):(ah×List aJ)×RS:=if lev<3 then ((fZ 32 r,[]),(cT 32 r).2) else ((⟨#[]⟩,(gy n (aF 4 r).1 ([],(aF 4 r).2)).1),(gy n (aF 4 r).1 ([],(aF 4 r).2)).2)
def kG(lev:Nat):Nat->Int×List (Nat×ah×List aJ)×RS->List (Nat×ah×List aJ)×RS
 |0,x=>x.2
 |k+1,x=>if x.2.2.2=true then x.2 else if ((aF 1 x.2.2).1:Int)<=x.1\/4 ^ lev<=(aF 1 x.2.2).1 then ([],((aF 1 x.2.2).2.1,true)) else kG lev k ((aF 1 x.2.2).1,x.2.1++ [((aF 1 x.2.2).1,(lF lev (aF 1 x.2.2).1 (aF 1 x.2.2).2).1)],(lF lev (aF 1 x.2.2).1 (aF 1 x.2.2).2).2)
theorem Bw(lev n:Nat){x:Int×List (Nat×ah×List aJ)×RS}(h:x.2.2.2=true):kG lev n x=x.2:=by
 cases n with
 |zero=>rfl
 |succ n=>rw[kG,BY h]
def sW(lev:Nat)(r:RS):List (Nat×ah×List aJ)×RS:=kG lev (aF 1 r).1 (-1,[],ba (decide (1<=(aF 1 r).1/\(aF 1 r).1<=64)) (aF 1 r).2)
def eW(lev:Nat)(r:RS):List (Nat×ah×List aJ)×RS:=((sW lev r).1,ba (decide ((sW lev r).2.1.size=0)) (sW lev r).2)
abbrev Rk:=ah×Ctx×ag×List aG
abbrev Rk.key(k:Rk):aY:=(k.1,k.2.1,k.2.2.1)
abbrev Rk.bP(k:Rk):aJ:=(k.1,k.2.1,k.2.2.2)
def qR(W:af)(base:Nat)(v:ag)(ks:List Rk):Prop:=W.ownsRow base 82 6 v ks.length (flatK (ks.map Rk.key))/\∀k∈ks,W.ownsRow base 88 3 k.2.2.1 k.2.2.2.length (aQ k.2.2.2)
abbrev Pt:=Nat×ah×ag×List Rk
def Pt.is(p:Pt):Nat×ah×List aJ:=(p.1,p.2.1,p.2.2.2.map Rk.bP)
def rn(ps:List Pt):List Value:=ps.flatMap λp=>[.i p.1,.s p.2.1,p.2.2.1]
def kJ(W:af)(base:Nat)(v:ag)(ps:List Pt):Prop:=W.ownsRow base 178 3 v ps.length (rn ps)/\∀p∈ps,qR W base p.2.2.1 p.2.2.2
def qR.de{W W':af}{base:Nat}{v:ag}{ks:List Rk}(h:qR W base v ks)(a:bA T W W')(h1:T 82)(c:T 88):qR W' base v ks:=
 ⟨a.row h.1 h1,λk d=>a.row (h.2 k d) c⟩
def kJ.de{W W':af}{base:Nat}{v:ag}{ps:List Pt}(h:kJ W base v ps)(a:bA T W W')(h1:T 82)(c:T 88)(d:T 178):kJ W' base v ps:=
 ⟨a.row h.1 d,λp f=>(h.2 p f).de a h1 c⟩
theorem bA.lk{w:af}{b:Nat}{S:ah}{s c:RS}(h:Lk w w1 b S s)(a:jz w b S c)(f: ¬T 139):bA T w w1:=λk cs t fr d g=>h.other d λe=>by
 obtain⟨i,a,_⟩:=a;grind
theorem aC.Ti:(aC.prog.info? 178).map (λi=>(i.zero,i.size,i.bytes))=some (some (.agg #[.i 0,.s ⟨#[]⟩,.slice none 0 0]),3,48):=zk
theorem Lk.mw{w wr:af}{b size n:Nat}{S:ah}{s:RS}{v:ag}(h:Lk w wr b S s)(a:wr.ownsRow w e size v n xs)(c:wr.grownBy w1 v.ownBlock)(d:139≠e):Lk w w1 b S s:=by
 obtain⟨i,hi,f⟩:=h.1;exact⟨⟨i,jQ c a hi d,f⟩,h.2.grown c λk g j=>by
  have:=mF a g;omega⟩
def TM{w:af}{o:Option Nat}(h:w.grownBy w1 o){B size n:Nat}{v:ag}(c:w.ownsRow B e size v n xs)(a:∀q,v.ownBlock=some q->some q≠o):w1.ownsRow B e size v n xs:=
 nh c λq d hv=>h.block q d (a q hv)
structure eI(w W:af)(b bp:Nat)(S:ah)(v:ag)(ps:List Pt)(n:Nat)(D:ah)(kv:ag)(ks:List Rk)(s:RS):Prop where
 lk:Lk w W b S s
 pb:W.heap[bp]?=.c #[.i n,.s D,kv] 178
 row:kJ W w v ps
 kr:qR W w kv ks
 iR:∀q,v.ownBlock=some q->q<bp
 uO:∀p∈ps,∀q,p.2.2.1.ownBlock=some q->q<bp
 hi:∀q,kv.ownBlock=some q->bp<q
 ne:b<w/\w<=bp
section
variable {w W W':af}{b bp n:Nat}{S D:ah}{v kv:ag}{ps:List Pt}{ks:List Rk}{s t:RS}
theorem eI.on(h:eI w W b bp S v ps n D kv ks s)(c:Lk W W' b S t):eI w W' b bp S v ps n D kv ks t:=
 have a:bA (λt=>t≠139) W W':=bA.lk c h.lk.1 (λh=>h rfl)
 ⟨h.lk.trans c,a _ _ _ _ h.pb (by decide),h.row.de a (by decide) (by decide) (by decide),h.kr.de a (by decide) (by decide),h.iR,h.uO,h.hi,h.ne⟩
def eI.below(h:eI w W b bp S v ps n D kv ks s)(hb:Below W W W'):eI w W' b bp S v ps n D kv ks s:=
 have a:bA (λ_=>True) W W':=bA.below hb
 ⟨h.lk.below hb,a _ _ _ _ h.pb trivial,h.row.de a trivial trivial trivial,h.kr.de a trivial trivial,h.iR,h.uO,h.hi,h.ne⟩
theorem eI.grown{g2 c:Nat}{kt:Rk}(h:eI w W b bp S v ps n D kv ks s)(r:W.grownBy W' kv.ownBlock)(z:W'.ownsRow w 82 6 (.l g2 (ks.length+1) c) (ks.length+1) (flatK (ks.map Rk.key)++fU kt.key))(hv:W.ownsRow w 88 3 kt.2.2.1 kt.2.2.2.length (aQ kt.2.2.2))(j:kv.ownBlock=some g2\/bp<g2):
  eI w (W'.setCell (.a bp 2) (.l g2 (ks.length+1) c)) b bp S v ps n D (.l g2 (ks.length+1) c) (ks++ [kt]) s:=by
 have g:bA (λt=>t≠82) W W':=bA.grown r h.kr.1 (λh=>h rfl);have i:=g _ _ _ _ h.pb (by decide);have u:=h.ne;have d:bA (λt=>t≠178) W' (W'.setCell (.a bp 2) (.l g2 (ks.length+1) c)):=bA.set i (λh=>h rfl) _ _;refine⟨(h.lk.mw h.kr.1 r (by decide)).setCell ⟨u.2,by omega⟩ _,by have:=heap_set (o:=2) (v:=.l g2 (ks.length+1) c) i;simpa using this,⟨nh (g.row h.row.1 (by decide)) λq m hv=>aaS _ _ _ _ (by have:=h.iR q hv;show q≠bp;omega),λp x=>⟨d.row (TM r (h.row.2 p x).1 λq m e=>by have A:=h.uO p x q m;have C:=h.hi q e.symm;omega) (by decide),λk f=>d.row (g.row ((h.row.2 p x).2 k f) (by decide)) (by decide)⟩⟩,⟨?_,λk f=>?_⟩,h.iR,h.uO,λq m=>?_,h.ne⟩
 .rw[abo,abZ,flatK,acu]
  have:=d.row z (by decide);simpa[flatK] using this
 .rcases abr.1 f with f|f
  .exact d.row (g.row (h.kr.2 k f) (by decide)) (by decide)
  .obtain rfl:=abu.1 f;exact d.row (g.row hv (by decide)) (by decide)
 .have y:g2=q:=by simpa[Value.ownBlock] using m
  rcases j with j|j
  .exact h.hi q (by rw[j,y])
  .omega
def eI.bad(h:eI w W b bp S v ps n D kv ks s):eI w (W.setCell (.a b 2) (.bool true)) b bp S v ps n D kv ks (s.1,true):=h.on (Lk.bad h.lk.1)
theorem eI.set(h:eI w W b bp S v ps n D kv ks s){g:ah}{c:ag}{d:List Rk}{o:Nat}{x:ag}(e:(#[.i n,.s D,kv]:aa).setIfInBounds o x=#[.i n,.s g,c])(k:qR W w c d)(l:∀q,c.ownBlock=some q->bp<q):eI w (W.setCell (.a bp o) x) b bp S v ps n g c d s:=by
 have f:=h.ne;have j:bA (λt=>t≠178) W (W.setCell (.a bp o) x):=bA.set h.pb (λh=>h rfl) o x;have hs:=heap_set (o:=o) (v:=x) h.pb;rw[e]at hs;exact⟨h.lk.setCell ⟨f.2,by omega⟩ x,hs,⟨nh h.row.1 λq r hv=>aaS _ _ _ _ (by have:=h.iR q hv;show q≠bp;omega),λp m=>(h.row.2 p m).de j (by decide) (by decide)⟩,k.de j (by decide) (by decide),h.iR,h.uO,l,h.ne⟩
end
theorem EK(b lev:Nat)(S:ah)(r0:RS)(w:af)(h:jz w b S r0)(bL:lev<=3):
  Calls aC.prog 81 #[.p b,.i lev] w λe w'=>∃v,e=.r v/\Lk w w' b S (eW lev r0).2/\((eW lev r0).2.2=false->∃ps,ps.map Pt.is=(eW lev r0).1/\kJ w' w v ps):=by
 have c0:=h.lt;obtain⟨i0,c6,c7,c8,db⟩:=aaY aC.Ti;obtain⟨i1,dd,df,di,dj⟩:=aaY aC.Iu;have ay:=zu (λn W r hn R=>B7 b n S r W R hn);have HA:Hid (Calls aC.prog 80 #[.p b,.i 1] w λe w'=>e=.r (.i (aF 1 r0).1)/\Lk w w' b S (aF 1 r0).2):=ay.out 1 w r0 zo h;have eo:=iM 1 r0 zf;clear h;unfold eW sW;generalize (aF 1 r0).1=f at*;generalize (aF 1 r0).2=r1 at*;have HE:Hid (f<=64\/(ba (decide (1<=f/\f<=64)) r1).2=true):=(show _\/_ by by_cases h:f<=64<;>simp[ba,h])
 have bT:Hid (∀W,Lk w W b S r1->(decide (1<=f/\f<=64)=true->Lk w W b S (ba (decide (1<=f/\f<=64)) r1))/\(decide (1<=f/\f<=64)=false->Lk w (W.setCell (.a b 2) (.bool true)) b S (ba (decide (1<=f/\f<=64)) r1))):=λW R=>⟨λe=>by rw[e];simpa[ba] using R,λe=>by rw[e];simpa[ba] using R.trans (Lk.bad R.1)⟩
 have b7:Hid (∀z:Bool,z=decide (1<=f/\f<=64)->(z=true↔1<=f/\f<=64)):=λz hz=>by rw[hz];simp
 generalize hF:kG lev f (-1,[],ba (decide (1<=f/\f<=64)) r1)=F at*;have HF:=zu hF;clear hF;simp only;generalize b8:ba (decide (F.2.1.size=0)) F.2=fin;have az:=zu b8.symm;clear b8;generalize ba (decide (1<=f/\f<=64)) r1=r2 at*;generalize a8:decide (1<=f/\f<=64)=gd at*;have bb:=hid (b7.out gd rfl);clear a8 b7;go_enter aC.func81,aC.ntmps81;go_upto_region 2 with (go_at_call 80;refine HA.out.mono ?_;rintro e w1 ⟨rfl,b9⟩;have bc:=hid b9;clear b9)
 go_cut [20] from 15 to 20 (λz U=>z=.bool (!gd)/\U=w1)
 case first=>
  by_cases n1:(f:Int)<1
  .go_wp2_with fail;go_meet;exact⟨by cases gd<;>first|rfl|(have:=bb.out.1 rfl;omega),rfl⟩
  .by_cases n2:(64:Int)<(f:Int)
   .go_wp2_with fail;go_meet;exact⟨by cases gd<;>first|rfl|(have:=bb.out.1 rfl;omega),rfl⟩
   .go_wp2_with fail;go_meet;exact⟨by cases gd<;>first|rfl|(have:=bb.out.2 zo;cases this),rfl⟩
 case rest=>
  obtain⟨rfl,ep⟩:=hcut;subst wc;go_upto_if 20 with fail;go_cut [] from 21 to 23 (λU=>Hid (Lk w U b S r2))
  case first=>
   obtain⟨i,x0,x1,x2⟩:=bc.out.1;obtain⟨cl,fl⟩:=aH x0;cases gd
   .go_wp2_with fail;go_meet;exact hid ((bT.out _ bc.out).2 (by first|rfl|trivial))
   .go_wp2_with fail;go_meet;exact hid ((bT.out _ bc.out).1 (by first|rfl|trivial))
  case rest=>
   have ao:=hcut;clear hcut bc bT HA bb;go_wp2;go_loopw [6,7,8] (λov lv iv wr=>∃(k:Nat) (ls:Int) (ps:List Pt) (r:RS),k<=f/\ps.length=k/\lv=.i ls/\iv=.i k/\Hid (Lk w wr b S r)/\Hid (kJ wr w ov ps)/\Hid (f<=64\/r.2=true)/\Hid (kG lev (f-k) (ls,ps.map Pt.is,r)=F)) (λ_ _ iv _=>f-(intOf iv).toNat)
   case atStart=>exact⟨0,-1,[],r2,zo,rfl,rfl,rfl,ao.out,⟨abh _ _ _ _,λp hp=>by cases hp⟩,HE.out,HF.out⟩
   case round=>
    obtain⟨k,ls,ps,⟨s,q⟩,hk,dk,rfl,rfl,HL,HP,ca,bm⟩:=hrel;clear ao HE HF;subst dk;obtain⟨ad,cap,rfl⟩:=dS HP.out.1;obtain⟨i,y0,y1,y2,y3⟩:=HL.out.1;obtain⟨cl,fl⟩:=aH y0;simp only at y2;have HY:=zu HL.out.1;by_cases aA:ps.length<f/\q=false
    .obtain⟨aA,rfl⟩:=aA;have k1:(ps.length:Int)<(f:Int):=zo;have er:decide ((ps.length:Int)<(f:Int))=true:=by simpa using aA
     have dm:=ca.out.resolve_right zp;have aB:Hid ((((aF 1 (s,false)).1:Int)<=ls\/4 ^ lev<=(aF 1 (s,false)).1)->([],((aF 1 (s,false)).2.1,true))=F):=λhb=>by
      have:=bm.out;rwa [show f-ps.length=(f-(ps.length+1))+1 by omega,kG,AT zp,BY hb]at this
     have aE:Hid (¬(((aF 1 (s,false)).1:Int)<=ls\/4 ^ lev<=(aF 1 (s,false)).1)->kG lev (f-(ps.length+1)) ((aF 1 (s,false)).1,ps.map Pt.is++ [((aF 1 (s,false)).1,(lF lev (aF 1 (s,false)).1 (aF 1 (s,false)).2).1)],(lF lev (aF 1 (s,false)).1 (aF 1 (s,false)).2).2)=F):=λhb=>by
      have:=bm.out;rwa [show f-ps.length=(f-(ps.length+1))+1 by omega,kG,AT zp,AT hb]at this
     have cb:Hid (Calls aC.prog 80 #[.p b,.i 1] wr λe w'=>e=.r (.i (aF 1 (s,false)).1)/\Lk w w' b S (aF 1 (s,false)).2/\kJ w' w (.slice ad ps.length cap) ps):=(ay.out 1 wr _ zo HL.out.1).mono λe w' ⟨he,hr⟩=>⟨he,HL.out.trans hr,HP.out.de (T:=λt=>t≠139) (bA.lk hr HL.out.1 (λh=>h rfl)) zd zd zd⟩
     clear bm HL HP y0 y1 y2 y3 HY ca;generalize (aF 1 (s,false)).1=d at*;generalize (aF 1 (s,false)).2=r3 at*;go_upto_region 10 with (go_at_call 80;refine cb.out.mono ?_;rintro e w2 ⟨rfl,cd,cj⟩;have ao:=hid cd;have bn:=hid cj;clear cd cj)
     have bo:Hid (eI w (w2.alloc (.cells #[.i d,.s ⟨#[]⟩,.slice none 0 0] 178)) b w2 S (.slice ad ps.length cap) ps d ⟨#[]⟩ (.slice none 0 0) [] r3):=
      have hb:Below w2 w2 (w2.alloc (.cells #[.i d,.s ⟨#[]⟩,.slice none 0 0] 178)):=zj.alloc zf _
      ⟨ao.out.below hb,By w2 _,bn.out.de (T:=λ_=>True) (bA.below hb) trivial trivial trivial,⟨abh _ _ _ _,λk hk=>by cases hk⟩,λq hq=>pO bn.out.1 hq,λp hp q hq=>pO (bn.out.2 p hp).1 hq,λq hq=>(by cases hq),⟨c0,ao.out.2.size⟩⟩
     obtain⟨W0,ck⟩: ∃W,W=w2.alloc (.cells #[.i d,.s ⟨#[]⟩,.slice none 0 0] 178):=⟨_,rfl⟩
     rw[<-ck]at bo ⊢;clear ck ao bn cb;generalize w2.heap.size=bp at*;obtain⟨cp,fp⟩:=aH bo.out.pb;have p0:=cp 0;have cm:=zu (λW=>Ar lev W bL);have dq:Hid (4 ^ lev<=64/\(lev=3->4 ^ lev=64)):=(show _/\_ from⟨(mz bL).1,λe=>by rw[e]⟩)
     have J:Hid (∀z:Bool,(z=true↔((d:Int)<=ls\/4 ^ lev<=d))->z=decide ((d:Int)<=ls\/4 ^ lev<=d)):=λz hz=>by rw[acU,hz];simp
     generalize cq:4 ^ lev=wd at*;have ej:=zu cq;clear cq;have bZ:Hid (∀w',Below W0 W0 w'->w'.cell? (.a bp 0)=.i d):=λw' hw=>aX (by simpa using p0) hw;clear cp fp p0;go_cut [49] from 39 to 49 (λz U=>z=.bool (decide ((d:Int)<=ls\/wd<=d))/\Hid (Below W0 W0 U))
     case first=>
      by_cases c1:(d:Int)<=ls
      .have p0:=bZ.out W0 zj;have HZ:=hid (J.out true ⟨λ_=>.inl c1,λ_=>rfl⟩);clear J aB aE;go_quiet (fail);go_wp2_with fail;go_meet;exact⟨by rw[<-HZ.out],abg zj _⟩
      .have HZ:Hid (decide (wd<=d)=decide ((d:Int)<=ls\/wd<=d)):=J.out _ ⟨λh=>.inr (by simpa using h),λh=>by rcases h with h|h<;>first|(exact absurd h c1)|(simpa using h)⟩;clear J aB aE;go_region_held3 (λw'=>w'.cell? (.a bp 0)=.i d)
        ((refine bZ.out _ ?_;first|(simp (maxDischargeDepth:=12) [aaP,aaR];done)))
        (first|(go_at_call 52;refine AI (cm.out _) ?_;rintro e w' ⟨rfl,et⟩;subst w'))
       all_goals
        go_wp2_with fail;go_meet;exact⟨by rw[HZ.out],zj.drew⟩
     case rest=>
      obtain⟨rfl,V⟩:=hcut;have P:=hid (bo.out.below V.out);clear V bo bZ cm J;have cr:Hid (∀z,decide ((d:Int)<=ls\/wd<=d)=z->(z=true↔((d:Int)<=ls\/wd<=d))):=λz hz=>by rw[<-hz];simp
      generalize dt:decide ((d:Int)<=ls\/wd<=d)=bd at*;have J:=hid (cr.out bd rfl);clear cr dt;obtain⟨i,y0,_⟩:=P.out.lk.1;obtain⟨cl,fl⟩:=aH y0;obtain⟨cp,fp⟩:=aH P.out.pb;clear y0;go_upto_if 49 with fail;cases bd;rotate_left
      .obtain rfl:=aB.out (J.out.1 rfl);have du:=hid P.out.bad.lk;have cv:Hid (fin=(r3.1,true)):=az.out.trans (by simp[ba]);clear aB aE az J P;go_wp2;go_ret;exact⟨_,rfl,by rw[cv.out];exact du.out,λh=>by rw[cv.out]at h;cases h⟩
      .have a8: ¬((d:Int)<=ls\/wd<=d):=λh=>by have:=J.out.2 h;cases this
       have Z:=hid (aE.out a8);have dv:d<64:=by have:=dq.out.1;omega
       clear aB aE J a8;go_upto_if 56 with fail;go_cut [10,11,12] from 56 to 100 (λ_ _ _ U=>∃D kv ks,(D,ks.map Rk.bP)=(lF lev d r3).1/\Hid (eI w U b bp S (.slice ad ps.length cap) ps d D kv ks (lF lev d r3).2))
       case first=>
        by_cases eu:(lev:Int)<3
        .have X:Hid (lF lev d r3=((fZ 32 r3,[]),(cT 32 r3).2)):=BY zo;have HT:Hid (∀W,eI w W b bp S (.slice ad ps.length cap) ps d ⟨#[]⟩ (.slice none 0 0) [] r3->Calls aC.prog 107 #[.p b,.i 32] W λe w'=>e=.r (.s (fZ 32 r3))/\eI w w' b bp S (.slice ad ps.length cap) ps d ⟨#[]⟩ (.slice none 0 0) [] (cT 32 r3).2):=λW R=>(Cl b 32 S r3 W R.lk.1 zo).mono λe w' ⟨he,hr⟩=>⟨he,R.on hr⟩
         clear Z;go_wp2_with (go_at_call 107;refine(HT.out _ P.out).mono ?_;rintro e w5 ⟨rfl,aq⟩;obtain⟨c5,f5⟩:=aH aq.pb;have ar:=hid aq;clear aq)
         go_meet;exact⟨fZ 32 r3,.slice none 0 0,[],by rw[X.out];rfl,by rw[X.out];exact ar.out.set zp ar.out.kr ar.out.hi⟩
        .have X:Hid (lF lev d r3=((⟨#[]⟩,(gy d (aF 4 r3).1 ([],(aF 4 r3).2)).1),(gy d (aF 4 r3).1 ([],(aF 4 r3).2)).2)):=AT zo;have cw:Hid (∀W,eI w W b bp S (.slice ad ps.length cap) ps d ⟨#[]⟩ (.slice none 0 0) [] r3->Calls aC.prog 80 #[.p b,.i 4] W λe w'=>e=.r (.i (aF 4 r3).1)/\eI w w' b bp S (.slice ad ps.length cap) ps d ⟨#[]⟩ (.slice none 0 0) [] (aF 4 r3).2):=λW R=>(ay.out 4 W r3 zo R.lk.1).mono λe w' ⟨he,hr⟩=>⟨he,R.on hr⟩
         have ey:=iM 4 r3 zf;clear Z;generalize (aF 4 r3).1=c2 at*;generalize (aF 4 r3).2=r4 at*;generalize hG:gy d c2 ([],r4)=G at*;have HG:=zu hG;clear hG;go_wp2_with (go_at_call 80;refine(cw.out _ P.out).mono ?_;rintro e w5 ⟨rfl,aq⟩;have ar:=hid aq;clear aq)
         clear P cl fl cp fp cw;go_loopw [11] (λjv U=>∃(j:Nat) (kv:ag) (ks:List Rk) (r:RS),j<=c2/\ks.length=j/\jv=.i j/\Hid (eI w U b bp S (.slice ad ps.length cap) ps d ⟨#[]⟩ kv ks r)/\Hid (gy d (c2-j) (ks.map Rk.bP,r)=G)) (λjv _=>c2-(intOf jv).toNat)
         case atStart=>exact⟨0,.slice none 0 0,[],r4,zo,rfl,rfl,ar.out,HG.out⟩
         case round=>
          obtain⟨j,kv,ks,⟨Q,q'⟩,hj,dx,rfl,HP,b0⟩:=hrel;clear ar HG;subst dx;obtain⟨K,u,rfl⟩:=dS HP.out.kr.1;obtain⟨i,y0,_⟩:=HP.out.lk.1;obtain⟨cl,fl⟩:=aH y0;obtain⟨cp,fp⟩:=aH HP.out.pb;simp only at cl;clear y0;by_cases aT:ks.length<c2/\q'=false
          .obtain⟨aT,rfl⟩:=aT;have j1:(ks.length:Int)<(c2:Int):=zo;have eB:decide ((ks.length:Int)<(c2:Int))=true:=by simpa using aT
           have ab:Hid (gy d (c2-(ks.length+1)) (ks.map Rk.bP++ [(dK d (Q,false)).1],ba (nA (ks.map Rk.bP) (dK d (Q,false)).1.1) (dK d (Q,false)).2)=G):=(by
            have:=b0.out;rwa [show c2-ks.length=(c2-(ks.length+1))+1 by omega,gy,AT zp]at this)
           have b1:Hid (∀W A B C D E F',eI w W b bp A B C d D E F' (Q,false)->A=S->Calls aC.prog 108 #[.p b,.i d] W λe w'=>∃sv,e=.r (.agg #[.s (dK d (Q,false)).1.1,.i ((dK d (Q,false)).1.2.1 0),.i ((dK d (Q,false)).1.2.1 1),.i ((dK d (Q,false)).1.2.1 2),.i ((dK d (Q,false)).1.2.1 3),sv])/\w'.ownsRow w 88 3 sv (dK d (Q,false)).1.2.2.length (aQ (dK d (Q,false)).1.2.2)/\eI w w' b bp A B C d D E F' (dK d (Q,false)).2):=λW A B C D E F' R hA=>by
            subst hA;exact(TQ b d A (Q,false) W R.lk.1 dv).mono λe w' ⟨sv,he,ho,hr⟩=>⟨sv,he,bU ho R.lk.2.size,R.on hr⟩
           clear b0;generalize (dK d (Q,false)).2=r6 at*;generalize (dK d (Q,false)).1=kt at*;obtain⟨knm,kc,L⟩:=kt;simp only at ab b1;go_upto_region 21 with (go_at_call 108;refine(b1.out _ _ _ _ _ _ _ HP.out rfl).mono ?_;rintro e w6 ⟨sv,rfl,b2,cA⟩;obtain⟨y,o,rfl⟩:=dS b2;have cB:=hid b2;have cI:=hid cA;clear b2 cA)
           obtain⟨W7,br⟩: ∃W,W=w6.alloc (.cells (.q knm kc (.slice y L.length o)) 82):=⟨_,rfl⟩
           have b3:Below w6 w6 W7:=by rw[br];exact zj.alloc zf _
           have Y:Hid (eI w W7 b bp S (.slice ad ps.length cap) ps d ⟨#[]⟩ (.slice K ks.length u) ks r6/\W7.heap[w6.heap.size]?=.c (.q knm kc (.slice y L.length o)) 82/\W7.ownsRow w 88 3 (.slice y L.length o) L.length (aQ L)):=⟨cI.out.below b3,by rw[br];exact By w6 _,bH cB.out b3 zf⟩
           rw[<-br];clear br b3 cB cI HP b1 cl fl cp fp;generalize w6.heap.size=bx at*;have bs:Hid (ks.length=0->nA (ks.map Rk.bP) knm=true):=λh=>by rw[acP h];rfl
           have bB:Hid (∀j (h:j<ks.length),ks.length=j+1->nA (ks.map Rk.bP) knm=!(Op.bytesLess knm.toList ks[j].1.toList||knm.toList==ks[j].1.toList)):=λj h e=>by
            unfold nA;rw[List.getLast?_eq_getElem?,abe,show ks.length-1=j by omega,ada,abG h];rfl
           obtain⟨cx,fx⟩:=aH Y.out.2.1;obtain⟨cp,fp⟩:=aH Y.out.1.pb;generalize dC:nA (ks.map Rk.bP) knm=od at*;clear dC;go_cut [91] from 78 to 91 (λz U=>z=.bool (!od)/\Hid (Below W7 W7 U))
           case first=>
            by_cases e0:ks.length=0
            .have b4:=hid (bs.out e0);generalize dW:(ks.length:Int)=kI at*;have e1: ¬(0:Int)<kI:=zo;clear e0 ab bs bB;go_quiet (fail);go_wp2_with fail;go_meet;exact⟨by rw[b4.out];rfl,abg zj _⟩
            .obtain⟨j,cK⟩: ∃j,ks.length=j+1:=⟨ks.length-1,zo⟩
             have bN:j<ks.length:=zo;have b4:=hid (bB.out j bN cK);obtain⟨g,ek,e,_,_,_,cc⟩:=dU Y.out.1.kr.1 zo;cases e;have d0:=q6 (ks.map Rk.key) j (by simpa using bN) 0 zo;have p0:=cc (j*6) (.s ks[j].1) zo (by simpa[fU] using d0);have e1:(0:Int)<(ks.length:Int):=zo;have m1:IntKind.i64.wrap ((ks.length:Int)-1)=(j:Int):=by rw[IntKind.wrap_i64];omega
             have j2:(0:Int)<=(j:Int):=zo;have j3:(j:Int)<(ks.length:Int):=zo;clear cc d0 cK e0 ab bs bB;generalize ks[j].1=kn at*;generalize dW:(ks.length:Int)=kI at*;go_quiet (fail);go_wp2_with fail;go_meet;exact⟨by rw[b4.out,Bool.not_not],abg zj _⟩
           case rest=>
            obtain⟨rfl,V⟩:=hcut;have M:Hid (eI w wc b bp S (.slice ad ps.length cap) ps d ⟨#[]⟩ (.slice K ks.length u) ks r6/\wc.heap[bx]?=.c (.q knm kc (.slice y L.length o)) 82/\wc.ownsRow w 88 3 (.slice y L.length o) L.length (aQ L)):=⟨Y.out.1.below V.out,bj Y.out.2.1 V.out,bH Y.out.2.2 V.out zf⟩
            clear Y V cx fx cp fp bs bB;go_upto_if 91 with fail;go_cut [] from 92 to 94 (λU=>Hid (eI w U b bp S (.slice ad ps.length cap) ps d ⟨#[]⟩ (.slice K ks.length u) ks (ba od r6)/\U.heap[bx]?=.c (.q knm kc (.slice y L.length o)) 82/\U.ownsRow w 88 3 (.slice y L.length o) L.length (aQ L)))
            case first=>
             obtain⟨i,y0,_⟩:=M.out.1.lk.1;obtain⟨cl,fl⟩:=aH y0;clear y0;cases od
             .go_wp2_with fail;go_meet;have hK:bA (λt=>t≠139) _ _:=bA.lk (Lk.bad M.out.1.lk.1) M.out.1.lk.1 (λh=>h rfl);exact hid ⟨by simpa[ba] using M.out.1.bad,hK _ _ _ _ M.out.2.1 zd,hK.row M.out.2.2 zd⟩
             .go_wp2_with fail;go_meet;exact hid ⟨by simpa[ba] using M.out.1,M.out.2⟩
            case rest=>
             have N:=hcut;clear hcut M;generalize ba od r6=r7 at*;obtain⟨cx,fx⟩:=aH N.out.2.1;obtain⟨cp,fp⟩:=aH N.out.1.pb;have b5:=N.out.1.lk.2.size;have en:=(IN.1 N.out.1.pb).1;go_wp2_with (at_builtin;refine abq _ rfl _ _ _ rfl w 82 i1 _ 6 72 aC.underlying43 dd df di dj rfl zo (.slice K ks.length u) _ _ rfl (aaV N.out.1.kr.1 _) (.a wc 0) 1 1 [.s knm,.i (kc 0),.i (kc 1),.i (kc 2),.i (kc 3),.slice y L.length o] rfl rfl (aaT (cs:=(.q knm kc (.slice y L.length o))) (t:=82) (fr:=(0,0)) (By wc _)) zv zo ze zo zt (wc.heap.size+1) zp ?_;intro g9 bR w9 H I an cN;have cW:=jQ I (aaV N.out.1.kr.1 _) (bj N.out.1.pb (zj.alloc zf _)) zd;obtain⟨c9,f9⟩:=aH cW;have b6:=hid H;have ea:=hid I;have eb:=hid an;clear H I an cW)
             have av:Below wc wc (wc.alloc (.cells (.q knm kc (.slice y L.length o)) 82)):=zj.alloc zf _;have ee:=hid (eI.grown (kt:=((knm,kc,Value.slice y L.length o,L):Rk)) (N.out.1.below av) ea.out b6.out (bH N.out.2.2 av zf) (eb.out.elim .inl λh=>.inr zo));refine⟨⟨ks.length+1,.l g9 (ks.length+1) bR,ks++ [((knm,kc,Value.slice y L.length o,L):Rk)],r7,zo,zp,by go_num,ee.out,?_⟩,zi⟩;rw[abZ];exact ab.out
          .have a6:(ks.map Rk.bP,(Q,q'))=G:=by
            have:=b0.out;by_cases hq:q'=true
            .rwa [BO _ _ (by exact hq)]at this
            .have hn: ¬ks.length<c2:=λh=>aT ⟨h,by simpa using hq⟩;rwa [show c2-ks.length=0 by omega,gy]at this
           subst a6;have a7:=zu aT;by_cases eg:(ks.length:Int)<(c2:Int)
           .obtain rfl:q'=true:=by
             have:=a7.out;simp only[not_and,acg]at this;exact this zo
            go_wp2_with fail;go_meet;exact⟨_,_,ks,by rw[X.out],by rw[X.out];exact HP.out⟩
           .go_wp2_with fail;go_meet;exact⟨_,_,ks,by rw[X.out],by rw[X.out];exact HP.out⟩
       case rest=>
        obtain⟨D,kv,ks,hD,O⟩:=hcut;have HD:=hid hD;clear hD P cl fl cp fp;obtain⟨K,u,rfl⟩:=dS O.out.kr.1;obtain⟨cp,fp⟩:=aH O.out.pb;have b5:=O.out.lk.2.size;generalize (lF lev d r3).2=r8 at*;have eh:Hid (Pt.is (d,D,.slice K ks.length u,ks)=(d,(lF lev d r3).1)):=(by show Pt.is _=_;rw[<-HD.out];rfl)
        rw[<-eh.out]at Z;go_wp2_with (at_builtin;refine abq _ rfl _ _ _ rfl w 178 i0 _ 3 48 aC.underlying140 c6 c7 c8 db rfl zo (.slice ad ps.length cap) _ _ rfl (aaV O.out.row.1 _) (.a wc 0) 1 1 [.i d,.s D,.slice K ks.length u] rfl rfl (aaT (cs:=#[.i d,.s D,.slice K ks.length u]) (t:=178) (fr:=(0,0)) (By wc _)) zv zo ze zo zt (wc.heap.size+1) zp ?_;intro g9 bR w9 H I an cN;have av:Below wc wc (wc.alloc (.cells #[.i d,.s D,.slice K ks.length u] 178)):=zj.alloc zf _;have cY:Hid (bA (λt=>t≠178) wc w9):=(bA.below av).trans (bA.grown I (aaV O.out.row.1 _) (λh=>h rfl));have ei:=hid ((O.out.lk.below av).mw (aaV O.out.row.1 _) I zd);have b6:=hid H;clear H I an av)
        refine⟨⟨ps.length+1,d,ps++ [(d,D,.slice K ks.length u,ks)],r8,zo,zp,rfl,by go_num,ei.out,⟨?_,λp hp=>?_⟩,.inl dm,?_⟩,zi⟩
        .rw[abo,rn,acu];exact b6.out
        .rcases abr.1 hp with hp|hp
         .exact (O.out.row.2 p hp).de cY.out zd zd
         .obtain rfl:=abu.1 hp;exact O.out.kr.de cY.out zd zd
        .rw[abZ];exact Z.out
    .have a6:(ps.map Pt.is,(s,q))=F:=by
      have:=bm.out;by_cases hq:q=true
      .rwa [Bw _ _ (by exact hq)]at this
      .have hn: ¬ps.length<f:=λh=>aA ⟨h,by simpa using hq⟩;rwa [show f-ps.length=0 by omega,kG]at this
     subst a6;have b5:s.size=S.size-i:=by rw[y2,acO];omega
     have x:Hid (∀m,(i=S.size->Lk w (wr.drewN m) b S fin/\kJ (wr.drewN m) w (.slice ad ps.length cap) ps)/\(¬i=S.size->Lk w ((wr.drewN m).setCell (.a b 2) (.bool true)) b S fin/\fin.2=true)):=λm=>by
      have hb:=abg (aaP wr wr) m;refine⟨λe=>?_,λe=>?_⟩
      .rw[az.out,abJ (by simp only;omega)];exact⟨by simpa[ba] using HL.out.below hb,HP.out.de (T:=λ_=>True) (bA.below hb) trivial trivial trivial⟩
      .rw[az.out,abC (by simp only;omega)]
       have:=(HL.out.below hb).trans (Lk.bad (HL.out.below hb).1);exact⟨by simpa[ba] using this,by simp[ba]⟩
     clear y2 b5 HY az;have a7:=zu aA;have a1:(i:Int)<=(S.size:Int):=zo;have a2:(S.size:Int)<=140737488355328:=zo;by_cases eg:(ps.length:Int)<(f:Int)
     .obtain rfl:q=true:=by
       have:=a7.out;simp only[not_and,acg]at this;exact this zo
      by_cases hi:(i:Int)=(S.size:Int)
      .go_upto_region 25 with fail;go_quiet (fail);go_wp2;go_ret;exact⟨_,rfl,((x.out _).1 zo).1,λ_=>⟨ps,rfl,((x.out _).1 zo).2⟩⟩
      .go_upto_region 25 with fail;go_quiet (fail);go_wp2;go_ret;exact⟨_,rfl,((x.out _).2 zo).1,λh=>by rw[((x.out 0).2 zo).2]at h;cases h⟩
     .by_cases hi:(i:Int)=(S.size:Int)
      .go_upto_region 25 with fail;go_quiet (fail);go_wp2;go_ret;exact⟨_,rfl,((x.out _).1 zo).1,λ_=>⟨ps,rfl,((x.out _).1 zo).2⟩⟩
      .go_upto_region 25 with fail;go_quiet (fail);go_wp2;go_ret;exact⟨_,rfl,((x.out _).2 zo).1,λh=>by rw[((x.out 0).2 zo).2]at h;cases h⟩
end
end Go.Proofs.YtldmcdeibiclkaaGreatQ
namespace Go.Proofs.YtldmcdeibiclkaaGreatQ
variable {lev:Nat}{α:Type}
theorem tK:∀(n:Nat) (x:List aG×RS),(eF n x).2.2=false->x.2.2=false
 |0,x,h=>h
 |n+1,x,h=>by
  cases a:x.2.2 with
  |true=>rw[vE _ a,a]at h;cases h
  |false=>rfl
theorem Bp:∀(n:Nat) (x:List aG×RS),∃t,(eF n x).1=x.1++t
 |0,x=>⟨[],by simp[eF]⟩
 |n+1,x=>by
  cases a:x.2.2 with
  |true=>exact⟨[],by rw[vE _ a];simp⟩
  |false=>
   obtain⟨t,h⟩:=Bp n (x.1++ [(bE x.2).1],(bE x.2).2);exact⟨(bE x.2).1::t,by rw[qZ a,h];simp⟩
theorem F3{r:RS}(h:(bE r).2.2=false):CE r=(bE r).1.val.size:=by
 have c:=h;have d:=vj c;have a:=wY (aF 1 (aF 4 (aF 1 r).2).2).1 (aF 1 (aF 4 (aF 1 r).2).2).2;rw[d]at a;exact a.symm
def wK(c:Ctx)(v:aG):Prop:=v.rep<4/\1<=v.n/\v.val.size<=12/\v.n<=c v.rep
theorem Ew{l:List aG}{v:aG}(h:l.Pairwise λa b=>bf a b=true):jI l v=true↔∀u∈l,bf u v=true:=by
 unfold jI;rcases List.eq_nil_or_concat l with rfl|⟨d,u,rfl⟩
 .simp
 .rw[List.concat_eq_append] at*;simp only[List.getLast?_append,List.getLast?_singleton,Option.some_or];refine⟨λhv x c=>?_,λhv=>hv u zp⟩;rcases abr.1 c with c|c
  .have f:=(ach.1 h).2.2 x c u zp;simp only[bf,abb] at*;omega
  grind
theorem EL(c:Ctx):∀(n:Nat) (x:List aG×RS),(∀v∈x.1,wK c v)->x.1.Pairwise (λa b=>bf a b=true)->(ia c n x).2.2=false->ia c n x=eF n x/\(∀v∈(eF n x).1,wK c v)/\(eF n x).1.Pairwise λa b=>bf a b=true
 |0,x,h1,h,_=>⟨rfl,h1,h⟩
 |n+1,x,h1,h,d=>by
  cases i:x.2.2 with
  |true=>rw[xh _ _ i,i]at d;cases d
  |false=>
   rw[qZ i];rw[ia,AT (by simp[i])]at d ⊢;split at d
   .cases d
   .rename_i hb;rw[AT hb];have k:(ba (gT c (bE x.2).1&&jI x.1 (bE x.2).1) (bE x.2).2).2=false:=by
     cases m:(ba (gT c (bE x.2).1&&jI x.1 (bE x.2).1) (bE x.2).2).2 with
     |true=>rw[xh _ _ (by exact m)]at d;grind
     |false=>rfl
    simp only[ba,acD,Bool.not_eq_false',No]at k;obtain⟨j,f,g⟩:=k;have l:ba (gT c (bE x.2).1&&jI x.1 (bE x.2).1) (bE x.2).2=(bE x.2).2:=by simp[ba,f,g]
    rw[l]at d ⊢;simp only[oP,abb]at hb;have o:=F3 j;have hv:wK c (bE x.2).1:=by
     simp only[gT,abb]at f;exact⟨zo,zo,zo,f⟩
    refine EL c n _ (λv l=>?_) (ach.2 ⟨h,List.pairwise_singleton _ _,λa p b hb=>?_⟩) d
    .grind
    .obtain rfl:=abu.1 hb;exact(Ew h).1 g a p
theorem Gi(c:Ctx):∀(n:Nat) (x:List aG×RS),(eF n x).2.2=false->(∀v∈(eF n x).1,wK c v)->(eF n x).1.Pairwise (λa b=>bf a b=true)->ia c n x=eF n x
 |0,x,_,_,_=>rfl
 |n+1,x,f,h1,g=>by
  have j:=tK _ _ f;rw[qZ j]at f h1 g ⊢;obtain⟨t,k⟩:=Bp n (x.1++ [(bE x.2).1],(bE x.2).2);have h:=tK _ _ f;have hv:=h1 (bE x.2).1 (by rw[k];simp);have l:=g;rw[k]at l;have i:=(ach.1 l).1;have d:=ach.1 i;have m:jI x.1 (bE x.2).1=true:=(Ew d.1).2 λu h=>d.2.2 u h _ zp;have hs:gT c (bE x.2).1=true:=by simpa[gT] using hv.2.2.2
  have o:=F3 h;have hb: ¬oP x.2=true:=by
   simp only[oP,abb];obtain⟨v1,p,q,r⟩:=hv;grind
  rw[ia,AT (by simp[j]),AT hb,hs,m,show ba (true&&true) (bE x.2).2=(bE x.2).2 by simp[ba]];exact Gi c n _ f h1 g
def vK{r:RS}:∀{i:Nat},(cH i r).2=false->r.2=false
 |0,h=>h
 |i+1,h=>vK (i:=i) (mh h)
theorem Cn{c:Bool}{r:RS}(h:(ba c r).2=false):r.2=false/\c=true/\ba c r=r:=by
 simp only[ba,acD,Bool.not_eq_false']at h;exact⟨h.1,h.2,by simp[ba,h.2]⟩
theorem BQ(r:RS):ba true r=r:=by simp[ba]
theorem uf(c:Bool){r:RS}(h:c=false\/r.2=true):(ba c r).2=true:=by
 rcases h with h|h<;>simp[ba,h]
theorem QG(c:Ctx):∀(n:Nat) (x:List aG×RS),(ia c n x).2.2=false->x.2.2=false
 |0,x,h=>h
 |n+1,x,h=>by
  cases a:x.2.2 with
  |true=>rw[xh _ _ a,a]at h;cases h
  |false=>rfl
theorem Bz{c:Ctx}:lu c=false↔∃i,i<4/\c i≠0:=by
 simp only[lu,acA];grind
theorem Je{bC:Nat}{r:RS}(h:(cg r).2.2=false)(d:kL (cg r).1 bC):dK bC r=cg r:=by
 obtain⟨f,hs,a⟩:=d;have g:=tK _ _ h;have i:=vK (mh g);have c:mP r=(bX r).1:=vj i;have j:kU bC r=(bX r).2:=by
  unfold kU;rw[c,show bq (bX r).1=true from f,abJ (show aZ (bX r).1=bC from hs)];exact BQ _
 have k:rp (bX r).2=(aF 4 (cH 4 (bX r).2)).2:=by
  unfold rp;rw[show cR (rC (bX r).2)=true from a.ctx,show lu (rC (bX r).2)=false from Bz.2 a.some,Bool.and_false];exact BQ _
 have l:=Gi (rC (bX r).2) _ _ h a.fX a.sorted;simp only[dK,j,k,l,c];rfl
theorem vO(bC:Nat)(r:RS):(dK bC r).2.2=false↔(cg r).2.2=false/\kL (cg r).1 bC:=by
 refine⟨λh=>?_,λ⟨h,k,hs,l⟩=>?_⟩
 .have f:=QG _ _ _ h;obtain⟨o,a,g⟩:=Cn f;have p:=vK (mh o);obtain⟨q,c,u⟩:=Cn p;have x:mP r=(bX r).1:=vj q;have y:kU bC r=(bX r).2:=u;simp only[dK,y]at h f a g;have z:rp (bX r).2=(aF 4 (cH 4 (bX r).2)).2:=g;rw[z]at h;obtain⟨g1,g2,A⟩:=EL _ _ _ (λv hv=>by simp at hv) List.Pairwise.nil h;rw[g1]at h;simp only[No,abb,x]at c;refine⟨h,c.1,c.2,?_,?_,g2,A⟩
  .simp only[No]at a;exact a.1
  .simp only[No,Bool.not_eq_true',Bool.and_eq_false_iff,acA]at a;rcases a.2 with i|i
   .by_cases j:lu (rC (bX r).2)=false
    .exact Bz.1 j
    .exfalso;have d:lu (rC (bX r).2)=true:=by simpa using j
     simp only[lu,abb]at d;obtain⟨m,C⟩: ∃m,(aF 4 (cH 4 (bX r).2)).1=m+1:=⟨(aF 4 (cH 4 (bX r).2)).1-1,by omega⟩
     rw[C]at g2 h;have E:=tK _ _ h;rw[qZ E]at g2 h;obtain⟨t,F⟩:=Bp m (([]:List aG)++ [(bE (aF 4 (cH 4 (bX r).2)).2).1],(bE (aF 4 (cH 4 (bX r).2)).2).2);obtain⟨v1,G,H,I⟩:=g2 (bE (aF 4 (cH 4 (bX r).2)).2).1 (by rw[F];simp);grind
   .exact Bz.1 i
 .rw[Je h ⟨k,hs,l⟩];exact h
def U2{bC:Nat}{r:RS}(h:(dK bC r).2.2=false):dK bC r=cg r:=Je ((vO bC r).1 h).1 ((vO bC r).1 h).2
theorem Mh{k:ah}(h:bq k=true):mf k ⟨#[]⟩=true:=by
 have hs:1<=k.size:=by simp only[bq,No,abb]at h;exact h.1.1
 simp only[mf,Bool.not_eq_true',acD,Proofs.bytesLess_eq,acC,acA,aaQ];refine⟨List.not_lt_nil _,λe=>?_⟩
 have:=congrArg List.length e;simp only[Array.length_toList,abM]at this;have a:1<=k.data.size:=hs;omega
theorem IA(bC:Nat):∀(n:Nat) (l:List aJ) (last:ah) (r:RS),(l= []/\last=⟨#[]⟩\/∃f t,l=f++ [t]/\last=t.1)->(gy bC n (l,r)).2.2=(eZ bC n (last,l,r)).2.2.2/\((gy bC n (l,r)).2.2=false->gy bC n (l,r)=(eZ bC n (last,l,r)).2)
 |0,l,last,r,_=>⟨rfl,λ_=>rfl⟩
 |n+1,l,last,r,hl=>by
  cases c:r.2 with
  |true=>rw[BO _ _ (by exact c),qL _ _ (by exact c)];grind
  |false=>
   rw[gy,AT (by simp[c]),uJ (by exact c)];simp only;cases d:(dK bC r).2.2 with
   |false=>
    have e:=U2 d;obtain⟨g,a⟩:=(vO bC r).1 d;have i:nA l (cg r).1.1=kN bC last (cg r).1:=by
     rcases hl with⟨rfl,rfl⟩|⟨f,t,rfl,rfl⟩
     .simp[nA,kN,Mh a.1,a]
     .simp[nA,kN,a]
    rw[e,i];exact IA bC n _ _ _ (.inr ⟨l,_,rfl,rfl⟩)
   |true=>
    have g:(ba (nA l (dK bC r).1.1) (dK bC r).2).2=true:=uf _ (.inr d);have a:(ba (kN bC last (cg r).1) (cg r).2).2=true:=by
     have j: ¬((cg r).2.2=false/\kL (cg r).1 bC):=λh=>by have:=(vO bC r).2 h;grind
     by_cases h:(cg r).2.2=false
     .exact uf _ (.inl (by simp[kN];grind))
     .exact uf _ (.inr (by simpa using h))
    rw[BO _ _ (by exact g),qL _ _ (by exact a)];grind
def UZ(n:Nat)(r:RS):(gy n (aF 4 r).1 ([],(aF 4 r).2)).2.2=(bW n r).2.2/\((gy n (aF 4 r).1 ([],(aF 4 r).2)).2.2=false->gy n (aF 4 r).1 ([],(aF 4 r).2)=bW n r):=
 IA n _ _ _ _ (.inl ⟨rfl,rfl⟩)
theorem Gw(d:lev<=3){f:Nat->RS->α×RS}{E:ah×List aJ->α->Prop}(i:∀n r,(lF lev n r).2.2=(f n r).2.2/\((f n r).2.2=false->(lF lev n r).2=(f n r).2/\E (lF lev n r).1 (f n r).1))(a:∀n r,r.2=true->(f n r).2.2=true):
  ∀(k:Nat) (ls:Int) (zs:List (Nat×(ah×List aJ)×α)) (r:RS),(∀z∈zs,E z.2.1 z.2.2)->(kG lev k (ls,zs.map (λz=>(z.1,z.2.1)),r)).2.2=(eY f lev k (ls,zs.map (λz=>(z.1,z.2.2)),r)).2.2.2/\((eY f lev k (ls,zs.map (λz=>(z.1,z.2.2)),r)).2.2.2=false->∃c:List (Nat×(ah×List aJ)×α),(∀z∈c,E z.2.1 z.2.2)/\kG lev k (ls,zs.map (λz=>(z.1,z.2.1)),r)=(c.map (λz=>(z.1,z.2.1)),(eY f lev k (ls,zs.map (λz=>(z.1,z.2.2)),r)).2.2)/\(eY f lev k (ls,zs.map (λz=>(z.1,z.2.2)),r)).2.1=c.map (λz=>(z.1,z.2.2)))
 |0,ls,zs,r,j=>⟨rfl,λ_=>⟨zs,j,rfl,rfl⟩⟩
 |k+1,ls,zs,r,j=>by
  cases g:r.2 with
  |true=>rw[Bw _ _ (by exact g),mJ _ _ _ (by exact g)];grind
  |false=>
   rw[kG,AT (by simp[g]),uD (by exact g)];simp only;by_cases hb:((aF 1 r).1:Int)<=ls\/4 ^ lev<=(aF 1 r).1
   .rw[BY hb];have h1:(f (aF 1 r).1 (rA lev ls r)).2.2=true:=a _ _ (uf _ (.inl (by
     grind)))
    rw[mJ _ _ _ (by exact h1)];grind
   .rw[AT hb];have l:rA lev ls r=(aF 1 r).2:=by
     unfold rA;rw[abJ (show ls<((aF 1 r).1:Int) by omega),abJ (show lev<=3/\(aF 1 r).1<4 ^ lev by omega)];exact BQ _
    rw[l];obtain⟨h1,m⟩:=i (aF 1 r).1 (aF 1 r).2;cases h:(f (aF 1 r).1 (aF 1 r).2).2.2 with
    |true=>
     rw[h]at h1;rw[Bw _ _ (by exact h1),mJ _ _ _ (by exact h)];grind
    |false=>
     obtain⟨o,p⟩:=m h
     have:=Gw d i a k ((aF 1 r).1:Int) (zs++ [((aF 1 r).1,(lF lev (aF 1 r).1 (aF 1 r).2).1,(f (aF 1 r).1 (aF 1 r).2).1)]) (f (aF 1 r).1 (aF 1 r).2).2 (λz q=>by
      grind)
     grind
theorem Hq(c:lev<=3){f:Nat->RS->α×RS}{E:ah×List aJ->α->Prop}(k:∀n r,(lF lev n r).2.2=(f n r).2.2/\((f n r).2.2=false->(lF lev n r).2=(f n r).2/\E (lF lev n r).1 (f n r).1))(d:∀n r,r.2=true->(f n r).2.2=true)(r:RS):
  ((eW lev r).2.2=false↔dJ (cf f lev r).2=true)/\(dJ (cf f lev r).2=true->∃zs:List (Nat×(ah×List aJ)×α),(∀z∈zs,E z.2.1 z.2.2)/\(eW lev r).1=zs.map (λz=>(z.1,z.2.1))/\(cf f lev r).1=zs.map (λz=>(z.1,z.2.2))):=by
 obtain⟨l,m⟩:=Gw c k d (aF 1 r).1 (-1) [] (ba (decide (1<=(aF 1 r).1/\(aF 1 r).1<=64)) (aF 1 r).2) zc;have i:(sW lev r).2.2=(cf f lev r).2.2:=l;have h:(cf f lev r).2.2=false->∃a:List (Nat×(ah×List aJ)×α),(∀z∈a,E z.2.1 z.2.2)/\sW lev r=(a.map (λz=>(z.1,z.2.1)),(cf f lev r).2)/\(cf f lev r).1=a.map (λz=>(z.1,z.2.2)):=m;cases g:(cf f lev r).2.2 with
 |true=>
  rw[g]at i;have q:(eW lev r).2.2=true:=uf _ (.inr i);have u:dJ (cf f lev r).2=false:=by simp[dJ,g]
  grind
 |false=>
  obtain⟨zs,o,j,p⟩:=h g;refine⟨?_,λ_=>⟨zs,o,by simp only[eW,j],p⟩⟩;simp only[eW,j,ba,dJ,g];simp
theorem Um(r:RS):((eW 3 r).2.2=false↔dJ (cf bW 3 r).2=true)/\(dJ (cf bW 3 r).2=true->(eW 3 r).1=(cf bW 3 r).1.map λg=>(g.1,⟨#[]⟩,g.2)):=by
 obtain⟨c,d⟩:=Hq (lev:=3) zo (f:=bW) (E:=λa b=>a=(⟨#[]⟩,b)) (λn r=>by
  obtain⟨c,d⟩:=UZ n r;have e:lF 3 n r=((⟨#[]⟩,(gy n (aF 4 r).1 ([],(aF 4 r).2)).1),(gy n (aF 4 r).1 ([],(aF 4 r).2)).2):=AT (by omega);grind) (λn r h=>by
  cases i:(bW n r).2.2 with
  |true=>rfl
  |false=>have:=mh (xY _ _ i);grind) r
 refine⟨c,λh=>?_⟩;obtain⟨zs,l,j,k⟩:=d h;rw[j,k,acE];exact aci λz m=>zg
def tI(D:ah)(d:Nat->Int):Prop:=D.size=32/\∀i,i<4->d i=be (D.extract (8*i) (8*i+8))
theorem xa{s:ah}:∀(i:Nat),8*i<=s.size->jD i (s,false)=(s.extract (8*i) s.size,false)
 |0,_=>by
  simp only[jD,Nat.mul_zero];simp_all
 |i+1,h=>by
  have a:(s.extract (8*i) s.size).size=s.size-8*i:=by simp_all
  rw[jD,xa i zo];show(cT 8 _).2=_;rw[mA zo];simp only[a];rw[ByteArray.extract_extract,show 8*i+8=8*(i+1) by omega,show min (8*i+(s.size-8*i)) s.size=s.size by omega]
theorem yO{r:RS}:∀(i:Nat),r.2=true->(jD i r).2=true
 |0,h=>h
 |i+1,h=>by
  show(cT 8 _).2.2=true;rw[mg (.inl (yO i h))]
theorem AU(c:lev<3)(r:RS):((eW lev r).2.2=false↔dJ (cf iA lev r).2=true)/\(dJ (cf iA lev r).2=true->∃zs:List (Nat×(ah×List aJ)×(Nat->Int)),(∀z∈zs,tI z.2.1.1 z.2.2)/\(eW lev r).1=zs.map (λz=>(z.1,z.2.1))/\(cf iA lev r).1=zs.map (λz=>(z.1,z.2.2))):=by
 refine Hq (lev:=lev) zo (f:=iA) (E:=λa b=>tI a.1 b) (λn r=>?_) (λn r h=>yO 4 h) r;obtain⟨s,q⟩:=r;have e:lF lev n (s,q)=((fZ 32 (s,q),[]),(cT 32 (s,q)).2):=BY c;rw[e];cases q with
 |true=>
  have d:(iA n (s,true)).2.2=true:=yO 4 rfl;rw[mg (.inl rfl),d];grind
 |false=>
  by_cases hs:32<=s.size
  .have j:=xa (s:=s) 4 zo;have k:(iA n (s,false)).2=(s.extract 32 s.size,false):=j;rw[k,mA hs];refine⟨rfl,λ_=>⟨rfl,wY 32 _,λi hi=>?_⟩⟩;show((aF 8 (jD i (s,false))).1:Int)=_;rw[xa i zo,vj (by rw[mA hs]),mA hs];show((be (cT 8 _).1).toNat:Int)=_;rw[mA (by rw[acO];omega),Int.toNat_of_nonneg (show 0<=be _ from(sF _ _).1)];simp only[ByteArray.extract_extract];grind
  .have d:(iA n (s,false)).2.2=true:=by
    cases l:(iA n (s,false)).2.2 with
    |true=>rfl
    |false=>
     exfalso;have key:∀i,(jD i (s,false)).2=false->8*i<=s.size:=λi=>by
      induction i with
      |zero=>intro _;omega
      |succ i m=>
       intro h;have o:=m (mh h);have g:(cT 8 (jD i (s,false))).2.2=false:=h;rw[xa i o]at g;by_cases p:8<=s.size-8*i
       .omega
       .rw[mg (.inr (by simp_all))]at g;cases g
     have:=key 4 l;omega
   rw[mg (.inr (by simp only;omega)),d];grind
theorem JQ{p q:ah}:∀k,dL p k=dL q k->∀j,j<k->kB p j=kB q j
 |k+1,h,j,hj=>by
  have h1:=zE p k;have a:=zE q k;simp only[dL]at h;by_cases e:j=k
  .subst e;omega
  .exact JQ k zo j zo
theorem DG{p q:ah}(hs:p.size=q.size)(h:be p=be q):p=q:=by
 apply acj;apply acm
 .exact hs
 .intro i a c;have d:=JQ (p:=p) (q:=q) p.size (by have f:dL p p.size=dL q q.size:=h;rwa [<-hs]at f) i a;rw[sA p i a,sA q i c]at d;have:p[i].toNat=q[i].toNat:=zo;exact UInt8.toNat_inj.1 this
end Go.Proofs.YtldmcdeibiclkaaGreatQ
namespace Go.Proofs.YtldmcdeibiclkaaGreatQ
variable {W:af}{B:Nat}
open Go.RowKit
theorem PE{a:Int}(h:W.heap[B]?=.c #[.int .u8 (a%256)] 5):(convert 124 9 (.l B 1 1)).run aC.prog W=.ok (.s (aK a)) W:=
 run_convert_bytes_arg (P:=aC.prog) _ 124 5 aC.underlying124 aC.underlying5 B 0 1 1 [a%256] rfl (λj hj=>by
  obtain rfl:j=0:=by simpa using hj
  rw[(aH h).1];rfl) 9 aC.underlying9
theorem sP{n:Nat}(d:n<256)(h:W.heap[B]?=.c #[.int .u8 n] 5):(convert 124 9 (.l B 1 1)).run aC.prog W=.ok (.s (aK n)) W:=
 PE (a:=n) zg
def eP(T:Nat->ah)(c:Nat->Nat):List Nat->ah
 |[]=>ByteArray.empty
 |n::ns=>aK n++(dp (c n)++T n)++eP T c ns
theorem Hj(T:Nat->ah)(c:Nat->Nat)(l:List Nat)(n:Nat):eP T c (l++ [n])=eP T c l++(aK n++(dp (c n)++T n)):=by
 induction l with
 |nil=>simp[eP,iT,lG]
 |cons x l a=>rw[abT,eP,a,eP];simp only[cE]
theorem Yd(T:Nat->ah)(c:Nat->Nat)(l:List Nat)(k:Nat):(eP T c (l.take k)).size<=(eP T c l).size:=by
 have key:∀a b:List Nat,(eP T c (a++b)).size=(eP T c a).size+(eP T c b).size:=λa b=>by
  induction a with
  |nil=>simp[eP]
  |cons x a d=>simp only[abT,eP,OF,d];omega
 have:=key (l.take k) (l.drop k);simp_all
theorem F7{w:af}{rb:Nat}{T:Nat->ah}{c:Nat->Nat}(h:mu w rb T c)(kind:Nat)(B:Nat)(nv:ag)(ns:List Nat)(aT:fi w B nv ns)(hl:ns.length<=64)(o:∀n∈ns,n<64)(V:∀n∈ns,c n<=4294967295)(ao:(eP T c ns).size<=140737488355000):
  Calls aC.prog 109 #[.p rb,.s (aK kind),nv] w λe w'=>e=.r (.s (aK kind++aK ns.length++eP T c ns))/\Below w w w':=by
 obtain⟨ad,cap,rfl⟩:=dS aT;have q:=zu aT;have F:Hid (∀n∈ns,n<64/\c n<=4294967295):=λn X=>⟨o n X,V n X⟩
 have Y:=zu h.bC;clear h aT o V;have hcv:∀(W:af) B,W=B->(convert 124 9 (.l B 1 1)).run aC.prog (W.alloc (.cells #[.int .u8 ns.length] 5))=.ok (.s (aK ns.length)) (W.alloc (.cells #[.int .u8 ns.length] 5)):=λW B u=>sP zo (by subst u;exact By W _);have aq:(aK kind).size=1:=rfl;have ar:(aK ns.length).size=1:=rfl;generalize aK kind=kb at*;generalize aK ns.length=lb at*;go_enter aC.func109,aC.ntmps109;go_wp2;clear hcv;have x:Hid (Below w w (w.alloc (.cells #[.int .u8 ns.length] 5))):=zj.alloc zf _;go_loopw [7,8] (λsv G wr=>∃k:Nat,k<=ns.length/\G=.i k/\sv=.s (kb++lb++eP T c (ns.take k))/\Hid (Below w w wr)) (λ_ G _=>ns.length-(intOf G).toNat)
 case atStart=>exact⟨0,zo,rfl,by simp[eP,iT],x.out⟩
 case round=>
  obtain⟨k,hk,rfl,rfl,H⟩:=hrel;clear x;by_cases f:k<ns.length
  .have k1:(k:Int)<(ns.length:Int):=zo;have k0:(0:Int)<=(k:Int):=zo;obtain⟨g,Z,e,_,_,hg,cc⟩:=dU q.out zo;cases e;have cn:=cc k (.i ns[k]) zo (by simp[f]);obtain⟨y,av⟩:=F.out _ (IS f);have n1:(ns[k]:Int)<=255:=zo;have n0:(0:Int)<=(ns[k]:Int):=zo;have ay:IntKind.u8.wrap (ns[k]:Int)=(ns[k]:Int):=by rw[IntKind.wrap_u8];omega
   have ab:IntKind.u64.wrap (c ns[k]:Int)=(c ns[k]:Int):=by rw[IntKind.wrap_u64];omega
   have q1:(c ns[k]:Int)<=4294967295:=zo;have q0:(0:Int)<=(c ns[k]:Int):=zo;have z:=Yd T c ns (k+1);have I:Hid (kb++lb++eP T c (ns.take (k+1))=kb++lb++eP T c (ns.take k)++aK ns[k]++dp (c ns[k])++T ns[k]):=(show _=_ by rw[abE f,Hj];simp only[cE])
   have an:(kb++lb++eP T c (ns.take k)).size+1+4+(T ns[k]).size<=140737488355328:=by
    rw[abE f,Hj]at z;simp only[OF,dE,l6] at*;omega
   have A:=hid (Y.out ns[k] y wr H.out);have J:Hid (∀W,Calls aC.prog 55 #[.int .u64 (c ns[k]),.i 4] W λe w'=>e=.r (.s (dp (c ns[k])))/\Below W W w'):=λW=>by
    have:=xV (c ns[k]) 4 W zo;rw[Er]at this;exact this
   have hcv:∀(W:af) B,W=B->(convert 124 9 (.l B 1 1)).run aC.prog (W.alloc (.cells #[.int .u8 ns[k]] 5))=.ok (.s (aK ns[k])) (W.alloc (.cells #[.int .u8 ns[k]] 5)):=λW B u=>sP zo (by subst u;exact By W _);have az:∀(W:af) B,W=B->(convert 124 9 (.l B 1 1)).run aC.prog (W.alloc (.cells #[.int .u8 ns[k]] 5)).drew=.ok (.s (aK ns[k])) (W.alloc (.cells #[.int .u8 ns[k]] 5)).drew:=λW B u=>sP zo (by subst u;exact By W _);have K:Hid (∀(W W':af),Below (W.alloc (.cells #[.int .u8 ns[k]] 5)).heap.size (W.alloc (.cells #[.int .u8 ns[k]] 5)) W'->(convert 124 9 (.l W 1 1)).run aC.prog W'=.ok (.s (aK ns[k])) W'):=λW W' L=>sP zo (bj (By W _) L);have M:Hid (∀(W W':af),Below (W.alloc (.cells #[.int .u8 ns[k]] 5)).drew.heap.size (W.alloc (.cells #[.int .u8 ns[k]] 5)).drew W'->(convert 124 9 (.l W 1 1)).run aC.prog W'=.ok (.s (aK ns[k])) W'):=λW W' L=>sP zo (bj (W:=(W.alloc (.cells #[.int .u8 ns[k]] 5)).drew) (By W _) L);have aA:(aK ns[k]).size=1:=rfl;have aB:(dp (c ns[k])).size=4:=rfl;have C:Hid (∀W',Below w w W'->W'.cell? (.a g k)=.i ns[k]):=λW' N=>aX cn N;have O:=C.out wr H.out;generalize kb++lb++eP T c (ns.take k)=st at*;generalize T ns[k]=tn at*;generalize dp (c ns[k])=nb at*;generalize aK ns[k]=ob at*;generalize c ns[k]=cnt at*;generalize ns[k]=nk at*;clear cc cn z Y;go_upto_region 6 with (go_at_call 50;refine A.out.mono ?_;rintro e w1 ⟨rfl,m⟩;have E:=hid m;have P:=C.out w1 m;clear m)
   have Q:Hid (∀w',Below w1 w1 w'->w'.cell? (.a g k)=.i nk):=λw' hw=>aX P hw;clear O A;go_region_with (first|(go_at_call 55;refine AI (J.out _) ?_;rintro e w2 ⟨rfl,d⟩;(try have R:=K.out _ _ d);(try have R:=M.out _ _ d);(try have aE:=Q.out w2 (by first|exact bk zj.drew d|exact bk (zj.drew.alloc zf _) d|exact bk (zj.alloc zf _).drew d));have j:=hid d;clear d))
   all_goals
    have hX:Below w1 w1 w2:=by first|exact bk zj.drew j.out|exact bk (zj.drew.alloc zf _) j.out|exact bk (zj.alloc zf _).drew j.out
    have U:=hid hX;clear hX j;go_wp2;refine⟨⟨k+1,zo,by go_num,by rw[I.out],?_⟩,zi⟩;first
     |exact bk E.out U.out
     |exact bk E.out (U.out.alloc U.out.size _)
  .obtain rfl:k=ns.length:=zo;rw[abF];go_wp2;go_ret;exact⟨rfl,H.out⟩
end Go.Proofs.YtldmcdeibiclkaaGreatQ
