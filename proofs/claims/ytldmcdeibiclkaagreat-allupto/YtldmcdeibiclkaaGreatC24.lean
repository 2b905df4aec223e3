/-
  Toward all_holds
-/
import Derived.Test.YtldmcdeibiclkaaGreatC23
import Derived.Test.YtldmcdeibiclkaaGreatC01
import Derived.Test.YtldmcdeibiclkaaGreatC20
import Derived.Laws.BytesArg
import Derived.Test.YtldmcdeibiclkaaGreatC18
import Derived.Deep.QuietTactic
import Derived.BigQuiet
set_option linter.all false
noncomputable section
set_option maxRecDepth 100000
set_option maxHeartbeats 20000000
namespace Go.Proofs.YtldmcdeibiclkaaGreatQ
open Go.RowKit
inductive Let where
 |root (d:Int)
 |nodes (lev:Nat) (sg:List Nd)
 |bS (kind:Nat) (sg:List (Nat×List aJ))
def Av(w W:af)(v:ag):Let->Prop
 |.root d=>v=.iface 104 (.agg #[.int .u64 d])
 |.nodes lev sg=>∃lv,v=.iface 167 (.agg #[.i lev,lv])/\W.ownsRow w 217 5 lv sg.length (gJ sg)
 |.bS kind sg=>∃lv gs,v=.iface 171 (.agg #[.int .u8 kind,lv])/\kV w W lv gs sg
def dZ(T:ah):Option Let:=
 if (aF 1 (T,false)).1=82 then (if dJ (aF 8 (aF 1 (T,false)).2).2=true then some (.root (aF 8 (aF 1 (T,false)).2).1) else none)
 else if (aF 1 (T,false)).1=78 then (if dJ (fL (aF 1 (T,false)).2).2=true then some (.nodes (aF 1 (aF 1 (T,false)).2).1 (fL (aF 1 (T,false)).2).1) else none)
 else if (aF 1 (T,false)).1=83\/(aF 1 (T,false)).1=84 then (if dJ (cf bW 3 (aF 1 (T,false)).2).2=true then some (.bS (aF 1 (T,false)).1 (cf bW 3 (aF 1 (T,false)).2).1) else none)
 else none
theorem Rd.out{w W a:af}{b:Nat}{s:RS}(h:Rd W a b s)(hb:Below w w W)(hl:w<=b):Below w w a:=
 hb.trans (h.2.toBelow (λk c=>zo) hb.size)
def Su(w:af)(L:Option Let)(e:Ending)(w':af):Prop:=(match L with
 |none=>e=.r (.tuple #[.nilIface,.i 8])
 |some L=>∃v,e=.r (.tuple #[v,.i 0])/\Av w w' v L)/\Below w w w'
theorem Kf(T:ah)(w:af)(D:T.size<=140737488355328):
  Calls aC.prog 78 #[.string T] w λe w'=>Su w (dZ T) e w':=by
 have E:Hid (cM (w.alloc (.cells #[.s T,.bool false] 212)) w (T,false)):=(show cM _ _ _ from⟨By w _,D⟩)
 have G:Hid (Below w w (w.alloc (.cells #[.s T,.bool false] 212))):=zj.alloc zf _;have m:Hid (Calls aC.prog 98 #[.p w.heap.size] (w.alloc (.cells #[.s T,.bool false] 212)) λe w'=>e=.r (.i (aF 1 (T,false)).1)/\cM w' w (aF 1 (T,false)).2/\Below w w w'):=(rF _ _ _ E.out).mono λe w' ⟨n,l⟩=>⟨n,l.1,l.out G.out zf⟩
 have q:Hid (∀W r,cM W w r->Calls aC.prog 103 #[.p w.heap.size] W λe w'=>e=.r (.bool (dJ r))/\w'=W):=λW r x=>Mu _ r W x;have y:Hid _:=Vg T w;have C:=iM 1 (T,false) zf;unfold dZ;generalize (aF 1 (T,false)).1=kd at*;generalize (aF 1 (T,false)).2=r1 at*;clear E D;obtain⟨z,L⟩: ∃z:Int,(kd:Int)=z:=⟨_,rfl⟩
 rw[L]at m;have H:(kd=82/\z=82)\/(kd=78/\z=78)\/(kd=83/\z=83)\/(kd=84/\z=84)\/((z≠82/\z≠78/\z≠83/\z≠84)/\kd≠82/\kd≠78/\¬(kd=83\/kd=84)):=zo;clear L C;go_enter aC.func78,aC.ntmps78;rcases H with⟨rfl,rfl⟩|⟨rfl,rfl⟩|⟨rfl,rfl⟩|⟨rfl,rfl⟩|⟨⟨O,P,Q,R⟩,k1,M,N⟩
 .rw[BY rfl];have I:Hid (∀W,cM W w r1->Below w w W->Calls aC.prog 99 #[.p w.heap.size] W λe w'=>e=.r (.int .u64 (aF 8 r1).1)/\cM w' w (aF 8 r1).2/\Below w w w'):=λW x hb=>(It _ _ W x).mono λe w' ⟨n,l⟩=>⟨n,l.1,l.out hb zf⟩
  generalize (aF 8 r1).1=d at*;generalize (aF 8 r1).2=r2 at*;cases F:dJ r2
  all_goals
   go_wp2_with (first
    |(go_at_call 97;refine AI y.out ?_;rintro e w' ⟨rfl,c⟩;subst w')
    |(go_at_call 98;refine AI m.out ?_;rintro e w1 ⟨rfl,f,j⟩)
    |(go_at_call 99;refine AI (I.out _ f j) ?_;rintro e w2 ⟨rfl,k,a⟩)
    |(go_at_call 103;refine AI (q.out _ _ k) ?_;rintro e w' ⟨rfl,c⟩;subst w'))
   go_ret2;first
    |exact⟨rfl,a⟩
    |exact⟨⟨_,rfl,rfl⟩,a⟩
 .rw[AT zo,BY rfl];have A:Hid (∀W,cM W w r1->Below w w W->Calls aC.prog 100 #[.p w.heap.size] W λe w'=>∃lv,e=.r (.agg #[.i (aF 1 r1).1,lv])/\w'.ownsRow w 217 5 lv (fL r1).1.length (gJ (fL r1).1)/\cM w' w (fL r1).2/\Below w w w'):=λW x hb=>(UO _ _ W x).mono λe w' ⟨lv,n,aT,l⟩=>⟨lv,n,bU aT hb.size,l.1,l.out hb zf⟩
  generalize (fL r1).1=sg at*;generalize (fL r1).2=r2 at*;generalize (aF 1 r1).1=lev at*;cases F:dJ r2
  all_goals
   go_wp2_with (first
    |(go_at_call 97;refine AI y.out ?_;rintro e w' ⟨rfl,c⟩;subst w')
    |(go_at_call 98;refine AI m.out ?_;rintro e w1 ⟨rfl,f,j⟩)
    |(go_at_call 100;refine AI (A.out _ f j) ?_;rintro e w2 ⟨lv,rfl,b,k,a⟩)
    |(go_at_call 103;refine AI (q.out _ _ k) ?_;rintro e w' ⟨rfl,c⟩;subst w'))
   go_ret2;first
    |exact⟨rfl,a⟩
    |exact⟨⟨_,rfl,⟨lv,rfl,b⟩⟩,a⟩
 .rw[AT zo,AT zo,BY zo];have A:Hid (∀W,cM W w r1->Below w w W->Calls aC.prog 101 #[.p w,.int .u8 83] W λe w'=>∃lv gs,e=.r (.agg #[.int .u8 83,lv])/\kV w w' lv gs (cf bW 3 r1).1/\cM w' w (cf bW 3 r1).2/\Below w w w'):=λW x hb=>(C3 _ 83 _ W x).mono λe w' ⟨lv,gs,n,aT,l⟩=>⟨lv,gs,n,⟨bU aT.row hb.size,aT.is,λg J=>(aT.jO g J).base hb.size⟩,l.1,l.out hb zf⟩
  generalize (cf bW 3 r1).1=sg at*;generalize (cf bW 3 r1).2=r2 at*;cases F:dJ r2
  all_goals
   go_wp2_with (first
    |(go_at_call 97;refine AI y.out ?_;rintro e w' ⟨rfl,c⟩;subst w')
    |(go_at_call 98;refine AI m.out ?_;rintro e w1 ⟨rfl,f,j⟩)
    |(go_at_call 101;refine AI (A.out _ f j) ?_;rintro e w2 ⟨lv,gs,rfl,b,k,a⟩)
    |(go_at_call 103;refine AI (q.out _ _ k) ?_;rintro e w' ⟨rfl,c⟩;subst w'))
   go_ret2;first
    |exact⟨rfl,a⟩
    |exact⟨⟨_,rfl,⟨lv,gs,rfl,b⟩⟩,a⟩
 .rw[AT zo,AT zo,BY zo];have A:Hid (∀W,cM W w r1->Below w w W->Calls aC.prog 101 #[.p w,.int .u8 84] W λe w'=>∃lv gs,e=.r (.agg #[.int .u8 84,lv])/\kV w w' lv gs (cf bW 3 r1).1/\cM w' w (cf bW 3 r1).2/\Below w w w'):=λW x hb=>(C3 _ 84 _ W x).mono λe w' ⟨lv,gs,n,aT,l⟩=>⟨lv,gs,n,⟨bU aT.row hb.size,aT.is,λg J=>(aT.jO g J).base hb.size⟩,l.1,l.out hb zf⟩
  generalize (cf bW 3 r1).1=sg at*;generalize (cf bW 3 r1).2=r2 at*;cases F:dJ r2
  all_goals
   go_wp2_with (first
    |(go_at_call 97;refine AI y.out ?_;rintro e w' ⟨rfl,c⟩;subst w')
    |(go_at_call 98;refine AI m.out ?_;rintro e w1 ⟨rfl,f,j⟩)
    |(go_at_call 101;refine AI (A.out _ f j) ?_;rintro e w2 ⟨lv,gs,rfl,b,k,a⟩)
    |(go_at_call 103;refine AI (q.out _ _ k) ?_;rintro e w' ⟨rfl,c⟩;subst w'))
   go_ret2;first
    |exact⟨rfl,a⟩
    |exact⟨⟨_,rfl,⟨lv,gs,rfl,b⟩⟩,a⟩
 .rw[AT k1,AT M,AT N];have K:Hid (∀W,cM W w r1->Below w w W->Calls aC.prog 102 #[.p w,.bool false] W λe w'=>e=.r (.tuple #[])/\cM w' w (ba false r1)/\Below w w w'):=λW x hb=>(uZ _ _ _ W x).mono λe w' ⟨n,l⟩=>⟨n,l.1,l.out hb zf⟩
  have F:dJ (ba false r1)=false:=by simp[dJ,ba]
  generalize ba false r1=r2 at*;go_wp2_with (first
   |(go_at_call 97;refine AI y.out ?_;rintro e w' ⟨rfl,c⟩;subst w')
   |(go_at_call 98;refine AI m.out ?_;rintro e w1 ⟨rfl,f,j⟩)
   |(go_at_call 102;refine AI (K.out _ f j) ?_;rintro e w2 ⟨rfl,k,a⟩)
   |(go_at_call 103;refine AI (q.out _ _ k) ?_;rintro e w' ⟨rfl,c⟩;subst w'))
  go_ret2;exact⟨rfl,a⟩
end Go.Proofs.YtldmcdeibiclkaaGreatQ
namespace Go.Proofs.YtldmcdeibiclkaaGreatQ
def Let.keys:Let->List ah
 |.bS _ sg=>sg.flatMap λg=>g.2.map (·.1)
 |_=>[]
def lO(T:ah):List ByteArray:=((dZ T).map Let.keys).getD []
def fO(U:List ah)(T:ah):Prop:=T.size<=140737488355328/\∀s∈lO T,s∈U
end Go.Proofs.YtldmcdeibiclkaaGreatQ
namespace Go.Proofs.YtldmcdeibiclkaaGreatQ
variable {w w1 wr w':af}{S X S':Nat->Prop}{t tv tl:ak}{pat xs ys:ae}{v pv le hv u vs:ag}{h wb g cap B:Nat}{hs:List Nat}{hb:ag->aa}{o:Obj}
open Go.RowKit
section
variable {U:List ah}
structure PG where
 b:Nat
 bm:Nat->Nat
 num:Nat
 K:aL
 rb:Nat
 sv:ag
 l:List aY
structure dw(w:af)(g:PG):Prop where
 rep:aV w g.b g.bm g.num g.K
 gI:cG w g.rb g.num g.sv g.l g.K
 inv:cF g.K
 num:g.num<4
def Apart(g g':PG):Prop:=(∀n m,n<64->m<64->g.bm n≠g'.bm m)/\g.rb≠g'.rb
def iL(w:af)(t:ak)(pat:ae)(S:Nat->Prop)(v:ag):Prop:=
 ∃ad n cap,v=.slice ad n cap/\n<=2000000000000/\(n=0\/∃g cur,ad=.a g 0/\S g/\w.heap[g]?=.c cur t/\∀i j,i<n->j<pat.length->cur[i*pat.length+j]?=pat[j]?)
theorem iL.frame(h:iL w t pat S v)(f:Fr X w w1)(i:∀g a,S g->w.heap[g]?=.c a t->¬X g):iL w1 t pat S v:=by
 obtain⟨ad,n,cap,e,j,h⟩:=h;refine⟨ad,n,cap,e,j,?_⟩;rcases h with h|⟨g,a,k,b,d,l⟩
 .exact Or.inl h
 .exact Or.inr ⟨g,a,k,b,f.heap d (i g a b d),l⟩
theorem iL.weaken(h:iL w t pat S v)(b:∀g,g<w.heap.size->S g->S' g):iL w t pat S' v:=by
 obtain⟨ad,n,cap,e,a,h⟩:=h;refine⟨ad,n,cap,e,a,?_⟩;grind
abbrev qV(m:ah):List Value:=[.i 0,.i 0,.s m]
abbrev qG(m:ah):List Value:=[.s m]
def fB(w:af)(h:Nat)(S:Nat->Prop):Prop:=
 ∃(vs ts:ag) (m:ah) (vl tl:ae),w.heap[h]?=.c #[vs,ts,.s m] 110/\m.size<=4/\w.ownsRow 0 67 1 vs vl.length vl/\w.ownsRow 0 27 1 ts tl.length tl/\vl.length<=9/\tl.length<=9/\
  (∀v∈vl,iL w 88 (qV m) S v)/\∀v∈tl,iL w 9 (qG m) S v
theorem fB.frame(H:fB w h S)(b:Fr X w w1)(e: ¬X h)(hv:∀g a,w.heap[g]?=.c a 67->¬X g)(f:∀g a,w.heap[g]?=.c a 27->¬X g)(i:∀g a,S g->w.heap[g]?=.c a 88->¬X g)(d:∀g a,S g->w.heap[g]?=.c a 9->¬X g):fB w1 h S:=by
 obtain⟨vs,j,m,vl,tl,k,l,n,p,q,r,s,x⟩:=H;exact⟨vs,j,m,vl,tl,b.heap k e,l,b.fh n hv,b.fh p f,q,r,λv hv=>(s v hv).frame b i,λv hv=>(x v hv).frame b d⟩
theorem fB.weaken(H:fB w h S)(a:∀g,g<w.heap.size->S g->S' g):fB w h S':=by
 obtain⟨vs,b,m,vl,tl,c,d,e,f,i,j,k,l⟩:=H;exact⟨vs,b,m,vl,tl,c,d,e,f,i,j,λv hv=>(k v hv).weaken a,λv hv=>(l v hv).weaken a⟩
theorem fB.typed(H:fB w h S): ∃a,w.heap[h]?=.c a 110:=by
 obtain⟨vs,d,m,vl,tl,b,_⟩:=H;exact⟨_,b⟩
theorem iL.and(h:iL w t pat S v)(a:iL w t pat S' v):iL w t pat (λg=>S g/\S' g) v:=by
 obtain⟨ad,n,cap,e,d,h⟩:=h;obtain⟨f,n',b,c,_,a⟩:=a;rw[e]at c;cases c;refine⟨ad,n,cap,e,d,?_⟩;grind
theorem GW{n n' size:Nat}(h:w.ownsRow B t size v n xs)(b:w.ownsRow B t size v n' ys):xs=ys:=by
 have d:n=n':=by
  obtain⟨ad,cap,e,_⟩:=cz h;obtain⟨f,a,r,_⟩:=cz b;grind
 subst d;rcases h.2 with⟨i,j⟩|⟨g,cap,k,hv,_,s,_,_,hs,x⟩
 .have y:=h.1;have l2:=b.1;simp_all
 .rcases b.2 with⟨i,j⟩|⟨z,a,c,l,_,m,_,_,p,q⟩
  .grind
  grind
theorem fB.and(H:fB w h S)(d:fB w h S'):fB w h λg=>S g/\S' g:=by
 obtain⟨vs,e,m,vl,tl,a,f,b,c,i,j,k,l⟩:=H;obtain⟨n,p,A,q,r,g1,g2,s,x,C,D,y,z⟩:=d;rw[a]at g1;cases g1;cases GW b s;cases GW c x;exact⟨vs,e,m,vl,tl,a,f,b,c,i,j,λv hv=>(k v hv).and (y v hv),λv hv=>(l v hv).and (z v hv)⟩
def gv(b:Nat):Value:=.p b
def iz(g:PG):List Value:=[gv g.b,gv g.rb]
structure dQ(U:List ah)(w:af)(wb:Nat)(pv le hv:ag)(gs:List PG)(hs:List Nat):Prop where
 blk:w.heap[wb]?=.c #[pv,le,hv] 30
 og:w.ownsRow 0 47 2 pv gs.length (gs.flatMap iz)
 aT:w.ownsRow 0 61 1 hv hs.length (hs.map gv)
 dx:∀g∈gs,dw w g
 apart:∀i j (hi:i<gs.length) (hj:j<gs.length),i≠j->Apart gs[i] gs[j]
 holds:∀h∈hs,fB w h λ_=>True
 oi: ∃ls:List ah,w.ownsRow 0 9 1 le ls.length (ls.map Value.string)/\∀T∈ls,fO U T
 free:∀k,le.ownBlock=some k->∀h∈hs,fB w h λg=>g≠k
theorem dw.frame{g:PG}(h:dw w g)(d:Fr X w w1)(hb: ¬X g.b)(f:∀n,n<64->¬X (g.bm n))(i: ¬X g.rb)(hv:∀k a,w.heap[k]?=.c a 117->¬X k)(j:∀k a,w.heap[k]?=.c a 82->¬X k)(l:∀k a,w.heap[k]?=.c a 88->¬X k):dw w1 g:=
 ⟨d.rep h.rep hb f hv,h.gI.frame d i j λs k o m c e=>by
  obtain⟨a,p⟩:=p7 (h.gI.at_ s).2 k o m c e;exact l k a p,h.inv,h.num⟩
def dw.below{g:PG}(h:dw w g)(hb:Below w w w1):dw w1 g:=⟨h.rep.below hb,h.gI.below hb,h.inv,h.num⟩
def fB.below(H:fB w h S)(hb:Below w w w1):fB w1 h S:=
 H.frame (X:=λ_=>False) (Fr.cQ hb) (λh=>h) (λ_ _ _ h=>h) (λ_ _ _ h=>h) (λ_ _ _ _ h=>h) (λ_ _ _ _ h=>h)
def dQ.below{gs:List PG}(h:dQ U w wb pv le hv gs hs)(hb:Below w w w1):dQ U w1 wb pv le hv gs hs:=
 ⟨bj h.blk hb,(Fr.cQ (X:=λ_=>False) hb).fh h.og λ_ _ _ h=>h,(Fr.cQ (X:=λ_=>False) hb).fh h.aT λ_ _ _ h=>h,λg a=>(h.dx g a).below hb,h.apart,λk b=>(h.holds k b).below hb,h.oi.imp λls hl=>⟨(Fr.cQ (X:=λ_=>False) hb).fh hl.1 λ_ _ _ h=>h,hl.2⟩,λk e c d=>(h.free k e c d).below hb⟩
theorem dw.kinds{g:PG}(h:dw w g):(∃A,w.heap[g.b]?=.c A 66)/\(∀n,n<64->∃es c,w.heap[g.bm n]?=some (.map es c))/\∃A,w.heap[g.rb]?=.c A 45:=by
 obtain⟨A,a,_⟩:=h.rep.1;refine⟨⟨A,a⟩,λn d=>?_,⟨_,h.gI.ref.1⟩⟩;obtain⟨es,c,e,_⟩:=h.rep.2.1 n d;exact⟨es,c,e⟩
theorem K8(gs:List PG)(i:Nat)(hi:i<gs.length)(g':PG)(hb:g'.b=gs[i].b)(a:g'.rb=gs[i].rb):(gs.set i g').flatMap iz=gs.flatMap iz:=by
 have e:iz g'=iz gs[i]:=by simp[iz,hb,a]
 rw[List.flatMap_def,List.flatMap_def,List.map_set,e];congr 1;have:iz gs[i]=(gs.map iz)[i]'(by simpa using hi):=zp;rw[this];exact List.set_getElem_self _
theorem EB{α:Type}{l:List α}{i:Nat}{a x:α}(h:x∈l.set i a):x=a\/∃j,∃hj:j<l.length,j≠i/\x=l[j]:=by
 obtain⟨j,hj,rfl⟩:=List.mem_iff_getElem.1 h;grind
theorem dQ.upd{gs:List PG}(h:dQ U w wb pv le hv gs hs)(i:Nat)(hi:i<gs.length)(g':PG)(hb:g'.b=gs[i].b)(r:g'.bm=gs[i].bm)(m:g'.rb=gs[i].rb)(H:dw w' g')(p:Fr (λk=>(∃n,n<64/\k=gs[i].bm n)\/k=gs[i].rb) w w'):dQ U w' wb pv le hv (gs.set i g') hs:=by
 obtain⟨kb,J,kr⟩:=(h.dx gs[i] (IS hi)).kinds;have d:∀k t a,w.heap[k]?=.c a t->t≠45->¬((∃n,n<64/\k=gs[i].bm n)\/k=gs[i].rb):=by
  grind
 refine⟨p.heap h.blk (d _ _ _ h.blk zd),?_,p.fh h.aT λk a f=>d k _ a f zd,λg l=>?_,λj k hj f q=>?_,λk f=>?_,h.oi.imp λls hl=>⟨p.fh hl.1 λk a f=>d k _ a f zd,hl.2⟩,λk e F G=>by
  obtain⟨a,z⟩:=(h.holds F G).typed;exact(h.free k e F G).frame p (d _ _ _ z zd) (λg a l=>d g _ a l zd) (λg a l=>d g _ a l zd) (λg a _ l=>d g _ a l zd) (λg a _ l=>d g _ a l zd)⟩
 .rw[K8 gs i hi g' hb m,List.length_set];exact p.fh h.og λk a f=>d k _ a f zd
 .rcases EB l with rfl|⟨j,hj,q,rfl⟩
  .exact H
  .have s:=h.dx gs[j] (IS hj);obtain⟨⟨A,I⟩,K,⟨C,L⟩⟩:=s.kinds;obtain⟨a1,a2⟩:=h.apart j i hj hi q;refine s.frame p (d _ _ _ I zd) (λn M=>?_) ?_ (λk a f=>d k _ a f zd) (λk a f=>d k _ a f zd) (λk a f=>d k _ a f zd)
   .grind
   grind
 .rw[List.length_set]at hj f;rw[List.getElem_set,List.getElem_set];by_cases y:i=j
  .by_cases x:i=k
   .omega
   .rw[BY y,AT x];obtain⟨D,E⟩:=h.apart i k hi f x;exact⟨by rw[r];exact D,by rw[m];exact E⟩
  .by_cases x:i=k
   .rw[AT y,BY x];obtain⟨D,E⟩:=h.apart j i hj hi (λe=>y e.symm);exact⟨by rw[r];exact D,by rw[m];exact E⟩
   .rw[AT y,AT x];exact h.apart j k hj f q
 .obtain⟨a,z⟩:=(h.holds k f).typed;exact(h.holds k f).frame p (d _ _ _ z zd) (λg a l=>d g _ a l zd) (λg a l=>d g _ a l zd) (λg a _ l=>d g _ a l zd) (λg a _ l=>d g _ a l zd)
end
section
variable {U:List ah}
def dw.Sc{g:PG}(h:dw w g)(e:Fr X w w1)(hb: ¬X g.b)(f:∀n,n<64->¬X (g.bm n))(i: ¬X g.rb)(hv:∀k d,w.heap[k]?=.c d 117->¬X k)(j:∀k d,w.heap[k]?=.c d 82->¬X k)(p:∀s k o m c,(dD g.l s).2.2=.slice (.a k o) m c->¬X k):dw w1 g:=
 ⟨e.rep h.rep hb f hv,h.gI.frame e i j p,h.inv,h.num⟩
structure lR(U:List ah)(S:Nat->Prop)(w:af)(wb:Nat)(pv le hv:ag)(gs:List PG)(hs:List Nat):Prop where
 law:dQ U w wb pv le hv gs hs
 holds:∀h∈hs,fB w h S
 refs:∀g∈gs,∀s k o m c,(dD g.l s).2.2=.slice (.a k o) m c->S k
 lets:∀k,le.ownBlock=some k->S k
theorem dQ.Dk{gs:List PG}(h:dQ U w wb pv le hv gs hs):lR U (λk=>k<w.heap.size) w wb pv le hv gs hs:=
 ⟨h,λk d=>(h.holds k d).weaken λg a _=>a,λg a s k o m c e=>by
  obtain⟨b,f⟩:=p7 ((h.dx g a).gI.at_ s).2 k o m c e;grind,λk e=>by
  obtain⟨ls,hl,_⟩:=h.oi;obtain⟨b,i⟩:=fe hl e;grind⟩
def lR.below{gs:List PG}(h:lR U S w wb pv le hv gs hs)(hb:Below w w w1):lR U S w1 wb pv le hv gs hs:=
 ⟨h.law.below hb,λk a=>(h.holds k a).below hb,h.refs,h.lets⟩
theorem lR.held{q:ag}{gs:List PG}(H:lR U S w wb pv le hv gs hs)(S':Nat->Prop)(r:∀k,S k->S' k)(hblk:w'.heap[wb]?=.c #[pv,le,q] 30)(aT:w'.ownsRow 0 61 1 q (hs++ [h]).length ((hs++ [h]).map gv))(N:Nat->Prop)(J:∀k,N k->S' k)(D:∀k,N k->¬S k\/w<=k)(i:fB w' h N)(y:Fr X w w')(Q:∀k,X k->(∃a,w.heap[k]?=.c a 30)\/(∃a,w.heap[k]?=.c a 61)\/¬S k/\((∃a,w.heap[k]?=.c a 88)\/∃a,w.heap[k]?=.c a 9)):lR U S' w' wb pv le q gs (hs++ [h]):=by
 have j:∀k t a,w.heap[k]?=.c a t->t≠30->t≠61->t≠88->t≠9->¬X k:=by
  grind
 have R:∀k es c,w.heap[k]?=some (.map es c)->¬X k:=by
  grind
 have z:∀k t a,S k->w.heap[k]?=.c a t->t≠30->t≠61->¬X k:=by
  grind
 have K:∀g∈gs,dw w' g:=λg b=>by
  obtain⟨⟨A,kb⟩,T,⟨C,kr⟩⟩:=(H.law.dx g b).kinds;refine(H.law.dx g b).Sc y (j _ _ _ kb zd zd zd zd) (λn V=>?_) (j _ _ _ kr zd zd zd zd) (λk a d=>j k _ a d zd zd zd zd) (λk a d=>j k _ a d zd zd zd zd) λs k o m c e=>?_
  .grind
  .obtain⟨a,E⟩:=p7 ((H.law.dx g b).gI.at_ s).2 k o m c e;exact z k _ a (H.refs g b s k o m c e) E zd zd
 have x:∀k∈hs,∀Z:Nat->Prop,fB w k Z->fB w' k λg=>S g/\Z g:=λk d Z L=>by
  obtain⟨a,M⟩:=(H.holds k d).typed;exact((H.holds k d).and L).frame y (j _ _ _ M zd zd zd zd) (λg a b=>j g _ a b zd zd zd zd) (λg a b=>j g _ a b zd zd zd zd) (λg a hs b=>z g _ a hs.1 b zd zd) (λg a hs b=>z g _ a hs.1 b zd zd)
 have E:=λk d=>(x k d _ (H.holds k d)).weaken λg _ b=>r g b.1;have p:∀k∈hs++ [h],fB w' k S':=λk d=>by
  rcases abr.1 d with d|d
  .exact E k d
  .rw[abu]at d;rw[d];exact i.weaken λg _ b=>J g b
 exact⟨⟨hblk,y.fh H.law.og λk a d=>j k _ a d zd zd zd zd,aT,K,H.law.apart,λk d=>(p k d).weaken λ_ _ _=>trivial,H.law.oi.imp λls hl=>⟨y.row hl.1 λg o l c e=>by
  obtain⟨a,F⟩:=p7 hl.1 g o l c e;exact z g _ a (H.lets g (by rw[e];rfl)) F zd zd,hl.2⟩,λk e G f=>by
  rcases abr.1 f with f|f
  .exact (x G f _ (H.law.free k e G f)).weaken λg _ b=>b.2
  .rw[abu]at f;rw[f];refine i.weaken λg _ b O=>?_;obtain⟨ls,hl,_⟩:=H.law.oi;obtain⟨a,F⟩:=fe hl e;have P:=(IN.1 F).1;rcases D g b with I|I
   .exact I (O ▸ H.lets k e)
   .omega⟩,p,λg b s k o m c e=>r k (H.refs g b s k o m c e),λk e=>r k (H.lets k e)⟩
end
theorem aC.Me:(aC.prog.info? 61).map (λi=>(i.zero,i.size,i.bytes))=some (some (.pointer none),1,8):=zk
def Kx(x:Int):ByteArray:=strOfNums [35,x%256,x / 256%256,x / 65536%256]
theorem Ra(x:Int):(Kx x).size<=4:=by simp[Kx,strOfNums,ByteArray.size]
theorem MI(W:af)(a x y z:Int):(convert 124 9 (.l W 4 4)).run aC.prog (W.alloc (.cells #[.int .u8 a,.int .u8 x,.int .u8 y,.int .u8 z] 5))=.ok (.s (strOfNums [a,x,y,z])) (W.alloc (.cells #[.int .u8 a,.int .u8 x,.int .u8 y,.int .u8 z] 5)):=
 run_convert_bytes_arg (P:=aC.prog) _ 124 5 aC.underlying124 aC.underlying5 W 0 4 4 [a,x,y,z] rfl (λj hj=>by
  have b:j<4:=by simpa using hj
  rw[(aH (By W (.cells #[.int .u8 a,.int .u8 x,.int .u8 y,.int .u8 z] 5))).1];grind) 9 aC.underlying9
theorem oA{n size k:Nat}{b:ak}{a:aa}(h:w.ownsRow B t size v n xs)(i:w.heap[k]?=.c a b)(d:t≠b):some k≠v.ownBlock:=by
 intro e;rcases h.2 with⟨f,_⟩|⟨g,cap,c,hv,_,j,_⟩
 .rw[f]at e;cases e
 .rw[hv]at e;simp[Value.ownBlock]at e;grind
theorem SR(hs:List Nat)(h:Nat):(hs++ [h]).map gv=hs.map gv++ [.pointer (some ⟨h,0,none⟩)]:=by simp[gv]
theorem Jk(wb:Nat)(pv lv hv:ag)(hs:List Nat)(w:af)(hblk:w.heap[wb]?=.c #[pv,lv,hv] 30)(aT:w.ownsRow 0 61 1 hv hs.length (hs.map gv))(hlen:hs.length<=9000000000000):
  Calls aC.prog 67 #[.p wb] w λe w'=>∃(h:Nat) (m:ah) (j:ag),e=.r (gv h)/\m.size<=4/\w<=h/\w'.heap[h]?=.c #[.slice none 0 0,.slice none 0 0,.s m] 110/\w'.heap[wb]?=.c #[pv,lv,j] 30/\
   w'.ownsRow 0 61 1 j (hs++ [h]).length ((hs++ [h]).map gv)/\Fr (λk=>k=wb\/hv.ownBlock=some k) w w'/\∀k,j.ownBlock=some k->hv.ownBlock=some k\/w.heap.size<=k:=by
 obtain⟨ad,cap,rfl,R,W⟩:=cz aT;obtain⟨Y,E,F,G,H⟩:=aaY aC.Me;have I:=(IN.1 hblk).1;have HB:Hid _:=hblk;have Z:=zu aT;have J:=aH hblk;have ab:w.cell? (.a wb 2)=some (.slice ad hs.length cap):=by rw[J.1];rfl
 have an:=J.2 2;have ao:(0:Int)<=(hs.length:Int):=zo;have hcv:=MI w 35 ((hs.length:Int)%256) ((hs.length:Int) / 256%256) ((hs.length:Int) / 65536%256);have K:Hid ((strOfNums [35,(hs.length:Int)%256,(hs.length:Int) / 256%256,(hs.length:Int) / 65536%256]).size<=4):=Ra _;generalize strOfNums [35,(hs.length:Int)%256,(hs.length:Int) / 256%256,(hs.length:Int) / 65536%256]=m at*;have L:=zu (oA aT hblk zd);have q:Hid (∀k,w.heap.size<=k->some k≠(Value.slice ad hs.length cap).ownBlock):=λk hk e=>by
  have:=(aT.lt k e.symm).2;omega
 have HT:Hid (∀A B C,(((w.alloc A).alloc B).alloc C).heap[w.heap.size+1+1]?=some C):=λA B C=>by
  have:=By ((w.alloc A).alloc B) C;simpa using this
 have M:Hid (∀A B C,(((w.alloc A).alloc B).alloc C).heap[wb]?=.c #[pv,lv,.slice ad hs.length cap] 30):=λA B C=>by
  rw[aaO _ _ _ zt,aaO _ _ _ zt,aaO _ _ _ I];exact hblk
 clear hblk aT J;go_enter aC.func67,aC.ntmps67;go_wp2_with (first
  |(at_builtin;refine abq _ rfl _ _ _ rfl 0 61 Y _ 1 8 aC.underlying28 E F G H rfl zo (.slice ad hs.length cap) _ _ rfl (((Z.out.alloc _).alloc _).alloc _) (.a (w.heap.size+1+1) 0) 1 1 [.p (w.heap.size+1)] rfl rfl (aaT (cs:=#[.p (w.heap.size+1)]) (t:=61) (fr:=(0,0)) (HT.out _ _ _)) zv zo ze zo (aaZ _) _ rfl ?_;intro D x w4 d b i y;have N:=zu d;have f:Hid _:=b;have n:=(f.out.block wb zt L.out).trans (M.out _ _ _);obtain⟨c4,T⟩:=aH n;have aq:=c4 2;have ar:=T 2;have z:Hid _:=n;have O:Hid ((Value.slice ad hs.length cap).ownBlock=some D\/D=(((w.alloc _).alloc _).alloc _).heap.size):=i;clear d b i y n c4 T))
 go_ret;have hz:=f.out.size;simp only[eK]at hz;refine⟨w.heap.size+1,m,.l D (hs.length+1) x,rfl,K.out,zo,?_,?_,?_,?_,?_⟩
 .rw[aaS _ _ _ _ (show w.heap.size+1≠wb by omega),f.out.block (w.heap.size+1) zp (q.out _ zo),aaO _ _ _ zp]
  have:=By (w.alloc (.cells #[.int .u8 35,.int .u8 ((hs.length:Int)%256),.int .u8 ((hs.length:Int) / 256%256),.int .u8 ((hs.length:Int) / 65536%256)] 5)) (.cells #[.slice none 0 0,.slice none 0 0,.s m] 110);simpa using this
 .rw[heap_set z.out];rfl
 .rw[SR,abo,acQ];refine(Fr.setCell (X:=λk=>k=wb) (Fr.refl _ _) (Or.inr rfl) _).fh N.out λg av V e=>?_;have P:=e;rw[P,z.out]at V;exact absurd V zp
 .exact Fr.setCell (X:=λk=>k=wb\/(Value.slice ad hs.length cap).ownBlock=some k) ((((Fr.refl _ w).alloc _).alloc _).alloc _|>.grown f.out λk e _=>Or.inr e) (Or.inr (Or.inl rfl)) _
 .intro k e;have P:D=k:=by simpa[Value.ownBlock] using e
  subst P;rcases O.out with Q|Q
  .exact Or.inl Q
  .right;rw[Q];simp;omega
def gF(w:af)(t:ak)(pat:ae)(v:ag)(n k:Nat):Prop:=
 ∃ys,w.ownsRow 0 t pat.length v n ys/\∀i j,i<k->j<pat.length->ys[i*pat.length+j]?=pat[j]?
theorem CN{i j n p:Nat}(hi:i<n)(hj:j<p):i*p+j<n*p:=by
 have:(i+1)*p<=n*p:=Nat.mul_le_mul_right _ hi;grind
theorem gF.mk{n:Nat}(h:gF w t pat v n n)(d:n<=2000000000000)(e:∀b,v.ownBlock=some b->S b):iL w t pat S v:=by
 obtain⟨ys,⟨hl,h⟩,k⟩:=h;rcases h with⟨rfl,rfl⟩|⟨g,cap,c,rfl,_,f,_,_,_,l⟩
 .exact⟨none,0,0,rfl,zo,Or.inl rfl⟩
 .refine⟨.a g 0,n,cap,rfl,d,Or.inr ⟨g,c,rfl,e g rfl,f,λi j hi hj=>?_⟩⟩;grind
theorem gF.form{n k:Nat}(h:gF w t pat v n k): ∃ad cap,v=.slice ad n cap/\n<=cap/\cap<=maxLen:=by
 obtain⟨ys,⟨hl,h⟩,a⟩:=h;grind
theorem gF.frame{n k:Nat}(h:gF w t pat v n k)(b:Fr X w w1)(d:∀g a,w.heap[g]?=.c a t->¬X g):gF w1 t pat v n k:=by
 obtain⟨ys,h,e⟩:=h;exact⟨ys,b.fh h d,e⟩
theorem gF.DJ{n:Nat}(h:w.ownsRow 0 t pat.length v n xs):gF w t pat v n 0:=⟨xs,h,λi j hi=>absurd hi zo⟩
theorem gF.O5{a b c:ag}{n k:Nat}(h:gF w t [a,b,c] (.l g n cap) n k)(F:k<n):
  gF (((w.setCell (.a g (k*3)) a).setCell (.a g (k*3+1)) b).setCell (.a g (k*3+2)) c) t [a,b,c] (.l g n cap) n (k+1):=by
 obtain⟨ys,⟨hl,h⟩,r⟩:=h;rcases h with⟨h,_⟩|⟨G,q,d,hv,hb,s,A,C,hs,H⟩
 .cases h
 .cases hv;have f:=Gu (x:=a) (y:=b) (z:=c) (o:=k*3) s;have D:n*3<=d.size:=zg;have E:(((d.setIfInBounds (k*3) a).setIfInBounds (k*3+1) b).setIfInBounds (k*3+2) c).size=cap*3:=by simpa using hs
  refine⟨((((d.setIfInBounds (k*3) a).setIfInBounds (k*3+1) b).setIfInBounds (k*3+2) c).toList).take (n*3),⟨?_,Or.inr ⟨g,cap,_,rfl,hb,f,A,C,E,rfl⟩⟩,λi j hi hj=>?_⟩
  .grind
  .have m:j<3:=by simpa using hj
   have p:i*3+j<n*3:=CN zo m;rw[abQ,BY (by simpa using p)];simp only[abi,abM,Array.getElem?_toList,acz];by_cases e:i=k
   .grind
   .have:=r i j zo hj;grind
theorem gF.WH{a:ag}{n k:Nat}(h:gF w t [a] (.l g n cap) n k)(y:k<n):
  gF (w.setCell (.a g k) a) t [a] (.l g n cap) n (k+1):=by
 obtain⟨ys,⟨hl,h⟩,p⟩:=h;rcases h with⟨h,_⟩|⟨z,f,b,hv,hb,q,m,r,hs,A⟩
 .cases h
 .cases hv;have c:=heap_set (v:=a) (o:=k) q;have s:n<=b.size:=by rw[hs];simpa using m
  have x:(b.setIfInBounds k a).size=cap*1:=by simpa using hs
  refine⟨((b.setIfInBounds k a).toList).take (n*1),⟨?_,Or.inr ⟨g,cap,_,rfl,hb,c,m,r,x,rfl⟩⟩,λi j hi hj=>?_⟩
  .grind
  .have d:j=0:=by simpa using hj
   subst d;rw[abQ,BY zt];simp only[abi,abM,Array.getElem?_toList,acz];by_cases e:i=k
   .grind
   .have:=p i 0 zo hj;grind
structure KV(tv tl:ak)(pat:ae)(S:Nat->Prop)(hb:ag->aa)(h n:Nat)(X:Nat->Prop)(w1 wr:af)(u:ag)(k c:Nat):Prop where
 fr:Fr X w1 wr
 row:gF wr tv pat u (n+k) (n+k)
 Ak:∀b,u.ownBlock=some b->S b
 Be:∀b,u.ownBlock=some b->b<w1->X b
 hold: ∃vs vl,wr.heap[h]?=.c (hb vs) 110/\wr.ownsRow w1 tl 1 vs c vl/\∀v∈vl,∃ad l cp,v=.slice ad l cp/\l<=n+k/\iL wr tv pat S v
theorem KV.Ec{n:Nat}{k c:Nat}(H:KV tv tl pat S hb h n X w1 wr u k c)(T:tv≠110)(V:tv≠tl)(W:∀b,w1.heap.size<=b->S b){w2:af}(f:wr.ownsRow 0 tv pat.length u (n+k) ys)(Y:∀i j,i<n+k->j<pat.length->ys[i*pat.length+j]?=pat[j]?)(q:w2.ownsRow 0 tv pat.length (.slice (some ⟨g,0,none⟩) (n+k+1) cap) (n+k+1) (ys++pat))(m:(wr.alloc o).grownBy w2 u.ownBlock)(p:u.ownBlock=some g\/g=(wr.alloc o).heap.size/\(wr.alloc o).grownBy w2 none):
  KV tv tl pat S hb h n X w1 w2 (.slice (some ⟨g,0,none⟩) (n+k+1) cap) (k+1) c:=by
 have Z:=H.fr.size;have C:=((Fr.refl (λb=>u.ownBlock=some b) wr).alloc o).grown m λb e _=>e;have L:∀s t a,wr.heap[s]?=some (.cells a t)->tv≠t->¬u.ownBlock=some s:=λs t a M ht e=>by
  obtain⟨r,hc⟩:=fe f e;grind
 refine⟨(H.fr.alloc o).grown m λb e hb=>H.Be b e hb,⟨ys++pat,q,λi j hi hj=>?_⟩,λb e=>?_,λb e hb=>?_,?_⟩
 .by_cases e:i<n+k
  .grind
  .have:i=n+k:=zo;subst this;rw[adg (by rw[f.1];omega),f.1];congr 1;omega
 .have D:g=b:=by simpa[Value.ownBlock] using e
  subst D;rcases p with p|⟨p,_⟩
  .exact H.Ak _ p
  .refine W _ ?_;rw[p];simp;omega
 .have D:g=b:=by simpa[Value.ownBlock] using e
  subst D;rcases p with p|⟨p,_⟩
  .exact H.Be _ p hb
  .rw[p]at hb;simp at hb;omega
 .obtain⟨vs,vl,N,e2,e3⟩:=H.hold;refine⟨vs,vl,C.heap N (L _ _ _ N T),C.fh e2 λs a M=>L s _ a M V,λv hv=>?_⟩;obtain⟨ad,l,cp,ev,hl,x⟩:=e3 v hv;refine⟨ad,l,cp,ev,zo,?_⟩;obtain⟨ab,l',an,y,E,x⟩:=x;rw[ev]at y;cases y;refine⟨ad,l,cp,ev,E,?_⟩;rcases x with x|⟨g0,a,O,P,F,f4⟩
  .exact Or.inl x
  .refine Or.inr ?_;by_cases z:u.ownBlock=some g0
   .obtain⟨d,G,I,c0,Q⟩: ∃d G I c0,u=.slice (some ⟨d,G,none⟩) I c0:=by
     rcases f.2 with⟨h1,_⟩|⟨g,cap,c,hv,_⟩
     .rw[h1]at z;cases z
     grind
    have e0:d=g0:=by rw[Q]at z;simpa[Value.ownBlock] using z
    subst e0;obtain⟨⟨r,A⟩,J⟩:=Oi (f.alloc o) q p d G I c0 Q;refine⟨d,r,O,P,A,λi j hi hj=>?_⟩;have K:i*pat.length+j<(n+k)*pat.length:=CN zo hj;have R:=J _ K;rw[abp _ _ _ (show d<wr.heap.size from(IN.1 F).1)]at R;simp only[World.cell?,A,F]at R;grind
   .exact⟨g0,a,O,P,C.heap F z,f4⟩
theorem KV.yf{n:Nat}{k c:Nat}(H:KV tv tl pat S hb h n X w1 wr u k c)(L:tv≠110)(M:tv≠tl)(E:tl≠110)(q:X h)(F:n+k<=2000000000000)(f:Nat)(G:∀a b,(hb a).setIfInBounds f b=hb b){w3:af}{vl:ae}(r:wr.heap[h]?=.c (hb vs) 110)(s:wr.ownsRow w1 tl 1 vs c vl)(I:∀v∈vl,∃ad l cp,v=.slice ad l cp/\l<=n+k/\iL wr tv pat S v)(m:w3.ownsRow w1 tl 1 (.l g (c+1) cap) (c+1) (vl++ [u]))(d:(wr.alloc o).grownBy w3 vs.ownBlock):
  KV tv tl pat S hb h n X w1 (w3.setCell ⟨h,f,none⟩ (.slice (some ⟨g,0,none⟩) (c+1) cap)) u k (c+1):=by
 have J:=H.fr.size;have x:=((Fr.refl (λb=>vs.ownBlock=some b\/b=h) wr).alloc o).grown d λb e _=>Or.inl e;have y:Fr (λb=>vs.ownBlock=some b\/b=h) wr (w3.setCell ⟨h,f,none⟩ (.l g (c+1) cap)):=Fr.setCell (X:=λb=>vs.ownBlock=some b\/b=h) x (Or.inr (Or.inr rfl)) _;have z:∀j i,wr.heap[j]?=.c i tv->¬(vs.ownBlock=some j\/j=h):=by
  rintro j i A (e|e)
  .obtain⟨D,N⟩:=fe s e;grind
  grind
 have C:w3.heap[h]?=.c (hb vs) 110:=by
  have p:=(IN.1 r).1;rw[d.block h zt (oA s r E),aaO _ _ _ p];exact r
 refine⟨?_,H.row.frame y z,H.Ak,H.Be,?_⟩
 .refine Fr.setCell (X:=X) ((H.fr.alloc o).grown d λb e p=>?_) (Or.inr q) _
  have:=(s.lt b e).1;omega
 .refine⟨.l g (c+1) cap,vl++ [u],?_,?_,λv hv=>?_⟩
  .rw[heap_set C,G]
  .refine (Fr.setCell (X:=λk=>k=h) (Fr.refl _ _) (Or.inr rfl) _).fh m λj i A e=>?_;grind
  .rcases abr.1 hv with hv|hv
   .obtain⟨ad,l,cp,ev,hl,K⟩:=I v hv;exact⟨ad,l,cp,ev,hl,K.frame y λj i _ A=>z j i A⟩
   .rw[abu]at hv;subst hv;obtain⟨ad,cp,ev,_⟩:=H.row.form;exact⟨ad,n+k,cp,ev,zf,(H.row.frame y z).mk F H.Ak⟩
theorem KV.start{n:Nat}(a:Fr X w1 wr)(aT:gF wr tv pat u n n)(d:∀b,u.ownBlock=some b->S b)(f:∀b,u.ownBlock=some b->X b)(i:wr.heap[h]?=.c (hb (.slice none 0 0)) 110):KV tv tl pat S hb h n X w1 wr u 0 0:=
 ⟨a,aT,d,λb e _=>f b e,⟨.slice none 0 0,[],i,abh _ _ _ _,λv hv=>by simp at hv⟩⟩
section
variable {U:List ah}
theorem aC.Z8:(aC.prog.info? 27).map (λi=>(i.zero,i.size,i.bytes))=some (some (.slice none 0 0),1,24):=zk
def mo(m:ah)(vs:ag):Array Value:=#[.slice none 0 0,vs,.s m]
theorem uz{m:ah}(e:w.heap[h]?=.c (mo m vs) 110):w.cell? ⟨h,1,none⟩=some vs/\w.frozen? ⟨h,1,none⟩=false/\w.cell? ⟨h,2,none⟩=.s m:=by
 obtain⟨c,f⟩:=aH e;exact⟨by rw[c];rfl,f 1,by rw[c];rfl⟩
theorem XT(wb:Nat)(pv C hv:ag)(hs:List Nat)(lv:ag)(n:Nat)(xs:ae)(S:Nat->Prop)(w:af)(hblk:w.heap[wb]?=.c #[pv,C,hv] 30)(aT:w.ownsRow 0 61 1 hv hs.length (hs.map gv))(hlen:hs.length<=9000000000000)(hl:w.ownsRow 0 9 1 lv n xs)(hn:n<=1900000000000)(ar:∀b,lv.ownBlock=some b->S b)(av:∀b,w.heap.size<=b->S b):
  Calls aC.prog 47 #[.p wb,lv] w λe w'=>e=.r (.tuple #[])/\∃(h:Nat) (m:ah) (f:ag) (w1:af) (u:ag),
   m.size<=4/\w<=h/\w1.heap[h]?=.c (mo m (.slice none 0 0)) 110/\w1.heap[wb]?=.c #[pv,C,f] 30/\w1.ownsRow 0 61 1 f (hs++ [h]).length ((hs++ [h]).map gv)/\Fr (λk=>k=wb\/hv.ownBlock=some k) w w1/\(∀k,f.ownBlock=some k->hv.ownBlock=some k\/w<=k)/\
   KV 9 27 (qG m) S (mo m) h n (λb=>lv.ownBlock=some b\/b=h) w1 w' u 8 9:=by
 obtain⟨ad,cap,rfl,ca,cn⟩:=cz hl;obtain⟨i0,bs,bx,bB,bL⟩:=aaY aC.vu;obtain⟨j0,ay,az,aA,aB⟩:=aaY aC.Z8;have HN:Hid (Calls aC.prog 67 #[.p wb] w λe w'=>∃(h:Nat) (m:ah) (f:ag),e=.r (.pointer (some ⟨h,0,none⟩))/\m.size<=4/\w<=h/\w'.heap[h]?=.c (mo m (.slice none 0 0)) 110/\w'.heap[wb]?=.c #[pv,C,f] 30/\
   w'.ownsRow 0 61 1 f (hs++ [h]).length ((hs++ [h]).map gv)/\Fr (λk=>k=wb\/hv.ownBlock=some k) w w'/\∀k,f.ownBlock=some k->hv.ownBlock=some k\/w<=k):=Jk wb pv C hv hs w hblk aT hlen
 have HL:=zu hl;have bN:=zu ar;have bR:=zu av;have bT:Hid (∀k,(Value.slice ad n cap).ownBlock=some k->¬(k=wb\/hv.ownBlock=some k)):=λk e=>by
  obtain⟨N,hc⟩:=fe hl e;rintro (e'|e')
  .rw[e',hblk]at hc;exact absurd hc zp
  .obtain⟨cb,bZ⟩:=fe aT e';exact absurd (oD hc bZ) zd
 clear hblk aT hl ar av;go_enter aC.func47,aC.ntmps47;go_wp2_with (first
  |(go_at_call 67;refine AI HN.out ?_;rintro e w1 ⟨h,m,f,rfl,hm,hh,O,P,Q,D,aE⟩))
 have b0:=zu O;have cp:=zu P;have cq:=zu Q;have cr:=zu D;have HM:=zu hm;have b1:=zu (D.row HL.out λg o l c e=>bT.out g (by rw[e];rfl));have a1:=zu (λb hb=>bR.out b (IT D.size hb));have a6:Hid (∀w' u,KV 9 27 (qG m) S (mo m) h n (λb=>(Value.slice ad n cap).ownBlock=some b\/b=h) w1 w' u 8 9->∃(h:Nat) (m:ah) (f:ag) (w1:af) (u:ag),m.size<=4/\w<=h/\w1.heap[h]?=.c (mo m (.slice none 0 0)) 110/\w1.heap[wb]?=.c #[pv,C,f] 30/\w1.ownsRow 0 61 1 f (hs++ [h]).length ((hs++ [h]).map gv)/\Fr (λk=>k=wb\/hv.ownBlock=some k) w w1/\(∀k,f.ownBlock=some k->hv.ownBlock=some k\/w<=k)/\
   KV 9 27 (qG m) S (mo m) h n (λb=>(Value.slice ad n cap).ownBlock=some b\/b=h) w1 w' u 8 9):=λw' u hk=>⟨h,m,f,w1,u,hm,hh,O,P,Q,D,aE,hk⟩
 clear O P Q D hm aE;go_loopw [5] (λi wr=>∃k:Nat,k<=n/\i=.i k/\Hid (gF wr 9 (qG m) (.slice ad n cap) n k)/\Hid (Fr (λb=>(Value.slice ad n cap).ownBlock=some b\/b=h) w1 wr)/\Hid (wr.heap[h]?=.c (mo m (.slice none 0 0)) 110)) (λi _=>n-(intOf i).toNat)
 case atStart=>exact⟨0,zo,rfl,gF.DJ b1.out,Fr.refl _ _,b0.out⟩
 case round=>
  obtain⟨k,hk,rfl,a7,a8,bb⟩:=hrel;have R:=zu a7.out;have T:=zu a8.out;have x:=zu bb.out;clear a7 a8 bb;obtain⟨x0,x1,x2⟩:=uz x.out;have k0:(0:Int)<=(k:Int):=zo;by_cases b2:k<n
  .have cv:(k:Int)<(n:Int):=zo;obtain⟨ys,q,_⟩:=R.out;have K:wr.ownsRow 0 9 1 (.slice ad n cap) n ys:=q;clear q;obtain⟨g,cc,bc,_,_,hg,y⟩:=dU K zo;cases bc;have b3: ∃N,wr.heap[g]?=.c N 9:=fe K rfl;obtain⟨N,z⟩:=b3;have bd:=(aH z).2;have b4:ys.length=n:=by have:=K.1;simpa using this
   have b5:g≠h:=λe=>by rw[e,x.out]at z;exact absurd z zp
   have c0:wr.cell? ⟨g,k,none⟩=some ys[k]:=y _ _ zo (by simp[show k<ys.length by omega]);generalize ys[k]=y0 at*;have f0:=bd k;clear y K z bd b4;go_wp2;refine⟨⟨k+1,zo,by go_num,R.out.WH b2,?_,?_⟩,zi⟩
   .exact Fr.setCell (X:=λb=>(Value.slice (.a g 0) n cap).ownBlock=some b\/b=h) T.out (Or.inr (Or.inl rfl)) _
   .show _=_;rw[aaS _ _ _ _ (Ne.symm b5)];exact x.out
  .obtain rfl:k=n:=zo;have b6:Hid (KV 9 27 (qG m) S (mo m) h k (λb=>(Value.slice ad k cap).ownBlock=some b\/b=h) w1 wr (.slice ad k cap) 0 0):=KV.start T.out R.out bN.out (λb e=>Or.inl e) x.out;have cw:=T.out.size;have E:=(IN.1 x.out).1;go_wp2_with (first
    |(at_builtin;refine sZ _ rfl _ _ _ rfl w1 27 j0 _ 1 24 aC.underlying108 ay az aA aB rfl zo (.slice none 0 0) 0 [] rfl (abh _ _ _ _) (.a wr 0) 1 1 [.slice ad k cap] rfl rfl (aaT (cs:=#[.slice ad k cap]) (t:=27) (fr:=(0,0)) (By wr _)) zv zo ze zo zt ?_;intro g3 bm w3 j d V;have W:=zu j;have F:Hid ((wr.alloc (.cells #[.slice ad k cap] 27)).grownBy w3 (Value.slice none 0 0).ownBlock):=d;have G:=(F.out.block h zt (by simp[Value.ownBlock])).trans ((aaO _ _ _ E).trans x.out);obtain⟨z0,z1,z2⟩:=uz G;clear j d V G))
   have b7:=zu (b6.out.yf zd zd zd (Or.inr rfl) zo 1 (λa b=>rfl) x.out (abh _ _ _ _) (λv hv=>by simp at hv) W.out F.out);clear z0 z1 z2 x0 x1 x2 k0 E;go_loopw [1,6] (λu i wr=>∃r:Nat,r<=8/\i=.i r/\Hid (KV 9 27 (qG m) S (mo m) h k (λb=>(Value.slice ad k cap).ownBlock=some b\/b=h) w1 wr u r (r+1))) (λ_ i _=>8-(intOf i).toNat)
   case atStart=>exact⟨0,zo,rfl,b7.out⟩
   case round=>
    obtain⟨r,hr,rfl,Y⟩:=hrel;obtain⟨bn,L,rfl,cd,cj⟩:=Y.out.row.form;have HK:=zu Y.out;clear Y;have r0:(0:Int)<=(r:Int):=zo;by_cases ck:r<8
    .have cx:(r:Int)<8:=zo;obtain⟨ys,q,bo⟩:=HK.out.row;have bp:Hid (wr.ownsRow 0 9 1 (.slice bn (k+r) L) (k+r) ys):=q;have b8:=zu bo;obtain⟨vs,vl,e1,_,_⟩:=HK.out.hold;obtain⟨x0,x1,x2⟩:=uz e1;have cl:=HK.out.fr.size;have E:=(IN.1 e1).1;have M:=trivial;clear q bo e1 x0 x1;go_wp2_with (first
      |(at_builtin;have _t:=M;refine sZ _ rfl _ _ _ rfl 0 9 i0 _ 1 16 aC.underlying27 bs bx bB bL rfl zo (.slice bn (k+r) L) _ _ rfl (bp.out.alloc _) (.a wr 0) 1 1 [.s m] rfl rfl (aaT (cs:=#[.s m]) (t:=9) (fr:=(0,0)) (By wr _)) zv zo ze zo (aaZ _) ?_;intro g2 H w2 I A br;have Z:=zu (HK.out.Ec zd zd a1.out bp.out b8.out I A br);obtain⟨cA,cB,q1,q2,q3⟩:=Z.out.hold;obtain⟨ab,J,rfl,_,cI⟩:=cz q2;obtain⟨z0,z1,z2⟩:=uz q1;have an:Hid (w2.heap[h]?=.c (mo m (.slice ab (r+1) J)) 110):=q1;have ao:=zu q2;have b9:=zu q3;have cm:=Z.out.fr.size;have aq:=(IN.1 q1).1;clear M I A br q1 q2 q3)
      |(at_builtin;refine sZ _ rfl _ _ _ rfl w1 27 j0 _ 1 24 aC.underlying108 ay az aA aB rfl zo (.slice ab (r+1) J) _ _ rfl (ao.out.alloc _) (.a w2 0) 1 1 [.l g2 (k+r+1) H] rfl rfl (aaT (cs:=#[.l g2 (k+r+1) H]) (t:=27) (fr:=(0,0)) (By w2 _)) zv zo ze zo zt ?_;intro g3 bm w3 j d V;have W:=zu j;have F:Hid ((w2.alloc (.cells #[.l g2 (k+r+1) H] 27)).grownBy w3 (Value.slice ab (r+1) J).ownBlock):=d;have G:=(F.out.block h zt (oA ao.out an.out zd)).trans ((aaO _ _ _ aq).trans an.out);obtain⟨y0,y1,y2⟩:=uz G;clear j d V G))
     exact⟨⟨r+1,zo,by go_num,Z.out.yf zd zd zd (Or.inr rfl) zo 1 (λa b=>rfl) an.out ao.out b9.out W.out F.out⟩,zi⟩
    .obtain rfl:r=8:=zo;go_wp2;go_end0;exact⟨rfl,a6.out _ _ HK.out⟩
theorem EE(S:Nat->Prop)(wb:Nat)(pv le hv:ag)(gs:List PG)(hs:List Nat)(lv:ag)(n:Nat)(xs:ae)(w:af)(H:lR U S w wb pv le hv gs hs)(hlen:hs.length<=9000000000000)(hl:w.ownsRow 0 9 1 lv n xs)(G:n<=1900000000000)(i:∀b,lv.ownBlock=some b->¬S b):
  Calls aC.prog 47 #[.p wb,lv] w λe w'=>e=.r (.tuple #[])/\∃(f:ag) (h:Nat),lR U (λk=>S k\/lv.ownBlock=some k\/w<=k) w' wb pv le f gs (hs++ [h])/\Fr (λk=>k=wb\/hv.ownBlock=some k\/lv.ownBlock=some k) w w'/\∀k,f.ownBlock=some k->hv.ownBlock=some k\/w<=k:=by
 refine(XT wb pv le hv hs lv n xs (λk=>lv.ownBlock=some k\/w<=k) w H.law.blk H.law.aT hlen hl G (λb e=>Or.inl e) (λb e=>Or.inr e)).mono ?_;rintro e w' ⟨rfl,h,m,f,w1,u,M,P,N,q,y,a,z,j⟩;refine⟨rfl,f,h,?_⟩;have I:Fr (λk=>k=wb\/hv.ownBlock=some k\/lv.ownBlock=some k) w w':=by
  refine⟨j.fr.os.trans a.os,j.fr.tape.trans a.tape,j.fr.output.trans a.output,IT a.size j.fr.size,λk J G=>?_⟩;rw[j.fr.block k (abc J a.size) zg,a.block k J zg]
 have A:=a.row hl λg o l c e=>by
  obtain⟨d,K⟩:=fe hl (show lv.ownBlock=some g by rw[e];rfl);rintro (C|C)
  .rw[C]at K;exact absurd (oD K H.law.blk) zd
  .obtain⟨s,D⟩:=fe H.law.aT C;grind
 have x:∀g t d,w1.heap[g]?=.c d t->t≠9->t≠110->¬(lv.ownBlock=some g\/g=h):=by
  rintro g t d L Q R (e|e)
  .obtain⟨s,D⟩:=fe A e;grind
  grind
 refine⟨H.held (λk=>S k\/lv.ownBlock=some k\/w<=k) (λk e=>Or.inl e) (j.fr.heap q (x _ _ _ q zd zd)) (j.fr.fh y λg d L=>x g _ d L zd zd) (λk=>lv.ownBlock=some k\/w<=k) (λk e=>Or.inr e) (λk e=>e.elim (λe=>.inl (i k e)) .inr) ?_ I ?_,I,z⟩
 .obtain⟨vs,vl,O,E,T⟩:=j.hold;refine⟨.slice none 0 0,vs,m,[],vl,O,M,abh _ _ _ _,?_,zp,?_,λv hv=>by simp at hv,λv hv=>?_⟩
  .have F:vl.length=9:=by have:=E.1;simpa using this
   rw[F];exact bU E (aaZ _)
  .have:=E.1;simp at this;omega
  grind
 .rintro k (e|e|e)
  .exact Or.inl ⟨_,e▸H.law.blk⟩
  .exact Or.inr (Or.inl (fe H.law.aT e))
  .exact Or.inr (Or.inr ⟨i k e,Or.inr (fe hl e)⟩)
end
theorem Ut(W:af)(r n:Int)(s:ah):(binOp .neq 88 (.agg #[.i r,.i n,.s s]) (.agg #[.i r,.i n,.s s])).run aC.prog W=.ok (.bool false) W:=by
 have c:=aC.underlying3;have d:=aC.underlying9;have e:=aC.isAgg3;have f:=aC.sizeOf3;have j:=aC.isAgg9;have k:=aC.sizeOf9;have a:aC.prog.underlying 88=some (.struct (aC.prog.fieldsOf 88)):=zk;have b:aC.prog.stoodInHeld 88=false:=zk;rw[run_neq_struct,show(10000:Nat)=9999+1 from rfl,run_equalIn_agg W 9999 88 _ _ a b];simp only[Program.fieldsOf,aC.underlying88];go_simp
theorem iL.open(h:iL w t pat S v): ∃ad n cap,v=.slice ad n cap/\n<=2000000000000/\∀i,i<n->∃g,ad=.a g 0/\∀j,j<pat.length->w.cell? (.a g (i*pat.length+j))=pat[j]? :=by
 obtain⟨ad,n,cap,e,b,h⟩:=h;refine⟨ad,n,cap,e,b,λi hi=>?_⟩;rcases h with h|⟨g,c,d,l,f,k⟩
 .omega
 .refine⟨g,d,λj hj=>?_⟩;simp only[World.cell?,f];exact k i j hi hj
theorem O9(h:Nat)(S:Nat->Prop)(w:af)(H:fB w h S):
  Calls aC.prog 27 #[.pointer (some ⟨h,0,none⟩)] w λe w'=>e=.r (.bool true)/\∃q,w'=w.drewN q:=by
 obtain⟨vs,ts,m,vl,tl,P,h2,G,I,h5,h6,Q,R⟩:=H;obtain⟨ad,cap,rfl,T,Z⟩:=cz G;obtain⟨J,A,rfl,K,V⟩:=cz I;have F:=(aH P).1;have c0:w.cell? ⟨h,0,none⟩=some (.slice ad vl.length cap):=by rw[F];rfl
 have c1:w.cell? ⟨h,1,none⟩=some (.slice J tl.length A):=by rw[F];rfl
 have c2:w.cell? ⟨h,2,none⟩=.s m:=by rw[F];rfl
 have H3:Hid _:=G;have H4:Hid _:=I;have H7:Hid _:=Q;have H8:Hid _:=R;have Y:=λW=>Ut W 0 0 m;clear P G I Q R F;go_enter aC.func27,aC.ntmps27;go_wp2;go_loopw [3] (λi wr=>∃k:Nat,k<=vl.length/\i=.i k/\∃q,wr=w.drewN q) (λi _=>vl.length-(intOf i).toNat)
 case atStart=>exact⟨0,zo,rfl,0,rfl⟩
 case round=>
  obtain⟨k,hk,rfl,q,rfl⟩:=hrel;have k0:(0:Int)<=(k:Int):=zo;by_cases x:k<vl.length
  .have L:(k:Int)<(vl.length:Int):=zo;obtain⟨g,C,j,_,_,hg,b⟩:=dU H3.out zo;cases j;obtain⟨y,f,l,D,M,n⟩:=(H7.out vl[k] (IS x)).open;have ck:w.cell? (.a g k)=some (.slice y f l):=by
    have:=b k vl[k] zo zp;rw[this,D]
   have z:Hid _:=n;clear b n D;go_wp2;go_loopw [4] (λi wr=>∃c:Nat,c<=f/\i=.i c/\∃q,wr=w.drewN q) (λi _=>f-(intOf i).toNat)
   case atStart=>exact⟨0,zo,rfl,_,rfl⟩
   case round=>
    obtain⟨c,N,rfl,q2,rfl⟩:=hrel;have O:(0:Int)<=(c:Int):=zo;by_cases p:c<f
    .have E:(c:Int)<(f:Int):=zo;obtain⟨g2,rfl,d⟩:=z.out c p;have d0:w.cell? (.a g2 (c*3))=.i 0:=d 0 zp;have d1:w.cell? (.a g2 (c*3+1))=.i 0:=d 1 zp;have d2:w.cell? (.a g2 (c*3+2))=.s m:=d 2 zp;clear d;go_wp2;go_quiet (fail);go_wp2;exact⟨⟨c+1,zo,by go_num,_,rfl⟩,zi⟩
    .obtain rfl:c=f:=zo;go_wp2;exact⟨⟨k+1,zo,by go_num,_,rfl⟩,zi⟩
  .obtain rfl:k=vl.length:=zo;go_wp2;go_loopw [5] (λi wr=>∃k:Nat,k<=tl.length/\i=.i k/\∃q,wr=w.drewN q) (λi _=>tl.length-(intOf i).toNat)
   case atStart=>exact⟨0,zo,rfl,_,rfl⟩
   case round=>
    obtain⟨k,hk,rfl,q,rfl⟩:=hrel;have k0:(0:Int)<=(k:Int):=zo;by_cases x:k<tl.length
    .have L:(k:Int)<(tl.length:Int):=zo;obtain⟨g,C,j,_,_,hg,b⟩:=dU H4.out zo;cases j;obtain⟨y,f,l,D,M,n⟩:=(H8.out tl[k] (IS x)).open;have ck:w.cell? (.a g k)=some (.slice y f l):=by
      have:=b k tl[k] zo zp;rw[this,D]
     have z:Hid _:=n;clear b n D;go_wp2;go_loopw [6] (λi wr=>∃c:Nat,c<=f/\i=.i c/\∃q,wr=w.drewN q) (λi _=>f-(intOf i).toNat)
     case atStart=>exact⟨0,zo,rfl,_,rfl⟩
     case round=>
      obtain⟨c,N,rfl,q2,rfl⟩:=hrel;have O:(0:Int)<=(c:Int):=zo;by_cases p:c<f
      .have E:(c:Int)<(f:Int):=zo;obtain⟨g2,rfl,d⟩:=z.out c p;have d0:w.cell? (.a g2 c)=.s m:=by have:=d 0 zp;simpa using this
       clear d;go_wp2;go_quiet (fail);go_wp2;exact⟨⟨c+1,zo,by go_num,_,rfl⟩,zi⟩
      .obtain rfl:c=f:=zo;go_wp2;exact⟨⟨k+1,zo,by go_num,_,rfl⟩,zi⟩
    .obtain rfl:k=tl.length:=zo;go_wp2;go_ret;exact⟨rfl,_,rfl⟩
end Go.Proofs.YtldmcdeibiclkaaGreatQ
