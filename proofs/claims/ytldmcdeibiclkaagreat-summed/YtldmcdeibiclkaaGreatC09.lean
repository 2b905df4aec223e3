/-
  Toward summed_holds: THE POOL's MACHINE: places, what is held, the measure.
-/
import Derived.Test.YtldmcdeibiclkaaGreatC08
set_option linter.unusedVariables false
set_option linter.unusedSimpArgs false
set_option maxRecDepth 100000
set_option maxHeartbeats 20000000
namespace Go.Proofs.YtldmcdeibiclkaaGreat.U
variable {k i j d:Nat}{v v1:World}{t:Trace}{gs:Array Goroutine}{g g1 h:Goroutine}{es:Array Event}{l:List Nat}{ow:Nat->Prop}{xs:Nat->Value}{P:Program}{m:Bool}{fn:FuncId}{pos:String}
section
open Go.Conc
open Go.ConcN (upd upd_same upd_ne sumTo sumTo_upd sumTo_congr RelBy)
structure PC(L:au) where
 E:Entry L
 M:Mn
 c:Frame
 cs:List Frame
 n0:Nat
 nW:Nat
 a:Nat->Int
 Sh:Nat->Prop
 g0:Array Goroutine
section
variable {L:au}
def PC.p(X:PC L):Pl:=X.M.toPl
def PC.num(X:PC L)(i:Nat):Value:=.int .i64 (IntKind.i64.wrap (X.E.first+i))
def PC.eP(X:PC L)(i:Nat):Value:=.agg #[X.num i,.int .u64 (X.a i)]
structure aH(T:aO)(Goal:Frame->List Frame->World->Prop)(X:PC L):Prop where
 A:dH L T Goal
 K:fK L X.E
 kh:∀i,i<X.E.n->pA Goal X.E i (X.a i)
 first:X.M.first=X.E.first
 count:X.M.count=X.E.n
 fB:X.M.fB=X.E.y2
 nn:X.E.n=1\/X.E.n=4\/X.E.n=16\/X.E.n=64
 nw:(X.E.n=1/\X.nW=1)\/(X.E.n≠1/\X.nW=4)
 bT:X.M.bT=X.E.v0.heap.size
 cN:X.M.cN=X.E.v0.heap.size+1
 bN:X.M.bN=X.E.v0.heap.size+2
 cB:X.M.cB=X.E.v0.heap.size+3
 bB:X.M.bB=X.E.v0.heap.size+4
 wg:X.M.wg=X.E.v0.heap.size+5
 n0:0<X.n0
 sh:∀b,X.Sh b->b<X.E.v0.heap.size
 vg:∀r s,X.E.ρ r s->¬X.Sh s
inductive Wk where
 |load (n:Nat)
 |recv (n:Nat) (xs:Nat->Value)
 |cr (xs:Nat->Value)
 |woken (xs:Nat->Value)
 |draw (n i:Nat) (xs:Nat->Value)
 |ops (i:Nat) (l:List Nat) (xs:Nat->Value)
 |text (i:Nat) (l:List Nat) (xs:Nat->Value) (s:gw)
 |gZ (i:Nat) (l:List Nat) (xs:Nat->Value) (s:gw)
 |conv (n:Nat) (xs:Nat->Value)
 |lH (xs:Nat->Value)
 |cW (n:Nat) (xs:Nat->Value)
 |add (n:Nat) (xs:Nat->Value)
 |fa (n:Nat) (xs:Nat->Value)
 |bX (n:Nat) (xs:Nat->Value)
 |eQ (n:Nat) (xs:Nat->Value)
 |quit (q:Nat)
def Wk.ag:Wk->Nat
 |.load _=>10|.recv .. =>9|.woken _=>9|.cr _=>8|.conv .. =>7|.lH _=>6|.cW .. =>5|.add .. =>4|.fa .. =>3|.bX .. =>2|.eQ .. =>1|.quit _=>0
 |.draw .. =>60
 |.ops _ l _=>21+2*l.length
 |.text _ l _ _=>22+2*l.length
 |.gZ _ l _ _=>22+2*l.length
def Wk.idle:Wk->Nat
 |.load n=>n|.recv n _=>n|.draw n _ _=>n|.conv n _=>n|.cW n _=>n|.add n _=>n|.fa n _=>n|.bX n _=>n|.eQ n _=>n|.quit q=>q
 |_=>0
def Wk.tree:Wk->Option gw
 |.text _ _ _ s=>some s
 |.gZ _ _ _ s=>some s
 |_=>none
def Wk.cnt:Wk->Nat
 |.fa .. |.bX .. |.eQ .. |.quit _=>0
 |_=>1
def Wk.bk:Wk->Option Nat
 |.draw _ i _=>some i
 |.ops i _ _=>some i
 |.text i _ _ _=>some i
 |.gZ i _ _ _=>some i
 |_=>none
def Wk.parked:Wk->Bool
 |.cr _=>true
 |_=>false
def Wk.rel:Wk->Bool
 |.cW .. |.add .. |.fa .. |.bX .. |.eQ .. |.quit _=>true
 |_=>false
structure qC(Goal:Frame->List Frame->World->Prop)(X:PC L)(i:Nat)(l:List Nat)(xs:Nat->Value):Prop where
 gB:gB l=true
 lt:i<X.E.n
 x4:xs 4=X.num i
 d0:l.contains 0=false->xs 9=.chan (some X.M.cB)
 d1:l.contains 1=false->xs 10=X.num i
 d2:l.contains 2=false->xs 11=X.E.y2
 d3:l.contains 3=false->xs 12=X.num i
 d4:l.contains 4=false->l.contains 5=true->∃t,xs 13=.string t/\rY Goal X.E (X.a i) t
 d5:l.contains 5=false->xs 14=.int .u64 (X.a i)
 d6:l.contains 6=false->xs 15=X.eP i
noncomputable def below(X:PC L)(xs:Nat->Value)(l:List Nat):List Frame:=(aX X.p xs l).frame::(aX X.p xs l).callers
noncomputable def gv(X:PC L)(xs:Nat->Value):Goroutine:=parked (fc X.p xs) (oI X.p) (.recv true)
def fj(T:aO)(Goal:Frame->List Frame->World->Prop)(X:PC L)(ow:Nat->Prop)(d:Nat)(g:Goroutine)(v:World):Wk->Prop
 |.load n=>aA Pg false n g (my X.p)/\d=0
 |.recv n xs=>aA Pg false n g (fc X.p xs)/\d=0
 |.cr xs=>g=gv X xs/\d=0
 |.woken xs=>g= {gv X xs with status:=.running}/\d=0
 |.draw n i xs=>aA Pg false n g (l9 X.p xs)/\d=0/\i<X.E.n/\xs 4=X.num i
 |.ops i l xs=>g=aX X.p xs l/\d=0/\l≠[]/\qC Goal X i l xs
 |.text i l xs s=>d=0/\qC Goal X i (4::l) xs/\∃Y,Y 7=.int .u64 (X.a i)/\fg L T Goal X.E (qF X.E 5 0 Y) (below X xs (4::l)) ow s g v
 |.gZ i l xs s=>d=0/\qC Goal X i (5::l) xs/\∃Y,Y 7=.int .u64 (X.a i)/\fg L T Goal X.E (qF X.E 5 2 Y) (below X xs (5::l)) ow s g v
 |.conv n xs=>aA Pg false n g (po (cD X.p xs::eL X.p xs) X.M.wg)/\d=0
 |.lH xs=>g=mY (cD X.p xs::eL X.p xs) X.M.wg/\d=0
 |.cW n xs=>aA Pg false n g (lG (cD X.p xs::eL X.p xs) X.M.wg)/\d=0
 |.add n xs=>aA Pg false n g (mf (cD X.p xs::eL X.p xs) X.M.wg)/\d=1
 |.fa n xs=>aA Pg false n g (mK (cD X.p xs) (eL X.p xs) X.M.wg)/\d=1
 |.bX n xs=>aA Pg false n g (mF (cD X.p xs) (eL X.p xs) X.M.wg)/\d=1
 |.eQ n xs=>aA Pg false n g (kT (cD X.p xs) (eL X.p xs) X.M.wg)/\d=1
 |.quit q=>QuitsD Pg q d g
inductive Mt where
 |cW (i n:Nat) (xs:Nat->Value)|add (i n:Nat) (xs:Nat->Value)|cv (i n:Nat) (xs:Nat->Value)|rd (i:Nat) (xs:Nat->Value)|en1 (i n:Nat) (xs:Nat->Value)|en (i n k:Nat) (xs:Nat->Value)|go (i n:Nat) (xs:Nat->Value)
 |ld (j n:Nat) (xs:Nat->Value)|sd (j n:Nat) (xs:Nat->Value)|lc (n:Nat) (xs:Nat->Value)|cl (xs:Nat->Value)
 |wd (n:Nat) (xs:Nat->Value)|wl (n:Nat) (xs ys:Nat->Value)|zen (n:Nat) (xs ys:Nat->Value)|zc (n:Nat) (xs ys:Nat->Value)|za (xs ys:Nat->Value)
 |ef (k n:Nat) (xs ys:Nat->Value)|hcv (k n:Nat) (xs ys:Nat->Value)|hwr (k:Nat) (xs ys:Nat->Value)|dh (n:Nat) (xs ys:Nat->Value)|blk (xs ys:Nat->Value)
 |l2 (n:Nat) (xs ys:Nat->Value)|en2 (n:Nat) (xs ys:Nat->Value)|ac (n:Nat) (xs ys:Nat->Value)|aq (xs ys:Nat->Value)|fin (n:Nat) (xs:Nat->Value)
def aV:Nat:=4294967296
def Mt.ag(c:Nat):Mt->Nat
 |.cW i _ _=>2060+100*(4-i)|.add i _ _=>2050+100*(4-i)|.cv i _ _=>2045+100*(4-i)|.rd i _=>2044+100*(4-i)|.en1 i _ _=>2040+100*(4-i)|.en i _ _ _=>2040+100*(4-i)|.go i _ _=>2030+100*(4-i)
 |.ld j _ _=>202+3*(64-j)|.sd j _ _=>201+3*(64-j)|.lc .. =>190|.cl _=>180|.wd .. =>160|.wl .. =>140|.ef k _ _ _=>if k=c then 130 else 141
 |.zen .. =>120|.zc .. =>119|.za .. =>118|.hcv .. =>129|.hwr .. =>128|.dh .. =>127|.blk .. =>127|.l2 .. =>126|.en2 .. =>125|.ac .. =>124|.aq .. =>123|.fin .. =>0
def Mt.idle:Mt->Nat
 |.cW _ n _=>n|.add _ n _=>n|.cv _ n _=>n|.en1 _ n _=>n|.en _ n _ _=>n|.go _ n _=>n|.ld _ n _=>n|.sd _ n _=>n|.lc n _=>n|.wd n _=>n|.wl n _ _=>n|.zen n _ _=>n|.zc n _ _=>n
 |.ef _ n _ _=>n|.hcv _ n _ _=>n|.dh n _ _=>n+1|.l2 n _ _=>n|.en2 n _ _=>n|.ac n _ _=>n|.fin n _=>n
 |_=>0
def Mt.aY(X:PC L):Mt->Nat
 |.cW .. |.add .. |.cv .. |.rd .. |.en1 .. |.en .. |.go .. =>0
 |.ld j _ _=>j
 |.sd j _ _=>j
 |_=>X.E.n
def Mt.on(X:PC L):Mt->Nat
 |.cW i _ _=>i|.add i _ _=>i|.cv i _ _=>i|.rd i _=>i|.en1 i _ _=>i|.en i _ _ _=>i|.go i _ _=>i
 |_=>X.nW
def Mt.shut:Mt->Bool
 |.cW .. |.add .. |.cv .. |.rd .. |.en1 .. |.en .. |.go .. |.ld .. |.sd .. |.lc .. |.cl _=>false
 |_=>true
def Mt.dr:Mt->Nat
 |.cv .. |.rd .. |.en1 .. |.en .. |.go .. =>1
 |_=>0
def Mt.deaf:Mt->Nat
 |.add .. |.cv .. |.rd .. |.en1 .. |.en .. |.wl .. |.zen .. |.ef .. |.hcv .. |.hwr .. |.dh .. |.blk .. |.l2 .. |.en2 .. =>1
 |_=>0
def PC.ds(X:PC L):List Frame:=X.c::X.cs
noncomputable def PC.mc(X:PC L)(i:Nat)(xs:Nat->Value):Frame:=qD X.M xs X.ds X.nW i
noncomputable def PC.wc(X:PC L)(xs:Nat->Value):Frame:=tC X.M xs X.ds X.E.n
def bz(X:PC L)(h:Goroutine):Mt->Prop
 |.cW i n xs=>aA Pg true n h (jy (X.mc i xs) X.ds X.M.wg)/\i<X.nW
 |.add i n xs=>aA Pg true n h (mG (X.mc i xs) X.ds X.M.wg)/\i<X.nW
 |.cv i n xs=>aA Pg true n h (jl (X.mc i xs) X.ds X.M.wg)/\i<X.nW
 |.rd i xs=>h=fin (jl (X.mc i xs) X.ds X.M.wg) (iZ X.M.wg)/\i<X.nW
 |.en1 i n xs=>aA Pg true n h (oN (X.mc i xs) X.ds X.M.wg)/\i<X.nW
 |.en i n k xs=>aA Pg true n h (o5 (X.mc i xs) X.ds X.M.wg (k*aV:Nat))/\i<X.nW/\2<=k/\k<=4
 |.go i n xs=>aA Pg true n h (iC X.M xs X.ds X.nW i)/\i<X.nW
 |.ld j n xs=>aA Pg true n h (kJ X.M xs X.ds j)/\j<X.E.n
 |.sd j n xs=>aA Pg true n h (gf X.M xs X.ds j)/\j<X.E.n
 |.lc n xs=>aA Pg true n h (mU X.M xs X.ds X.E.n)
 |.cl xs=>h=gK X.M xs X.ds X.E.n
 |.wd n xs=>aA Pg true n h (jz (X.wc xs) X.ds X.M.wg)
 |.wl n xs ys=>aA Pg true n h (nF (X.wc xs) X.ds X.M.wg ys)
 |.zen n xs ys=>aA Pg true n h (mw (X.wc xs) X.ds X.M.wg ys)
 |.zc n xs ys=>aA Pg true n h (jH (X.wc xs) X.ds X.M.wg ys)
 |.za xs ys=>h=fin (jH (X.wc xs) X.ds X.M.wg ys) (ptr X.M.wg)
 |.ef k n xs ys=>aA Pg true n h (lL (X.wc xs) X.ds X.M.wg ys (k*aV:Nat))/\1<=k/\k<=4
 |.hcv k n xs ys=>aA Pg true n h (qw (X.wc xs) X.ds X.M.wg ys (k*aV:Nat))/\1<=k/\k<=4
 |.hwr k xs ys=>h=nJ (X.wc xs) X.ds X.M.wg ys (k*aV:Nat)/\1<=k/\k<=4
 |.dh n xs ys=>aA Pg true n h (ig (X.wc xs) X.ds X.M.wg ys)
 |.blk xs ys=>h= {ig (X.wc xs) X.ds X.M.wg ys with status:=.blocked}
 |.l2 n xs ys=>aA Pg true n h (mA (X.wc xs) X.ds X.M.wg ys)
 |.en2 n xs ys=>aA Pg true n h (mu (X.wc xs) X.ds X.M.wg ys)
 |.ac n xs ys=>aA Pg true n h (jq (X.wc xs) X.ds X.M.wg ys)
 |.aq xs ys=>h=fin (jq (X.wc xs) X.ds X.M.wg ys) (ptr X.M.wg)
 |.fin n xs=>aA Pg true n h (j7 X.M xs X.ds X.E.n)
structure PS where
 mt:Mt
 j:Nat
 ws:Nat->Wk
 ow:Nat->Nat->Prop
 q:Nat->Nat
 bD:List Nat
 rN:Nat
 bZ:List Nat
 st:Nat
 sm:Nat
def PS.c(s:PS):Nat:=sumTo s.j λk=>(s.ws k).cnt
def PS.phi(X:PC L)(s:PS):Nat:=s.mt.ag s.c+sumTo s.j (λk=>(s.ws k).ag)+12*s.c+60*(X.E.n-s.rN)
def PS.hE(s:PS):Nat->Option gw:=λk=>if k<s.j then (s.ws k).tree else none
def PS.pz(X:PC L)(s:PS):Nat:=s.mt.idle+2*sumTo s.j (λk=>(s.ws k).idle)+2*sumTo X.n0 s.q
structure Gs(T:aO)(Goal:Frame->List Frame->World->Prop)(X:PC L)(s:PS)(gs:Array Goroutine)(v:World)(t:Trace):Prop where
 size:gs.size=X.n0+s.j
 main: ∃h,gs[0]?=some h/\bz X h s.mt
 work:∀k,k<s.j->∃g,gs[X.n0+k]?=some g/\fj T Goal X (s.ow k) (Deaf t (X.n0+k)) g v (s.ws k)
 gY:∀i g,0<i->i<X.n0->gs[i]?=some g->QuitsD Pg (s.q i) (Deaf t i) g
 above:∀i,gs.size<=i->Deaf t i=0
structure Wd(X:PC L)(s:PS)(v:World):Prop where
 old:pe X.E v
 size:X.M.wg<v.heap.size
 bT:v.heap[X.M.bT]?=some (.cells #[X.M.fB] 98)
 bN:v.heap[X.M.bN]?=some (.cells #[.chan (some X.M.cN)] 197)
 bB:v.heap[X.M.bB]?=some (.cells #[.chan (some X.M.cB)] 198)
 cN:v.heap[X.M.cN]?=some (.chan X.E.n (s.bD.map X.num).toArray s.mt.shut (s.mt.aY X) s.rN false)
 cB: ∃sB,v.heap[X.M.cB]?=some (.chan X.E.n (s.bZ.map X.eP).toArray false sB 0 false)
 wg:v.heap[X.M.wg]?=some (.cells #[.int .u64 s.st,.int .u32 s.sm] 206)
 tape:v.tape=X.E.v0.tape
 os:v.os=X.E.v0.os
 output:v.output=X.E.v0.output
structure Ac(X:PC L)(s:PS):Prop where
 on:s.j=s.mt.on X
 aY:s.mt.aY X<=X.E.n
 iX:s.rN+s.bD.length=s.mt.aY X
 cover:∀i,i<s.mt.aY X->i∈s.bD\/i∈s.bZ\/∃k,k<s.j/\(s.ws k).bk=some i
 count:s.bD.length+sumTo s.j (λk=>if (s.ws k).bk.isSome then 1 else 0)+s.bZ.length<=s.mt.aY X
 eC:∀i∈s.bD,i<X.E.n
 okB:∀i∈s.bZ,i<X.E.n
 cr:∀k,k<s.j->(s.ws k).parked=true->s.bD= []/\s.mt.shut=false
 gone:∀k,k<s.j->(s.ws k).ag<=7->s.mt.shut=true/\s.bD= []
def ix:Mt->Bool
 |.ef .. |.wl .. |.wd .. |.lc .. |.cl _|.ld .. |.sd .. |.cW .. |.add .. |.cv .. |.rd .. |.en1 .. |.en .. |.go .. =>true
 |_=>false
def gP:Mt->Bool
 |.hcv .. |.hwr .. |.dh .. |.blk .. =>true
 |_=>false
def jB:Mt->Bool
 |.blk .. =>true
 |_=>false
def mx(s:PS):Prop:=∀k,k<s.j->(s.ws k).ag=0\/4<=(s.ws k).ag
def nt(s:PS):Prop:=∀k,k<s.j->(s.ws k).ag=0
inductive Wg (s:PS):Prop
 |opn:ix s.mt=true->mx s->s.st=(s.c+s.mt.dr)*aV->s.sm=0->(∀k n xs ys,s.mt=.ef k n xs ys->s.c<=k)->Wg s
 |cR:gP s.mt=true->mx s->1<=s.c->s.st=s.c*aV+1->s.sm=0->Wg s
 |last (k:Nat):gP s.mt=true->k<s.j->1<=(s.ws k).ag->(s.ws k).ag<=3->(∀i,i<s.j->i≠k->(s.ws i).ag=0)->s.st=(if (s.ws k).ag=1 then 0 else 1)->s.sm=0->Wg s
 |dZ:gP s.mt=true->jB s.mt=false->nt s->s.st=0->s.sm=1->Wg s
 |done:ix s.mt=false->gP s.mt=false->nt s->s.st=0->s.sm=0->Wg s
def fP(X:PC L)(s:PS):lX where
 ro b:=(b<X.E.v0.heap.size/\¬X.Sh b)\/b=X.M.bT\/b=X.M.bN\/b=X.M.bB
 ow k b:=∃i,i<s.j/\k=X.n0+i/\s.ow i b
 qu b:=b=X.M.wg\/b=X.M.cN\/b=X.M.cB
def ec(X:PC L)(s:PS)(k:Nat):Prop:=X.n0<=k/\k<X.n0+s.j
abbrev bf(X:PC L):Addr:=⟨X.M.wg,0,none⟩
structure Tr(X:PC L)(s:PS)(v:World)(t:Trace):Prop where
 tp:TP (fP X s) X.Sh (λk=>k=0\/ec X s k) (ec X s) v.heap.size t
 own:∀i b,i<s.j->s.ow i b->X.M.wg<b/\b<v.heap.size
 apart:∀i i' b,i<s.j->i'<s.j->s.ow i b->s.ow i' b->i=i'
 rel:∀k,k<s.j->(s.ws k).rel=true->∃r,RelBy (bf X) t (X.n0+k) r
 norel:NoRelease (bf X) t
 d0:Deaf t 0=s.mt.deaf
 acq:∀n xs,s.mt=.fin n xs->∃q,t.act? q=some (.mark (.acquire (bf X)))/\t.g? q=some 0/\t.heard q/\∀k,k<s.j->∃r,RelBy (bf X) t (X.n0+k) r/\r<q
structure PI(T:aO)(Goal:Frame->List Frame->World->Prop)(X:PC L)(s:PS)(gs:Array Goroutine)(v:World)(t:Trace):Prop where
 gs:Gs T Goal X s gs v t
 wd:Wd X s v
 ac:Ac X s
 wg:Wg s
 tr:Tr X s v t
end
end
section
open Go.Conc
open Go.ConcN (upd upd_same upd_ne sumTo sumTo_upd sumTo_congr RelBy)
theorem aA.run{n:Nat}(h:aA P m n g g1)(h1:g1.status=.running):g.status=.running:=by
 cases h with
 |refl=>exact h1
 |step hs _ _=>exact hs
theorem aA.cF{n:Nat}(h:aA P m n g g1):(n=0/\g=g1)\/∃k g',n=k+1/\(∀w,stepG P m g w=.go g' w #[])/\aA P m k g' g1:=by
 cases h with
 |refl=>exact .inl ⟨rfl,rfl⟩
 |step _ hs h=>exact .inr ⟨_,_,rfl,hs,h⟩
section
variable {L:au}{T:aO}{Goal:Frame->List Frame->World->Prop}{X:PC L}
theorem fj.js{v2:World}{σ:Wk}(h:fj T Goal X ow d g v σ)(hs:v.heap.size<=v2.heap.size)(ho:∀t,(∃r,X.E.ρ r t)\/ow t->v2.heap[t]?=v.heap[t]?):fj T Goal X ow d g v2 σ:=by
 cases σ with
 |text i l xs s=>obtain⟨h1,h2,Y,h3,h4⟩:=h;exact⟨h1,h2,Y,h3,h4.js hs ho⟩
 |gZ i l xs s=>obtain⟨h1,h2,Y,h3,h4⟩:=h;exact⟨h1,h2,Y,h3,h4.js hs ho⟩
 |_=>exact h
theorem yT(p:Pl)(xs:Nat->Value)(l:List Nat):(aX p xs l).status=.running:=by kernel_rfl
theorem fj.status{σ:Wk}(h:fj T Goal X ow d g v σ):(σ.parked=false/\(g.status=.running\/g.status=.finished))\/(∃xs,σ=.cr xs/\g=gv X xs):=by
 cases σ with
 |load n=>exact .inl ⟨rfl,.inl (h.1.run (sn _).2.1)⟩
 |recv n xs=>exact .inl ⟨rfl,.inl (h.1.run (sC _ _).2.1)⟩
 |cr xs=>exact .inr ⟨xs,rfl,h.1⟩
 |woken xs=>exact .inl ⟨rfl,.inl (by rw[h.1])⟩
 |draw n i xs=>exact .inl ⟨rfl,.inl (h.1.run (vm _ _))⟩
 |ops i l xs=>exact .inl ⟨rfl,.inl (by rw[h.1];exact yT _ _ _)⟩
 |text i l xs s=>obtain⟨_,_,Y,_,h4⟩:=h;exact .inl ⟨rfl,.inl h4.running⟩
 |gZ i l xs s=>obtain⟨_,_,Y,_,h4⟩:=h;exact .inl ⟨rfl,.inl h4.running⟩
 |conv n xs=>exact .inl ⟨rfl,.inl (h.1.run (tz _ _).2.1)⟩
 |lH xs=>exact .inl ⟨rfl,.inl (by rw[h.1];exact vd _ _)⟩
 |cW n xs=>exact .inl ⟨rfl,.inl (h.1.run (Bs _ _))⟩
 |add n xs=>exact .inl ⟨rfl,.inl (h.1.run (tX _ _).2.1)⟩
 |fa n xs=>exact .inl ⟨rfl,.inl (h.1.run (ua _ _ _).2.1)⟩
 |bX n xs=>exact .inl ⟨rfl,.inl (h.1.run (uv _ _ _).2.1)⟩
 |eQ n xs=>exact .inl ⟨rfl,.inl (h.1.run (q9 _ _ _).2.1)⟩
 |quit q=>exact .inl ⟨rfl,(show QuitsD Pg q d g from h).status⟩
theorem o7(X:PC L):oI X.p=#[rcase X.M.cN (.int .i64 0)]:=rfl
theorem fj.woken{σ:Wk}(h:fj T Goal X ow d g v σ)(a a':Goroutine)(hc:σ.parked=true->∃cap buf s r tm,v1.heap[X.M.cN]?=some (.chan cap buf false s r tm)):Go.Conc.woken Pg a a' v1 g=g:=by
 rcases h.status with⟨_,hs⟩|⟨xs,rfl,rfl⟩
 ·unfold Go.Conc.woken;split
  ·exact again_running _ hs
  ·rfl
 ·obtain⟨cap,buf,s,r,tm,hc⟩:=hc rfl;unfold gv;rw[o7];exact woken_recv_open _ _ hc
theorem OG(c:Frame)(cs:List Frame)(wg:Nat)(h:2<=k/\k<=4):(o5 c cs wg (k*aV:Nat)).status=.running:=by
 rcases (show k=2\/k=3\/k=4 by omega) with rfl|rfl|rfl<;>kernel_rfl
theorem ux(c:Frame)(cs:List Frame)(wg:Nat)(ys:Nat->Value)(h:1<=k/\k<=4):aE Pg true (lL c cs wg ys (k*aV:Nat)):=by
 rcases (show k=1\/k=2\/k=3\/k=4 by omega) with rfl|rfl|rfl|rfl<;>exact⟨λw=>by kernel_rfl,by kernel_rfl,by kernel_rfl⟩
theorem AK(c:Frame)(cs:List Frame)(wg:Nat)(ys:Nat->Value)(h:1<=k/\k<=4):aE Pg true (qw c cs wg ys (k*aV:Nat)):=by
 rcases (show k=1\/k=2\/k=3\/k=4 by omega) with rfl|rfl|rfl|rfl<;>exact⟨λw=>by kernel_rfl,by kernel_rfl,by kernel_rfl⟩
theorem Dk(c:Frame)(cs:List Frame)(wg:Nat)(ys:Nat->Value)(h:1<=k/\k<=4):(nJ c cs wg ys (k*aV:Nat)).status=.running:=by
 rcases (show k=1\/k=2\/k=3\/k=4 by omega) with rfl|rfl|rfl|rfl<;>kernel_rfl
theorem aH.nW(O:aH T Goal X):X.nW=1\/X.nW=4:=O.nw.imp (·.2) (·.2)
theorem bz.status(O:aH T Goal X){mt:Mt}(hm:bz X h mt):(jB mt=false/\h.status=.running)\/∃xs ys,mt=.blk xs ys/\h= {ig (X.wc xs) X.ds X.M.wg ys with status:=.blocked}:=by
 cases mt with
 |cW i n xs=>exact .inl ⟨rfl,hm.1.run (LZ _ _ _)⟩
 |add i n xs=>exact .inl ⟨rfl,hm.1.run (Am _ _ _).2.1⟩
 |cv i n xs=>exact .inl ⟨rfl,hm.1.run (As _ _ _).2.1⟩
 |rd i xs=>exact .inl ⟨rfl,by rw[hm.1];exact Im _ _ _⟩
 |en1 i n xs=>exact .inl ⟨rfl,hm.1.run (Nz _ _ _)⟩
 |en i n k xs=>exact .inl ⟨rfl,hm.1.run (OG _ _ _ hm.2.2)⟩
 |go i n xs=>exact .inl ⟨rfl,hm.1.run (EU _ _ _ ⟨O.nW,hm.2⟩)⟩
 |ld j n xs=>exact .inl ⟨rfl,hm.1.run (A4 _ _ _ _).2.1⟩
 |sd j n xs=>exact .inl ⟨rfl,hm.1.run (vY _ _ _ _).2.1⟩
 |lc n xs=>exact .inl ⟨rfl,aA.run hm (wH _ _ _ _).2.1⟩
 |cl xs=>exact .inl ⟨rfl,by rw[show h=_ from hm];exact (wV _ _ _ _).2.1⟩
 |wd n xs=>exact .inl ⟨rfl,aA.run hm (NI _ _ _)⟩
 |wl n xs ys=>exact .inl ⟨rfl,aA.run hm (zN _ _ _ _).2.1⟩
 |zen n xs ys=>exact .inl ⟨rfl,aA.run hm (P8 _ _ _ _)⟩
 |zc n xs ys=>exact .inl ⟨rfl,aA.run hm (vt _ _ _ _).2.1⟩
 |za xs ys=>exact .inl ⟨rfl,by rw[show h=_ from hm];exact JW _ _ _ _⟩
 |ef k n xs ys=>exact .inl ⟨rfl,hm.1.run (ux _ _ _ _ hm.2).2.1⟩
 |hcv k n xs ys=>exact .inl ⟨rfl,hm.1.run (AK _ _ _ _ hm.2).2.1⟩
 |hwr k xs ys=>exact .inl ⟨rfl,by rw[hm.1];exact Dk _ _ _ _ hm.2⟩
 |dh n xs ys=>exact .inl ⟨rfl,aA.run hm (sN _ _ _ _).2.1⟩
 |blk xs ys=>exact .inr ⟨xs,ys,rfl,hm⟩
 |l2 n xs ys=>exact .inl ⟨rfl,aA.run hm (AX _ _ _ _).2.1⟩
 |en2 n xs ys=>exact .inl ⟨rfl,aA.run hm (Ps _ _ _ _)⟩
 |ac n xs ys=>exact .inl ⟨rfl,aA.run hm (zP _ _ _ _).2.1⟩
 |aq xs ys=>exact .inl ⟨rfl,by rw[show h=_ from hm];exact CM _ _ _ _⟩
 |fin n xs=>exact .inl ⟨rfl,aA.run hm (zk _ _ _ _).2.1⟩
theorem bz.woken(O:aH T Goal X){mt:Mt}(hm:bz X h mt)(a a':Goroutine)(v1:World): ∃mt',bz X (Go.Conc.woken Pg a a' v1 h) mt'/\(mt'=mt\/∃xs ys,mt=.blk xs ys/\mt'=.dh 0 xs ys)/\(mayWake Pg a=true->a'.status=.running->jB mt'=false):=by
 rcases hm.status O with⟨hb,hs⟩|⟨xs,ys,rfl,rfl⟩
 ·exact⟨mt,by rw[woken_run hs];exact hm,.inl rfl,λ_ _=>hb⟩
 ·unfold Go.Conc.woken;split
  ·refine⟨.dh 0 xs ys,?_,.inr ⟨xs,ys,rfl,rfl⟩,λ_ _=>rfl⟩;show aA Pg true 0 _ _;have e:Goroutine.again v1 {ig (X.wc xs) X.ds X.M.wg ys with status:=.blocked}=ig (X.wc xs) X.ds X.M.wg ys:=rfl;rw[e];exact .refl _
  ·rename_i hw;refine⟨_,hm,.inl rfl,λh1 h2=>absurd ?_ hw⟩;rw[h1,h2];rfl
theorem ofEvents_g{g:Nat}{op:MemOp}(h:op∈MemOp.ofEvents g fn pos es):op.g=g:=by
 obtain⟨e,_,rfl⟩:=Go.Conc.mem_ofEvents h;rfl
theorem Gs.Dj{s s':PS}(H:Gs T Goal X s gs v t)(O:aH T Goal X){h1:Goroutine}(hM:bz X h1 s'.mt)(hs:v.heap.size<=v1.heap.size)(ho:∀b,((∃r,X.E.ρ r b)\/∃k,k<s.j/\s.ow k b)->v1.heap[b]?=v.heap[b]?)(hpark:∀k,k<s.j->(s.ws k).parked=true->∃cap buf a b tm,v1.heap[X.M.cN]?=some (.chan cap buf false a b tm))(e1:s'.j=s.j)(e2:s'.ws=s.ws)(e3:s'.ow=s.ow)(e4:s'.q=s.q)(fn:FuncId)(pos:String):
  Gs T Goal X s' ((gs.map (Go.Conc.woken Pg h h1 v1)).setIfInBounds 0 h1) v1 (t++MemOp.ofEvents 0 fn pos es):=by
 have hsz:0<gs.size:=by rw[H.size];have:=O.n0;omega
 have hdf:∀i,i≠0->Deaf (t++MemOp.ofEvents 0 fn pos es) i=Deaf t i:=λi hi=>Deaf_other t (QK hi) _ λop hop=>ofEvents_g hop;refine⟨by simp[H.size,e1],⟨h1,by simp[hsz],hM⟩,λk hk=>?_,λi g hi hn hg=>?_,λi hi=>?_⟩
 ·rw[e1]at hk;obtain⟨g,hg,hw⟩:=H.work k hk;have hne:0≠X.n0+k:=by have:=O.n0;omega
  refine⟨g,?_,?_⟩
  ·rw[Array.getElem?_setIfInBounds_ne hne,Array.getElem?_map,hg];simp only[Q7];rw[hw.woken h h1 (hpark k hk)]
  ·rw[hdf _ (by omega),e2,e3];exact hw.js hs λb hb=>ho b (hb.imp id λx=>⟨k,hk,x⟩)
 ·have hne:0≠i:=by omega
  rw[Array.getElem?_setIfInBounds_ne hne,Array.getElem?_map]at hg;obtain⟨y,hy,rfl⟩:=Rp.1 hg;have hq:=H.gY i y hi hn hy;rw[woken_quitsD hq,hdf _ (by omega),e4];exact hq
 ·rw[hdf i (by simp at hi;omega)];exact H.above i (by simpa using hi)
theorem Gs.dU{s s':PS}(H:Gs T Goal X s gs v t)(O:aH T Goal X)(hk:k<s.j)(hW:fj T Goal X (s'.ow k) (deafBehind (Deaf t (X.n0+k)) es) g1 v1 (s'.ws k))(hs:v.heap.size<=v1.heap.size)(ho:∀b,((∃r,X.E.ρ r b)\/∃i,i<s.j/\i≠k/\s.ow i b)->v1.heap[b]?=v.heap[b]?)(hpark:∀i,i<s.j->(s.ws i).parked=true->∃cap buf a b tm,v1.heap[X.M.cN]?=some (.chan cap buf false a b tm))(hm:∀h,gs[0]?=some h->bz X h s.mt->bz X (Go.Conc.woken Pg g g1 v1 h) s'.mt)(e1:s'.j=s.j)(e2:∀i,i≠k->s'.ws i=s.ws i)(e3:∀i,i≠k->s'.ow i=s.ow i)(e4:s'.q=s.q):
  Gs T Goal X s' ((gs.map (Go.Conc.woken Pg g g1 v1)).setIfInBounds (X.n0+k) g1) v1 (t++MemOp.ofEvents (X.n0+k) fn pos es):=by
 have hn0:=O.n0;have hsz:X.n0+k<gs.size:=by rw[H.size];omega
 have hdf:∀i,i≠X.n0+k->Deaf (t++MemOp.ofEvents (X.n0+k) fn pos es) i=Deaf t i:=λi hi=>Deaf_other t (QK hi) _ λop hop=>ofEvents_g hop;obtain⟨h,h0,hM⟩:=H.main;refine⟨by simp[H.size,e1],⟨_,?_,hm h h0 hM⟩,λi hi=>?_,λi x hi hn hg=>?_,λi hi=>?_⟩
 ·rw[Array.getElem?_setIfInBounds_ne (by omega),Array.getElem?_map,h0];rfl
 ·rw[e1]at hi;by_cases hik:i=k
  ·subst hik;refine⟨g1,by rw[Array.getElem?_setIfInBounds_self_of_lt (by simpa using hsz)],?_⟩;rw[Deaf_own];exact hW
  ·obtain⟨x,hx,hw⟩:=H.work i hi;refine⟨x,?_,?_⟩
   ·rw[Array.getElem?_setIfInBounds_ne (by omega),Array.getElem?_map,hx];simp only[Q7];rw[hw.woken g g1 (hpark i hi)]
   ·rw[hdf _ (by omega),e2 i hik,e3 i hik];exact hw.js hs λb hb=>ho b (hb.imp id λx=>⟨i,hi,hik,x⟩)
 ·rw[Array.getElem?_setIfInBounds_ne (by omega),Array.getElem?_map]at hg;obtain⟨y,hy,rfl⟩:=Rp.1 hg;have hq:=H.gY i y hi hn hy;rw[woken_quitsD hq,hdf _ (by omega),e4];exact hq
 ·simp only[Rt,Array.size_map]at hi;rw[hdf i (by rw[H.size]at hi;omega)];exact H.above i hi
end
end
section
open Go.Conc
open Go.ConcN (upd upd_same upd_ne sumTo sumTo_upd sumTo_congr RelBy)
section
variable {L:au}{T:aO}{Goal:Frame->List Frame->World->Prop}{X:PC L}
theorem Hu(O:aH T Goal X){s:PS}(h1:∀i b,i<s.j->s.ow i b->X.M.wg<b/\b<v.heap.size)(h2:∀i i' b,i<s.j->i'<s.j->s.ow i b->s.ow i' b->i=i'):td (fP X s):=by
 have e1:=O.bT;have e2:=O.cN;have e3:=O.bN;have e4:=O.cB;have e5:=O.bB;have e6:=O.wg;refine⟨?_,?_,?_,?_⟩
 ·rintro k k' b ⟨i,hi,rfl,hb⟩ ⟨i',hi',rfl,hb'⟩;rw[h2 i i' b hi hi' hb hb']
 ·rintro k b ⟨i,hi,rfl,hb⟩ hr
  have:=(h1 i b hi hb).1;rcases hr with⟨hr,_⟩|hr|hr|hr<;>omega
 ·rintro k b ⟨i,hi,rfl,hb⟩ hq
  have:=(h1 i b hi hb).1;rcases hq with hq|hq|hq<;>omega
 ·intro b hr hq;rcases hr with⟨hr,_⟩|hr|hr|hr<;>rcases hq with hq|hq|hq<;>omega
theorem Tr.step{s s':PS}{v v1:World}{t:Trace}(H:Tr X s v t)(O:aH T Goal X){g:Nat}(hg:g=0\/ec X s g){es:Array Event}{fn:FuncId}{pos:String}(hj:s'.j=s.j)(hv:v.heap.size<=v1.heap.size)(how:∀i b,i<s.j->s'.ow i b->s.ow i b\/(v.heap.size<=b/\b<v1.heap.size/\g=X.n0+i))(hwg:X.M.wg<v.heap.size)(hok:∀e∈es,∀a,(MemAct.ofEvent e).touch?=some a->a.loc.isMemory=true/\kC (fP X s') g a)(hlow:∀e∈es,(MemAct.ofEvent e).low v1.heap.size)(hrel:∀k,k<s.j->(s'.ws k).rel=true->∃r,RelBy (bf X) (t++MemOp.ofEvents g fn pos es) (X.n0+k) r)(hnr:∀e∈es,e.loc≠.mark (.release (bf X)))(hd:(if g=0 then deafBehind (Deaf t 0) es else Deaf t 0)=s'.mt.deaf)(hacq:∀n xs,s'.mt=.fin n xs->∃q,(t++MemOp.ofEvents g fn pos es).act? q=some (.mark (.acquire (bf X)))/\(t++MemOp.ofEvents g fn pos es).g? q=some 0/\(t++MemOp.ofEvents g fn pos es).heard q/\∀k,k<s.j->∃r,RelBy (bf X) (t++MemOp.ofEvents g fn pos es) (X.n0+k) r/\r<q):
  Tr X s' v1 (t++MemOp.ofEvents g fn pos es):=by
 have own':∀i b,i<s'.j->s'.ow i b->X.M.wg<b/\b<v1.heap.size:=λi b hi hb=>by
  rw[hj]at hi;rcases how i b hi hb with hb|⟨h1,h2,_⟩
  ·have:=H.own i b hi hb;omega
  ·omega
 have apart':∀i i' b,i<s'.j->i'<s'.j->s'.ow i b->s'.ow i' b->i=i':=λi i' b hi hi' hb hb'=>by
  rw[hj]at hi hi';rcases how i b hi hb with hb|⟨h1,h2,h3⟩<;>rcases how i' b hi' hb' with hb'|⟨h1',h2',h3'⟩
  ·exact H.apart i i' b hi hi' hb hb'
  ·have:=(H.own i b hi hb).2;omega
  ·have:=(H.own i' b hi' hb').2;omega
  ·omega
 have hlive:(λk=>k=0\/ec X s' k)=(λk=>k=0\/ec X s k):=by funext k;simp only[ec,hj]
 have hwk:ec X s'=ec X s:=by funext k;simp only[ec,hj]
 refine⟨?_,own',apart',λk hk=>hrel k (hj▸hk),?_,?_,λn xs e=>hj▸hacq n xs e⟩
 ·rw[hlive,hwk];have h1:TP (fP X s') X.Sh (λk=>k=0\/ec X s k) (ec X s) v1.heap.size t:=by
   refine H.tp.grow hv (λk b=>?_) (λb hb=>.inl hb) (λb hb=>.inl hb) (λb hb=>hb);rintro⟨i,hi,rfl,hb⟩;rw[hj]at hi;rcases how i b hi hb with hb|⟨h1,_⟩
   ·exact .inl ⟨i,hi,rfl,hb⟩
   ·exact .inr h1
  refine h1.app (Hu O (v:=v1) own' apart') (k:=g) hg hg (λop hop=>ofEvents_g hop) (λop hop a ha=>?_) (λop hop=>?_)
  ·obtain⟨e,he,rfl⟩:=Go.Conc.mem_ofEvents hop;exact hok e he a ha
  ·obtain⟨e,he,rfl⟩:=Go.Conc.mem_ofEvents hop;exact hlow e he
 ·refine H.norel.app λop hop=>?_;obtain⟨e,he,rfl⟩:=Go.Conc.mem_ofEvents hop;intro e2
  have:=hnr e he;obtain⟨loc,wr,sy⟩:=e;simp only at e2;cases loc with
  |mark m=>simp only[MemAct.ofEvent,MemAct.mark.injEq]at e2;exact this (by rw[e2])
  |cell a=>simp[MemAct.ofEvent]at e2
  |obj r=>cases wr<;>cases sy<;>simp[MemAct.ofEvent]at e2
  |output=>simp[MemAct.ofEvent]at e2
  |goroutines=>simp[MemAct.ofEvent]at e2
 ·by_cases h0:g=0
  ·subst h0;rw[Deaf_own];simpa using hd
  ·rw[Deaf_other t h0 _ λop hop=>ofEvents_g hop];simpa[h0] using hd
theorem um{s:PS}(H:Tr X s v t){g:Nat}{u:Trace}(hu:∀op∈u,op.g=g)(hk:k<s.j)(hne:g≠X.n0+k)(hr:(s.ws k).rel=true): ∃r,RelBy (bf X) (t++u) (X.n0+k) r:=by
 obtain⟨r,hr⟩:=H.rel k hk hr;exact⟨r,RelBy.appOther hr hu hne⟩
def ma(Goal:Frame->List Frame->World->Prop)(X:PC L)(s' s:PS):Prop:=
 s'.phi X<s.phi X\/(s'.phi X=s.phi X/\kp (ky Qg Goal) 4 s'.hE s.hE)\/(s'.phi X=s.phi X/\s'.hE=s.hE/\s'.pz X<s.pz X)
structure pG(σ σ':Wk):Prop where
 ag:σ'.ag=σ.ag
 cnt:σ'.cnt=σ.cnt
 tree:σ'.tree=σ.tree
 bk:σ'.bk=σ.bk
 parked:σ'.parked=σ.parked
 rel:σ'.rel=σ.rel
def ga(mt mt':Mt):Prop:=mt'=mt\/∃xs ys,mt=.blk xs ys/\mt'=.dh 0 xs ys
theorem ga.facts{mt mt':Mt}(h:ga mt mt'):(∀c,mt'.ag c=mt.ag c)/\mt'.aY X=mt.aY X/\mt'.on X=mt.on X/\mt'.shut=mt.shut/\mt'.dr=mt.dr/\mt'.deaf=mt.deaf/\ix mt'=ix mt/\gP mt'=gP mt/\(jB mt=false->jB mt'=false)/\mt'.idle<=mt.idle+1/\(∀k n xs ys,mt'=.ef k n xs ys->mt=.ef k n xs ys)/\∀n xs,mt'=.fin n xs->mt=.fin n xs:=by
 rcases h with rfl|⟨xs,ys,rfl,rfl⟩
 ·exact⟨λ_=>rfl,rfl,rfl,rfl,rfl,rfl,rfl,rfl,id,Nat.le_succ _,λ_ _ _ _=>id,λ_ _=>id⟩
 ·refine⟨λ_=>rfl,rfl,rfl,rfl,rfl,rfl,rfl,rfl,λ_=>rfl,by simp[Mt.idle],λ_ _ _ _ h=>(by cases h),λ_ _ h=>(by cases h)⟩
def PS.wk(s:PS)(mt:Mt)(k:Nat)(σ:Wk)(ow:Nat->Prop):PS:={s with mt:=mt,ws:=upd s.ws k σ,ow:=upd s.ow k ow}
theorem PS.dP(s:PS)(mt:Mt)(k:Nat)(σ:Wk)(ow:Nat->Prop):(s.wk mt k σ ow).ws k=σ/\(s.wk mt k σ ow).ow k=ow:=⟨upd_same ..,upd_same ..⟩
theorem PS.fp(s:PS)(mt:Mt)(σ:Wk)(ow:Nat->Prop)(h:i≠k):(s.wk mt k σ ow).ws i=s.ws i/\(s.wk mt k σ ow).ow i=s.ow i:=⟨upd_ne _ _ h,upd_ne _ _ h⟩
theorem PS.kX(s:PS)(mt:Mt)(hk:k<s.j)(σ:Wk)(ow:Nat->Prop)(φ:Wk->Nat):sumTo s.j (λi=>φ ((s.wk mt k σ ow).ws i))+φ (s.ws k)=sumTo s.j (λi=>φ (s.ws i))+φ σ:=sumTo_upd s.ws σ φ hk
theorem PS.ku(s:PS)(mt:Mt)(hk:k<s.j)(σ:Wk)(ow:Nat->Prop):(s.wk mt k σ ow).c+(s.ws k).cnt=s.c+σ.cnt:=sumTo_upd s.ws σ Wk.cnt hk
theorem PS.xK(s:PS)(mt:Mt)(σ:Wk)(ow:Nat->Prop)(h:σ.tree=(s.ws k).tree):(s.wk mt k σ ow).hE=s.hE:=by
 funext i;unfold PS.hE;by_cases hi:i=k
 ·subst hi;rw[(s.dP mt i σ ow).1,h];rfl
 ·rw[(s.fp mt σ ow hi).1];rfl
theorem Ac.oD{s:PS}{mt':Mt}(H:Ac X s)(hm:ga s.mt mt'){σ:Wk}(hl:pG (s.ws k) σ)(ow:Nat->Prop):Ac X (s.wk mt' k σ ow):=by
 obtain⟨_,f2,f3,f4,_⟩:=hm.facts (X:=X);have hws:∀i,((s.wk mt' k σ ow).ws i).bk=(s.ws i).bk/\((s.wk mt' k σ ow).ws i).parked=(s.ws i).parked/\((s.wk mt' k σ ow).ws i).ag=(s.ws i).ag:=λi=>by
  by_cases hi:i=k
  ·subst hi;rw[(s.dP mt' i σ ow).1];exact⟨hl.bk,hl.parked,hl.ag⟩
  ·rw[(s.fp mt' σ ow hi).1];exact⟨rfl,rfl,rfl⟩
 refine⟨H.on.trans f3.symm,f2▸H.aY,(H.iX).trans f2.symm,λi hi=>?_,?_,H.eC,H.okB,λi hi hp=>?_,λi hi hr=>?_⟩
 ·rcases H.cover i (f2▸hi) with h|h|⟨k',h1,h2⟩
  ·exact .inl h
  ·exact .inr (.inl h)
  ·exact .inr (.inr ⟨k',h1,(hws k').1.trans h2⟩)
 ·have e:sumTo s.j (λi=>if ((s.wk mt' k σ ow).ws i).bk.isSome then 1 else 0)=sumTo s.j (λi=>if (s.ws i).bk.isSome then 1 else 0):=sumTo_congr λi _=>by rw[(hws i).1]
  show s.bD.length+sumTo s.j (λi=>if ((s.wk mt' k σ ow).ws i).bk.isSome then 1 else 0)+s.bZ.length<=mt'.aY X;rw[e,f2];exact H.count
 ·rw[(hws i).2.1]at hp
  have:=H.cr i hi hp;exact⟨this.1,f4.trans this.2⟩
 ·rw[(hws i).2.2]at hr
  have:=H.gone i hi hr;exact⟨f4.trans this.1,this.2⟩
theorem Wg.oD(X:PC L){s:PS}{mt':Mt}(H:Wg s)(hm:ga s.mt mt')(hk:k<s.j){σ:Wk}(hl:pG (s.ws k) σ)(ow:Nat->Prop):Wg (s.wk mt' k σ ow):=by
 obtain⟨_,_,_,_,f5,_,f7,f8,f9,_,f11,_⟩:=hm.facts (X:=X);have hc:(s.wk mt' k σ ow).c=s.c:=by have:=s.ku mt' hk σ ow;rw[hl.cnt]at this;omega
 have hr:∀i,((s.wk mt' k σ ow).ws i).ag=(s.ws i).ag:=λi=>by
  by_cases hi:i=k
  ·subst hi;rw[(s.dP mt' i σ ow).1];exact hl.ag
  ·rw[(s.fp mt' σ ow hi).1]
 cases H with
 |opn h1 h2 h3 h4 h5=>exact .opn (f7.trans h1) (λi hi=>by rw[hr i];exact h2 i hi) (by rw[hc];show s.st=(s.c+mt'.dr)*aV;rw[f5];exact h3) h4 (λk n xs ys e=>by rw[hc];exact h5 k n xs ys (f11 k n xs ys e))
 |cR h1 h2 h3 h4 h5=>exact .cR (f8.trans h1) (λi hi=>by rw[hr i];exact h2 i hi) (by rw[hc];exact h3) (by rw[hc];exact h4) h5
 |last q h1 h2 h3 h4 h5 h6 h7=>exact .last q (f8.trans h1) h2 (by rw[hr q];exact h3) (by rw[hr q];exact h4) (λi hi hq=>by rw[hr i];exact h5 i hi hq) (by rw[hr q];exact h6) h7
 |dZ h1 h2 h3 h4 h5=>exact .dZ (f8.trans h1) (f9 h2) (λi hi=>by rw[hr i];exact h3 i hi) h4 h5
 |done h1 h2 h3 h4 h5=>exact .done (f7.trans h1) (f8.trans h2) (λi hi=>by rw[hr i];exact h3 i hi) h4 h5
theorem Wd.same{s s':PS}(H:Wd X s v)(e1:s'.bD=s.bD)(e2:s'.mt.shut=s.mt.shut)(e3:s'.mt.aY X=s.mt.aY X)(e4:s'.rN=s.rN)(e5:s'.bZ=s.bZ)(e6:s'.st=s.st)(e7:s'.sm=s.sm):Wd X s' v:=
 ⟨H.old,H.size,H.bT,H.bN,H.bB,by rw[e1,e2,e3,e4];exact H.cN,by rw[e5];exact H.cB,by rw[e6,e7];exact H.wg,H.tape,H.os,H.output⟩
theorem Wd.at{s:PS}(H:Wd X s v)(d:Nat):Wd X s (v.at d):=⟨H.old,H.size,H.bT,H.bN,H.bB,H.cN,H.cB,H.wg,H.tape,H.os,H.output⟩
theorem Tr.at{s:PS}(H:Tr X s v t)(d:Nat):Tr X s (v.at d) t:=⟨H.tp,H.own,H.apart,H.rel,H.norel,H.d0,H.acq⟩
theorem Gs.at{s:PS}(H:Gs T Goal X s gs v t)(d:Nat):Gs T Goal X s gs (v.at d) t:=
 ⟨H.size,H.main,λk hk=>let ⟨g,hg,hw⟩:=H.work k hk;⟨g,hg,hw.js (AI _) λ_ _=>rfl⟩,H.gY,H.above⟩
theorem PI.at{s:PS}(H:PI T Goal X s gs v t)(d:Nat):PI T Goal X s gs (v.at d) t:=⟨H.gs.at d,H.wd.at d,H.ac,H.wg,H.tr.at d⟩
end
end
section
open Go.Conc
open Go.ConcN (upd upd_same upd_ne sumTo sumTo_upd sumTo_congr RelBy)
section
variable {L:au}{T:aO}{Goal:Frame->List Frame->World->Prop}{X:PC L}
def bd(T:aO)(Goal:Frame->List Frame->World->Prop)(X:PC L)(s:PS)(gs:Array Goroutine)(v:World)(sl:Option (Nat×Nat))(t:Trace)(i:Nat):Prop:=
 ∃s' gs' v' ops,runT Pg (crowd gs v sl) i=(.next (crowd gs' v' sl),ops)/\PI T Goal X s' gs' v' (t++ops)/\ma Goal X s' s
theorem fR{s:PS}(hk:k<s.j){σ:Wk}(hr:σ.ag<(s.ws k).ag)(hc:σ.cnt=(s.ws k).cnt)(mt':Mt)(hm:ga s.mt mt')(ow:Nat->Prop)(st sm:Nat):ma Goal X {s.wk mt' k σ ow with st:=st,sm:=sm} s:=by
 refine .inl ?_;have h1:=s.kX mt' hk σ ow Wk.ag;have h2:=s.ku mt' hk σ ow;have h3:({s.wk mt' k σ ow with st:=st,sm:=sm}:PS).c=s.c:=by
  show (s.wk mt' k σ ow).c=s.c;omega
 unfold PS.phi;rw[h3];have h4:=(hm.facts (X:=X)).1 s.c;show mt'.ag s.c+sumTo s.j (λi=>((s.wk mt' k σ ow).ws i).ag)+12*s.c+60*(X.E.n-s.rN)<s.mt.ag s.c+sumTo s.j (λi=>(s.ws i).ag)+12*s.c+60*(X.E.n-s.rN);omega
theorem dU(O:aH T Goal X){s:PS}{sl:Option (Nat×Nat)}(H:PI T Goal X s gs v t)(hk:k<s.j)(hg:gs[X.n0+k]?=some g)(e:stepG Pg false g v=.go g1 v1 es)(σ:Wk)(ow:Nat->Prop)(st sm:Nat)(hW:fj T Goal X ow (deafBehind (Deaf t (X.n0+k)) es) g1 v1 σ)(hs:v.heap.size<=v1.heap.size)(hoth:∀b,b<v.heap.size->¬s.ow k b->b≠X.M.wg->v1.heap[b]?=v.heap[b]?)(how:∀b,ow b->s.ow k b\/(v.heap.size<=b/\b<v1.heap.size))(hwgb:v1.heap[X.M.wg]?=some (.cells #[.int .u64 st,.int .u32 sm] 206))(ht:v1.tape=v.tape/\v1.os=v.os/\v1.output=v.output)(hac:∀mt',ga s.mt mt'->Ac X (s.wk mt' k σ ow))(hwg:∀mt',ga s.mt mt'->(mayWake Pg g=true->g1.status=.running->jB mt'=false)->Wg {s.wk mt' k σ ow with st:=st,sm:=sm})(hev:∀e∈es,∀a,(MemAct.ofEvent e).touch?=some a->a.loc.isMemory=true/\kC (fP X (s.wk s.mt k σ ow)) (X.n0+k) a)(hlow:∀e∈es,(MemAct.ofEvent e).low v1.heap.size)(hrel:σ.rel=true->∃r,RelBy (bf X) (t++MemOp.ofEvents (X.n0+k) g.frame.fn g.frame.place es) (X.n0+k) r)(hnr:∀e∈es,e.loc≠.mark (.release (bf X)))(hfin:∀n xs,s.mt=.fin n xs->False)(hdec:∀mt',ga s.mt mt'->ma Goal X {s.wk mt' k σ ow with st:=st,sm:=sm} s):bd T Goal X s gs v sl t (X.n0+k):=by
 have hn0:=O.n0;have e1:=O.bT;have e2:=O.cN;have e3:=O.bN;have e4:=O.cB;have e5:=O.bB;have e6:=O.wg;have hne0:(X.n0+k==0)=false:=by simp;omega
 have hrun:=runT_crowd_go (P:=Pg) (sl:=sl) (i:=X.n0+k) hg (by rw[hne0];exact e);obtain⟨h,h0,hM⟩:=H.gs.main;obtain⟨mt',hM',hml,hbl⟩:=hM.woken O g g1 v1;have hfacts:=ga.facts (X:=X) hml;have hown:∀b,b<=X.M.wg->¬s.ow k b:=λb hb ho=>by have:=(H.tr.own k b hk ho).1;omega
 have hsame:∀b,b<X.M.wg->v1.heap[b]?=v.heap[b]? :=λb hb=>hoth b (by have:=H.wd.size;omega) (hown b (by omega)) (by omega);refine⟨{s.wk mt' k σ ow with st:=st,sm:=sm},_,v1,_,hrun,⟨?_,?_,?_,hwg mt' hml hbl,?_⟩,hdec mt' hml⟩
 ·refine H.gs.dU O hk (s':={s.wk mt' k σ ow with st:=st,sm:=sm}) ?_ hs ?_ ?_ ?_ rfl (λi hi=>(s.fp mt' σ ow hi).1) (λi hi=>(s.fp mt' σ ow hi).2) rfl
  ·show fj T Goal X ((s.wk mt' k σ ow).ow k) _ g1 v1 ((s.wk mt' k σ ow).ws k);rw[(s.dP mt' k σ ow).1,(s.dP mt' k σ ow).2];exact hW
  ·rintro b (⟨r,hr⟩|⟨i,hi,hik,hb⟩)
   ·exact hsame b (by have:=(O.K.bC r b hr).2;omega)
   ·have h1:=H.tr.own i b hi hb;exact hoth b h1.2 (λhx=>hik (H.tr.apart i k b hi hk hb hx)) (by omega)
  ·intro i hi hp;have hcn:=H.wd.cN;rw[(H.ac.cr i hi hp).2,<-hsame _ (by omega)]at hcn;exact⟨_,_,_,_,_,hcn⟩
  ·intro h' h0' _;rw[h0]at h0';cases h0';exact hM'
 ·refine⟨⟨IT H.wd.old.1 hs,λb hb=>by rw[hsame b (by omega)];exact H.wd.old.2 b hb⟩,QL H.wd.size hs,?_,?_,?_,?_,?_,hwgb,ht.1.trans H.wd.tape,ht.2.1.trans H.wd.os,ht.2.2.trans H.wd.output⟩
  ·rw[hsame _ (by omega)];exact H.wd.bT
  ·rw[hsame _ (by omega)];exact H.wd.bN
  ·rw[hsame _ (by omega)];exact H.wd.bB
  ·rw[hsame _ (by omega)];show _=some (Obj.chan X.E.n (s.bD.map X.num).toArray mt'.shut (mt'.aY X) s.rN false);rw[hfacts.2.1,hfacts.2.2.2.1];exact H.wd.cN
  ·obtain⟨sB,h⟩:=H.wd.cB;exact⟨sB,by rw[hsame _ (by omega)];exact h⟩
 ·have:=hac mt' hml;exact⟨this.on,this.aY,this.iX,this.cover,this.count,this.eC,this.okB,this.cr,this.gone⟩
 ·refine H.tr.step O (s':={s.wk mt' k σ ow with st:=st,sm:=sm}) (.inr ⟨by omega,by omega⟩) rfl hs (λi b hi hb=>?_) H.wd.size hev hlow (λi hi hr=>?_) hnr ?_ (λn xs h=>(hfin n xs (hfacts.2.2.2.2.2.2.2.2.2.2.2 n xs h)).elim)
  ·by_cases hik:i=k
   ·subst hik;have hb':ow b:=by have:=(s.dP mt' i σ ow).2;rw[<-this];exact hb
    exact (how b hb').imp id λx=>⟨x.1,x.2,rfl⟩
   ·have:=(s.fp mt' σ ow hik).2;exact .inl (by rw[<-this];exact hb)
  ·by_cases hik:i=k
   ·subst hik
    have:=(s.dP mt' i σ ow).1;exact hrel (by rw[<-this];exact hr)
   ·have:=(s.fp mt' σ ow hik).1;exact um H.tr (λop hop=>ofEvents_g hop) hi (by omega) (by rw[<-this];exact hr)
  ·rw[By (by omega),H.tr.d0];exact hfacts.2.2.2.2.2.1.symm
theorem jh(O:aH T Goal X){s:PS}{sl:Option (Nat×Nat)}(H:PI T Goal X s gs v t)(hfin:∀n xs,s.mt=.fin n xs->False)(hk:k<s.j)(hg:gs[X.n0+k]?=some g)(e:∀w,stepG Pg false g w=.go g1 w #[]){σ:Wk}(hl:pG (s.ws k) σ)(hi:σ.idle+1=(s.ws k).idle)(hW:fj T Goal X (s.ow k) (Deaf t (X.n0+k)) g1 v σ):bd T Goal X s gs v sl t (X.n0+k):=by
 refine dU O H hk hg (e v) σ (s.ow k) s.st s.sm hW (AI _) (λ_ _ _ _=>rfl) (λb hb=>.inl hb) H.wd.wg ⟨rfl,rfl,rfl⟩ (λmt' hm=>H.ac.oD hm hl _) (λmt' hm _=>?_) (λe he=>by simp at he) (λe he=>by simp at he) (λhr=>?_) (λe he=>by simp at he) hfin (λmt' hm=>?_)
 ·exact H.wg.oD X hm hk hl _
 ·obtain⟨r,hr⟩:=H.tr.rel k hk (hl.rel▸hr);exact⟨r,RelBy.still hr λop hop=>by obtain⟨e,he,_⟩:=Go.Conc.mem_ofEvents hop;simp at he⟩
 ·have h1:=s.kX mt' hk σ (s.ow k) Wk.ag;have h2:=s.ku mt' hk σ (s.ow k);have h5:=s.kX mt' hk σ (s.ow k) Wk.idle;rw[hl.ag]at h1;rw[hl.cnt]at h2;have hf:=hm.facts (X:=X);have h3:(s.wk mt' k σ (s.ow k)).c=s.c:=by omega
  refine .inr (.inr ⟨?_,s.xK mt' σ (s.ow k) hl.tree,?_⟩)
  ·show mt'.ag (s.wk mt' k σ (s.ow k)).c+sumTo s.j (λi=>((s.wk mt' k σ (s.ow k)).ws i).ag)+12*(s.wk mt' k σ (s.ow k)).c+60*(X.E.n-s.rN)=s.mt.ag s.c+sumTo s.j (λi=>(s.ws i).ag)+12*s.c+60*(X.E.n-s.rN);rw[h3,hf.1 s.c];omega
  ·show mt'.idle+2*sumTo s.j (λi=>((s.wk mt' k σ (s.ow k)).ws i).idle)+2*sumTo X.n0 s.q<s.mt.idle+2*sumTo s.j (λi=>(s.ws i).idle)+2*sumTo X.n0 s.q
   have:=hf.2.2.2.2.2.2.2.2.2.1;omega
end
end
section
open Go.Conc
open Go.ConcN (upd upd_same upd_ne sumTo sumTo_upd sumTo_congr RelBy)
section
variable {L:au}{T:aO}{Goal:Frame->List Frame->World->Prop}{X:PC L}
theorem Ac.wk{s:PS}(H:Ac X s){σ:Wk}(ow:Nat->Prop)(hj:σ.bk=(s.ws k).bk)(hp:σ.parked=true->s.bD= []/\s.mt.shut=false)(hg:σ.ag<=7->s.mt.shut=true/\s.bD= []):∀mt',ga s.mt mt'->Ac X (s.wk mt' k σ ow):=by
 intro mt' hm;obtain⟨_,f2,f3,f4,_⟩:=hm.facts (X:=X);have hws:∀i,((s.wk mt' k σ ow).ws i).bk=(s.ws i).bk:=λi=>by
  by_cases hi:i=k
  ·subst hi;rw[(s.dP mt' i σ ow).1];exact hj
  ·rw[(s.fp mt' σ ow hi).1]
 refine⟨H.on.trans f3.symm,f2▸H.aY,(H.iX).trans f2.symm,λi hi=>?_,?_,H.eC,H.okB,λi hi hpp=>?_,λi hi hr=>?_⟩
 ·rcases H.cover i (f2▸hi) with h|h|⟨k',h1,h2⟩
  ·exact .inl h
  ·exact .inr (.inl h)
  ·exact .inr (.inr ⟨k',h1,(hws k').trans h2⟩)
 ·have e:sumTo s.j (λi=>if ((s.wk mt' k σ ow).ws i).bk.isSome then 1 else 0)=sumTo s.j (λi=>if (s.ws i).bk.isSome then 1 else 0):=sumTo_congr λi _=>by rw[hws i]
  show s.bD.length+sumTo s.j (λi=>if ((s.wk mt' k σ ow).ws i).bk.isSome then 1 else 0)+s.bZ.length<=mt'.aY X;rw[e,f2];exact H.count
 ·by_cases hik:i=k
  ·subst hik;rw[(s.dP mt' i σ ow).1]at hpp;exact⟨(hp hpp).1,f4.trans (hp hpp).2⟩
  ·rw[(s.fp mt' σ ow hik).1]at hpp
   have:=H.cr i hi hpp;exact⟨this.1,f4.trans this.2⟩
 ·by_cases hik:i=k
  ·subst hik;rw[(s.dP mt' i σ ow).1]at hr;exact⟨f4.trans (hg hr).1,(hg hr).2⟩
  ·rw[(s.fp mt' σ ow hik).1]at hr
   have:=H.gone i hi hr;exact⟨f4.trans this.1,this.2⟩
theorem Wg.ft(X:PC L){s:PS}(H:Wg s)(hk:k<s.j){σ:Wk}(ow:Nat->Prop)(h1:4<=(s.ws k).ag)(h2:4<=σ.ag)(hc:σ.cnt=(s.ws k).cnt):∀mt',ga s.mt mt'->Wg {s.wk mt' k σ ow with st:=s.st,sm:=s.sm}:=by
 intro mt' hm;obtain⟨_,_,_,_,f5,_,f7,f8,f9,_,f11,_⟩:=hm.facts (X:=X);have hcc:(s.wk mt' k σ ow).c=s.c:=by have:=s.ku mt' hk σ ow;omega
 have hr:∀i,mx s->i<s.j->((s.wk mt' k σ ow).ws i).ag=0\/4<=((s.wk mt' k σ ow).ws i).ag:=λi hn hi=>by
  by_cases hik:i=k
  ·subst hik;rw[(s.dP mt' i σ ow).1];exact .inr h2
  ·rw[(s.fp mt' σ ow hik).1];exact hn i hi
 cases H with
 |opn a1 a2 a3 a4 a5=>exact .opn (f7.trans a1) (λi hi=>hr i a2 hi) (by show s.st=((s.wk mt' k σ ow).c+mt'.dr)*aV;rw[hcc,f5];exact a3) a4 (λq n xs ys e=>by show (s.wk mt' k σ ow).c<=q;rw[hcc];exact a5 q n xs ys (f11 q n xs ys e))
 |cR a1 a2 a3 a4 a5=>exact .cR (f8.trans a1) (λi hi=>hr i a2 hi) (by show 1<=(s.wk mt' k σ ow).c;rw[hcc];exact a3) (by show s.st=(s.wk mt' k σ ow).c*aV+1;rw[hcc];exact a4) a5
 |last q a1 a2 a3 a4 a5 a6 a7=>
  by_cases hq:k=q
  ·subst hq;omega
  ·have:=a5 k hk hq;omega
 |dZ a1 a2 a3 a4 a5=>have:=a3 k hk;omega
 |done a1 a2 a3 a4 a5=>have:=a3 k hk;omega
theorem rI(O:aH T Goal X)(s':PS)(g b:Nat)(hb:b=X.M.bT\/b=X.M.bN\/b=X.M.bB):∀e∈(#[⟨.cell ⟨b,0,none⟩,false,false⟩]:Array Event),∀a,(MemAct.ofEvent e).touch?=some a->a.loc.isMemory=true/\kC (fP X s') g a:=by
 have _:=O;intro e he a ha;simp at he;subst he;simp only[MemAct.ofEvent,MemAct.touch?,QA]at ha;subst ha;refine⟨rfl,λc hc=>?_⟩;simp only[blk,QA]at hc;subst hc;exact .inr (.inl ⟨.inr hb,rfl,rfl⟩)
theorem kY{B:Nat}{a:Addr}(h:a.block<B)(wr sy:Bool):(MemAct.ofEvent ⟨.cell a,wr,sy⟩).low B:=by
 simp only[MemAct.ofEvent,MemAct.low,Loc.low];exact h
theorem zD(p:Pl)(xs:Nat->Value)(l:List Nat):(aX p xs l).frame.fn=128:=by kernel_rfl
theorem Bg(b:Nat):seen Pg 128 #[⟨.cell ⟨b,0,none⟩,false,false⟩]=#[⟨.cell ⟨b,0,none⟩,false,false⟩]:=by kernel_rfl
theorem KC(O:aH T Goal X){s:PS}{sl:Option (Nat×Nat)}(H:PI T Goal X s gs v t)(hfin:∀n xs,s.mt=.fin n xs->False)(hk:k<s.j)(hσ:s.ws k=.load 0):bd T Goal X s gs v sl t (X.n0+k):=by
 obtain⟨g,hg,hW⟩:=H.gs.work k hk;rw[hσ]at hW;obtain⟨hgl,hd⟩:=hW;cases hgl;have e6:=O.wg;have e3:=O.bN;have hc:v.cell? ⟨X.M.bN,0,none⟩=some (.chan (some X.M.cN)):=by simp[World.cell?,H.wd.bN]
 have e:=aE.value (sn X.p) (Od X.p (.chan (some X.M.cN))) (w:=v) (w':=v) (es:=#[⟨.cell ⟨X.M.bN,0,none⟩,false,false⟩]) ⟨hc,rfl,rfl⟩;rw[Ln]at e;have hr:(s.ws k).ag=10:=by rw[hσ];rfl
 refine dU O H hk hg e (.recv 5 λ_=>undef) (s.ow k) s.st s.sm ⟨?_,hd⟩ (AI _) (λ_ _ _ _=>rfl) (λb hb=>.inl hb) H.wd.wg ⟨rfl,rfl,rfl⟩
  (H.ac.wk _ (by rw[hσ];rfl) (λh=>by cases h) (λh=>by simp[Wk.ag]at h)) (λmt' hm _=>H.wg.ft X hk _ (by omega) (by simp[Wk.ag]) (by rw[hσ];rfl) mt' hm)
  (rI O _ _ _ (.inr (.inl rfl))) (λe he=>by simp at he;subst he;exact kY (show X.M.bN<v.heap.size by have:=H.wd.size;omega) _ _) (λh=>by cases h) (λe he=>by simp at he;subst he;simp) hfin (λmt' hm=>fR hk (by rw[hσ];simp[Wk.ag]) (by rw[hσ];rfl) mt' hm _ _ _)
 have:=(G3 X.p).aN;rw[JL]at this;exact this
theorem N8(O:aH T Goal X){s:PS}{sl:Option (Nat×Nat)}(H:PI T Goal X s gs v t)(hfin:∀n xs,s.mt=.fin n xs->False)(hk:k<s.j)(hσ:s.ws k=.draw 0 i xs):bd T Goal X s gs v sl t (X.n0+k):=by
 obtain⟨g,hg,hW⟩:=H.gs.work k hk;rw[hσ]at hW;obtain⟨hgl,hd,hi,h4⟩:=hW;cases hgl;have hw:=I5 (v.tape v.drawn (.order 128 4));have e:=Px X.p xs v;generalize Region.schedule true jK (v.tape v.drawn (.order 128 4))=l at hw e;simp only[whole,No,QS,List.all_eq_true]at hw;obtain⟨⟨hgood,hall⟩,hlen⟩:=hw;have hc:∀j,j<8->l.contains j=false->False:=λj hj h=>by
  have:=hall j (List.mem_range.2 hj);rw[h]at this;cases this
 have hr:(s.ws k).ag=60:=by rw[hσ];rfl
 refine dU O H hk hg e (.ops i l xs) (s.ow k) s.st s.sm ⟨rfl,hd,?_,hgood,hi,h4,λh=>(hc 0 (by omega) h).elim,λh=>(hc 1 (by omega) h).elim,λh=>(hc 2 (by omega) h).elim,λh=>(hc 3 (by omega) h).elim,λh=>(hc 4 (by omega) h).elim,λh=>(hc 5 (by omega) h).elim,λh=>(hc 6 (by omega) h).elim⟩ (AI _) (λ_ _ _ _=>rfl) (λb hb=>.inl hb) H.wd.wg ⟨rfl,rfl,rfl⟩
  (H.ac.wk _ (by rw[hσ];rfl) (λh=>by cases h) (λh=>by simp[Wk.ag]at h;omega)) (λmt' hm _=>H.wg.ft X hk _ (by omega) (by simp only[Wk.ag];omega) (by rw[hσ];rfl) mt' hm)
  (λe he=>by simp at he) (λe he=>by simp at he) (λh=>by cases h) (λe he=>by simp at he) hfin (λmt' hm=>fR hk (by rw[hσ];simp only[Wk.ag];omega) (by rw[hσ];rfl) mt' hm _ _ _)
 rintro rfl;simp at hlen
theorem bg{m:Nat}(l:List Nat)(h:m≠j):(j::l).contains m=l.contains m:=by
 simp only[List.contains_cons];have:(m==j)=false:=by simp[h]
 rw[this,Bool.false_or]
theorem mr(h:gB (j::l)=true):kz j l=true/\gB l=true:=by
 simpa[gB] using h
theorem lQ{m:Nat}(h:l.contains m=true):l≠[]:=by rintro rfl;simp at h
theorem oT(O:aH T Goal X){s:PS}{sl:Option (Nat×Nat)}(H:PI T Goal X s gs v t)(hfin:∀n xs,s.mt=.fin n xs->False)(hk:k<s.j){xs':Nat->Value}(hσ:s.ws k=.ops i (j::l) xs)(e:stepG Pg false (aX X.p xs (j::l)) v=.go (aX X.p xs' l) v es)(hes:es=#[]\/∃b,(b=X.M.bT\/b=X.M.bN\/b=X.M.bB)/\es=#[⟨.cell ⟨b,0,none⟩,false,false⟩])(hne:l≠[])(ho:qC Goal X i l xs'):bd T Goal X s gs v sl t (X.n0+k):=by
 obtain⟨g,hg,hW⟩:=H.gs.work k hk;rw[hσ]at hW;obtain⟨rfl,hd,_,_⟩:=hW;have e6:=O.wg;have e3:=O.bN;have e1:=O.bT;have e5:=O.bB;have hr:(s.ws k).ag=21+2*(l.length+1):=by rw[hσ];rfl
 have hdf:deafBehind (Deaf t (X.n0+k)) es=0:=by
  rcases hes with rfl|⟨b,_,rfl⟩
  ·exact hd
  ·exact hd
 refine dU O H hk hg e (.ops i l xs') (s.ow k) s.st s.sm ⟨rfl,hdf,hne,ho⟩ (AI _) (λ_ _ _ _=>rfl) (λb hb=>.inl hb) H.wd.wg ⟨rfl,rfl,rfl⟩
  (H.ac.wk _ (by rw[hσ];rfl) (λh=>by cases h) (λh=>by simp only[Wk.ag]at h;omega)) (λmt' hm _=>H.wg.ft X hk _ (by omega) (by simp only[Wk.ag];omega) (by rw[hσ];rfl) mt' hm) ?_ ?_ (λh=>by cases h) ?_ hfin (λmt' hm=>fR hk (by rw[hσ];simp only[Wk.ag,QH];omega) (by rw[hσ];rfl) mt' hm _ _ _)
 ·rcases hes with rfl|⟨b,hb,rfl⟩
  ·intro e he;simp at he
  ·exact rI O _ _ b hb
 ·rcases hes with rfl|⟨b,hb,rfl⟩
  ·intro e he;simp at he
  ·intro e he;simp at he;subst he;exact kY (show b<v.heap.size by have:=H.wd.size;omega) _ _
 ·rcases hes with rfl|⟨b,hb,rfl⟩
  ·intro e he;simp at he
  ·intro e he;simp at he;subst he;simp
theorem nR(O:aH T Goal X){s:PS}{sl:Option (Nat×Nat)}(H:PI T Goal X s gs v t)(hfin:∀n xs,s.mt=.fin n xs->False)(hk:k<s.j)(hσ:s.ws k=.ops i (j::l) xs)(hj:j=0\/j=1\/j=2\/j=3\/j=6):bd T Goal X s gs v sl t (X.n0+k):=by
 obtain⟨g,hg,hW⟩:=H.gs.work k hk;rw[hσ]at hW;obtain⟨_,_,_,ho⟩:=hW;obtain⟨hh,hgd⟩:=mr ho.gB;rcases hj with rfl|rfl|rfl|rfl|rfl
 ·have hne:l≠[]:=lQ (m:=7) hh;have hc:v.cell? ⟨X.M.bB,0,none⟩=some (.chan (some X.M.cB)):=by simp[World.cell?,H.wd.bB]
  have e:=aE.value (P0 X.p xs l) (IX X.p xs l (.chan (some X.M.cB))) (w:=v) (w':=v) (es:=#[⟨.cell ⟨X.M.bB,0,none⟩,false,false⟩]) ⟨hc,rfl,rfl⟩;rw[GK,zD,Bg]at e;refine oT O H hfin hk hσ e (.inr ⟨_,.inr (.inr rfl),rfl⟩) hne ⟨hgd,ho.lt,ho.x4,λ_=>rfl,λh=>ho.d1 (by rw[bg _ (by omega)];exact h),λh=>ho.d2 (by rw[bg _ (by omega)];exact h),λh=>ho.d3 (by rw[bg _ (by omega)];exact h),λh h5=>ho.d4 (by rw[bg _ (by omega)];exact h) (by rw[bg _ (by omega)];exact h5),λh=>ho.d5 (by rw[bg _ (by omega)];exact h),λh=>ho.d6 (by rw[bg _ (by omega)];exact h)⟩
 ·have hne:l≠[]:=lQ (m:=6) hh;have e:=(CI X.p xs l).step.2.1 v;rw[O9]at e;refine oT O H hfin hk hσ e (.inl rfl) hne ⟨hgd,ho.lt,ho.x4,λh=>ho.d0 (by rw[bg _ (by omega)];exact h),λ_=>ho.x4,λh=>ho.d2 (by rw[bg _ (by omega)];exact h),λh=>ho.d3 (by rw[bg _ (by omega)];exact h),λh h5=>ho.d4 (by rw[bg _ (by omega)];exact h) (by rw[bg _ (by omega)];exact h5),λh=>ho.d5 (by rw[bg _ (by omega)];exact h),λh=>ho.d6 (by rw[bg _ (by omega)];exact h)⟩
 ·have hne:l≠[]:=lQ (m:=4) hh;have hc:v.cell? ⟨X.M.bT,0,none⟩=some X.M.fB:=by simp[World.cell?,H.wd.bT]
  have e:=aE.value (C9 X.p xs l) (EJ X.p xs l X.M.fB) (w:=v) (w':=v) (es:=#[⟨.cell ⟨X.M.bT,0,none⟩,false,false⟩]) ⟨hc,rfl,rfl⟩;rw[Ju,zD,Bg]at e;refine oT O H hfin hk hσ e (.inr ⟨_,.inl rfl,rfl⟩) hne ⟨hgd,ho.lt,ho.x4,λh=>ho.d0 (by rw[bg _ (by omega)];exact h),λh=>ho.d1 (by rw[bg _ (by omega)];exact h),λ_=>O.fB,λh=>ho.d3 (by rw[bg _ (by omega)];exact h),λh h5=>ho.d4 (by rw[bg _ (by omega)];exact h) (by rw[bg _ (by omega)];exact h5),λh=>ho.d5 (by rw[bg _ (by omega)];exact h),λh=>ho.d6 (by rw[bg _ (by omega)];exact h)⟩
 ·have hne:l≠[]:=lQ (m:=4) hh;have e:=(E4 X.p xs l).step.2.1 v;rw[C4]at e;refine oT O H hfin hk hσ e (.inl rfl) hne ⟨hgd,ho.lt,ho.x4,λh=>ho.d0 (by rw[bg _ (by omega)];exact h),λh=>ho.d1 (by rw[bg _ (by omega)];exact h),λh=>ho.d2 (by rw[bg _ (by omega)];exact h),λ_=>ho.x4,λh h5=>ho.d4 (by rw[bg _ (by omega)];exact h) (by rw[bg _ (by omega)];exact h5),λh=>ho.d5 (by rw[bg _ (by omega)];exact h),λh=>ho.d6 (by rw[bg _ (by omega)];exact h)⟩
 ·simp only[kz,No,Bool.not_eq_true']at hh;have hne:l≠[]:=lQ (m:=7) hh.2;have x10:xs 10=X.num i:=ho.d1 (by rw[bg _ (by omega)];exact hh.1.1);have x14:xs 14=.int .u64 (X.a i):=ho.d5 (by rw[bg _ (by omega)];exact hh.1.2);have hxs:upd (upd xs 10 (X.num i)) 14 (.int .u64 (X.a i))=xs:=by
   rw[<-x10,iJ,<-x14,iJ]
  have e:=(FG X.p xs l (IntKind.i64.wrap (X.E.first+i)) (X.a i)).step.2.1 v;rw[Kn]at e;change stepG Pg false (aX X.p (upd (upd xs 10 (X.num i)) 14 (.int .u64 (X.a i))) (6::l)) v=.go (aX X.p (upd (upd (upd xs 10 (X.num i)) 14 (.int .u64 (X.a i))) 15 (X.eP i)) l) v #[]at e;rw[hxs]at e;refine oT O H hfin hk hσ e (.inl rfl) hne ⟨hgd,ho.lt,ho.x4,λh=>ho.d0 (by rw[bg _ (by omega)];exact h),λh=>ho.d1 (by rw[bg _ (by omega)];exact h),λh=>ho.d2 (by rw[bg _ (by omega)];exact h),λh=>ho.d3 (by rw[bg _ (by omega)];exact h),λh h5=>ho.d4 (by rw[bg _ (by omega)];exact h) (by rw[bg _ (by omega)];exact h5),λh=>ho.d5 (by rw[bg _ (by omega)];exact h),λ_=>rfl⟩
end
end
end Go.Proofs.YtldmcdeibiclkaaGreat.U
