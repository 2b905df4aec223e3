/-
  Toward settled_holds: THE POOL's MACHINE: places, what is held, the measure.
-/
import Derived.Test.YtldmcdeibiclkaaGreatDoorC08
set_option linter.unusedVariables false
set_option linter.unusedSimpArgs false
set_option maxRecDepth 100000
set_option maxHeartbeats 20000000
namespace Go.Proofs.YtldmcdeibiclkaaGreatDoor.U
variable {k i j d:Nat}{v v1:World}{t:Trace}{gs:Array Goroutine}{g g1 h:Goroutine}{sl:Option (Nat×Nat)}{es:Array Event}{l:List Nat}{ow:Nat->Prop}{xs:Nat->Value}{P:Program}{m:Bool}{fn:FuncId}{pos:String}
section
open Go.Conc
open Go.ConcN (upd upd_same upd_ne sumTo sumTo_upd sumTo_congr RelBy)
structure PC(L:aA) where
 E:Entry L
 M:Mn
 c:Frame
 cs:List Frame
 n0:Nat
 nW:Nat
 a:Nat->Int
 Sh:Nat->Prop
 g0:Array Goroutine
section
variable {L:aA}
def PC.p(X:PC L):Pl:=X.M.toPl
def PC.num(X:PC L)(i:Nat):Value:=.int .i64 (IntKind.i64.wrap (X.E.first+i))
def PC.gF(X:PC L)(i:Nat):Value:=.agg #[X.num i,.int .u64 (X.a i)]
structure aL(T:aN)(Goal:Frame->List Frame->World->Prop)(X:PC L):Prop where
 A:eY L T Goal
 K:iM L X.E
 nK:∀i,i<X.E.n->uv Goal X.E i (X.a i)
 first:X.M.first=X.E.first
 count:X.M.count=X.E.n
 ij:X.M.ij=X.E.y2
 nn:X.E.n=1\/X.E.n=4\/X.E.n=16\/X.E.n=64
 nw:(X.E.n=1/\X.nW=1)\/(X.E.n≠1/\X.nW=4)
 bT:X.M.bT=X.E.v0.heap.size
 cN:X.M.cN=X.E.v0.heap.size+1
 bN:X.M.bN=X.E.v0.heap.size+2
 cB:X.M.cB=X.E.v0.heap.size+3
 bB:X.M.bB=X.E.v0.heap.size+4
 wg:X.M.wg=X.E.v0.heap.size+5
 n0:0<X.n0
 sh:∀b,X.Sh b->b<X.E.v0.heap.size
 DU:∀r s,X.E.ρ r s->¬X.Sh s
inductive Wk where
 |load (n:Nat)
 |recv (n:Nat) (xs:Nat->Value)
 |dC (xs:Nat->Value)
 |woken (xs:Nat->Value)
 |draw (n i:Nat) (xs:Nat->Value)
 |ops (i:Nat) (l:List Nat) (xs:Nat->Value)
 |text (i:Nat) (l:List Nat) (xs:Nat->Value) (s:jE)
 |jK (i:Nat) (l:List Nat) (xs:Nat->Value) (s:jE)
 |conv (n:Nat) (xs:Nat->Value)
 |ot (xs:Nat->Value)
 |eA (n:Nat) (xs:Nat->Value)
 |add (n:Nat) (xs:Nat->Value)
 |gW (n:Nat) (xs:Nat->Value)
 |gK (n:Nat) (xs:Nat->Value)
 |gy (n:Nat) (xs:Nat->Value)
 |quit (q:Nat)
def Wk.ah:Wk->Nat
 |.load _=>10|.recv .. =>9|.woken _=>9|.dC _=>8|.conv .. =>7|.ot _=>6|.eA .. =>5|.add .. =>4|.gW .. =>3|.gK .. =>2|.gy .. =>1|.quit _=>0
 |.draw .. =>60
 |.ops _ l _=>21+2*l.length
 |.text _ l _ _=>22+2*l.length
 |.jK _ l _ _=>22+2*l.length
def Wk.idle:Wk->Nat
 |.load n=>n|.recv n _=>n|.draw n _ _=>n|.conv n _=>n|.eA n _=>n|.add n _=>n|.gW n _=>n|.gK n _=>n|.gy n _=>n|.quit q=>q
 |_=>0
def Wk.tree:Wk->Option jE
 |.text _ _ _ s=>some s
 |.jK _ _ _ s=>some s
 |_=>none
def Wk.cnt:Wk->Nat
 |.gW .. |.gK .. |.gy .. |.quit _=>0
 |_=>1
def Wk.bQ:Wk->Option Nat
 |.draw _ i _=>some i
 |.ops i _ _=>some i
 |.text i _ _ _=>some i
 |.jK i _ _ _=>some i
 |_=>none
def Wk.parked:Wk->Bool
 |.dC _=>true
 |_=>false
def Wk.rel:Wk->Bool
 |.eA .. |.add .. |.gW .. |.gK .. |.gy .. |.quit _=>true
 |_=>false
structure tH(Goal:Frame->List Frame->World->Prop)(X:PC L)(i:Nat)(l:List Nat)(xs:Nat->Value):Prop where
 jw:jw l=true
 lt:i<X.E.n
 x4:xs 4=X.num i
 d0:l.contains 0=false->xs 9=.chan (some X.M.cB)
 d1:l.contains 1=false->xs 10=X.num i
 d2:l.contains 2=false->xs 11=X.E.y2
 d3:l.contains 3=false->xs 12=X.num i
 d4:l.contains 4=false->l.contains 5=true->∃t,xs 13=.string t/\vL Goal X.E (X.a i) t
 d5:l.contains 5=false->xs 14=.int .u64 (X.a i)
 d6:l.contains 6=false->xs 15=X.gF i
noncomputable def below(X:PC L)(xs:Nat->Value)(l:List Nat):List Frame:=(bu X.p xs l).frame::(bu X.p xs l).callers
noncomputable def jC(X:PC L)(xs:Nat->Value):Goroutine:=parked (gV X.p xs) (sF X.p) (.recv true)
def gR(T:aN)(Goal:Frame->List Frame->World->Prop)(X:PC L)(ow:Nat->Prop)(d:Nat)(g:Goroutine)(v:World):Wk->Prop
 |.load n=>aF Pg false n g (qv X.p)/\d=0
 |.recv n xs=>aF Pg false n g (gV X.p xs)/\d=0
 |.dC xs=>g=jC X xs/\d=0
 |.woken xs=>g= {jC X xs with status:=.running}/\d=0
 |.draw n i xs=>aF Pg false n g (px X.p xs)/\d=0/\i<X.E.n/\xs 4=X.num i
 |.ops i l xs=>g=bu X.p xs l/\d=0/\l≠[]/\tH Goal X i l xs
 |.text i l xs s=>d=0/\tH Goal X i (4::l) xs/\∃Y,Y 7=.int .u64 (X.a i)/\gX L T Goal X.E (qF X.E 5 0 Y) (below X xs (4::l)) ow s g v
 |.jK i l xs s=>d=0/\tH Goal X i (5::l) xs/\∃Y,Y 7=.int .u64 (X.a i)/\gX L T Goal X.E (qF X.E 5 2 Y) (below X xs (5::l)) ow s g v
 |.conv n xs=>aF Pg false n g (vm (cD X.p xs::fU X.p xs) X.M.wg)/\d=0
 |.ot xs=>g=pT (cD X.p xs::fU X.p xs) X.M.wg/\d=0
 |.eA n xs=>aF Pg false n g (oc (cD X.p xs::fU X.p xs) X.M.wg)/\d=0
 |.add n xs=>aF Pg false n g (pr (cD X.p xs::fU X.p xs) X.M.wg)/\d=1
 |.gW n xs=>aF Pg false n g (qA (cD X.p xs) (fU X.p xs) X.M.wg)/\d=1
 |.gK n xs=>aF Pg false n g (qo (cD X.p xs) (fU X.p xs) X.M.wg)/\d=1
 |.gy n xs=>aF Pg false n g (nu (cD X.p xs) (fU X.p xs) X.M.wg)/\d=1
 |.quit q=>QuitsD Pg q d g
inductive Mt where
 |eA (i n:Nat) (xs:Nat->Value)|add (i n:Nat) (xs:Nat->Value)|cv (i n:Nat) (xs:Nat->Value)|rd (i:Nat) (xs:Nat->Value)|en1 (i n:Nat) (xs:Nat->Value)|en (i n k:Nat) (xs:Nat->Value)|go (i n:Nat) (xs:Nat->Value)
 |ld (j n:Nat) (xs:Nat->Value)|sd (j n:Nat) (xs:Nat->Value)|lc (n:Nat) (xs:Nat->Value)|cl (xs:Nat->Value)
 |wd (n:Nat) (xs:Nat->Value)|wl (n:Nat) (xs ys:Nat->Value)|zen (n:Nat) (xs ys:Nat->Value)|zc (n:Nat) (xs ys:Nat->Value)|za (xs ys:Nat->Value)
 |fK (k n:Nat) (xs ys:Nat->Value)|hcv (k n:Nat) (xs ys:Nat->Value)|hwr (k:Nat) (xs ys:Nat->Value)|eC (n:Nat) (xs ys:Nat->Value)|blk (xs ys:Nat->Value)
 |l2 (n:Nat) (xs ys:Nat->Value)|en2 (n:Nat) (xs ys:Nat->Value)|ac (n:Nat) (xs ys:Nat->Value)|aq (xs ys:Nat->Value)|fin (n:Nat) (xs:Nat->Value)
def bk:Nat:=4294967296
def Mt.ah(c:Nat):Mt->Nat
 |.eA i _ _=>2060+100*(4-i)|.add i _ _=>2050+100*(4-i)|.cv i _ _=>2045+100*(4-i)|.rd i _=>2044+100*(4-i)|.en1 i _ _=>2040+100*(4-i)|.en i _ _ _=>2040+100*(4-i)|.go i _ _=>2030+100*(4-i)
 |.ld j _ _=>202+3*(64-j)|.sd j _ _=>201+3*(64-j)|.lc .. =>190|.cl _=>180|.wd .. =>160|.wl .. =>140|.fK k _ _ _=>if k=c then 130 else 141
 |.zen .. =>120|.zc .. =>119|.za .. =>118|.hcv .. =>129|.hwr .. =>128|.eC .. =>127|.blk .. =>127|.l2 .. =>126|.en2 .. =>125|.ac .. =>124|.aq .. =>123|.fin .. =>0
def Mt.idle:Mt->Nat
 |.eA _ n _=>n|.add _ n _=>n|.cv _ n _=>n|.en1 _ n _=>n|.en _ n _ _=>n|.go _ n _=>n|.ld _ n _=>n|.sd _ n _=>n|.lc n _=>n|.wd n _=>n|.wl n _ _=>n|.zen n _ _=>n|.zc n _ _=>n
 |.fK _ n _ _=>n|.hcv _ n _ _=>n|.eC n _ _=>n+1|.l2 n _ _=>n|.en2 n _ _=>n|.ac n _ _=>n|.fin n _=>n
 |_=>0
def Mt.bg(X:PC L):Mt->Nat
 |.eA .. |.add .. |.cv .. |.rd .. |.en1 .. |.en .. |.go .. =>0
 |.ld j _ _=>j
 |.sd j _ _=>j
 |_=>X.E.n
def Mt.on(X:PC L):Mt->Nat
 |.eA i _ _=>i|.add i _ _=>i|.cv i _ _=>i|.rd i _=>i|.en1 i _ _=>i|.en i _ _ _=>i|.go i _ _=>i
 |_=>X.nW
def Mt.shut:Mt->Bool
 |.eA .. |.add .. |.cv .. |.rd .. |.en1 .. |.en .. |.go .. |.ld .. |.sd .. |.lc .. |.cl _=>false
 |_=>true
def Mt.eL:Mt->Nat
 |.cv .. |.rd .. |.en1 .. |.en .. |.go .. =>1
 |_=>0
def Mt.deaf:Mt->Nat
 |.add .. |.cv .. |.rd .. |.en1 .. |.en .. |.wl .. |.zen .. |.fK .. |.hcv .. |.hwr .. |.eC .. |.blk .. |.l2 .. |.en2 .. =>1
 |_=>0
def PC.ds(X:PC L):List Frame:=X.c::X.cs
noncomputable def PC.mc(X:PC L)(i:Nat)(xs:Nat->Value):Frame:=ve X.M xs X.ds X.nW i
noncomputable def PC.wc(X:PC L)(xs:Nat->Value):Frame:=vV X.M xs X.ds X.E.n
def cu(X:PC L)(h:Goroutine):Mt->Prop
 |.eA i n xs=>aF Pg true n h (mo (X.mc i xs) X.ds X.M.wg)/\i<X.nW
 |.add i n xs=>aF Pg true n h (pg (X.mc i xs) X.ds X.M.wg)/\i<X.nW
 |.cv i n xs=>aF Pg true n h (me (X.mc i xs) X.ds X.M.wg)/\i<X.nW
 |.rd i xs=>h=fin (me (X.mc i xs) X.ds X.M.wg) (lA X.M.wg)/\i<X.nW
 |.en1 i n xs=>aF Pg true n h (qR (X.mc i xs) X.ds X.M.wg)/\i<X.nW
 |.en i n k xs=>aF Pg true n h (sw (X.mc i xs) X.ds X.M.wg (k*bk:Nat))/\i<X.nW/\2<=k/\k<=4
 |.go i n xs=>aF Pg true n h (kG X.M xs X.ds X.nW i)/\i<X.nW
 |.ld j n xs=>aF Pg true n h (mO X.M xs X.ds j)/\j<X.E.n
 |.sd j n xs=>aF Pg true n h (jg X.M xs X.ds j)/\j<X.E.n
 |.lc n xs=>aF Pg true n h (qD X.M xs X.ds X.E.n)
 |.cl xs=>h=jk X.M xs X.ds X.E.n
 |.wd n xs=>aF Pg true n h (mq (X.wc xs) X.ds X.M.wg)
 |.wl n xs ys=>aF Pg true n h (pd (X.wc xs) X.ds X.M.wg ys)
 |.zen n xs ys=>aF Pg true n h (qK (X.wc xs) X.ds X.M.wg ys)
 |.zc n xs ys=>aF Pg true n h (lQ (X.wc xs) X.ds X.M.wg ys)
 |.za xs ys=>h=fin (lQ (X.wc xs) X.ds X.M.wg ys) (ptr X.M.wg)
 |.fK k n xs ys=>aF Pg true n h (oo (X.wc xs) X.ds X.M.wg ys (k*bk:Nat))/\1<=k/\k<=4
 |.hcv k n xs ys=>aF Pg true n h (tK (X.wc xs) X.ds X.M.wg ys (k*bk:Nat))/\1<=k/\k<=4
 |.hwr k xs ys=>h=po (X.wc xs) X.ds X.M.wg ys (k*bk:Nat)/\1<=k/\k<=4
 |.eC n xs ys=>aF Pg true n h (jV (X.wc xs) X.ds X.M.wg ys)
 |.blk xs ys=>h= {jV (X.wc xs) X.ds X.M.wg ys with status:=.blocked}
 |.l2 n xs ys=>aF Pg true n h (qn (X.wc xs) X.ds X.M.wg ys)
 |.en2 n xs ys=>aF Pg true n h (pV (X.wc xs) X.ds X.M.wg ys)
 |.ac n xs ys=>aF Pg true n h (mx (X.wc xs) X.ds X.M.wg ys)
 |.aq xs ys=>h=fin (mx (X.wc xs) X.ds X.M.wg ys) (ptr X.M.wg)
 |.fin n xs=>aF Pg true n h (mV X.M xs X.ds X.E.n)
structure PS where
 mt:Mt
 j:Nat
 ws:Nat->Wk
 ow:Nat->Nat->Prop
 q:Nat->Nat
 cC:List Nat
 rN:Nat
 df:List Nat
 st:Nat
 sm:Nat
def PS.c(s:PS):Nat:=sumTo s.j λk=>(s.ws k).cnt
def PS.phi(X:PC L)(s:PS):Nat:=s.mt.ah s.c+sumTo s.j (λk=>(s.ws k).ah)+12*s.c+60*(X.E.n-s.rN)
def PS.jL(s:PS):Nat->Option jE:=λk=>if k<s.j then (s.ws k).tree else none
def PS.tC(X:PC L)(s:PS):Nat:=s.mt.idle+2*sumTo s.j (λk=>(s.ws k).idle)+2*sumTo X.n0 s.q
structure Gs(T:aN)(Goal:Frame->List Frame->World->Prop)(X:PC L)(s:PS)(gs:Array Goroutine)(v:World)(t:Trace):Prop where
 size:gs.size=X.n0+s.j
 main: ∃h,gs[0]?=some h/\cu X h s.mt
 work:∀k,k<s.j->∃g,gs[X.n0+k]?=some g/\gR T Goal X (s.ow k) (Deaf t (X.n0+k)) g v (s.ws k)
 kj:∀i g,0<i->i<X.n0->gs[i]?=some g->QuitsD Pg (s.q i) (Deaf t i) g
 above:∀i,gs.size<=i->Deaf t i=0
structure Wd(X:PC L)(s:PS)(v:World):Prop where
 old:ru X.E v
 size:X.M.wg<v.heap.size
 bT:v.heap[X.M.bT]?=some (.cells #[X.M.ij] 79)
 bN:v.heap[X.M.bN]?=some (.cells #[.chan (some X.M.cN)] 178)
 bB:v.heap[X.M.bB]?=some (.cells #[.chan (some X.M.cB)] 179)
 cN:v.heap[X.M.cN]?=some (.chan X.E.n (s.cC.map X.num).toArray s.mt.shut (s.mt.bg X) s.rN false)
 cB: ∃sB,v.heap[X.M.cB]?=some (.chan X.E.n (s.df.map X.gF).toArray false sB 0 false)
 wg:v.heap[X.M.wg]?=some (.cells #[.int .u64 s.st,.int .u32 s.sm] 188)
 tape:v.tape=X.E.v0.tape
 os:v.os=X.E.v0.os
 output:v.output=X.E.v0.output
structure Ac(X:PC L)(s:PS):Prop where
 on:s.j=s.mt.on X
 bg:s.mt.bg X<=X.E.n
 kO:s.rN+s.cC.length=s.mt.bg X
 cover:∀i,i<s.mt.bg X->i∈s.cC\/i∈s.df\/∃k,k<s.j/\(s.ws k).bQ=some i
 count:s.cC.length+sumTo s.j (λk=>if (s.ws k).bQ.isSome then 1 else 0)+s.df.length<=s.mt.bg X
 eJ:∀i∈s.cC,i<X.E.n
 okB:∀i∈s.df,i<X.E.n
 dC:∀k,k<s.j->(s.ws k).parked=true->s.cC= []/\s.mt.shut=false
 gone:∀k,k<s.j->(s.ws k).ah<=7->s.mt.shut=true/\s.cC= []
def kz:Mt->Bool
 |.fK .. |.wl .. |.wd .. |.lc .. |.cl _|.ld .. |.sd .. |.eA .. |.add .. |.cv .. |.rd .. |.en1 .. |.en .. |.go .. =>true
 |_=>false
def jx:Mt->Bool
 |.hcv .. |.hwr .. |.eC .. |.blk .. =>true
 |_=>false
def mi:Mt->Bool
 |.blk .. =>true
 |_=>false
def qd(s:PS):Prop:=∀k,k<s.j->(s.ws k).ah=0\/4<=(s.ws k).ah
def o8(s:PS):Prop:=∀k,k<s.j->(s.ws k).ah=0
inductive Wg (s:PS):Prop
 |opn:kz s.mt=true->qd s->s.st=(s.c+s.mt.eL)*bk->s.sm=0->(∀k n xs ys,s.mt=.fK k n xs ys->s.c<=k)->Wg s
 |dT:jx s.mt=true->qd s->1<=s.c->s.st=s.c*bk+1->s.sm=0->Wg s
 |last (k:Nat):jx s.mt=true->k<s.j->1<=(s.ws k).ah->(s.ws k).ah<=3->(∀i,i<s.j->i≠k->(s.ws i).ah=0)->s.st=(if (s.ws k).ah=1 then 0 else 1)->s.sm=0->Wg s
 |fB:jx s.mt=true->mi s.mt=false->o8 s->s.st=0->s.sm=1->Wg s
 |done:kz s.mt=false->jx s.mt=false->o8 s->s.st=0->s.sm=0->Wg s
def iG(X:PC L)(s:PS):oB where
 ro b:=(b<X.E.v0.heap.size/\¬X.Sh b)\/b=X.M.bT\/b=X.M.bN\/b=X.M.bB
 ow k b:=∃i,i<s.j/\k=X.n0+i/\s.ow i b
 qu b:=b=X.M.wg\/b=X.M.cN\/b=X.M.cB
def fJ(X:PC L)(s:PS)(k:Nat):Prop:=X.n0<=k/\k<X.n0+s.j
abbrev bH(X:PC L):Addr:=⟨X.M.wg,0,none⟩
structure Tr(X:PC L)(s:PS)(v:World)(t:Trace):Prop where
 tp:TP (iG X s) X.Sh (λk=>k=0\/fJ X s k) (fJ X s) v.heap.size t
 own:∀i b,i<s.j->s.ow i b->X.M.wg<b/\b<v.heap.size
 apart:∀i i' b,i<s.j->i'<s.j->s.ow i b->s.ow i' b->i=i'
 rel:∀k,k<s.j->(s.ws k).rel=true->∃r,RelBy (bH X) t (X.n0+k) r
 norel:NoRelease (bH X) t
 d0:Deaf t 0=s.mt.deaf
 acq:∀n xs,s.mt=.fin n xs->∃q,t.act? q=some (.mark (.acquire (bH X)))/\t.g? q=some 0/\t.heard q/\∀k,k<s.j->∃r,RelBy (bH X) t (X.n0+k) r/\r<q
structure PI(T:aN)(Goal:Frame->List Frame->World->Prop)(X:PC L)(s:PS)(gs:Array Goroutine)(v:World)(t:Trace):Prop where
 gs:Gs T Goal X s gs v t
 wd:Wd X s v
 ac:Ac X s
 wg:Wg s
 tr:Tr X s v t
end
end
section
open Go.Conc
open Go.ConcN (upd upd_same upd_ne sumTo sumTo_upd sumTo_congr RelBy)
theorem aF.run{n:Nat}(h:aF P m n g g1)(h1:g1.status=.running):g.status=.running:=by
 cases h with
 |refl=>exact h1
 |step hs _ _=>exact hs
theorem aF.dQ{n:Nat}(h:aF P m n g g1):(n=0/\g=g1)\/∃k g',n=k+1/\(∀w,stepG P m g w=.go g' w #[])/\aF P m k g' g1:=by
 cases h with
 |refl=>exact .inl ⟨rfl,rfl⟩
 |step _ hs h=>exact .inr ⟨_,_,rfl,hs,h⟩
section
variable {L:aA}{T:aN}{Goal:Frame->List Frame->World->Prop}{X:PC L}
theorem gR.lH{v2:World}{σ:Wk}(h:gR T Goal X ow d g v σ)(hs:v.heap.size<=v2.heap.size)(ho:∀t,(∃r,X.E.ρ r t)\/ow t->v2.heap[t]?=v.heap[t]?):gR T Goal X ow d g v2 σ:=by
 cases σ with
 |text i l xs s=>obtain⟨h1,h2,Y,h3,h4⟩:=h;exact⟨h1,h2,Y,h3,h4.lH hs ho⟩
 |jK i l xs s=>obtain⟨h1,h2,Y,h3,h4⟩:=h;exact⟨h1,h2,Y,h3,h4.lH hs ho⟩
 |_=>exact h
theorem BF(p:Pl)(xs:Nat->Value)(l:List Nat):(bu p xs l).status=.running:=by kernel_rfl
theorem gR.status{σ:Wk}(h:gR T Goal X ow d g v σ):(σ.parked=false/\(g.status=.running\/g.status=.finished))\/(∃xs,σ=.dC xs/\g=jC X xs):=by
 cases σ with
 |load n=>exact .inl ⟨rfl,.inl (h.1.run (xf _).2.1)⟩
 |recv n xs=>exact .inl ⟨rfl,.inl (h.1.run (yw _ _).2.1)⟩
 |dC xs=>exact .inr ⟨xs,rfl,h.1⟩
 |woken xs=>exact .inl ⟨rfl,.inl (by rw[h.1])⟩
 |draw n i xs=>exact .inl ⟨rfl,.inl (h.1.run (Gz _ _))⟩
 |ops i l xs=>exact .inl ⟨rfl,.inl (by rw[h.1];exact BF _ _ _)⟩
 |text i l xs s=>obtain⟨_,_,Y,_,h4⟩:=h;exact .inl ⟨rfl,.inl h4.running⟩
 |jK i l xs s=>obtain⟨_,_,Y,_,h4⟩:=h;exact .inl ⟨rfl,.inl h4.running⟩
 |conv n xs=>exact .inl ⟨rfl,.inl (h.1.run (wV _ _).2.1)⟩
 |ot xs=>exact .inl ⟨rfl,.inl (by rw[h.1];exact FI _ _)⟩
 |eA n xs=>exact .inl ⟨rfl,.inl (h.1.run (Av _ _))⟩
 |add n xs=>exact .inl ⟨rfl,.inl (h.1.run (zm _ _).2.1)⟩
 |gW n xs=>exact .inl ⟨rfl,.inl (h.1.run (xD _ _ _).2.1)⟩
 |gK n xs=>exact .inl ⟨rfl,.inl (h.1.run (wH _ _ _).2.1)⟩
 |gy n xs=>exact .inl ⟨rfl,.inl (h.1.run (xd _ _ _).2.1)⟩
 |quit q=>exact .inl ⟨rfl,(show QuitsD Pg q d g from h).status⟩
theorem re(X:PC L):sF X.p=#[rcase X.M.cN (.int .i64 0)]:=rfl
theorem gR.woken{σ:Wk}(h:gR T Goal X ow d g v σ)(a a':Goroutine)(hc:σ.parked=true->∃cap buf s r tm,v1.heap[X.M.cN]?=some (.chan cap buf false s r tm)):Go.Conc.woken Pg a a' v1 g=g:=by
 rcases h.status with⟨_,hs⟩|⟨xs,rfl,rfl⟩
 ·unfold Go.Conc.woken;split
  ·exact again_running _ hs
  ·rfl
 ·obtain⟨cap,buf,s,r,tm,hc⟩:=hc rfl;unfold jC;rw[re];exact woken_recv_open _ _ hc
theorem JS(c:Frame)(cs:List Frame)(wg:Nat)(h:2<=k/\k<=4):(sw c cs wg (k*bk:Nat)).status=.running:=by
 rcases (show k=2\/k=3\/k=4 by omega) with rfl|rfl|rfl<;>kernel_rfl
theorem wC(c:Frame)(cs:List Frame)(wg:Nat)(ys:Nat->Value)(h:1<=k/\k<=4):aI Pg true (oo c cs wg ys (k*bk:Nat)):=by
 rcases (show k=1\/k=2\/k=3\/k=4 by omega) with rfl|rfl|rfl|rfl<;>exact⟨λw=>by kernel_rfl,by kernel_rfl,by kernel_rfl⟩
theorem A9(c:Frame)(cs:List Frame)(wg:Nat)(ys:Nat->Value)(h:1<=k/\k<=4):aI Pg true (tK c cs wg ys (k*bk:Nat)):=by
 rcases (show k=1\/k=2\/k=3\/k=4 by omega) with rfl|rfl|rfl|rfl<;>exact⟨λw=>by kernel_rfl,by kernel_rfl,by kernel_rfl⟩
theorem O8(c:Frame)(cs:List Frame)(wg:Nat)(ys:Nat->Value)(h:1<=k/\k<=4):(po c cs wg ys (k*bk:Nat)).status=.running:=by
 rcases (show k=1\/k=2\/k=3\/k=4 by omega) with rfl|rfl|rfl|rfl<;>kernel_rfl
theorem aL.nW(O:aL T Goal X):X.nW=1\/X.nW=4:=O.nw.imp (·.2) (·.2)
theorem cu.status(O:aL T Goal X){mt:Mt}(hm:cu X h mt):(mi mt=false/\h.status=.running)\/∃xs ys,mt=.blk xs ys/\h= {jV (X.wc xs) X.ds X.M.wg ys with status:=.blocked}:=by
 cases mt with
 |eA i n xs=>exact .inl ⟨rfl,hm.1.run (PJ _ _ _)⟩
 |add i n xs=>exact .inl ⟨rfl,hm.1.run (BI _ _ _).2.1⟩
 |cv i n xs=>exact .inl ⟨rfl,hm.1.run (Cl _ _ _).2.1⟩
 |rd i xs=>exact .inl ⟨rfl,by rw[hm.1];exact Ji _ _ _⟩
 |en1 i n xs=>exact .inl ⟨rfl,hm.1.run (Jj _ _ _)⟩
 |en i n k xs=>exact .inl ⟨rfl,hm.1.run (JS _ _ _ hm.2.2)⟩
 |go i n xs=>exact .inl ⟨rfl,hm.1.run (RV _ _ _ ⟨O.nW,hm.2⟩)⟩
 |ld j n xs=>exact .inl ⟨rfl,hm.1.run (Em _ _ _ _).2.1⟩
 |sd j n xs=>exact .inl ⟨rfl,hm.1.run (Da _ _ _ _).2.1⟩
 |lc n xs=>exact .inl ⟨rfl,aF.run hm (Ev _ _ _ _).2.1⟩
 |cl xs=>exact .inl ⟨rfl,by rw[show h=_ from hm];exact (Ec _ _ _ _).2.1⟩
 |wd n xs=>exact .inl ⟨rfl,aF.run hm (RN _ _ _)⟩
 |wl n xs ys=>exact .inl ⟨rfl,aF.run hm (GX _ _ _ _).2.1⟩
 |zen n xs ys=>exact .inl ⟨rfl,aF.run hm (Vl _ _ _ _)⟩
 |zc n xs ys=>exact .inl ⟨rfl,aF.run hm (AB _ _ _ _).2.1⟩
 |za xs ys=>exact .inl ⟨rfl,by rw[show h=_ from hm];exact VF _ _ _ _⟩
 |fK k n xs ys=>exact .inl ⟨rfl,hm.1.run (wC _ _ _ _ hm.2).2.1⟩
 |hcv k n xs ys=>exact .inl ⟨rfl,hm.1.run (A9 _ _ _ _ hm.2).2.1⟩
 |hwr k xs ys=>exact .inl ⟨rfl,by rw[hm.1];exact O8 _ _ _ _ hm.2⟩
 |eC n xs ys=>exact .inl ⟨rfl,aF.run hm (zt _ _ _ _).2.1⟩
 |blk xs ys=>exact .inr ⟨xs,ys,rfl,hm⟩
 |l2 n xs ys=>exact .inl ⟨rfl,aF.run hm (Et _ _ _ _).2.1⟩
 |en2 n xs ys=>exact .inl ⟨rfl,aF.run hm (Jv _ _ _ _)⟩
 |ac n xs ys=>exact .inl ⟨rfl,aF.run hm (He _ _ _ _).2.1⟩
 |aq xs ys=>exact .inl ⟨rfl,by rw[show h=_ from hm];exact I8 _ _ _ _⟩
 |fin n xs=>exact .inl ⟨rfl,aF.run hm (AJ _ _ _ _).2.1⟩
theorem cu.woken(O:aL T Goal X){mt:Mt}(hm:cu X h mt)(a a':Goroutine)(v1:World): ∃mt',cu X (Go.Conc.woken Pg a a' v1 h) mt'/\(mt'=mt\/∃xs ys,mt=.blk xs ys/\mt'=.eC 0 xs ys)/\(mayWake Pg a=true->a'.status=.running->mi mt'=false):=by
 rcases hm.status O with⟨hb,hs⟩|⟨xs,ys,rfl,rfl⟩
 ·exact⟨mt,by rw[woken_run hs];exact hm,.inl rfl,λ_ _=>hb⟩
 ·unfold Go.Conc.woken;split
  ·refine⟨.eC 0 xs ys,?_,.inr ⟨xs,ys,rfl,rfl⟩,λ_ _=>rfl⟩;show aF Pg true 0 _ _;have e:Goroutine.again v1 {jV (X.wc xs) X.ds X.M.wg ys with status:=.blocked}=jV (X.wc xs) X.ds X.M.wg ys:=rfl;rw[e];exact .refl _
  ·rename_i hw;refine⟨_,hm,.inl rfl,λh1 h2=>absurd ?_ hw⟩;rw[h1,h2];rfl
theorem ofEvents_g{g:Nat}{op:MemOp}(h:op∈MemOp.ofEvents g fn pos es):op.g=g:=by
 obtain⟨e,_,rfl⟩:=Go.Conc.mem_ofEvents h;rfl
theorem Gs.Kf{s s':PS}(H:Gs T Goal X s gs v t)(O:aL T Goal X){h1:Goroutine}(hM:cu X h1 s'.mt)(hs:v.heap.size<=v1.heap.size)(ho:∀b,((∃r,X.E.ρ r b)\/∃k,k<s.j/\s.ow k b)->v1.heap[b]?=v.heap[b]?)(hpark:∀k,k<s.j->(s.ws k).parked=true->∃cap buf a b tm,v1.heap[X.M.cN]?=some (.chan cap buf false a b tm))(e1:s'.j=s.j)(e2:s'.ws=s.ws)(e3:s'.ow=s.ow)(e4:s'.q=s.q)(fn:FuncId)(pos:String):
  Gs T Goal X s' ((gs.map (Go.Conc.woken Pg h h1 v1)).setIfInBounds 0 h1) v1 (t++MemOp.ofEvents 0 fn pos es):=by
 have hsz:0<gs.size:=by rw[H.size];have:=O.n0;omega
 have hdf:∀i,i≠0->Deaf (t++MemOp.ofEvents 0 fn pos es) i=Deaf t i:=λi hi=>Deaf_other t (Xl hi) _ λop ag=>ofEvents_g ag;refine⟨by simp[H.size,e1],⟨h1,by simp[hsz],hM⟩,λk hk=>?_,λi g hi hn hg=>?_,λi hi=>?_⟩
 ·rw[e1]at hk;obtain⟨g,hg,hw⟩:=H.work k hk;have hne:0≠X.n0+k:=by have:=O.n0;omega
  refine⟨g,?_,?_⟩
  ·rw[Array.getElem?_setIfInBounds_ne hne,Array.getElem?_map,hg];simp only[XL];rw[hw.woken h h1 (hpark k hk)]
  ·rw[hdf _ (by omega),e2,e3];exact hw.lH hs λb hb=>ho b (hb.imp id λx=>⟨k,hk,x⟩)
 ·have hne:0≠i:=by omega
  rw[Array.getElem?_setIfInBounds_ne hne,Array.getElem?_map]at hg;obtain⟨y,hy,rfl⟩:=Yf.1 hg;have hq:=H.kj i y hi hn hy;rw[woken_quitsD hq,hdf _ (by omega),e4];exact hq
 ·rw[hdf i (by simp at hi;omega)];exact H.above i (by simpa using hi)
theorem Gs.fE{s s':PS}(H:Gs T Goal X s gs v t)(O:aL T Goal X)(hk:k<s.j)(hW:gR T Goal X (s'.ow k) (deafBehind (Deaf t (X.n0+k)) es) g1 v1 (s'.ws k))(hs:v.heap.size<=v1.heap.size)(ho:∀b,((∃r,X.E.ρ r b)\/∃i,i<s.j/\i≠k/\s.ow i b)->v1.heap[b]?=v.heap[b]?)(hpark:∀i,i<s.j->(s.ws i).parked=true->∃cap buf a b tm,v1.heap[X.M.cN]?=some (.chan cap buf false a b tm))(hm:∀h,gs[0]?=some h->cu X h s.mt->cu X (Go.Conc.woken Pg g g1 v1 h) s'.mt)(e1:s'.j=s.j)(e2:∀i,i≠k->s'.ws i=s.ws i)(e3:∀i,i≠k->s'.ow i=s.ow i)(e4:s'.q=s.q):
  Gs T Goal X s' ((gs.map (Go.Conc.woken Pg g g1 v1)).setIfInBounds (X.n0+k) g1) v1 (t++MemOp.ofEvents (X.n0+k) fn pos es):=by
 have hn0:=O.n0;have hsz:X.n0+k<gs.size:=by rw[H.size];omega
 have hdf:∀i,i≠X.n0+k->Deaf (t++MemOp.ofEvents (X.n0+k) fn pos es) i=Deaf t i:=λi hi=>Deaf_other t (Xl hi) _ λop ag=>ofEvents_g ag;obtain⟨h,h0,hM⟩:=H.main;refine⟨by simp[H.size,e1],⟨_,?_,hm h h0 hM⟩,λi hi=>?_,λi x hi hn hg=>?_,λi hi=>?_⟩
 ·rw[Array.getElem?_setIfInBounds_ne (by omega),Array.getElem?_map,h0];rfl
 ·rw[e1]at hi;by_cases hik:i=k
  ·subst hik;refine⟨g1,by rw[Array.getElem?_setIfInBounds_self_of_lt (by simpa using hsz)],?_⟩;rw[Deaf_own];exact hW
  ·obtain⟨x,hx,hw⟩:=H.work i hi;refine⟨x,?_,?_⟩
   ·rw[Array.getElem?_setIfInBounds_ne (by omega),Array.getElem?_map,hx];simp only[XL];rw[hw.woken g g1 (hpark i hi)]
   ·rw[hdf _ (by omega),e2 i hik,e3 i hik];exact hw.lH hs λb hb=>ho b (hb.imp id λx=>⟨i,hi,hik,x⟩)
 ·rw[Array.getElem?_setIfInBounds_ne (by omega),Array.getElem?_map]at hg;obtain⟨y,hy,rfl⟩:=Yf.1 hg;have hq:=H.kj i y hi hn hy;rw[woken_quitsD hq,hdf _ (by omega),e4];exact hq
 ·simp only[XB,Array.size_map]at hi;rw[hdf i (by rw[H.size]at hi;omega)];exact H.above i hi
end
end
section
open Go.Conc
open Go.ConcN (upd upd_same upd_ne sumTo sumTo_upd sumTo_congr RelBy)
section
variable {L:aA}{T:aN}{Goal:Frame->List Frame->World->Prop}{X:PC L}
theorem Iw(O:aL T Goal X){s:PS}(h1:∀i b,i<s.j->s.ow i b->X.M.wg<b/\b<v.heap.size)(h2:∀i i' b,i<s.j->i'<s.j->s.ow i b->s.ow i' b->i=i'):zV (iG X s):=by
 have e1:=O.bT;have e2:=O.cN;have e3:=O.bN;have e4:=O.cB;have e5:=O.bB;have e6:=O.wg;refine⟨?_,?_,?_,?_⟩
 ·rintro k k' b ⟨i,hi,rfl,hb⟩ ⟨i',hi',rfl,hb'⟩;rw[h2 i i' b hi hi' hb hb']
 ·rintro k b ⟨i,hi,rfl,hb⟩ hr
  have:=(h1 i b hi hb).1;rcases hr with⟨hr,_⟩|hr|hr|hr<;>omega
 ·rintro k b ⟨i,hi,rfl,hb⟩ hq
  have:=(h1 i b hi hb).1;rcases hq with hq|hq|hq<;>omega
 ·intro b hr hq;rcases hr with⟨hr,_⟩|hr|hr|hr<;>rcases hq with hq|hq|hq<;>omega
theorem Tr.step{s s':PS}{v v1:World}{t:Trace}(H:Tr X s v t)(O:aL T Goal X){g:Nat}(hg:g=0\/fJ X s g){es:Array Event}{fn:FuncId}{pos:String}(hj:s'.j=s.j)(hv:v.heap.size<=v1.heap.size)(how:∀i b,i<s.j->s'.ow i b->s.ow i b\/(v.heap.size<=b/\b<v1.heap.size/\g=X.n0+i))(hwg:X.M.wg<v.heap.size)(hok:∀e∈es,∀a,(MemAct.ofEvent e).touch?=some a->a.loc.isMemory=true/\mL (iG X s') g a)(hlow:∀e∈es,(MemAct.ofEvent e).low v1.heap.size)(hrel:∀k,k<s.j->(s'.ws k).rel=true->∃r,RelBy (bH X) (t++MemOp.ofEvents g fn pos es) (X.n0+k) r)(bA:∀e∈es,e.loc≠.mark (.release (bH X)))(hd:(if g=0 then deafBehind (Deaf t 0) es else Deaf t 0)=s'.mt.deaf)(hacq:∀n xs,s'.mt=.fin n xs->∃q,(t++MemOp.ofEvents g fn pos es).act? q=some (.mark (.acquire (bH X)))/\(t++MemOp.ofEvents g fn pos es).g? q=some 0/\(t++MemOp.ofEvents g fn pos es).heard q/\∀k,k<s.j->∃r,RelBy (bH X) (t++MemOp.ofEvents g fn pos es) (X.n0+k) r/\r<q):
  Tr X s' v1 (t++MemOp.ofEvents g fn pos es):=by
 have own':∀i b,i<s'.j->s'.ow i b->X.M.wg<b/\b<v1.heap.size:=λi b hi hb=>by
  rw[hj]at hi;rcases how i b hi hb with hb|⟨h1,h2,_⟩
  ·have:=H.own i b hi hb;omega
  ·omega
 have apart':∀i i' b,i<s'.j->i'<s'.j->s'.ow i b->s'.ow i' b->i=i':=λi i' b hi hi' hb hb'=>by
  rw[hj]at hi hi';rcases how i b hi hb with hb|⟨h1,h2,h3⟩<;>rcases how i' b hi' hb' with hb'|⟨h1',h2',h3'⟩
  ·exact H.apart i i' b hi hi' hb hb'
  ·have:=(H.own i b hi hb).2;omega
  ·have:=(H.own i' b hi' hb').2;omega
  ·omega
 have hlive:(λk=>k=0\/fJ X s' k)=(λk=>k=0\/fJ X s k):=by funext k;simp only[fJ,hj]
 have hwk:fJ X s'=fJ X s:=by funext k;simp only[fJ,hj]
 refine⟨?_,own',apart',λk hk=>hrel k (hj▸hk),?_,?_,λn xs e=>hj▸hacq n xs e⟩
 ·rw[hlive,hwk];have h1:TP (iG X s') X.Sh (λk=>k=0\/fJ X s k) (fJ X s) v1.heap.size t:=by
   refine H.tp.grow hv (λk b=>?_) (λb hb=>.inl hb) (λb hb=>.inl hb) (λb hb=>hb);rintro⟨i,hi,rfl,hb⟩;rw[hj]at hi;rcases how i b hi hb with hb|⟨h1,_⟩
   ·exact .inl ⟨i,hi,rfl,hb⟩
   ·exact .inr h1
  refine h1.app (Iw O (v:=v1) own' apart') (k:=g) hg hg (λop ag=>ofEvents_g ag) (λop ag a ha=>?_) (λop ag=>?_)
  ·obtain⟨e,he,rfl⟩:=Go.Conc.mem_ofEvents ag;exact hok e he a ha
  ·obtain⟨e,he,rfl⟩:=Go.Conc.mem_ofEvents ag;exact hlow e he
 ·refine H.norel.app λop ag=>?_;obtain⟨e,he,rfl⟩:=Go.Conc.mem_ofEvents ag;intro e2
  have:=bA e he;obtain⟨loc,wr,sy⟩:=e;simp only at e2;cases loc with
  |mark m=>simp only[MemAct.ofEvent,MemAct.mark.injEq]at e2;exact this (by rw[e2])
  |cell a=>simp[MemAct.ofEvent]at e2
  |obj r=>cases wr<;>cases sy<;>simp[MemAct.ofEvent]at e2
  |output=>simp[MemAct.ofEvent]at e2
  |goroutines=>simp[MemAct.ofEvent]at e2
 ·by_cases h0:g=0
  ·subst h0;rw[Deaf_own];simpa using hd
  ·rw[Deaf_other t h0 _ λop ag=>ofEvents_g ag];simpa[h0] using hd
theorem yI{s:PS}(H:Tr X s v t){g:Nat}{u:Trace}(hu:∀op∈u,op.g=g)(hk:k<s.j)(hne:g≠X.n0+k)(hr:(s.ws k).rel=true): ∃r,RelBy (bH X) (t++u) (X.n0+k) r:=by
 obtain⟨r,hr⟩:=H.rel k hk hr;exact⟨r,RelBy.appOther hr hu hne⟩
def pf(Goal:Frame->List Frame->World->Prop)(X:PC L)(s' s:PS):Prop:=
 s'.phi X<s.phi X\/(s'.phi X=s.phi X/\nE (ny Qg Goal) 4 s'.jL s.jL)\/(s'.phi X=s.phi X/\s'.jL=s.jL/\s'.tC X<s.tC X)
structure tG(σ σ':Wk):Prop where
 ah:σ'.ah=σ.ah
 cnt:σ'.cnt=σ.cnt
 tree:σ'.tree=σ.tree
 bQ:σ'.bQ=σ.bQ
 parked:σ'.parked=σ.parked
 rel:σ'.rel=σ.rel
def jf(mt mt':Mt):Prop:=mt'=mt\/∃xs ys,mt=.blk xs ys/\mt'=.eC 0 xs ys
theorem jf.facts{mt mt':Mt}(h:jf mt mt'):(∀c,mt'.ah c=mt.ah c)/\mt'.bg X=mt.bg X/\mt'.on X=mt.on X/\mt'.shut=mt.shut/\mt'.eL=mt.eL/\mt'.deaf=mt.deaf/\kz mt'=kz mt/\jx mt'=jx mt/\(mi mt=false->mi mt'=false)/\mt'.idle<=mt.idle+1/\(∀k n xs ys,mt'=.fK k n xs ys->mt=.fK k n xs ys)/\∀n xs,mt'=.fin n xs->mt=.fin n xs:=by
 rcases h with rfl|⟨xs,ys,rfl,rfl⟩
 ·exact⟨λ_=>rfl,rfl,rfl,rfl,rfl,rfl,rfl,rfl,id,Nat.le_succ _,λ_ _ _ _=>id,λ_ _=>id⟩
 ·refine⟨λ_=>rfl,rfl,rfl,rfl,rfl,rfl,rfl,rfl,λ_=>rfl,by simp[Mt.idle],λ_ _ _ _ h=>(by cases h),λ_ _ h=>(by cases h)⟩
def PS.wk(s:PS)(mt:Mt)(k:Nat)(σ:Wk)(ow:Nat->Prop):PS:={s with mt:=mt,ws:=upd s.ws k σ,ow:=upd s.ow k ow}
theorem PS.fy(s:PS)(mt:Mt)(k:Nat)(σ:Wk)(ow:Nat->Prop):(s.wk mt k σ ow).ws k=σ/\(s.wk mt k σ ow).ow k=ow:=⟨upd_same ..,upd_same ..⟩
theorem PS.hZ(s:PS)(mt:Mt)(σ:Wk)(ow:Nat->Prop)(h:i≠k):(s.wk mt k σ ow).ws i=s.ws i/\(s.wk mt k σ ow).ow i=s.ow i:=⟨upd_ne _ _ h,upd_ne _ _ h⟩
theorem PS.oY(s:PS)(mt:Mt)(hk:k<s.j)(σ:Wk)(ow:Nat->Prop)(φ:Wk->Nat):sumTo s.j (λi=>φ ((s.wk mt k σ ow).ws i))+φ (s.ws k)=sumTo s.j (λi=>φ (s.ws i))+φ σ:=sumTo_upd s.ws σ φ hk
theorem PS.mI(s:PS)(mt:Mt)(hk:k<s.j)(σ:Wk)(ow:Nat->Prop):(s.wk mt k σ ow).c+(s.ws k).cnt=s.c+σ.cnt:=sumTo_upd s.ws σ Wk.cnt hk
theorem PS.GF(s:PS)(mt:Mt)(σ:Wk)(ow:Nat->Prop)(h:σ.tree=(s.ws k).tree):(s.wk mt k σ ow).jL=s.jL:=by
 funext i;unfold PS.jL;by_cases hi:i=k
 ·subst hi;rw[(s.fy mt i σ ow).1,h];rfl
 ·rw[(s.hZ mt σ ow hi).1];rfl
theorem Ac.rF{s:PS}{mt':Mt}(H:Ac X s)(hm:jf s.mt mt'){σ:Wk}(hl:tG (s.ws k) σ)(ow:Nat->Prop):Ac X (s.wk mt' k σ ow):=by
 obtain⟨_,f2,f3,f4,_⟩:=hm.facts (X:=X);have hws:∀i,((s.wk mt' k σ ow).ws i).bQ=(s.ws i).bQ/\((s.wk mt' k σ ow).ws i).parked=(s.ws i).parked/\((s.wk mt' k σ ow).ws i).ah=(s.ws i).ah:=λi=>by
  by_cases hi:i=k
  ·subst hi;rw[(s.fy mt' i σ ow).1];exact⟨hl.bQ,hl.parked,hl.ah⟩
  ·rw[(s.hZ mt' σ ow hi).1];exact⟨rfl,rfl,rfl⟩
 refine⟨H.on.trans f3.symm,f2▸H.bg,(H.kO).trans f2.symm,λi hi=>?_,?_,H.eJ,H.okB,λi hi hp=>?_,λi hi hr=>?_⟩
 ·rcases H.cover i (f2▸hi) with h|h|⟨k',h1,h2⟩
  ·exact .inl h
  ·exact .inr (.inl h)
  ·exact .inr (.inr ⟨k',h1,(hws k').1.trans h2⟩)
 ·have e:sumTo s.j (λi=>if ((s.wk mt' k σ ow).ws i).bQ.isSome then 1 else 0)=sumTo s.j (λi=>if (s.ws i).bQ.isSome then 1 else 0):=sumTo_congr λi _=>by rw[(hws i).1]
  show s.cC.length+sumTo s.j (λi=>if ((s.wk mt' k σ ow).ws i).bQ.isSome then 1 else 0)+s.df.length<=mt'.bg X;rw[e,f2];exact H.count
 ·rw[(hws i).2.1]at hp
  have:=H.dC i hi hp;exact⟨this.1,f4.trans this.2⟩
 ·rw[(hws i).2.2]at hr
  have:=H.gone i hi hr;exact⟨f4.trans this.1,this.2⟩
theorem Wg.rF(X:PC L){s:PS}{mt':Mt}(H:Wg s)(hm:jf s.mt mt')(hk:k<s.j){σ:Wk}(hl:tG (s.ws k) σ)(ow:Nat->Prop):Wg (s.wk mt' k σ ow):=by
 obtain⟨_,_,_,_,f5,_,f7,f8,f9,_,f11,_⟩:=hm.facts (X:=X);have hc:(s.wk mt' k σ ow).c=s.c:=by have:=s.mI mt' hk σ ow;rw[hl.cnt]at this;omega
 have hr:∀i,((s.wk mt' k σ ow).ws i).ah=(s.ws i).ah:=λi=>by
  by_cases hi:i=k
  ·subst hi;rw[(s.fy mt' i σ ow).1];exact hl.ah
  ·rw[(s.hZ mt' σ ow hi).1]
 cases H with
 |opn h1 h2 h3 h4 h5=>exact .opn (f7.trans h1) (λi hi=>by rw[hr i];exact h2 i hi) (by rw[hc];show s.st=(s.c+mt'.eL)*bk;rw[f5];exact h3) h4 (λk n xs ys e=>by rw[hc];exact h5 k n xs ys (f11 k n xs ys e))
 |dT h1 h2 h3 h4 h5=>exact .dT (f8.trans h1) (λi hi=>by rw[hr i];exact h2 i hi) (by rw[hc];exact h3) (by rw[hc];exact h4) h5
 |last q h1 h2 h3 h4 h5 h6 h7=>exact .last q (f8.trans h1) h2 (by rw[hr q];exact h3) (by rw[hr q];exact h4) (λi hi hq=>by rw[hr i];exact h5 i hi hq) (by rw[hr q];exact h6) h7
 |fB h1 h2 h3 h4 h5=>exact .fB (f8.trans h1) (f9 h2) (λi hi=>by rw[hr i];exact h3 i hi) h4 h5
 |done h1 h2 h3 h4 h5=>exact .done (f7.trans h1) (f8.trans h2) (λi hi=>by rw[hr i];exact h3 i hi) h4 h5
theorem Wd.same{s s':PS}(H:Wd X s v)(e1:s'.cC=s.cC)(e2:s'.mt.shut=s.mt.shut)(e3:s'.mt.bg X=s.mt.bg X)(e4:s'.rN=s.rN)(e5:s'.df=s.df)(e6:s'.st=s.st)(e7:s'.sm=s.sm):Wd X s' v:=
 ⟨H.old,H.size,H.bT,H.bN,H.bB,by rw[e1,e2,e3,e4];exact H.cN,by rw[e5];exact H.cB,by rw[e6,e7];exact H.wg,H.tape,H.os,H.output⟩
theorem Wd.at{s:PS}(H:Wd X s v)(d:Nat):Wd X s (v.at d):=⟨H.old,H.size,H.bT,H.bN,H.bB,H.cN,H.cB,H.wg,H.tape,H.os,H.output⟩
theorem Tr.at{s:PS}(H:Tr X s v t)(d:Nat):Tr X s (v.at d) t:=⟨H.tp,H.own,H.apart,H.rel,H.norel,H.d0,H.acq⟩
theorem Gs.at{s:PS}(H:Gs T Goal X s gs v t)(d:Nat):Gs T Goal X s gs (v.at d) t:=
 ⟨H.size,H.main,λk hk=>let ⟨g,hg,hw⟩:=H.work k hk;⟨g,hg,hw.lH (iR _) λ_ _=>rfl⟩,H.kj,H.above⟩
theorem PI.at{s:PS}(H:PI T Goal X s gs v t)(d:Nat):PI T Goal X s gs (v.at d) t:=⟨H.gs.at d,H.wd.at d,H.ac,H.wg,H.tr.at d⟩
end
end
section
open Go.Conc
open Go.ConcN (upd upd_same upd_ne sumTo sumTo_upd sumTo_congr RelBy)
section
variable {L:aA}{T:aN}{Goal:Frame->List Frame->World->Prop}{X:PC L}
def bK(T:aN)(Goal:Frame->List Frame->World->Prop)(X:PC L)(s:PS)(gs:Array Goroutine)(v:World)(sl:Option (Nat×Nat))(t:Trace)(i:Nat):Prop:=
 ∃s' gs' v' ops,runT Pg (crowd gs v sl) i=(.next (crowd gs' v' sl),ops)/\PI T Goal X s' gs' v' (t++ops)/\pf Goal X s' s
theorem iJ{s:PS}(hk:k<s.j){σ:Wk}(hr:σ.ah<(s.ws k).ah)(hc:σ.cnt=(s.ws k).cnt)(mt':Mt)(hm:jf s.mt mt')(ow:Nat->Prop)(st sm:Nat):pf Goal X {s.wk mt' k σ ow with st:=st,sm:=sm} s:=by
 refine .inl ?_;have h1:=s.oY mt' hk σ ow Wk.ah;have h2:=s.mI mt' hk σ ow;have h3:({s.wk mt' k σ ow with st:=st,sm:=sm}:PS).c=s.c:=by
  show (s.wk mt' k σ ow).c=s.c;omega
 unfold PS.phi;rw[h3];have h4:=(hm.facts (X:=X)).1 s.c;show mt'.ah s.c+sumTo s.j (λi=>((s.wk mt' k σ ow).ws i).ah)+12*s.c+60*(X.E.n-s.rN)<s.mt.ah s.c+sumTo s.j (λi=>(s.ws i).ah)+12*s.c+60*(X.E.n-s.rN);omega
theorem fE(O:aL T Goal X){s:PS}(H:PI T Goal X s gs v t)(hk:k<s.j)(hg:gs[X.n0+k]?=some g)(e:stepG Pg false g v=.go g1 v1 es)(σ:Wk)(ow:Nat->Prop)(st sm:Nat)(hW:gR T Goal X ow (deafBehind (Deaf t (X.n0+k)) es) g1 v1 σ)(hs:v.heap.size<=v1.heap.size)(hoth:∀b,b<v.heap.size->¬s.ow k b->b≠X.M.wg->v1.heap[b]?=v.heap[b]?)(how:∀b,ow b->s.ow k b\/(v.heap.size<=b/\b<v1.heap.size))(hwgb:v1.heap[X.M.wg]?=some (.cells #[.int .u64 st,.int .u32 sm] 188))(ht:v1.tape=v.tape/\v1.os=v.os/\v1.output=v.output)(hac:∀mt',jf s.mt mt'->Ac X (s.wk mt' k σ ow))(hwg:∀mt',jf s.mt mt'->(mayWake Pg g=true->g1.status=.running->mi mt'=false)->Wg {s.wk mt' k σ ow with st:=st,sm:=sm})(hev:∀e∈es,∀a,(MemAct.ofEvent e).touch?=some a->a.loc.isMemory=true/\mL (iG X (s.wk s.mt k σ ow)) (X.n0+k) a)(hlow:∀e∈es,(MemAct.ofEvent e).low v1.heap.size)(hrel:σ.rel=true->∃r,RelBy (bH X) (t++MemOp.ofEvents (X.n0+k) g.frame.fn g.frame.place es) (X.n0+k) r)(bA:∀e∈es,e.loc≠.mark (.release (bH X)))(hfin:∀n xs,s.mt=.fin n xs->False)(hdec:∀mt',jf s.mt mt'->pf Goal X {s.wk mt' k σ ow with st:=st,sm:=sm} s):bK T Goal X s gs v sl t (X.n0+k):=by
 have hn0:=O.n0;have e1:=O.bT;have e2:=O.cN;have e3:=O.bN;have e4:=O.cB;have e5:=O.bB;have e6:=O.wg;have hne0:(X.n0+k==0)=false:=by simp;omega
 have hrun:=runT_crowd_go (P:=Pg) (sl:=sl) (i:=X.n0+k) hg (by rw[hne0];exact e);obtain⟨h,h0,hM⟩:=H.gs.main;obtain⟨mt',hM',hml,hbl⟩:=hM.woken O g g1 v1;have hfacts:=jf.facts (X:=X) hml;have aD:∀b,b<=X.M.wg->¬s.ow k b:=λb hb ho=>by have:=(H.tr.own k b hk ho).1;omega
 have hsame:∀b,b<X.M.wg->v1.heap[b]?=v.heap[b]? :=λb hb=>hoth b (by have:=H.wd.size;omega) (aD b (by omega)) (by omega);refine⟨{s.wk mt' k σ ow with st:=st,sm:=sm},_,v1,_,hrun,⟨?_,?_,?_,hwg mt' hml hbl,?_⟩,hdec mt' hml⟩
 ·refine H.gs.fE O hk (s':={s.wk mt' k σ ow with st:=st,sm:=sm}) ?_ hs ?_ ?_ ?_ rfl (λi hi=>(s.hZ mt' σ ow hi).1) (λi hi=>(s.hZ mt' σ ow hi).2) rfl
  ·show gR T Goal X ((s.wk mt' k σ ow).ow k) _ g1 v1 ((s.wk mt' k σ ow).ws k);rw[(s.fy mt' k σ ow).1,(s.fy mt' k σ ow).2];exact hW
  ·rintro b (⟨r,hr⟩|⟨i,hi,hik,hb⟩)
   ·exact hsame b (by have:=(O.K.cy r b hr).2;omega)
   ·have h1:=H.tr.own i b hi hb;exact hoth b h1.2 (λhx=>hik (H.tr.apart i k b hi hk hb hx)) (by omega)
  ·intro i hi hp;have hcn:=H.wd.cN;rw[(H.ac.dC i hi hp).2,<-hsame _ (by omega)]at hcn;exact⟨_,_,_,_,_,hcn⟩
  ·intro h' h0' _;rw[h0]at h0';cases h0';exact hM'
 ·refine⟨⟨Xb H.wd.old.1 hs,λb hb=>by rw[hsame b (by omega)];exact H.wd.old.2 b hb⟩,Xc H.wd.size hs,?_,?_,?_,?_,?_,hwgb,ht.1.trans H.wd.tape,ht.2.1.trans H.wd.os,ht.2.2.trans H.wd.output⟩
  ·rw[hsame _ (by omega)];exact H.wd.bT
  ·rw[hsame _ (by omega)];exact H.wd.bN
  ·rw[hsame _ (by omega)];exact H.wd.bB
  ·rw[hsame _ (by omega)];show _=some (Obj.chan X.E.n (s.cC.map X.num).toArray mt'.shut (mt'.bg X) s.rN false);rw[hfacts.2.1,hfacts.2.2.2.1];exact H.wd.cN
  ·obtain⟨sB,h⟩:=H.wd.cB;exact⟨sB,by rw[hsame _ (by omega)];exact h⟩
 ·have:=hac mt' hml;exact⟨this.on,this.bg,this.kO,this.cover,this.count,this.eJ,this.okB,this.dC,this.gone⟩
 ·refine H.tr.step O (s':={s.wk mt' k σ ow with st:=st,sm:=sm}) (.inr ⟨by omega,by omega⟩) rfl hs (λi b hi hb=>?_) H.wd.size hev hlow (λi hi hr=>?_) bA ?_ (λn xs h=>(hfin n xs (hfacts.2.2.2.2.2.2.2.2.2.2.2 n xs h)).elim)
  ·by_cases hik:i=k
   ·subst hik;have hb':ow b:=by have:=(s.fy mt' i σ ow).2;rw[<-this];exact hb
    exact (how b hb').imp id λx=>⟨x.1,x.2,rfl⟩
   ·have:=(s.hZ mt' σ ow hik).2;exact .inl (by rw[<-this];exact hb)
  ·by_cases hik:i=k
   ·subst hik
    have:=(s.fy mt' i σ ow).1;exact hrel (by rw[<-this];exact hr)
   ·have:=(s.hZ mt' σ ow hik).1;exact yI H.tr (λop ag=>ofEvents_g ag) hi (by omega) (by rw[<-this];exact hr)
  ·rw[AI (by omega),H.tr.d0];exact hfacts.2.2.2.2.2.1.symm
theorem lS(O:aL T Goal X){s:PS}(H:PI T Goal X s gs v t)(hfin:∀n xs,s.mt=.fin n xs->False)(hk:k<s.j)(hg:gs[X.n0+k]?=some g)(e:∀w,stepG Pg false g w=.go g1 w #[]){σ:Wk}(hl:tG (s.ws k) σ)(hi:σ.idle+1=(s.ws k).idle)(hW:gR T Goal X (s.ow k) (Deaf t (X.n0+k)) g1 v σ):bK T Goal X s gs v sl t (X.n0+k):=by
 refine fE O H hk hg (e v) σ (s.ow k) s.st s.sm hW (iR _) (λ_ _ _ _=>rfl) (λb hb=>.inl hb) H.wd.wg ⟨rfl,rfl,rfl⟩ (λmt' hm=>H.ac.rF hm hl _) (λmt' hm _=>?_) (λe he=>by simp at he) (λe he=>by simp at he) (λhr=>?_) (λe he=>by simp at he) hfin (λmt' hm=>?_)
 ·exact H.wg.rF X hm hk hl _
 ·obtain⟨r,hr⟩:=H.tr.rel k hk (hl.rel▸hr);exact⟨r,RelBy.still hr λop ag=>by obtain⟨e,he,_⟩:=Go.Conc.mem_ofEvents ag;simp at he⟩
 ·have h1:=s.oY mt' hk σ (s.ow k) Wk.ah;have h2:=s.mI mt' hk σ (s.ow k);have h5:=s.oY mt' hk σ (s.ow k) Wk.idle;rw[hl.ah]at h1;rw[hl.cnt]at h2;have hf:=hm.facts (X:=X);have h3:(s.wk mt' k σ (s.ow k)).c=s.c:=by omega
  refine .inr (.inr ⟨?_,s.GF mt' σ (s.ow k) hl.tree,?_⟩)
  ·show mt'.ah (s.wk mt' k σ (s.ow k)).c+sumTo s.j (λi=>((s.wk mt' k σ (s.ow k)).ws i).ah)+12*(s.wk mt' k σ (s.ow k)).c+60*(X.E.n-s.rN)=s.mt.ah s.c+sumTo s.j (λi=>(s.ws i).ah)+12*s.c+60*(X.E.n-s.rN);rw[h3,hf.1 s.c];omega
  ·show mt'.idle+2*sumTo s.j (λi=>((s.wk mt' k σ (s.ow k)).ws i).idle)+2*sumTo X.n0 s.q<s.mt.idle+2*sumTo s.j (λi=>(s.ws i).idle)+2*sumTo X.n0 s.q
   have:=hf.2.2.2.2.2.2.2.2.2.1;omega
end
end
section
open Go.Conc
open Go.ConcN (upd upd_same upd_ne sumTo sumTo_upd sumTo_congr RelBy)
section
variable {L:aA}{T:aN}{Goal:Frame->List Frame->World->Prop}{X:PC L}
theorem Ac.wk{s:PS}(H:Ac X s){σ:Wk}(ow:Nat->Prop)(hj:σ.bQ=(s.ws k).bQ)(hp:σ.parked=true->s.cC= []/\s.mt.shut=false)(hg:σ.ah<=7->s.mt.shut=true/\s.cC= []):∀mt',jf s.mt mt'->Ac X (s.wk mt' k σ ow):=by
 intro mt' hm;obtain⟨_,f2,f3,f4,_⟩:=hm.facts (X:=X);have hws:∀i,((s.wk mt' k σ ow).ws i).bQ=(s.ws i).bQ:=λi=>by
  by_cases hi:i=k
  ·subst hi;rw[(s.fy mt' i σ ow).1];exact hj
  ·rw[(s.hZ mt' σ ow hi).1]
 refine⟨H.on.trans f3.symm,f2▸H.bg,(H.kO).trans f2.symm,λi hi=>?_,?_,H.eJ,H.okB,λi hi hpp=>?_,λi hi hr=>?_⟩
 ·rcases H.cover i (f2▸hi) with h|h|⟨k',h1,h2⟩
  ·exact .inl h
  ·exact .inr (.inl h)
  ·exact .inr (.inr ⟨k',h1,(hws k').trans h2⟩)
 ·have e:sumTo s.j (λi=>if ((s.wk mt' k σ ow).ws i).bQ.isSome then 1 else 0)=sumTo s.j (λi=>if (s.ws i).bQ.isSome then 1 else 0):=sumTo_congr λi _=>by rw[hws i]
  show s.cC.length+sumTo s.j (λi=>if ((s.wk mt' k σ ow).ws i).bQ.isSome then 1 else 0)+s.df.length<=mt'.bg X;rw[e,f2];exact H.count
 ·by_cases hik:i=k
  ·subst hik;rw[(s.fy mt' i σ ow).1]at hpp;exact⟨(hp hpp).1,f4.trans (hp hpp).2⟩
  ·rw[(s.hZ mt' σ ow hik).1]at hpp
   have:=H.dC i hi hpp;exact⟨this.1,f4.trans this.2⟩
 ·by_cases hik:i=k
  ·subst hik;rw[(s.fy mt' i σ ow).1]at hr;exact⟨f4.trans (hg hr).1,(hg hr).2⟩
  ·rw[(s.hZ mt' σ ow hik).1]at hr
   have:=H.gone i hi hr;exact⟨f4.trans this.1,this.2⟩
theorem Wg.im(X:PC L){s:PS}(H:Wg s)(hk:k<s.j){σ:Wk}(ow:Nat->Prop)(h1:4<=(s.ws k).ah)(h2:4<=σ.ah)(hc:σ.cnt=(s.ws k).cnt):∀mt',jf s.mt mt'->Wg {s.wk mt' k σ ow with st:=s.st,sm:=s.sm}:=by
 intro mt' hm;obtain⟨_,_,_,_,f5,_,f7,f8,f9,_,f11,_⟩:=hm.facts (X:=X);have hcc:(s.wk mt' k σ ow).c=s.c:=by have:=s.mI mt' hk σ ow;omega
 have hr:∀i,qd s->i<s.j->((s.wk mt' k σ ow).ws i).ah=0\/4<=((s.wk mt' k σ ow).ws i).ah:=λi hn hi=>by
  by_cases hik:i=k
  ·subst hik;rw[(s.fy mt' i σ ow).1];exact .inr h2
  ·rw[(s.hZ mt' σ ow hik).1];exact hn i hi
 cases H with
 |opn a1 a2 a3 a4 a5=>exact .opn (f7.trans a1) (λi hi=>hr i a2 hi) (by show s.st=((s.wk mt' k σ ow).c+mt'.eL)*bk;rw[hcc,f5];exact a3) a4 (λq n xs ys e=>by show (s.wk mt' k σ ow).c<=q;rw[hcc];exact a5 q n xs ys (f11 q n xs ys e))
 |dT a1 a2 a3 a4 a5=>exact .dT (f8.trans a1) (λi hi=>hr i a2 hi) (by show 1<=(s.wk mt' k σ ow).c;rw[hcc];exact a3) (by show s.st=(s.wk mt' k σ ow).c*bk+1;rw[hcc];exact a4) a5
 |last q a1 a2 a3 a4 a5 a6 a7=>
  by_cases hq:k=q
  ·subst hq;omega
  ·have:=a5 k hk hq;omega
 |fB a1 a2 a3 a4 a5=>have:=a3 k hk;omega
 |done a1 a2 a3 a4 a5=>have:=a3 k hk;omega
theorem yy(O:aL T Goal X)(s':PS)(g b:Nat)(hb:b=X.M.bT\/b=X.M.bN\/b=X.M.bB):∀e∈(#[⟨.cell ⟨b,0,none⟩,false,false⟩]:Array Event),∀a,(MemAct.ofEvent e).touch?=some a->a.loc.isMemory=true/\mL (iG X s') g a:=by
 have _:=O;intro e he a ha;simp at he;subst he;simp only[MemAct.ofEvent,MemAct.touch?,Xa]at ha;subst ha;refine⟨rfl,λc hc=>?_⟩;simp only[blk,Xa]at hc;subst hc;exact .inr (.inl ⟨.inr hb,rfl,rfl⟩)
theorem od{B:Nat}{a:Addr}(h:a.block<B)(wr sy:Bool):(MemAct.ofEvent ⟨.cell a,wr,sy⟩).low B:=by
 simp only[MemAct.ofEvent,MemAct.low,Loc.low];exact h
theorem Eh(p:Pl)(xs:Nat->Value)(l:List Nat):(bu p xs l).frame.fn=89:=by kernel_rfl
theorem G9(b:Nat):seen Pg 89 #[⟨.cell ⟨b,0,none⟩,false,false⟩]=#[⟨.cell ⟨b,0,none⟩,false,false⟩]:=by kernel_rfl
theorem OV(O:aL T Goal X){s:PS}(H:PI T Goal X s gs v t)(hfin:∀n xs,s.mt=.fin n xs->False)(hk:k<s.j)(hσ:s.ws k=.load 0):bK T Goal X s gs v sl t (X.n0+k):=by
 obtain⟨g,hg,hW⟩:=H.gs.work k hk;rw[hσ]at hW;obtain⟨hgl,hd⟩:=hW;cases hgl;have e6:=O.wg;have e3:=O.bN;have hc:v.cell? ⟨X.M.bN,0,none⟩=some (.chan (some X.M.cN)):=by simp[World.cell?,H.wd.bN]
 have e:=aI.value (xf X.p) (KG X.p (.chan (some X.M.cN))) (w:=v) (w':=v) (es:=#[⟨.cell ⟨X.M.bN,0,none⟩,false,false⟩]) ⟨hc,rfl,rfl⟩;rw[VL]at e;have hr:(s.ws k).ah=10:=by rw[hσ];rfl
 refine fE O H hk hg e (.recv 5 λ_=>undef) (s.ow k) s.st s.sm ⟨?_,hd⟩ (iR _) (λ_ _ _ _=>rfl) (λb hb=>.inl hb) H.wd.wg ⟨rfl,rfl,rfl⟩
  (H.ac.wk _ (by rw[hσ];rfl) (λh=>by cases h) (λh=>by simp[Wk.ah]at h)) (λmt' hm _=>H.wg.im X hk _ (by omega) (by simp[Wk.ah]) (by rw[hσ];rfl) mt' hm)
  (yy O _ _ _ (.inr (.inl rfl))) (λe he=>by simp at he;subst he;exact od (show X.M.bN<v.heap.size by have:=H.wd.size;omega) _ _) (λh=>by cases h) (λe he=>by simp at he;subst he;simp) hfin (λmt' hm=>iJ hk (by rw[hσ];simp[Wk.ah]) (by rw[hσ];rfl) mt' hm _ _ _)
 have:=(PL X.p).aO;rw[Uu]at this;exact this
theorem PO(O:aL T Goal X){s:PS}(H:PI T Goal X s gs v t)(hfin:∀n xs,s.mt=.fin n xs->False)(hk:k<s.j)(hσ:s.ws k=.draw 0 i xs):bK T Goal X s gs v sl t (X.n0+k):=by
 obtain⟨g,hg,hW⟩:=H.gs.work k hk;rw[hσ]at hW;obtain⟨hgl,hd,hi,h4⟩:=hW;cases hgl;have hw:=Pp (v.tape v.drawn (.order 89 4));have e:=NT X.p xs v;generalize Region.schedule true lV (v.tape v.drawn (.order 89 4))=l at hw e;simp only[whole,IN,Xs,List.all_eq_true]at hw;obtain⟨⟨cU,hall⟩,hlen⟩:=hw;have hc:∀j,j<8->l.contains j=false->False:=λj hj h=>by
  have:=hall j (List.mem_range.2 hj);rw[h]at this;cases this
 have hr:(s.ws k).ah=60:=by rw[hσ];rfl
 refine fE O H hk hg e (.ops i l xs) (s.ow k) s.st s.sm ⟨rfl,hd,?_,cU,hi,h4,λh=>(hc 0 (by omega) h).elim,λh=>(hc 1 (by omega) h).elim,λh=>(hc 2 (by omega) h).elim,λh=>(hc 3 (by omega) h).elim,λh=>(hc 4 (by omega) h).elim,λh=>(hc 5 (by omega) h).elim,λh=>(hc 6 (by omega) h).elim⟩ (iR _) (λ_ _ _ _=>rfl) (λb hb=>.inl hb) H.wd.wg ⟨rfl,rfl,rfl⟩
  (H.ac.wk _ (by rw[hσ];rfl) (λh=>by cases h) (λh=>by simp[Wk.ah]at h;omega)) (λmt' hm _=>H.wg.im X hk _ (by omega) (by simp only[Wk.ah];omega) (by rw[hσ];rfl) mt' hm)
  (λe he=>by simp at he) (λe he=>by simp at he) (λh=>by cases h) (λe he=>by simp at he) hfin (λmt' hm=>iJ hk (by rw[hσ];simp only[Wk.ah];omega) (by rw[hσ];rfl) mt' hm _ _ _)
 rintro rfl;simp at hlen
theorem bI{m:Nat}(l:List Nat)(h:m≠j):(j::l).contains m=l.contains m:=by
 simp only[List.contains_cons];have:(m==j)=false:=by simp[h]
 rw[this,Bool.false_or]
theorem qH(h:jw (j::l)=true):nP j l=true/\jw l=true:=by
 simpa[jw] using h
theorem oZ{m:Nat}(h:l.contains m=true):l≠[]:=by rintro rfl;simp at h
theorem rH(O:aL T Goal X){s:PS}(H:PI T Goal X s gs v t)(hfin:∀n xs,s.mt=.fin n xs->False)(hk:k<s.j){xs':Nat->Value}(hσ:s.ws k=.ops i (j::l) xs)(e:stepG Pg false (bu X.p xs (j::l)) v=.go (bu X.p xs' l) v es)(hes:es=#[]\/∃b,(b=X.M.bT\/b=X.M.bN\/b=X.M.bB)/\es=#[⟨.cell ⟨b,0,none⟩,false,false⟩])(hne:l≠[])(ho:tH Goal X i l xs'):bK T Goal X s gs v sl t (X.n0+k):=by
 obtain⟨g,hg,hW⟩:=H.gs.work k hk;rw[hσ]at hW;obtain⟨rfl,hd,_,_⟩:=hW;have e6:=O.wg;have e3:=O.bN;have e1:=O.bT;have e5:=O.bB;have hr:(s.ws k).ah=21+2*(l.length+1):=by rw[hσ];rfl
 have hdf:deafBehind (Deaf t (X.n0+k)) es=0:=by
  rcases hes with rfl|⟨b,_,rfl⟩
  ·exact hd
  ·exact hd
 refine fE O H hk hg e (.ops i l xs') (s.ow k) s.st s.sm ⟨rfl,hdf,hne,ho⟩ (iR _) (λ_ _ _ _=>rfl) (λb hb=>.inl hb) H.wd.wg ⟨rfl,rfl,rfl⟩
  (H.ac.wk _ (by rw[hσ];rfl) (λh=>by cases h) (λh=>by simp only[Wk.ah]at h;omega)) (λmt' hm _=>H.wg.im X hk _ (by omega) (by simp only[Wk.ah];omega) (by rw[hσ];rfl) mt' hm) ?_ ?_ (λh=>by cases h) ?_ hfin (λmt' hm=>iJ hk (by rw[hσ];simp only[Wk.ah,Xp];omega) (by rw[hσ];rfl) mt' hm _ _ _)
 ·rcases hes with rfl|⟨b,hb,rfl⟩
  ·intro e he;simp at he
  ·exact yy O _ _ b hb
 ·rcases hes with rfl|⟨b,hb,rfl⟩
  ·intro e he;simp at he
  ·intro e he;simp at he;subst he;exact od (show b<v.heap.size by have:=H.wd.size;omega) _ _
 ·rcases hes with rfl|⟨b,hb,rfl⟩
  ·intro e he;simp at he
  ·intro e he;simp at he;subst he;simp
theorem rT(O:aL T Goal X){s:PS}(H:PI T Goal X s gs v t)(hfin:∀n xs,s.mt=.fin n xs->False)(hk:k<s.j)(hσ:s.ws k=.ops i (j::l) xs)(hj:j=0\/j=1\/j=2\/j=3\/j=6):bK T Goal X s gs v sl t (X.n0+k):=by
 obtain⟨g,hg,hW⟩:=H.gs.work k hk;rw[hσ]at hW;obtain⟨_,_,_,ho⟩:=hW;obtain⟨hh,hgd⟩:=qH ho.jw;rcases hj with rfl|rfl|rfl|rfl|rfl
 ·have hne:l≠[]:=oZ (m:=7) hh;have hc:v.cell? ⟨X.M.bB,0,none⟩=some (.chan (some X.M.cB)):=by simp[World.cell?,H.wd.bB]
  have e:=aI.value (OJ X.p xs l) (Vf X.p xs l (.chan (some X.M.cB))) (w:=v) (w':=v) (es:=#[⟨.cell ⟨X.M.bB,0,none⟩,false,false⟩]) ⟨hc,rfl,rfl⟩;rw[Oz,Eh,G9]at e;refine rH O H hfin hk hσ e (.inr ⟨_,.inr (.inr rfl),rfl⟩) hne ⟨hgd,ho.lt,ho.x4,λ_=>rfl,λh=>ho.d1 (by rw[bI _ (by omega)];exact h),λh=>ho.d2 (by rw[bI _ (by omega)];exact h),λh=>ho.d3 (by rw[bI _ (by omega)];exact h),λh h5=>ho.d4 (by rw[bI _ (by omega)];exact h) (by rw[bI _ (by omega)];exact h5),λh=>ho.d5 (by rw[bI _ (by omega)];exact h),λh=>ho.d6 (by rw[bI _ (by omega)];exact h)⟩
 ·have hne:l≠[]:=oZ (m:=6) hh;have e:=(RA X.p xs l).step.2.1 v;rw[LY]at e;refine rH O H hfin hk hσ e (.inl rfl) hne ⟨hgd,ho.lt,ho.x4,λh=>ho.d0 (by rw[bI _ (by omega)];exact h),λ_=>ho.x4,λh=>ho.d2 (by rw[bI _ (by omega)];exact h),λh=>ho.d3 (by rw[bI _ (by omega)];exact h),λh h5=>ho.d4 (by rw[bI _ (by omega)];exact h) (by rw[bI _ (by omega)];exact h5),λh=>ho.d5 (by rw[bI _ (by omega)];exact h),λh=>ho.d6 (by rw[bI _ (by omega)];exact h)⟩
 ·have hne:l≠[]:=oZ (m:=4) hh;have hc:v.cell? ⟨X.M.bT,0,none⟩=some X.M.ij:=by simp[World.cell?,H.wd.bT]
  have e:=aI.value (Vn X.p xs l) (RD X.p xs l X.M.ij) (w:=v) (w':=v) (es:=#[⟨.cell ⟨X.M.bT,0,none⟩,false,false⟩]) ⟨hc,rfl,rfl⟩;rw[O7,Eh,G9]at e;refine rH O H hfin hk hσ e (.inr ⟨_,.inl rfl,rfl⟩) hne ⟨hgd,ho.lt,ho.x4,λh=>ho.d0 (by rw[bI _ (by omega)];exact h),λh=>ho.d1 (by rw[bI _ (by omega)];exact h),λ_=>O.ij,λh=>ho.d3 (by rw[bI _ (by omega)];exact h),λh h5=>ho.d4 (by rw[bI _ (by omega)];exact h) (by rw[bI _ (by omega)];exact h5),λh=>ho.d5 (by rw[bI _ (by omega)];exact h),λh=>ho.d6 (by rw[bI _ (by omega)];exact h)⟩
 ·have hne:l≠[]:=oZ (m:=4) hh;have e:=(Wt X.p xs l).step.2.1 v;rw[Su]at e;refine rH O H hfin hk hσ e (.inl rfl) hne ⟨hgd,ho.lt,ho.x4,λh=>ho.d0 (by rw[bI _ (by omega)];exact h),λh=>ho.d1 (by rw[bI _ (by omega)];exact h),λh=>ho.d2 (by rw[bI _ (by omega)];exact h),λ_=>ho.x4,λh h5=>ho.d4 (by rw[bI _ (by omega)];exact h) (by rw[bI _ (by omega)];exact h5),λh=>ho.d5 (by rw[bI _ (by omega)];exact h),λh=>ho.d6 (by rw[bI _ (by omega)];exact h)⟩
 ·simp only[nP,IN,Bool.not_eq_true']at hh;have hne:l≠[]:=oZ (m:=7) hh.2;have x10:xs 10=X.num i:=ho.d1 (by rw[bI _ (by omega)];exact hh.1.1);have x14:xs 14=.int .u64 (X.a i):=ho.d5 (by rw[bI _ (by omega)];exact hh.1.2);have hxs:upd (upd xs 10 (X.num i)) 14 (.int .u64 (X.a i))=xs:=by
   rw[<-x10,kL,<-x14,kL]
  have e:=(OE X.p xs l (IntKind.i64.wrap (X.E.first+i)) (X.a i)).step.2.1 v;rw[RM]at e;change stepG Pg false (bu X.p (upd (upd xs 10 (X.num i)) 14 (.int .u64 (X.a i))) (6::l)) v=.go (bu X.p (upd (upd (upd xs 10 (X.num i)) 14 (.int .u64 (X.a i))) 15 (X.gF i)) l) v #[]at e;rw[hxs]at e;refine rH O H hfin hk hσ e (.inl rfl) hne ⟨hgd,ho.lt,ho.x4,λh=>ho.d0 (by rw[bI _ (by omega)];exact h),λh=>ho.d1 (by rw[bI _ (by omega)];exact h),λh=>ho.d2 (by rw[bI _ (by omega)];exact h),λh=>ho.d3 (by rw[bI _ (by omega)];exact h),λh h5=>ho.d4 (by rw[bI _ (by omega)];exact h) (by rw[bI _ (by omega)];exact h5),λh=>ho.d5 (by rw[bI _ (by omega)];exact h),λ_=>rfl⟩
end
end
end Go.Proofs.YtldmcdeibiclkaaGreatDoor.U
