/-
  Toward causal_holds: tree.ofSegments: the numbers are sent; it closes, and waits.
-/
import Derived.Test.YtldmcdeibiclkaaGreatDoorC08
import Derived.Conc.CrowdComm
set_option linter.unusedVariables false
set_option linter.unusedSimpArgs false
set_option maxRecDepth 100000
set_option maxHeartbeats 20000000
namespace Go.Proofs.YtldmcdeibiclkaaGreatDoor.U
section
open Go.Conc
open Go.ConcN (upd)
set_option maxRecDepth 100000
section
variable (c:Frame) (cs:List Frame) (wg:Nat) (xs:Nat->Value)
theorem Kc:aG Pg true 10 (fin (fin (lA c cs wg xs) (ptr wg)) unit):=λw=>by kernel_rfl
theorem Ro:aw Pg true 10 (fin (fin (lA c cs wg xs) (ptr wg)) unit)=iD c cs:=by kernel_rfl
end
section
variable (M:Mn) (xs:Nat->Value) (cs:List Frame) (j:Int)
def CG(M:Mn)(j:Int)(xs:Nat->Value):Nat->Value:=upd (upd xs 24 (.int .i64 M.count)) 25 (.int .i64 j)
noncomputable def mN:Goroutine:=gM M 10 0 (CG M j xs) cs
theorem Sp:aG Pg true 15 (dr M xs cs 1 1):=λw=>by kernel_rfl
theorem RQ:aG Pg true 15 (dr M xs cs 4 4):=λw=>by kernel_rfl
theorem V9:aw Pg true 15 (dr M xs cs 1 1)=mN M (iA (aw Pg true 15 (dr M xs cs 1 1))) cs 0:=by kernel_rfl
theorem La:aw Pg true 15 (dr M xs cs 4 4)=mN M (iA (aw Pg true 15 (dr M xs cs 4 4))) cs 0:=by kernel_rfl
noncomputable def qY(b:Bool):Goroutine:=gM M 10 1 (upd (CG M j xs) 26 (.bool b)) cs
theorem MM:aG Pg true 1 (mN M xs cs j):=λw=>by kernel_rfl
theorem S6:aw Pg true 1 (mN M xs cs j)=qY M xs cs j (decide (j< M.count)):=by kernel_rfl
theorem Vf:aG Pg true 12 (qY M xs cs j true):=λw=>by kernel_rfl
noncomputable def mM:Goroutine:=aw Pg true 12 (qY M xs cs j true)
theorem zk:aI Pg true (mM M xs cs j):=⟨λw=>by kernel_rfl,by kernel_rfl,by kernel_rfl⟩
theorem Nh(v:Value):feed Pg (aJ (mM M xs cs j)) [.val v]=some ([.ld .plain ⟨M.bN,0,none⟩],.inl (.value v)):=by kernel_rfl
theorem F9:(mM M xs cs j).frame.fn=68:=by kernel_rfl
theorem Nl:aG Pg true 3 (fin (mM M xs cs j) (.chan (some M.cN))):=λw=>by kernel_rfl
noncomputable def iT:Goroutine:=aw Pg true 3 (fin (mM M xs cs j) (.chan (some M.cN)))
theorem BC:aI Pg true (iT M xs cs j):=⟨λw=>by kernel_rfl,by kernel_rfl,by kernel_rfl⟩
def uJ(M:Mn)(j:Int):Array CommCase:=#[{chan:= .chan (some M.cN),send:=some (.int .i64 (IntKind.i64.wrap (M.first+j))),zero:= .tuple #[]}]
theorem Xc:feed Pg (aJ (iT M xs cs j)) []=some ([],.inl (.comm (uJ M j) true .send)):=by kernel_rfl
noncomputable def nG:Goroutine:=(iT M xs cs j).finishComm Pg (uJ M j) .send 0 undef false
theorem Qa:aG Pg true 9 (nG M xs cs j):=λw=>by kernel_rfl
theorem TL:aw Pg true 9 (nG M xs cs j)=mN M (iA (aw Pg true 9 (nG M xs cs j))) cs (IntKind.i64.wrap (j+1)):=by kernel_rfl
theorem KH:aG Pg true 6 (qY M xs cs j false):=λw=>by kernel_rfl
noncomputable def o9:Goroutine:=aw Pg true 6 (qY M xs cs j false)
theorem Ap:aI Pg true (o9 M xs cs j):=⟨λw=>by kernel_rfl,by kernel_rfl,by kernel_rfl⟩
theorem Rp(v:Value):feed Pg (aJ (o9 M xs cs j)) [.val v]=some ([.ld .plain ⟨M.bN,0,none⟩],.inl (.value v)):=by kernel_rfl
theorem Lx:(o9 M xs cs j).frame.fn=68:=by kernel_rfl
noncomputable def jo:Goroutine:=fin (o9 M xs cs j) (.chan (some M.cN))
theorem AO:aI Pg true (jo M xs cs j):=⟨λw=>by kernel_rfl,by kernel_rfl,by kernel_rfl⟩
theorem L8(a:Nat)(b:Array Value)(s r:Nat)(tm:Bool):feed Pg (aJ (jo M xs cs j)) [.obj (.chan a b false s r tm)]=some ([.gt M.cN,.pt M.cN (.chan a b true s r tm)],.inl (.value unit)):=by kernel_rfl
theorem Tn:(jo M xs cs j).frame.fn=68:=by kernel_rfl
theorem Mp:mayWake Pg (jo M xs cs j)=true:=by kernel_rfl
theorem FY:aG Pg true 4 (fin (jo M xs cs j) unit):=λw=>by kernel_rfl
noncomputable def xB:Frame:=(aw Pg true 3 (fin (jo M xs cs j) unit)).frame
theorem Se:aw Pg true 4 (fin (jo M xs cs j) unit)=wK (xB M xs cs j) cs M.wg:=by kernel_rfl
theorem uC(b:Nat):seen Pg 68 #[⟨.cell ⟨b,0,none⟩,false,false⟩]=#[⟨.cell ⟨b,0,none⟩,false,false⟩]:=by kernel_rfl
theorem yF(a:Addr):seen Pg 68 #[⟨.cell a,true,false⟩]=#[⟨.cell a,true,false⟩]:=by kernel_rfl
theorem Cy(r:Nat):seen Pg 68 #[⟨.obj r,false,true⟩,⟨.obj r,true,true⟩]=#[⟨.obj r,false,true⟩,⟨.obj r,true,true⟩]:=by kernel_rfl
theorem OB(a b:Addr):seen Pg 68 #[⟨.cell a,true,false⟩,⟨.cell b,true,false⟩]=#[⟨.cell a,true,false⟩,⟨.cell b,true,false⟩]:=by kernel_rfl
theorem Cg(a:Addr):seen Pg 68 #[⟨.cell a,false,false⟩]=#[⟨.cell a,false,false⟩]:=by kernel_rfl
end
end
section
open Go.Conc
open Go.ConcN (upd)
set_option maxRecDepth 100000
section
variable (M:Mn) (xs:Nat->Value) (cs:List Frame) (j:Int)
noncomputable def mB:Goroutine:=iD (xB M xs cs j) cs
theorem Bv:aG Pg true 3 (mB M xs cs j):=λw=>by kernel_rfl
noncomputable def mG:Goroutine:=aw Pg true 3 (mB M xs cs j)
theorem zo:aI Pg true (mG M xs cs j):=⟨λw=>by kernel_rfl,by kernel_rfl,by kernel_rfl⟩
theorem Gt(v:Value):feed Pg (aJ (mG M xs cs j)) [.val v]=some ([.ld .plain ⟨M.bB,0,none⟩],.inl (.value v)):=by kernel_rfl
theorem OI:(mG M xs cs j).frame.fn=68:=by kernel_rfl
noncomputable def lR:Goroutine:=fin (mG M xs cs j) (.chan (some M.cB))
theorem FT:aI Pg true (lR M xs cs j):=⟨λw=>by kernel_rfl,by kernel_rfl,by kernel_rfl⟩
theorem Ga(a:Nat)(b:Array Value)(s r:Nat)(tm:Bool):feed Pg (aJ (lR M xs cs j)) [.obj (.chan a b false s r tm)]=some ([.gt M.cB,.pt M.cB (.chan a b true s r tm)],.inl (.value unit)):=by kernel_rfl
theorem O6:(lR M xs cs j).frame.fn=68:=by kernel_rfl
theorem SB:aG Pg true 4 (fin (lR M xs cs j) unit):=λw=>by kernel_rfl
noncomputable def jY:Goroutine:=aw Pg true 4 (fin (lR M xs cs j) unit)
theorem Pv:aI Pg true (jY M xs cs j):=⟨λw=>by kernel_rfl,by kernel_rfl,by kernel_rfl⟩
end
theorem Xy(M:Mn)(h:M.count=1)(xs:Nat->Value)(cs:List Frame)(j:Int)(r:Nat):feed Pg (aJ (jY M xs cs j)) [.ref r]=some ([.nw (.cells (Array.replicate 1 (.int .u64 0)) 44)],.inl (.value (.slice (some ⟨r,0,none⟩) 1 1))):=by
 obtain⟨p,f,n,fn,ca,cb⟩:=M
 simp only at h
 subst h
 kernel_rfl
theorem RY(M:Mn)(h:M.count=4)(xs:Nat->Value)(cs:List Frame)(j:Int)(r:Nat):feed Pg (aJ (jY M xs cs j)) [.ref r]=some ([.nw (.cells (Array.replicate 4 (.int .u64 0)) 44)],.inl (.value (.slice (some ⟨r,0,none⟩) 4 4))):=by
 obtain⟨p,f,n,fn,ca,cb⟩:=M
 simp only at h
 subst h
 kernel_rfl
theorem Uj(M:Mn)(h:M.count=16)(xs:Nat->Value)(cs:List Frame)(j:Int)(r:Nat):feed Pg (aJ (jY M xs cs j)) [.ref r]=some ([.nw (.cells (Array.replicate 16 (.int .u64 0)) 44)],.inl (.value (.slice (some ⟨r,0,none⟩) 16 16))):=by
 obtain⟨p,f,n,fn,ca,cb⟩:=M
 simp only at h
 subst h
 kernel_rfl
theorem RJ(M:Mn)(h:M.count=64)(xs:Nat->Value)(cs:List Frame)(j:Int)(r:Nat):feed Pg (aJ (jY M xs cs j)) [.ref r]=some ([.nw (.cells (Array.replicate 64 (.int .u64 0)) 44)],.inl (.value (.slice (some ⟨r,0,none⟩) 64 64))):=by
 obtain⟨p,f,n,fn,ca,cb⟩:=M
 simp only at h
 subst h
 kernel_rfl
section
variable (M:Mn) (xs:Nat->Value) (cs:List Frame) (j:Int) (d n:Nat)
def j8(d n:Nat):Value:= .slice (some ⟨d,0,none⟩) n n
theorem KT:aG Pg true 5 (fin (jY M xs cs j) (j8 d n)):=λw=>by kernel_rfl
noncomputable def lM:Goroutine:=aw Pg true 5 (fin (jY M xs cs j) (j8 d n))
theorem SQ:aI Pg true (lM M xs cs j d n):=⟨λw=>by kernel_rfl,by kernel_rfl,by kernel_rfl⟩
theorem TN(v:Value):feed Pg (aJ (lM M xs cs j d n)) [.val v]=some ([.ld .plain ⟨M.bB,0,none⟩],.inl (.value v)):=by kernel_rfl
theorem Wm:(lM M xs cs j d n).frame.fn=68:=by kernel_rfl
theorem IE:aG Pg true 5 (fin (lM M xs cs j d n) (.chan (some M.cB))):=λw=>by kernel_rfl
def Iv(M:Mn)(d n:Nat)(xs:Nat->Value):Nat->Value:=upd (upd xs 38 (.chan (some M.cB))) 11 (j8 d n)
noncomputable def fT:Goroutine:=gM M 19 0 (Iv M d n xs) cs
theorem Xf:aw Pg true 5 (fin (lM M xs cs j d n) (.chan (some M.cB)))=fT M (iA (aw Pg true 5 (fin (lM M xs cs j d n) (.chan (some M.cB))))) cs d n:=by kernel_rfl
theorem sU:aI Pg true (fT M xs cs d n):=⟨λw=>by kernel_rfl,by kernel_rfl,by kernel_rfl⟩
def zF:Value:= .agg #[.int .i64 0,.int .u64 0]
def yE(M:Mn):Array CommCase:=#[{chan:= .chan (some M.cB),send:=none,zero:=zF}]
theorem zU:feed Pg (aJ (fT M xs cs d n)) []=some ([],.inl (.comm (yE M) true (.recv true))):=by kernel_rfl
noncomputable def tf(s e:Int):Goroutine:=(fT M xs cs d n).finishComm Pg (yE M) (.recv true) 0 (.agg #[.int .i64 s,.int .u64 e]) true
variable (s e:Int) (r:Nat)
theorem RO:aG Pg true 9 (tf M xs cs d n s e):=λw=>by kernel_rfl
noncomputable def rh:Goroutine:=aw Pg true 9 (tf M xs cs d n s e)
theorem Ih:aI Pg true (rh M xs cs d n s e):=⟨λw=>by kernel_rfl,by kernel_rfl,by kernel_rfl⟩
theorem GA:feed Pg (aJ (rh M xs cs d n s e)) [.ref r]=some ([.nw (.cells #[.int .i64 0,.int .u64 0] 190)],.inl (.value (ptr r))):=by kernel_rfl
noncomputable def mi:Goroutine:=fin (rh M xs cs d n s e) (ptr r)
theorem M0:aI Pg true (mi M xs cs d n s e r):=⟨λw=>by kernel_rfl,by kernel_rfl,by kernel_rfl⟩
theorem Ip:feed Pg (aJ (mi M xs cs d n s e r)) []=some ([.st .plain ⟨r,0,none⟩ (.int .i64 s),.st .plain ⟨r,1,none⟩ (.int .u64 e)],.inl .skip):=by kernel_rfl
theorem Ob:(mi M xs cs d n s e r).frame.fn=68:=by kernel_rfl
theorem IL:aG Pg true 4 (fin (mi M xs cs d n s e r) unit):=λw=>by kernel_rfl
noncomputable def lO:Goroutine:=aw Pg true 4 (fin (mi M xs cs d n s e r) unit)
theorem G5:aI Pg true (lO M xs cs d n s e r):=⟨λw=>by kernel_rfl,by kernel_rfl,by kernel_rfl⟩
theorem GO(v:Value):feed Pg (aJ (lO M xs cs d n s e r)) [.val v]=some ([.ld .plain ⟨r,0,none⟩],.inl (.value v)):=by kernel_rfl
theorem Xb:(lO M xs cs d n s e r).frame.fn=68:=by kernel_rfl
theorem Uk:aG Pg true 3 (fin (lO M xs cs d n s e r) (.int .i64 s)):=λw=>by kernel_rfl
noncomputable def pz:Goroutine:=aw Pg true 3 (fin (lO M xs cs d n s e r) (.int .i64 s))
theorem P7:aI Pg true (pz M xs cs d n s e r):=⟨λw=>by kernel_rfl,by kernel_rfl,by kernel_rfl⟩
theorem Vg(v:Value):feed Pg (aJ (pz M xs cs d n s e r)) [.val v]=some ([.ld .plain ⟨r,1,none⟩],.inl (.value v)):=by kernel_rfl
theorem QE:(pz M xs cs d n s e r).frame.fn=68:=by kernel_rfl
noncomputable def pq:Goroutine:=fin (pz M xs cs d n s e r) (.int .u64 e)
theorem Mz:aI Pg true (pq M xs cs d n s e r):=⟨λw=>by kernel_rfl,by kernel_rfl,by kernel_rfl⟩
theorem RU:aJ (pq M xs cs d n s e r)=(Instr.indexAt 147 (j8 d n) (.int .i64 (IntKind.i64.wrap (s - M.first))) >>=λv=>pure (.value v)):=by kernel_rfl
variable (k:Nat)
noncomputable def ml:Goroutine:=fin (pq M xs cs d n s e r) (.pointer (some ⟨d,k,none⟩))
theorem Vn:aI Pg true (ml M xs cs d n s e r k):=⟨λw=>by kernel_rfl,by kernel_rfl,by kernel_rfl⟩
theorem Lq:feed Pg (aJ (ml M xs cs d n s e r k)) []=some ([.st .plain ⟨d,k,none⟩ (.int .u64 e)],.inl .skip):=by kernel_rfl
theorem Jb:(ml M xs cs d n s e r k).frame.fn=68:=by kernel_rfl
theorem PV:aG Pg true 5 (fin (ml M xs cs d n s e r k) unit):=λw=>by kernel_rfl
theorem LD:aw Pg true 5 (fin (ml M xs cs d n s e r k) unit)=fT M (iA (aw Pg true 5 (fin (ml M xs cs d n s e r k) unit))) cs d n:=by kernel_rfl
end
section
variable (M:Mn) (xs:Nat->Value) (c:Frame) (cs:List Frame) (d n:Nat)
noncomputable def mZ:Goroutine:=(fT M xs (c::cs) d n).finishComm Pg (yE M) (.recv true) 0 zF false
theorem GU:aG Pg true 12 (mZ M xs c cs d n):=λw=>by kernel_rfl
theorem GY:aw Pg true 12 (mZ M xs c cs d n)= {frame:=c.finish (j8 d n),callers:=cs,status:= .running,dying:=none}:=by kernel_rfl
end
end
section
open Go.Conc
open Go.ConcN (upd upd_same upd_ne sumTo sumTo_upd sumTo_congr RelBy)
section
variable {Λ:oq} {Sh live Wk:Nat->Prop} {B:Nat} {t u:Trace}
theorem TP.still(h:TP Λ Sh live Wk B t):∀(l:List MemOp),(∀op∈l,op.act.touch? =none)->(∀op∈l,op.act.low B)->TP Λ Sh live Wk B (t++l.toArray):=by
 intro l
 induction l generalizing t with
 |nil=>intro _ _;simpa using h
 |cons x l ih=>
  intro hn hl
  have e:t++(x::l).toArray=(t++#[x])++l.toArray:=by apply Zo;simp
  rw[e]
  refine ih (h.mute (k:=x.g) (λop ag=>by simp at ag;rw[ag]) (λop ag=>by simp at ag;rw[ag];exact hn x (by simp)) (λop ag=>by simp at ag;rw[ag];exact hl x (by simp))) (λop ag=>hn op (by simp[ag])) (λop ag=>hl op (by simp[ag]))
theorem RelBy.still{a:Addr}{k r:Nat}(h:RelBy a t k r)(hn:∀op∈u,op.act.touch? =none):RelBy a (t++u) k r:=by
 refine h.app λi hi _ hc=>?_
 obtain⟨x,hx,_⟩:=hc
 obtain⟨op,ag,hox⟩:=touch_of hx
 rcases getElem?_append_cases ag with ⟨hlt,_⟩|⟨_,hou⟩
 ·omega
 ·rw[hn op hou] at hox;cases hox
def o8(x:MemAct):Prop:=x≠.mark .disable/\x≠.mark .enable
theorem nt(t:Trace)(g:Nat):∀(l:List MemOp),(∀op∈l,o8 op.act)->Deaf (t++l.toArray) g=Deaf t g:=by
 intro l hl
 rw[Deaf_append]
 have:∀(l:List MemOp) (d:Nat),(∀op∈l,o8 op.act)->l.foldl (deafStep g) d=d:=by
  intro l
  induction l with
  |nil=>intro d _;rfl
  |cons y l ih=>
   intro d h
   rw[Zy]
   have hy:deafStep g d y=d:=by
    have:=h y (by simp)
    unfold deafStep
    split
    ·rename_i e;exact absurd e this.1
    ·rename_i e;exact absurd e this.2
    ·rfl
   rw[hy]
   exact ih d λop ag=>h op (by simp[ag])
 exact this l _ hl
end
end
section
open Go.Conc
open Go.ConcN (upd upd_same upd_ne sumTo sumTo_upd sumTo_congr RelBy)
structure PC(L:aB) where
 E:Entry L
 M:Mn
 c:Frame
 cs:List Frame
 n0:Nat
 nW:Nat
 a:Nat->Int
 Sh:Nat->Prop
 g0:Array Goroutine
section
variable {L:aB}
def PC.p(X:PC L):Pl:=X.M.toPl
def PC.num(X:PC L)(i:Nat):Value:= .int .i64 (IntKind.i64.wrap (X.E.first+i))
def PC.fY(X:PC L)(i:Nat):Value:= .agg #[X.num i,.int .u64 (X.a i)]
structure aP(T:aT)(Goal:Frame->List Frame->World->Prop)(X:PC L):Prop where
 A:eO L T Goal
 K:iC L X.E
 mJ:∀i,i< X.E.n->tK Goal X.E i (X.a i)
 first:X.M.first=X.E.first
 count:X.M.count=X.E.n
 ix:X.M.ix=X.E.y2
 nn:X.E.n=1\/X.E.n=4\/X.E.n=16\/X.E.n=64
 nw:(X.E.n=1/\X.nW=1)\/(X.E.n≠1/\X.nW=4)
 bT:X.M.bT=X.E.v0.heap.size
 cN:X.M.cN=X.E.v0.heap.size+1
 bN:X.M.bN=X.E.v0.heap.size+2
 cB:X.M.cB=X.E.v0.heap.size+3
 bB:X.M.bB=X.E.v0.heap.size+4
 wg:X.M.wg=X.E.v0.heap.size+5
 n0:0< X.n0
 sh:∀b,X.Sh b->b< X.E.v0.heap.size
 AG:∀r s,X.E.ρ r s->¬ X.Sh s
inductive Wk where
 |load (n:Nat)
 |recv (n:Nat) (xs:Nat->Value)
 |dh (xs:Nat->Value)
 |woken (xs:Nat->Value)
 |draw (n i:Nat) (xs:Nat->Value)
 |ops (i:Nat) (l:List Nat) (xs:Nat->Value)
 |text (i:Nat) (l:List Nat) (xs:Nat->Value) (s:jC)
 |jG (i:Nat) (l:List Nat) (xs:Nat->Value) (s:jC)
 |conv (n:Nat) (xs:Nat->Value)
 |oT (xs:Nat->Value)
 |ef (n:Nat) (xs:Nat->Value)
 |add (n:Nat) (xs:Nat->Value)
 |gT (n:Nat) (xs:Nat->Value)
 |gH (n:Nat) (xs:Nat->Value)
 |gf (n:Nat) (xs:Nat->Value)
 |quit (q:Nat)
def Wk.ah:Wk->Nat
 | .load _=>10| .recv .. =>9| .woken _=>9| .dh _=>8| .conv .. =>7| .oT _=>6| .ef .. =>5| .add .. =>4| .gT .. =>3| .gH .. =>2| .gf .. =>1| .quit _=>0
 | .draw .. =>60
 | .ops _ l _=>21+2*l.length
 | .text _ l _ _=>22+2*l.length
 | .jG _ l _ _=>22+2*l.length
def Wk.idle:Wk->Nat
 | .load n=>n| .recv n _=>n| .draw n _ _=>n| .conv n _=>n| .ef n _=>n| .add n _=>n| .gT n _=>n| .gH n _=>n| .gf n _=>n| .quit q=>q
 |_=>0
def Wk.tree:Wk->Option jC
 | .text _ _ _ s=>some s
 | .jG _ _ _ s=>some s
 |_=>none
def Wk.cnt:Wk->Nat
 | .gT .. | .gH .. | .gf .. | .quit _=>0
 |_=>1
def Wk.bJ:Wk->Option Nat
 | .draw _ i _=>some i
 | .ops i _ _=>some i
 | .text i _ _ _=>some i
 | .jG i _ _ _=>some i
 |_=>none
def Wk.parked:Wk->Bool
 | .dh _=>true
 |_=>false
def Wk.rel:Wk->Bool
 | .ef .. | .add .. | .gT .. | .gH .. | .gf .. | .quit _=>true
 |_=>false
structure uO(Goal:Frame->List Frame->World->Prop)(X:PC L)(i:Nat)(l:List Nat)(xs:Nat->Value):Prop where
 jq:jq l=true
 lt:i< X.E.n
 x4:xs 4=X.num i
 d0:l.contains 0=false->xs 9= .chan (some X.M.cB)
 d1:l.contains 1=false->xs 10=X.num i
 d2:l.contains 2=false->xs 11=X.E.y2
 d3:l.contains 3=false->xs 12=X.num i
 d4:l.contains 4=false->l.contains 5=true->∃t,xs 13= .string t/\yT Goal X.E (X.a i) t
 d5:l.contains 5=false->xs 14= .int .u64 (X.a i)
 d6:l.contains 6=false->xs 15=X.fY i
noncomputable def below(X:PC L)(xs:Nat->Value)(l:List Nat):List Frame:=(bj X.p xs l).frame::(bj X.p xs l).callers
noncomputable def jD(X:PC L)(xs:Nat->Value):Goroutine:=parked (gS X.p xs) (qB X.p) (.recv true)
def gK(T:aT)(Goal:Frame->List Frame->World->Prop)(X:PC L)(ow:Nat->Prop)(d:Nat)(g:Goroutine)(v:World):Wk->Prop
 | .load n=>aH Pg false n g (qg X.p)/\d=0
 | .recv n xs=>aH Pg false n g (gS X.p xs)/\d=0
 | .dh xs=>g=jD X xs/\d=0
 | .woken xs=>g= {jD X xs with status:= .running}/\d=0
 | .draw n i xs=>aH Pg false n g (o6 X.p xs)/\d=0/\i< X.E.n/\xs 4=X.num i
 | .ops i l xs=>g=bj X.p xs l/\d=0/\l≠[]/\uO Goal X i l xs
 | .text i l xs s=>d=0/\uO Goal X i (4::l) xs/\∃Y,Y 7= .int .u64 (X.a i)/\gN L T Goal X.E (qF X.E 5 0 Y) (below X xs (4::l)) ow s g v
 | .jG i l xs s=>d=0/\uO Goal X i (5::l) xs/\∃Y,Y 7= .int .u64 (X.a i)/\gN L T Goal X.E (qF X.E 5 2 Y) (below X xs (5::l)) ow s g v
 | .conv n xs=>aH Pg false n g (uM (cD X.p xs::fN X.p xs) X.M.wg)/\d=0
 | .oT xs=>g=pD (cD X.p xs::fN X.p xs) X.M.wg/\d=0
 | .ef n xs=>aH Pg false n g (oJ (cD X.p xs::fN X.p xs) X.M.wg)/\d=0
 | .add n xs=>aH Pg false n g (pZ (cD X.p xs::fN X.p xs) X.M.wg)/\d=1
 | .gT n xs=>aH Pg false n g (qn (cD X.p xs) (fN X.p xs) X.M.wg)/\d=1
 | .gH n xs=>aH Pg false n g (qf (cD X.p xs) (fN X.p xs) X.M.wg)/\d=1
 | .gf n xs=>aH Pg false n g (nK (cD X.p xs) (fN X.p xs) X.M.wg)/\d=1
 | .quit q=>QuitsD Pg q d g
inductive Mt where
 |ef (i n:Nat) (xs:Nat->Value)|add (i n:Nat) (xs:Nat->Value)|cv (i n:Nat) (xs:Nat->Value)|rd (i:Nat) (xs:Nat->Value)|en1 (i n:Nat) (xs:Nat->Value)|en (i n k:Nat) (xs:Nat->Value)|go (i n:Nat) (xs:Nat->Value)
 |ld (j n:Nat) (xs:Nat->Value)|sd (j n:Nat) (xs:Nat->Value)|lc (n:Nat) (xs:Nat->Value)|cl (xs:Nat->Value)
 |wd (n:Nat) (xs:Nat->Value)|wl (n:Nat) (xs ys:Nat->Value)|zen (n:Nat) (xs ys:Nat->Value)|zc (n:Nat) (xs ys:Nat->Value)|za (xs ys:Nat->Value)
 |fF (k n:Nat) (xs ys:Nat->Value)|hcv (k n:Nat) (xs ys:Nat->Value)|hwr (k:Nat) (xs ys:Nat->Value)|dW (n:Nat) (xs ys:Nat->Value)|blk (xs ys:Nat->Value)
 |l2 (n:Nat) (xs ys:Nat->Value)|en2 (n:Nat) (xs ys:Nat->Value)|ac (n:Nat) (xs ys:Nat->Value)|aq (xs ys:Nat->Value)|fin (n:Nat) (xs:Nat->Value)
def aM:Nat:=4294967296
def Mt.ah(c:Nat):Mt->Nat
 | .ef i _ _=>2060+100*(4 - i)| .add i _ _=>2050+100*(4 - i)| .cv i _ _=>2045+100*(4 - i)| .rd i _=>2044+100*(4 - i)| .en1 i _ _=>2040+100*(4 - i)| .en i _ _ _=>2040+100*(4 - i)| .go i _ _=>2030+100*(4 - i)
 | .ld j _ _=>202+3*(64 - j)| .sd j _ _=>201+3*(64 - j)| .lc .. =>190| .cl _=>180| .wd .. =>160| .wl .. =>140| .fF k _ _ _=>if k=c then 130 else 141
 | .zen .. =>120| .zc .. =>119| .za .. =>118| .hcv .. =>129| .hwr .. =>128| .dW .. =>127| .blk .. =>127| .l2 .. =>126| .en2 .. =>125| .ac .. =>124| .aq .. =>123| .fin .. =>0
def Mt.idle:Mt->Nat
 | .ef _ n _=>n| .add _ n _=>n| .cv _ n _=>n| .en1 _ n _=>n| .en _ n _ _=>n| .go _ n _=>n| .ld _ n _=>n| .sd _ n _=>n| .lc n _=>n| .wd n _=>n| .wl n _ _=>n| .zen n _ _=>n| .zc n _ _=>n
 | .fF _ n _ _=>n| .hcv _ n _ _=>n| .dW n _ _=>n+1| .l2 n _ _=>n| .en2 n _ _=>n| .ac n _ _=>n| .fin n _=>n
 |_=>0
def Mt.bu(X:PC L):Mt->Nat
 | .ef .. | .add .. | .cv .. | .rd .. | .en1 .. | .en .. | .go .. =>0
 | .ld j _ _=>j
 | .sd j _ _=>j
 |_=>X.E.n
def Mt.on(X:PC L):Mt->Nat
 | .ef i _ _=>i| .add i _ _=>i| .cv i _ _=>i| .rd i _=>i| .en1 i _ _=>i| .en i _ _ _=>i| .go i _ _=>i
 |_=>X.nW
def Mt.shut:Mt->Bool
 | .ef .. | .add .. | .cv .. | .rd .. | .en1 .. | .en .. | .go .. | .ld .. | .sd .. | .lc .. | .cl _=>false
 |_=>true
def Mt.eA:Mt->Nat
 | .cv .. | .rd .. | .en1 .. | .en .. | .go .. =>1
 |_=>0
def Mt.deaf:Mt->Nat
 | .add .. | .cv .. | .rd .. | .en1 .. | .en .. | .wl .. | .zen .. | .fF .. | .hcv .. | .hwr .. | .dW .. | .blk .. | .l2 .. | .en2 .. =>1
 |_=>0
def PC.ds(X:PC L):List Frame:=X.c::X.cs
noncomputable def PC.mc(X:PC L)(i:Nat)(xs:Nat->Value):Frame:=j9 X.M xs X.ds X.nW i
noncomputable def PC.wc(X:PC L)(xs:Nat->Value):Frame:=xB X.M xs X.ds X.E.n
def bY(X:PC L)(h:Goroutine):Mt->Prop
 | .ef i n xs=>aH Pg true n h (lX (X.mc i xs) X.ds X.M.wg)/\i< X.nW
 | .add i n xs=>aH Pg true n h (qk (X.mc i xs) X.ds X.M.wg)/\i< X.nW
 | .cv i n xs=>aH Pg true n h (mh (X.mc i xs) X.ds X.M.wg)/\i< X.nW
 | .rd i xs=>h=fin (mh (X.mc i xs) X.ds X.M.wg) (jd X.M.wg)/\i< X.nW
 | .en1 i n xs=>aH Pg true n h (q6 (X.mc i xs) X.ds X.M.wg)/\i< X.nW
 | .en i n k xs=>aH Pg true n h (gQ (X.mc i xs) X.ds X.M.wg (k*aM:Nat))/\i< X.nW/\2<=k/\k<=4
 | .go i n xs=>aH Pg true n h (cC X.M xs X.ds X.nW i)/\i< X.nW
 | .ld j n xs=>aH Pg true n h (mM X.M xs X.ds j)/\j< X.E.n
 | .sd j n xs=>aH Pg true n h (iT X.M xs X.ds j)/\j< X.E.n
 | .lc n xs=>aH Pg true n h (o9 X.M xs X.ds X.E.n)
 | .cl xs=>h=jo X.M xs X.ds X.E.n
 | .wd n xs=>aH Pg true n h (mj (X.wc xs) X.ds X.M.wg)
 | .wl n xs ys=>aH Pg true n h (pU (X.wc xs) X.ds X.M.wg ys)
 | .zen n xs ys=>aH Pg true n h (pV (X.wc xs) X.ds X.M.wg ys)
 | .zc n xs ys=>aH Pg true n h (lz (X.wc xs) X.ds X.M.wg ys)
 | .za xs ys=>h=fin (lz (X.wc xs) X.ds X.M.wg ys) (ptr X.M.wg)
 | .fF k n xs ys=>aH Pg true n h (dq (X.wc xs) X.ds X.M.wg ys (k*aM:Nat))/\1<=k/\k<=4
 | .hcv k n xs ys=>aH Pg true n h (j5 (X.wc xs) X.ds X.M.wg ys (k*aM:Nat))/\1<=k/\k<=4
 | .hwr k xs ys=>h=dC (X.wc xs) X.ds X.M.wg ys (k*aM:Nat)/\1<=k/\k<=4
 | .dW n xs ys=>aH Pg true n h (iz (X.wc xs) X.ds X.M.wg ys)
 | .blk xs ys=>h= {iz (X.wc xs) X.ds X.M.wg ys with status:= .blocked}
 | .l2 n xs ys=>aH Pg true n h (oW (X.wc xs) X.ds X.M.wg ys)
 | .en2 n xs ys=>aH Pg true n h (o5 (X.wc xs) X.ds X.M.wg ys)
 | .ac n xs ys=>aH Pg true n h (lA (X.wc xs) X.ds X.M.wg ys)
 | .aq xs ys=>h=fin (lA (X.wc xs) X.ds X.M.wg ys) (ptr X.M.wg)
 | .fin n xs=>aH Pg true n h (mG X.M xs X.ds X.E.n)
structure PS where
 mt:Mt
 j:Nat
 ws:Nat->Wk
 ow:Nat->Nat->Prop
 q:Nat->Nat
 bZ:List Nat
 rN:Nat
 cX:List Nat
 st:Nat
 sm:Nat
def PS.c(s:PS):Nat:=sumTo s.j λk=>(s.ws k).cnt
def PS.phi(X:PC L)(s:PS):Nat:=s.mt.ah s.c+sumTo s.j (λk=>(s.ws k).ah)+12*s.c+60*(X.E.n - s.rN)
def PS.kg(s:PS):Nat->Option jC:=λk=>if k< s.j then (s.ws k).tree else none
def PS.sD(X:PC L)(s:PS):Nat:=s.mt.idle+2*sumTo s.j (λk=>(s.ws k).idle)+2*sumTo X.n0 s.q
structure Gs(T:aT)(Goal:Frame->List Frame->World->Prop)(X:PC L)(s:PS)(gs:Array Goroutine)(v:World)(t:Trace):Prop where
 size:gs.size=X.n0+s.j
 main: ∃h,gs[0]? =some h/\bY X h s.mt
 work:∀k,k< s.j->∃g,gs[X.n0+k]? =some g/\gK T Goal X (s.ow k) (Deaf t (X.n0+k)) g v (s.ws k)
 jP:∀i g,0< i->i< X.n0->gs[i]? =some g->QuitsD Pg (s.q i) (Deaf t i) g
 above:∀i,gs.size<=i->Deaf t i=0
structure Wd(X:PC L)(s:PS)(v:World):Prop where
 old:q7 X.E v
 size:X.M.wg< v.heap.size
 bT:v.heap[X.M.bT]? =some (.cells #[X.M.ix] 79)
 bN:v.heap[X.M.bN]? =some (.cells #[.chan (some X.M.cN)] 178)
 bB:v.heap[X.M.bB]? =some (.cells #[.chan (some X.M.cB)] 179)
 cN:v.heap[X.M.cN]? =some (.chan X.E.n (s.bZ.map X.num).toArray s.mt.shut (s.mt.bu X) s.rN false)
 cB: ∃sB,v.heap[X.M.cB]? =some (.chan X.E.n (s.cX.map X.fY).toArray false sB 0 false)
 wg:v.heap[X.M.wg]? =some (.cells #[.int .u64 s.st,.int .u32 s.sm] 188)
 tape:v.tape=X.E.v0.tape
 os:v.os=X.E.v0.os
 output:v.output=X.E.v0.output
structure Ac(X:PC L)(s:PS):Prop where
 on:s.j=s.mt.on X
 bu:s.mt.bu X<=X.E.n
 kQ:s.rN+s.bZ.length=s.mt.bu X
 cover:∀i,i< s.mt.bu X->i∈s.bZ\/i∈s.cX\/∃k,k< s.j/\(s.ws k).bJ=some i
 count:s.bZ.length+sumTo s.j (λk=>if (s.ws k).bJ.isSome then 1 else 0)+s.cX.length<=s.mt.bu X
 ew:∀i∈s.bZ,i< X.E.n
 okB:∀i∈s.cX,i< X.E.n
 dh:∀k,k< s.j->(s.ws k).parked=true->s.bZ= []/\s.mt.shut=false
 gone:∀k,k< s.j->(s.ws k).ah<=7->s.mt.shut=true/\s.bZ= []
def kp:Mt->Bool
 | .fF .. | .wl .. | .wd .. | .lc .. | .cl _| .ld .. | .sd .. | .ef .. | .add .. | .cv .. | .rd .. | .en1 .. | .en .. | .go .. =>true
 |_=>false
def jA:Mt->Bool
 | .hcv .. | .hwr .. | .dW .. | .blk .. =>true
 |_=>false
def lN:Mt->Bool
 | .blk .. =>true
 |_=>false
def ql(s:PS):Prop:=∀k,k< s.j->(s.ws k).ah=0\/4<=(s.ws k).ah
def pw(s:PS):Prop:=∀k,k< s.j->(s.ws k).ah=0
inductive Wg (s:PS):Prop
 |opn:kp s.mt=true->ql s->s.st=(s.c+s.mt.eA)*aM->s.sm=0->(∀k n xs ys,s.mt= .fF k n xs ys->s.c<=k)->Wg s
 |dK:jA s.mt=true->ql s->1<=s.c->s.st=s.c*aM+1->s.sm=0->Wg s
 |last (k:Nat):jA s.mt=true->k< s.j->1<=(s.ws k).ah->(s.ws k).ah<=3->(∀i,i< s.j->i≠k->(s.ws i).ah=0)->s.st=(if (s.ws k).ah=1 then 0 else 1)->s.sm=0->Wg s
 |fC:jA s.mt=true->lN s.mt=false->pw s->s.st=0->s.sm=1->Wg s
 |done:kp s.mt=false->jA s.mt=false->pw s->s.st=0->s.sm=0->Wg s
def iB(X:PC L)(s:PS):oq where
 ro b:=(b< X.E.v0.heap.size/\¬ X.Sh b)\/b=X.M.bT\/b=X.M.bN\/b=X.M.bB
 ow k b:=∃i,i< s.j/\k=X.n0+i/\s.ow i b
 qu b:=b=X.M.wg\/b=X.M.cN\/b=X.M.cB
def fp(X:PC L)(s:PS)(k:Nat):Prop:=X.n0<=k/\k< X.n0+s.j
abbrev bC(X:PC L):Addr:=⟨X.M.wg,0,none⟩
structure Tr(X:PC L)(s:PS)(v:World)(t:Trace):Prop where
 tp:TP (iB X s) X.Sh (λk=>k=0\/fp X s k) (fp X s) v.heap.size t
 own:∀i b,i< s.j->s.ow i b->X.M.wg< b/\b< v.heap.size
 apart:∀i i' b,i< s.j->i'< s.j->s.ow i b->s.ow i' b->i=i'
 rel:∀k,k< s.j->(s.ws k).rel=true->∃r,RelBy (bC X) t (X.n0+k) r
 norel:NoRelease (bC X) t
 d0:Deaf t 0=s.mt.deaf
 acq:∀n xs,s.mt= .fin n xs->∃q,t.act? q=some (.mark (.acquire (bC X)))/\t.g? q=some 0/\t.heard q/\∀k,k< s.j->∃r,RelBy (bC X) t (X.n0+k) r/\r< q
structure PI(T:aT)(Goal:Frame->List Frame->World->Prop)(X:PC L)(s:PS)(gs:Array Goroutine)(v:World)(t:Trace):Prop where
 gs:Gs T Goal X s gs v t
 wd:Wd X s v
 ac:Ac X s
 wg:Wg s
 tr:Tr X s v t
end
end
section
open Go.Conc
open Go.ConcN (upd upd_same upd_ne sumTo sumTo_upd sumTo_congr RelBy)
theorem aH.run{P:Program}{m:Bool}{n:Nat}{g g1:Goroutine}(h:aH P m n g g1)(h1:g1.status= .running):g.status= .running:=by
 cases h with
 |refl=>exact h1
 |step hs _ _=>exact hs
theorem aH.dG{P:Program}{m:Bool}{n:Nat}{g g1:Goroutine}(h:aH P m n g g1):(n=0/\g=g1)\/∃k g',n=k+1/\(∀w,stepG P m g w= .go g' w #[])/\aH P m k g' g1:=by
 cases h with
 |refl=>exact .inl ⟨rfl,rfl⟩
 |step _ hs h=>exact .inr ⟨_,_,rfl,hs,h⟩
section
variable {L:aB} {T:aT} {Goal:Frame->List Frame->World->Prop} {X:PC L}
theorem gK.me{ow:Nat->Prop}{d:Nat}{g:Goroutine}{v v2:World}{σ:Wk}(h:gK T Goal X ow d g v σ)(hs:v.heap.size<=v2.heap.size)(ho:∀t,(∃r,X.E.ρ r t)\/ow t->v2.heap[t]? =v.heap[t]?):gK T Goal X ow d g v2 σ:=by
 cases σ with
 |text i l xs s=>obtain⟨h1,h2,Y,h3,h4⟩:=h;exact⟨h1,h2,Y,h3,h4.me hs ho⟩
 |jG i l xs s=>obtain⟨h1,h2,Y,h3,h4⟩:=h;exact⟨h1,h2,Y,h3,h4.me hs ho⟩
 |_=>exact h
theorem Fq(p:Pl)(xs:Nat->Value)(l:List Nat):(bj p xs l).status= .running:=by kernel_rfl
theorem gK.status{ow:Nat->Prop}{d:Nat}{g:Goroutine}{v:World}{σ:Wk}(h:gK T Goal X ow d g v σ):(σ.parked=false/\(g.status= .running\/g.status= .finished))\/(∃xs,σ= .dh xs/\g=jD X xs):=by
 cases σ with
 |load n=>exact .inl ⟨rfl,.inl (h.1.run (wH _).2.1)⟩
 |recv n xs=>exact .inl ⟨rfl,.inl (h.1.run (xr _ _).2.1)⟩
 |dh xs=>exact .inr ⟨xs,rfl,h.1⟩
 |woken xs=>exact .inl ⟨rfl,.inl (by rw[h.1])⟩
 |draw n i xs=>exact .inl ⟨rfl,.inl (h.1.run (Ei _ _))⟩
 |ops i l xs=>exact .inl ⟨rfl,.inl (by rw[h.1];exact Fq _ _ _)⟩
 |text i l xs s=>obtain⟨_,_,Y,_,h4⟩:=h;exact .inl ⟨rfl,.inl h4.running⟩
 |jG i l xs s=>obtain⟨_,_,Y,_,h4⟩:=h;exact .inl ⟨rfl,.inl h4.running⟩
 |conv n xs=>exact .inl ⟨rfl,.inl (h.1.run (yr _ _).2.1)⟩
 |oT xs=>exact .inl ⟨rfl,.inl (by rw[h.1];exact E3 _ _)⟩
 |ef n xs=>exact .inl ⟨rfl,.inl (h.1.run (EF _ _))⟩
 |add n xs=>exact .inl ⟨rfl,.inl (h.1.run (yy _ _).2.1)⟩
 |gT n xs=>exact .inl ⟨rfl,.inl (h.1.run (xl _ _ _).2.1)⟩
 |gH n xs=>exact .inl ⟨rfl,.inl (h.1.run (yc _ _ _).2.1)⟩
 |gf n xs=>exact .inl ⟨rfl,.inl (h.1.run (xJ _ _ _).2.1)⟩
 |quit q=>exact .inl ⟨rfl,(show QuitsD Pg q d g from h).status⟩
theorem rG(X:PC L):qB X.p=#[rcase X.M.cN (.int .i64 0)]:=rfl
theorem gK.woken{ow:Nat->Prop}{d:Nat}{g:Goroutine}{v:World}{σ:Wk}(h:gK T Goal X ow d g v σ)(a a':Goroutine){v1:World}(hc:σ.parked=true->∃cap buf s r tm,v1.heap[X.M.cN]? =some (.chan cap buf false s r tm)):Go.Conc.woken Pg a a' v1 g=g:=by
 rcases h.status with ⟨_,hs⟩|⟨xs,rfl,rfl⟩
 ·unfold Go.Conc.woken
  split
  ·exact again_running _ hs
  ·rfl
 ·obtain⟨cap,buf,s,r,tm,hc⟩:=hc rfl
  unfold jD
  rw[rG]
  exact woken_recv_open _ _ hc
theorem Hr(M:Mn)(xs:Nat->Value)(cs:List Frame){nW i:Nat}(h:(nW=1\/nW=4)/\i< nW):(cC M xs cs nW i).status= .running:=by
 obtain⟨h1,h2⟩:=h
 rcases h1 with rfl|rfl
 ·obtain rfl:i=0:=by omega
  exact T6 M xs cs
 ·rcases (show i=0\/i=1\/i=2\/i=3 by omega) with rfl|rfl|rfl|rfl
  ·exact Jd M xs cs
  ·exact TD M xs cs
  ·exact SV M xs cs
  ·exact VQ M xs cs
theorem Ki(c:Frame)(cs:List Frame)(wg:Nat){k:Nat}(h:2<=k/\k<=4):(gQ c cs wg (k*aM:Nat)).status= .running:=by
 rcases (show k=2\/k=3\/k=4 by omega) with rfl|rfl|rfl
 ·exact VP c cs wg
 ·exact SZ c cs wg
 ·exact Wb c cs wg
theorem yp(c:Frame)(cs:List Frame)(wg:Nat)(ys:Nat->Value){k:Nat}(h:1<=k/\k<=4):aI Pg true (dq c cs wg ys (k*aM:Nat)):=by
 rcases (show k=1\/k=2\/k=3\/k=4 by omega) with rfl|rfl|rfl|rfl
 ·exact GB c cs wg ys
 ·exact Vy c cs wg ys
 ·exact Xi c cs wg ys
 ·exact GZ c cs wg ys
theorem A0(c:Frame)(cs:List Frame)(wg:Nat)(ys:Nat->Value){k:Nat}(h:1<=k/\k<=4):aI Pg true (j5 c cs wg ys (k*aM:Nat)):=by
 rcases (show k=1\/k=2\/k=3\/k=4 by omega) with rfl|rfl|rfl|rfl
 ·exact OV c cs wg ys
 ·exact JP c cs wg ys
 ·exact Pj c cs wg ys
 ·exact Jk c cs wg ys
theorem WJ(c:Frame)(cs:List Frame)(wg:Nat)(ys:Nat->Value){k:Nat}(h:1<=k/\k<=4):(dC c cs wg ys (k*aM:Nat)).status= .running:=by
 rcases (show k=1\/k=2\/k=3\/k=4 by omega) with rfl|rfl|rfl|rfl
 ·exact Xm c cs wg ys
 ·exact Kx c cs wg ys
 ·exact Wt c cs wg ys
 ·exact WG c cs wg ys
theorem aP.nW(O:aP T Goal X):X.nW=1\/X.nW=4:=O.nw.imp (·.2) (·.2)
theorem bY.status(O:aP T Goal X){h:Goroutine}{mt:Mt}(hm:bY X h mt):(lN mt=false/\h.status= .running)\/∃xs ys,mt= .blk xs ys/\h= {iz (X.wc xs) X.ds X.M.wg ys with status:= .blocked}:=by
 cases mt with
 |ef i n xs=>exact .inl ⟨rfl,hm.1.run (Pr _ _ _)⟩
 |add i n xs=>exact .inl ⟨rfl,hm.1.run (EW _ _ _).2.1⟩
 |cv i n xs=>exact .inl ⟨rfl,hm.1.run (EH _ _ _).2.1⟩
 |rd i xs=>exact .inl ⟨rfl,by rw[hm.1];exact N9 _ _ _⟩
 |en1 i n xs=>exact .inl ⟨rfl,hm.1.run (NA _ _ _)⟩
 |en i n k xs=>exact .inl ⟨rfl,hm.1.run (Ki _ _ _ hm.2.2)⟩
 |go i n xs=>exact .inl ⟨rfl,hm.1.run (Hr _ _ _ ⟨O.nW,hm.2⟩)⟩
 |ld j n xs=>exact .inl ⟨rfl,hm.1.run (zk _ _ _ _).2.1⟩
 |sd j n xs=>exact .inl ⟨rfl,hm.1.run (BC _ _ _ _).2.1⟩
 |lc n xs=>exact .inl ⟨rfl,aH.run hm (Ap _ _ _ _).2.1⟩
 |cl xs=>exact .inl ⟨rfl,by rw[show h=_ from hm];exact (AO _ _ _ _).2.1⟩
 |wd n xs=>exact .inl ⟨rfl,aH.run hm (Pd _ _ _)⟩
 |wl n xs ys=>exact .inl ⟨rfl,aH.run hm (Dz _ _ _ _).2.1⟩
 |zen n xs ys=>exact .inl ⟨rfl,aH.run hm (XA _ _ _ _)⟩
 |zc n xs ys=>exact .inl ⟨rfl,aH.run hm (BD _ _ _ _).2.1⟩
 |za xs ys=>exact .inl ⟨rfl,by rw[show h=_ from hm];exact Mc _ _ _ _⟩
 |fF k n xs ys=>exact .inl ⟨rfl,hm.1.run (yp _ _ _ _ hm.2).2.1⟩
 |hcv k n xs ys=>exact .inl ⟨rfl,hm.1.run (A0 _ _ _ _ hm.2).2.1⟩
 |hwr k xs ys=>exact .inl ⟨rfl,by rw[hm.1];exact WJ _ _ _ _ hm.2⟩
 |dW n xs ys=>exact .inl ⟨rfl,aH.run hm (vm _ _ _ _).2.1⟩
 |blk xs ys=>exact .inr ⟨xs,ys,rfl,hm⟩
 |l2 n xs ys=>exact .inl ⟨rfl,aH.run hm (DN _ _ _ _).2.1⟩
 |en2 n xs ys=>exact .inl ⟨rfl,aH.run hm (NY _ _ _ _)⟩
 |ac n xs ys=>exact .inl ⟨rfl,aH.run hm (D5 _ _ _ _).2.1⟩
 |aq xs ys=>exact .inl ⟨rfl,by rw[show h=_ from hm];exact JU _ _ _ _⟩
 |fin n xs=>exact .inl ⟨rfl,aH.run hm (zo _ _ _ _).2.1⟩
theorem bY.woken(O:aP T Goal X){h:Goroutine}{mt:Mt}(hm:bY X h mt)(a a':Goroutine)(v1:World): ∃mt',bY X (Go.Conc.woken Pg a a' v1 h) mt'/\(mt'=mt\/∃xs ys,mt= .blk xs ys/\mt'= .dW 0 xs ys)/\(mayWake Pg a=true->a'.status= .running->lN mt'=false):=by
 rcases hm.status O with ⟨hb,hs⟩|⟨xs,ys,rfl,rfl⟩
 ·exact⟨mt,by rw[woken_run hs];exact hm,.inl rfl,λ_ _=>hb⟩
 ·unfold Go.Conc.woken
  split
  ·refine⟨.dW 0 xs ys,?_,.inr ⟨xs,ys,rfl,rfl⟩,λ_ _=>rfl⟩
   show aH Pg true 0 _ _
   have e:Goroutine.again v1 {iz (X.wc xs) X.ds X.M.wg ys with status:= .blocked}=iz (X.wc xs) X.ds X.M.wg ys:=rfl
   rw[e]
   exact .refl _
  ·rename_i hw
   refine⟨_,hm,.inl rfl,λh1 h2=>absurd ?_ hw⟩
   rw[h1,h2]
   rfl
theorem ofEvents_g{g:Nat}{fn:FuncId}{pos:String}{es:Array Event}{op:MemOp}(h:op∈MemOp.ofEvents g fn pos es):op.g=g:=by
 obtain⟨e,_,rfl⟩:=Go.Conc.mem_ofEvents h
 rfl
theorem Gs.N8{s s':PS}{gs:Array Goroutine}{v v1:World}{t:Trace}(H:Gs T Goal X s gs v t)(O:aP T Goal X){h h1:Goroutine}{es:Array Event}(hM:bY X h1 s'.mt)(hs:v.heap.size<=v1.heap.size)(ho:∀b,((∃r,X.E.ρ r b)\/∃k,k< s.j/\s.ow k b)->v1.heap[b]? =v.heap[b]?)(hpark:∀k,k< s.j->(s.ws k).parked=true->∃cap buf a b tm,v1.heap[X.M.cN]? =some (.chan cap buf false a b tm))(e1:s'.j=s.j)(e2:s'.ws=s.ws)(e3:s'.ow=s.ow)(e4:s'.q=s.q)(fn:FuncId)(pos:String):
  Gs T Goal X s' ((gs.map (Go.Conc.woken Pg h h1 v1)).setIfInBounds 0 h1) v1 (t++MemOp.ofEvents 0 fn pos es):=by
 have hsz:0< gs.size:=by rw[H.size];have:=O.n0;omega
 have hdf:∀i,i≠0->Deaf (t++MemOp.ofEvents 0 fn pos es) i=Deaf t i:=λi hi=>Deaf_other t (Ne.symm hi) _ λop ag=>ofEvents_g ag
 refine⟨by simp[H.size,e1],⟨h1,by simp[hsz],hM⟩,λk hk=>?_,λi g hi hn hg=>?_,λi hi=>?_⟩
 ·rw[e1] at hk
  obtain⟨g,hg,hw⟩:=H.work k hk
  have hne:0≠X.n0+k:=by have:=O.n0;omega
  refine⟨g,?_,?_⟩
  ·rw[Ye hne,YL,hg]
   simp only[YO]
   rw[hw.woken h h1 (hpark k hk)]
  ·rw[hdf _ (by omega),e2,e3]
   exact hw.me hs λb hb=>ho b (hb.imp id λx=>⟨k,hk,x⟩)
 ·have hne:0≠i:=by omega
  rw[Ye hne,YL] at hg
  obtain⟨y,hy,rfl⟩:=Yq.1 hg
  have hq:=H.jP i y hi hn hy
  rw[woken_quitsD hq,hdf _ (by omega),e4]
  exact hq
 ·rw[hdf i (by simp at hi;omega)]
  exact H.above i (by simpa using hi)
theorem Gs.fx{s s':PS}{gs:Array Goroutine}{v v1:World}{t:Trace}(H:Gs T Goal X s gs v t)(O:aP T Goal X){k:Nat}(hk:k< s.j){g g1:Goroutine}{es:Array Event}{fn:FuncId}{pos:String}(hW:gK T Goal X (s'.ow k) (deafBehind (Deaf t (X.n0+k)) es) g1 v1 (s'.ws k))(hs:v.heap.size<=v1.heap.size)(ho:∀b,((∃r,X.E.ρ r b)\/∃i,i< s.j/\i≠k/\s.ow i b)->v1.heap[b]? =v.heap[b]?)(hpark:∀i,i< s.j->(s.ws i).parked=true->∃cap buf a b tm,v1.heap[X.M.cN]? =some (.chan cap buf false a b tm))(hm:∀h,gs[0]? =some h->bY X h s.mt->bY X (Go.Conc.woken Pg g g1 v1 h) s'.mt)(e1:s'.j=s.j)(e2:∀i,i≠k->s'.ws i=s.ws i)(e3:∀i,i≠k->s'.ow i=s.ow i)(e4:s'.q=s.q):
  Gs T Goal X s' ((gs.map (Go.Conc.woken Pg g g1 v1)).setIfInBounds (X.n0+k) g1) v1 (t++MemOp.ofEvents (X.n0+k) fn pos es):=by
 have hn0:=O.n0
 have hsz:X.n0+k< gs.size:=by rw[H.size];omega
 have hdf:∀i,i≠X.n0+k->Deaf (t++MemOp.ofEvents (X.n0+k) fn pos es) i=Deaf t i:=λi hi=>Deaf_other t (Ne.symm hi) _ λop ag=>ofEvents_g ag
 obtain⟨h,h0,hM⟩:=H.main
 refine⟨by simp[H.size,e1],⟨_,?_,hm h h0 hM⟩,λi hi=>?_,λi x hi hn hg=>?_,λi hi=>?_⟩
 ·rw[Ye (by omega),YL,h0]
  rfl
 ·rw[e1] at hi
  by_cases hik:i=k
  ·subst hik
   refine⟨g1,by rw[YT (by simpa using hsz)],?_⟩
   rw[Deaf_own]
   exact hW
  ·obtain⟨x,hx,hw⟩:=H.work i hi
   refine⟨x,?_,?_⟩
   ·rw[Ye (by omega),YL,hx]
    simp only[YO]
    rw[hw.woken g g1 (hpark i hi)]
   ·rw[hdf _ (by omega),e2 i hik,e3 i hik]
    exact hw.me hs λb hb=>ho b (hb.imp id λx=>⟨i,hi,hik,x⟩)
 ·rw[Ye (by omega),YL] at hg
  obtain⟨y,hy,rfl⟩:=Yq.1 hg
  have hq:=H.jP i y hi hn hy
  rw[woken_quitsD hq,hdf _ (by omega),e4]
  exact hq
 ·simp only[YK,Array.size_map] at hi
  rw[hdf i (by rw[H.size] at hi;omega)]
  exact H.above i hi
end
end
section
open Go.Conc
open Go.ConcN (upd upd_same upd_ne sumTo sumTo_upd sumTo_congr RelBy)
section
variable {L:aB} {T:aT} {Goal:Frame->List Frame->World->Prop} {X:PC L}
theorem Ql(O:aP T Goal X){s:PS}{v:World}(h1:∀i b,i< s.j->s.ow i b->X.M.wg< b/\b< v.heap.size)(h2:∀i i' b,i< s.j->i'< s.j->s.ow i b->s.ow i' b->i=i'):yd (iB X s):=by
 have e1:=O.bT;have e2:=O.cN;have e3:=O.bN;have e4:=O.cB;have e5:=O.bB;have e6:=O.wg
 refine⟨?_,?_,?_,?_⟩
 ·rintro k k' b ⟨i,hi,rfl,hb⟩ ⟨i',hi',rfl,hb'⟩
  rw[h2 i i' b hi hi' hb hb']
 ·rintro k b ⟨i,hi,rfl,hb⟩ hr
  have:=(h1 i b hi hb).1
  rcases hr with ⟨hr,_⟩|hr|hr|hr<;>omega
 ·rintro k b ⟨i,hi,rfl,hb⟩ hq
  have:=(h1 i b hi hb).1
  rcases hq with hq|hq|hq<;>omega
 ·intro b hr hq
  rcases hr with ⟨hr,_⟩|hr|hr|hr<;>rcases hq with hq|hq|hq<;>omega
theorem Tr.step{s s':PS}{v v1:World}{t:Trace}(H:Tr X s v t)(O:aP T Goal X){g:Nat}(hg:g=0\/fp X s g){es:Array Event}{fn:FuncId}{pos:String}(hj:s'.j=s.j)(hv:v.heap.size<=v1.heap.size)(how:∀i b,i< s.j->s'.ow i b->s.ow i b\/(v.heap.size<=b/\b< v1.heap.size/\g=X.n0+i))(hwg:X.M.wg< v.heap.size)(hok:∀e∈es,∀a,(MemAct.ofEvent e).touch? =some a->a.loc.isMemory=true/\mA (iB X s') g a)(hlow:∀e∈es,(MemAct.ofEvent e).low v1.heap.size)(hrel:∀k,k< s.j->(s'.ws k).rel=true->∃r,RelBy (bC X) (t++MemOp.ofEvents g fn pos es) (X.n0+k) r)(aZ:∀e∈es,e.loc≠.mark (.release (bC X)))(hd:(if g=0 then deafBehind (Deaf t 0) es else Deaf t 0)=s'.mt.deaf)(hacq:∀n xs,s'.mt= .fin n xs->∃q,(t++MemOp.ofEvents g fn pos es).act? q=some (.mark (.acquire (bC X)))/\(t++MemOp.ofEvents g fn pos es).g? q=some 0/\(t++MemOp.ofEvents g fn pos es).heard q/\∀k,k< s.j->∃r,RelBy (bC X) (t++MemOp.ofEvents g fn pos es) (X.n0+k) r/\r< q):
  Tr X s' v1 (t++MemOp.ofEvents g fn pos es):=by
 have own':∀i b,i< s'.j->s'.ow i b->X.M.wg< b/\b< v1.heap.size:=λi b hi hb=>by
  rw[hj] at hi
  rcases how i b hi hb with hb|⟨h1,h2,_⟩
  ·have:=H.own i b hi hb;omega
  ·omega
 have apart':∀i i' b,i< s'.j->i'< s'.j->s'.ow i b->s'.ow i' b->i=i':=λi i' b hi hi' hb hb'=>by
  rw[hj] at hi hi'
  rcases how i b hi hb with hb|⟨h1,h2,h3⟩<;>rcases how i' b hi' hb' with hb'|⟨h1',h2',h3'⟩
  ·exact H.apart i i' b hi hi' hb hb'
  ·have:=(H.own i b hi hb).2;omega
  ·have:=(H.own i' b hi' hb').2;omega
  ·omega
 have hlive:(λk=>k=0\/fp X s' k)=(λk=>k=0\/fp X s k):=by funext k;simp only[fp,hj]
 have hwk:fp X s'=fp X s:=by funext k;simp only[fp,hj]
 refine⟨?_,own',apart',λk hk=>hrel k (hj ▸ hk),?_,?_,λn xs e=>hj ▸ hacq n xs e⟩
 ·rw[hlive,hwk]
  have h1:TP (iB X s') X.Sh (λk=>k=0\/fp X s k) (fp X s) v1.heap.size t:=by
   refine H.tp.grow hv (λk b=>?_) (λb hb=> .inl hb) (λb hb=> .inl hb) (λb hb=>hb)
   rintro⟨i,hi,rfl,hb⟩
   rw[hj] at hi
   rcases how i b hi hb with hb|⟨h1,_⟩
   ·exact .inl ⟨i,hi,rfl,hb⟩
   ·exact .inr h1
  refine h1.app (Ql O (v:=v1) own' apart') (k:=g) hg hg (λop ag=>ofEvents_g ag) (λop ag a ha=>?_) (λop ag=>?_)
  ·obtain⟨e,he,rfl⟩:=Go.Conc.mem_ofEvents ag
   exact hok e he a ha
  ·obtain⟨e,he,rfl⟩:=Go.Conc.mem_ofEvents ag
   exact hlow e he
 ·refine H.norel.app λop ag=>?_
  obtain⟨e,he,rfl⟩:=Go.Conc.mem_ofEvents ag
  intro e2
  have:=aZ e he
  obtain⟨loc,wr,sy⟩:=e
  simp only at e2
  cases loc with
  |mark m=>simp only[MemAct.ofEvent,MemAct.mark.injEq] at e2;exact this (by rw[e2])
  |cell a=>simp[MemAct.ofEvent] at e2
  |obj r=>cases wr<;>cases sy<;>simp[MemAct.ofEvent] at e2
  |output=>simp[MemAct.ofEvent] at e2
  |goroutines=>simp[MemAct.ofEvent] at e2
 ·by_cases h0:g=0
  ·subst h0
   rw[Deaf_own]
   simpa using hd
  ·rw[Deaf_other t h0 _ λop ag=>ofEvents_g ag]
   simpa[h0] using hd
theorem vK{s:PS}{v:World}{t:Trace}(H:Tr X s v t){g:Nat}{u:Trace}(hu:∀op∈u,op.g=g){k:Nat}(hk:k< s.j)(hne:g≠X.n0+k)(hr:(s.ws k).rel=true): ∃r,RelBy (bC X) (t++u) (X.n0+k) r:=by
 obtain⟨r,hr⟩:=H.rel k hk hr
 exact⟨r,RelBy.appOther hr hu hne⟩
def o7(Goal:Frame->List Frame->World->Prop)(X:PC L)(s' s:PS):Prop:=
 s'.phi X< s.phi X\/(s'.phi X=s.phi X/\nN (nI Qg Goal) 4 s'.kg s.kg)\/(s'.phi X=s.phi X/\s'.kg=s.kg/\s'.sD X< s.sD X)
structure tB(σ σ':Wk):Prop where
 ah:σ'.ah=σ.ah
 cnt:σ'.cnt=σ.cnt
 tree:σ'.tree=σ.tree
 bJ:σ'.bJ=σ.bJ
 parked:σ'.parked=σ.parked
 rel:σ'.rel=σ.rel
def jh(mt mt':Mt):Prop:=mt'=mt\/∃xs ys,mt= .blk xs ys/\mt'= .dW 0 xs ys
theorem jh.facts{mt mt':Mt}(h:jh mt mt'):(∀c,mt'.ah c=mt.ah c)/\mt'.bu X=mt.bu X/\mt'.on X=mt.on X/\mt'.shut=mt.shut/\mt'.eA=mt.eA/\mt'.deaf=mt.deaf/\kp mt'=kp mt/\jA mt'=jA mt/\(lN mt=false->lN mt'=false)/\mt'.idle<=mt.idle+1/\(∀k n xs ys,mt'= .fF k n xs ys->mt= .fF k n xs ys)/\∀n xs,mt'= .fin n xs->mt= .fin n xs:=by
 rcases h with rfl|⟨xs,ys,rfl,rfl⟩
 ·exact⟨λ_=>rfl,rfl,rfl,rfl,rfl,rfl,rfl,rfl,id,Nat.le_succ _,λ_ _ _ _=>id,λ_ _=>id⟩
 ·refine⟨λ_=>rfl,rfl,rfl,rfl,rfl,rfl,rfl,rfl,λ_=>rfl,by simp[Mt.idle],λ_ _ _ _ h=>(by cases h),λ_ _ h=>(by cases h)⟩
def PS.wk(s:PS)(mt:Mt)(k:Nat)(σ:Wk)(ow:Nat->Prop):PS:={s with mt:=mt,ws:=upd s.ws k σ,ow:=upd s.ow k ow}
theorem PS.fc(s:PS)(mt:Mt)(k:Nat)(σ:Wk)(ow:Nat->Prop):(s.wk mt k σ ow).ws k=σ/\(s.wk mt k σ ow).ow k=ow:=⟨upd_same ..,upd_same ..⟩
theorem PS.gW(s:PS)(mt:Mt){k i:Nat}(σ:Wk)(ow:Nat->Prop)(h:i≠k):(s.wk mt k σ ow).ws i=s.ws i/\(s.wk mt k σ ow).ow i=s.ow i:=⟨upd_ne _ _ h,upd_ne _ _ h⟩
theorem PS.nT(s:PS)(mt:Mt){k:Nat}(hk:k< s.j)(σ:Wk)(ow:Nat->Prop)(φ:Wk->Nat):sumTo s.j (λi=>φ ((s.wk mt k σ ow).ws i))+φ (s.ws k)=sumTo s.j (λi=>φ (s.ws i))+φ σ:=sumTo_upd s.ws σ φ hk
theorem PS.ny(s:PS)(mt:Mt){k:Nat}(hk:k< s.j)(σ:Wk)(ow:Nat->Prop):(s.wk mt k σ ow).c+(s.ws k).cnt=s.c+σ.cnt:=sumTo_upd s.ws σ Wk.cnt hk
theorem PS.AD(s:PS)(mt:Mt){k:Nat}(σ:Wk)(ow:Nat->Prop)(h:σ.tree=(s.ws k).tree):(s.wk mt k σ ow).kg=s.kg:=by
 funext i
 unfold PS.kg
 by_cases hi:i=k
 ·subst hi
  rw[(s.fc mt i σ ow).1,h]
  rfl
 ·rw[(s.gW mt σ ow hi).1]
  rfl
theorem Ac.qK{s:PS}{mt':Mt}(H:Ac X s)(hm:jh s.mt mt'){k:Nat}{σ:Wk}(hl:tB (s.ws k) σ)(ow:Nat->Prop):Ac X (s.wk mt' k σ ow):=by
 obtain⟨_,f2,f3,f4,_⟩:=hm.facts (X:=X)
 have hws:∀i,((s.wk mt' k σ ow).ws i).bJ=(s.ws i).bJ/\((s.wk mt' k σ ow).ws i).parked=(s.ws i).parked/\((s.wk mt' k σ ow).ws i).ah=(s.ws i).ah:=λi=>by
  by_cases hi:i=k
  ·subst hi;rw[(s.fc mt' i σ ow).1];exact⟨hl.bJ,hl.parked,hl.ah⟩
  ·rw[(s.gW mt' σ ow hi).1];exact⟨rfl,rfl,rfl⟩
 refine⟨H.on.trans f3.symm,f2 ▸ H.bu,(H.kQ).trans f2.symm,λi hi=>?_,?_,H.ew,H.okB,λi hi hp=>?_,λi hi hr=>?_⟩
 ·rcases H.cover i (f2 ▸ hi) with h|h|⟨k',h1,h2⟩
  ·exact .inl h
  ·exact .inr (.inl h)
  ·exact .inr (.inr ⟨k',h1,(hws k').1.trans h2⟩)
 ·have e:sumTo s.j (λi=>if ((s.wk mt' k σ ow).ws i).bJ.isSome then 1 else 0)=sumTo s.j (λi=>if (s.ws i).bJ.isSome then 1 else 0):=sumTo_congr λi _=>by rw[(hws i).1]
  show s.bZ.length+sumTo s.j (λi=>if ((s.wk mt' k σ ow).ws i).bJ.isSome then 1 else 0)+s.cX.length<=mt'.bu X
  rw[e,f2]
  exact H.count
 ·rw[(hws i).2.1] at hp
  have:=H.dh i hi hp
  exact⟨this.1,f4.trans this.2⟩
 ·rw[(hws i).2.2] at hr
  have:=H.gone i hi hr
  exact⟨f4.trans this.1,this.2⟩
theorem Wg.qK(X:PC L){s:PS}{mt':Mt}(H:Wg s)(hm:jh s.mt mt'){k:Nat}(hk:k< s.j){σ:Wk}(hl:tB (s.ws k) σ)(ow:Nat->Prop):Wg (s.wk mt' k σ ow):=by
 obtain⟨_,_,_,_,f5,_,f7,f8,f9,_,f11,_⟩:=hm.facts (X:=X)
 have hc:(s.wk mt' k σ ow).c=s.c:=by have:=s.ny mt' hk σ ow;rw[hl.cnt] at this;omega
 have hr:∀i,((s.wk mt' k σ ow).ws i).ah=(s.ws i).ah:=λi=>by
  by_cases hi:i=k
  ·subst hi;rw[(s.fc mt' i σ ow).1];exact hl.ah
  ·rw[(s.gW mt' σ ow hi).1]
 cases H with
 |opn h1 h2 h3 h4 h5=>exact .opn (f7.trans h1) (λi hi=>by rw[hr i];exact h2 i hi) (by rw[hc];show s.st=(s.c+mt'.eA)*aM;rw[f5];exact h3) h4 (λk n xs ys e=>by rw[hc];exact h5 k n xs ys (f11 k n xs ys e))
 |dK h1 h2 h3 h4 h5=>exact .dK (f8.trans h1) (λi hi=>by rw[hr i];exact h2 i hi) (by rw[hc];exact h3) (by rw[hc];exact h4) h5
 |last q h1 h2 h3 h4 h5 h6 h7=>exact .last q (f8.trans h1) h2 (by rw[hr q];exact h3) (by rw[hr q];exact h4) (λi hi hq=>by rw[hr i];exact h5 i hi hq) (by rw[hr q];exact h6) h7
 |fC h1 h2 h3 h4 h5=>exact .fC (f8.trans h1) (f9 h2) (λi hi=>by rw[hr i];exact h3 i hi) h4 h5
 |done h1 h2 h3 h4 h5=>exact .done (f7.trans h1) (f8.trans h2) (λi hi=>by rw[hr i];exact h3 i hi) h4 h5
theorem Wd.same{s s':PS}{v:World}(H:Wd X s v)(e1:s'.bZ=s.bZ)(e2:s'.mt.shut=s.mt.shut)(e3:s'.mt.bu X=s.mt.bu X)(e4:s'.rN=s.rN)(e5:s'.cX=s.cX)(e6:s'.st=s.st)(e7:s'.sm=s.sm):Wd X s' v:=
 ⟨H.old,H.size,H.bT,H.bN,H.bB,by rw[e1,e2,e3,e4];exact H.cN,by rw[e5];exact H.cB,by rw[e6,e7];exact H.wg,H.tape,H.os,H.output⟩
theorem Wd.at{s:PS}{v:World}(H:Wd X s v)(d:Nat):Wd X s (v.at d):=⟨H.old,H.size,H.bT,H.bN,H.bB,H.cN,H.cB,H.wg,H.tape,H.os,H.output⟩
theorem Tr.at{s:PS}{v:World}{t:Trace}(H:Tr X s v t)(d:Nat):Tr X s (v.at d) t:=⟨H.tp,H.own,H.apart,H.rel,H.norel,H.d0,H.acq⟩
theorem Gs.at{s:PS}{gs:Array Goroutine}{v:World}{t:Trace}(H:Gs T Goal X s gs v t)(d:Nat):Gs T Goal X s gs (v.at d) t:=
 ⟨H.size,H.main,λk hk=>let ⟨g,hg,hw⟩:=H.work k hk;⟨g,hg,hw.me (AI _) λ_ _=>rfl⟩,H.jP,H.above⟩
theorem PI.at{s:PS}{gs:Array Goroutine}{v:World}{t:Trace}(H:PI T Goal X s gs v t)(d:Nat):PI T Goal X s gs (v.at d) t:=⟨H.gs.at d,H.wd.at d,H.ac,H.wg,H.tr.at d⟩
end
end
section
open Go.Conc
open Go.ConcN (upd upd_same upd_ne sumTo sumTo_upd sumTo_congr RelBy)
section
variable {L:aB} {T:aT} {Goal:Frame->List Frame->World->Prop} {X:PC L}
def bA(T:aT)(Goal:Frame->List Frame->World->Prop)(X:PC L)(s:PS)(gs:Array Goroutine)(v:World)(sl:Option (Nat×Nat))(t:Trace)(i:Nat):Prop:=
 ∃s' gs' v' ops,runT Pg (crowd gs v sl) i=(.next (crowd gs' v' sl),ops)/\PI T Goal X s' gs' v' (t++ops)/\o7 Goal X s' s
theorem iQ{s:PS}{k:Nat}(hk:k< s.j){σ:Wk}(hr:σ.ah< (s.ws k).ah)(hc:σ.cnt=(s.ws k).cnt)(mt':Mt)(hm:jh s.mt mt')(ow:Nat->Prop)(st sm:Nat):o7 Goal X {s.wk mt' k σ ow with st:=st,sm:=sm} s:=by
 refine .inl ?_
 have h1:=s.nT mt' hk σ ow Wk.ah
 have h2:=s.ny mt' hk σ ow
 have h3:({s.wk mt' k σ ow with st:=st,sm:=sm}:PS).c=s.c:=by
  show (s.wk mt' k σ ow).c=s.c
  omega
 unfold PS.phi
 rw[h3]
 have h4:=(hm.facts (X:=X)).1 s.c
 show mt'.ah s.c+sumTo s.j (λi=>((s.wk mt' k σ ow).ws i).ah)+12*s.c+60*(X.E.n - s.rN)< s.mt.ah s.c+sumTo s.j (λi=>(s.ws i).ah)+12*s.c+60*(X.E.n - s.rN)
 omega
theorem fx(O:aP T Goal X){s:PS}{gs:Array Goroutine}{v:World}{sl:Option (Nat×Nat)}{t:Trace}(H:PI T Goal X s gs v t){k:Nat}(hk:k< s.j){g:Goroutine}(hg:gs[X.n0+k]? =some g){g1:Goroutine}{v1:World}{es:Array Event}(e:stepG Pg false g v= .go g1 v1 es)(σ:Wk)(ow:Nat->Prop)(st sm:Nat)(hW:gK T Goal X ow (deafBehind (Deaf t (X.n0+k)) es) g1 v1 σ)(hs:v.heap.size<=v1.heap.size)(hoth:∀b,b< v.heap.size->¬ s.ow k b->b≠X.M.wg->v1.heap[b]? =v.heap[b]?)(how:∀b,ow b->s.ow k b\/(v.heap.size<=b/\b< v1.heap.size))(hwgb:v1.heap[X.M.wg]? =some (.cells #[.int .u64 st,.int .u32 sm] 188))(ht:v1.tape=v.tape/\v1.os=v.os/\v1.output=v.output)(hac:∀mt',jh s.mt mt'->Ac X (s.wk mt' k σ ow))(hwg:∀mt',jh s.mt mt'->(mayWake Pg g=true->g1.status= .running->lN mt'=false)->Wg {s.wk mt' k σ ow with st:=st,sm:=sm})(hev:∀e∈es,∀a,(MemAct.ofEvent e).touch? =some a->a.loc.isMemory=true/\mA (iB X (s.wk s.mt k σ ow)) (X.n0+k) a)(hlow:∀e∈es,(MemAct.ofEvent e).low v1.heap.size)(hrel:σ.rel=true->∃r,RelBy (bC X) (t++MemOp.ofEvents (X.n0+k) g.frame.fn g.frame.place es) (X.n0+k) r)(aZ:∀e∈es,e.loc≠.mark (.release (bC X)))(hfin:∀n xs,s.mt= .fin n xs->False)(hdec:∀mt',jh s.mt mt'->o7 Goal X {s.wk mt' k σ ow with st:=st,sm:=sm} s):bA T Goal X s gs v sl t (X.n0+k):=by
 have hn0:=O.n0
 have e1:=O.bT;have e2:=O.cN;have e3:=O.bN;have e4:=O.cB;have e5:=O.bB;have e6:=O.wg
 have hne0:(X.n0+k==0)=false:=by simp;omega
 have hrun:=runT_crowd_go (P:=Pg) (sl:=sl) (i:=X.n0+k) hg (by rw[hne0];exact e)
 obtain⟨h,h0,hM⟩:=H.gs.main
 obtain⟨mt',hM',hml,hbl⟩:=hM.woken O g g1 v1
 have hfacts:=jh.facts (X:=X) hml
 have aA:∀b,b<=X.M.wg->¬ s.ow k b:=λb hb ho=>by have:=(H.tr.own k b hk ho).1;omega
 have hsame:∀b,b< X.M.wg->v1.heap[b]? =v.heap[b]? :=λb hb=>hoth b (by have:=H.wd.size;omega) (aA b (by omega)) (by omega)
 refine⟨{s.wk mt' k σ ow with st:=st,sm:=sm},_,v1,_,hrun,⟨?_,?_,?_,hwg mt' hml hbl,?_⟩,hdec mt' hml⟩
 ·refine H.gs.fx O hk (s':={s.wk mt' k σ ow with st:=st,sm:=sm}) ?_ hs ?_ ?_ ?_ rfl (λi hi=>(s.gW mt' σ ow hi).1) (λi hi=>(s.gW mt' σ ow hi).2) rfl
  ·show gK T Goal X ((s.wk mt' k σ ow).ow k) _ g1 v1 ((s.wk mt' k σ ow).ws k)
   rw[(s.fc mt' k σ ow).1,(s.fc mt' k σ ow).2]
   exact hW
  ·rintro b (⟨r,hr⟩|⟨i,hi,hik,hb⟩)
   ·exact hsame b (by have:=(O.K.cf r b hr).2;omega)
   ·have h1:=H.tr.own i b hi hb
    exact hoth b h1.2 (λhx=>hik (H.tr.apart i k b hi hk hb hx)) (by omega)
  ·intro i hi hp
   have hcn:=H.wd.cN
   rw[(H.ac.dh i hi hp).2,←hsame _ (by omega)] at hcn
   exact⟨_,_,_,_,_,hcn⟩
  ·intro h' h0' _
   rw[h0] at h0'
   cases h0'
   exact hM'
 ·refine⟨⟨X0 H.wd.old.1 hs,λb hb=>by rw[hsame b (by omega)];exact H.wd.old.2 b hb⟩,X4 H.wd.size hs,?_,?_,?_,?_,?_,hwgb,ht.1.trans H.wd.tape,ht.2.1.trans H.wd.os,ht.2.2.trans H.wd.output⟩
  ·rw[hsame _ (by omega)];exact H.wd.bT
  ·rw[hsame _ (by omega)];exact H.wd.bN
  ·rw[hsame _ (by omega)];exact H.wd.bB
  ·rw[hsame _ (by omega)]
   show _=some (Obj.chan X.E.n (s.bZ.map X.num).toArray mt'.shut (mt'.bu X) s.rN false)
   rw[hfacts.2.1,hfacts.2.2.2.1]
   exact H.wd.cN
  ·obtain⟨sB,h⟩:=H.wd.cB
   exact⟨sB,by rw[hsame _ (by omega)];exact h⟩
 ·have:=hac mt' hml
  exact⟨this.on,this.bu,this.kQ,this.cover,this.count,this.ew,this.okB,this.dh,this.gone⟩
 ·refine H.tr.step O (s':={s.wk mt' k σ ow with st:=st,sm:=sm}) (.inr ⟨by omega,by omega⟩) rfl hs (λi b hi hb=>?_) H.wd.size hev hlow (λi hi hr=>?_) aZ ?_ (λn xs h=>(hfin n xs (hfacts.2.2.2.2.2.2.2.2.2.2.2 n xs h)).elim)
  ·by_cases hik:i=k
   ·subst hik
    have hb':ow b:=by have:=(s.fc mt' i σ ow).2;rw[←this];exact hb
    exact (how b hb').imp id λx=>⟨x.1,x.2,rfl⟩
   ·have:=(s.gW mt' σ ow hik).2
    exact .inl (by rw[←this];exact hb)
  ·by_cases hik:i=k
   ·subst hik
    have:=(s.fc mt' i σ ow).1
    exact hrel (by rw[←this];exact hr)
   ·have:=(s.gW mt' σ ow hik).1
    exact vK H.tr (λop ag=>ofEvents_g ag) hi (by omega) (by rw[←this];exact hr)
  ·rw[AS (by omega),H.tr.d0]
   exact hfacts.2.2.2.2.2.1.symm
theorem lY(O:aP T Goal X){s:PS}{gs:Array Goroutine}{v:World}{sl:Option (Nat×Nat)}{t:Trace}(H:PI T Goal X s gs v t)(hfin:∀n xs,s.mt= .fin n xs->False){k:Nat}(hk:k< s.j){g:Goroutine}(hg:gs[X.n0+k]? =some g){g1:Goroutine}(e:∀w,stepG Pg false g w= .go g1 w #[]){σ:Wk}(hl:tB (s.ws k) σ)(hi:σ.idle+1=(s.ws k).idle)(hW:gK T Goal X (s.ow k) (Deaf t (X.n0+k)) g1 v σ):bA T Goal X s gs v sl t (X.n0+k):=by
 refine fx O H hk hg (e v) σ (s.ow k) s.st s.sm hW (AI _) (λ_ _ _ _=>rfl) (λb hb=> .inl hb) H.wd.wg ⟨rfl,rfl,rfl⟩ (λmt' hm=>H.ac.qK hm hl _) (λmt' hm _=>?_) (λe he=>by simp at he) (λe he=>by simp at he) (λhr=>?_) (λe he=>by simp at he) hfin (λmt' hm=>?_)
 ·exact H.wg.qK X hm hk hl _
 ·obtain⟨r,hr⟩:=H.tr.rel k hk (hl.rel ▸ hr)
  exact⟨r,RelBy.still hr λop ag=>by obtain⟨e,he,_⟩:=Go.Conc.mem_ofEvents ag;simp at he⟩
 ·have h1:=s.nT mt' hk σ (s.ow k) Wk.ah
  have h2:=s.ny mt' hk σ (s.ow k)
  have h5:=s.nT mt' hk σ (s.ow k) Wk.idle
  rw[hl.ah] at h1
  rw[hl.cnt] at h2
  have hf:=hm.facts (X:=X)
  have h3:(s.wk mt' k σ (s.ow k)).c=s.c:=by omega
  refine .inr (.inr ⟨?_,s.AD mt' σ (s.ow k) hl.tree,?_⟩)
  ·show mt'.ah (s.wk mt' k σ (s.ow k)).c+sumTo s.j (λi=>((s.wk mt' k σ (s.ow k)).ws i).ah)+12*(s.wk mt' k σ (s.ow k)).c+60*(X.E.n - s.rN)=s.mt.ah s.c+sumTo s.j (λi=>(s.ws i).ah)+12*s.c+60*(X.E.n - s.rN)
   rw[h3,hf.1 s.c]
   omega
  ·show mt'.idle+2*sumTo s.j (λi=>((s.wk mt' k σ (s.ow k)).ws i).idle)+2*sumTo X.n0 s.q< s.mt.idle+2*sumTo s.j (λi=>(s.ws i).idle)+2*sumTo X.n0 s.q
   have:=hf.2.2.2.2.2.2.2.2.2.1
   omega
end
end
end Go.Proofs.YtldmcdeibiclkaaGreatDoor.U
