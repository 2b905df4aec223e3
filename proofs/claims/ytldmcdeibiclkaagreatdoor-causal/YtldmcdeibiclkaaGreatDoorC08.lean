/-
  Toward causal_holds: BEHIND Add(-1): it leaves; or it is the last one, and wakes the starter.
-/
import Derived.Test.YtldmcdeibiclkaaGreatDoorC07
set_option linter.unusedVariables false
set_option linter.unusedSimpArgs false
set_option maxRecDepth 100000
set_option maxHeartbeats 20000000
namespace Go.Proofs.YtldmcdeibiclkaaGreatDoor.U
section
open Go.Conc
set_option maxRecDepth 100000
section
variable (c:Frame) (cs:List Frame) (wg:Nat)
def back:Goroutine:={frame:=c.finish unit,callers:=cs,status:= .running,dying:=none}
noncomputable def eV(st:Int):Goroutine:=aw Pg false 87 (fh (c::cs) wg st)
noncomputable def enabled(g:Goroutine):Goroutine:={g with frame:={g.frame with defers:=[]}}
theorem nE:∀e∈#[aN .enable],Event.mute e=true:=by intro e he;simp[aN] at he;subst he;rfl
theorem Kw:aG Pg false 87 (fh (c::cs) wg 0):=λw=>by kernel_rfl
theorem Ju(w:World):stepG Pg false (eV c cs wg 0) w= .go (enabled (eV c cs wg 0)) w #[aN .enable]:=by kernel_rfl
theorem Le(w:World):stepG Pg false (enabled (eV c cs wg 0)) w= .go (back c cs) w #[]:=by kernel_rfl
theorem Ir{q:Nat}(h:QuitsD Pg q 0 (back c cs)):QuitsD Pg (87+((1+q)+1)) 1 (fh (c::cs) wg 0):=
 QuitsD.aD (Kw c cs wg).aD (QuitsD.marked (by kernel_rfl) (Ju c cs wg) nE (QuitsD.aD (aH.one (by kernel_rfl) (Le c cs wg)) h))
theorem WR:aG Pg false 87 (fh (c::cs) wg 4294967296):=λw=>by kernel_rfl
theorem I1(w:World):stepG Pg false (eV c cs wg 4294967296) w= .go (enabled (eV c cs wg 4294967296)) w #[aN .enable]:=by kernel_rfl
theorem O4(w:World):stepG Pg false (enabled (eV c cs wg 4294967296)) w= .go (back c cs) w #[]:=by kernel_rfl
theorem Jm{q:Nat}(h:QuitsD Pg q 0 (back c cs)):QuitsD Pg (87+((1+q)+1)) 1 (fh (c::cs) wg 4294967296):=
 QuitsD.aD (WR c cs wg).aD (QuitsD.marked (by kernel_rfl) (I1 c cs wg) nE (QuitsD.aD (aH.one (by kernel_rfl) (O4 c cs wg)) h))
theorem R0:aG Pg false 87 (fh (c::cs) wg 8589934592):=λw=>by kernel_rfl
theorem I7(w:World):stepG Pg false (eV c cs wg 8589934592) w= .go (enabled (eV c cs wg 8589934592)) w #[aN .enable]:=by kernel_rfl
theorem WD(w:World):stepG Pg false (enabled (eV c cs wg 8589934592)) w= .go (back c cs) w #[]:=by kernel_rfl
theorem Qk{q:Nat}(h:QuitsD Pg q 0 (back c cs)):QuitsD Pg (87+((1+q)+1)) 1 (fh (c::cs) wg 8589934592):=
 QuitsD.aD (R0 c cs wg).aD (QuitsD.marked (by kernel_rfl) (I7 c cs wg) nE (QuitsD.aD (aH.one (by kernel_rfl) (WD c cs wg)) h))
theorem TC:aG Pg false 87 (fh (c::cs) wg 12884901888):=λw=>by kernel_rfl
theorem Hl(w:World):stepG Pg false (eV c cs wg 12884901888) w= .go (enabled (eV c cs wg 12884901888)) w #[aN .enable]:=by kernel_rfl
theorem JJ(w:World):stepG Pg false (enabled (eV c cs wg 12884901888)) w= .go (back c cs) w #[]:=by kernel_rfl
theorem JZ{q:Nat}(h:QuitsD Pg q 0 (back c cs)):QuitsD Pg (87+((1+q)+1)) 1 (fh (c::cs) wg 12884901888):=
 QuitsD.aD (TC c cs wg).aD (QuitsD.marked (by kernel_rfl) (Hl c cs wg) nE (QuitsD.aD (aH.one (by kernel_rfl) (JJ c cs wg)) h))
theorem H4:aG Pg false 87 (fh (c::cs) wg 4294967297):=λw=>by kernel_rfl
theorem Ho(w:World):stepG Pg false (eV c cs wg 4294967297) w= .go (enabled (eV c cs wg 4294967297)) w #[aN .enable]:=by kernel_rfl
theorem Lb(w:World):stepG Pg false (enabled (eV c cs wg 4294967297)) w= .go (back c cs) w #[]:=by kernel_rfl
theorem PK{q:Nat}(h:QuitsD Pg q 0 (back c cs)):QuitsD Pg (87+((1+q)+1)) 1 (fh (c::cs) wg 4294967297):=
 QuitsD.aD (H4 c cs wg).aD (QuitsD.marked (by kernel_rfl) (Ho c cs wg) nE (QuitsD.aD (aH.one (by kernel_rfl) (Lb c cs wg)) h))
theorem K7:aG Pg false 87 (fh (c::cs) wg 8589934593):=λw=>by kernel_rfl
theorem Mq(w:World):stepG Pg false (eV c cs wg 8589934593) w= .go (enabled (eV c cs wg 8589934593)) w #[aN .enable]:=by kernel_rfl
theorem Ls(w:World):stepG Pg false (enabled (eV c cs wg 8589934593)) w= .go (back c cs) w #[]:=by kernel_rfl
theorem O8{q:Nat}(h:QuitsD Pg q 0 (back c cs)):QuitsD Pg (87+((1+q)+1)) 1 (fh (c::cs) wg 8589934593):=
 QuitsD.aD (K7 c cs wg).aD (QuitsD.marked (by kernel_rfl) (Mq c cs wg) nE (QuitsD.aD (aH.one (by kernel_rfl) (Ls c cs wg)) h))
theorem VC:aG Pg false 87 (fh (c::cs) wg 12884901889):=λw=>by kernel_rfl
theorem Pw(w:World):stepG Pg false (eV c cs wg 12884901889) w= .go (enabled (eV c cs wg 12884901889)) w #[aN .enable]:=by kernel_rfl
theorem Q6(w:World):stepG Pg false (enabled (eV c cs wg 12884901889)) w= .go (back c cs) w #[]:=by kernel_rfl
theorem Vz{q:Nat}(h:QuitsD Pg q 0 (back c cs)):QuitsD Pg (87+((1+q)+1)) 1 (fh (c::cs) wg 12884901889):=
 QuitsD.aD (VC c cs wg).aD (QuitsD.marked (by kernel_rfl) (Pw c cs wg) nE (QuitsD.aD (aH.one (by kernel_rfl) (Q6 c cs wg)) h))
theorem MY:aG Pg false 103 (fh (c::cs) wg 1):=λw=>by kernel_rfl
noncomputable def qn:Goroutine:=aw Pg false 103 (fh (c::cs) wg 1)
theorem xl:aI Pg false (qn c cs wg):=⟨λw=>by kernel_rfl,by kernel_rfl,by kernel_rfl⟩
theorem G6:feed Pg (aJ (qn c cs wg)) [.val (.int .u64 1)]=some ([.mk (.extern 149),.ld .atomic ⟨wg,0,none⟩],.inl (.value (.int .u64 1))):=by kernel_rfl
theorem VL(a:Addr):seen Pg (qn c cs wg).frame.fn #[aN (.extern 149),⟨.cell a,false,true⟩]=#[⟨.cell a,false,true⟩]:=by kernel_rfl
theorem Im:aG Pg false 20 (fin (qn c cs wg) (.int .u64 1)):=λw=>by kernel_rfl
noncomputable def qf:Goroutine:=aw Pg false 20 (fin (qn c cs wg) (.int .u64 1))
theorem yc:aI Pg false (qf c cs wg):=⟨λw=>by kernel_rfl,by kernel_rfl,by kernel_rfl⟩
theorem Ky:feed Pg (aJ (qf c cs wg)) []=some ([.mk (.extern 150),.st .atomic ⟨wg,0,none⟩ (.int .u64 0)],.inl (.value unit)):=by kernel_rfl
theorem Jh(a:Addr):seen Pg (qf c cs wg).frame.fn #[aN (.extern 150),⟨.cell a,true,true⟩]=#[⟨.cell a,true,true⟩]:=by kernel_rfl
theorem R3:aG Pg false 27 (fin (qf c cs wg) unit):=λw=>by kernel_rfl
noncomputable def nK:Goroutine:=aw Pg false 27 (fin (qf c cs wg) unit)
theorem xJ:aI Pg false (nK c cs wg):=⟨λw=>by kernel_rfl,by kernel_rfl,by kernel_rfl⟩
theorem Qv:mayWake Pg (nK c cs wg)=true:=by kernel_rfl
theorem MQ:feed Pg (aJ (nK c cs wg)) [.val (.int .u32 0)]=some ([.mk (.extern 130),.mk .disable,.ld .atomic ⟨wg,1,none⟩,.st .atomic ⟨wg,1,none⟩ (.int .u32 1),.mk .enable],.inl (.value unit)):=by kernel_rfl
theorem NG(a:Addr):seen Pg (nK c cs wg).frame.fn #[aN (.extern 130),aN .disable,⟨.cell a,false,true⟩,⟨.cell a,true,true⟩,aN .enable]=#[aN .disable,⟨.cell a,false,true⟩,⟨.cell a,true,true⟩,aN .enable]:=by kernel_rfl
theorem H9:aG Pg false 17 (fin (nK c cs wg) unit):=λw=>by kernel_rfl
noncomputable def yM:Goroutine:=aw Pg false 17 (fin (nK c cs wg) unit)
theorem TT(w:World):stepG Pg false (yM c cs wg) w= .go (enabled (yM c cs wg)) w #[aN .enable]:=by kernel_rfl
theorem S5(w:World):stepG Pg false (enabled (yM c cs wg)) w= .go (back c cs) w #[]:=by kernel_rfl
theorem Tq{q:Nat}(h:QuitsD Pg q 0 (back c cs)):QuitsD Pg (17+((1+q)+1)) 1 (fin (nK c cs wg) unit):=
 QuitsD.aD (H9 c cs wg).aD (QuitsD.marked (by kernel_rfl) (TT c cs wg) nE (QuitsD.aD (aH.one (by kernel_rfl) (S5 c cs wg)) h))
end
end
section
open Go.Conc
open Go.ConcN (upd)
set_option maxRecDepth 100000
structure Pl where
 wg:Nat
 bN:Nat
 bB:Nat
 bT:Nat
 cN:Nat
 cB:Nat
noncomputable def j7(p:Pl):Goroutine:=
 {frame:={(default:Frame) with fn:=Pg.funcs.size,defers:=[{target:= .fn (.func 89) #[ptr p.wg,ptr p.bN,ptr p.bB,ptr p.bT],args:=#[]}],mode:= .panicking [goexitEntry]},callers:=[],status:= .running,dying:=none}
theorem VI(p:Pl):aG Pg false 7 (j7 p):=λw=>by kernel_rfl
noncomputable def qg(p:Pl):Goroutine:=aw Pg false 7 (j7 p)
theorem wH(p:Pl):aI Pg false (qg p):=⟨λw=>by kernel_rfl,by kernel_rfl,by kernel_rfl⟩
theorem PQ(p:Pl)(v:Value):feed Pg (aJ (qg p)) [.val v]=some ([.ld .plain ⟨p.bN,0,none⟩],.inl (.value v)):=by kernel_rfl
theorem Lj(p:Pl)(b:Nat):seen Pg (qg p).frame.fn #[⟨.cell ⟨b,0,none⟩,false,false⟩]=#[⟨.cell ⟨b,0,none⟩,false,false⟩]:=by kernel_rfl
noncomputable def yC(p:Pl):Goroutine:=fA (qg p) ((qg p).frame.finish (.chan (some p.cN)))
theorem GL(p:Pl):aG Pg false 5 (yC p):=λw=>by kernel_rfl
def Ch(p:Pl)(xs:Nat->Value):Array Value:=#[ptr p.wg,ptr p.bN,ptr p.bB,ptr p.bT,xs 4,.chan (some p.cN),xs 6,xs 7,xs 8,xs 9,xs 10,xs 11,xs 12,xs 13,xs 14,xs 15]
def zY(g:Goroutine)(ts:Array Value):Goroutine:={g with frame:={g.frame with tmps:=ts}}
noncomputable def gS(p:Pl)(xs:Nat->Value):Goroutine:=zY (aw Pg false 5 (yC p)) (Ch p xs)
theorem UK(p:Pl):aw Pg false 5 (yC p)=gS p (λ_=>undef):=by kernel_rfl
theorem xr(p:Pl)(xs:Nat->Value):aI Pg false (gS p xs):=⟨λw=>by kernel_rfl,by kernel_rfl,by kernel_rfl⟩
def qB(p:Pl):Array CommCase:=#[{chan:= .chan (some p.cN),send:=none,zero:= .int .i64 0}]
theorem Qc(p:Pl)(xs:Nat->Value):feed Pg (aJ (gS p xs)) []=some ([],.inl (.comm (qB p) true (.recv true))):=by kernel_rfl
noncomputable def sZ(p:Pl)(xs:Nat->Value)(n:Int):Goroutine:=(gS p xs).finishComm Pg (qB p) (.recv true) 0 (.int .i64 n) true
theorem zg(p:Pl)(xs:Nat->Value)(n:Int):aG Pg false 11 (sZ p xs n):=λw=>by kernel_rfl
noncomputable def DR:Goroutine:=aw Pg false 11 (sZ ⟨0,0,0,0,0,0⟩ (λ_=>undef) 0)
noncomputable def o6(p:Pl)(xs:Nat->Value):Goroutine:=zY (aw Pg false 11 (sZ p (λ_=>undef) 0)) (Ch p xs)
def iW(xs:Nat->Value)(n:Int):Nat->Value:=upd (upd (upd (upd xs 6 (.tuple #[.int .i64 n,.bool true])) 7 (.bool true)) 8 (.int .i64 n)) 4 (.int .i64 n)
theorem Fg(p:Pl)(xs:Nat->Value)(n:Int):aw Pg false 11 (sZ p xs n)=o6 p (iW xs n):=by kernel_rfl
noncomputable def lL:Array Oper:=match DR.frame.todo with| .code (.region _ ops _)::_=>ops|_=>#[]
noncomputable def kR:List Item:=match DR.frame.todo with|_::k=>k|_=>[]
noncomputable def bj(p:Pl)(xs:Nat->Value)(l:List Nat):Goroutine:={o6 p xs with frame:={(o6 p xs).frame with todo:= .inRegion lL l::kR}}
theorem Ei(p:Pl)(xs:Nat->Value):(o6 p xs).status= .running:=by kernel_rfl
theorem WY(p:Pl)(xs:Nat->Value)(w:World):stepG Pg false (o6 p xs) w= .go (bj p xs (Region.schedule true lL (w.tape w.drawn (.order 89 4)))) {w with drawn:=w.drawn+1} #[]:=by kernel_rfl
section
variable (p:Pl) (xs:Nat->Value) (rest:List Nat)
theorem VX:aI Pg false (bj p xs (0::rest)):=⟨λw=>by kernel_rfl,by kernel_rfl,by kernel_rfl⟩
theorem RV(v:Value):feed Pg (aJ (bj p xs (0::rest))) [.val v]=some ([.ld .plain ⟨p.bB,0,none⟩],.inl (.value v)):=by kernel_rfl
theorem KI(v:Value):fA (bj p xs (0::rest)) ((bj p xs (0::rest)).frame.finish v)=bj p (upd xs 9 v) rest:=by kernel_rfl
theorem U0:aG Pg false 1 (bj p xs (1::rest)):=λw=>by kernel_rfl
theorem WL:nx Pg false (bj p xs (1::rest))=bj p (upd xs 10 (xs 4)) rest:=by kernel_rfl
theorem VJ:aI Pg false (bj p xs (2::rest)):=⟨λw=>by kernel_rfl,by kernel_rfl,by kernel_rfl⟩
theorem Uu(v:Value):feed Pg (aJ (bj p xs (2::rest))) [.val v]=some ([.ld .plain ⟨p.bT,0,none⟩],.inl (.value v)):=by kernel_rfl
theorem TW(v:Value):fA (bj p xs (2::rest)) ((bj p xs (2::rest)).frame.finish v)=bj p (upd xs 11 v) rest:=by kernel_rfl
theorem Vs:aG Pg false 1 (bj p xs (3::rest)):=λw=>by kernel_rfl
theorem LW:nx Pg false (bj p xs (3::rest))=bj p (upd xs 12 (xs 4)) rest:=by kernel_rfl
theorem WS:aI Pg false (bj p xs (4::rest)):=⟨λw=>by kernel_rfl,by kernel_rfl,by kernel_rfl⟩
theorem Tx(v:Value):fA (bj p xs (4::rest)) ((bj p xs (4::rest)).frame.finish v)=bj p (upd xs 13 v) rest:=by kernel_rfl
theorem ME(v:Value):fA (bj p xs (5::rest)) ((bj p xs (5::rest)).frame.finish v)=bj p (upd xs 14 v) rest:=by kernel_rfl
theorem M9(n d:Int):aG Pg false 1 (bj p (upd (upd xs 10 (.int .i64 n)) 14 (.int .u64 d)) (6::rest)):=λw=>by kernel_rfl
theorem Uy(n d:Int):nx Pg false (bj p (upd (upd xs 10 (.int .i64 n)) 14 (.int .u64 d)) (6::rest))=bj p (upd (upd (upd xs 10 (.int .i64 n)) 14 (.int .u64 d)) 15 (.agg #[.int .i64 n,.int .u64 d])) rest:=by kernel_rfl
theorem Hh:aI Pg false (bj p xs (7::rest)):=⟨λw=>by kernel_rfl,by kernel_rfl,by kernel_rfl⟩
theorem Kj:feed Pg (aJ (bj p xs (7::rest))) []=some ([],.inl (.comm #[{chan:=xs 9,send:=some (xs 15),zero:= .tuple #[]}] true .send)):=by kernel_rfl
end
theorem Ja(p:Pl)(xs:Nat->Value):aG Pg false 5 (bj p xs []):=λw=>by kernel_rfl
theorem Ij(p:Pl)(xs:Nat->Value):aw Pg false 5 (bj p xs [])=gS p xs:=by kernel_rfl
noncomputable def tU(p:Pl)(xs:Nat->Value):Goroutine:=(gS p xs).finishComm Pg (qB p) (.recv true) 0 (.int .i64 0) false
theorem Ig(p:Pl)(xs:Nat->Value):aG Pg false 10 (tU p xs):=λw=>by kernel_rfl
noncomputable def cD(p:Pl)(xs:Nat->Value):Frame:=(aw Pg false 10 (tU p xs)).callers.headD default
noncomputable def fN(p:Pl)(xs:Nat->Value):List Frame:=(aw Pg false 10 (tU p xs)).callers.tail
theorem Nk(p:Pl)(xs:Nat->Value):aw Pg false 10 (tU p xs)=xa (cD p xs::fN p xs) p.wg:=by kernel_rfl
theorem my(p:Pl)(xs:Nat->Value):QuitsD Pg 5 0 (back (cD p xs) (fN p xs)):=AF 5 0 _ (λw=>by kernel_rfl) (by kernel_rfl) (by kernel_rfl) (by kernel_rfl)
end
section
open Go.Conc
open Go.ConcN (upd upd_same upd_ne)
set_option maxRecDepth 100000
theorem Kg(p:Pl)(xs:Nat->Value)(rest:List Nat):aJ (bj p xs (4::rest))=(do let d ←Deferred.ofValue (xs 11) #[xs 12];invoke d.target d.args):=by kernel_rfl
theorem IB(p:Pl)(xs:Nat->Value)(rest:List Nat)(w:World):stepG Pg false (bj p xs (5::rest)) w= .go {frame:=Frame.enter Pg 82 #[xs 13] .normal,callers:=(bj p xs (5::rest)).frame::(bj p xs (5::rest)).callers,status:= .running,dying:=none} w #[]:=by kernel_rfl
section
variable {L:aB} {T:aT} {Goal:Frame->List Frame->World->Prop}
def q7(E:Entry L)(v:World):Prop:=E.v0.heap.size<=v.heap.size/\∀s,s< E.v0.heap.size->v.heap[s]? =E.v0.heap[s]?
theorem TH(A:eO L T Goal){E:Entry L}(K:iC L E){i:Nat}{a:Int}(hj:tK Goal E i a)(p:Pl){xs:Nat->Value}(rest:List Nat)(h11:xs 11=E.y2)(h12:xs 12= .int .i64 (IntKind.i64.wrap (E.first+i))){v:World}(hv:q7 E v):
  ∃X s g1,stepG Pg false (bj p xs (4::rest)) v= .go g1 v #[]/\X 7= .int .u64 a/\gN L T Goal E (qF E 5 0 X) ((bj p xs (4::rest)).frame::(bj p xs (4::rest)).callers) (λ_=>False) s g1 v:=by
 obtain⟨X,w,hs,h4,h7,hk⟩:=hj
 obtain⟨f,us,us',vs,vs',e1,e2,hf,hn,hT,e⟩:=wh A K 5 (.inr rfl) hs h4
 obtain⟨d1,d2⟩:=hk.obj K v (λr s hr=>hv.2 s (K.cf r s hr).2) hv.1
 have hp:=Kg p xs rest
 rw[h11,h12,e2] at hp
 obtain⟨⟨fn,f1,f2,f3⟩,_⟩:=A.stat.bW.pH f hf
 have hr:(aJ (bj p xs (4::rest))).runT Pg v #[]=(.ok (.enter f (us'++#[.int .i64 (IntKind.i64.wrap (E.first+i))]++vs')) v,#[]):=by
  rw[hp]
  exact Cn (P:=Pg) f1 f2 f3 _ _ _
 refine⟨X,⟨_,_,w⟩,_,aI.enter (WS p xs rest) hr rfl,h7,Safe.next hs (A.iZ rfl) w.tape e,⟨[],rfl⟩,⟨fD E.ρ,?_,λr t hx=> .inl (lT.1 hx),λr t hx=>absurd hx um⟩,hk⟩
 exact tO A.stat A.fl hf hn hT (qF E 5 0 X::E.cs++ [wall]) _ K.bi (K.gl A.stat) d1 d2
def yT(Goal:Frame->List Frame->World->Prop)(E:Entry L)(a:Int)(t:ByteArray):Prop:=∃X w,Safe Qg Goal (qF E 5 2 X) E.cs w/\X 8= .string t/\X 7= .int .u64 a/\iu E w
theorem P6(A:eO L T Goal){E:Entry L}{X:Nat->Value}{a:Int}(h7:X 7= .int .u64 a){x:Value}{w:World}(hs:Safe Qg Goal ((qF E 5 0 X).finish x) E.cs w)(hk:iu E w): ∃t,x= .string t/\yT Goal E a t:=by
 rw[show (qF E 5 0 X).finish x=qF E 5 1 (upd X 8 x) from E0 ..] at hs
 obtain⟨t,rfl⟩:=Dq _ _ _ _ _ _ _ (A.dJ hs rfl)
 have r:=A.dL (CK (.int .i64 E.first) (.int .i64 E.n) E.x2 X E.cs t) (EP (.int .i64 E.first) (.int .i64 E.n) E.x2 X E.cs t) w
 exact⟨t,rfl,_,w,Safe.run hs r,rfl,h7,hk⟩
theorem OS(A:eO L T Goal){E:Entry L}(K:iC L E){a:Int}{t:ByteArray}(hm:yT Goal E a t)(p:Pl){xs:Nat->Value}(rest:List Nat)(h13:xs 13= .string t){v:World}(hv:q7 E v):
  ∃X s g1,stepG Pg false (bj p xs (5::rest)) v= .go g1 v #[]/\X 7= .int .u64 a/\gN L T Goal E (qF E 5 2 X) ((bj p xs (5::rest)).frame::(bj p xs (5::rest)).callers) (λ_=>False) s g1 v:=by
 obtain⟨X,w,hs,h8,h7,hk⟩:=hm
 have e:=DW (.int .i64 E.first) (.int .i64 E.n) E.x2 X E.cs w
 rw[h8] at e
 have hT:TR L (fD E.ρ) 82 #[.string t] #[.string t]:=⟨rfl,λi x y hx hy=>by
  cases i with
  |zero=>
   rw[A.sum.2]
   simp at hx hy
   subst hx hy
   exact VR.string t
  |succ i=>simp at hx⟩
 obtain⟨d1,d2⟩:=hk.obj K v (λr s hr=>hv.2 s (K.cf r s hr).2) hv.1
 have e2:=IB p xs rest v
 rw[h13] at e2
 refine⟨X,⟨_,_,w⟩,_,e2,h7,Safe.next hs (A.iZ rfl) w.tape e,⟨[],rfl⟩,⟨fD E.ρ,?_,λr t hx=> .inl (lT.1 hx),λr t hx=>absurd hx um⟩,hk⟩
 exact tO A.stat A.fl A.sum.1 (λe=>A.pf (e ▸ A.sum.1)) hT (qF E 5 2 X::E.cs++ [wall]) _ K.bi (K.gl A.stat) d1 d2
theorem MX(A:eO L T Goal){E:Entry L}{X:Nat->Value}{a:Int}(h7:X 7= .int .u64 a){x:Value}{w:World}(hs:Safe Qg Goal ((qF E 5 2 X).finish x) E.cs w):x= .int .u64 a:=by
 rw[D7] at hs
 generalize hX5:upd X 9 x=X5 at hs
 have f57:X5 7= .int .u64 a:=by rw[←hX5];exact h7
 have f59:X5 9=x:=by rw[←hX5];rfl
 have r10:=A.dL (Eg (.int .i64 E.first) (.int .i64 E.n) E.x2 X5 E.cs) (BF (.int .i64 E.first) (.int .i64 E.n) E.x2 X5 E.cs) w
 have s9:=Safe.run hs r10
 have u7:upd X5 7 (.int .u64 a)=X5:=by rw[←f57];exact kE X5 7
 rw[←u7] at s9
 have r11:=A.dL (BV (.int .i64 E.first) (.int .i64 E.n) E.x2 X5 E.cs a) (CF (.int .i64 E.first) (.int .i64 E.n) E.x2 X5 E.cs a) w
 have s10:=Safe.run s9 r11
 rw[u7] at s10
 generalize hX6:upd X5 18 (.bool (decide (a< 0)))=X6 at s10
 have f67:X6 7= .int .u64 a:=by rw[←hX6];exact f57
 have f69:X6 9=x:=by rw[←hX6];exact f59
 have u9:upd X6 9 x=X6:=by rw[←f69];exact kE X6 9
 rw[←u9] at s10
 obtain⟨eb,rfl⟩:=zR _ _ _ _ _ _ _ (A.dJ s10 rfl)
 rw[u9] at s10
 have u79:oB a eb X6=X6:=by
  unfold oB
  rw[show upd X6 7 (.int .u64 a)=X6 by rw[←f67];exact kE X6 7]
  exact u9
 have r12:=A.dL (C6 (.int .i64 E.first) (.int .i64 E.n) E.x2 X6 E.cs a eb) (Dr (.int .i64 E.first) (.int .i64 E.n) E.x2 X6 E.cs a eb) w
 rw[u79] at r12
 have s11:=Safe.run s10 r12
 have hab:a=eb:=by
  refine Zn λhne=>?_
  rw[show (!decide (a=eb))=true by simp[hne]] at s11
  have rb:=A.dL (C9 (.int .i64 E.first) (.int .i64 E.n) E.x2 (upd X6 19 (.bool (decide (eb< 0)))) E.cs) rfl w
  have sb:=Safe.run s11 rb
  have:=A.dJ (fr:=sJ (.int .i64 E.first) (.int .i64 E.n) E.x2 (upd X6 19 (.bool (decide (eb< 0)))) E.cs) sb (Bu ..)
  rw[zh] at this
  cases this
 rw[hab]
end
end
section
open Go.Conc
open Go.ConcN (upd upd_same upd_ne)
set_option maxRecDepth 100000
def qN(m:Region.Mode)(ops:Array Oper):Nat->Array Bool->List Nat->List (List Nat)
 |0,_,acc=>[acc.reverse]
 |fuel+1,listed,acc=>
  let rs:=(List.range ops.size).filter λi=>!listed.getD i true && ((ops[i]?).map (·.after.all λe=>!Region.binds m e||listed.getD e.on false)).getD false
  if rs.isEmpty then [acc.reverse] else rs.flatMap λi=>qN m ops fuel (listed.setIfInBounds i true) (i::acc)
theorem zT(m:Region.Mode)(ops:Array Oper):∀(fuel t:Nat) (listed:Array Bool) (acc:List Nat),Region.linearise.go m ops fuel t listed acc∈qN m ops fuel listed acc
 |0,_,_,acc=>by simp[Region.linearise.go,qN]
 |fuel+1,t,listed,acc=>by
  simp only[Region.linearise.go,qN]
  generalize hrs:((List.range ops.size).filter λi=>!listed.getD i true && ((ops[i]?).map (·.after.all λe=>!Region.binds m e||listed.getD e.on false)).getD false)=rs
  by_cases h:rs= []
  ·subst h
   simp
  ·have hl:0< rs.length:=List.length_pos_iff.2 h
   have hm:t % rs.length< rs.length:=Nat.mod_lt _ hl
   rw[Yn hm]
   have he:rs.isEmpty=false:=by simp[h]
   simp only[he,Yd,Yb,Zk]
   exact⟨_,X9 hm,zT m ops fuel _ _ _⟩
def mu:Nat->List Nat->Bool
 |0,r=>r.contains 7
 |1,r=>r.contains 6
 |2,r=>r.contains 4
 |3,r=>r.contains 4
 |4,r=>!r.contains 2 && !r.contains 3 && r.contains 5
 |5,r=>!r.contains 4 && r.contains 6
 |6,r=>!r.contains 1 && !r.contains 5 && r.contains 7
 |7,r=>r.isEmpty
 |_,_=>false
def jq:List Nat->Bool
 |[]=>true
 |j::r=>mu j r && jq r
def whole(l:List Nat):Bool:=jq l && (List.range 8).all l.contains && decide (l.length=8)
theorem Oo:(qN .any lL 8 (Array.replicate 8 false) []).all whole=true:=by kernel_rfl
theorem SS:lL.size=8:=by kernel_rfl
theorem IA(t:Nat):whole (Region.schedule true lL t)=true:=by
 have h:Region.schedule true lL t=Region.linearise .any lL t:=by simp[Region.schedule]
 rw[h]
 have:=zT .any lL 8 t (Array.replicate 8 false) []
 unfold Region.linearise
 rw[SS]
 exact YY.1 Oo _ this
section
variable {α:Type} {R:α->α->Prop}
def nN(R:α->α->Prop)(n:Nat)(f' f:Nat->Option α):Prop:=∃k,k< n/\∃s s',f k=some s/\f' k=some s'/\R s' s/\∀j,j≠k->f' j=f j
theorem vl:∀(n:Nat) (f:Nat->Option α),(∀k,k< n->∀s,f k=some s->Acc R s)->Acc (nN R n) f
 |0,f,_=>Acc.intro _ λf' ⟨k,hk,_⟩=>absurd hk (by omega)
 |n+1,f,h=>by
  have key:∀(x:Option α),(∀s,x=some s->Acc R s)->∀f:Nat->Option α,f n=x->(∀k,k< n->∀s,f k=some s->Acc R s)->Acc (nN R (n+1)) f:=by
   have inner:∀(x:Option α),(∀s s',x=some s->R s' s->∀f:Nat->Option α,f n=some s'->(∀k,k< n->∀s,f k=some s->Acc R s)->Acc (nN R (n+1)) f)->∀f:Nat->Option α,Acc (nN R n) f->f n=x->(∀k,k< n->∀s,f k=some s->Acc R s)->Acc (nN R (n+1)) f:=by
    intro x hx f ha
    induction ha with
    |intro f _ ih=>
     intro hf hk
     refine Acc.intro _ λf' hs=>?_
     obtain⟨k,bd,s,s',e1,e2,hr,ho⟩:=hs
     by_cases hkk:k=n
     ·subst hkk
      rw[hf] at e1
      refine hx s s' e1 hr f' e2 λj hj u hu=>hk j hj u (by rw[←ho j (by omega)];exact hu)
     ·refine ih f' ⟨k,by omega,s,s',e1,e2,hr,ho⟩ (by rw[ho n (by omega)];exact hf) λj hj u hu=>?_
      by_cases hjk:j=k
      ·subst hjk
       rw[e2] at hu
       cases hu
       exact (hk j hj s e1).inv hr
      ·exact hk j hj u (by rw[←ho j hjk];exact hu)
   intro x hx f hf hk
   cases x with
   |none=>exact inner none (λs s' h=>by cases h) f (vl n f hk) hf hk
   |some s=>
    have hs:=hx s rfl
    induction hs generalizing f with
    |intro s _ ih=>
     refine inner (some s) (λs1 s' e hr f' hf' hk'=>?_) f (vl n f hk) hf hk
     cases e
     exact ih s' hr f' hk' (λu hu=>by cases hu;exact (hx s rfl).inv hr) hf'
  exact key (f n) (λs hs=>h n (by omega) s hs) f rfl λk hk=>h k (by omega)
end
end
section
open Go.Conc
set_option maxRecDepth 100000
section
variable (c:Frame) (cs:List Frame) (wg:Nat)
def iD:Goroutine:={frame:=c.finish unit,callers:=cs,status:= .running,dying:=none}
def kJ(g:Goroutine):Goroutine:={g with frame:={g.frame with defers:=[]}}
def jd(b:Nat):Value:= .pointer (some ⟨b,1,none⟩)
noncomputable def nB:Goroutine:=qJ 88 #[ptr wg,.int .i64 1] (c::cs)
theorem Uc:aG Pg true 12 (nB c cs wg):=λw=>by kernel_rfl
noncomputable def lX:Goroutine:=aw Pg true 12 (nB c cs wg)
theorem QO(w:World):stepG Pg true (lX c cs wg) w= .go (fin (lX c cs wg) unit) w #[aN .disable]:=by kernel_rfl
theorem Pr:(lX c cs wg).status= .running:=by kernel_rfl
theorem K1:aG Pg true 11 (fin (lX c cs wg) unit):=λw=>by kernel_rfl
noncomputable def qy:Goroutine:=aw Pg true 11 (fin (lX c cs wg) unit)
theorem Km(w:World):stepG Pg true (qy c cs wg) w= .go (fin (qy c cs wg) (.bool false)) w #[]:=by kernel_rfl
theorem O7:(qy c cs wg).status= .running:=by kernel_rfl
theorem Lv:aG Pg true 22 (fin (qy c cs wg) (.bool false)):=λw=>by kernel_rfl
noncomputable def qk:Goroutine:=aw Pg true 22 (fin (qy c cs wg) (.bool false))
theorem ML:aH Pg true (11+(1+22)) (fin (lX c cs wg) unit) (qk c cs wg):=(K1 c cs wg).aD.trans ((aH.one (O7 c cs wg) (Km c cs wg)).trans (Lv c cs wg).aD)
theorem EW:aI Pg true (qk c cs wg):=⟨λw=>by kernel_rfl,by kernel_rfl,by kernel_rfl⟩
def more(st:Int):Int:=IntKind.u64.wrap (st+4294967296)
theorem SD(st:Int):feed Pg (aJ (qk c cs wg)) [.val (.int .u64 st)]=some ([.mk (.extern 148),.ld .atomic ⟨wg,0,none⟩,.st .atomic ⟨wg,0,none⟩ (.int .u64 (more st))],.inl (.value (.int .u64 (more st)))):=by kernel_rfl
theorem XC(a:Addr):seen Pg (qk c cs wg).frame.fn #[aN (.extern 148),⟨.cell a,false,true⟩,⟨.cell a,true,true⟩]=#[⟨.cell a,false,true⟩,⟨.cell a,true,true⟩]:=by kernel_rfl
noncomputable def nP(st:Int):Goroutine:=fin (qk c cs wg) (.int .u64 st)
theorem O5:aG Pg true 52 (nP c cs wg 4294967296):=λw=>by kernel_rfl
noncomputable def mh:Goroutine:=aw Pg true 52 (nP c cs wg 4294967296)
theorem EH:aI Pg true (mh c cs wg):=⟨λw=>by kernel_rfl,by kernel_rfl,by kernel_rfl⟩
theorem Kf:feed Pg (aJ (mh c cs wg)) [cP,cP]=some ([.shp wg,.shp wg],.inl (.value (jd wg))):=by kernel_rfl
theorem RD(w:World):stepG Pg true (fin (mh c cs wg) (jd wg)) w= .go (fin (fin (mh c cs wg) (jd wg)) unit) w #[aN (.read ⟨wg,1,none⟩)]:=by kernel_rfl
theorem N9:(fin (mh c cs wg) (jd wg)).status= .running:=by kernel_rfl
theorem VF:aG Pg true 39 (fin (fin (mh c cs wg) (jd wg)) unit):=λw=>by kernel_rfl
noncomputable def q6:Goroutine:=aw Pg true 39 (fin (fin (mh c cs wg) (jd wg)) unit)
theorem G7(w:World):stepG Pg true (q6 c cs wg) w= .go (kJ (q6 c cs wg)) w #[aN .enable]:=by kernel_rfl
theorem NA:(q6 c cs wg).status= .running:=by kernel_rfl
theorem Jq:aH Pg true 1 (kJ (q6 c cs wg)) (iD c cs):=aH.one (by kernel_rfl) λw=>by kernel_rfl
noncomputable def gQ(st:Int):Goroutine:=aw Pg true 87 (nP c cs wg st)
theorem Td:aG Pg true 87 (nP c cs wg 8589934592):=λw=>by kernel_rfl
theorem VY(w:World):stepG Pg true (gQ c cs wg 8589934592) w= .go (kJ (gQ c cs wg 8589934592)) w #[aN .enable]:=by kernel_rfl
theorem VP:(gQ c cs wg 8589934592).status= .running:=by kernel_rfl
theorem Qr:aH Pg true 1 (kJ (gQ c cs wg 8589934592)) (iD c cs):=aH.one (by kernel_rfl) λw=>by kernel_rfl
theorem O0:aG Pg true 87 (nP c cs wg 12884901888):=λw=>by kernel_rfl
theorem Lk(w:World):stepG Pg true (gQ c cs wg 12884901888) w= .go (kJ (gQ c cs wg 12884901888)) w #[aN .enable]:=by kernel_rfl
theorem SZ:(gQ c cs wg 12884901888).status= .running:=by kernel_rfl
theorem QK:aH Pg true 1 (kJ (gQ c cs wg 12884901888)) (iD c cs):=aH.one (by kernel_rfl) λw=>by kernel_rfl
theorem Hp:aG Pg true 87 (nP c cs wg 17179869184):=λw=>by kernel_rfl
theorem TQ(w:World):stepG Pg true (gQ c cs wg 17179869184) w= .go (kJ (gQ c cs wg 17179869184)) w #[aN .enable]:=by kernel_rfl
theorem Wb:(gQ c cs wg 17179869184).status= .running:=by kernel_rfl
theorem Iq:aH Pg true 1 (kJ (gQ c cs wg 17179869184)) (iD c cs):=aH.one (by kernel_rfl) λw=>by kernel_rfl
end
end
section
open Go.Conc
set_option maxRecDepth 100000
section
variable (c:Frame) (cs:List Frame) (wg:Nat) (xs:Nat->Value)
noncomputable def wK:Goroutine:=qJ 91 #[ptr wg] (c::cs)
theorem PD:aG Pg true 3 (wK c cs wg):=λw=>by kernel_rfl
noncomputable def mj:Goroutine:=aw Pg true 3 (wK c cs wg)
theorem U4(w:World):stepG Pg true (mj c cs wg) w= .go (fin (mj c cs wg) unit) w #[aN .disable]:=by kernel_rfl
theorem Pd:(mj c cs wg).status= .running:=by kernel_rfl
theorem Np:aG Pg true 3 (fin (mj c cs wg) unit):=λw=>by kernel_rfl
def Kz(wg:Nat)(xs:Nat->Value):Array Value:=#[ptr wg,xs 1,xs 2,xs 3,xs 4,xs 5,xs 6,xs 7,xs 8,xs 9,xs 10,xs 11,xs 12,xs 13,xs 14,xs 15,xs 16,xs 17,xs 18,xs 19,xs 20,xs 21,xs 22,xs 23,xs 24,xs 25,xs 26,xs 27,xs 28,xs 29,xs 30,xs 31,xs 32,xs 33,xs 34,xs 35,xs 36,xs 37,xs 38,xs 39,xs 40,xs 41,xs 42,xs 43,xs 44,xs 45,xs 46,xs 47,xs 48,xs 49,xs 50,xs 51,xs 52,xs 53,xs 54,xs 55,xs 56,xs 57,xs 58,xs 59,xs 60,xs 61,xs 62,xs 63,xs 64,xs 65,xs 66,xs 67,xs 68,xs 69,xs 70,xs 71,xs 72,xs 73,xs 74,xs 75,xs 76,xs 77,xs 78,xs 79,xs 80,xs 81,xs 82,xs 83]
noncomputable def oh:Goroutine:={(aw Pg true 3 (fin (mj c cs wg) unit)) with frame:={(aw Pg true 3 (fin (mj c cs wg) unit)).frame with tmps:=Kz wg xs}}
def mq(g:Goroutine):Nat->Value:=λi=>g.frame.tmps.getD i undef
theorem Jg:aw Pg true 3 (fin (mj c cs wg) unit)=oh c cs wg (mq (aw Pg true 3 (fin (mj c cs wg) unit))):=by kernel_rfl
theorem rT:aG Pg true 16 (oh c cs wg xs):=λw=>by kernel_rfl
noncomputable def pU:Goroutine:=aw Pg true 16 (oh c cs wg xs)
theorem Dz:aI Pg true (pU c cs wg xs):=⟨λw=>by kernel_rfl,by kernel_rfl,by kernel_rfl⟩
theorem Pc(st:Int):feed Pg (aJ (pU c cs wg xs)) [.val (.int .u64 st)]=some ([.mk (.extern 149),.ld .atomic ⟨wg,0,none⟩],.inl (.value (.int .u64 st))):=by kernel_rfl
theorem M7(a:Addr):seen Pg (pU c cs wg xs).frame.fn #[aN (.extern 149),⟨.cell a,false,true⟩]=#[⟨.cell a,false,true⟩]:=by kernel_rfl
noncomputable def mD(st:Int):Goroutine:=fin (pU c cs wg xs) (.int .u64 st)
theorem Ux:aG Pg true 31 (mD c cs wg xs 0):=λw=>by kernel_rfl
noncomputable def pV:Goroutine:=aw Pg true 31 (mD c cs wg xs 0)
theorem QM(w:World):stepG Pg true (pV c cs wg xs) w= .go (fin (pV c cs wg xs) unit) w #[aN .enable]:=by kernel_rfl
theorem XA:(pV c cs wg xs).status= .running:=by kernel_rfl
theorem Q0:aG Pg true 3 (fin (pV c cs wg xs) unit):=λw=>by kernel_rfl
noncomputable def lz:Goroutine:=aw Pg true 3 (fin (pV c cs wg xs) unit)
theorem BD:aI Pg true (lz c cs wg xs):=⟨λw=>by kernel_rfl,by kernel_rfl,by kernel_rfl⟩
theorem Wh:feed Pg (aJ (lz c cs wg xs)) [cP,cP]=some ([.shp wg,.shp wg],.inl (.value (ptr wg))):=by kernel_rfl
theorem Vk(w:World):stepG Pg true (fin (lz c cs wg xs) (ptr wg)) w= .go (fin (fin (lz c cs wg xs) (ptr wg)) unit) w #[aN (.acquire ⟨wg,0,none⟩)]:=by kernel_rfl
theorem Mc:(fin (lz c cs wg xs) (ptr wg)).status= .running:=by kernel_rfl
theorem Ll:aG Pg true 20 (fin (fin (lz c cs wg xs) (ptr wg)) unit):=λw=>by kernel_rfl
theorem Ut:aw Pg true 20 (fin (fin (lz c cs wg xs) (ptr wg)) unit)=iD c cs:=by kernel_rfl
end
end
section
open Go.Conc
set_option maxRecDepth 100000
section
variable (c:Frame) (cs:List Frame) (wg:Nat) (xs:Nat->Value)
noncomputable def dq(st:Int):Goroutine:=aw Pg true 48 (mD c cs wg xs st)
noncomputable def pS(st:Int):Goroutine:=fin (dq c cs wg xs st) (.bool true)
noncomputable def jr(st:Int):Goroutine:=fin (dq c cs wg xs st) (.bool false)
noncomputable def j5(st:Int):Goroutine:=aw Pg true 19 (pS c cs wg xs st)
noncomputable def dC(st:Int):Goroutine:=fin (j5 c cs wg xs st) (jd wg)
noncomputable def iz:Goroutine:=zX Pg 91 19 4 (#[ptr wg,xs 1,xs 2,xs 3,xs 4,xs 5,xs 6,xs 7,xs 8,xs 9,xs 10,xs 11,xs 12,xs 13,xs 14,xs 15,xs 16,xs 17,xs 18,xs 19,xs 20,xs 21,xs 22,xs 23,xs 24,xs 25,xs 26,xs 27,xs 28,xs 29,xs 30,xs 31,xs 32,xs 33,xs 34,xs 35,xs 36,xs 37,xs 38,xs 39,xs 40,xs 41,xs 42,xs 43,xs 44,xs 45,xs 46,xs 47,xs 48,xs 49,xs 50,xs 51,xs 52,xs 53,xs 54,xs 55,xs 56,xs 57,xs 58,xs 59,xs 60,xs 61,xs 62,xs 63,xs 64,xs 65,xs 66,xs 67,xs 68,xs 69,jd wg,.bool false,xs 72,xs 73,xs 74,xs 75,xs 76,xs 77,xs 78,xs 79,xs 80,xs 81,xs 82,xs 83]) (c::cs)
theorem RH:aG Pg true 48 (mD c cs wg xs 4294967296):=λw=>by kernel_rfl
theorem GB:aI Pg true (dq c cs wg xs 4294967296):=⟨λw=>by kernel_rfl,by kernel_rfl,by kernel_rfl⟩
theorem OY:feed Pg (aJ (dq c cs wg xs 4294967296)) [cP,.fz false,.val (.int .u64 4294967296)]=some ([.mk (.extern 151),.shp wg,.fz ⟨wg,0,none⟩,.ld .atomic ⟨wg,0,none⟩,.st .atomic ⟨wg,0,none⟩ (.int .u64 (4294967296+1))],.inl (.value (.bool true))):=by kernel_rfl
theorem FO:(dq c cs wg xs 4294967296).frame.fn=133:=by kernel_rfl
theorem KL:aG Pg true 9 (jr c cs wg xs 4294967296):=λw=>by kernel_rfl
theorem MB:aw Pg true 9 (jr c cs wg xs 4294967296)=oh c cs wg (mq (aw Pg true 9 (jr c cs wg xs 4294967296))):=by kernel_rfl
theorem Rr:aG Pg true 19 (pS c cs wg xs 4294967296):=λw=>by kernel_rfl
theorem OV:aI Pg true (j5 c cs wg xs 4294967296):=⟨λw=>by kernel_rfl,by kernel_rfl,by kernel_rfl⟩
theorem QW:feed Pg (aJ (j5 c cs wg xs 4294967296)) [cP,cP]=some ([.shp wg,.shp wg],.inl (.value (jd wg))):=by kernel_rfl
theorem Rt(w:World):stepG Pg true (dC c cs wg xs 4294967296) w= .go (fin (dC c cs wg xs 4294967296) unit) w #[aN (.write ⟨wg,1,none⟩)]:=by kernel_rfl
theorem Xm:(dC c cs wg xs 4294967296).status= .running:=by kernel_rfl
theorem Qt:aG Pg true 23 (fin (dC c cs wg xs 4294967296) unit):=λw=>by kernel_rfl
theorem ND:aw Pg true 23 (fin (dC c cs wg xs 4294967296) unit)=iz c cs wg (mq (aw Pg true 23 (fin (dC c cs wg xs 4294967296) unit))):=by kernel_rfl
theorem WE:aG Pg true 48 (mD c cs wg xs 8589934592):=λw=>by kernel_rfl
theorem Vy:aI Pg true (dq c cs wg xs 8589934592):=⟨λw=>by kernel_rfl,by kernel_rfl,by kernel_rfl⟩
theorem M4:feed Pg (aJ (dq c cs wg xs 8589934592)) [cP,.fz false,.val (.int .u64 8589934592)]=some ([.mk (.extern 151),.shp wg,.fz ⟨wg,0,none⟩,.ld .atomic ⟨wg,0,none⟩,.st .atomic ⟨wg,0,none⟩ (.int .u64 (8589934592+1))],.inl (.value (.bool true))):=by kernel_rfl
theorem Xa:(dq c cs wg xs 8589934592).frame.fn=133:=by kernel_rfl
theorem Ub:aG Pg true 9 (jr c cs wg xs 8589934592):=λw=>by kernel_rfl
theorem JS:aw Pg true 9 (jr c cs wg xs 8589934592)=oh c cs wg (mq (aw Pg true 9 (jr c cs wg xs 8589934592))):=by kernel_rfl
theorem TX:aG Pg true 19 (pS c cs wg xs 8589934592):=λw=>by kernel_rfl
theorem JP:aI Pg true (j5 c cs wg xs 8589934592):=⟨λw=>by kernel_rfl,by kernel_rfl,by kernel_rfl⟩
theorem SC:feed Pg (aJ (j5 c cs wg xs 8589934592)) [cP,cP]=some ([.shp wg,.shp wg],.inl (.value (jd wg))):=by kernel_rfl
theorem T0(w:World):stepG Pg true (dC c cs wg xs 8589934592) w= .go (fin (dC c cs wg xs 8589934592) unit) w #[aN (.write ⟨wg,1,none⟩)]:=by kernel_rfl
theorem Kx:(dC c cs wg xs 8589934592).status= .running:=by kernel_rfl
theorem Sd:aG Pg true 23 (fin (dC c cs wg xs 8589934592) unit):=λw=>by kernel_rfl
theorem JG:aw Pg true 23 (fin (dC c cs wg xs 8589934592) unit)=iz c cs wg (mq (aw Pg true 23 (fin (dC c cs wg xs 8589934592) unit))):=by kernel_rfl
theorem Pm:aG Pg true 48 (mD c cs wg xs 12884901888):=λw=>by kernel_rfl
theorem Xi:aI Pg true (dq c cs wg xs 12884901888):=⟨λw=>by kernel_rfl,by kernel_rfl,by kernel_rfl⟩
theorem GS:feed Pg (aJ (dq c cs wg xs 12884901888)) [cP,.fz false,.val (.int .u64 12884901888)]=some ([.mk (.extern 151),.shp wg,.fz ⟨wg,0,none⟩,.ld .atomic ⟨wg,0,none⟩,.st .atomic ⟨wg,0,none⟩ (.int .u64 (12884901888+1))],.inl (.value (.bool true))):=by kernel_rfl
theorem Rq:(dq c cs wg xs 12884901888).frame.fn=133:=by kernel_rfl
theorem QC:aG Pg true 9 (jr c cs wg xs 12884901888):=λw=>by kernel_rfl
theorem PE:aw Pg true 9 (jr c cs wg xs 12884901888)=oh c cs wg (mq (aw Pg true 9 (jr c cs wg xs 12884901888))):=by kernel_rfl
theorem F7:aG Pg true 19 (pS c cs wg xs 12884901888):=λw=>by kernel_rfl
theorem Pj:aI Pg true (j5 c cs wg xs 12884901888):=⟨λw=>by kernel_rfl,by kernel_rfl,by kernel_rfl⟩
theorem JO:feed Pg (aJ (j5 c cs wg xs 12884901888)) [cP,cP]=some ([.shp wg,.shp wg],.inl (.value (jd wg))):=by kernel_rfl
theorem KA(w:World):stepG Pg true (dC c cs wg xs 12884901888) w= .go (fin (dC c cs wg xs 12884901888) unit) w #[aN (.write ⟨wg,1,none⟩)]:=by kernel_rfl
theorem Wt:(dC c cs wg xs 12884901888).status= .running:=by kernel_rfl
theorem MR:aG Pg true 23 (fin (dC c cs wg xs 12884901888) unit):=λw=>by kernel_rfl
theorem XF:aw Pg true 23 (fin (dC c cs wg xs 12884901888) unit)=iz c cs wg (mq (aw Pg true 23 (fin (dC c cs wg xs 12884901888) unit))):=by kernel_rfl
theorem F6:aG Pg true 48 (mD c cs wg xs 17179869184):=λw=>by kernel_rfl
theorem GZ:aI Pg true (dq c cs wg xs 17179869184):=⟨λw=>by kernel_rfl,by kernel_rfl,by kernel_rfl⟩
theorem Ms:feed Pg (aJ (dq c cs wg xs 17179869184)) [cP,.fz false,.val (.int .u64 17179869184)]=some ([.mk (.extern 151),.shp wg,.fz ⟨wg,0,none⟩,.ld .atomic ⟨wg,0,none⟩,.st .atomic ⟨wg,0,none⟩ (.int .u64 (17179869184+1))],.inl (.value (.bool true))):=by kernel_rfl
theorem Jn:(dq c cs wg xs 17179869184).frame.fn=133:=by kernel_rfl
theorem S9:aG Pg true 9 (jr c cs wg xs 17179869184):=λw=>by kernel_rfl
theorem K6:aw Pg true 9 (jr c cs wg xs 17179869184)=oh c cs wg (mq (aw Pg true 9 (jr c cs wg xs 17179869184))):=by kernel_rfl
theorem Tk:aG Pg true 19 (pS c cs wg xs 17179869184):=λw=>by kernel_rfl
theorem Jk:aI Pg true (j5 c cs wg xs 17179869184):=⟨λw=>by kernel_rfl,by kernel_rfl,by kernel_rfl⟩
theorem QY:feed Pg (aJ (j5 c cs wg xs 17179869184)) [cP,cP]=some ([.shp wg,.shp wg],.inl (.value (jd wg))):=by kernel_rfl
theorem WV(w:World):stepG Pg true (dC c cs wg xs 17179869184) w= .go (fin (dC c cs wg xs 17179869184) unit) w #[aN (.write ⟨wg,1,none⟩)]:=by kernel_rfl
theorem WG:(dC c cs wg xs 17179869184).status= .running:=by kernel_rfl
theorem PY:aG Pg true 23 (fin (dC c cs wg xs 17179869184) unit):=λw=>by kernel_rfl
theorem PW:aw Pg true 23 (fin (dC c cs wg xs 17179869184) unit)=iz c cs wg (mq (aw Pg true 23 (fin (dC c cs wg xs 17179869184) unit))):=by kernel_rfl
theorem Rv:feed Pg (aJ (dq c cs wg xs 4294967296)) [cP,.fz false,.val (.int .u64 0)]=some ([.mk (.extern 151),.shp wg,.fz ⟨wg,0,none⟩,.ld .atomic ⟨wg,0,none⟩],.inl (.value (.bool false))):=by kernel_rfl
theorem GX:feed Pg (aJ (dq c cs wg xs 8589934592)) [cP,.fz false,.val (.int .u64 0)]=some ([.mk (.extern 151),.shp wg,.fz ⟨wg,0,none⟩,.ld .atomic ⟨wg,0,none⟩],.inl (.value (.bool false))):=by kernel_rfl
theorem Xx:feed Pg (aJ (dq c cs wg xs 8589934592)) [cP,.fz false,.val (.int .u64 4294967296)]=some ([.mk (.extern 151),.shp wg,.fz ⟨wg,0,none⟩,.ld .atomic ⟨wg,0,none⟩],.inl (.value (.bool false))):=by kernel_rfl
theorem K8:feed Pg (aJ (dq c cs wg xs 12884901888)) [cP,.fz false,.val (.int .u64 0)]=some ([.mk (.extern 151),.shp wg,.fz ⟨wg,0,none⟩,.ld .atomic ⟨wg,0,none⟩],.inl (.value (.bool false))):=by kernel_rfl
theorem Sm:feed Pg (aJ (dq c cs wg xs 12884901888)) [cP,.fz false,.val (.int .u64 4294967296)]=some ([.mk (.extern 151),.shp wg,.fz ⟨wg,0,none⟩,.ld .atomic ⟨wg,0,none⟩],.inl (.value (.bool false))):=by kernel_rfl
theorem MH:feed Pg (aJ (dq c cs wg xs 12884901888)) [cP,.fz false,.val (.int .u64 8589934592)]=some ([.mk (.extern 151),.shp wg,.fz ⟨wg,0,none⟩,.ld .atomic ⟨wg,0,none⟩],.inl (.value (.bool false))):=by kernel_rfl
theorem Lg:feed Pg (aJ (dq c cs wg xs 17179869184)) [cP,.fz false,.val (.int .u64 0)]=some ([.mk (.extern 151),.shp wg,.fz ⟨wg,0,none⟩,.ld .atomic ⟨wg,0,none⟩],.inl (.value (.bool false))):=by kernel_rfl
theorem XN:feed Pg (aJ (dq c cs wg xs 17179869184)) [cP,.fz false,.val (.int .u64 4294967296)]=some ([.mk (.extern 151),.shp wg,.fz ⟨wg,0,none⟩,.ld .atomic ⟨wg,0,none⟩],.inl (.value (.bool false))):=by kernel_rfl
theorem RI:feed Pg (aJ (dq c cs wg xs 17179869184)) [cP,.fz false,.val (.int .u64 8589934592)]=some ([.mk (.extern 151),.shp wg,.fz ⟨wg,0,none⟩,.ld .atomic ⟨wg,0,none⟩],.inl (.value (.bool false))):=by kernel_rfl
theorem OM:feed Pg (aJ (dq c cs wg xs 17179869184)) [cP,.fz false,.val (.int .u64 12884901888)]=some ([.mk (.extern 151),.shp wg,.fz ⟨wg,0,none⟩,.ld .atomic ⟨wg,0,none⟩],.inl (.value (.bool false))):=by kernel_rfl
theorem zS(a:Addr):seen Pg 133 #[aN (.extern 151),⟨.cell a,false,true⟩,⟨.cell a,true,true⟩]=#[⟨.cell a,false,true⟩,⟨.cell a,true,true⟩]/\seen Pg 133 #[aN (.extern 151),⟨.cell a,false,true⟩]=#[⟨.cell a,false,true⟩]:=⟨by kernel_rfl,by kernel_rfl⟩
theorem vm:aI Pg true (iz c cs wg xs):=⟨λw=>by kernel_rfl,by kernel_rfl,by kernel_rfl⟩
theorem RE:feed Pg (aJ (iz c cs wg xs)) [.val (.int .u32 0)]=some ([.mk (.extern 135),.mk .disable,.ld .atomic ⟨wg,1,none⟩],.inr .blocked):=by kernel_rfl
theorem SP:feed Pg (aJ (iz c cs wg xs)) [.val (.int .u32 1)]=some ([.mk (.extern 135),.mk .disable,.ld .atomic ⟨wg,1,none⟩,.st .atomic ⟨wg,1,none⟩ (.int .u32 0),.mk .enable],.inl (.value unit)):=by kernel_rfl
theorem M6(a:Addr):seen Pg 91 #[aN (.extern 135),aN .disable,⟨.cell a,false,true⟩,⟨.cell a,true,true⟩,aN .enable]=#[aN .disable,⟨.cell a,false,true⟩,⟨.cell a,true,true⟩,aN .enable]/\seen Pg 91 #[]=#[]:=⟨by kernel_rfl,by kernel_rfl⟩
theorem Vm:aG Pg true 16 (fin (iz c cs wg xs) unit):=λw=>by kernel_rfl
noncomputable def oW:Goroutine:=aw Pg true 16 (fin (iz c cs wg xs) unit)
theorem DN:aI Pg true (oW c cs wg xs):=⟨λw=>by kernel_rfl,by kernel_rfl,by kernel_rfl⟩
theorem Kr:feed Pg (aJ (oW c cs wg xs)) [.val (.int .u64 0)]=some ([.mk (.extern 149),.ld .atomic ⟨wg,0,none⟩],.inl (.value (.int .u64 0))):=by kernel_rfl
theorem Oz(a:Addr):seen Pg (oW c cs wg xs).frame.fn #[aN (.extern 149),⟨.cell a,false,true⟩]=#[⟨.cell a,false,true⟩]:=by kernel_rfl
theorem SK:aG Pg true 11 (fin (oW c cs wg xs) (.int .u64 0)):=λw=>by kernel_rfl
noncomputable def o5:Goroutine:=aw Pg true 11 (fin (oW c cs wg xs) (.int .u64 0))
theorem O2(w:World):stepG Pg true (o5 c cs wg xs) w= .go (fin (o5 c cs wg xs) unit) w #[aN .enable]:=by kernel_rfl
theorem NY:(o5 c cs wg xs).status= .running:=by kernel_rfl
theorem Oe:aG Pg true 3 (fin (o5 c cs wg xs) unit):=λw=>by kernel_rfl
noncomputable def lA:Goroutine:=aw Pg true 3 (fin (o5 c cs wg xs) unit)
theorem D5:aI Pg true (lA c cs wg xs):=⟨λw=>by kernel_rfl,by kernel_rfl,by kernel_rfl⟩
theorem ID:feed Pg (aJ (lA c cs wg xs)) [cP,cP]=some ([.shp wg,.shp wg],.inl (.value (ptr wg))):=by kernel_rfl
theorem VA(w:World):stepG Pg true (fin (lA c cs wg xs) (ptr wg)) w= .go (fin (fin (lA c cs wg xs) (ptr wg)) unit) w #[aN (.acquire ⟨wg,0,none⟩)]:=by kernel_rfl
theorem JU:(fin (lA c cs wg xs) (ptr wg)).status= .running:=by kernel_rfl
end
end
section
open Go.Conc
open Go.ConcN (upd)
set_option maxRecDepth 100000
structure Mn extends Pl where
 first:Int
 count:Int
 fn:Fn
 ca:Array Value
 cb:Array Value
def Mn.ix(M:Mn):Value:= .func M.fn M.ca M.cb
def mT(M:Mn)(xs:Nat->Value):Array Value:=#[.int .i64 M.first,.int .i64 M.count,M.ix,xs 3,xs 4,ptr M.bT,xs 6,ptr M.bN,ptr M.bB,ptr M.wg,xs 10,xs 11,xs 12,xs 13,xs 14,xs 15,xs 16,xs 17,xs 18,xs 19,xs 20,xs 21,xs 22,xs 23,xs 24,xs 25,xs 26,xs 27,xs 28,xs 29,xs 30,xs 31,xs 32,xs 33,xs 34,xs 35,xs 36,xs 37,xs 38,xs 39,xs 40,xs 41,xs 42,xs 43,xs 44,xs 45,xs 46,xs 47,xs 48,xs 49,xs 50]
noncomputable def gM(M:Mn)(id n:Nat)(xs:Nat->Value)(cs:List Frame):Goroutine:=zX Pg 68 id n (mT M xs) cs
section
variable (M:Mn) (xs:Nat->Value) (c:Frame) (cs:List Frame)
noncomputable def m0:Goroutine:=qJ 68 #[.int .i64 M.first,.int .i64 M.count,M.ix] (c::cs)
theorem LV:aG Pg true 2 (m0 M c cs):=λw=>by kernel_rfl
noncomputable def mR:Goroutine:=aw Pg true 2 (m0 M c cs)
theorem J9:aI Pg true (mR M c cs):=⟨λw=>by kernel_rfl,by kernel_rfl,by kernel_rfl⟩
theorem S4(r:Nat):feed Pg (aJ (mR M c cs)) [.ref r]=some ([.nw (.cells #[M.ix] 79)],.inl (.value (ptr r))):=by kernel_rfl
theorem WT:aG Pg true 5 (fin (mR M c cs) (ptr M.bT)):=λw=>by kernel_rfl
noncomputable def lZ:Goroutine:=aw Pg true 5 (fin (mR M c cs) (ptr M.bT))
theorem PA:aI Pg true (lZ M c cs):=⟨λw=>by kernel_rfl,by kernel_rfl,by kernel_rfl⟩
noncomputable def rC:Goroutine:=fin (lZ M c cs) (.chan (some M.cN))
theorem Ts:aI Pg true (rC M c cs):=⟨λw=>by kernel_rfl,by kernel_rfl,by kernel_rfl⟩
theorem Mh(r:Nat):feed Pg (aJ (rC M c cs)) [.ref r]=some ([.nw (.cells #[.chan none] 178)],.inl (.value (ptr r))):=by kernel_rfl
noncomputable def mn:Goroutine:=fin (rC M c cs) (ptr M.bN)
theorem Lp:aI Pg true (mn M c cs):=⟨λw=>by kernel_rfl,by kernel_rfl,by kernel_rfl⟩
theorem WX:feed Pg (aJ (mn M c cs)) []=some ([.st .plain ⟨M.bN,0,none⟩ (.chan (some M.cN))],.inl .skip):=by kernel_rfl
theorem TA:aG Pg true 4 (fin (mn M c cs) unit):=λw=>by kernel_rfl
noncomputable def lH:Goroutine:=aw Pg true 4 (fin (mn M c cs) unit)
theorem Vq:aI Pg true (lH M c cs):=⟨λw=>by kernel_rfl,by kernel_rfl,by kernel_rfl⟩
noncomputable def ri:Goroutine:=fin (lH M c cs) (.chan (some M.cB))
theorem GJ:aI Pg true (ri M c cs):=⟨λw=>by kernel_rfl,by kernel_rfl,by kernel_rfl⟩
theorem KS(r:Nat):feed Pg (aJ (ri M c cs)) [.ref r]=some ([.nw (.cells #[.chan none] 179)],.inl (.value (ptr r))):=by kernel_rfl
noncomputable def lJ:Goroutine:=fin (ri M c cs) (ptr M.bB)
theorem Nv:aI Pg true (lJ M c cs):=⟨λw=>by kernel_rfl,by kernel_rfl,by kernel_rfl⟩
theorem Nf:feed Pg (aJ (lJ M c cs)) []=some ([.st .plain ⟨M.bB,0,none⟩ (.chan (some M.cB))],.inl .skip):=by kernel_rfl
theorem IK:aG Pg true 3 (fin (lJ M c cs) unit):=λw=>by kernel_rfl
noncomputable def qL:Goroutine:=aw Pg true 3 (fin (lJ M c cs) unit)
theorem Ix:aI Pg true (qL M c cs):=⟨λw=>by kernel_rfl,by kernel_rfl,by kernel_rfl⟩
theorem Qy(r:Nat):feed Pg (aJ (qL M c cs)) [.ref r]=some ([.nw (.cells #[.int .u64 0,.int .u32 0] 188)],.inl (.value (ptr r))):=by kernel_rfl
noncomputable def fE:Goroutine:=fin (qL M c cs) (ptr M.wg)
end
theorem LF(M:Mn)(h:M.count=1)(c:Frame)(cs:List Frame)(r:Nat):feed Pg (aJ (lZ M c cs)) [.ref r]=some ([.nw (.chan 1 #[] false 0 0 false)],.inl (.value (.chan (some r)))):=by
 obtain⟨p,f,n,fn,ca,cb⟩:=M
 simp only at h
 subst h
 kernel_rfl
theorem Io(M:Mn)(h:M.count=1)(c:Frame)(cs:List Frame)(r:Nat):feed Pg (aJ (lH M c cs)) [.ref r]=some ([.nw (.chan 1 #[] false 0 0 false)],.inl (.value (.chan (some r)))):=by
 obtain⟨p,f,n,fn,ca,cb⟩:=M
 simp only at h
 subst h
 kernel_rfl
theorem Xj(p:Pl)(f:Int)(fn:Fn)(ca cb:Array Value)(c:Frame)(cs:List Frame):aG Pg true 12 (fE ⟨p,f,1,fn,ca,cb⟩ c cs):=λw=>by kernel_rfl
theorem Uz(M:Mn)(h:M.count=1)(c:Frame)(cs:List Frame):aG Pg true 12 (fE M c cs):=by
 obtain⟨p,f,n,fn,ca,cb⟩:=M
 simp only at h
 subst h
 exact Xj p f fn ca cb c cs
theorem Gw(M:Mn)(h:M.count=4)(c:Frame)(cs:List Frame)(r:Nat):feed Pg (aJ (lZ M c cs)) [.ref r]=some ([.nw (.chan 4 #[] false 0 0 false)],.inl (.value (.chan (some r)))):=by
 obtain⟨p,f,n,fn,ca,cb⟩:=M
 simp only at h
 subst h
 kernel_rfl
theorem XO(M:Mn)(h:M.count=4)(c:Frame)(cs:List Frame)(r:Nat):feed Pg (aJ (lH M c cs)) [.ref r]=some ([.nw (.chan 4 #[] false 0 0 false)],.inl (.value (.chan (some r)))):=by
 obtain⟨p,f,n,fn,ca,cb⟩:=M
 simp only at h
 subst h
 kernel_rfl
theorem JI(p:Pl)(f:Int)(fn:Fn)(ca cb:Array Value)(c:Frame)(cs:List Frame):aG Pg true 12 (fE ⟨p,f,4,fn,ca,cb⟩ c cs):=λw=>by kernel_rfl
theorem Uo(M:Mn)(h:M.count=4)(c:Frame)(cs:List Frame):aG Pg true 12 (fE M c cs):=by
 obtain⟨p,f,n,fn,ca,cb⟩:=M
 simp only at h
 subst h
 exact JI p f fn ca cb c cs
theorem MW(M:Mn)(h:M.count=16)(c:Frame)(cs:List Frame)(r:Nat):feed Pg (aJ (lZ M c cs)) [.ref r]=some ([.nw (.chan 16 #[] false 0 0 false)],.inl (.value (.chan (some r)))):=by
 obtain⟨p,f,n,fn,ca,cb⟩:=M
 simp only at h
 subst h
 kernel_rfl
theorem Jj(M:Mn)(h:M.count=16)(c:Frame)(cs:List Frame)(r:Nat):feed Pg (aJ (lH M c cs)) [.ref r]=some ([.nw (.chan 16 #[] false 0 0 false)],.inl (.value (.chan (some r)))):=by
 obtain⟨p,f,n,fn,ca,cb⟩:=M
 simp only at h
 subst h
 kernel_rfl
theorem PJ(p:Pl)(f:Int)(fn:Fn)(ca cb:Array Value)(c:Frame)(cs:List Frame):aG Pg true 12 (fE ⟨p,f,16,fn,ca,cb⟩ c cs):=λw=>by kernel_rfl
theorem Tt(M:Mn)(h:M.count=16)(c:Frame)(cs:List Frame):aG Pg true 12 (fE M c cs):=by
 obtain⟨p,f,n,fn,ca,cb⟩:=M
 simp only at h
 subst h
 exact PJ p f fn ca cb c cs
theorem I0(M:Mn)(h:M.count=64)(c:Frame)(cs:List Frame)(r:Nat):feed Pg (aJ (lZ M c cs)) [.ref r]=some ([.nw (.chan 64 #[] false 0 0 false)],.inl (.value (.chan (some r)))):=by
 obtain⟨p,f,n,fn,ca,cb⟩:=M
 simp only at h
 subst h
 kernel_rfl
theorem Wa(M:Mn)(h:M.count=64)(c:Frame)(cs:List Frame)(r:Nat):feed Pg (aJ (lH M c cs)) [.ref r]=some ([.nw (.chan 64 #[] false 0 0 false)],.inl (.value (.chan (some r)))):=by
 obtain⟨p,f,n,fn,ca,cb⟩:=M
 simp only at h
 subst h
 kernel_rfl
theorem JH(p:Pl)(f:Int)(fn:Fn)(ca cb:Array Value)(c:Frame)(cs:List Frame):aG Pg true 12 (fE ⟨p,f,64,fn,ca,cb⟩ c cs):=λw=>by kernel_rfl
theorem Xh(M:Mn)(h:M.count=64)(c:Frame)(cs:List Frame):aG Pg true 12 (fE M c cs):=by
 obtain⟨p,f,n,fn,ca,cb⟩:=M
 simp only at h
 subst h
 exact JH p f fn ca cb c cs
def qx(_:Mn)(n i:Int)(xs:Nat->Value):Nat->Value:=upd (upd xs 18 (.int .i64 n)) 19 (.int .i64 i)
def iA(g:Goroutine):Nat->Value:=λi=>g.frame.tmps.getD i undef
theorem Mr(M:Mn)(h:M.count=1)(c:Frame)(cs:List Frame):aw Pg true 12 (fE M c cs)=gM M 5 0 (qx M (min 4 1) 0 (iA (aw Pg true 12 (fE M c cs)))) (c::cs):=by
 obtain⟨p,f,n,fn,ca,cb⟩:=M
 simp only at h
 subst h
 kernel_rfl
theorem JR(M:Mn)(h:M.count=4)(c:Frame)(cs:List Frame):aw Pg true 12 (fE M c cs)=gM M 5 0 (qx M (min 4 4) 0 (iA (aw Pg true 12 (fE M c cs)))) (c::cs):=by
 obtain⟨p,f,n,fn,ca,cb⟩:=M
 simp only at h
 subst h
 kernel_rfl
theorem Ic(M:Mn)(h:M.count=16)(c:Frame)(cs:List Frame):aw Pg true 12 (fE M c cs)=gM M 5 0 (qx M (min 4 16) 0 (iA (aw Pg true 12 (fE M c cs)))) (c::cs):=by
 obtain⟨p,f,n,fn,ca,cb⟩:=M
 simp only at h
 subst h
 kernel_rfl
theorem Og(M:Mn)(h:M.count=64)(c:Frame)(cs:List Frame):aw Pg true 12 (fE M c cs)=gM M 5 0 (qx M (min 4 64) 0 (iA (aw Pg true 12 (fE M c cs)))) (c::cs):=by
 obtain⟨p,f,n,fn,ca,cb⟩:=M
 simp only at h
 subst h
 kernel_rfl
section
variable (M:Mn) (xs:Nat->Value) (cs:List Frame)
noncomputable def dr(n i:Int):Goroutine:=gM M 5 0 (qx M n i xs) cs
noncomputable def j9(n i:Int):Frame:=(aw Pg true 9 (dr M xs cs n i)).frame
noncomputable def cC(n i:Int):Goroutine:=aw Pg true 3 (iD (j9 M xs cs n i) cs)
theorem XG:aG Pg true 10 (dr M xs cs 1 0):=λw=>by kernel_rfl
theorem PZ:aw Pg true 10 (dr M xs cs 1 0)=nB (j9 M xs cs 1 0) cs M.wg:=by kernel_rfl
theorem JC:aG Pg true 3 (iD (j9 M xs cs 1 0) cs):=λw=>by kernel_rfl
theorem Qf(w:World):stepG Pg true (cC M xs cs 1 0) w= .spawn (fin (cC M xs cs 1 0) unit) (j7 M.toPl) w #[]:=by kernel_rfl
theorem T6:(cC M xs cs 1 0).status= .running:=by kernel_rfl
theorem RG:aG Pg true 9 (fin (cC M xs cs 1 0) unit):=λw=>by kernel_rfl
theorem I5:aw Pg true 9 (fin (cC M xs cs 1 0) unit)=dr M (iA (aw Pg true 9 (fin (cC M xs cs 1 0) unit))) cs 1 1:=by kernel_rfl
theorem Nn:aG Pg true 10 (dr M xs cs 4 0):=λw=>by kernel_rfl
theorem Wc:aw Pg true 10 (dr M xs cs 4 0)=nB (j9 M xs cs 4 0) cs M.wg:=by kernel_rfl
theorem SN:aG Pg true 3 (iD (j9 M xs cs 4 0) cs):=λw=>by kernel_rfl
theorem LM(w:World):stepG Pg true (cC M xs cs 4 0) w= .spawn (fin (cC M xs cs 4 0) unit) (j7 M.toPl) w #[]:=by kernel_rfl
theorem Jd:(cC M xs cs 4 0).status= .running:=by kernel_rfl
theorem It:aG Pg true 9 (fin (cC M xs cs 4 0) unit):=λw=>by kernel_rfl
theorem Pk:aw Pg true 9 (fin (cC M xs cs 4 0) unit)=dr M (iA (aw Pg true 9 (fin (cC M xs cs 4 0) unit))) cs 4 1:=by kernel_rfl
theorem RP:aG Pg true 10 (dr M xs cs 4 1):=λw=>by kernel_rfl
theorem Lc:aw Pg true 10 (dr M xs cs 4 1)=nB (j9 M xs cs 4 1) cs M.wg:=by kernel_rfl
theorem KG:aG Pg true 3 (iD (j9 M xs cs 4 1) cs):=λw=>by kernel_rfl
theorem UY(w:World):stepG Pg true (cC M xs cs 4 1) w= .spawn (fin (cC M xs cs 4 1) unit) (j7 M.toPl) w #[]:=by kernel_rfl
theorem TD:(cC M xs cs 4 1).status= .running:=by kernel_rfl
theorem I9:aG Pg true 9 (fin (cC M xs cs 4 1) unit):=λw=>by kernel_rfl
theorem QZ:aw Pg true 9 (fin (cC M xs cs 4 1) unit)=dr M (iA (aw Pg true 9 (fin (cC M xs cs 4 1) unit))) cs 4 2:=by kernel_rfl
theorem Tg:aG Pg true 10 (dr M xs cs 4 2):=λw=>by kernel_rfl
theorem UC:aw Pg true 10 (dr M xs cs 4 2)=nB (j9 M xs cs 4 2) cs M.wg:=by kernel_rfl
theorem MS:aG Pg true 3 (iD (j9 M xs cs 4 2) cs):=λw=>by kernel_rfl
theorem Uf(w:World):stepG Pg true (cC M xs cs 4 2) w= .spawn (fin (cC M xs cs 4 2) unit) (j7 M.toPl) w #[]:=by kernel_rfl
theorem SV:(cC M xs cs 4 2).status= .running:=by kernel_rfl
theorem Lr:aG Pg true 9 (fin (cC M xs cs 4 2) unit):=λw=>by kernel_rfl
theorem VE:aw Pg true 9 (fin (cC M xs cs 4 2) unit)=dr M (iA (aw Pg true 9 (fin (cC M xs cs 4 2) unit))) cs 4 3:=by kernel_rfl
theorem MF:aG Pg true 10 (dr M xs cs 4 3):=λw=>by kernel_rfl
theorem Q2:aw Pg true 10 (dr M xs cs 4 3)=nB (j9 M xs cs 4 3) cs M.wg:=by kernel_rfl
theorem GG:aG Pg true 3 (iD (j9 M xs cs 4 3) cs):=λw=>by kernel_rfl
theorem Ou(w:World):stepG Pg true (cC M xs cs 4 3) w= .spawn (fin (cC M xs cs 4 3) unit) (j7 M.toPl) w #[]:=by kernel_rfl
theorem VQ:(cC M xs cs 4 3).status= .running:=by kernel_rfl
theorem T5:aG Pg true 9 (fin (cC M xs cs 4 3) unit):=λw=>by kernel_rfl
theorem KM:aw Pg true 9 (fin (cC M xs cs 4 3) unit)=dr M (iA (aw Pg true 9 (fin (cC M xs cs 4 3) unit))) cs 4 4:=by kernel_rfl
end
end
end Go.Proofs.YtldmcdeibiclkaaGreatDoor.U
