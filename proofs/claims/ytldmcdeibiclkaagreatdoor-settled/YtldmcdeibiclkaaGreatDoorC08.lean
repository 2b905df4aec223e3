/-
  Toward settled_holds: BEHIND Add(-1): it leaves; or it is the last one, and wakes the starter.
-/
import Derived.Test.YtldmcdeibiclkaaGreatDoorC07
import Derived.Conc.CrowdComm
set_option linter.unusedVariables false
set_option linter.unusedSimpArgs false
set_option maxRecDepth 100000
set_option maxHeartbeats 20000000
namespace Go.Proofs.YtldmcdeibiclkaaGreatDoor.U
variable {a:Int}{q:Nat}{v w:World}{X:Nat->Value}{x:Value}
section
open Go.Conc
set_option maxRecDepth 100000
section
variable (c:Frame) (cs:List Frame) (wg:Nat)
def back:Goroutine:={frame:=c.finish unit,callers:=cs,status:= .running,dying:=none}
noncomputable def rP(st:Int):Goroutine:=aE Pg false 87 (mK (c::cs) wg st)
noncomputable def enabled(g:Goroutine):Goroutine:={g with frame:={g.frame with defers:=[]}}
theorem GQ:∀e∈#[aM .enable],Event.mute e=true:=by intro e he;simp[aM] at he;subst he;rfl
theorem Ce{st:Int}(h1:bf Pg false 87 (mK (c::cs) wg st))(h2:(rP c cs wg st).status= .running)(h3:∀w,stepG Pg false (rP c cs wg st) w= .go (enabled (rP c cs wg st)) w #[aM .enable])(h4:(enabled (rP c cs wg st)).status= .running)(h5:∀w,stepG Pg false (enabled (rP c cs wg st)) w= .go (back c cs) w #[])(h:QuitsD Pg q 0 (back c cs)):QuitsD Pg (87+((1+q)+1)) 1 (mK (c::cs) wg st):=
 QuitsD.aO h1.aO (QuitsD.marked h2 h3 GQ (QuitsD.aO (aF.one h4 h5) h))
theorem Ie:bf Pg false 103 (mK (c::cs) wg 1):=λw=>by kernel_rfl
noncomputable def qA:Goroutine:=aE Pg false 103 (mK (c::cs) wg 1)
theorem xD:aI Pg false (qA c cs wg):=⟨λw=>by kernel_rfl,by kernel_rfl,by kernel_rfl⟩
theorem Ru:feed Pg (aY (qA c cs wg)) [.val (.int .u64 1)]=some ([.mk (.extern 149),.ld .atomic ⟨wg,0,none⟩],.inl (.value (.int .u64 1))):=by kernel_rfl
theorem Ia(a:Addr):seen Pg (qA c cs wg).frame.fn #[aM (.extern 149),⟨.cell a,false,true⟩]=#[⟨.cell a,false,true⟩]:=by kernel_rfl
theorem VX:bf Pg false 20 (fin (qA c cs wg) (.int .u64 1)):=λw=>by kernel_rfl
noncomputable def qo:Goroutine:=aE Pg false 20 (fin (qA c cs wg) (.int .u64 1))
theorem wH:aI Pg false (qo c cs wg):=⟨λw=>by kernel_rfl,by kernel_rfl,by kernel_rfl⟩
theorem TC:feed Pg (aY (qo c cs wg)) []=some ([.mk (.extern 150),.st .atomic ⟨wg,0,none⟩ (.int .u64 0)],.inl (.value unit)):=by kernel_rfl
theorem Ri(a:Addr):seen Pg (qo c cs wg).frame.fn #[aM (.extern 150),⟨.cell a,true,true⟩]=#[⟨.cell a,true,true⟩]:=by kernel_rfl
theorem I9:bf Pg false 27 (fin (qo c cs wg) unit):=λw=>by kernel_rfl
noncomputable def nu:Goroutine:=aE Pg false 27 (fin (qo c cs wg) unit)
theorem xd:aI Pg false (nu c cs wg):=⟨λw=>by kernel_rfl,by kernel_rfl,by kernel_rfl⟩
theorem VS:mayWake Pg (nu c cs wg)=true:=by kernel_rfl
theorem JA:feed Pg (aY (nu c cs wg)) [.val (.int .u32 0)]=some ([.mk (.extern 130),.mk .disable,.ld .atomic ⟨wg,1,none⟩,.st .atomic ⟨wg,1,none⟩ (.int .u32 1),.mk .enable],.inl (.value unit)):=by kernel_rfl
theorem TE(a:Addr):seen Pg (nu c cs wg).frame.fn #[aM (.extern 130),aM .disable,⟨.cell a,false,true⟩,⟨.cell a,true,true⟩,aM .enable]=#[aM .disable,⟨.cell a,false,true⟩,⟨.cell a,true,true⟩,aM .enable]:=by kernel_rfl
theorem MK:bf Pg false 17 (fin (nu c cs wg) unit):=λw=>by kernel_rfl
noncomputable def xU:Goroutine:=aE Pg false 17 (fin (nu c cs wg) unit)
theorem Ws(w:World):stepG Pg false (xU c cs wg) w= .go (enabled (xU c cs wg)) w #[aM .enable]:=by kernel_rfl
theorem ML(w:World):stepG Pg false (enabled (xU c cs wg)) w= .go (back c cs) w #[]:=by kernel_rfl
theorem JJ(h:QuitsD Pg q 0 (back c cs)):QuitsD Pg (17+((1+q)+1)) 1 (fin (nu c cs wg) unit):=
 QuitsD.aO (MK c cs wg).aO (QuitsD.marked (by kernel_rfl) (Ws c cs wg) GQ (QuitsD.aO (aF.one (by kernel_rfl) (ML c cs wg)) h))
end
end
section
open Go.Conc
open Go.ConcN (upd)
set_option maxRecDepth 100000
structure Pl where
 wg:Nat
 bN:Nat
 bB:Nat
 bT:Nat
 cN:Nat
 cB:Nat
noncomputable def nB(p:Pl):Goroutine:=
 {frame:={(default:Frame) with fn:=Pg.funcs.size,defers:=[{target:= .fn (.func 89) #[ptr p.wg,ptr p.bN,ptr p.bB,ptr p.bT],args:=#[]}],mode:= .panicking [goexitEntry]},callers:=[],status:= .running,dying:=none}
theorem WG(p:Pl):bf Pg false 7 (nB p):=λw=>by kernel_rfl
noncomputable def qv(p:Pl):Goroutine:=aE Pg false 7 (nB p)
theorem xf(p:Pl):aI Pg false (qv p):=⟨λw=>by kernel_rfl,by kernel_rfl,by kernel_rfl⟩
theorem KG(p:Pl)(v:Value):feed Pg (aY (qv p)) [.val v]=some ([.ld .plain ⟨p.bN,0,none⟩],.inl (.value v)):=by kernel_rfl
theorem VL(p:Pl)(b:Nat):seen Pg (qv p).frame.fn #[⟨.cell ⟨b,0,none⟩,false,false⟩]=#[⟨.cell ⟨b,0,none⟩,false,false⟩]:=by kernel_rfl
noncomputable def zJ(p:Pl):Goroutine:=fH (qv p) ((qv p).frame.finish (.chan (some p.cN)))
theorem PL(p:Pl):bf Pg false 5 (zJ p):=λw=>by kernel_rfl
def Hh(p:Pl)(xs:Nat->Value):Array Value:=#[ptr p.wg,ptr p.bN,ptr p.bB,ptr p.bT,xs 4,.chan (some p.cN),xs 6,xs 7,xs 8,xs 9,xs 10,xs 11,xs 12,xs 13,xs 14,xs 15]
def Hs(g:Goroutine)(ts:Array Value):Goroutine:={g with frame:={g.frame with tmps:=ts}}
noncomputable def gV(p:Pl)(xs:Nat->Value):Goroutine:=Hs (aE Pg false 5 (zJ p)) (Hh p xs)
theorem Uu(p:Pl):aE Pg false 5 (zJ p)=gV p (λ_=>undef):=by kernel_rfl
theorem yw(p:Pl)(xs:Nat->Value):aI Pg false (gV p xs):=⟨λw=>by kernel_rfl,by kernel_rfl,by kernel_rfl⟩
def sF(p:Pl):Array CommCase:=#[{chan:= .chan (some p.cN),send:=none,zero:= .int .i64 0}]
theorem IB(p:Pl)(xs:Nat->Value):feed Pg (aY (gV p xs)) []=some ([],.inl (.comm (sF p) true (.recv true))):=by kernel_rfl
noncomputable def vl(p:Pl)(xs:Nat->Value)(n:Int):Goroutine:=(gV p xs).finishComm Pg (sF p) (.recv true) 0 (.int .i64 n) true
theorem Cf(p:Pl)(xs:Nat->Value)(n:Int):bf Pg false 11 (vl p xs n):=λw=>by kernel_rfl
noncomputable def BS:Goroutine:=aE Pg false 11 (vl ⟨0,0,0,0,0,0⟩ (λ_=>undef) 0)
noncomputable def px(p:Pl)(xs:Nat->Value):Goroutine:=Hs (aE Pg false 11 (vl p (λ_=>undef) 0)) (Hh p xs)
def iP(xs:Nat->Value)(n:Int):Nat->Value:=upd (upd (upd (upd xs 6 (.tuple #[.int .i64 n,.bool true])) 7 (.bool true)) 8 (.int .i64 n)) 4 (.int .i64 n)
theorem Ho(p:Pl)(xs:Nat->Value)(n:Int):aE Pg false 11 (vl p xs n)=px p (iP xs n):=by kernel_rfl
noncomputable def lV:Array Oper:=match BS.frame.todo with| .code (.region _ ops _)::_=>ops|_=>#[]
noncomputable def kR:List Item:=match BS.frame.todo with|_::k=>k|_=>[]
noncomputable def bu(p:Pl)(xs:Nat->Value)(l:List Nat):Goroutine:={px p xs with frame:={(px p xs).frame with todo:= .inRegion lV l::kR}}
theorem Gz(p:Pl)(xs:Nat->Value):(px p xs).status= .running:=by kernel_rfl
theorem NT(p:Pl)(xs:Nat->Value)(w:World):stepG Pg false (px p xs) w= .go (bu p xs (Region.schedule true lV (w.tape w.drawn (.order 89 4)))) {w with drawn:=w.drawn+1} #[]:=by kernel_rfl
section
variable (p:Pl) (xs:Nat->Value) (rest:List Nat)
theorem OJ:aI Pg false (bu p xs (0::rest)):=⟨λw=>by kernel_rfl,by kernel_rfl,by kernel_rfl⟩
theorem Vf(v:Value):feed Pg (aY (bu p xs (0::rest))) [.val v]=some ([.ld .plain ⟨p.bB,0,none⟩],.inl (.value v)):=by kernel_rfl
theorem Oz(v:Value):fH (bu p xs (0::rest)) ((bu p xs (0::rest)).frame.finish v)=bu p (upd xs 9 v) rest:=by kernel_rfl
theorem RA:bf Pg false 1 (bu p xs (1::rest)):=λw=>by kernel_rfl
theorem LY:nx Pg false (bu p xs (1::rest))=bu p (upd xs 10 (xs 4)) rest:=by kernel_rfl
theorem Vn:aI Pg false (bu p xs (2::rest)):=⟨λw=>by kernel_rfl,by kernel_rfl,by kernel_rfl⟩
theorem RD(v:Value):feed Pg (aY (bu p xs (2::rest))) [.val v]=some ([.ld .plain ⟨p.bT,0,none⟩],.inl (.value v)):=by kernel_rfl
theorem O7(v:Value):fH (bu p xs (2::rest)) ((bu p xs (2::rest)).frame.finish v)=bu p (upd xs 11 v) rest:=by kernel_rfl
theorem Wt:bf Pg false 1 (bu p xs (3::rest)):=λw=>by kernel_rfl
theorem Su:nx Pg false (bu p xs (3::rest))=bu p (upd xs 12 (xs 4)) rest:=by kernel_rfl
theorem N0:aI Pg false (bu p xs (4::rest)):=⟨λw=>by kernel_rfl,by kernel_rfl,by kernel_rfl⟩
theorem QW(v:Value):fH (bu p xs (4::rest)) ((bu p xs (4::rest)).frame.finish v)=bu p (upd xs 13 v) rest:=by kernel_rfl
theorem N9(v:Value):fH (bu p xs (5::rest)) ((bu p xs (5::rest)).frame.finish v)=bu p (upd xs 14 v) rest:=by kernel_rfl
theorem OE(n d:Int):bf Pg false 1 (bu p (upd (upd xs 10 (.int .i64 n)) 14 (.int .u64 d)) (6::rest)):=λw=>by kernel_rfl
theorem RM(n d:Int):nx Pg false (bu p (upd (upd xs 10 (.int .i64 n)) 14 (.int .u64 d)) (6::rest))=bu p (upd (upd (upd xs 10 (.int .i64 n)) 14 (.int .u64 d)) 15 (.agg #[.int .i64 n,.int .u64 d])) rest:=by kernel_rfl
theorem Kh:aI Pg false (bu p xs (7::rest)):=⟨λw=>by kernel_rfl,by kernel_rfl,by kernel_rfl⟩
theorem MJ:feed Pg (aY (bu p xs (7::rest))) []=some ([],.inl (.comm #[{chan:=xs 9,send:=some (xs 15),zero:= .tuple #[]}] true .send)):=by kernel_rfl
end
theorem K5(p:Pl)(xs:Nat->Value):bf Pg false 5 (bu p xs []):=λw=>by kernel_rfl
theorem WN(p:Pl)(xs:Nat->Value):aE Pg false 5 (bu p xs [])=gV p xs:=by kernel_rfl
noncomputable def uL(p:Pl)(xs:Nat->Value):Goroutine:=(gV p xs).finishComm Pg (sF p) (.recv true) 0 (.int .i64 0) false
theorem Lw(p:Pl)(xs:Nat->Value):bf Pg false 10 (uL p xs):=λw=>by kernel_rfl
noncomputable def cD(p:Pl)(xs:Nat->Value):Frame:=(aE Pg false 10 (uL p xs)).callers.headD default
noncomputable def fU(p:Pl)(xs:Nat->Value):List Frame:=(aE Pg false 10 (uL p xs)).callers.tail
theorem MP(p:Pl)(xs:Nat->Value):aE Pg false 10 (uL p xs)=xL (cD p xs::fU p xs) p.wg:=by kernel_rfl
theorem xQ(p:Pl)(xs:Nat->Value):QuitsD Pg 5 0 (back (cD p xs) (fU p xs)):=Bf 5 0 _ (λw=>by kernel_rfl) (by kernel_rfl) (by kernel_rfl) (by kernel_rfl)
end
section
open Go.Conc
open Go.ConcN (upd upd_same upd_ne)
set_option maxRecDepth 100000
theorem J9(p:Pl)(xs:Nat->Value)(rest:List Nat):aY (bu p xs (4::rest))=(do let d ←Deferred.ofValue (xs 11) #[xs 12];invoke d.target d.args):=by kernel_rfl
theorem Mf(p:Pl)(xs:Nat->Value)(rest:List Nat)(w:World):stepG Pg false (bu p xs (5::rest)) w= .go {frame:=Frame.enter Pg 82 #[xs 13] .normal,callers:=(bu p xs (5::rest)).frame::(bu p xs (5::rest)).callers,status:= .running,dying:=none} w #[]:=by kernel_rfl
section
variable {L:aA} {T:aN} {Goal:Frame->List Frame->World->Prop}
def ru(E:Entry L)(v:World):Prop:=E.v0.heap.size<=v.heap.size/\∀s,s< E.v0.heap.size->v.heap[s]? =E.v0.heap[s]?
theorem Qi(A:eY L T Goal){E:Entry L}(K:iM L E){i:Nat}(hj:uv Goal E i a)(p:Pl){xs:Nat->Value}(rest:List Nat)(h11:xs 11=E.y2)(h12:xs 12= .int .i64 (IntKind.i64.wrap (E.first+i)))(hv:ru E v):
  ∃X s g1,stepG Pg false (bu p xs (4::rest)) v= .go g1 v #[]/\X 7= .int .u64 a/\gX L T Goal E (qF E 5 0 X) ((bu p xs (4::rest)).frame::(bu p xs (4::rest)).callers) (λ_=>False) s g1 v:=by
 obtain⟨X,w,hs,h4,h7,hk⟩:=hj;obtain⟨f,us,us',vs,vs',e1,e2,hf,hn,hT,e⟩:=wI A K 5 (.inr rfl) hs h4;obtain⟨d1,d2⟩:=hk.obj K v (λr s hr=>hv.2 s (K.cy r s hr).2) hv.1;have hp:=J9 p xs rest;rw[h11,h12,e2] at hp;obtain⟨⟨fn,f1,f2,f3⟩,_⟩:=A.stat.cp.qg f hf;have hr:(aY (bu p xs (4::rest))).runT Pg v #[]=(.ok (.enter f (us'++#[.int .i64 (IntKind.i64.wrap (E.first+i))]++vs')) v,#[]):=by
  rw[hp];exact AO (P:=Pg) f1 f2 f3 _ _ _
 refine⟨X,⟨_,_,w⟩,_,aI.enter (N0 p xs rest) hr rfl,h7,Safe.next hs (A.ja rfl) w.tape e,⟨[],rfl⟩,⟨fM E.ρ,?_,λr t hx=> .inl (ma.1 hx),λr t hx=>absurd hx ur⟩,hk⟩;exact tl A.stat A.fl hf hn hT (qF E 5 0 X::E.cs++ [wall]) _ K.bi (K.gl A.stat) d1 d2
def vL(Goal:Frame->List Frame->World->Prop)(E:Entry L)(a:Int)(t:ByteArray):Prop:=∃X w,Safe Qg Goal (qF E 5 2 X) E.cs w/\X 8= .string t/\X 7= .int .u64 a/\iy E w
theorem S3(A:eY L T Goal){E:Entry L}(h7:X 7= .int .u64 a)(hs:Safe Qg Goal ((qF E 5 0 X).finish x) E.cs w)(hk:iy E w): ∃t,x= .string t/\vL Goal E a t:=by
 rw[show (qF E 5 0 X).finish x=qF E 5 1 (upd X 8 x) from DM ..] at hs;obtain⟨t,rfl⟩:=Er _ _ _ _ _ _ _ (A.dW hs rfl);have r:=A.dX (Cm (.int .i64 E.first) (.int .i64 E.n) E.x2 X E.cs t) (Fu (.int .i64 E.first) (.int .i64 E.n) E.x2 X E.cs t) w;exact⟨t,rfl,_,w,Safe.run hs r,rfl,h7,hk⟩
theorem K8(A:eY L T Goal){E:Entry L}(K:iM L E){t:ByteArray}(hm:vL Goal E a t)(p:Pl){xs:Nat->Value}(rest:List Nat)(h13:xs 13= .string t)(hv:ru E v):
  ∃X s g1,stepG Pg false (bu p xs (5::rest)) v= .go g1 v #[]/\X 7= .int .u64 a/\gX L T Goal E (qF E 5 2 X) ((bu p xs (5::rest)).frame::(bu p xs (5::rest)).callers) (λ_=>False) s g1 v:=by
 obtain⟨X,w,hs,h8,h7,hk⟩:=hm;have e:=DV (.int .i64 E.first) (.int .i64 E.n) E.x2 X E.cs w;rw[h8] at e;have hT:TR L (fM E.ρ) 82 #[.string t] #[.string t]:=⟨rfl,λi x y hx hy=>by
  cases i with
  |zero=>
   rw[A.sum.2];simp at hx hy;subst hx hy;exact VR.string t
  |succ i=>simp at hx⟩
 obtain⟨d1,d2⟩:=hk.obj K v (λr s hr=>hv.2 s (K.cy r s hr).2) hv.1;have e2:=Mf p xs rest v;rw[h13] at e2;refine⟨X,⟨_,_,w⟩,_,e2,h7,Safe.next hs (A.ja rfl) w.tape e,⟨[],rfl⟩,⟨fM E.ρ,?_,λr t hx=> .inl (ma.1 hx),λr t hx=>absurd hx ur⟩,hk⟩;exact tl A.stat A.fl A.sum.1 (λe=>A.qc (e ▸ A.sum.1)) hT (qF E 5 2 X::E.cs++ [wall]) _ K.bi (K.gl A.stat) d1 d2
theorem NH(A:eY L T Goal){E:Entry L}(h7:X 7= .int .u64 a)(hs:Safe Qg Goal ((qF E 5 2 X).finish x) E.cs w):x= .int .u64 a:=by
 rw[C9] at hs;generalize hX5:upd X 9 x=X5 at hs;have f57:X5 7= .int .u64 a:=by rw[←hX5];exact h7
 have f59:X5 9=x:=by rw[←hX5];rfl
 have r10:=A.dX (Fh (.int .i64 E.first) (.int .i64 E.n) E.x2 X5 E.cs) (D9 (.int .i64 E.first) (.int .i64 E.n) E.x2 X5 E.cs) w;have s9:=Safe.run hs r10;have u7:upd X5 7 (.int .u64 a)=X5:=by rw[←f57];exact kL X5 7
 rw[←u7] at s9;have r11:=A.dX (Eg (.int .i64 E.first) (.int .i64 E.n) E.x2 X5 E.cs a) (Hk (.int .i64 E.first) (.int .i64 E.n) E.x2 X5 E.cs a) w;have s10:=Safe.run s9 r11;rw[u7] at s10;generalize hX6:upd X5 18 (.bool (decide (a< 0)))=X6 at s10;have f67:X6 7= .int .u64 a:=by rw[←hX6];exact f57
 have f69:X6 9=x:=by rw[←hX6];exact f59
 have u9:upd X6 9 x=X6:=by rw[←f69];exact kL X6 9
 rw[←u9] at s10;obtain⟨eb,rfl⟩:=Gr _ _ _ _ _ _ _ (A.dW s10 rfl);rw[u9] at s10;have u79:nR a eb X6=X6:=by
  unfold nR;rw[show upd X6 7 (.int .u64 a)=X6 by rw[←f67];exact kL X6 7];exact u9
 have r12:=A.dX (CN (.int .i64 E.first) (.int .i64 E.n) E.x2 X6 E.cs a eb) (Bt (.int .i64 E.first) (.int .i64 E.n) E.x2 X6 E.cs a eb) w;rw[u79] at r12;have s11:=Safe.run s10 r12;have hab:a=eb:=by
  refine XD λhne=>?_;rw[show (!decide (a=eb))=true by simp[hne]] at s11;have rb:=A.dX (A5 (.int .i64 E.first) (.int .i64 E.n) E.x2 (upd X6 19 (.bool (decide (eb< 0)))) E.cs) rfl w;have sb:=Safe.run s11 rb
  have:=A.dW (fr:=tz (.int .i64 E.first) (.int .i64 E.n) E.x2 (upd X6 19 (.bool (decide (eb< 0)))) E.cs) sb (FQ ..);rw[Fw] at this;cases this
 rw[hab]
end
end
section
open Go.Conc
open Go.ConcN (upd upd_same upd_ne)
set_option maxRecDepth 100000
def q9(m:Region.Mode)(ops:Array Oper):Nat->Array Bool->List Nat->List (List Nat)
 |0,_,acc=>[acc.reverse]
 |fuel+1,listed,acc=>
  let rs:=(List.range ops.size).filter λi=>!listed.getD i true && ((ops[i]?).map (·.after.all λe=>!Region.binds m e||listed.getD e.on false)).getD false
  if rs.isEmpty then [acc.reverse] else rs.flatMap λi=>q9 m ops fuel (listed.setIfInBounds i true) (i::acc)
theorem Ap(m:Region.Mode)(ops:Array Oper):∀(fuel t:Nat) (listed:Array Bool) (acc:List Nat),Region.linearise.go m ops fuel t listed acc∈q9 m ops fuel listed acc
 |0,_,_,acc=>by simp[Region.linearise.go,q9]
 |fuel+1,t,listed,acc=>by
  simp only[Region.linearise.go,q9];generalize hrs:((List.range ops.size).filter λi=>!listed.getD i true && ((ops[i]?).map (·.after.all λe=>!Region.binds m e||listed.getD e.on false)).getD false)=rs;by_cases h:rs= []
  ·subst h;simp
  ·have hl:0< rs.length:=List.length_pos_iff.2 h;have hm:t % rs.length< rs.length:=Nat.mod_lt _ hl;rw[List.getElem?_eq_getElem hm];have he:rs.isEmpty=false:=by simp[h]
   simp only[he,Xf,Xd,YM];exact⟨_,Xe hm,Ap m ops fuel _ _ _⟩
def nP:Nat->List Nat->Bool
 |0,r=>r.contains 7
 |1,r=>r.contains 6
 |2,r=>r.contains 4
 |3,r=>r.contains 4
 |4,r=>!r.contains 2 && !r.contains 3 && r.contains 5
 |5,r=>!r.contains 4 && r.contains 6
 |6,r=>!r.contains 1 && !r.contains 5 && r.contains 7
 |7,r=>r.isEmpty
 |_,_=>false
def jw:List Nat->Bool
 |[]=>true
 |j::r=>nP j r && jw r
def whole(l:List Nat):Bool:=jw l && (List.range 8).all l.contains && decide (l.length=8)
theorem VW:(q9 .any lV 8 (Array.replicate 8 false) []).all whole=true:=by kernel_rfl
theorem JP:lV.size=8:=by kernel_rfl
theorem Pp(t:Nat):whole (Region.schedule true lV t)=true:=by
 have h:Region.schedule true lV t=Region.linearise .any lV t:=by simp[Region.schedule]
 rw[h]
 have:=Ap .any lV 8 t (Array.replicate 8 false) [];unfold Region.linearise;rw[JP];exact List.all_eq_true.1 VW _ this
section
variable {α:Type} {R:α->α->Prop}
def nE(R:α->α->Prop)(n:Nat)(f' f:Nat->Option α):Prop:=∃k,k< n/\∃s s',f k=some s/\f' k=some s'/\R s' s/\∀j,j≠k->f' j=f j
theorem vO:∀(n:Nat) (f:Nat->Option α),(∀k,k< n->∀s,f k=some s->Acc R s)->Acc (nE R n) f
 |0,f,_=>Acc.intro _ λf' ⟨k,hk,_⟩=>absurd hk (by omega)
 |n+1,f,h=>by
  have key:∀(x:Option α),(∀s,x=some s->Acc R s)->∀f:Nat->Option α,f n=x->(∀k,k< n->∀s,f k=some s->Acc R s)->Acc (nE R (n+1)) f:=by
   have inner:∀(x:Option α),(∀s s',x=some s->R s' s->∀f:Nat->Option α,f n=some s'->(∀k,k< n->∀s,f k=some s->Acc R s)->Acc (nE R (n+1)) f)->∀f:Nat->Option α,Acc (nE R n) f->f n=x->(∀k,k< n->∀s,f k=some s->Acc R s)->Acc (nE R (n+1)) f:=by
    intro x hx f ha;induction ha with
    |intro f _ ih=>
     intro hf hk;refine Acc.intro _ λf' hs=>?_;obtain⟨k,aV,s,s',e1,e2,hr,ho⟩:=hs;by_cases hkk:k=n
     ·subst hkk;rw[hf] at e1;refine hx s s' e1 hr f' e2 λj hj u hu=>hk j hj u (by rw[←ho j (by omega)];exact hu)
     ·refine ih f' ⟨k,by omega,s,s',e1,e2,hr,ho⟩ (by rw[ho n (by omega)];exact hf) λj hj u hu=>?_;by_cases hjk:j=k
      ·subst hjk;rw[e2] at hu;cases hu;exact (hk j hj s e1).inv hr
      ·exact hk j hj u (by rw[←ho j hjk];exact hu)
   intro x hx f hf hk;cases x with
   |none=>exact inner none (λs s' h=>by cases h) f (vO n f hk) hf hk
   |some s=>
    have hs:=hx s rfl;induction hs generalizing f with
    |intro s _ ih=>
     refine inner (some s) (λs1 s' e hr f' hf' hk'=>?_) f (vO n f hk) hf hk;cases e;exact ih s' hr f' hk' (λu hu=>by cases hu;exact (hx s rfl).inv hr) hf'
  exact key (f n) (λs hs=>h n (by omega) s hs) f rfl λk hk=>h k (by omega)
end
end
section
open Go.Conc
set_option maxRecDepth 100000
section
variable (c:Frame) (cs:List Frame) (wg:Nat)
def mJ:Goroutine:={frame:=c.finish unit,callers:=cs,status:= .running,dying:=none}
def tE(g:Goroutine):Goroutine:={g with frame:={g.frame with defers:=[]}}
def lA(b:Nat):Value:= .pointer (some ⟨b,1,none⟩)
noncomputable def zi:Goroutine:=sR 88 #[ptr wg,.int .i64 1] (c::cs)
theorem Vx:bf Pg true 12 (zi c cs wg):=λw=>by kernel_rfl
noncomputable def mo:Goroutine:=aE Pg true 12 (zi c cs wg)
theorem Pk(w:World):stepG Pg true (mo c cs wg) w= .go (fin (mo c cs wg) unit) w #[aM .disable]:=by kernel_rfl
theorem PJ:(mo c cs wg).status= .running:=by kernel_rfl
theorem Pn:bf Pg true 11 (fin (mo c cs wg) unit):=λw=>by kernel_rfl
noncomputable def rK:Goroutine:=aE Pg true 11 (fin (mo c cs wg) unit)
theorem Va(w:World):stepG Pg true (rK c cs wg) w= .go (fin (rK c cs wg) (.bool false)) w #[]:=by kernel_rfl
theorem Jd:(rK c cs wg).status= .running:=by kernel_rfl
theorem Lo:bf Pg true 22 (fin (rK c cs wg) (.bool false)):=λw=>by kernel_rfl
noncomputable def pg:Goroutine:=aE Pg true 22 (fin (rK c cs wg) (.bool false))
theorem QO:aF Pg true (11+(1+22)) (fin (mo c cs wg) unit) (pg c cs wg):=(Pn c cs wg).aO.trans ((aF.one (Jd c cs wg) (Va c cs wg)).trans (Lo c cs wg).aO)
theorem BI:aI Pg true (pg c cs wg):=⟨λw=>by kernel_rfl,by kernel_rfl,by kernel_rfl⟩
def more(st:Int):Int:=IntKind.u64.wrap (st+4294967296)
theorem Sj(st:Int):feed Pg (aY (pg c cs wg)) [.val (.int .u64 st)]=some ([.mk (.extern 148),.ld .atomic ⟨wg,0,none⟩,.st .atomic ⟨wg,0,none⟩ (.int .u64 (more st))],.inl (.value (.int .u64 (more st)))):=by kernel_rfl
theorem T6(a:Addr):seen Pg (pg c cs wg).frame.fn #[aM (.extern 148),⟨.cell a,false,true⟩,⟨.cell a,true,true⟩]=#[⟨.cell a,false,true⟩,⟨.cell a,true,true⟩]:=by kernel_rfl
noncomputable def uo(st:Int):Goroutine:=fin (pg c cs wg) (.int .u64 st)
theorem PF:bf Pg true 52 (uo c cs wg 4294967296):=λw=>by kernel_rfl
noncomputable def me:Goroutine:=aE Pg true 52 (uo c cs wg 4294967296)
theorem Cl:aI Pg true (me c cs wg):=⟨λw=>by kernel_rfl,by kernel_rfl,by kernel_rfl⟩
theorem Rm:feed Pg (aY (me c cs wg)) [jJ,jJ]=some ([.shp wg,.shp wg],.inl (.value (lA wg))):=by kernel_rfl
theorem Td(w:World):stepG Pg true (fin (me c cs wg) (lA wg)) w= .go (fin (fin (me c cs wg) (lA wg)) unit) w #[aM (.read ⟨wg,1,none⟩)]:=by kernel_rfl
theorem Ji:(fin (me c cs wg) (lA wg)).status= .running:=by kernel_rfl
theorem RF:bf Pg true 39 (fin (fin (me c cs wg) (lA wg)) unit):=λw=>by kernel_rfl
noncomputable def qR:Goroutine:=aE Pg true 39 (fin (fin (me c cs wg) (lA wg)) unit)
theorem Wc(w:World):stepG Pg true (qR c cs wg) w= .go (tE (qR c cs wg)) w #[aM .enable]:=by kernel_rfl
theorem Jj:(qR c cs wg).status= .running:=by kernel_rfl
theorem IH:aF Pg true 1 (tE (qR c cs wg)) (mJ c cs):=aF.one (by kernel_rfl) λw=>by kernel_rfl
noncomputable def sw(st:Int):Goroutine:=aE Pg true 87 (uo c cs wg st)
end
end
section
open Go.Conc
set_option maxRecDepth 100000
section
variable (c:Frame) (cs:List Frame) (wg:Nat) (xs:Nat->Value)
noncomputable def zA:Goroutine:=sR 91 #[ptr wg] (c::cs)
theorem U2:bf Pg true 3 (zA c cs wg):=λw=>by kernel_rfl
noncomputable def mq:Goroutine:=aE Pg true 3 (zA c cs wg)
theorem SH(w:World):stepG Pg true (mq c cs wg) w= .go (fin (mq c cs wg) unit) w #[aM .disable]:=by kernel_rfl
theorem RN:(mq c cs wg).status= .running:=by kernel_rfl
theorem Ma:bf Pg true 3 (fin (mq c cs wg) unit):=λw=>by kernel_rfl
def T8(wg:Nat)(xs:Nat->Value):Array Value:=#[ptr wg,xs 1,xs 2,xs 3,xs 4,xs 5,xs 6,xs 7,xs 8,xs 9,xs 10,xs 11,xs 12,xs 13,xs 14,xs 15,xs 16,xs 17,xs 18,xs 19,xs 20,xs 21,xs 22,xs 23,xs 24,xs 25,xs 26,xs 27,xs 28,xs 29,xs 30,xs 31,xs 32,xs 33,xs 34,xs 35,xs 36,xs 37,xs 38,xs 39,xs 40,xs 41,xs 42,xs 43,xs 44,xs 45,xs 46,xs 47,xs 48,xs 49,xs 50,xs 51,xs 52,xs 53,xs 54,xs 55,xs 56,xs 57,xs 58,xs 59,xs 60,xs 61,xs 62,xs 63,xs 64,xs 65,xs 66,xs 67,xs 68,xs 69,xs 70,xs 71,xs 72,xs 73,xs 74,xs 75,xs 76,xs 77,xs 78,xs 79,xs 80,xs 81,xs 82,xs 83]
noncomputable def yP:Goroutine:={(aE Pg true 3 (fin (mq c cs wg) unit)) with frame:={(aE Pg true 3 (fin (mq c cs wg) unit)).frame with tmps:=T8 wg xs}}
def zE(g:Goroutine):Nat->Value:=λi=>g.frame.tmps.getD i undef
theorem SF:aE Pg true 3 (fin (mq c cs wg) unit)=yP c cs wg (zE (aE Pg true 3 (fin (mq c cs wg) unit))):=by kernel_rfl
theorem CB:bf Pg true 16 (yP c cs wg xs):=λw=>by kernel_rfl
noncomputable def pd:Goroutine:=aE Pg true 16 (yP c cs wg xs)
theorem GX:aI Pg true (pd c cs wg xs):=⟨λw=>by kernel_rfl,by kernel_rfl,by kernel_rfl⟩
theorem MD(st:Int):feed Pg (aY (pd c cs wg xs)) [.val (.int .u64 st)]=some ([.mk (.extern 149),.ld .atomic ⟨wg,0,none⟩],.inl (.value (.int .u64 st))):=by kernel_rfl
theorem L7(a:Addr):seen Pg (pd c cs wg xs).frame.fn #[aM (.extern 149),⟨.cell a,false,true⟩]=#[⟨.cell a,false,true⟩]:=by kernel_rfl
noncomputable def uW(st:Int):Goroutine:=fin (pd c cs wg xs) (.int .u64 st)
theorem VJ:bf Pg true 31 (uW c cs wg xs 0):=λw=>by kernel_rfl
noncomputable def qK:Goroutine:=aE Pg true 31 (uW c cs wg xs 0)
theorem OC(w:World):stepG Pg true (qK c cs wg xs) w= .go (fin (qK c cs wg xs) unit) w #[aM .enable]:=by kernel_rfl
theorem Vl:(qK c cs wg xs).status= .running:=by kernel_rfl
theorem JC:bf Pg true 3 (fin (qK c cs wg xs) unit):=λw=>by kernel_rfl
noncomputable def lQ:Goroutine:=aE Pg true 3 (fin (qK c cs wg xs) unit)
theorem AB:aI Pg true (lQ c cs wg xs):=⟨λw=>by kernel_rfl,by kernel_rfl,by kernel_rfl⟩
theorem LA:feed Pg (aY (lQ c cs wg xs)) [jJ,jJ]=some ([.shp wg,.shp wg],.inl (.value (ptr wg))):=by kernel_rfl
theorem R4(w:World):stepG Pg true (fin (lQ c cs wg xs) (ptr wg)) w= .go (fin (fin (lQ c cs wg xs) (ptr wg)) unit) w #[aM (.acquire ⟨wg,0,none⟩)]:=by kernel_rfl
theorem VF:(fin (lQ c cs wg xs) (ptr wg)).status= .running:=by kernel_rfl
theorem TI:bf Pg true 20 (fin (fin (lQ c cs wg xs) (ptr wg)) unit):=λw=>by kernel_rfl
theorem Pe:aE Pg true 20 (fin (fin (lQ c cs wg xs) (ptr wg)) unit)=mJ c cs:=by kernel_rfl
end
end
section
open Go.Conc
set_option maxRecDepth 100000
section
variable (c:Frame) (cs:List Frame) (wg:Nat) (xs:Nat->Value)
noncomputable def oo(st:Int):Goroutine:=aE Pg true 48 (uW c cs wg xs st)
noncomputable def DE(st:Int):Goroutine:=fin (oo c cs wg xs st) (.bool true)
noncomputable def CY(st:Int):Goroutine:=fin (oo c cs wg xs st) (.bool false)
noncomputable def tK(st:Int):Goroutine:=aE Pg true 19 (DE c cs wg xs st)
noncomputable def po(st:Int):Goroutine:=fin (tK c cs wg xs st) (lA wg)
noncomputable def jV:Goroutine:=Gw Pg 91 19 4 (#[ptr wg,xs 1,xs 2,xs 3,xs 4,xs 5,xs 6,xs 7,xs 8,xs 9,xs 10,xs 11,xs 12,xs 13,xs 14,xs 15,xs 16,xs 17,xs 18,xs 19,xs 20,xs 21,xs 22,xs 23,xs 24,xs 25,xs 26,xs 27,xs 28,xs 29,xs 30,xs 31,xs 32,xs 33,xs 34,xs 35,xs 36,xs 37,xs 38,xs 39,xs 40,xs 41,xs 42,xs 43,xs 44,xs 45,xs 46,xs 47,xs 48,xs 49,xs 50,xs 51,xs 52,xs 53,xs 54,xs 55,xs 56,xs 57,xs 58,xs 59,xs 60,xs 61,xs 62,xs 63,xs 64,xs 65,xs 66,xs 67,xs 68,xs 69,lA wg,.bool false,xs 72,xs 73,xs 74,xs 75,xs 76,xs 77,xs 78,xs 79,xs 80,xs 81,xs 82,xs 83]) (c::cs)
theorem BV(a:Addr):seen Pg 133 #[aM (.extern 151),⟨.cell a,false,true⟩,⟨.cell a,true,true⟩]=#[⟨.cell a,false,true⟩,⟨.cell a,true,true⟩]/\seen Pg 133 #[aM (.extern 151),⟨.cell a,false,true⟩]=#[⟨.cell a,false,true⟩]:=⟨by kernel_rfl,by kernel_rfl⟩
theorem zt:aI Pg true (jV c cs wg xs):=⟨λw=>by kernel_rfl,by kernel_rfl,by kernel_rfl⟩
theorem Kw:feed Pg (aY (jV c cs wg xs)) [.val (.int .u32 0)]=some ([.mk (.extern 135),.mk .disable,.ld .atomic ⟨wg,1,none⟩],.inr .blocked):=by kernel_rfl
theorem Pf:feed Pg (aY (jV c cs wg xs)) [.val (.int .u32 1)]=some ([.mk (.extern 135),.mk .disable,.ld .atomic ⟨wg,1,none⟩,.st .atomic ⟨wg,1,none⟩ (.int .u32 0),.mk .enable],.inl (.value unit)):=by kernel_rfl
theorem Uc(a:Addr):seen Pg 91 #[aM (.extern 135),aM .disable,⟨.cell a,false,true⟩,⟨.cell a,true,true⟩,aM .enable]=#[aM .disable,⟨.cell a,false,true⟩,⟨.cell a,true,true⟩,aM .enable]/\seen Pg 91 #[]=#[]:=⟨by kernel_rfl,by kernel_rfl⟩
theorem WE:bf Pg true 16 (fin (jV c cs wg xs) unit):=λw=>by kernel_rfl
noncomputable def qn:Goroutine:=aE Pg true 16 (fin (jV c cs wg xs) unit)
theorem Et:aI Pg true (qn c cs wg xs):=⟨λw=>by kernel_rfl,by kernel_rfl,by kernel_rfl⟩
theorem Mz:feed Pg (aY (qn c cs wg xs)) [.val (.int .u64 0)]=some ([.mk (.extern 149),.ld .atomic ⟨wg,0,none⟩],.inl (.value (.int .u64 0))):=by kernel_rfl
theorem IQ(a:Addr):seen Pg (qn c cs wg xs).frame.fn #[aM (.extern 149),⟨.cell a,false,true⟩]=#[⟨.cell a,false,true⟩]:=by kernel_rfl
theorem Jy:bf Pg true 11 (fin (qn c cs wg xs) (.int .u64 0)):=λw=>by kernel_rfl
noncomputable def pV:Goroutine:=aE Pg true 11 (fin (qn c cs wg xs) (.int .u64 0))
theorem Ta(w:World):stepG Pg true (pV c cs wg xs) w= .go (fin (pV c cs wg xs) unit) w #[aM .enable]:=by kernel_rfl
theorem Jv:(pV c cs wg xs).status= .running:=by kernel_rfl
theorem Wy:bf Pg true 3 (fin (pV c cs wg xs) unit):=λw=>by kernel_rfl
noncomputable def mx:Goroutine:=aE Pg true 3 (fin (pV c cs wg xs) unit)
theorem He:aI Pg true (mx c cs wg xs):=⟨λw=>by kernel_rfl,by kernel_rfl,by kernel_rfl⟩
theorem Ir:feed Pg (aY (mx c cs wg xs)) [jJ,jJ]=some ([.shp wg,.shp wg],.inl (.value (ptr wg))):=by kernel_rfl
theorem LD(w:World):stepG Pg true (fin (mx c cs wg xs) (ptr wg)) w= .go (fin (fin (mx c cs wg xs) (ptr wg)) unit) w #[aM (.acquire ⟨wg,0,none⟩)]:=by kernel_rfl
theorem I8:(fin (mx c cs wg xs) (ptr wg)).status= .running:=by kernel_rfl
end
end
section
open Go.Conc
open Go.ConcN (upd)
set_option maxRecDepth 100000
structure Mn extends Pl where
 first:Int
 count:Int
 fn:Fn
 ca:Array Value
 cb:Array Value
def Mn.ij(M:Mn):Value:= .func M.fn M.ca M.cb
def mT(M:Mn)(xs:Nat->Value):Array Value:=#[.int .i64 M.first,.int .i64 M.count,M.ij,xs 3,xs 4,ptr M.bT,xs 6,ptr M.bN,ptr M.bB,ptr M.wg,xs 10,xs 11,xs 12,xs 13,xs 14,xs 15,xs 16,xs 17,xs 18,xs 19,xs 20,xs 21,xs 22,xs 23,xs 24,xs 25,xs 26,xs 27,xs 28,xs 29,xs 30,xs 31,xs 32,xs 33,xs 34,xs 35,xs 36,xs 37,xs 38,xs 39,xs 40,xs 41,xs 42,xs 43,xs 44,xs 45,xs 46,xs 47,xs 48,xs 49,xs 50]
noncomputable def gM(M:Mn)(id n:Nat)(xs:Nat->Value)(cs:List Frame):Goroutine:=Gw Pg 68 id n (mT M xs) cs
section
variable (M:Mn) (xs:Nat->Value) (c:Frame) (cs:List Frame)
noncomputable def m0:Goroutine:=sR 68 #[.int .i64 M.first,.int .i64 M.count,M.ij] (c::cs)
theorem Sf:bf Pg true 2 (m0 M c cs):=λw=>by kernel_rfl
noncomputable def nM:Goroutine:=aE Pg true 2 (m0 M c cs)
theorem P7:aI Pg true (nM M c cs):=⟨λw=>by kernel_rfl,by kernel_rfl,by kernel_rfl⟩
theorem QK(r:Nat):feed Pg (aY (nM M c cs)) [.ref r]=some ([.nw (.cells #[M.ij] 79)],.inl (.value (ptr r))):=by kernel_rfl
theorem Ku:bf Pg true 5 (fin (nM M c cs) (ptr M.bT)):=λw=>by kernel_rfl
noncomputable def sO:Goroutine:=aE Pg true 5 (fin (nM M c cs) (ptr M.bT))
theorem J7:aI Pg true (sO M c cs):=⟨λw=>by kernel_rfl,by kernel_rfl,by kernel_rfl⟩
noncomputable def rO:Goroutine:=fin (sO M c cs) (.chan (some M.cN))
theorem JO:aI Pg true (rO M c cs):=⟨λw=>by kernel_rfl,by kernel_rfl,by kernel_rfl⟩
theorem Wq(r:Nat):feed Pg (aY (rO M c cs)) [.ref r]=some ([.nw (.cells #[.chan none] 178)],.inl (.value (ptr r))):=by kernel_rfl
noncomputable def mn:Goroutine:=fin (rO M c cs) (ptr M.bN)
theorem H8:aI Pg true (mn M c cs):=⟨λw=>by kernel_rfl,by kernel_rfl,by kernel_rfl⟩
theorem WD:feed Pg (aY (mn M c cs)) []=some ([.st .plain ⟨M.bN,0,none⟩ (.chan (some M.cN))],.inl .skip):=by kernel_rfl
theorem Iv:bf Pg true 4 (fin (mn M c cs) unit):=λw=>by kernel_rfl
noncomputable def sf:Goroutine:=aE Pg true 4 (fin (mn M c cs) unit)
theorem LV:aI Pg true (sf M c cs):=⟨λw=>by kernel_rfl,by kernel_rfl,by kernel_rfl⟩
noncomputable def rY:Goroutine:=fin (sf M c cs) (.chan (some M.cB))
theorem Uh:aI Pg true (rY M c cs):=⟨λw=>by kernel_rfl,by kernel_rfl,by kernel_rfl⟩
theorem Oc(r:Nat):feed Pg (aY (rY M c cs)) [.ref r]=some ([.nw (.cells #[.chan none] 179)],.inl (.value (ptr r))):=by kernel_rfl
noncomputable def lE:Goroutine:=fin (rY M c cs) (ptr M.bB)
theorem Tt:aI Pg true (lE M c cs):=⟨λw=>by kernel_rfl,by kernel_rfl,by kernel_rfl⟩
theorem Vc:feed Pg (aY (lE M c cs)) []=some ([.st .plain ⟨M.bB,0,none⟩ (.chan (some M.cB))],.inl .skip):=by kernel_rfl
theorem Ks:bf Pg true 3 (fin (lE M c cs) unit):=λw=>by kernel_rfl
noncomputable def rS:Goroutine:=aE Pg true 3 (fin (lE M c cs) unit)
theorem Kt:aI Pg true (rS M c cs):=⟨λw=>by kernel_rfl,by kernel_rfl,by kernel_rfl⟩
theorem Sq(r:Nat):feed Pg (aY (rS M c cs)) [.ref r]=some ([.nw (.cells #[.int .u64 0,.int .u32 0] 188)],.inl (.value (ptr r))):=by kernel_rfl
noncomputable def rD:Goroutine:=fin (rS M c cs) (ptr M.wg)
end
def Sb(_:Mn)(n i:Int)(xs:Nat->Value):Nat->Value:=upd (upd xs 18 (.int .i64 n)) 19 (.int .i64 i)
def mH(g:Goroutine):Nat->Value:=λi=>g.frame.tmps.getD i undef
section
variable (M:Mn) (xs:Nat->Value) (cs:List Frame)
noncomputable def iD(n i:Int):Goroutine:=gM M 5 0 (Sb M n i xs) cs
noncomputable def ve(n i:Int):Frame:=(aE Pg true 9 (iD M xs cs n i)).frame
noncomputable def kG(n i:Int):Goroutine:=aE Pg true 3 (mJ (ve M xs cs n i) cs)
theorem qG{n:Nat}{g g':Goroutine}(h:bf Pg true n g)(e:aE Pg true n g=g'):aF Pg true n g g':=e ▸ h.aO
theorem rI{n i:Nat}(h:(n=1\/n=4)/\i< n):(n=1/\i=0)\/(n=4/\i=0)\/(n=4/\i=1)\/(n=4/\i=2)\/(n=4/\i=3):=by omega
variable {n i:Nat}
theorem UY(h:(n=1\/n=4)/\i< n):aF Pg true 10 (iD M xs cs n i) (zi (ve M xs cs n i) cs M.wg):=by
 rcases rI h with ⟨rfl,rfl⟩|⟨rfl,rfl⟩|⟨rfl,rfl⟩|⟨rfl,rfl⟩|⟨rfl,rfl⟩<;>exact qG (λw=>by kernel_rfl) (by kernel_rfl)
theorem Sw(h:(n=1\/n=4)/\i< n):aF Pg true 3 (mJ (ve M xs cs n i) cs) (kG M xs cs n i):=by
 rcases rI h with ⟨rfl,rfl⟩|⟨rfl,rfl⟩|⟨rfl,rfl⟩|⟨rfl,rfl⟩|⟨rfl,rfl⟩<;>exact qG (λw=>by kernel_rfl) rfl
theorem KO(h:(n=1\/n=4)/\i< n)(w:World):stepG Pg true (kG M xs cs n i) w= .spawn (fin (kG M xs cs n i) unit) (nB M.toPl) w #[]:=by
 rcases rI h with ⟨rfl,rfl⟩|⟨rfl,rfl⟩|⟨rfl,rfl⟩|⟨rfl,rfl⟩|⟨rfl,rfl⟩<;>kernel_rfl
theorem RV(h:(n=1\/n=4)/\i< n):(kG M xs cs n i).status= .running:=by
 rcases rI h with ⟨rfl,rfl⟩|⟨rfl,rfl⟩|⟨rfl,rfl⟩|⟨rfl,rfl⟩|⟨rfl,rfl⟩<;>kernel_rfl
theorem K6(h:(n=1\/n=4)/\i< n): ∃xs',aF Pg true 9 (fin (kG M xs cs n i) unit) (iD M xs' cs n ((i+1:Nat):Int)):=by
 refine⟨mH (aE Pg true 9 (fin (kG M xs cs n i) unit)),?_⟩;rcases rI h with ⟨rfl,rfl⟩|⟨rfl,rfl⟩|⟨rfl,rfl⟩|⟨rfl,rfl⟩|⟨rfl,rfl⟩<;>exact qG (λw=>by kernel_rfl) (by kernel_rfl)
end
end
section
open Go.Conc
open Go.ConcN (upd)
set_option maxRecDepth 100000
section
variable (c:Frame) (cs:List Frame) (wg:Nat) (xs:Nat->Value)
theorem VO:bf Pg true 10 (fin (fin (mx c cs wg xs) (ptr wg)) unit):=λw=>by kernel_rfl
theorem R1:aE Pg true 10 (fin (fin (mx c cs wg xs) (ptr wg)) unit)=mJ c cs:=by kernel_rfl
end
section
variable (M:Mn) (xs:Nat->Value) (cs:List Frame) (j:Int)
def BR(M:Mn)(j:Int)(xs:Nat->Value):Nat->Value:=upd (upd xs 24 (.int .i64 M.count)) 25 (.int .i64 j)
noncomputable def nA:Goroutine:=gM M 10 0 (BR M j xs) cs
theorem KA:bf Pg true 15 (iD M xs cs 1 1):=λw=>by kernel_rfl
theorem Rn:bf Pg true 15 (iD M xs cs 4 4):=λw=>by kernel_rfl
theorem MU:aE Pg true 15 (iD M xs cs 1 1)=nA M (mH (aE Pg true 15 (iD M xs cs 1 1))) cs 0:=by kernel_rfl
theorem Oe:aE Pg true 15 (iD M xs cs 4 4)=nA M (mH (aE Pg true 15 (iD M xs cs 4 4))) cs 0:=by kernel_rfl
noncomputable def rC(b:Bool):Goroutine:=gM M 10 1 (upd (BR M j xs) 26 (.bool b)) cs
theorem RR:bf Pg true 1 (nA M xs cs j):=λw=>by kernel_rfl
theorem Up:aE Pg true 1 (nA M xs cs j)=rC M xs cs j (decide (j< M.count)):=by kernel_rfl
theorem SG:bf Pg true 12 (rC M xs cs j true):=λw=>by kernel_rfl
noncomputable def mO:Goroutine:=aE Pg true 12 (rC M xs cs j true)
theorem Em:aI Pg true (mO M xs cs j):=⟨λw=>by kernel_rfl,by kernel_rfl,by kernel_rfl⟩
theorem Iq(v:Value):feed Pg (aY (mO M xs cs j)) [.val v]=some ([.ld .plain ⟨M.bN,0,none⟩],.inl (.value v)):=by kernel_rfl
theorem Ng:(mO M xs cs j).frame.fn=68:=by kernel_rfl
theorem KB:bf Pg true 3 (fin (mO M xs cs j) (.chan (some M.cN))):=λw=>by kernel_rfl
noncomputable def jg:Goroutine:=aE Pg true 3 (fin (mO M xs cs j) (.chan (some M.cN)))
theorem Da:aI Pg true (jg M xs cs j):=⟨λw=>by kernel_rfl,by kernel_rfl,by kernel_rfl⟩
def tj(M:Mn)(j:Int):Array CommCase:=#[{chan:= .chan (some M.cN),send:=some (.int .i64 (IntKind.i64.wrap (M.first+j))),zero:= .tuple #[]}]
theorem Jh:feed Pg (aY (jg M xs cs j)) []=some ([],.inl (.comm (tj M j) true .send)):=by kernel_rfl
noncomputable def mX:Goroutine:=(jg M xs cs j).finishComm Pg (tj M j) .send 0 undef false
theorem Wm:bf Pg true 9 (mX M xs cs j):=λw=>by kernel_rfl
theorem Qz:aE Pg true 9 (mX M xs cs j)=nA M (mH (aE Pg true 9 (mX M xs cs j))) cs (IntKind.i64.wrap (j+1)):=by kernel_rfl
theorem Qp:bf Pg true 6 (rC M xs cs j false):=λw=>by kernel_rfl
noncomputable def qD:Goroutine:=aE Pg true 6 (rC M xs cs j false)
theorem Ev:aI Pg true (qD M xs cs j):=⟨λw=>by kernel_rfl,by kernel_rfl,by kernel_rfl⟩
theorem Q1(v:Value):feed Pg (aY (qD M xs cs j)) [.val v]=some ([.ld .plain ⟨M.bN,0,none⟩],.inl (.value v)):=by kernel_rfl
theorem LC:(qD M xs cs j).frame.fn=68:=by kernel_rfl
noncomputable def jk:Goroutine:=fin (qD M xs cs j) (.chan (some M.cN))
theorem Ec:aI Pg true (jk M xs cs j):=⟨λw=>by kernel_rfl,by kernel_rfl,by kernel_rfl⟩
theorem O2(a:Nat)(b:Array Value)(s r:Nat)(tm:Bool):feed Pg (aY (jk M xs cs j)) [.obj (.chan a b false s r tm)]=some ([.gt M.cN,.pt M.cN (.chan a b true s r tm)],.inl (.value unit)):=by kernel_rfl
theorem NL:(jk M xs cs j).frame.fn=68:=by kernel_rfl
theorem Sl:mayWake Pg (jk M xs cs j)=true:=by kernel_rfl
theorem Tl:bf Pg true 4 (fin (jk M xs cs j) unit):=λw=>by kernel_rfl
noncomputable def vV:Frame:=(aE Pg true 3 (fin (jk M xs cs j) unit)).frame
theorem NI:aE Pg true 4 (fin (jk M xs cs j) unit)=zA (vV M xs cs j) cs M.wg:=by kernel_rfl
theorem vf(b:Nat):seen Pg 68 #[⟨.cell ⟨b,0,none⟩,false,false⟩]=#[⟨.cell ⟨b,0,none⟩,false,false⟩]:=by kernel_rfl
theorem y9(a:Addr):seen Pg 68 #[⟨.cell a,true,false⟩]=#[⟨.cell a,true,false⟩]:=by kernel_rfl
theorem EK(r:Nat):seen Pg 68 #[⟨.obj r,false,true⟩,⟨.obj r,true,true⟩]=#[⟨.obj r,false,true⟩,⟨.obj r,true,true⟩]:=by kernel_rfl
theorem Nw(a b:Addr):seen Pg 68 #[⟨.cell a,true,false⟩,⟨.cell b,true,false⟩]=#[⟨.cell a,true,false⟩,⟨.cell b,true,false⟩]:=by kernel_rfl
theorem GU(a:Addr):seen Pg 68 #[⟨.cell a,false,false⟩]=#[⟨.cell a,false,false⟩]:=by kernel_rfl
end
end
section
open Go.Conc
open Go.ConcN (upd)
set_option maxRecDepth 100000
section
variable (M:Mn) (xs:Nat->Value) (cs:List Frame) (j:Int)
noncomputable def mB:Goroutine:=mJ (vV M xs cs j) cs
theorem Cr:bf Pg true 3 (mB M xs cs j):=λw=>by kernel_rfl
noncomputable def mV:Goroutine:=aE Pg true 3 (mB M xs cs j)
theorem AJ:aI Pg true (mV M xs cs j):=⟨λw=>by kernel_rfl,by kernel_rfl,by kernel_rfl⟩
theorem R2(v:Value):feed Pg (aY (mV M xs cs j)) [.val v]=some ([.ld .plain ⟨M.bB,0,none⟩],.inl (.value v)):=by kernel_rfl
theorem SK:(mV M xs cs j).frame.fn=68:=by kernel_rfl
noncomputable def mj:Goroutine:=fin (mV M xs cs j) (.chan (some M.cB))
theorem Lx:aI Pg true (mj M xs cs j):=⟨λw=>by kernel_rfl,by kernel_rfl,by kernel_rfl⟩
theorem T4(a:Nat)(b:Array Value)(s r:Nat)(tm:Bool):feed Pg (aY (mj M xs cs j)) [.obj (.chan a b false s r tm)]=some ([.gt M.cB,.pt M.cB (.chan a b true s r tm)],.inl (.value unit)):=by kernel_rfl
theorem R0:(mj M xs cs j).frame.fn=68:=by kernel_rfl
theorem J6:bf Pg true 4 (fin (mj M xs cs j) unit):=λw=>by kernel_rfl
noncomputable def nf:Goroutine:=aE Pg true 4 (fin (mj M xs cs j) unit)
theorem MF:aI Pg true (nf M xs cs j):=⟨λw=>by kernel_rfl,by kernel_rfl,by kernel_rfl⟩
end
section
variable (M:Mn) (xs:Nat->Value) (cs:List Frame) (j:Int) (d n:Nat)
def jM(d n:Nat):Value:=.slice (some ⟨d,0,none⟩) n n
theorem J5:bf Pg true 5 (fin (nf M xs cs j) (jM d n)):=λw=>by kernel_rfl
noncomputable def lW:Goroutine:=aE Pg true 5 (fin (nf M xs cs j) (jM d n))
theorem SR:aI Pg true (lW M xs cs j d n):=⟨λw=>by kernel_rfl,by kernel_rfl,by kernel_rfl⟩
theorem Lh(v:Value):feed Pg (aY (lW M xs cs j d n)) [.val v]=some ([.ld .plain ⟨M.bB,0,none⟩],.inl (.value v)):=by kernel_rfl
theorem P9:(lW M xs cs j d n).frame.fn=68:=by kernel_rfl
theorem QF:bf Pg true 5 (fin (lW M xs cs j d n) (.chan (some M.cB))):=λw=>by kernel_rfl
def Oo(M:Mn)(d n:Nat)(xs:Nat->Value):Nat->Value:=upd (upd xs 38 (.chan (some M.cB))) 11 (jM d n)
noncomputable def fP:Goroutine:=gM M 19 0 (Oo M d n xs) cs
theorem Ux:aE Pg true 5 (fin (lW M xs cs j d n) (.chan (some M.cB)))=fP M (mH (aE Pg true 5 (fin (lW M xs cs j d n) (.chan (some M.cB))))) cs d n:=by kernel_rfl
theorem tT:aI Pg true (fP M xs cs d n):=⟨λw=>by kernel_rfl,by kernel_rfl,by kernel_rfl⟩
def zF:Value:=.agg #[.int .i64 0,.int .u64 0]
def yh(M:Mn):Array CommCase:=#[{chan:=.chan (some M.cB),send:=none,zero:=zF}]
theorem Fy:feed Pg (aY (fP M xs cs d n)) []=some ([],.inl (.comm (yh M) true (.recv true))):=by kernel_rfl
noncomputable def vB(s e:Int):Goroutine:=(fP M xs cs d n).finishComm Pg (yh M) (.recv true) 0 (.agg #[.int .i64 s,.int .u64 e]) true
variable (s e:Int) (r:Nat)
theorem Ob:bf Pg true 9 (vB M xs cs d n s e):=λw=>by kernel_rfl
noncomputable def qO:Goroutine:=aE Pg true 9 (vB M xs cs d n s e)
theorem Uz:aI Pg true (qO M xs cs d n s e):=⟨λw=>by kernel_rfl,by kernel_rfl,by kernel_rfl⟩
theorem Ti:feed Pg (aY (qO M xs cs d n s e)) [.ref r]=some ([.nw (.cells #[.int .i64 0,.int .u64 0] 190)],.inl (.value (ptr r))):=by kernel_rfl
noncomputable def lT:Goroutine:=fin (qO M xs cs d n s e) (ptr r)
theorem VI:aI Pg true (lT M xs cs d n s e r):=⟨λw=>by kernel_rfl,by kernel_rfl,by kernel_rfl⟩
theorem IF:feed Pg (aY (lT M xs cs d n s e r)) []=some ([.st .plain ⟨r,0,none⟩ (.int .i64 s),.st .plain ⟨r,1,none⟩ (.int .u64 e)],.inl .skip):=by kernel_rfl
theorem TK:(lT M xs cs d n s e r).frame.fn=68:=by kernel_rfl
theorem Jz:bf Pg true 4 (fin (lT M xs cs d n s e r) unit):=λw=>by kernel_rfl
noncomputable def my:Goroutine:=aE Pg true 4 (fin (lT M xs cs d n s e r) unit)
theorem UC:aI Pg true (my M xs cs d n s e r):=⟨λw=>by kernel_rfl,by kernel_rfl,by kernel_rfl⟩
theorem MX(v:Value):feed Pg (aY (my M xs cs d n s e r)) [.val v]=some ([.ld .plain ⟨r,0,none⟩],.inl (.value v)):=by kernel_rfl
theorem Ov:(my M xs cs d n s e r).frame.fn=68:=by kernel_rfl
theorem Sn:bf Pg true 3 (fin (my M xs cs d n s e r) (.int .i64 s)):=λw=>by kernel_rfl
noncomputable def py:Goroutine:=aE Pg true 3 (fin (my M xs cs d n s e r) (.int .i64 s))
theorem QL:aI Pg true (py M xs cs d n s e r):=⟨λw=>by kernel_rfl,by kernel_rfl,by kernel_rfl⟩
theorem T5(v:Value):feed Pg (aY (py M xs cs d n s e r)) [.val v]=some ([.ld .plain ⟨r,1,none⟩],.inl (.value v)):=by kernel_rfl
theorem SB:(py M xs cs d n s e r).frame.fn=68:=by kernel_rfl
noncomputable def pM:Goroutine:=fin (py M xs cs d n s e r) (.int .u64 e)
theorem IG:aI Pg true (pM M xs cs d n s e r):=⟨λw=>by kernel_rfl,by kernel_rfl,by kernel_rfl⟩
theorem WS:aY (pM M xs cs d n s e r)=(Instr.indexAt 147 (jM d n) (.int .i64 (IntKind.i64.wrap (s-M.first))) >>=λv=>pure (.value v)):=by kernel_rfl
variable (k:Nat)
noncomputable def l8:Goroutine:=fin (pM M xs cs d n s e r) (.pointer (some ⟨d,k,none⟩))
theorem VE:aI Pg true (l8 M xs cs d n s e r k):=⟨λw=>by kernel_rfl,by kernel_rfl,by kernel_rfl⟩
theorem We:feed Pg (aY (l8 M xs cs d n s e r k)) []=some ([.st .plain ⟨d,k,none⟩ (.int .u64 e)],.inl .skip):=by kernel_rfl
theorem Si:(l8 M xs cs d n s e r k).frame.fn=68:=by kernel_rfl
theorem Ns:bf Pg true 5 (fin (l8 M xs cs d n s e r k) unit):=λw=>by kernel_rfl
theorem Tu:aE Pg true 5 (fin (l8 M xs cs d n s e r k) unit)=fP M (mH (aE Pg true 5 (fin (l8 M xs cs d n s e r k) unit))) cs d n:=by kernel_rfl
end
section
variable (M:Mn) (xs:Nat->Value) (c:Frame) (cs:List Frame) (d n:Nat)
noncomputable def mZ:Goroutine:=(fP M xs (c::cs) d n).finishComm Pg (yh M) (.recv true) 0 zF false
theorem R6:bf Pg true 12 (mZ M xs c cs d n):=λw=>by kernel_rfl
theorem MW:aE Pg true 12 (mZ M xs c cs d n)= {frame:=c.finish (jM d n),callers:=cs,status:=.running,dying:=none}:=by kernel_rfl
end
end
section
open Go.Conc
open Go.ConcN (upd upd_same upd_ne sumTo sumTo_upd sumTo_congr RelBy)
section
variable {Λ:oB}{Sh live Wk:Nat->Prop}{B:Nat}{t u:Trace}
theorem TP.still(h:TP Λ Sh live Wk B t):∀(l:List MemOp),(∀op∈l,op.act.touch?=none)->(∀op∈l,op.act.low B)->TP Λ Sh live Wk B (t++l.toArray):=by
 intro l;induction l generalizing t with
 |nil=>intro _ _;simpa using h
 |cons x l ih=>
  intro hn hl;have e:t++(x::l).toArray=(t++#[x])++l.toArray:=by apply Array.ext';simp
  rw[e];refine ih (h.mute (k:=x.g) (λop ag=>by simp at ag;rw[ag]) (λop ag=>by simp at ag;rw[ag];exact hn x (by simp)) (λop ag=>by simp at ag;rw[ag];exact hl x (by simp))) (λop ag=>hn op (by simp[ag])) (λop ag=>hl op (by simp[ag]))
theorem RelBy.still{a:Addr}{k r:Nat}(h:RelBy a t k r)(hn:∀op∈u,op.act.touch?=none):RelBy a (t++u) k r:=by
 refine h.app λi hi _ hc=>?_;obtain⟨x,hx,_⟩:=hc;obtain⟨op,ag,hox⟩:=touch_of hx;rcases getElem?_append_cases ag with⟨hlt,_⟩|⟨_,hou⟩
 ·omega
 ·rw[hn op hou]at hox;cases hox
def pX(x:MemAct):Prop:=x≠.mark .disable/\x≠.mark .enable
theorem nO(t:Trace)(g:Nat):∀(l:List MemOp),(∀op∈l,pX op.act)->Deaf (t++l.toArray) g=Deaf t g:=by
 intro l hl;rw[Deaf_append];have:∀(l:List MemOp) (d:Nat),(∀op∈l,pX op.act)->l.foldl (deafStep g) d=d:=by
  intro l;induction l with
  |nil=>intro d _;rfl
  |cons y l ih=>
   intro d h;rw[Yl];have hy:deafStep g d y=d:=by
    have:=h y (by simp);unfold deafStep;split
    ·rename_i e;exact absurd e this.1
    ·rename_i e;exact absurd e this.2
    ·rfl
   rw[hy];exact ih d λop ag=>h op (by simp[ag])
 exact this l _ hl
end
end
end Go.Proofs.YtldmcdeibiclkaaGreatDoor.U
