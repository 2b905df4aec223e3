/-
  Toward converged_holds: BEHIND Add(-1): it leaves; or it is the last one, and wakes the starter.
-/
import Derived.Test.YtldmcdeibiclkaaGreatDoorC07
import Derived.Conc.CrowdComm
set_option linter.unusedVariables false
set_option linter.unusedSimpArgs false
set_option maxRecDepth 100000
set_option maxHeartbeats 20000000
namespace Go.Proofs.YtldmcdeibiclkaaGreatDoor.U
variable {a:Int}{q:Nat}{v w:World}{X:Nat->Value}{x:Value}
section
open Go.Conc
set_option maxRecDepth 100000
section
variable (c:Frame) (cs:List Frame) (wg:Nat)
def back:Goroutine:={frame:=c.finish unit,callers:=cs,status:= .running,dying:=none}
noncomputable def q7(st:Int):Goroutine:=aE Pg false 87 (mU (c::cs) wg st)
noncomputable def enabled(g:Goroutine):Goroutine:={g with frame:={g.frame with defers:=[]}}
theorem DN:∀e∈#[aK .enable],Event.mute e=true:=by intro e he;simp[aK] at he;subst he;rfl
theorem zu{st:Int}(h1:aY Pg false 87 (mU (c::cs) wg st))(h2:(q7 c cs wg st).status= .running)(h3:∀w,stepG Pg false (q7 c cs wg st) w= .go (enabled (q7 c cs wg st)) w #[aK .enable])(h4:(enabled (q7 c cs wg st)).status= .running)(h5:∀w,stepG Pg false (enabled (q7 c cs wg st)) w= .go (back c cs) w #[])(h:QuitsD Pg q 0 (back c cs)):QuitsD Pg (87+((1+q)+1)) 1 (mU (c::cs) wg st):=
 QuitsD.aO h1.aO (QuitsD.marked h2 h3 DN (QuitsD.aO (aF.one h4 h5) h))
theorem KU:aY Pg false 103 (mU (c::cs) wg 1):=λw=>by kernel_rfl
noncomputable def pU:Goroutine:=aE Pg false 103 (mU (c::cs) wg 1)
theorem y9:aH Pg false (pU c cs wg):=⟨λw=>by kernel_rfl,by kernel_rfl,by kernel_rfl⟩
theorem LO:feed Pg (aV (pU c cs wg)) [.val (.int .u64 1)]=some ([.mk (.extern 149),.ld .atomic ⟨wg,0,none⟩],.inl (.value (.int .u64 1))):=by kernel_rfl
theorem Iv(a:Addr):seen Pg (pU c cs wg).frame.fn #[aK (.extern 149),⟨.cell a,false,true⟩]=#[⟨.cell a,false,true⟩]:=by kernel_rfl
theorem Ih:aY Pg false 20 (fin (pU c cs wg) (.int .u64 1)):=λw=>by kernel_rfl
noncomputable def pG:Goroutine:=aE Pg false 20 (fin (pU c cs wg) (.int .u64 1))
theorem yN:aH Pg false (pG c cs wg):=⟨λw=>by kernel_rfl,by kernel_rfl,by kernel_rfl⟩
theorem SP:feed Pg (aV (pG c cs wg)) []=some ([.mk (.extern 150),.st .atomic ⟨wg,0,none⟩ (.int .u64 0)],.inl (.value unit)):=by kernel_rfl
theorem Kb(a:Addr):seen Pg (pG c cs wg).frame.fn #[aK (.extern 150),⟨.cell a,true,true⟩]=#[⟨.cell a,true,true⟩]:=by kernel_rfl
theorem UQ:aY Pg false 27 (fin (pG c cs wg) unit):=λw=>by kernel_rfl
noncomputable def nq:Goroutine:=aE Pg false 27 (fin (pG c cs wg) unit)
theorem xK:aH Pg false (nq c cs wg):=⟨λw=>by kernel_rfl,by kernel_rfl,by kernel_rfl⟩
theorem Kp:mayWake Pg (nq c cs wg)=true:=by kernel_rfl
theorem T8:feed Pg (aV (nq c cs wg)) [.val (.int .u32 0)]=some ([.mk (.extern 130),.mk .disable,.ld .atomic ⟨wg,1,none⟩,.st .atomic ⟨wg,1,none⟩ (.int .u32 1),.mk .enable],.inl (.value unit)):=by kernel_rfl
theorem IA(a:Addr):seen Pg (nq c cs wg).frame.fn #[aK (.extern 130),aK .disable,⟨.cell a,false,true⟩,⟨.cell a,true,true⟩,aK .enable]=#[aK .disable,⟨.cell a,false,true⟩,⟨.cell a,true,true⟩,aK .enable]:=by kernel_rfl
theorem GS:aY Pg false 17 (fin (nq c cs wg) unit):=λw=>by kernel_rfl
noncomputable def vF:Goroutine:=aE Pg false 17 (fin (nq c cs wg) unit)
theorem Hs(w:World):stepG Pg false (vF c cs wg) w= .go (enabled (vF c cs wg)) w #[aK .enable]:=by kernel_rfl
theorem Uz(w:World):stepG Pg false (enabled (vF c cs wg)) w= .go (back c cs) w #[]:=by kernel_rfl
theorem O5(h:QuitsD Pg q 0 (back c cs)):QuitsD Pg (17+((1+q)+1)) 1 (fin (nq c cs wg) unit):=
 QuitsD.aO (GS c cs wg).aO (QuitsD.marked (by kernel_rfl) (Hs c cs wg) DN (QuitsD.aO (aF.one (by kernel_rfl) (Uz c cs wg)) h))
end
end
section
open Go.Conc
open Go.ConcN (upd)
set_option maxRecDepth 100000
structure Pl where
 wg:Nat
 bN:Nat
 bB:Nat
 bT:Nat
 cN:Nat
 cB:Nat
noncomputable def mh(p:Pl):Goroutine:=
 {frame:={(default:Frame) with fn:=Pg.funcs.size,defers:=[{target:= .fn (.func 89) #[ptr p.wg,ptr p.bN,ptr p.bB,ptr p.bT],args:=#[]}],mode:= .panicking [goexitEntry]},callers:=[],status:= .running,dying:=none}
theorem Ml(p:Pl):aY Pg false 7 (mh p):=λw=>by kernel_rfl
noncomputable def oY(p:Pl):Goroutine:=aE Pg false 7 (mh p)
theorem yc(p:Pl):aH Pg false (oY p):=⟨λw=>by kernel_rfl,by kernel_rfl,by kernel_rfl⟩
theorem Kw(p:Pl)(v:Value):feed Pg (aV (oY p)) [.val v]=some ([.ld .plain ⟨p.bN,0,none⟩],.inl (.value v)):=by kernel_rfl
theorem KQ(p:Pl)(b:Nat):seen Pg (oY p).frame.fn #[⟨.cell ⟨b,0,none⟩,false,false⟩]=#[⟨.cell ⟨b,0,none⟩,false,false⟩]:=by kernel_rfl
noncomputable def yo(p:Pl):Goroutine:=fy (oY p) ((oY p).frame.finish (.chan (some p.cN)))
theorem SM(p:Pl):aY Pg false 5 (yo p):=λw=>by kernel_rfl
def EL(p:Pl)(xs:Nat->Value):Array Value:=#[ptr p.wg,ptr p.bN,ptr p.bB,ptr p.bT,xs 4,.chan (some p.cN),xs 6,xs 7,xs 8,xs 9,xs 10,xs 11,xs 12,xs 13,xs 14,xs 15]
def DM(g:Goroutine)(ts:Array Value):Goroutine:={g with frame:={g.frame with tmps:=ts}}
noncomputable def gJ(p:Pl)(xs:Nat->Value):Goroutine:=DM (aE Pg false 5 (yo p)) (EL p xs)
theorem Jh(p:Pl):aE Pg false 5 (yo p)=gJ p (λ_=>undef):=by kernel_rfl
theorem xz(p:Pl)(xs:Nat->Value):aH Pg false (gJ p xs):=⟨λw=>by kernel_rfl,by kernel_rfl,by kernel_rfl⟩
def qK(p:Pl):Array CommCase:=#[{chan:= .chan (some p.cN),send:=none,zero:= .int .i64 0}]
theorem Gx(p:Pl)(xs:Nat->Value):feed Pg (aV (gJ p xs)) []=some ([],.inl (.comm (qK p) true (.recv true))):=by kernel_rfl
noncomputable def uj(p:Pl)(xs:Nat->Value)(n:Int):Goroutine:=(gJ p xs).finishComm Pg (qK p) (.recv true) 0 (.int .i64 n) true
theorem AK(p:Pl)(xs:Nat->Value)(n:Int):aY Pg false 11 (uj p xs n):=λw=>by kernel_rfl
noncomputable def zV:Goroutine:=aE Pg false 11 (uj ⟨0,0,0,0,0,0⟩ (λ_=>undef) 0)
noncomputable def pY(p:Pl)(xs:Nat->Value):Goroutine:=DM (aE Pg false 11 (uj p (λ_=>undef) 0)) (EL p xs)
def iL(xs:Nat->Value)(n:Int):Nat->Value:=upd (upd (upd (upd xs 6 (.tuple #[.int .i64 n,.bool true])) 7 (.bool true)) 8 (.int .i64 n)) 4 (.int .i64 n)
theorem zE(p:Pl)(xs:Nat->Value)(n:Int):aE Pg false 11 (uj p xs n)=pY p (iL xs n):=by kernel_rfl
noncomputable def kW:Array Oper:=match zV.frame.todo with| .code (.region _ ops _)::_=>ops|_=>#[]
noncomputable def kR:List Item:=match zV.frame.todo with|_::k=>k|_=>[]
noncomputable def bg(p:Pl)(xs:Nat->Value)(l:List Nat):Goroutine:={pY p xs with frame:={(pY p xs).frame with todo:= .inRegion kW l::kR}}
theorem AN(p:Pl)(xs:Nat->Value):(pY p xs).status= .running:=by kernel_rfl
theorem KL(p:Pl)(xs:Nat->Value)(w:World):stepG Pg false (pY p xs) w= .go (bg p xs (Region.schedule true kW (w.tape w.drawn (.order 89 4)))) {w with drawn:=w.drawn+1} #[]:=by kernel_rfl
section
variable (p:Pl) (xs:Nat->Value) (rest:List Nat)
theorem J9:aH Pg false (bg p xs (0::rest)):=⟨λw=>by kernel_rfl,by kernel_rfl,by kernel_rfl⟩
theorem MK(v:Value):feed Pg (aV (bg p xs (0::rest))) [.val v]=some ([.ld .plain ⟨p.bB,0,none⟩],.inl (.value v)):=by kernel_rfl
theorem Jc(v:Value):fy (bg p xs (0::rest)) ((bg p xs (0::rest)).frame.finish v)=bg p (upd xs 9 v) rest:=by kernel_rfl
theorem JH:aY Pg false 1 (bg p xs (1::rest)):=λw=>by kernel_rfl
theorem Po:nx Pg false (bg p xs (1::rest))=bg p (upd xs 10 (xs 4)) rest:=by kernel_rfl
theorem Pc:aH Pg false (bg p xs (2::rest)):=⟨λw=>by kernel_rfl,by kernel_rfl,by kernel_rfl⟩
theorem IW(v:Value):feed Pg (aV (bg p xs (2::rest))) [.val v]=some ([.ld .plain ⟨p.bT,0,none⟩],.inl (.value v)):=by kernel_rfl
theorem Qe(v:Value):fy (bg p xs (2::rest)) ((bg p xs (2::rest)).frame.finish v)=bg p (upd xs 11 v) rest:=by kernel_rfl
theorem Oe:aY Pg false 1 (bg p xs (3::rest)):=λw=>by kernel_rfl
theorem RF:nx Pg false (bg p xs (3::rest))=bg p (upd xs 12 (xs 4)) rest:=by kernel_rfl
theorem Vb:aH Pg false (bg p xs (4::rest)):=⟨λw=>by kernel_rfl,by kernel_rfl,by kernel_rfl⟩
theorem UH(v:Value):fy (bg p xs (4::rest)) ((bg p xs (4::rest)).frame.finish v)=bg p (upd xs 13 v) rest:=by kernel_rfl
theorem NH(v:Value):fy (bg p xs (5::rest)) ((bg p xs (5::rest)).frame.finish v)=bg p (upd xs 14 v) rest:=by kernel_rfl
theorem NT(n d:Int):aY Pg false 1 (bg p (upd (upd xs 10 (.int .i64 n)) 14 (.int .u64 d)) (6::rest)):=λw=>by kernel_rfl
theorem Sd(n d:Int):nx Pg false (bg p (upd (upd xs 10 (.int .i64 n)) 14 (.int .u64 d)) (6::rest))=bg p (upd (upd (upd xs 10 (.int .i64 n)) 14 (.int .u64 d)) 15 (.agg #[.int .i64 n,.int .u64 d])) rest:=by kernel_rfl
theorem Nw:aH Pg false (bg p xs (7::rest)):=⟨λw=>by kernel_rfl,by kernel_rfl,by kernel_rfl⟩
theorem Kt:feed Pg (aV (bg p xs (7::rest))) []=some ([],.inl (.comm #[{chan:=xs 9,send:=some (xs 15),zero:= .tuple #[]}] true .send)):=by kernel_rfl
end
theorem RD(p:Pl)(xs:Nat->Value):aY Pg false 5 (bg p xs []):=λw=>by kernel_rfl
theorem Jq(p:Pl)(xs:Nat->Value):aE Pg false 5 (bg p xs [])=gJ p xs:=by kernel_rfl
noncomputable def sr(p:Pl)(xs:Nat->Value):Goroutine:=(gJ p xs).finishComm Pg (qK p) (.recv true) 0 (.int .i64 0) false
theorem RR(p:Pl)(xs:Nat->Value):aY Pg false 10 (sr p xs):=λw=>by kernel_rfl
noncomputable def cD(p:Pl)(xs:Nat->Value):Frame:=(aE Pg false 10 (sr p xs)).callers.headD default
noncomputable def fF(p:Pl)(xs:Nat->Value):List Frame:=(aE Pg false 10 (sr p xs)).callers.tail
theorem IJ(p:Pl)(xs:Nat->Value):aE Pg false 10 (sr p xs)=xw (cD p xs::fF p xs) p.wg:=by kernel_rfl
theorem wM(p:Pl)(xs:Nat->Value):QuitsD Pg 5 0 (back (cD p xs) (fF p xs)):=Ds 5 0 _ (λw=>by kernel_rfl) (by kernel_rfl) (by kernel_rfl) (by kernel_rfl)
end
section
open Go.Conc
open Go.ConcN (upd upd_same upd_ne)
set_option maxRecDepth 100000
theorem TN(p:Pl)(xs:Nat->Value)(rest:List Nat):aV (bg p xs (4::rest))=(do let d ←Deferred.ofValue (xs 11) #[xs 12];invoke d.target d.args):=by kernel_rfl
theorem ML(p:Pl)(xs:Nat->Value)(rest:List Nat)(w:World):stepG Pg false (bg p xs (5::rest)) w= .go {frame:=Frame.enter Pg 82 #[xs 13] .normal,callers:=(bg p xs (5::rest)).frame::(bg p xs (5::rest)).callers,status:= .running,dying:=none} w #[]:=by kernel_rfl
section
variable {L:ax} {T:aN} {Goal:Frame->List Frame->World->Prop}
def q8(E:Entry L)(v:World):Prop:=E.v0.heap.size<=v.heap.size/\∀s,s< E.v0.heap.size->v.heap[s]? =E.v0.heap[s]?
theorem Ts(A:eI L T Goal){E:Entry L}(K:ir L E){i:Nat}(hj:uq Goal E i a)(p:Pl){xs:Nat->Value}(rest:List Nat)(h11:xs 11=E.y2)(h12:xs 12= .int .i64 (IntKind.i64.wrap (E.first+i)))(hv:q8 E v):
  ∃X s g1,stepG Pg false (bg p xs (4::rest)) v= .go g1 v #[]/\X 7= .int .u64 a/\gQ L T Goal E (qF E 5 0 X) ((bg p xs (4::rest)).frame::(bg p xs (4::rest)).callers) (λ_=>False) s g1 v:=by
 obtain⟨X,w,hs,h4,h7,hk⟩:=hj;obtain⟨f,us,us',vs,vs',e1,e2,hf,hn,hT,e⟩:=xS A K 5 (.inr rfl) hs h4;obtain⟨d1,d2⟩:=hk.obj K v (λr s hr=>hv.2 s (K.cq r s hr).2) hv.1;have hp:=TN p xs rest;rw[h11,h12,e2] at hp;obtain⟨⟨fn,f1,f2,f3⟩,_⟩:=A.stat.bX.pR f hf;have hr:(aV (bg p xs (4::rest))).runT Pg v #[]=(.ok (.enter f (us'++#[.int .i64 (IntKind.i64.wrap (E.first+i))]++vs')) v,#[]):=by
  rw[hp];exact Er (P:=Pg) f1 f2 f3 _ _ _
 refine⟨X,⟨_,_,w⟩,_,aH.enter (Vb p xs rest) hr rfl,h7,Safe.next hs (A.iF rfl) w.tape e,⟨[],rfl⟩,⟨fi E.ρ,?_,λr t hx=> .inl (lu.1 hx),λr t hx=>absurd hx ti⟩,hk⟩;exact sH A.stat A.fl hf hn hT (qF E 5 0 X::E.cs++ [wall]) _ K.bi (K.gl A.stat) d1 d2
def zp(Goal:Frame->List Frame->World->Prop)(E:Entry L)(a:Int)(t:ByteArray):Prop:=∃X w,Safe Qg Goal (qF E 5 2 X) E.cs w/\X 8= .string t/\X 7= .int .u64 a/\gT E w
theorem GF(A:eI L T Goal){E:Entry L}(h7:X 7= .int .u64 a)(hs:Safe Qg Goal ((qF E 5 0 X).finish x) E.cs w)(hk:gT E w): ∃t,x= .string t/\zp Goal E a t:=by
 rw[show (qF E 5 0 X).finish x=qF E 5 1 (upd X 8 x) from DS ..] at hs;obtain⟨t,rfl⟩:=Fq _ _ _ _ _ _ _ (A.dK hs rfl);have r:=A.dI (Ed (.int .i64 E.first) (.int .i64 E.n) E.x2 X E.cs t) (Ek (.int .i64 E.first) (.int .i64 E.n) E.x2 X E.cs t) w;exact⟨t,rfl,_,w,Safe.run hs r,rfl,h7,hk⟩
theorem Qi(A:eI L T Goal){E:Entry L}(K:ir L E){t:ByteArray}(hm:zp Goal E a t)(p:Pl){xs:Nat->Value}(rest:List Nat)(h13:xs 13= .string t)(hv:q8 E v):
  ∃X s g1,stepG Pg false (bg p xs (5::rest)) v= .go g1 v #[]/\X 7= .int .u64 a/\gQ L T Goal E (qF E 5 2 X) ((bg p xs (5::rest)).frame::(bg p xs (5::rest)).callers) (λ_=>False) s g1 v:=by
 obtain⟨X,w,hs,h8,h7,hk⟩:=hm;have e:=CL (.int .i64 E.first) (.int .i64 E.n) E.x2 X E.cs w;rw[h8] at e;have hT:TR L (fi E.ρ) 82 #[.string t] #[.string t]:=⟨rfl,λi x y hx hy=>by
  cases i with
  |zero=>
   rw[A.sum.2];simp at hx hy;subst hx hy;exact VR.string t
  |succ i=>simp at hx⟩
 obtain⟨d1,d2⟩:=hk.obj K v (λr s hr=>hv.2 s (K.cq r s hr).2) hv.1;have e2:=ML p xs rest v;rw[h13] at e2;refine⟨X,⟨_,_,w⟩,_,e2,h7,Safe.next hs (A.iF rfl) w.tape e,⟨[],rfl⟩,⟨fi E.ρ,?_,λr t hx=> .inl (lu.1 hx),λr t hx=>absurd hx ti⟩,hk⟩;exact sH A.stat A.fl A.sum.1 (λe=>A.pM (e ▸ A.sum.1)) hT (qF E 5 2 X::E.cs++ [wall]) _ K.bi (K.gl A.stat) d1 d2
theorem Ux(A:eI L T Goal){E:Entry L}(h7:X 7= .int .u64 a)(hs:Safe Qg Goal ((qF E 5 2 X).finish x) E.cs w):x= .int .u64 a:=by
 rw[BE] at hs;generalize hX5:upd X 9 x=X5 at hs;have f57:X5 7= .int .u64 a:=by rw[←hX5];exact h7
 have f59:X5 9=x:=by rw[←hX5];rfl
 have r10:=A.dI (Du (.int .i64 E.first) (.int .i64 E.n) E.x2 X5 E.cs) (CP (.int .i64 E.first) (.int .i64 E.n) E.x2 X5 E.cs) w;have s9:=Safe.run hs r10;have u7:upd X5 7 (.int .u64 a)=X5:=by rw[←f57];exact kF X5 7
 rw[←u7] at s9;have r11:=A.dI (Dx (.int .i64 E.first) (.int .i64 E.n) E.x2 X5 E.cs a) (BD (.int .i64 E.first) (.int .i64 E.n) E.x2 X5 E.cs a) w;have s10:=Safe.run s9 r11;rw[u7] at s10;generalize hX6:upd X5 18 (.bool (decide (a< 0)))=X6 at s10;have f67:X6 7= .int .u64 a:=by rw[←hX6];exact f57
 have f69:X6 9=x:=by rw[←hX6];exact f59
 have u9:upd X6 9 x=X6:=by rw[←f69];exact kF X6 9
 rw[←u9] at s10;obtain⟨eb,rfl⟩:=zK _ _ _ _ _ _ _ (A.dK s10 rfl);rw[u9] at s10;have u79:oi a eb X6=X6:=by
  unfold oi;rw[show upd X6 7 (.int .u64 a)=X6 by rw[←f67];exact kF X6 7];exact u9
 have r12:=A.dI (Cc (.int .i64 E.first) (.int .i64 E.n) E.x2 X6 E.cs a eb) (EN (.int .i64 E.first) (.int .i64 E.n) E.x2 X6 E.cs a eb) w;rw[u79] at r12;have s11:=Safe.run s10 r12;have hab:a=eb:=by
  refine V0 λhne=>?_;rw[show (!decide (a=eb))=true by simp[hne]] at s11;have rb:=A.dI (E0 (.int .i64 E.first) (.int .i64 E.n) E.x2 (upd X6 19 (.bool (decide (eb< 0)))) E.cs) rfl w;have sb:=Safe.run s11 rb
  have:=A.dK (fr:=sD (.int .i64 E.first) (.int .i64 E.n) E.x2 (upd X6 19 (.bool (decide (eb< 0)))) E.cs) sb (Gi ..);rw[Db] at this;cases this
 rw[hab]
end
end
section
open Go.Conc
open Go.ConcN (upd upd_same upd_ne)
set_option maxRecDepth 100000
def rF(m:Region.Mode)(ops:Array Oper):Nat->Array Bool->List Nat->List (List Nat)
 |0,_,acc=>[acc.reverse]
 |fuel+1,listed,acc=>
  let rs:=(List.range ops.size).filter λi=>!listed.getD i true && ((ops[i]?).map (·.after.all λe=>!Region.binds m e||listed.getD e.on false)).getD false
  if rs.isEmpty then [acc.reverse] else rs.flatMap λi=>rF m ops fuel (listed.setIfInBounds i true) (i::acc)
theorem Ge(m:Region.Mode)(ops:Array Oper):∀(fuel t:Nat) (listed:Array Bool) (acc:List Nat),Region.linearise.go m ops fuel t listed acc∈rF m ops fuel listed acc
 |0,_,_,acc=>by simp[Region.linearise.go,rF]
 |fuel+1,t,listed,acc=>by
  simp only[Region.linearise.go,rF];generalize hrs:((List.range ops.size).filter λi=>!listed.getD i true && ((ops[i]?).map (·.after.all λe=>!Region.binds m e||listed.getD e.on false)).getD false)=rs;by_cases h:rs= []
  ·subst h;simp
  ·have hl:0< rs.length:=List.length_pos_iff.2 h;have hm:t % rs.length< rs.length:=Nat.mod_lt _ hl;rw[List.getElem?_eq_getElem hm];have he:rs.isEmpty=false:=by simp[h]
   simp only[he,Vz,Vy,List.mem_flatMap];exact⟨_,VB hm,Ge m ops fuel _ _ _⟩
def mD:Nat->List Nat->Bool
 |0,r=>r.contains 7
 |1,r=>r.contains 6
 |2,r=>r.contains 4
 |3,r=>r.contains 4
 |4,r=>!r.contains 2 && !r.contains 3 && r.contains 5
 |5,r=>!r.contains 4 && r.contains 6
 |6,r=>!r.contains 1 && !r.contains 5 && r.contains 7
 |7,r=>r.isEmpty
 |_,_=>false
def jo:List Nat->Bool
 |[]=>true
 |j::r=>mD j r && jo r
def whole(l:List Nat):Bool:=jo l && (List.range 8).all l.contains && decide (l.length=8)
theorem Ji:(rF .any kW 8 (Array.replicate 8 false) []).all whole=true:=by kernel_rfl
theorem JQ:kW.size=8:=by kernel_rfl
theorem Hd(t:Nat):whole (Region.schedule true kW t)=true:=by
 have h:Region.schedule true kW t=Region.linearise .any kW t:=by simp[Region.schedule]
 rw[h]
 have:=Ge .any kW 8 t (Array.replicate 8 false) [];unfold Region.linearise;rw[JQ];exact List.all_eq_true.1 Ji _ this
section
variable {α:Type} {R:α->α->Prop}
def mG(R:α->α->Prop)(n:Nat)(f' f:Nat->Option α):Prop:=∃k,k< n/\∃s s',f k=some s/\f' k=some s'/\R s' s/\∀j,j≠k->f' j=f j
theorem wW:∀(n:Nat) (f:Nat->Option α),(∀k,k< n->∀s,f k=some s->Acc R s)->Acc (mG R n) f
 |0,f,_=>Acc.intro _ λf' ⟨k,hk,_⟩=>absurd hk (by omega)
 |n+1,f,h=>by
  have key:∀(x:Option α),(∀s,x=some s->Acc R s)->∀f:Nat->Option α,f n=x->(∀k,k< n->∀s,f k=some s->Acc R s)->Acc (mG R (n+1)) f:=by
   have inner:∀(x:Option α),(∀s s',x=some s->R s' s->∀f:Nat->Option α,f n=some s'->(∀k,k< n->∀s,f k=some s->Acc R s)->Acc (mG R (n+1)) f)->∀f:Nat->Option α,Acc (mG R n) f->f n=x->(∀k,k< n->∀s,f k=some s->Acc R s)->Acc (mG R (n+1)) f:=by
    intro x hx f ha;induction ha with
    |intro f _ ih=>
     intro hf hk;refine Acc.intro _ λf' hs=>?_;obtain⟨k,bz,s,s',e1,e2,hr,ho⟩:=hs;by_cases hkk:k=n
     ·subst hkk;rw[hf] at e1;refine hx s s' e1 hr f' e2 λj hj u hu=>hk j hj u (by rw[←ho j (by omega)];exact hu)
     ·refine ih f' ⟨k,by omega,s,s',e1,e2,hr,ho⟩ (by rw[ho n (by omega)];exact hf) λj hj u hu=>?_;by_cases hjk:j=k
      ·subst hjk;rw[e2] at hu;cases hu;exact (hk j hj s e1).inv hr
      ·exact hk j hj u (by rw[←ho j hjk];exact hu)
   intro x hx f hf hk;cases x with
   |none=>exact inner none (λs s' h=>by cases h) f (wW n f hk) hf hk
   |some s=>
    have hs:=hx s rfl;induction hs generalizing f with
    |intro s _ ih=>
     refine inner (some s) (λs1 s' e hr f' hf' hk'=>?_) f (wW n f hk) hf hk;cases e;exact ih s' hr f' hk' (λu hu=>by cases hu;exact (hx s rfl).inv hr) hf'
  exact key (f n) (λs hs=>h n (by omega) s hs) f rfl λk hk=>h k (by omega)
end
end
section
open Go.Conc
set_option maxRecDepth 100000
section
variable (c:Frame) (cs:List Frame) (wg:Nat)
def mN:Goroutine:={frame:=c.finish unit,callers:=cs,status:= .running,dying:=none}
def uM(g:Goroutine):Goroutine:={g with frame:={g.frame with defers:=[]}}
def kr(b:Nat):Value:= .pointer (some ⟨b,1,none⟩)
noncomputable def yQ:Goroutine:=qx 88 #[ptr wg,.int .i64 1] (c::cs)
theorem Mi:aY Pg true 12 (yQ c cs wg):=λw=>by kernel_rfl
noncomputable def lE:Goroutine:=aE Pg true 12 (yQ c cs wg)
theorem Up(w:World):stepG Pg true (lE c cs wg) w= .go (fin (lE c cs wg) unit) w #[aK .disable]:=by kernel_rfl
theorem Ru:(lE c cs wg).status= .running:=by kernel_rfl
theorem QM:aY Pg true 11 (fin (lE c cs wg) unit):=λw=>by kernel_rfl
noncomputable def rf:Goroutine:=aE Pg true 11 (fin (lE c cs wg) unit)
theorem Lx(w:World):stepG Pg true (rf c cs wg) w= .go (fin (rf c cs wg) (.bool false)) w #[]:=by kernel_rfl
theorem ME:(rf c cs wg).status= .running:=by kernel_rfl
theorem Hv:aY Pg true 22 (fin (rf c cs wg) (.bool false)):=λw=>by kernel_rfl
noncomputable def pA:Goroutine:=aE Pg true 22 (fin (rf c cs wg) (.bool false))
theorem NV:aF Pg true (11+(1+22)) (fin (lE c cs wg) unit) (pA c cs wg):=(QM c cs wg).aO.trans ((aF.one (ME c cs wg) (Lx c cs wg)).trans (Hv c cs wg).aO)
theorem Fu:aH Pg true (pA c cs wg):=⟨λw=>by kernel_rfl,by kernel_rfl,by kernel_rfl⟩
def more(st:Int):Int:=IntKind.u64.wrap (st+4294967296)
theorem TX(st:Int):feed Pg (aV (pA c cs wg)) [.val (.int .u64 st)]=some ([.mk (.extern 148),.ld .atomic ⟨wg,0,none⟩,.st .atomic ⟨wg,0,none⟩ (.int .u64 (more st))],.inl (.value (.int .u64 (more st)))):=by kernel_rfl
theorem Oj(a:Addr):seen Pg (pA c cs wg).frame.fn #[aK (.extern 148),⟨.cell a,false,true⟩,⟨.cell a,true,true⟩]=#[⟨.cell a,false,true⟩,⟨.cell a,true,true⟩]:=by kernel_rfl
noncomputable def uz(st:Int):Goroutine:=fin (pA c cs wg) (.int .u64 st)
theorem R3:aY Pg true 52 (uz c cs wg 4294967296):=λw=>by kernel_rfl
noncomputable def lX:Goroutine:=aE Pg true 52 (uz c cs wg 4294967296)
theorem zD:aH Pg true (lX c cs wg):=⟨λw=>by kernel_rfl,by kernel_rfl,by kernel_rfl⟩
theorem PA:feed Pg (aV (lX c cs wg)) [jO,jO]=some ([.shp wg,.shp wg],.inl (.value (kr wg))):=by kernel_rfl
theorem Rn(w:World):stepG Pg true (fin (lX c cs wg) (kr wg)) w= .go (fin (fin (lX c cs wg) (kr wg)) unit) w #[aK (.read ⟨wg,1,none⟩)]:=by kernel_rfl
theorem LC:(fin (lX c cs wg) (kr wg)).status= .running:=by kernel_rfl
theorem T5:aY Pg true 39 (fin (fin (lX c cs wg) (kr wg)) unit):=λw=>by kernel_rfl
noncomputable def qy:Goroutine:=aE Pg true 39 (fin (fin (lX c cs wg) (kr wg)) unit)
theorem Km(w:World):stepG Pg true (qy c cs wg) w= .go (uM (qy c cs wg)) w #[aK .enable]:=by kernel_rfl
theorem S5:(qy c cs wg).status= .running:=by kernel_rfl
theorem J6:aF Pg true 1 (uM (qy c cs wg)) (mN c cs):=aF.one (by kernel_rfl) λw=>by kernel_rfl
noncomputable def rh(st:Int):Goroutine:=aE Pg true 87 (uz c cs wg st)
end
end
section
open Go.Conc
set_option maxRecDepth 100000
section
variable (c:Frame) (cs:List Frame) (wg:Nat) (xs:Nat->Value)
noncomputable def vL:Goroutine:=qx 91 #[ptr wg] (c::cs)
theorem Px:aY Pg true 3 (vL c cs wg):=λw=>by kernel_rfl
noncomputable def ln:Goroutine:=aE Pg true 3 (vL c cs wg)
theorem Ro(w:World):stepG Pg true (ln c cs wg) w= .go (fin (ln c cs wg) unit) w #[aK .disable]:=by kernel_rfl
theorem Oq:(ln c cs wg).status= .running:=by kernel_rfl
theorem Lp:aY Pg true 3 (fin (ln c cs wg) unit):=λw=>by kernel_rfl
def KN(wg:Nat)(xs:Nat->Value):Array Value:=#[ptr wg,xs 1,xs 2,xs 3,xs 4,xs 5,xs 6,xs 7,xs 8,xs 9,xs 10,xs 11,xs 12,xs 13,xs 14,xs 15,xs 16,xs 17,xs 18,xs 19,xs 20,xs 21,xs 22,xs 23,xs 24,xs 25,xs 26,xs 27,xs 28,xs 29,xs 30,xs 31,xs 32,xs 33,xs 34,xs 35,xs 36,xs 37,xs 38,xs 39,xs 40,xs 41,xs 42,xs 43,xs 44,xs 45,xs 46,xs 47,xs 48,xs 49,xs 50,xs 51,xs 52,xs 53,xs 54,xs 55,xs 56,xs 57,xs 58,xs 59,xs 60,xs 61,xs 62,xs 63,xs 64,xs 65,xs 66,xs 67,xs 68,xs 69,xs 70,xs 71,xs 72,xs 73,xs 74,xs 75,xs 76,xs 77,xs 78,xs 79,xs 80,xs 81,xs 82,xs 83]
noncomputable def wJ:Goroutine:={(aE Pg true 3 (fin (ln c cs wg) unit)) with frame:={(aE Pg true 3 (fin (ln c cs wg) unit)).frame with tmps:=KN wg xs}}
def yU(g:Goroutine):Nat->Value:=λi=>g.frame.tmps.getD i undef
theorem Vp:aE Pg true 3 (fin (ln c cs wg) unit)=wJ c cs wg (yU (aE Pg true 3 (fin (ln c cs wg) unit))):=by kernel_rfl
theorem FQ:aY Pg true 16 (wJ c cs wg xs):=λw=>by kernel_rfl
noncomputable def pH:Goroutine:=aE Pg true 16 (wJ c cs wg xs)
theorem Bv:aH Pg true (pH c cs wg xs):=⟨λw=>by kernel_rfl,by kernel_rfl,by kernel_rfl⟩
theorem Ve(st:Int):feed Pg (aV (pH c cs wg xs)) [.val (.int .u64 st)]=some ([.mk (.extern 149),.ld .atomic ⟨wg,0,none⟩],.inl (.value (.int .u64 st))):=by kernel_rfl
theorem Qo(a:Addr):seen Pg (pH c cs wg xs).frame.fn #[aK (.extern 149),⟨.cell a,false,true⟩]=#[⟨.cell a,false,true⟩]:=by kernel_rfl
noncomputable def uc(st:Int):Goroutine:=fin (pH c cs wg xs) (.int .u64 st)
theorem Pm:aY Pg true 31 (uc c cs wg xs 0):=λw=>by kernel_rfl
noncomputable def pL:Goroutine:=aE Pg true 31 (uc c cs wg xs 0)
theorem KY(w:World):stepG Pg true (pL c cs wg xs) w= .go (fin (pL c cs wg xs) unit) w #[aK .enable]:=by kernel_rfl
theorem PE:(pL c cs wg xs).status= .running:=by kernel_rfl
theorem Tc:aY Pg true 3 (fin (pL c cs wg xs) unit):=λw=>by kernel_rfl
noncomputable def k9:Goroutine:=aE Pg true 3 (fin (pL c cs wg xs) unit)
theorem zW:aH Pg true (k9 c cs wg xs):=⟨λw=>by kernel_rfl,by kernel_rfl,by kernel_rfl⟩
theorem Ms:feed Pg (aV (k9 c cs wg xs)) [jO,jO]=some ([.shp wg,.shp wg],.inl (.value (ptr wg))):=by kernel_rfl
theorem QV(w:World):stepG Pg true (fin (k9 c cs wg xs) (ptr wg)) w= .go (fin (fin (k9 c cs wg xs) (ptr wg)) unit) w #[aK (.acquire ⟨wg,0,none⟩)]:=by kernel_rfl
theorem S8:(fin (k9 c cs wg xs) (ptr wg)).status= .running:=by kernel_rfl
theorem Ta:aY Pg true 20 (fin (fin (k9 c cs wg xs) (ptr wg)) unit):=λw=>by kernel_rfl
theorem Mq:aE Pg true 20 (fin (fin (k9 c cs wg xs) (ptr wg)) unit)=mN c cs:=by kernel_rfl
end
end
section
open Go.Conc
set_option maxRecDepth 100000
section
variable (c:Frame) (cs:List Frame) (wg:Nat) (xs:Nat->Value)
noncomputable def oF(st:Int):Goroutine:=aE Pg true 48 (uc c cs wg xs st)
noncomputable def Ff(st:Int):Goroutine:=fin (oF c cs wg xs st) (.bool true)
noncomputable def C3(st:Int):Goroutine:=fin (oF c cs wg xs st) (.bool false)
noncomputable def se(st:Int):Goroutine:=aE Pg true 19 (Ff c cs wg xs st)
noncomputable def pI(st:Int):Goroutine:=fin (se c cs wg xs st) (kr wg)
noncomputable def jG:Goroutine:=Ba Pg 91 19 4 (#[ptr wg,xs 1,xs 2,xs 3,xs 4,xs 5,xs 6,xs 7,xs 8,xs 9,xs 10,xs 11,xs 12,xs 13,xs 14,xs 15,xs 16,xs 17,xs 18,xs 19,xs 20,xs 21,xs 22,xs 23,xs 24,xs 25,xs 26,xs 27,xs 28,xs 29,xs 30,xs 31,xs 32,xs 33,xs 34,xs 35,xs 36,xs 37,xs 38,xs 39,xs 40,xs 41,xs 42,xs 43,xs 44,xs 45,xs 46,xs 47,xs 48,xs 49,xs 50,xs 51,xs 52,xs 53,xs 54,xs 55,xs 56,xs 57,xs 58,xs 59,xs 60,xs 61,xs 62,xs 63,xs 64,xs 65,xs 66,xs 67,xs 68,xs 69,kr wg,.bool false,xs 72,xs 73,xs 74,xs 75,xs 76,xs 77,xs 78,xs 79,xs 80,xs 81,xs 82,xs 83]) (c::cs)
theorem zY(a:Addr):seen Pg 133 #[aK (.extern 151),⟨.cell a,false,true⟩,⟨.cell a,true,true⟩]=#[⟨.cell a,false,true⟩,⟨.cell a,true,true⟩]/\seen Pg 133 #[aK (.extern 151),⟨.cell a,false,true⟩]=#[⟨.cell a,false,true⟩]:=⟨by kernel_rfl,by kernel_rfl⟩
theorem xC:aH Pg true (jG c cs wg xs):=⟨λw=>by kernel_rfl,by kernel_rfl,by kernel_rfl⟩
theorem KD:feed Pg (aV (jG c cs wg xs)) [.val (.int .u32 0)]=some ([.mk (.extern 135),.mk .disable,.ld .atomic ⟨wg,1,none⟩],.inr .blocked):=by kernel_rfl
theorem Mp:feed Pg (aV (jG c cs wg xs)) [.val (.int .u32 1)]=some ([.mk (.extern 135),.mk .disable,.ld .atomic ⟨wg,1,none⟩,.st .atomic ⟨wg,1,none⟩ (.int .u32 0),.mk .enable],.inl (.value unit)):=by kernel_rfl
theorem Ob(a:Addr):seen Pg 91 #[aK (.extern 135),aK .disable,⟨.cell a,false,true⟩,⟨.cell a,true,true⟩,aK .enable]=#[aK .disable,⟨.cell a,false,true⟩,⟨.cell a,true,true⟩,aK .enable]/\seen Pg 91 #[]=#[]:=⟨by kernel_rfl,by kernel_rfl⟩
theorem JY:aY Pg true 16 (fin (jG c cs wg xs) unit):=λw=>by kernel_rfl
noncomputable def pq:Goroutine:=aE Pg true 16 (fin (jG c cs wg xs) unit)
theorem FF:aH Pg true (pq c cs wg xs):=⟨λw=>by kernel_rfl,by kernel_rfl,by kernel_rfl⟩
theorem J5:feed Pg (aV (pq c cs wg xs)) [.val (.int .u64 0)]=some ([.mk (.extern 149),.ld .atomic ⟨wg,0,none⟩],.inl (.value (.int .u64 0))):=by kernel_rfl
theorem MY(a:Addr):seen Pg (pq c cs wg xs).frame.fn #[aK (.extern 149),⟨.cell a,false,true⟩]=#[⟨.cell a,false,true⟩]:=by kernel_rfl
theorem JV:aY Pg true 11 (fin (pq c cs wg xs) (.int .u64 0)):=λw=>by kernel_rfl
noncomputable def pE:Goroutine:=aE Pg true 11 (fin (pq c cs wg xs) (.int .u64 0))
theorem OL(w:World):stepG Pg true (pE c cs wg xs) w= .go (fin (pE c cs wg xs) unit) w #[aK .enable]:=by kernel_rfl
theorem Md:(pE c cs wg xs).status= .running:=by kernel_rfl
theorem O4:aY Pg true 3 (fin (pE c cs wg xs) unit):=λw=>by kernel_rfl
noncomputable def lB:Goroutine:=aE Pg true 3 (fin (pE c cs wg xs) unit)
theorem BX:aH Pg true (lB c cs wg xs):=⟨λw=>by kernel_rfl,by kernel_rfl,by kernel_rfl⟩
theorem Ir:feed Pg (aV (lB c cs wg xs)) [jO,jO]=some ([.shp wg,.shp wg],.inl (.value (ptr wg))):=by kernel_rfl
theorem Q6(w:World):stepG Pg true (fin (lB c cs wg xs) (ptr wg)) w= .go (fin (fin (lB c cs wg xs) (ptr wg)) unit) w #[aK (.acquire ⟨wg,0,none⟩)]:=by kernel_rfl
theorem GW:(fin (lB c cs wg xs) (ptr wg)).status= .running:=by kernel_rfl
end
end
section
open Go.Conc
open Go.ConcN (upd)
set_option maxRecDepth 100000
structure Mn extends Pl where
 first:Int
 count:Int
 fn:Fn
 ca:Array Value
 cb:Array Value
def Mn.gX(M:Mn):Value:= .func M.fn M.ca M.cb
def mT(M:Mn)(xs:Nat->Value):Array Value:=#[.int .i64 M.first,.int .i64 M.count,M.gX,xs 3,xs 4,ptr M.bT,xs 6,ptr M.bN,ptr M.bB,ptr M.wg,xs 10,xs 11,xs 12,xs 13,xs 14,xs 15,xs 16,xs 17,xs 18,xs 19,xs 20,xs 21,xs 22,xs 23,xs 24,xs 25,xs 26,xs 27,xs 28,xs 29,xs 30,xs 31,xs 32,xs 33,xs 34,xs 35,xs 36,xs 37,xs 38,xs 39,xs 40,xs 41,xs 42,xs 43,xs 44,xs 45,xs 46,xs 47,xs 48,xs 49,xs 50]
noncomputable def gM(M:Mn)(id n:Nat)(xs:Nat->Value)(cs:List Frame):Goroutine:=Ba Pg 68 id n (mT M xs) cs
section
variable (M:Mn) (xs:Nat->Value) (c:Frame) (cs:List Frame)
noncomputable def m0:Goroutine:=qx 68 #[.int .i64 M.first,.int .i64 M.count,M.gX] (c::cs)
theorem NZ:aY Pg true 2 (m0 M c cs):=λw=>by kernel_rfl
noncomputable def mC:Goroutine:=aE Pg true 2 (m0 M c cs)
theorem KA:aH Pg true (mC M c cs):=⟨λw=>by kernel_rfl,by kernel_rfl,by kernel_rfl⟩
theorem OZ(r:Nat):feed Pg (aV (mC M c cs)) [.ref r]=some ([.nw (.cells #[M.gX] 79)],.inl (.value (ptr r))):=by kernel_rfl
theorem RQ:aY Pg true 5 (fin (mC M c cs) (ptr M.bT)):=λw=>by kernel_rfl
noncomputable def rY:Goroutine:=aE Pg true 5 (fin (mC M c cs) (ptr M.bT))
theorem PY:aH Pg true (rY M c cs):=⟨λw=>by kernel_rfl,by kernel_rfl,by kernel_rfl⟩
noncomputable def rp:Goroutine:=fin (rY M c cs) (.chan (some M.cN))
theorem U9:aH Pg true (rp M c cs):=⟨λw=>by kernel_rfl,by kernel_rfl,by kernel_rfl⟩
theorem Nk(r:Nat):feed Pg (aV (rp M c cs)) [.ref r]=some ([.nw (.cells #[.chan none] 178)],.inl (.value (ptr r))):=by kernel_rfl
noncomputable def lj:Goroutine:=fin (rp M c cs) (ptr M.bN)
theorem KP:aH Pg true (lj M c cs):=⟨λw=>by kernel_rfl,by kernel_rfl,by kernel_rfl⟩
theorem Ju:feed Pg (aV (lj M c cs)) []=some ([.st .plain ⟨M.bN,0,none⟩ (.chan (some M.cN))],.inl .skip):=by kernel_rfl
theorem Mz:aY Pg true 4 (fin (lj M c cs) unit):=λw=>by kernel_rfl
noncomputable def qt:Goroutine:=aE Pg true 4 (fin (lj M c cs) unit)
theorem RA:aH Pg true (qt M c cs):=⟨λw=>by kernel_rfl,by kernel_rfl,by kernel_rfl⟩
noncomputable def rL:Goroutine:=fin (qt M c cs) (.chan (some M.cB))
theorem Vf:aH Pg true (rL M c cs):=⟨λw=>by kernel_rfl,by kernel_rfl,by kernel_rfl⟩
theorem Nt(r:Nat):feed Pg (aV (rL M c cs)) [.ref r]=some ([.nw (.cells #[.chan none] 179)],.inl (.value (ptr r))):=by kernel_rfl
noncomputable def lM:Goroutine:=fin (rL M c cs) (ptr M.bB)
theorem P5:aH Pg true (lM M c cs):=⟨λw=>by kernel_rfl,by kernel_rfl,by kernel_rfl⟩
theorem OK:feed Pg (aV (lM M c cs)) []=some ([.st .plain ⟨M.bB,0,none⟩ (.chan (some M.cB))],.inl .skip):=by kernel_rfl
theorem TO:aY Pg true 3 (fin (lM M c cs) unit):=λw=>by kernel_rfl
noncomputable def rH:Goroutine:=aE Pg true 3 (fin (lM M c cs) unit)
theorem MB:aH Pg true (rH M c cs):=⟨λw=>by kernel_rfl,by kernel_rfl,by kernel_rfl⟩
theorem Lf(r:Nat):feed Pg (aV (rH M c cs)) [.ref r]=some ([.nw (.cells #[.int .u64 0,.int .u32 0] 188)],.inl (.value (ptr r))):=by kernel_rfl
noncomputable def qX:Goroutine:=fin (rH M c cs) (ptr M.wg)
end
def IH(_:Mn)(n i:Int)(xs:Nat->Value):Nat->Value:=upd (upd xs 18 (.int .i64 n)) 19 (.int .i64 i)
def mJ(g:Goroutine):Nat->Value:=λi=>g.frame.tmps.getD i undef
section
variable (M:Mn) (xs:Nat->Value) (cs:List Frame)
noncomputable def iu(n i:Int):Goroutine:=gM M 5 0 (IH M n i xs) cs
noncomputable def uV(n i:Int):Frame:=(aE Pg true 9 (iu M xs cs n i)).frame
noncomputable def j5(n i:Int):Goroutine:=aE Pg true 3 (mN (uV M xs cs n i) cs)
theorem pZ{n:Nat}{g g':Goroutine}(h:aY Pg true n g)(e:aE Pg true n g=g'):aF Pg true n g g':=e ▸ h.aO
theorem qH{n i:Nat}(h:(n=1\/n=4)/\i< n):(n=1/\i=0)\/(n=4/\i=0)\/(n=4/\i=1)\/(n=4/\i=2)\/(n=4/\i=3):=by omega
variable {n i:Nat}
theorem LD(h:(n=1\/n=4)/\i< n):aF Pg true 10 (iu M xs cs n i) (yQ (uV M xs cs n i) cs M.wg):=by
 rcases qH h with ⟨rfl,rfl⟩|⟨rfl,rfl⟩|⟨rfl,rfl⟩|⟨rfl,rfl⟩|⟨rfl,rfl⟩<;>exact pZ (λw=>by kernel_rfl) (by kernel_rfl)
theorem P7(h:(n=1\/n=4)/\i< n):aF Pg true 3 (mN (uV M xs cs n i) cs) (j5 M xs cs n i):=by
 rcases qH h with ⟨rfl,rfl⟩|⟨rfl,rfl⟩|⟨rfl,rfl⟩|⟨rfl,rfl⟩|⟨rfl,rfl⟩<;>exact pZ (λw=>by kernel_rfl) rfl
theorem K0(h:(n=1\/n=4)/\i< n)(w:World):stepG Pg true (j5 M xs cs n i) w= .spawn (fin (j5 M xs cs n i) unit) (mh M.toPl) w #[]:=by
 rcases qH h with ⟨rfl,rfl⟩|⟨rfl,rfl⟩|⟨rfl,rfl⟩|⟨rfl,rfl⟩|⟨rfl,rfl⟩<;>kernel_rfl
theorem PO(h:(n=1\/n=4)/\i< n):(j5 M xs cs n i).status= .running:=by
 rcases qH h with ⟨rfl,rfl⟩|⟨rfl,rfl⟩|⟨rfl,rfl⟩|⟨rfl,rfl⟩|⟨rfl,rfl⟩<;>kernel_rfl
theorem Mx(h:(n=1\/n=4)/\i< n): ∃xs',aF Pg true 9 (fin (j5 M xs cs n i) unit) (iu M xs' cs n ((i+1:Nat):Int)):=by
 refine⟨mJ (aE Pg true 9 (fin (j5 M xs cs n i) unit)),?_⟩;rcases qH h with ⟨rfl,rfl⟩|⟨rfl,rfl⟩|⟨rfl,rfl⟩|⟨rfl,rfl⟩|⟨rfl,rfl⟩<;>exact pZ (λw=>by kernel_rfl) (by kernel_rfl)
end
end
section
open Go.Conc
open Go.ConcN (upd)
set_option maxRecDepth 100000
section
variable (c:Frame) (cs:List Frame) (wg:Nat) (xs:Nat->Value)
theorem MR:aY Pg true 10 (fin (fin (lB c cs wg xs) (ptr wg)) unit):=λw=>by kernel_rfl
theorem Qj:aE Pg true 10 (fin (fin (lB c cs wg xs) (ptr wg)) unit)=mN c cs:=by kernel_rfl
end
section
variable (M:Mn) (xs:Nat->Value) (cs:List Frame) (j:Int)
def Ay(M:Mn)(j:Int)(xs:Nat->Value):Nat->Value:=upd (upd xs 24 (.int .i64 M.count)) 25 (.int .i64 j)
noncomputable def mP:Goroutine:=gM M 10 0 (Ay M j xs) cs
theorem It:aY Pg true 15 (iu M xs cs 1 1):=λw=>by kernel_rfl
theorem N0:aY Pg true 15 (iu M xs cs 4 4):=λw=>by kernel_rfl
theorem Qb:aE Pg true 15 (iu M xs cs 1 1)=mP M (mJ (aE Pg true 15 (iu M xs cs 1 1))) cs 0:=by kernel_rfl
theorem RI:aE Pg true 15 (iu M xs cs 4 4)=mP M (mJ (aE Pg true 15 (iu M xs cs 4 4))) cs 0:=by kernel_rfl
noncomputable def qk(b:Bool):Goroutine:=gM M 10 1 (upd (Ay M j xs) 26 (.bool b)) cs
theorem PU:aY Pg true 1 (mP M xs cs j):=λw=>by kernel_rfl
theorem Tq:aE Pg true 1 (mP M xs cs j)=qk M xs cs j (decide (j< M.count)):=by kernel_rfl
theorem Ng:aY Pg true 12 (qk M xs cs j true):=λw=>by kernel_rfl
noncomputable def mq:Goroutine:=aE Pg true 12 (qk M xs cs j true)
theorem Ck:aH Pg true (mq M xs cs j):=⟨λw=>by kernel_rfl,by kernel_rfl,by kernel_rfl⟩
theorem Ou(v:Value):feed Pg (aV (mq M xs cs j)) [.val v]=some ([.ld .plain ⟨M.bN,0,none⟩],.inl (.value v)):=by kernel_rfl
theorem Rx:(mq M xs cs j).frame.fn=68:=by kernel_rfl
theorem Mb:aY Pg true 3 (fin (mq M xs cs j) (.chan (some M.cN))):=λw=>by kernel_rfl
noncomputable def iO:Goroutine:=aE Pg true 3 (fin (mq M xs cs j) (.chan (some M.cN)))
theorem AL:aH Pg true (iO M xs cs j):=⟨λw=>by kernel_rfl,by kernel_rfl,by kernel_rfl⟩
def uL(M:Mn)(j:Int):Array CommCase:=#[{chan:= .chan (some M.cN),send:=some (.int .i64 (IntKind.i64.wrap (M.first+j))),zero:= .tuple #[]}]
theorem Ow:feed Pg (aV (iO M xs cs j)) []=some ([],.inl (.comm (uL M j) true .send)):=by kernel_rfl
noncomputable def mA:Goroutine:=(iO M xs cs j).finishComm Pg (uL M j) .send 0 undef false
theorem TA:aY Pg true 9 (mA M xs cs j):=λw=>by kernel_rfl
theorem NU:aE Pg true 9 (mA M xs cs j)=mP M (mJ (aE Pg true 9 (mA M xs cs j))) cs (IntKind.i64.wrap (j+1)):=by kernel_rfl
theorem G5:aY Pg true 6 (qk M xs cs j false):=λw=>by kernel_rfl
noncomputable def pn:Goroutine:=aE Pg true 6 (qk M xs cs j false)
theorem A6:aH Pg true (pn M xs cs j):=⟨λw=>by kernel_rfl,by kernel_rfl,by kernel_rfl⟩
theorem Tv(v:Value):feed Pg (aV (pn M xs cs j)) [.val v]=some ([.ld .plain ⟨M.bN,0,none⟩],.inl (.value v)):=by kernel_rfl
theorem KS:(pn M xs cs j).frame.fn=68:=by kernel_rfl
noncomputable def jd:Goroutine:=fin (pn M xs cs j) (.chan (some M.cN))
theorem FI:aH Pg true (jd M xs cs j):=⟨λw=>by kernel_rfl,by kernel_rfl,by kernel_rfl⟩
theorem Qx(a:Nat)(b:Array Value)(s r:Nat)(tm:Bool):feed Pg (aV (jd M xs cs j)) [.obj (.chan a b false s r tm)]=some ([.gt M.cN,.pt M.cN (.chan a b true s r tm)],.inl (.value unit)):=by kernel_rfl
theorem Qm:(jd M xs cs j).frame.fn=68:=by kernel_rfl
theorem Ph:mayWake Pg (jd M xs cs j)=true:=by kernel_rfl
theorem Tf:aY Pg true 4 (fin (jd M xs cs j) unit):=λw=>by kernel_rfl
noncomputable def xe:Frame:=(aE Pg true 3 (fin (jd M xs cs j) unit)).frame
theorem Jl:aE Pg true 4 (fin (jd M xs cs j) unit)=vL (xe M xs cs j) cs M.wg:=by kernel_rfl
theorem uZ(b:Nat):seen Pg 68 #[⟨.cell ⟨b,0,none⟩,false,false⟩]=#[⟨.cell ⟨b,0,none⟩,false,false⟩]:=by kernel_rfl
theorem yJ(a:Addr):seen Pg 68 #[⟨.cell a,true,false⟩]=#[⟨.cell a,true,false⟩]:=by kernel_rfl
theorem Fz(r:Nat):seen Pg 68 #[⟨.obj r,false,true⟩,⟨.obj r,true,true⟩]=#[⟨.obj r,false,true⟩,⟨.obj r,true,true⟩]:=by kernel_rfl
theorem NJ(a b:Addr):seen Pg 68 #[⟨.cell a,true,false⟩,⟨.cell b,true,false⟩]=#[⟨.cell a,true,false⟩,⟨.cell b,true,false⟩]:=by kernel_rfl
theorem Bc(a:Addr):seen Pg 68 #[⟨.cell a,false,false⟩]=#[⟨.cell a,false,false⟩]:=by kernel_rfl
end
end
section
open Go.Conc
open Go.ConcN (upd)
set_option maxRecDepth 100000
section
variable (M:Mn) (xs:Nat->Value) (cs:List Frame) (j:Int)
noncomputable def mB:Goroutine:=mN (xe M xs cs j) cs
theorem zA:aY Pg true 3 (mB M xs cs j):=λw=>by kernel_rfl
noncomputable def mV:Goroutine:=aE Pg true 3 (mB M xs cs j)
theorem El:aH Pg true (mV M xs cs j):=⟨λw=>by kernel_rfl,by kernel_rfl,by kernel_rfl⟩
theorem H9(v:Value):feed Pg (aV (mV M xs cs j)) [.val v]=some ([.ld .plain ⟨M.bB,0,none⟩],.inl (.value v)):=by kernel_rfl
theorem Iw:(mV M xs cs j).frame.fn=68:=by kernel_rfl
noncomputable def lD:Goroutine:=fin (mV M xs cs j) (.chan (some M.cB))
theorem PF:aH Pg true (lD M xs cs j):=⟨λw=>by kernel_rfl,by kernel_rfl,by kernel_rfl⟩
theorem Th(a:Nat)(b:Array Value)(s r:Nat)(tm:Bool):feed Pg (aV (lD M xs cs j)) [.obj (.chan a b false s r tm)]=some ([.gt M.cB,.pt M.cB (.chan a b true s r tm)],.inl (.value unit)):=by kernel_rfl
theorem Sc:(lD M xs cs j).frame.fn=68:=by kernel_rfl
theorem K8:aY Pg true 4 (fin (lD M xs cs j) unit):=λw=>by kernel_rfl
noncomputable def nh:Goroutine:=aE Pg true 4 (fin (lD M xs cs j) unit)
theorem S6:aH Pg true (nh M xs cs j):=⟨λw=>by kernel_rfl,by kernel_rfl,by kernel_rfl⟩
end
section
variable (M:Mn) (xs:Nat->Value) (cs:List Frame) (j:Int) (d n:Nat)
def jV(d n:Nat):Value:=.slice (some ⟨d,0,none⟩) n n
theorem M7:aY Pg true 5 (fin (nh M xs cs j) (jV d n)):=λw=>by kernel_rfl
noncomputable def me:Goroutine:=aE Pg true 5 (fin (nh M xs cs j) (jV d n))
theorem Qa:aH Pg true (me M xs cs j d n):=⟨λw=>by kernel_rfl,by kernel_rfl,by kernel_rfl⟩
theorem Is(v:Value):feed Pg (aV (me M xs cs j d n)) [.val v]=some ([.ld .plain ⟨M.bB,0,none⟩],.inl (.value v)):=by kernel_rfl
theorem NF:(me M xs cs j d n).frame.fn=68:=by kernel_rfl
theorem UL:aY Pg true 5 (fin (me M xs cs j d n) (.chan (some M.cB))):=λw=>by kernel_rfl
def I2(M:Mn)(d n:Nat)(xs:Nat->Value):Nat->Value:=upd (upd xs 38 (.chan (some M.cB))) 11 (jV d n)
noncomputable def fN:Goroutine:=gM M 19 0 (I2 M d n xs) cs
theorem LL:aE Pg true 5 (fin (me M xs cs j d n) (.chan (some M.cB)))=fN M (mJ (aE Pg true 5 (fin (me M xs cs j d n) (.chan (some M.cB))))) cs d n:=by kernel_rfl
theorem ux:aH Pg true (fN M xs cs d n):=⟨λw=>by kernel_rfl,by kernel_rfl,by kernel_rfl⟩
def zF:Value:=.agg #[.int .i64 0,.int .u64 0]
def wu(M:Mn):Array CommCase:=#[{chan:=.chan (some M.cB),send:=none,zero:=zF}]
theorem DX:feed Pg (aV (fN M xs cs d n)) []=some ([],.inl (.comm (wu M) true (.recv true))):=by kernel_rfl
noncomputable def sS(s e:Int):Goroutine:=(fN M xs cs d n).finishComm Pg (wu M) (.recv true) 0 (.agg #[.int .i64 s,.int .u64 e]) true
variable (s e:Int) (r:Nat)
theorem RM:aY Pg true 9 (sS M xs cs d n s e):=λw=>by kernel_rfl
noncomputable def qz:Goroutine:=aE Pg true 9 (sS M xs cs d n s e)
theorem Uh:aH Pg true (qz M xs cs d n s e):=⟨λw=>by kernel_rfl,by kernel_rfl,by kernel_rfl⟩
theorem Ja:feed Pg (aV (qz M xs cs d n s e)) [.ref r]=some ([.nw (.cells #[.int .i64 0,.int .u64 0] 190)],.inl (.value (ptr r))):=by kernel_rfl
noncomputable def lU:Goroutine:=fin (qz M xs cs d n s e) (ptr r)
theorem UC:aH Pg true (lU M xs cs d n s e r):=⟨λw=>by kernel_rfl,by kernel_rfl,by kernel_rfl⟩
theorem Nz:feed Pg (aV (lU M xs cs d n s e r)) []=some ([.st .plain ⟨r,0,none⟩ (.int .i64 s),.st .plain ⟨r,1,none⟩ (.int .u64 e)],.inl .skip):=by kernel_rfl
theorem QS:(lU M xs cs d n s e r).frame.fn=68:=by kernel_rfl
theorem Ha:aY Pg true 4 (fin (lU M xs cs d n s e r) unit):=λw=>by kernel_rfl
noncomputable def lF:Goroutine:=aE Pg true 4 (fin (lU M xs cs d n s e r) unit)
theorem RU:aH Pg true (lF M xs cs d n s e r):=⟨λw=>by kernel_rfl,by kernel_rfl,by kernel_rfl⟩
theorem OM(v:Value):feed Pg (aV (lF M xs cs d n s e r)) [.val v]=some ([.ld .plain ⟨r,0,none⟩],.inl (.value v)):=by kernel_rfl
theorem SD:(lF M xs cs d n s e r).frame.fn=68:=by kernel_rfl
theorem N7:aY Pg true 3 (fin (lF M xs cs d n s e r) (.int .i64 s)):=λw=>by kernel_rfl
noncomputable def py:Goroutine:=aE Pg true 3 (fin (lF M xs cs d n s e r) (.int .i64 s))
theorem JM:aH Pg true (py M xs cs d n s e r):=⟨λw=>by kernel_rfl,by kernel_rfl,by kernel_rfl⟩
theorem Ti(v:Value):feed Pg (aV (py M xs cs d n s e r)) [.val v]=some ([.ld .plain ⟨r,1,none⟩],.inl (.value v)):=by kernel_rfl
theorem OO:(py M xs cs d n s e r).frame.fn=68:=by kernel_rfl
noncomputable def pB:Goroutine:=fin (py M xs cs d n s e r) (.int .u64 e)
theorem Ic:aH Pg true (pB M xs cs d n s e r):=⟨λw=>by kernel_rfl,by kernel_rfl,by kernel_rfl⟩
theorem I8:aV (pB M xs cs d n s e r)=(Instr.indexAt 147 (jV d n) (.int .i64 (IntKind.i64.wrap (s-M.first))) >>=λv=>pure (.value v)):=by kernel_rfl
variable (k:Nat)
noncomputable def lR:Goroutine:=fin (pB M xs cs d n s e r) (.pointer (some ⟨d,k,none⟩))
theorem UW:aH Pg true (lR M xs cs d n s e r k):=⟨λw=>by kernel_rfl,by kernel_rfl,by kernel_rfl⟩
theorem Rr:feed Pg (aV (lR M xs cs d n s e r k)) []=some ([.st .plain ⟨d,k,none⟩ (.int .u64 e)],.inl .skip):=by kernel_rfl
theorem Iq:(lR M xs cs d n s e r k).frame.fn=68:=by kernel_rfl
theorem Jg:aY Pg true 5 (fin (lR M xs cs d n s e r k) unit):=λw=>by kernel_rfl
theorem I0:aE Pg true 5 (fin (lR M xs cs d n s e r k) unit)=fN M (mJ (aE Pg true 5 (fin (lR M xs cs d n s e r k) unit))) cs d n:=by kernel_rfl
end
section
variable (M:Mn) (xs:Nat->Value) (c:Frame) (cs:List Frame) (d n:Nat)
noncomputable def mZ:Goroutine:=(fN M xs (c::cs) d n).finishComm Pg (wu M) (.recv true) 0 zF false
theorem UB:aY Pg true 12 (mZ M xs c cs d n):=λw=>by kernel_rfl
theorem SZ:aE Pg true 12 (mZ M xs c cs d n)= {frame:=c.finish (jV d n),callers:=cs,status:=.running,dying:=none}:=by kernel_rfl
end
end
section
open Go.Conc
open Go.ConcN (upd upd_same upd_ne sumTo sumTo_upd sumTo_congr RelBy)
section
variable {Λ:nI}{Sh live Wk:Nat->Prop}{B:Nat}{t u:Trace}
theorem TP.still(h:TP Λ Sh live Wk B t):∀(l:List MemOp),(∀op∈l,op.act.touch?=none)->(∀op∈l,op.act.low B)->TP Λ Sh live Wk B (t++l.toArray):=by
 intro l;induction l generalizing t with
 |nil=>intro _ _;simpa using h
 |cons x l ih=>
  intro hn hl;have e:t++(x::l).toArray=(t++#[x])++l.toArray:=by apply Array.ext';simp
  rw[e];refine ih (h.mute (k:=x.g) (λop ag=>by simp at ag;rw[ag]) (λop ag=>by simp at ag;rw[ag];exact hn x (by simp)) (λop ag=>by simp at ag;rw[ag];exact hl x (by simp))) (λop ag=>hn op (by simp[ag])) (λop ag=>hl op (by simp[ag]))
theorem RelBy.still{a:Addr}{k r:Nat}(h:RelBy a t k r)(hn:∀op∈u,op.act.touch?=none):RelBy a (t++u) k r:=by
 refine h.app λi hi _ hc=>?_;obtain⟨x,hx,_⟩:=hc;obtain⟨op,ag,hox⟩:=touch_of hx;rcases getElem?_append_cases ag with⟨hlt,_⟩|⟨_,hou⟩
 ·omega
 ·rw[hn op hou]at hox;cases hox
def pN(x:MemAct):Prop:=x≠.mark .disable/\x≠.mark .enable
theorem mE(t:Trace)(g:Nat):∀(l:List MemOp),(∀op∈l,pN op.act)->Deaf (t++l.toArray) g=Deaf t g:=by
 intro l hl;rw[Deaf_append];have:∀(l:List MemOp) (d:Nat),(∀op∈l,pN op.act)->l.foldl (deafStep g) d=d:=by
  intro l;induction l with
  |nil=>intro d _;rfl
  |cons y l ih=>
   intro d h;rw[WM];have hy:deafStep g d y=d:=by
    have:=h y (by simp);unfold deafStep;split
    ·rename_i e;exact absurd e this.1
    ·rename_i e;exact absurd e this.2
    ·rfl
   rw[hy];exact ih d λop ag=>h op (by simp[ag])
 exact this l _ hl
end
end
end Go.Proofs.YtldmcdeibiclkaaGreatDoor.U
