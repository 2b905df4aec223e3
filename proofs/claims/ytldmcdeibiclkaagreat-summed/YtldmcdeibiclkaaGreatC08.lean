/-
  Toward summed_holds: BEHIND Add(-1): it leaves; or it is the last one, and wakes the starter.
-/
import Derived.Test.YtldmcdeibiclkaaGreatC07
import Derived.Conc.CrowdComm
set_option linter.unusedVariables false
set_option linter.unusedSimpArgs false
set_option maxRecDepth 100000
set_option maxHeartbeats 20000000
namespace Go.Proofs.YtldmcdeibiclkaaGreat.U
variable {a:Int}{q:Nat}{v w:World}{X:Nat->Value}{x:Value}
section
open Go.Conc
set_option maxRecDepth 100000
section
variable (c:Frame) (cs:List Frame) (wg:Nat)
def back:Goroutine:={frame:=c.finish unit,callers:=cs,status:=.running,dying:=none}
noncomputable def oF(st:Int):Goroutine:=az Pg false 87 (j1 (c::cs) wg st)
noncomputable def enabled(g:Goroutine):Goroutine:={g with frame:={g.frame with defers:=[]}}
theorem ve:∀e∈#[aL .enable],Event.mute e=true:=by intro e he;simp[aL]at he;subst he;rfl
theorem zW{st:Int}(h1:aT Pg false 87 (j1 (c::cs) wg st))(h2:(oF c cs wg st).status=.running)(h3:∀w,stepG Pg false (oF c cs wg st) w=.go (enabled (oF c cs wg st)) w #[aL .enable])(h4:(enabled (oF c cs wg st)).status=.running)(h5:∀w,stepG Pg false (enabled (oF c cs wg st)) w=.go (back c cs) w #[])(h:QuitsD Pg q 0 (back c cs)):QuitsD Pg (87+((1+q)+1)) 1 (j1 (c::cs) wg st):=
 QuitsD.aN h1.aN (QuitsD.marked h2 h3 ve (QuitsD.aN (aA.one h4 h5) h))
theorem IC:aT Pg false 103 (j1 (c::cs) wg 1):=λw=>by kernel_rfl
noncomputable def mK:Goroutine:=az Pg false 103 (j1 (c::cs) wg 1)
theorem ua:aE Pg false (mK c cs wg):=⟨λw=>by kernel_rfl,by kernel_rfl,by kernel_rfl⟩
theorem C2:feed Pg (aQ (mK c cs wg)) [.val (.int .u64 1)]=some ([.mk (.extern 190),.ld .atomic ⟨wg,0,none⟩],.inl (.value (.int .u64 1))):=by kernel_rfl
theorem EM(a:Addr):seen Pg (mK c cs wg).frame.fn #[aL (.extern 190),⟨.cell a,false,true⟩]=#[⟨.cell a,false,true⟩]:=by kernel_rfl
theorem JK:aT Pg false 20 (fin (mK c cs wg) (.int .u64 1)):=λw=>by kernel_rfl
noncomputable def mF:Goroutine:=az Pg false 20 (fin (mK c cs wg) (.int .u64 1))
theorem uv:aE Pg false (mF c cs wg):=⟨λw=>by kernel_rfl,by kernel_rfl,by kernel_rfl⟩
theorem Iw:feed Pg (aQ (mF c cs wg)) []=some ([.mk (.extern 191),.st .atomic ⟨wg,0,none⟩ (.int .u64 0)],.inl (.value unit)):=by kernel_rfl
theorem PN(a:Addr):seen Pg (mF c cs wg).frame.fn #[aL (.extern 191),⟨.cell a,true,true⟩]=#[⟨.cell a,true,true⟩]:=by kernel_rfl
theorem Da:aT Pg false 27 (fin (mF c cs wg) unit):=λw=>by kernel_rfl
noncomputable def kT:Goroutine:=az Pg false 27 (fin (mF c cs wg) unit)
theorem q9:aE Pg false (kT c cs wg):=⟨λw=>by kernel_rfl,by kernel_rfl,by kernel_rfl⟩
theorem Oa:mayWake Pg (kT c cs wg)=true:=by kernel_rfl
theorem NB:feed Pg (aQ (kT c cs wg)) [.val (.int .u32 0)]=some ([.mk (.extern 168),.mk .disable,.ld .atomic ⟨wg,1,none⟩,.st .atomic ⟨wg,1,none⟩ (.int .u32 1),.mk .enable],.inl (.value unit)):=by kernel_rfl
theorem Hw(a:Addr):seen Pg (kT c cs wg).frame.fn #[aL (.extern 168),aL .disable,⟨.cell a,false,true⟩,⟨.cell a,true,true⟩,aL .enable]=#[aL .disable,⟨.cell a,false,true⟩,⟨.cell a,true,true⟩,aL .enable]:=by kernel_rfl
theorem Qh:aT Pg false 17 (fin (kT c cs wg) unit):=λw=>by kernel_rfl
noncomputable def uw:Goroutine:=az Pg false 17 (fin (kT c cs wg) unit)
theorem CF(w:World):stepG Pg false (uw c cs wg) w=.go (enabled (uw c cs wg)) w #[aL .enable]:=by kernel_rfl
theorem GV(w:World):stepG Pg false (enabled (uw c cs wg)) w=.go (back c cs) w #[]:=by kernel_rfl
theorem I4(h:QuitsD Pg q 0 (back c cs)):QuitsD Pg (17+((1+q)+1)) 1 (fin (kT c cs wg) unit):=
 QuitsD.aN (Qh c cs wg).aN (QuitsD.marked (by kernel_rfl) (CF c cs wg) ve (QuitsD.aN (aA.one (by kernel_rfl) (GV c cs wg)) h))
end
end
section
open Go.Conc
open Go.ConcN (upd)
set_option maxRecDepth 100000
structure Pl where
 wg:Nat
 bN:Nat
 bB:Nat
 bT:Nat
 cN:Nat
 cB:Nat
noncomputable def jV(p:Pl):Goroutine:=
 {frame:={(default:Frame) with fn:=Pg.funcs.size,defers:=[{target:=.fn (.func 128) #[ptr p.wg,ptr p.bN,ptr p.bB,ptr p.bT],args:=#[]}],mode:=.panicking [goexitEntry]},callers:=[],status:=.running,dying:=none}
theorem Mx(p:Pl):aT Pg false 7 (jV p):=λw=>by kernel_rfl
noncomputable def my(p:Pl):Goroutine:=az Pg false 7 (jV p)
theorem sn(p:Pl):aE Pg false (my p):=⟨λw=>by kernel_rfl,by kernel_rfl,by kernel_rfl⟩
theorem Od(p:Pl)(v:Value):feed Pg (aQ (my p)) [.val v]=some ([.ld .plain ⟨p.bN,0,none⟩],.inl (.value v)):=by kernel_rfl
theorem Ln(p:Pl)(b:Nat):seen Pg (my p).frame.fn #[⟨.cell ⟨b,0,none⟩,false,false⟩]=#[⟨.cell ⟨b,0,none⟩,false,false⟩]:=by kernel_rfl
noncomputable def rQ(p:Pl):Goroutine:=dX (my p) ((my p).frame.finish (.chan (some p.cN)))
theorem G3(p:Pl):aT Pg false 5 (rQ p):=λw=>by kernel_rfl
def xp(p:Pl)(xs:Nat->Value):Array Value:=#[ptr p.wg,ptr p.bN,ptr p.bB,ptr p.bT,xs 4,.chan (some p.cN),xs 6,xs 7,xs 8,xs 9,xs 10,xs 11,xs 12,xs 13,xs 14,xs 15]
def wA(g:Goroutine)(ts:Array Value):Goroutine:={g with frame:={g.frame with tmps:=ts}}
noncomputable def fc(p:Pl)(xs:Nat->Value):Goroutine:=wA (az Pg false 5 (rQ p)) (xp p xs)
theorem JL(p:Pl):az Pg false 5 (rQ p)=fc p (λ_=>undef):=by kernel_rfl
theorem sC(p:Pl)(xs:Nat->Value):aE Pg false (fc p xs):=⟨λw=>by kernel_rfl,by kernel_rfl,by kernel_rfl⟩
def oI(p:Pl):Array CommCase:=#[{chan:=.chan (some p.cN),send:=none,zero:=.int .i64 0}]
theorem EC(p:Pl)(xs:Nat->Value):feed Pg (aQ (fc p xs)) []=some ([],.inl (.comm (oI p) true (.recv true))):=by kernel_rfl
noncomputable def qd(p:Pl)(xs:Nat->Value)(n:Int):Goroutine:=(fc p xs).finishComm Pg (oI p) (.recv true) 0 (.int .i64 n) true
theorem AW(p:Pl)(xs:Nat->Value)(n:Int):aT Pg false 11 (qd p xs n):=λw=>by kernel_rfl
noncomputable def zy:Goroutine:=az Pg false 11 (qd ⟨0,0,0,0,0,0⟩ (λ_=>undef) 0)
noncomputable def l9(p:Pl)(xs:Nat->Value):Goroutine:=wA (az Pg false 11 (qd p (λ_=>undef) 0)) (xp p xs)
def fZ(xs:Nat->Value)(n:Int):Nat->Value:=upd (upd (upd (upd xs 6 (.tuple #[.int .i64 n,.bool true])) 7 (.bool true)) 8 (.int .i64 n)) 4 (.int .i64 n)
theorem yA(p:Pl)(xs:Nat->Value)(n:Int):az Pg false 11 (qd p xs n)=l9 p (fZ xs n):=by kernel_rfl
noncomputable def jK:Array Oper:=match zy.frame.todo with|.code (.region _ ops _)::_=>ops|_=>#[]
noncomputable def kR:List Item:=match zy.frame.todo with|_::k=>k|_=>[]
noncomputable def aX(p:Pl)(xs:Nat->Value)(l:List Nat):Goroutine:={l9 p xs with frame:={(l9 p xs).frame with todo:=.inRegion jK l::kR}}
theorem vm(p:Pl)(xs:Nat->Value):(l9 p xs).status=.running:=by kernel_rfl
theorem Px(p:Pl)(xs:Nat->Value)(w:World):stepG Pg false (l9 p xs) w=.go (aX p xs (Region.schedule true jK (w.tape w.drawn (.order 128 4)))) {w with drawn:=w.drawn+1} #[]:=by kernel_rfl
section
variable (p:Pl) (xs:Nat->Value) (rest:List Nat)
theorem P0:aE Pg false (aX p xs (0::rest)):=⟨λw=>by kernel_rfl,by kernel_rfl,by kernel_rfl⟩
theorem IX(v:Value):feed Pg (aQ (aX p xs (0::rest))) [.val v]=some ([.ld .plain ⟨p.bB,0,none⟩],.inl (.value v)):=by kernel_rfl
theorem GK(v:Value):dX (aX p xs (0::rest)) ((aX p xs (0::rest)).frame.finish v)=aX p (upd xs 9 v) rest:=by kernel_rfl
theorem CI:aT Pg false 1 (aX p xs (1::rest)):=λw=>by kernel_rfl
theorem O9:nx Pg false (aX p xs (1::rest))=aX p (upd xs 10 (xs 4)) rest:=by kernel_rfl
theorem C9:aE Pg false (aX p xs (2::rest)):=⟨λw=>by kernel_rfl,by kernel_rfl,by kernel_rfl⟩
theorem EJ(v:Value):feed Pg (aQ (aX p xs (2::rest))) [.val v]=some ([.ld .plain ⟨p.bT,0,none⟩],.inl (.value v)):=by kernel_rfl
theorem Ju(v:Value):dX (aX p xs (2::rest)) ((aX p xs (2::rest)).frame.finish v)=aX p (upd xs 11 v) rest:=by kernel_rfl
theorem E4:aT Pg false 1 (aX p xs (3::rest)):=λw=>by kernel_rfl
theorem C4:nx Pg false (aX p xs (3::rest))=aX p (upd xs 12 (xs 4)) rest:=by kernel_rfl
theorem PV:aE Pg false (aX p xs (4::rest)):=⟨λw=>by kernel_rfl,by kernel_rfl,by kernel_rfl⟩
theorem IA(v:Value):dX (aX p xs (4::rest)) ((aX p xs (4::rest)).frame.finish v)=aX p (upd xs 13 v) rest:=by kernel_rfl
theorem PM(v:Value):dX (aX p xs (5::rest)) ((aX p xs (5::rest)).frame.finish v)=aX p (upd xs 14 v) rest:=by kernel_rfl
theorem FG(n d:Int):aT Pg false 1 (aX p (upd (upd xs 10 (.int .i64 n)) 14 (.int .u64 d)) (6::rest)):=λw=>by kernel_rfl
theorem Kn(n d:Int):nx Pg false (aX p (upd (upd xs 10 (.int .i64 n)) 14 (.int .u64 d)) (6::rest))=aX p (upd (upd (upd xs 10 (.int .i64 n)) 14 (.int .u64 d)) 15 (.agg #[.int .i64 n,.int .u64 d])) rest:=by kernel_rfl
theorem EH:aE Pg false (aX p xs (7::rest)):=⟨λw=>by kernel_rfl,by kernel_rfl,by kernel_rfl⟩
theorem M9:feed Pg (aQ (aX p xs (7::rest))) []=some ([],.inl (.comm #[{chan:=xs 9,send:=some (xs 15),zero:=.tuple #[]}] true .send)):=by kernel_rfl
end
theorem Kj(p:Pl)(xs:Nat->Value):aT Pg false 5 (aX p xs []):=λw=>by kernel_rfl
theorem F8(p:Pl)(xs:Nat->Value):az Pg false 5 (aX p xs [])=fc p xs:=by kernel_rfl
noncomputable def qG(p:Pl)(xs:Nat->Value):Goroutine:=(fc p xs).finishComm Pg (oI p) (.recv true) 0 (.int .i64 0) false
theorem Pp(p:Pl)(xs:Nat->Value):aT Pg false 10 (qG p xs):=λw=>by kernel_rfl
noncomputable def cD(p:Pl)(xs:Nat->Value):Frame:=(az Pg false 10 (qG p xs)).callers.headD default
noncomputable def eL(p:Pl)(xs:Nat->Value):List Frame:=(az Pg false 10 (qG p xs)).callers.tail
theorem Cy(p:Pl)(xs:Nat->Value):az Pg false 10 (qG p xs)=rZ (cD p xs::eL p xs) p.wg:=by kernel_rfl
theorem uD(p:Pl)(xs:Nat->Value):QuitsD Pg 5 0 (back (cD p xs) (eL p xs)):=xd 5 0 _ (λw=>by kernel_rfl) (by kernel_rfl) (by kernel_rfl) (by kernel_rfl)
end
section
open Go.Conc
open Go.ConcN (upd upd_same upd_ne)
set_option maxRecDepth 100000
theorem Oo(p:Pl)(xs:Nat->Value)(rest:List Nat):aQ (aX p xs (4::rest))=(do let d ←Deferred.ofValue (xs 11) #[xs 12];invoke d.target d.args):=by kernel_rfl
theorem Es(p:Pl)(xs:Nat->Value)(rest:List Nat)(w:World):stepG Pg false (aX p xs (5::rest)) w=.go {frame:=Frame.enter Pg 84 #[xs 13] .normal,callers:=(aX p xs (5::rest)).frame::(aX p xs (5::rest)).callers,status:=.running,dying:=none} w #[]:=by kernel_rfl
section
variable {L:au}{T:aO}{Goal:Frame->List Frame->World->Prop}
def pe(E:Entry L)(v:World):Prop:=E.v0.heap.size<=v.heap.size/\∀s,s<E.v0.heap.size->v.heap[s]?=E.v0.heap[s]?
theorem FF(A:dH L T Goal){E:Entry L}(K:fK L E){i:Nat}(hj:pA Goal E i a)(p:Pl){xs:Nat->Value}(rest:List Nat)(h11:xs 11=E.y2)(h12:xs 12=.int .i64 (IntKind.i64.wrap (E.first+i)))(hv:pe E v):
  ∃X s g1,stepG Pg false (aX p xs (4::rest)) v=.go g1 v #[]/\X 7=.int .u64 a/\fg L T Goal E (qF E 5 0 X) ((aX p xs (4::rest)).frame::(aX p xs (4::rest)).callers) (λ_=>False) s g1 v:=by
 obtain⟨X,w,hs,h4,h7,hk⟩:=hj;obtain⟨f,us,us',vs,vs',e1,e2,hf,hn,hT,e⟩:=si A K 5 (.inr rfl) hs h4;obtain⟨d1,d2⟩:=hk.obj K v (λr s hr=>hv.2 s (K.bC r s hr).2) hv.1;have hp:=Oo p xs rest;rw[h11,h12,e2]at hp;obtain⟨⟨fn,f1,f2,f3⟩,_⟩:=A.stat.br.nj f hf;have hr:(aQ (aX p xs (4::rest))).runT Pg v #[]=(.ok (.enter f (us'++#[.int .i64 (IntKind.i64.wrap (E.first+i))]++vs')) v,#[]):=by
  rw[hp];exact Ad (P:=Pg) f1 f2 f3 _ _ _
 refine⟨X,⟨_,_,w⟩,_,aE.enter (PV p xs rest) hr rfl,h7,Safe.next hs (A.gq rfl) w.tape e,⟨[],rfl⟩,⟨dV E.ρ,?_,λr t hx=>.inl (jg.1 hx),λr t hx=>absurd hx qM⟩,hk⟩;exact px A.stat A.fl hf hn hT (qF E 5 0 X::E.cs++ [wall]) _ K.bi (K.gl A.stat) d1 d2
def rY(Goal:Frame->List Frame->World->Prop)(E:Entry L)(a:Int)(t:ByteArray):Prop:=∃X w,Safe Qg Goal (qF E 5 2 X) E.cs w/\X 8=.string t/\X 7=.int .u64 a/\fI E w
theorem Em(A:dH L T Goal){E:Entry L}(h7:X 7=.int .u64 a)(hs:Safe Qg Goal ((qF E 5 0 X).finish x) E.cs w)(hk:fI E w): ∃t,x=.string t/\rY Goal E a t:=by
 rw[show (qF E 5 0 X).finish x=qF E 5 1 (upd X 8 x) from wL ..]at hs;obtain⟨t,rfl⟩:=vJ _ _ _ _ _ _ _ (A.cM hs rfl);have r:=A.cQ (wZ (.int .i64 E.first) (.int .i64 E.n) E.x2 X E.cs t) (uW (.int .i64 E.first) (.int .i64 E.n) E.x2 X E.cs t) w;exact⟨t,rfl,_,w,Safe.run hs r,rfl,h7,hk⟩
theorem M3(A:dH L T Goal){E:Entry L}(K:fK L E){t:ByteArray}(hm:rY Goal E a t)(p:Pl){xs:Nat->Value}(rest:List Nat)(h13:xs 13=.string t)(hv:pe E v):
  ∃X s g1,stepG Pg false (aX p xs (5::rest)) v=.go g1 v #[]/\X 7=.int .u64 a/\fg L T Goal E (qF E 5 2 X) ((aX p xs (5::rest)).frame::(aX p xs (5::rest)).callers) (λ_=>False) s g1 v:=by
 obtain⟨X,w,hs,h8,h7,hk⟩:=hm;have e:=Av (.int .i64 E.first) (.int .i64 E.n) E.x2 X E.cs w;rw[h8]at e;have hT:TR L (dV E.ρ) 84 #[.string t] #[.string t]:=⟨rfl,λi x y hx hy=>by
  cases i with
  |zero=>
   rw[A.sum.2];simp at hx hy;subst hx hy;exact VR.string t
  |succ i=>simp at hx⟩
 obtain⟨d1,d2⟩:=hk.obj K v (λr s hr=>hv.2 s (K.bC r s hr).2) hv.1;have e2:=Es p xs rest v;rw[h13]at e2;refine⟨X,⟨_,_,w⟩,_,e2,h7,Safe.next hs (A.gq rfl) w.tape e,⟨[],rfl⟩,⟨dV E.ρ,?_,λr t hx=>.inl (jg.1 hx),λr t hx=>absurd hx qM⟩,hk⟩;exact px A.stat A.fl A.sum.1 (λe=>A.nC (e▸A.sum.1)) hT (qF E 5 2 X::E.cs++ [wall]) _ K.bi (K.gl A.stat) d1 d2
theorem G7(A:dH L T Goal){E:Entry L}(h7:X 7=.int .u64 a)(hs:Safe Qg Goal ((qF E 5 2 X).finish x) E.cs w):x=.int .u64 a:=by
 rw[wY]at hs;generalize hX5:upd X 9 x=X5 at hs;have f57:X5 7=.int .u64 a:=by rw[<-hX5];exact h7
 have f59:X5 9=x:=by rw[<-hX5];rfl
 have r10:=A.cQ (wR (.int .i64 E.first) (.int .i64 E.n) E.x2 X5 E.cs) (uT (.int .i64 E.first) (.int .i64 E.n) E.x2 X5 E.cs) w;have s9:=Safe.run hs r10;have u7:upd X5 7 (.int .u64 a)=X5:=by rw[<-f57];exact iJ X5 7
 rw[<-u7]at s9;have r11:=A.cQ (xA (.int .i64 E.first) (.int .i64 E.n) E.x2 X5 E.cs a) (zO (.int .i64 E.first) (.int .i64 E.n) E.x2 X5 E.cs a) w;have s10:=Safe.run s9 r11;rw[u7]at s10;generalize hX6:upd X5 18 (.bool (decide (a<0)))=X6 at s10;have f67:X6 7=.int .u64 a:=by rw[<-hX6];exact f57
 have f69:X6 9=x:=by rw[<-hX6];exact f59
 have u9:upd X6 9 x=X6:=by rw[<-f69];exact iJ X6 9
 rw[<-u9]at s10;obtain⟨eb,rfl⟩:=yf _ _ _ _ _ _ _ (A.cM s10 rfl);rw[u9]at s10;have u79:lW a eb X6=X6:=by
  unfold lW;rw[show upd X6 7 (.int .u64 a)=X6 by rw[<-f67];exact iJ X6 7];exact u9
 have r12:=A.cQ (y7 (.int .i64 E.first) (.int .i64 E.n) E.x2 X6 E.cs a eb) (vu (.int .i64 E.first) (.int .i64 E.n) E.x2 X6 E.cs a eb) w;rw[u79]at r12;have s11:=Safe.run s10 r12;have hab:a=eb:=by
  refine Rm λhne=>?_;rw[show (!decide (a=eb))=true by simp[hne]]at s11;have rb:=A.cQ (AO (.int .i64 E.first) (.int .i64 E.n) E.x2 (upd X6 19 (.bool (decide (eb<0)))) E.cs) rfl w;have sb:=Safe.run s11 rb
  have:=A.cM (fr:=pB (.int .i64 E.first) (.int .i64 E.n) E.x2 (upd X6 19 (.bool (decide (eb<0)))) E.cs) sb (BJ ..);rw[vQ]at this;cases this
 rw[hab]
end
end
section
open Go.Conc
open Go.ConcN (upd upd_same upd_ne)
set_option maxRecDepth 100000
def oj(m:Region.Mode)(ops:Array Oper):Nat->Array Bool->List Nat->List (List Nat)
 |0,_,acc=>[acc.reverse]
 |fuel+1,listed,acc=>
  let rs:=(List.range ops.size).filter λi=>!listed.getD i true&&((ops[i]?).map (·.after.all λe=>!Region.binds m e||listed.getD e.on false)).getD false
  if rs.isEmpty then [acc.reverse] else rs.flatMap λi=>oj m ops fuel (listed.setIfInBounds i true) (i::acc)
theorem zG(m:Region.Mode)(ops:Array Oper):∀(fuel t:Nat) (listed:Array Bool) (acc:List Nat),Region.linearise.go m ops fuel t listed acc∈oj m ops fuel listed acc
 |0,_,_,acc=>by simp[Region.linearise.go,oj]
 |fuel+1,t,listed,acc=>by
  simp only[Region.linearise.go,oj];generalize hrs:((List.range ops.size).filter λi=>!listed.getD i true&&((ops[i]?).map (·.after.all λe=>!Region.binds m e||listed.getD e.on false)).getD false)=rs;by_cases h:rs= []
  ·subst h;simp
  ·have hl:0<rs.length:=List.length_pos_iff.2 h;have hm:t%rs.length<rs.length:=Nat.mod_lt _ hl;rw[List.getElem?_eq_getElem hm];have he:rs.isEmpty=false:=by simp[h]
   simp only[he,QF,QC,List.mem_flatMap];exact⟨_,OF hm,zG m ops fuel _ _ _⟩
def kz:Nat->List Nat->Bool
 |0,r=>r.contains 7
 |1,r=>r.contains 6
 |2,r=>r.contains 4
 |3,r=>r.contains 4
 |4,r=>!r.contains 2&&!r.contains 3&&r.contains 5
 |5,r=>!r.contains 4&&r.contains 6
 |6,r=>!r.contains 1&&!r.contains 5&&r.contains 7
 |7,r=>r.isEmpty
 |_,_=>false
def gB:List Nat->Bool
 |[]=>true
 |j::r=>kz j r&&gB r
def whole(l:List Nat):Bool:=gB l&&(List.range 8).all l.contains&&decide (l.length=8)
theorem Hp:(oj .any jK 8 (Array.replicate 8 false) []).all whole=true:=by kernel_rfl
theorem Kb:jK.size=8:=by kernel_rfl
theorem I5(t:Nat):whole (Region.schedule true jK t)=true:=by
 have h:Region.schedule true jK t=Region.linearise .any jK t:=by simp[Region.schedule]
 rw[h]
 have:=zG .any jK 8 t (Array.replicate 8 false) [];unfold Region.linearise;rw[Kb];exact List.all_eq_true.1 Hp _ this
section
variable {α:Type}{R:α->α->Prop}
def kp(R:α->α->Prop)(n:Nat)(f' f:Nat->Option α):Prop:=∃k,k<n/\∃s s',f k=some s/\f' k=some s'/\R s' s/\∀j,j≠k->f' j=f j
theorem rf:∀(n:Nat) (f:Nat->Option α),(∀k,k<n->∀s,f k=some s->Acc R s)->Acc (kp R n) f
 |0,f,_=>Acc.intro _ λf' ⟨k,hk,_⟩=>absurd hk (by omega)
 |n+1,f,h=>by
  have key:∀(x:Option α),(∀s,x=some s->Acc R s)->∀f:Nat->Option α,f n=x->(∀k,k<n->∀s,f k=some s->Acc R s)->Acc (kp R (n+1)) f:=by
   have inner:∀(x:Option α),(∀s s',x=some s->R s' s->∀f:Nat->Option α,f n=some s'->(∀k,k<n->∀s,f k=some s->Acc R s)->Acc (kp R (n+1)) f)->∀f:Nat->Option α,Acc (kp R n) f->f n=x->(∀k,k<n->∀s,f k=some s->Acc R s)->Acc (kp R (n+1)) f:=by
    intro x hx f ha;induction ha with
    |intro f _ ih=>
     intro hf hk;refine Acc.intro _ λf' hs=>?_;obtain⟨k,hkn,s,s',e1,e2,hr,ho⟩:=hs;by_cases hkk:k=n
     ·subst hkk;rw[hf]at e1;refine hx s s' e1 hr f' e2 λj hj u hu=>hk j hj u (by rw[<-ho j (by omega)];exact hu)
     ·refine ih f' ⟨k,by omega,s,s',e1,e2,hr,ho⟩ (by rw[ho n (by omega)];exact hf) λj hj u hu=>?_;by_cases hjk:j=k
      ·subst hjk;rw[e2]at hu;cases hu;exact (hk j hj s e1).inv hr
      ·exact hk j hj u (by rw[<-ho j hjk];exact hu)
   intro x hx f hf hk;cases x with
   |none=>exact inner none (λs s' h=>by cases h) f (rf n f hk) hf hk
   |some s=>
    have hs:=hx s rfl;induction hs generalizing f with
    |intro s _ ih=>
     refine inner (some s) (λs1 s' e hr f' hf' hk'=>?_) f (rf n f hk) hf hk;cases e;exact ih s' hr f' hk' (λu hu=>by cases hu;exact (hx s rfl).inv hr) hf'
  exact key (f n) (λs hs=>h n (by omega) s hs) f rfl λk hk=>h k (by omega)
end
end
section
open Go.Conc
set_option maxRecDepth 100000
section
variable (c:Frame) (cs:List Frame) (wg:Nat)
def jY:Goroutine:={frame:=c.finish unit,callers:=cs,status:=.running,dying:=none}
def pn(g:Goroutine):Goroutine:={g with frame:={g.frame with defers:=[]}}
def iZ(b:Nat):Value:=.pointer (some ⟨b,1,none⟩)
noncomputable def tM:Goroutine:=ou 127 #[ptr wg,.int .i64 1] (c::cs)
theorem Md:aT Pg true 12 (tM c cs wg):=λw=>by kernel_rfl
noncomputable def jy:Goroutine:=az Pg true 12 (tM c cs wg)
theorem Dh(w:World):stepG Pg true (jy c cs wg) w=.go (fin (jy c cs wg) unit) w #[aL .disable]:=by kernel_rfl
theorem LZ:(jy c cs wg).status=.running:=by kernel_rfl
theorem H5:aT Pg true 11 (fin (jy c cs wg) unit):=λw=>by kernel_rfl
noncomputable def nX:Goroutine:=az Pg true 11 (fin (jy c cs wg) unit)
theorem Ks(w:World):stepG Pg true (nX c cs wg) w=.go (fin (nX c cs wg) (.bool false)) w #[]:=by kernel_rfl
theorem Hd:(nX c cs wg).status=.running:=by kernel_rfl
theorem KM:aT Pg true 22 (fin (nX c cs wg) (.bool false)):=λw=>by kernel_rfl
noncomputable def mG:Goroutine:=az Pg true 22 (fin (nX c cs wg) (.bool false))
theorem E5:aA Pg true (11+(1+22)) (fin (jy c cs wg) unit) (mG c cs wg):=(H5 c cs wg).aN.trans ((aA.one (Hd c cs wg) (Ks c cs wg)).trans (KM c cs wg).aN)
theorem Am:aE Pg true (mG c cs wg):=⟨λw=>by kernel_rfl,by kernel_rfl,by kernel_rfl⟩
def more(st:Int):Int:=IntKind.u64.wrap (st+4294967296)
theorem P2(st:Int):feed Pg (aQ (mG c cs wg)) [.val (.int .u64 st)]=some ([.mk (.extern 189),.ld .atomic ⟨wg,0,none⟩,.st .atomic ⟨wg,0,none⟩ (.int .u64 (more st))],.inl (.value (.int .u64 (more st)))):=by kernel_rfl
theorem DJ(a:Addr):seen Pg (mG c cs wg).frame.fn #[aL (.extern 189),⟨.cell a,false,true⟩,⟨.cell a,true,true⟩]=#[⟨.cell a,false,true⟩,⟨.cell a,true,true⟩]:=by kernel_rfl
noncomputable def pV(st:Int):Goroutine:=fin (mG c cs wg) (.int .u64 st)
theorem Gk:aT Pg true 52 (pV c cs wg 4294967296):=λw=>by kernel_rfl
noncomputable def jl:Goroutine:=az Pg true 52 (pV c cs wg 4294967296)
theorem As:aE Pg true (jl c cs wg):=⟨λw=>by kernel_rfl,by kernel_rfl,by kernel_rfl⟩
theorem II:feed Pg (aQ (jl c cs wg)) [ic,ic]=some ([.shp wg,.shp wg],.inl (.value (iZ wg))):=by kernel_rfl
theorem Kr(w:World):stepG Pg true (fin (jl c cs wg) (iZ wg)) w=.go (fin (fin (jl c cs wg) (iZ wg)) unit) w #[aL (.read ⟨wg,1,none⟩)]:=by kernel_rfl
theorem Im:(fin (jl c cs wg) (iZ wg)).status=.running:=by kernel_rfl
theorem Pq:aT Pg true 39 (fin (fin (jl c cs wg) (iZ wg)) unit):=λw=>by kernel_rfl
noncomputable def oN:Goroutine:=az Pg true 39 (fin (fin (jl c cs wg) (iZ wg)) unit)
theorem C8(w:World):stepG Pg true (oN c cs wg) w=.go (pn (oN c cs wg)) w #[aL .enable]:=by kernel_rfl
theorem Nz:(oN c cs wg).status=.running:=by kernel_rfl
theorem CJ:aA Pg true 1 (pn (oN c cs wg)) (jY c cs):=aA.one (by kernel_rfl) λw=>by kernel_rfl
noncomputable def o5(st:Int):Goroutine:=az Pg true 87 (pV c cs wg st)
end
end
section
open Go.Conc
set_option maxRecDepth 100000
section
variable (c:Frame) (cs:List Frame) (wg:Nat) (xs:Nat->Value)
noncomputable def tP:Goroutine:=ou 130 #[ptr wg] (c::cs)
theorem Ls:aT Pg true 3 (tP c cs wg):=λw=>by kernel_rfl
noncomputable def jz:Goroutine:=az Pg true 3 (tP c cs wg)
theorem Jr(w:World):stepG Pg true (jz c cs wg) w=.go (fin (jz c cs wg) unit) w #[aL .disable]:=by kernel_rfl
theorem NI:(jz c cs wg).status=.running:=by kernel_rfl
theorem F3:aT Pg true 3 (fin (jz c cs wg) unit):=λw=>by kernel_rfl
def J7(wg:Nat)(xs:Nat->Value):Array Value:=#[ptr wg,xs 1,xs 2,xs 3,xs 4,xs 5,xs 6,xs 7,xs 8,xs 9,xs 10,xs 11,xs 12,xs 13,xs 14,xs 15,xs 16,xs 17,xs 18,xs 19,xs 20,xs 21,xs 22,xs 23,xs 24,xs 25,xs 26,xs 27,xs 28,xs 29,xs 30,xs 31,xs 32,xs 33,xs 34,xs 35,xs 36,xs 37,xs 38,xs 39,xs 40,xs 41,xs 42,xs 43,xs 44,xs 45,xs 46,xs 47,xs 48,xs 49,xs 50,xs 51,xs 52,xs 53,xs 54,xs 55,xs 56,xs 57,xs 58,xs 59,xs 60,xs 61,xs 62,xs 63,xs 64,xs 65,xs 66,xs 67,xs 68,xs 69,xs 70,xs 71,xs 72,xs 73,xs 74,xs 75,xs 76,xs 77,xs 78,xs 79,xs 80,xs 81,xs 82,xs 83]
noncomputable def rA:Goroutine:={(az Pg true 3 (fin (jz c cs wg) unit)) with frame:={(az Pg true 3 (fin (jz c cs wg) unit)).frame with tmps:=J7 wg xs}}
def rn(g:Goroutine):Nat->Value:=λi=>g.frame.tmps.getD i undef
theorem Ia:az Pg true 3 (fin (jz c cs wg) unit)=rA c cs wg (rn (az Pg true 3 (fin (jz c cs wg) unit))):=by kernel_rfl
theorem xE:aT Pg true 16 (rA c cs wg xs):=λw=>by kernel_rfl
noncomputable def nF:Goroutine:=az Pg true 16 (rA c cs wg xs)
theorem zN:aE Pg true (nF c cs wg xs):=⟨λw=>by kernel_rfl,by kernel_rfl,by kernel_rfl⟩
theorem Co(st:Int):feed Pg (aQ (nF c cs wg xs)) [.val (.int .u64 st)]=some ([.mk (.extern 190),.ld .atomic ⟨wg,0,none⟩],.inl (.value (.int .u64 st))):=by kernel_rfl
theorem Jc(a:Addr):seen Pg (nF c cs wg xs).frame.fn #[aL (.extern 190),⟨.cell a,false,true⟩]=#[⟨.cell a,false,true⟩]:=by kernel_rfl
noncomputable def qg(st:Int):Goroutine:=fin (nF c cs wg xs) (.int .u64 st)
theorem PF:aT Pg true 31 (qg c cs wg xs 0):=λw=>by kernel_rfl
noncomputable def mw:Goroutine:=az Pg true 31 (qg c cs wg xs 0)
theorem Ix(w:World):stepG Pg true (mw c cs wg xs) w=.go (fin (mw c cs wg xs) unit) w #[aL .enable]:=by kernel_rfl
theorem P8:(mw c cs wg xs).status=.running:=by kernel_rfl
theorem Cg:aT Pg true 3 (fin (mw c cs wg xs) unit):=λw=>by kernel_rfl
noncomputable def jH:Goroutine:=az Pg true 3 (fin (mw c cs wg xs) unit)
theorem vt:aE Pg true (jH c cs wg xs):=⟨λw=>by kernel_rfl,by kernel_rfl,by kernel_rfl⟩
theorem Cs:feed Pg (aQ (jH c cs wg xs)) [ic,ic]=some ([.shp wg,.shp wg],.inl (.value (ptr wg))):=by kernel_rfl
theorem Lv(w:World):stepG Pg true (fin (jH c cs wg xs) (ptr wg)) w=.go (fin (fin (jH c cs wg xs) (ptr wg)) unit) w #[aL (.acquire ⟨wg,0,none⟩)]:=by kernel_rfl
theorem JW:(fin (jH c cs wg xs) (ptr wg)).status=.running:=by kernel_rfl
theorem Oj:aT Pg true 20 (fin (fin (jH c cs wg xs) (ptr wg)) unit):=λw=>by kernel_rfl
theorem Oy:az Pg true 20 (fin (fin (jH c cs wg xs) (ptr wg)) unit)=jY c cs:=by kernel_rfl
end
end
section
open Go.Conc
set_option maxRecDepth 100000
section
variable (c:Frame) (cs:List Frame) (wg:Nat) (xs:Nat->Value)
noncomputable def lL(st:Int):Goroutine:=az Pg true 48 (qg c cs wg xs st)
noncomputable def yX(st:Int):Goroutine:=fin (lL c cs wg xs st) (.bool true)
noncomputable def AJ(st:Int):Goroutine:=fin (lL c cs wg xs st) (.bool false)
noncomputable def qw(st:Int):Goroutine:=az Pg true 19 (yX c cs wg xs st)
noncomputable def nJ(st:Int):Goroutine:=fin (qw c cs wg xs st) (iZ wg)
noncomputable def ig:Goroutine:=we Pg 130 19 4 (#[ptr wg,xs 1,xs 2,xs 3,xs 4,xs 5,xs 6,xs 7,xs 8,xs 9,xs 10,xs 11,xs 12,xs 13,xs 14,xs 15,xs 16,xs 17,xs 18,xs 19,xs 20,xs 21,xs 22,xs 23,xs 24,xs 25,xs 26,xs 27,xs 28,xs 29,xs 30,xs 31,xs 32,xs 33,xs 34,xs 35,xs 36,xs 37,xs 38,xs 39,xs 40,xs 41,xs 42,xs 43,xs 44,xs 45,xs 46,xs 47,xs 48,xs 49,xs 50,xs 51,xs 52,xs 53,xs 54,xs 55,xs 56,xs 57,xs 58,xs 59,xs 60,xs 61,xs 62,xs 63,xs 64,xs 65,xs 66,xs 67,xs 68,xs 69,iZ wg,.bool false,xs 72,xs 73,xs 74,xs 75,xs 76,xs 77,xs 78,xs 79,xs 80,xs 81,xs 82,xs 83]) (c::cs)
theorem AE(a:Addr):seen Pg 171 #[aL (.extern 192),⟨.cell a,false,true⟩,⟨.cell a,true,true⟩]=#[⟨.cell a,false,true⟩,⟨.cell a,true,true⟩]/\seen Pg 171 #[aL (.extern 192),⟨.cell a,false,true⟩]=#[⟨.cell a,false,true⟩]:=⟨by kernel_rfl,by kernel_rfl⟩
theorem sN:aE Pg true (ig c cs wg xs):=⟨λw=>by kernel_rfl,by kernel_rfl,by kernel_rfl⟩
theorem Dz:feed Pg (aQ (ig c cs wg xs)) [.val (.int .u32 0)]=some ([.mk (.extern 173),.mk .disable,.ld .atomic ⟨wg,1,none⟩],.inr .blocked):=by kernel_rfl
theorem F1:feed Pg (aQ (ig c cs wg xs)) [.val (.int .u32 1)]=some ([.mk (.extern 173),.mk .disable,.ld .atomic ⟨wg,1,none⟩,.st .atomic ⟨wg,1,none⟩ (.int .u32 0),.mk .enable],.inl (.value unit)):=by kernel_rfl
theorem Ex(a:Addr):seen Pg 130 #[aL (.extern 173),aL .disable,⟨.cell a,false,true⟩,⟨.cell a,true,true⟩,aL .enable]=#[aL .disable,⟨.cell a,false,true⟩,⟨.cell a,true,true⟩,aL .enable]/\seen Pg 130 #[]=#[]:=⟨by kernel_rfl,by kernel_rfl⟩
theorem Me:aT Pg true 16 (fin (ig c cs wg xs) unit):=λw=>by kernel_rfl
noncomputable def mA:Goroutine:=az Pg true 16 (fin (ig c cs wg xs) unit)
theorem AX:aE Pg true (mA c cs wg xs):=⟨λw=>by kernel_rfl,by kernel_rfl,by kernel_rfl⟩
theorem G8:feed Pg (aQ (mA c cs wg xs)) [.val (.int .u64 0)]=some ([.mk (.extern 190),.ld .atomic ⟨wg,0,none⟩],.inl (.value (.int .u64 0))):=by kernel_rfl
theorem MJ(a:Addr):seen Pg (mA c cs wg xs).frame.fn #[aL (.extern 190),⟨.cell a,false,true⟩]=#[⟨.cell a,false,true⟩]:=by kernel_rfl
theorem Iy:aT Pg true 11 (fin (mA c cs wg xs) (.int .u64 0)):=λw=>by kernel_rfl
noncomputable def mu:Goroutine:=az Pg true 11 (fin (mA c cs wg xs) (.int .u64 0))
theorem Jq(w:World):stepG Pg true (mu c cs wg xs) w=.go (fin (mu c cs wg xs) unit) w #[aL .enable]:=by kernel_rfl
theorem Ps:(mu c cs wg xs).status=.running:=by kernel_rfl
theorem EK:aT Pg true 3 (fin (mu c cs wg xs) unit):=λw=>by kernel_rfl
noncomputable def jq:Goroutine:=az Pg true 3 (fin (mu c cs wg xs) unit)
theorem zP:aE Pg true (jq c cs wg xs):=⟨λw=>by kernel_rfl,by kernel_rfl,by kernel_rfl⟩
theorem MT:feed Pg (aQ (jq c cs wg xs)) [ic,ic]=some ([.shp wg,.shp wg],.inl (.value (ptr wg))):=by kernel_rfl
theorem Pr(w:World):stepG Pg true (fin (jq c cs wg xs) (ptr wg)) w=.go (fin (fin (jq c cs wg xs) (ptr wg)) unit) w #[aL (.acquire ⟨wg,0,none⟩)]:=by kernel_rfl
theorem CM:(fin (jq c cs wg xs) (ptr wg)).status=.running:=by kernel_rfl
end
end
section
open Go.Conc
open Go.ConcN (upd)
set_option maxRecDepth 100000
structure Mn extends Pl where
 first:Int
 count:Int
 fn:Fn
 ca:Array Value
 cb:Array Value
def Mn.fB(M:Mn):Value:=.func M.fn M.ca M.cb
def mT(M:Mn)(xs:Nat->Value):Array Value:=#[.int .i64 M.first,.int .i64 M.count,M.fB,xs 3,xs 4,ptr M.bT,xs 6,ptr M.bN,ptr M.bB,ptr M.wg,xs 10,xs 11,xs 12,xs 13,xs 14,xs 15,xs 16,xs 17,xs 18,xs 19,xs 20,xs 21,xs 22,xs 23,xs 24,xs 25,xs 26,xs 27,xs 28,xs 29,xs 30,xs 31,xs 32,xs 33,xs 34,xs 35,xs 36,xs 37,xs 38,xs 39,xs 40,xs 41,xs 42,xs 43,xs 44,xs 45,xs 46,xs 47,xs 48,xs 49,xs 50]
noncomputable def gM(M:Mn)(id n:Nat)(xs:Nat->Value)(cs:List Frame):Goroutine:=we Pg 95 id n (mT M xs) cs
section
variable (M:Mn) (xs:Nat->Value) (c:Frame) (cs:List Frame)
noncomputable def m0:Goroutine:=ou 95 #[.int .i64 M.first,.int .i64 M.count,M.fB] (c::cs)
theorem CY:aT Pg true 2 (m0 M c cs):=λw=>by kernel_rfl
noncomputable def kg:Goroutine:=az Pg true 2 (m0 M c cs)
theorem ES:aE Pg true (kg M c cs):=⟨λw=>by kernel_rfl,by kernel_rfl,by kernel_rfl⟩
theorem Hg(r:Nat):feed Pg (aQ (kg M c cs)) [.ref r]=some ([.nw (.cells #[M.fB] 98)],.inl (.value (ptr r))):=by kernel_rfl
theorem PD:aT Pg true 5 (fin (kg M c cs) (ptr M.bT)):=λw=>by kernel_rfl
noncomputable def oG:Goroutine:=az Pg true 5 (fin (kg M c cs) (ptr M.bT))
theorem En:aE Pg true (oG M c cs):=⟨λw=>by kernel_rfl,by kernel_rfl,by kernel_rfl⟩
noncomputable def nP:Goroutine:=fin (oG M c cs) (.chan (some M.cN))
theorem M1:aE Pg true (nP M c cs):=⟨λw=>by kernel_rfl,by kernel_rfl,by kernel_rfl⟩
theorem Kt(r:Nat):feed Pg (aQ (nP M c cs)) [.ref r]=some ([.nw (.cells #[.chan none] 197)],.inl (.value (ptr r))):=by kernel_rfl
noncomputable def jd:Goroutine:=fin (nP M c cs) (ptr M.bN)
theorem JZ:aE Pg true (jd M c cs):=⟨λw=>by kernel_rfl,by kernel_rfl,by kernel_rfl⟩
theorem Cl:feed Pg (aQ (jd M c cs)) []=some ([.st .plain ⟨M.bN,0,none⟩ (.chan (some M.cN))],.inl .skip):=by kernel_rfl
theorem D8:aT Pg true 4 (fin (jd M c cs) unit):=λw=>by kernel_rfl
noncomputable def oH:Goroutine:=az Pg true 4 (fin (jd M c cs) unit)
theorem Dc:aE Pg true (oH M c cs):=⟨λw=>by kernel_rfl,by kernel_rfl,by kernel_rfl⟩
noncomputable def oL:Goroutine:=fin (oH M c cs) (.chan (some M.cB))
theorem C0:aE Pg true (oL M c cs):=⟨λw=>by kernel_rfl,by kernel_rfl,by kernel_rfl⟩
theorem G9(r:Nat):feed Pg (aQ (oL M c cs)) [.ref r]=some ([.nw (.cells #[.chan none] 198)],.inl (.value (ptr r))):=by kernel_rfl
noncomputable def jJ:Goroutine:=fin (oL M c cs) (ptr M.bB)
theorem Mi:aE Pg true (jJ M c cs):=⟨λw=>by kernel_rfl,by kernel_rfl,by kernel_rfl⟩
theorem DN:feed Pg (aQ (jJ M c cs)) []=some ([.st .plain ⟨M.bB,0,none⟩ (.chan (some M.cB))],.inl .skip):=by kernel_rfl
theorem Ny:aT Pg true 3 (fin (jJ M c cs) unit):=λw=>by kernel_rfl
noncomputable def oC:Goroutine:=az Pg true 3 (fin (jJ M c cs) unit)
theorem PB:aE Pg true (oC M c cs):=⟨λw=>by kernel_rfl,by kernel_rfl,by kernel_rfl⟩
theorem Gw(r:Nat):feed Pg (aQ (oC M c cs)) [.ref r]=some ([.nw (.cells #[.int .u64 0,.int .u32 0] 206)],.inl (.value (ptr r))):=by kernel_rfl
noncomputable def pa:Goroutine:=fin (oC M c cs) (ptr M.wg)
end
def Iv(_:Mn)(n i:Int)(xs:Nat->Value):Nat->Value:=upd (upd xs 18 (.int .i64 n)) 19 (.int .i64 i)
def ko(g:Goroutine):Nat->Value:=λi=>g.frame.tmps.getD i undef
section
variable (M:Mn) (xs:Nat->Value) (cs:List Frame)
noncomputable def fW(n i:Int):Goroutine:=gM M 5 0 (Iv M n i xs) cs
noncomputable def qD(n i:Int):Frame:=(az Pg true 9 (fW M xs cs n i)).frame
noncomputable def iC(n i:Int):Goroutine:=az Pg true 3 (jY (qD M xs cs n i) cs)
theorem nB{n:Nat}{g g':Goroutine}(h:aT Pg true n g)(e:az Pg true n g=g'):aA Pg true n g g':=e▸h.aN
theorem oZ{n i:Nat}(h:(n=1\/n=4)/\i<n):(n=1/\i=0)\/(n=4/\i=0)\/(n=4/\i=1)\/(n=4/\i=2)\/(n=4/\i=3):=by omega
variable {n i:Nat} (h:(n=1\/n=4)/\i<n)
include h
theorem CB:aA Pg true 10 (fW M xs cs n i) (tM (qD M xs cs n i) cs M.wg):=by
 rcases oZ h with⟨rfl,rfl⟩|⟨rfl,rfl⟩|⟨rfl,rfl⟩|⟨rfl,rfl⟩|⟨rfl,rfl⟩<;>exact nB (λw=>by kernel_rfl) (by kernel_rfl)
theorem It:aA Pg true 3 (jY (qD M xs cs n i) cs) (iC M xs cs n i):=by
 rcases oZ h with⟨rfl,rfl⟩|⟨rfl,rfl⟩|⟨rfl,rfl⟩|⟨rfl,rfl⟩|⟨rfl,rfl⟩<;>exact nB (λw=>by kernel_rfl) rfl
theorem M0(w:World):stepG Pg true (iC M xs cs n i) w=.spawn (fin (iC M xs cs n i) unit) (jV M.toPl) w #[]:=by
 rcases oZ h with⟨rfl,rfl⟩|⟨rfl,rfl⟩|⟨rfl,rfl⟩|⟨rfl,rfl⟩|⟨rfl,rfl⟩<;>kernel_rfl
theorem EU:(iC M xs cs n i).status=.running:=by
 rcases oZ h with⟨rfl,rfl⟩|⟨rfl,rfl⟩|⟨rfl,rfl⟩|⟨rfl,rfl⟩|⟨rfl,rfl⟩<;>kernel_rfl
theorem F2: ∃xs',aA Pg true 9 (fin (iC M xs cs n i) unit) (fW M xs' cs n ((i+1:Nat):Int)):=by
 refine⟨ko (az Pg true 9 (fin (iC M xs cs n i) unit)),?_⟩;rcases oZ h with⟨rfl,rfl⟩|⟨rfl,rfl⟩|⟨rfl,rfl⟩|⟨rfl,rfl⟩|⟨rfl,rfl⟩<;>exact nB (λw=>by kernel_rfl) (by kernel_rfl)
end
end
section
open Go.Conc
open Go.ConcN (upd)
set_option maxRecDepth 100000
section
variable (c:Frame) (cs:List Frame) (wg:Nat) (xs:Nat->Value)
theorem Lk:aT Pg true 10 (fin (fin (jq c cs wg xs) (ptr wg)) unit):=λw=>by kernel_rfl
theorem LR:az Pg true 10 (fin (fin (jq c cs wg xs) (ptr wg)) unit)=jY c cs:=by kernel_rfl
end
section
variable (M:Mn) (xs:Nat->Value) (cs:List Frame) (j:Int)
def yc(M:Mn)(j:Int)(xs:Nat->Value):Nat->Value:=upd (upd xs 24 (.int .i64 M.count)) 25 (.int .i64 j)
noncomputable def jS:Goroutine:=gM M 10 0 (yc M j xs) cs
theorem J8:aT Pg true 15 (fW M xs cs 1 1):=λw=>by kernel_rfl
theorem PH:aT Pg true 15 (fW M xs cs 4 4):=λw=>by kernel_rfl
theorem MF:az Pg true 15 (fW M xs cs 1 1)=jS M (ko (az Pg true 15 (fW M xs cs 1 1))) cs 0:=by kernel_rfl
theorem LL:az Pg true 15 (fW M xs cs 4 4)=jS M (ko (az Pg true 15 (fW M xs cs 4 4))) cs 0:=by kernel_rfl
noncomputable def nZ(b:Bool):Goroutine:=gM M 10 1 (upd (yc M j xs) 26 (.bool b)) cs
theorem Hi:aT Pg true 1 (jS M xs cs j):=λw=>by kernel_rfl
theorem Er:az Pg true 1 (jS M xs cs j)=nZ M xs cs j (decide (j<M.count)):=by kernel_rfl
theorem Dv:aT Pg true 12 (nZ M xs cs j true):=λw=>by kernel_rfl
noncomputable def kJ:Goroutine:=az Pg true 12 (nZ M xs cs j true)
theorem A4:aE Pg true (kJ M xs cs j):=⟨λw=>by kernel_rfl,by kernel_rfl,by kernel_rfl⟩
theorem MS(v:Value):feed Pg (aQ (kJ M xs cs j)) [.val v]=some ([.ld .plain ⟨M.bN,0,none⟩],.inl (.value v)):=by kernel_rfl
theorem I2:(kJ M xs cs j).frame.fn=95:=by kernel_rfl
theorem PE:aT Pg true 3 (fin (kJ M xs cs j) (.chan (some M.cN))):=λw=>by kernel_rfl
noncomputable def gf:Goroutine:=az Pg true 3 (fin (kJ M xs cs j) (.chan (some M.cN)))
theorem vY:aE Pg true (gf M xs cs j):=⟨λw=>by kernel_rfl,by kernel_rfl,by kernel_rfl⟩
def qP(M:Mn)(j:Int):Array CommCase:=#[{chan:=.chan (some M.cN),send:=some (.int .i64 (IntKind.i64.wrap (M.first+j))),zero:=.tuple #[]}]
theorem NK:feed Pg (aQ (gf M xs cs j)) []=some ([],.inl (.comm (qP M j) true .send)):=by kernel_rfl
noncomputable def kM:Goroutine:=(gf M xs cs j).finishComm Pg (qP M j) .send 0 undef false
theorem EI:aT Pg true 9 (kM M xs cs j):=λw=>by kernel_rfl
theorem Kg:az Pg true 9 (kM M xs cs j)=jS M (ko (az Pg true 9 (kM M xs cs j))) cs (IntKind.i64.wrap (j+1)):=by kernel_rfl
theorem Lr:aT Pg true 6 (nZ M xs cs j false):=λw=>by kernel_rfl
noncomputable def mU:Goroutine:=az Pg true 6 (nZ M xs cs j false)
theorem wH:aE Pg true (mU M xs cs j):=⟨λw=>by kernel_rfl,by kernel_rfl,by kernel_rfl⟩
theorem D6(v:Value):feed Pg (aQ (mU M xs cs j)) [.val v]=some ([.ld .plain ⟨M.bN,0,none⟩],.inl (.value v)):=by kernel_rfl
theorem Js:(mU M xs cs j).frame.fn=95:=by kernel_rfl
noncomputable def gK:Goroutine:=fin (mU M xs cs j) (.chan (some M.cN))
theorem wV:aE Pg true (gK M xs cs j):=⟨λw=>by kernel_rfl,by kernel_rfl,by kernel_rfl⟩
theorem IK(a:Nat)(b:Array Value)(s r:Nat)(tm:Bool):feed Pg (aQ (gK M xs cs j)) [.obj (.chan a b false s r tm)]=some ([.gt M.cN,.pt M.cN (.chan a b true s r tm)],.inl (.value unit)):=by kernel_rfl
theorem L4:(gK M xs cs j).frame.fn=95:=by kernel_rfl
theorem JX:mayWake Pg (gK M xs cs j)=true:=by kernel_rfl
theorem K4:aT Pg true 4 (fin (gK M xs cs j) unit):=λw=>by kernel_rfl
noncomputable def tC:Frame:=(az Pg true 3 (fin (gK M xs cs j) unit)).frame
theorem DG:az Pg true 4 (fin (gK M xs cs j) unit)=tP (tC M xs cs j) cs M.wg:=by kernel_rfl
theorem pq(b:Nat):seen Pg 95 #[⟨.cell ⟨b,0,none⟩,false,false⟩]=#[⟨.cell ⟨b,0,none⟩,false,false⟩]:=by kernel_rfl
theorem rR(a:Addr):seen Pg 95 #[⟨.cell a,true,false⟩]=#[⟨.cell a,true,false⟩]:=by kernel_rfl
theorem yE(r:Nat):seen Pg 95 #[⟨.obj r,false,true⟩,⟨.obj r,true,true⟩]=#[⟨.obj r,false,true⟩,⟨.obj r,true,true⟩]:=by kernel_rfl
theorem Qr(a b:Addr):seen Pg 95 #[⟨.cell a,true,false⟩,⟨.cell b,true,false⟩]=#[⟨.cell a,true,false⟩,⟨.cell b,true,false⟩]:=by kernel_rfl
theorem yQ(a:Addr):seen Pg 95 #[⟨.cell a,false,false⟩]=#[⟨.cell a,false,false⟩]:=by kernel_rfl
end
end
section
open Go.Conc
open Go.ConcN (upd)
set_option maxRecDepth 100000
section
variable (M:Mn) (xs:Nat->Value) (cs:List Frame) (j:Int)
noncomputable def mB:Goroutine:=jY (tC M xs cs j) cs
theorem xI:aT Pg true 3 (mB M xs cs j):=λw=>by kernel_rfl
noncomputable def j7:Goroutine:=az Pg true 3 (mB M xs cs j)
theorem zk:aE Pg true (j7 M xs cs j):=⟨λw=>by kernel_rfl,by kernel_rfl,by kernel_rfl⟩
theorem Qq(v:Value):feed Pg (aQ (j7 M xs cs j)) [.val v]=some ([.ld .plain ⟨M.bB,0,none⟩],.inl (.value v)):=by kernel_rfl
theorem Et:(j7 M xs cs j).frame.fn=95:=by kernel_rfl
noncomputable def jc:Goroutine:=fin (j7 M xs cs j) (.chan (some M.cB))
theorem Fp:aE Pg true (jc M xs cs j):=⟨λw=>by kernel_rfl,by kernel_rfl,by kernel_rfl⟩
theorem LG(a:Nat)(b:Array Value)(s r:Nat)(tm:Bool):feed Pg (aQ (jc M xs cs j)) [.obj (.chan a b false s r tm)]=some ([.gt M.cB,.pt M.cB (.chan a b true s r tm)],.inl (.value unit)):=by kernel_rfl
theorem Km:(jc M xs cs j).frame.fn=95:=by kernel_rfl
theorem O8:aT Pg true 4 (fin (jc M xs cs j) unit):=λw=>by kernel_rfl
noncomputable def kj:Goroutine:=az Pg true 4 (fin (jc M xs cs j) unit)
theorem Jm:aE Pg true (kj M xs cs j):=⟨λw=>by kernel_rfl,by kernel_rfl,by kernel_rfl⟩
end
section
variable (M:Mn) (xs:Nat->Value) (cs:List Frame) (j:Int) (d n:Nat)
def gT(d n:Nat):Value:=.slice (some ⟨d,0,none⟩) n n
theorem GL:aT Pg true 5 (fin (kj M xs cs j) (gT d n)):=λw=>by kernel_rfl
noncomputable def jG:Goroutine:=az Pg true 5 (fin (kj M xs cs j) (gT d n))
theorem CS:aE Pg true (jG M xs cs j d n):=⟨λw=>by kernel_rfl,by kernel_rfl,by kernel_rfl⟩
theorem PQ(v:Value):feed Pg (aQ (jG M xs cs j d n)) [.val v]=some ([.ld .plain ⟨M.bB,0,none⟩],.inl (.value v)):=by kernel_rfl
theorem E6:(jG M xs cs j d n).frame.fn=95:=by kernel_rfl
theorem OA:aT Pg true 5 (fin (jG M xs cs j d n) (.chan (some M.cB))):=λw=>by kernel_rfl
def MA(M:Mn)(d n:Nat)(xs:Nat->Value):Nat->Value:=upd (upd xs 38 (.chan (some M.cB))) 11 (gT d n)
noncomputable def eJ:Goroutine:=gM M 19 0 (MA M d n xs) cs
theorem Lh:az Pg true 5 (fin (jG M xs cs j d n) (.chan (some M.cB)))=eJ M (ko (az Pg true 5 (fin (jG M xs cs j d n) (.chan (some M.cB))))) cs d n:=by kernel_rfl
theorem qi:aE Pg true (eJ M xs cs d n):=⟨λw=>by kernel_rfl,by kernel_rfl,by kernel_rfl⟩
def zF:Value:=.agg #[.int .i64 0,.int .u64 0]
def sA(M:Mn):Array CommCase:=#[{chan:=.chan (some M.cB),send:=none,zero:=zF}]
theorem yL:feed Pg (aQ (eJ M xs cs d n)) []=some ([],.inl (.comm (sA M) true (.recv true))):=by kernel_rfl
noncomputable def qQ(s e:Int):Goroutine:=(eJ M xs cs d n).finishComm Pg (sA M) (.recv true) 0 (.agg #[.int .i64 s,.int .u64 e]) true
variable (s e:Int) (r:Nat)
theorem Nt:aT Pg true 9 (qQ M xs cs d n s e):=λw=>by kernel_rfl
noncomputable def oA:Goroutine:=az Pg true 9 (qQ M xs cs d n s e)
theorem FN:aE Pg true (oA M xs cs d n s e):=⟨λw=>by kernel_rfl,by kernel_rfl,by kernel_rfl⟩
theorem Ed:feed Pg (aQ (oA M xs cs d n s e)) [.ref r]=some ([.nw (.cells #[.int .i64 0,.int .u64 0] 209)],.inl (.value (ptr r))):=by kernel_rfl
noncomputable def ju:Goroutine:=fin (oA M xs cs d n s e) (ptr r)
theorem I9:aE Pg true (ju M xs cs d n s e r):=⟨λw=>by kernel_rfl,by kernel_rfl,by kernel_rfl⟩
theorem OV:feed Pg (aQ (ju M xs cs d n s e r)) []=some ([.st .plain ⟨r,0,none⟩ (.int .i64 s),.st .plain ⟨r,1,none⟩ (.int .u64 e)],.inl .skip):=by kernel_rfl
theorem J5:(ju M xs cs d n s e r).frame.fn=95:=by kernel_rfl
theorem JR:aT Pg true 4 (fin (ju M xs cs d n s e r) unit):=λw=>by kernel_rfl
noncomputable def jv:Goroutine:=az Pg true 4 (fin (ju M xs cs d n s e r) unit)
theorem NA:aE Pg true (jv M xs cs d n s e r):=⟨λw=>by kernel_rfl,by kernel_rfl,by kernel_rfl⟩
theorem K0(v:Value):feed Pg (aQ (jv M xs cs d n s e r)) [.val v]=some ([.ld .plain ⟨r,0,none⟩],.inl (.value v)):=by kernel_rfl
theorem Pm:(jv M xs cs d n s e r).frame.fn=95:=by kernel_rfl
theorem O7:aT Pg true 3 (fin (jv M xs cs d n s e r) (.int .i64 s)):=λw=>by kernel_rfl
noncomputable def mi:Goroutine:=az Pg true 3 (fin (jv M xs cs d n s e r) (.int .i64 s))
theorem Jf:aE Pg true (mi M xs cs d n s e r):=⟨λw=>by kernel_rfl,by kernel_rfl,by kernel_rfl⟩
theorem GG(v:Value):feed Pg (aQ (mi M xs cs d n s e r)) [.val v]=some ([.ld .plain ⟨r,1,none⟩],.inl (.value v)):=by kernel_rfl
theorem NX:(mi M xs cs d n s e r).frame.fn=95:=by kernel_rfl
noncomputable def mP:Goroutine:=fin (mi M xs cs d n s e r) (.int .u64 e)
theorem HJ:aE Pg true (mP M xs cs d n s e r):=⟨λw=>by kernel_rfl,by kernel_rfl,by kernel_rfl⟩
theorem JF:aQ (mP M xs cs d n s e r)=(Instr.indexAt 158 (gT d n) (.int .i64 (IntKind.i64.wrap (s-M.first))) >>=λv=>pure (.value v)):=by kernel_rfl
variable (k:Nat)
noncomputable def jk:Goroutine:=fin (mP M xs cs d n s e r) (.pointer (some ⟨d,k,none⟩))
theorem Fc:aE Pg true (jk M xs cs d n s e r k):=⟨λw=>by kernel_rfl,by kernel_rfl,by kernel_rfl⟩
theorem He:feed Pg (aQ (jk M xs cs d n s e r k)) []=some ([.st .plain ⟨d,k,none⟩ (.int .u64 e)],.inl .skip):=by kernel_rfl
theorem I8:(jk M xs cs d n s e r k).frame.fn=95:=by kernel_rfl
theorem EP:aT Pg true 5 (fin (jk M xs cs d n s e r k) unit):=λw=>by kernel_rfl
theorem LA:az Pg true 5 (fin (jk M xs cs d n s e r k) unit)=eJ M (ko (az Pg true 5 (fin (jk M xs cs d n s e r k) unit))) cs d n:=by kernel_rfl
end
section
variable (M:Mn) (xs:Nat->Value) (c:Frame) (cs:List Frame) (d n:Nat)
noncomputable def mZ:Goroutine:=(eJ M xs (c::cs) d n).finishComm Pg (sA M) (.recv true) 0 zF false
theorem JI:aT Pg true 12 (mZ M xs c cs d n):=λw=>by kernel_rfl
theorem Lb:az Pg true 12 (mZ M xs c cs d n)= {frame:=c.finish (gT d n),callers:=cs,status:=.running,dying:=none}:=by kernel_rfl
end
end
section
open Go.Conc
open Go.ConcN (upd upd_same upd_ne sumTo sumTo_upd sumTo_congr RelBy)
section
variable {Λ:lX}{Sh live Wk:Nat->Prop}{B:Nat}{t u:Trace}
theorem TP.still(h:TP Λ Sh live Wk B t):∀(l:List MemOp),(∀op∈l,op.act.touch?=none)->(∀op∈l,op.act.low B)->TP Λ Sh live Wk B (t++l.toArray):=by
 intro l;induction l generalizing t with
 |nil=>intro _ _;simpa using h
 |cons x l ih=>
  intro hn hl;have e:t++(x::l).toArray=(t++#[x])++l.toArray:=by apply Array.ext';simp
  rw[e];refine ih (h.mute (k:=x.g) (λop hop=>by simp at hop;rw[hop]) (λop hop=>by simp at hop;rw[hop];exact hn x (by simp)) (λop hop=>by simp at hop;rw[hop];exact hl x (by simp))) (λop hop=>hn op (by simp[hop])) (λop hop=>hl op (by simp[hop]))
theorem RelBy.still{a:Addr}{k r:Nat}(h:RelBy a t k r)(hn:∀op∈u,op.act.touch?=none):RelBy a (t++u) k r:=by
 refine h.app λi hi _ hc=>?_;obtain⟨x,hx,_⟩:=hc;obtain⟨op,hop,hox⟩:=touch_of hx;rcases getElem?_append_cases hop with⟨hlt,_⟩|⟨_,hou⟩
 ·omega
 ·rw[hn op hou]at hox;cases hox
def mR(x:MemAct):Prop:=x≠.mark .disable/\x≠.mark .enable
theorem kN(t:Trace)(g:Nat):∀(l:List MemOp),(∀op∈l,mR op.act)->Deaf (t++l.toArray) g=Deaf t g:=by
 intro l hl;rw[Deaf_append];have:∀(l:List MemOp) (d:Nat),(∀op∈l,mR op.act)->l.foldl (deafStep g) d=d:=by
  intro l;induction l with
  |nil=>intro d _;rfl
  |cons y l ih=>
   intro d h;rw[List.foldl_cons];have hy:deafStep g d y=d:=by
    have:=h y (by simp);unfold deafStep;split
    ·rename_i e;exact absurd e this.1
    ·rename_i e;exact absurd e this.2
    ·rfl
   rw[hy];exact ih d λop hop=>h op (by simp[hop])
 exact this l _ hl
end
end
end Go.Proofs.YtldmcdeibiclkaaGreat.U
