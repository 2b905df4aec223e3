/-
  Toward settled_holds: THE LONE ONE's tree.ofSegments: its steps, on.
-/
import Derived.Test.YtldmcdeibiclkaaGreatDoorC06
import Derived.Test.YtldmcdeibiclkaaGreatDoorRows
set_option linter.unusedVariables false
set_option linter.unusedSimpArgs false
set_option maxRecDepth 100000
set_option maxHeartbeats 20000000
namespace Go.Proofs.YtldmcdeibiclkaaGreatDoor.U
variable {w v:World}{d r s:Nat}{D:List Frame}{ow:Nat->Prop}{g:Goroutine}{τ:ai}{y:Value}{f:FuncId}{ys:Array Value}{m:Int}
section
open Go.Conc
open Go.ConcN (upd)
set_option maxRecDepth 100000
def eQ(d n:Nat):Value:= .slice (some ⟨d,0,none⟩) n n
section
variable (x0 x1 x2:Value) (a n i:Int) (xs:Nat->Value) (cs:List Frame) (b1 b2 b3 b4:Bool)
theorem R3:eN Qg fQ 6 (frQ 0 6 (qT x0 x1 x2 (iq true b2 b3 b4 xs))) cs:=⟨λw=>by kernel_rfl,by kernel_rfl,by kernel_rfl⟩
theorem U7:(aE Qg true 6 (lg (frQ 0 6 (qT x0 x1 x2 (iq true b2 b3 b4 xs))) cs)).frame=frQ 1 0 (qT x0 x1 x2 (iq true b2 b3 b4 xs)):=by kernel_rfl
theorem Om:eN Qg fQ 7 (frQ 0 6 (qT x0 x1 x2 (iq false true b3 b4 xs))) cs:=⟨λw=>by kernel_rfl,by kernel_rfl,by kernel_rfl⟩
theorem Jg:(aE Qg true 7 (lg (frQ 0 6 (qT x0 x1 x2 (iq false true b3 b4 xs))) cs)).frame=frQ 1 0 (qT x0 x1 x2 (iq false true b3 b4 xs)):=by kernel_rfl
theorem Mr:eN Qg fQ 8 (frQ 0 6 (qT x0 x1 x2 (iq false false true b4 xs))) cs:=⟨λw=>by kernel_rfl,by kernel_rfl,by kernel_rfl⟩
theorem Vv:(aE Qg true 8 (lg (frQ 0 6 (qT x0 x1 x2 (iq false false true b4 xs))) cs)).frame=frQ 1 0 (qT x0 x1 x2 (iq false false true b4 xs)):=by kernel_rfl
theorem OG:eN Qg fQ 9 (frQ 0 6 (qT x0 x1 x2 (iq false false false true xs))) cs:=⟨λw=>by kernel_rfl,by kernel_rfl,by kernel_rfl⟩
theorem KM:(aE Qg true 9 (lg (frQ 0 6 (qT x0 x1 x2 (iq false false false true xs))) cs)).frame=frQ 1 0 (qT x0 x1 x2 (iq false false false true xs)):=by kernel_rfl
theorem KQ:eN Qg fQ 6 (frQ 0 6 (qT x0 x1 x2 (iq false false false false xs))) cs:=⟨λw=>by kernel_rfl,by kernel_rfl,by kernel_rfl⟩
noncomputable def vS:Frame:=(aE Qg true 6 (lg (frQ 0 6 (qT x0 x1 x2 (iq false false false false xs))) cs)).frame
theorem Qq(w:World):dW (stepG Qg true (lg (vS x0 x1 x2 xs cs) cs) w)=false:=by kernel_rfl
theorem Vd:(vS x0 x1 x2 xs cs).fn=fQ:=by kernel_rfl
theorem Lq:aI Qg true (lg (frQ 1 0 (qT x0 x1 x2 xs)) cs):=⟨λw=>by kernel_rfl,by kernel_rfl,by kernel_rfl⟩
theorem Ql(r:Nat):feed Qg (aY (lg (frQ 1 0 (qT x0 (.int .i64 1) x2 xs)) cs)) [.ref r]=some ([.nw (.cells (Array.replicate 1 (.int .u64 0)) 44)],.inl (.value (eQ r 1))):=by kernel_rfl
theorem To(r:Nat):feed Qg (aY (lg (frQ 1 0 (qT x0 (.int .i64 4) x2 xs)) cs)) [.ref r]=some ([.nw (.cells (Array.replicate 4 (.int .u64 0)) 44)],.inl (.value (eQ r 4))):=by kernel_rfl
theorem PW(r:Nat):feed Qg (aY (lg (frQ 1 0 (qT x0 (.int .i64 16) x2 xs)) cs)) [.ref r]=some ([.nw (.cells (Array.replicate 16 (.int .u64 0)) 44)],.inl (.value (eQ r 16))):=by kernel_rfl
theorem JI(r:Nat):feed Qg (aY (lg (frQ 1 0 (qT x0 (.int .i64 64) x2 xs)) cs)) [.ref r]=some ([.nw (.cells (Array.replicate 64 (.int .u64 0)) 44)],.inl (.value (eQ r 64))):=by kernel_rfl
theorem Tc(v:Value):(frQ 1 0 (qT x0 x1 x2 xs)).finish v=frQ 1 1 (qT x0 x1 x2 (upd xs 6 v)):=by kernel_rfl
theorem JZ:eN Qg fQ 7 (frQ 1 1 (qT x0 x1 x2 xs)) cs:=⟨λw=>by kernel_rfl,by kernel_rfl,by kernel_rfl⟩
theorem OX:(aE Qg true 7 (lg (frQ 1 1 (qT x0 x1 x2 xs)) cs)).frame=frQ 2 0 (qT x0 x1 x2 (upd xs 3 (.int .i64 0))):=by kernel_rfl
theorem CO:eN Qg fQ 1 (frQ 2 0 (qT x0 (.int .i64 n) x2 (upd xs 3 (.int .i64 i)))) cs:=⟨λw=>by kernel_rfl,by kernel_rfl,by kernel_rfl⟩
theorem Dk:(aE Qg true 1 (lg (frQ 2 0 (qT x0 (.int .i64 n) x2 (upd xs 3 (.int .i64 i)))) cs)).frame=frQ 2 1 (qT x0 (.int .i64 n) x2 (upd (upd xs 3 (.int .i64 i)) 14 (.bool (decide (i< n))))):=by kernel_rfl
theorem KF:eN Qg fQ 10 (frQ 2 1 (qT (.int .i64 a) x1 x2 (upd (upd xs 3 (.int .i64 i)) 14 (.bool true)))) cs:=⟨λw=>by kernel_rfl,by kernel_rfl,by kernel_rfl⟩
theorem Pw:(aE Qg true 10 (lg (frQ 2 1 (qT (.int .i64 a) x1 x2 (upd (upd xs 3 (.int .i64 i)) 14 (.bool true)))) cs)).frame=frQ 4 0 (qT (.int .i64 a) x1 x2 (upd (upd (upd xs 3 (.int .i64 i)) 14 (.bool true)) 4 (.int .i64 (IntKind.i64.wrap (a+i))))):=by kernel_rfl
theorem Q6:eN Qg fQ 5 (frQ 2 1 (qT x0 x1 x2 (upd xs 14 (.bool false)))) cs:=⟨λw=>by kernel_rfl,by kernel_rfl,by kernel_rfl⟩
noncomputable def kS:Frame:=(aE Qg true 5 (lg (frQ 2 1 (qT x0 x1 x2 (upd xs 14 (.bool false)))) cs)).frame
theorem Tw:(kS x0 x1 x2 xs cs).mode= .returning/\(kS x0 x1 x2 xs cs).defers= []/\(kS x0 x1 x2 xs cs).fn=fQ/\(kS x0 x1 x2 xs cs).kind= .normal:=⟨by kernel_rfl,by kernel_rfl,by kernel_rfl,by kernel_rfl⟩
theorem LQ(c:Frame)(w:World):stepG Qg true (lg (kS x0 x1 x2 xs (c::cs)) (c::cs)) w= .go (lg (c.finish (xs 6)) cs) w #[]:=by kernel_rfl
theorem Jf(id:Nat)(h:id=4\/id=5):aI Qg true (lg (frQ id 0 (qT x0 x1 x2 xs)) cs):=by
 rcases h with rfl|rfl
 ·exact⟨λw=>by kernel_rfl,by kernel_rfl,by kernel_rfl⟩
 ·exact⟨λw=>by kernel_rfl,by kernel_rfl,by kernel_rfl⟩
theorem VV(id:Nat)(h:id=4\/id=5):aY (lg (frQ id 0 (qT x0 x1 x2 xs)) cs)=(do let d ←Deferred.ofValue x2 #[xs 4];invoke d.target d.args):=by
 rcases h with rfl|rfl<;>kernel_rfl
theorem Ka(v:Value):(frQ 4 0 (qT x0 x1 x2 xs)).finish v=frQ 4 1 (qT x0 x1 x2 (upd xs 5 v)):=by kernel_rfl
theorem DM(v:Value):(frQ 5 0 (qT x0 x1 x2 xs)).finish v=frQ 5 1 (qT x0 x1 x2 (upd xs 8 v)):=by kernel_rfl
theorem WO(x:Value)(w:World)(h:dW (stepG Qg true (lg (frQ 4 1 (qT x0 x1 x2 (upd xs 5 x))) cs) w)=true): ∃s,x= .string s:=by
 have no:∀y,dW (stepG Qg true (lg (frQ 4 1 (qT x0 x1 x2 (upd xs 5 y))) cs) w)=false->x=y->False:=λy hx e=>by rw[e,hx] at h;cases h
 cases x with
 |string s=>exact⟨s,rfl⟩
 |pointer p=>cases p<;>exact (no _ (by kernel_rfl) rfl).elim
 |_=>exact (no _ (by kernel_rfl) rfl).elim
theorem Er(x:Value)(w:World)(h:dW (stepG Qg true (lg (frQ 5 1 (qT x0 x1 x2 (upd xs 8 x))) cs) w)=true): ∃s,x= .string s:=by
 have no:∀y,dW (stepG Qg true (lg (frQ 5 1 (qT x0 x1 x2 (upd xs 8 y))) cs) w)=false->x=y->False:=λy hx e=>by rw[e,hx] at h;cases h
 cases x with
 |string s=>exact⟨s,rfl⟩
 |pointer p=>cases p<;>exact (no _ (by kernel_rfl) rfl).elim
 |_=>exact (no _ (by kernel_rfl) rfl).elim
noncomputable def strLt(s:ByteArray):Value:=(feed Qg (Go.binOp .lss 9 (.string s) (.string ByteArray.empty)) []).elim undef λx=>x.2.elim id λ_=>undef
theorem Uv(s:ByteArray):eN Qg fQ 1 (frQ 4 1 (qT x0 x1 x2 (upd xs 5 (.string s)))) cs:=⟨λw=>by kernel_rfl,by kernel_rfl,by kernel_rfl⟩
theorem Qm(s:ByteArray):(aE Qg true 1 (lg (frQ 4 1 (qT x0 x1 x2 (upd xs 5 (.string s)))) cs)).frame=frQ 4 2 (qT x0 x1 x2 (upd (upd xs 5 (.string s)) 18 (strLt s))):=by kernel_rfl
theorem Cm(s:ByteArray):eN Qg fQ 1 (frQ 5 1 (qT x0 x1 x2 (upd xs 8 (.string s)))) cs:=⟨λw=>by kernel_rfl,by kernel_rfl,by kernel_rfl⟩
theorem Fu(s:ByteArray):(aE Qg true 1 (lg (frQ 5 1 (qT x0 x1 x2 (upd xs 8 (.string s)))) cs)).frame=frQ 5 2 (qT x0 x1 x2 (upd (upd xs 8 (.string s)) 18 (strLt s))):=by kernel_rfl
theorem TS(w:World):stepG Qg true (lg (frQ 4 2 (qT x0 x1 x2 xs)) cs) w= .go (lg (Frame.enter Qg 82 #[xs 5] .normal) (frQ 4 2 (qT x0 x1 x2 xs)::cs)) w #[]:=by kernel_rfl
theorem DV(w:World):stepG Qg true (lg (frQ 5 2 (qT x0 x1 x2 xs)) cs) w= .go (lg (Frame.enter Qg 82 #[xs 8] .normal) (frQ 5 2 (qT x0 x1 x2 xs)::cs)) w #[]:=by kernel_rfl
theorem Oj(v:Value):(frQ 4 2 (qT x0 x1 x2 xs)).finish v=frQ 4 3 (qT x0 x1 x2 (upd xs 7 v)):=by kernel_rfl
theorem C9(v:Value):(frQ 5 2 (qT x0 x1 x2 xs)).finish v=frQ 5 3 (qT x0 x1 x2 (upd xs 9 v)):=by kernel_rfl
theorem WM:eN Qg fQ 3 (frQ 4 3 (qT x0 x1 x2 xs)) cs:=⟨λw=>by kernel_rfl,by kernel_rfl,by kernel_rfl⟩
theorem PK:(aE Qg true 3 (lg (frQ 4 3 (qT x0 x1 x2 xs)) cs)).frame=frQ 5 0 (qT x0 x1 x2 xs):=by kernel_rfl
theorem Fh:eN Qg fQ 3 (frQ 5 3 (qT x0 x1 x2 xs)) cs:=⟨λw=>by kernel_rfl,by kernel_rfl,by kernel_rfl⟩
theorem D9:(aE Qg true 3 (lg (frQ 5 3 (qT x0 x1 x2 xs)) cs)).frame=frQ 6 0 (qT x0 x1 x2 xs):=by kernel_rfl
theorem Ko(x:Value)(w:World)(h:dW (stepG Qg true (lg (frQ 6 0 (qT x0 x1 x2 (upd xs 7 x))) cs) w)=true): ∃a,x= .int .u64 a:=by
 have no:∀y,dW (stepG Qg true (lg (frQ 6 0 (qT x0 x1 x2 (upd xs 7 y))) cs) w)=false->x=y->False:=λy hx e=>by rw[e,hx] at h;cases h
 cases x with
 |int k a=>cases k<;>first|exact⟨a,rfl⟩|exact (no _ (by kernel_rfl) rfl).elim
 |pointer p=>cases p<;>exact (no _ (by kernel_rfl) rfl).elim
 |_=>exact (no _ (by kernel_rfl) rfl).elim
theorem Eg(e:Int):eN Qg fQ 1 (frQ 6 0 (qT x0 x1 x2 (upd xs 7 (.int .u64 e)))) cs:=⟨λw=>by kernel_rfl,by kernel_rfl,by kernel_rfl⟩
theorem Hk(e:Int):(aE Qg true 1 (lg (frQ 6 0 (qT x0 x1 x2 (upd xs 7 (.int .u64 e)))) cs)).frame=frQ 6 1 (qT x0 x1 x2 (upd (upd xs 7 (.int .u64 e)) 18 (.bool (decide (e< 0))))):=by kernel_rfl
theorem Gr(x:Value)(w:World)(h:dW (stepG Qg true (lg (frQ 6 1 (qT x0 x1 x2 (upd xs 9 x))) cs) w)=true): ∃a,x= .int .u64 a:=by
 have no:∀y,dW (stepG Qg true (lg (frQ 6 1 (qT x0 x1 x2 (upd xs 9 y))) cs) w)=false->x=y->False:=λy hx e=>by rw[e,hx] at h;cases h
 cases x with
 |int k a=>cases k<;>first|exact⟨a,rfl⟩|exact (no _ (by kernel_rfl) rfl).elim
 |pointer p=>cases p<;>exact (no _ (by kernel_rfl) rfl).elim
 |_=>exact (no _ (by kernel_rfl) rfl).elim
def nR(e f:Int)(xs:Nat->Value):Nat->Value:=upd (upd xs 7 (.int .u64 e)) 9 (.int .u64 f)
theorem CN(e f:Int):eN Qg fQ 2 (frQ 6 1 (qT x0 x1 x2 (nR e f xs))) cs:=⟨λw=>by kernel_rfl,by kernel_rfl,by kernel_rfl⟩
theorem Bt(e f:Int):(aE Qg true 2 (lg (frQ 6 1 (qT x0 x1 x2 (nR e f xs))) cs)).frame=frQ 6 3 (qT x0 x1 x2 (upd (upd (nR e f xs) 19 (.bool (decide (f< 0)))) 15 (.bool (!(decide (e=f)))))):=by kernel_rfl
theorem A5:eN Qg fQ 3 (frQ 6 3 (qT x0 x1 x2 (upd xs 15 (.bool true)))) cs:=⟨λw=>by kernel_rfl,by kernel_rfl,by kernel_rfl⟩
noncomputable def tz:Frame:=(aE Qg true 3 (lg (frQ 6 3 (qT x0 x1 x2 (upd xs 15 (.bool true)))) cs)).frame
theorem Fw(w:World):dW (stepG Qg true (lg (tz x0 x1 x2 xs cs) cs) w)=false:=by kernel_rfl
theorem FQ:(tz x0 x1 x2 xs cs).fn=fQ:=by kernel_rfl
theorem Mv:eN Qg fQ 5 (frQ 6 3 (qT x0 x1 x2 (upd xs 15 (.bool false)))) cs:=⟨λw=>by kernel_rfl,by kernel_rfl,by kernel_rfl⟩
theorem Kv:(aE Qg true 5 (lg (frQ 6 3 (qT x0 x1 x2 (upd xs 15 (.bool false)))) cs)).frame=frQ 7 0 (qT x0 x1 x2 (upd xs 15 (.bool false))):=by kernel_rfl
theorem IA:aI Qg true (lg (frQ 7 0 (qT x0 x1 x2 xs)) cs):=⟨λw=>by kernel_rfl,by kernel_rfl,by kernel_rfl⟩
theorem Je:aY (lg (frQ 7 0 (qT x0 x1 x2 xs)) cs)=(Instr.indexAt 147 (xs 6) (xs 3) >>=λv=>pure (.value v)):=by kernel_rfl
theorem KH(v:Value):(frQ 7 0 (qT x0 x1 x2 xs)).finish v=frQ 7 1 (qT x0 x1 x2 (upd xs 18 v)):=by kernel_rfl
theorem Ww(v:Value):aI Qg true (lg (frQ 7 1 (qT x0 x1 x2 (upd xs 18 v))) cs):=⟨λw=>by kernel_rfl,by kernel_rfl,by kernel_rfl⟩
theorem Ox(d k:Nat)(e:Int):feed Qg (aY (lg (frQ 7 1 (qT x0 x1 x2 (upd (upd xs 9 (.int .u64 e)) 18 (.pointer (some ⟨d,k,none⟩))))) cs)) []=some ([.st .plain ⟨d,k,none⟩ (.int .u64 e)],.inl .skip):=by kernel_rfl
theorem kL(xs:Nat->Value)(j:Nat):upd xs j (xs j)=xs:=by
 funext b;unfold upd;split
 ·rename_i h;rw[h]
 ·rfl
theorem QJ(d k:Nat)(e:Int)(h:xs 9= .int .u64 e):feed Qg (aY (lg (frQ 7 1 (qT x0 x1 x2 (upd xs 18 (.pointer (some ⟨d,k,none⟩))))) cs)) []=some ([.st .plain ⟨d,k,none⟩ (.int .u64 e)],.inl .skip):=by
 have:=Ox x0 x1 x2 xs cs d k e;rw[←h,kL] at this;rw[this,h]
theorem T3:(frQ 7 1 (qT x0 x1 x2 xs)).finish undef=frQ 7 2 (qT x0 x1 x2 xs):=by kernel_rfl
theorem OY:eN Qg fQ 6 (frQ 7 2 (qT x0 x1 x2 (upd xs 3 (.int .i64 i)))) cs:=⟨λw=>by kernel_rfl,by kernel_rfl,by kernel_rfl⟩
theorem Nl:(aE Qg true 6 (lg (frQ 7 2 (qT x0 x1 x2 (upd xs 3 (.int .i64 i)))) cs)).frame=frQ 2 0 (qT x0 x1 x2 (upd (upd xs 19 (.int .i64 (IntKind.i64.wrap (i+1)))) 3 (.int .i64 (IntKind.i64.wrap (i+1))))):=by kernel_rfl
end
end
section
open Go.Conc
open Go.ConcN (upd upd_same upd_ne)
def fM(ρ:Nat->Nat->Prop):ai:=⟨ρ,λ_ _=>False,λ_ _=>False,λ_ _=>False⟩
theorem ma{ρ:Nat->Nat->Prop}:(fM ρ).un r s↔ρ r s:=by simp[fM,ai.un]
theorem ur{ρ:Nat->Nat->Prop}: ¬ (fM ρ).mine r s:=by simp[fM,ai.mine]
theorem E7{ρ:Nat->Nat->Prop}(hb:lJ ρ):Fit (fM ρ) where
 own:=λ_ _ h=>h.elim
 two:=λ_ _ _ _ h=>h.elim
 nj:=λ_ _ _ _ h=>h.elim
 mQ:=λ_ _ _ h=>h.elim
 fn:=λr s t h k=>hb.fn r s t (ma.1 h) (ma.1 k)
 inj:=λr s t h k=>hb.inj r s t (ma.1 h) (ma.1 k)
section
variable {P:Program} {G:Array Func} {L:aA} {T:aN} {ρ:Nat->Nat->Prop} {Goal:Frame->List Frame->World->Prop}
theorem tl(S:Stat P G L T)(hfl:T.fl=false)(hf:L.fn f)(hn:f≠T.bU){xs:Array Value}(hT:TR L (fM ρ) f xs ys)(B D:List Frame)(hb:lJ ρ)(hg:∀g,g< T.ng->ρ g g)(hd:∀r s,ρ r s->r< w.heap.size/\s< v.heap.size)(ho:∀r s,ρ r s->∃o q,w.heap[r]? =some o/\v.heap[s]? =some q/\OR L (fM ρ) o q):
  iH P G L T (fM ρ) B D {frame:=Frame.enter (gp P G) f xs .normal,callers:=B,status:= .running,dying:=none} w {frame:=Frame.enter P f ys .normal,callers:=D,status:= .running,dying:=none} v:=by
 refine⟨⟨.run (bV.enter S.cp hf hn hT),⟨rfl,rfl⟩,⟨rfl,rfl⟩,⟨rfl,rfl⟩,[],[],rfl,rfl,.nil _,rfl⟩,E7 hb,⟨λhx=>(by rw[hfl] at hx;cases hx),hg⟩,λr s h=>hd r s (ma.1 h),λr s h=>?_⟩;obtain⟨o,q,h1,h2,h3⟩:=ho r s (ma.1 h);exact⟨o,q,h1,h2,KR.nH (E7 hb) (ma.1 h) h3⟩
theorem AO{fn:Func}(h1:P.funcs[f]? =some fn)(h2:(fn.name== "runtime.NumGoroutine")=false)(h3:fn.body.isNone=false)(args:Array Value)(w:World)(es:Array Event):(callFunc f args).runT P w es=(.ok (.enter f args) w,es):=by
 unfold callFunc;show ((Go.program).bind _).runT P w es=_;rw[Sem.runT_bind'];simp only[Go.program,Sem.runT,h1,h2,h3,Xf,Xd];rfl
theorem eS(f:FuncId):seen P f #[]=#[]:=by simp[seen]
theorem aI.enter{m:Bool}{g:Goroutine}(h:aI P m g){f:FuncId}{args:Array Value}{w:World}(hr:(aY g).runT P w #[]=(.ok (.enter f args) w,#[]))(hk:(match g.frame.todo with| .call _ true _ _::_=>CallKind.wrapped|_=>CallKind.normal)= .normal):
  stepG P m g w= .go {frame:=Frame.enter P f args .normal,callers:=g.frame::g.callers,status:= .running,dying:=none} w #[]:=by
 rw[h.1 w];simp only[stepG.apply,hr,h.2.2,Xf,Xd,No,GStep.after,eS,XG];exact congrArg (λk=>GStep.go {frame:=Frame.enter P f args k,callers:=g.frame::g.callers,status:= .running,dying:=none} w) hk
theorem UX{x:Value}(hv:VR L τ.all x y){xs:Array Value}(hx:XR (VR L τ.all) xs ys):
  (∃f us us' vs vs',x= .func (.func f) us vs/\y= .func (.func f) us' vs'/\L.fG f/\XR (VR L τ.all) (us++xs++vs) (us'++ys++vs')/\(do let d ←Deferred.ofValue x xs;invoke d.target d.args)=callFunc f (us++xs++vs)/\(do let d ←Deferred.ofValue y ys;invoke d.target d.args)=callFunc f (us'++ys++vs'))
  \/ak (gp P G) (do let d ←Deferred.ofValue x xs;invoke d.target d.args):=by
 cases hv with
 |func us vs hf hu hv'=>exact .inl ⟨_,_,_,_,_,rfl,rfl,hf,XR.append (XR.append ⟨us,rfl,rfl,hu⟩ hx) ⟨vs,rfl,rfl,hv'⟩,rfl,rfl⟩
 |nilFunc=>exact .inr (show ak (gp P G) (runtimePanic .nilDeref:Sem Next) from .runtimePanic _)
 |bl s h1 h2 h3=>
  refine .inr ?_;show ak (gp P G) (match (#[Value.nilIface]++xs)[0]? with|some recv=>callMethod recv s ((#[Value.nilIface]++xs).extract 1 (#[Value.nilIface]++xs).size)|_=>stuck "call: a method without a receiver");have e:(#[Value.nilIface]++xs)[0]? =some .nilIface:=by rw[Array.getElem?_append_left (by decide)];rfl
  rw[e];exact show ak (gp P G) (runtimePanic .nilDeref:Sem Next) from .runtimePanic _
 |_=>exact .inr (ak.bind' (.stuck _))
theorem Ve(K:Let P G L T){fr:Frame}{cs:List Frame}(hs:Safe (gp P G) Goal fr cs w)(hn: ¬ Goal fr cs w)(ho:aI (gp P G) true (lg fr cs))(hk:fr.kind= .normal)(hd:ak (gp P G) (aY (lg fr cs))):False:=by
 obtain⟨fr1,cs1,w1,es,e,hfi,_⟩:=Safe.goes hs hn w.tape;have e':stepG (gp P G) true (lg fr cs) w= .go (lg fr1 cs1) w1 es:=e;rw[ho.1 w] at e';obtain⟨a,es0,hr⟩:=wF (Q:=gp P G) K.ahead K.tJ (fr:=fr) hk e' hfi;obtain⟨_,_,_,hr',_⟩:=hd w #[];rw[hr] at hr';cases hr'
end
structure eY(L:aA)(T:aN)(Goal:Frame->List Frame->World->Prop):Prop where
 stat:Stat Tryz.prog Gg L T
 fl:T.fl=false
 bU:T.bU=fQ
 qc: ¬ L.fn T.bU
 goal:∀fr cs w,Goal fr cs w->cs= []/\fr.fn≠fQ
 sum:L.fn 82/\L.cY 82 0= .any
structure Entry(L:aA) where
 first:Int
 n:Nat
 x2:Value
 y2:Value
 ρ:Nat->Nat->Prop
 w0:World
 v0:World
 cs:List Frame
structure iM(L:aA)(E:Entry L):Prop where
 bi:lJ E.ρ
 cy:∀r s,E.ρ r s->r< E.w0.heap.size/\s< E.v0.heap.size
 obj:∀r s,E.ρ r s->∃o q,E.w0.heap[r]? =some o/\E.v0.heap[s]? =some q/\OR L (fM E.ρ) o q
 ij:VR L E.ρ E.x2 E.y2
 yx:∀g,g< Tryz.prog.globals.size->E.ρ g g
theorem iM.gl{L:aA}{T:aN}{E:Entry L}(K:iM L E)(S:Stat Tryz.prog Gg L T):∀g,g< T.ng->E.ρ g g:=λg h=>K.yx g (by rw[S.globals];exact h)
section
variable {L:aA} {T:aN} {Goal:Frame->List Frame->World->Prop} {E:Entry L}
def iy(E:Entry L)(w:World):Prop:=E.w0.heap.size<=w.heap.size/\∀r,r< E.w0.heap.size->w.heap[r]? =E.w0.heap[r]?
noncomputable abbrev qF(E:Entry L)(id n:Nat)(xs:Nat->Value):Frame:=frQ id n (qT (.int .i64 E.first) (.int .i64 E.n) E.x2 xs)
theorem wD(E:Entry L)(id n:Nat)(xs:Nat->Value):(qF E id n xs).fn=fQ:=rfl
theorem iy.obj(K:iM L E)(h:iy E w)(v:World)(hv:∀r s,E.ρ r s->v.heap[s]? =E.v0.heap[s]?)(hvs:E.v0.heap.size<=v.heap.size):(∀r s,E.ρ r s->r< w.heap.size/\s< v.heap.size)/\∀r s,E.ρ r s->∃o q,w.heap[r]? =some o/\v.heap[s]? =some q/\OR L (fM E.ρ) o q:=by
 refine⟨λr s hr=>?_,λr s hr=>?_⟩
 ·have:=K.cy r s hr;have:=h.1;omega
 ·obtain⟨o,q,h1,h2,h3⟩:=K.obj r s hr;exact⟨o,q,by rw[h.2 r (K.cy r s hr).1];exact h1,by rw[hv r s hr];exact h2,h3⟩
theorem eY.ja(A:eY L T Goal){fr:Frame}{cs:List Frame}(h:fr.fn=fQ): ¬ Goal fr cs w:=λhg=>(A.goal _ _ _ hg).2 h
theorem eY.dW(A:eY L T Goal){fr:Frame}{cs:List Frame}(h:Safe Qg Goal fr cs w)(hf:fr.fn=fQ):dW (stepG Qg true (lg fr cs) w)=true:=by
 obtain⟨fr1,cs1,w1,es,e,_⟩:=Safe.goes h (A.ja hf) w.tape;have e':stepG Qg true (lg fr cs) w= .go (lg fr1 cs1) w1 es:=e;rw[e'];rfl
theorem wI(A:eY L T Goal)(K:iM L E)(id:Nat)(hid:id=4\/id=5){xs:Nat->Value}(hs:Safe Qg Goal (qF E id 0 xs) E.cs w)(h4:xs 4= .int .i64 m):
  ∃f us us' vs vs',E.x2= .func (.func f) us vs/\E.y2= .func (.func f) us' vs'/\L.fn f/\f≠T.bU/\TR L (fM E.ρ) f (us++#[.int .i64 m]++vs) (us'++#[.int .i64 m]++vs')/\
   stepG Qg true (lg (qF E id 0 xs) E.cs) w= .go (lg (Frame.enter Qg f (us++#[.int .i64 m]++vs) .normal) (qF E id 0 xs::E.cs)) w #[]:=by
 have ag:=Jf (.int .i64 E.first) (.int .i64 E.n) E.x2 xs E.cs id hid;have hpend:=VV (.int .i64 E.first) (.int .i64 E.n) E.x2 xs E.cs id hid;rw[h4] at hpend;rcases UX (P:=Tryz.prog) (G:=Gg) (L:=L) (τ:=fM E.ρ) K.ij (xs:=#[.int .i64 m]) (ys:=#[.int .i64 m]) (XR.push (xs:=#[]) (ys:=#[]) XR.nil (.int _ _)) with ⟨f,us,us',vs,vs',e1,e2,hf,hx,e3,e4⟩|hd
 ·obtain⟨h1,h2,h3⟩:=A.stat.cp.qm.fG f hf;have hnp:f≠T.bU:=λe=>A.qc (e ▸ h1);refine⟨f,us,us',vs,vs',e1,e2,h1,hnp,TR.wY h2 hx,?_⟩;obtain⟨_,⟨gn,g1,g2,g3⟩⟩:=A.stat.cp.qg f h1;have hr:(aY (lg (qF E id 0 xs) E.cs)).runT Qg w #[]=(.ok (.enter f (us++#[.int .i64 m]++vs)) w,#[]):=by
   rw[hpend,e3];exact AO (P:=Qg) g1 g2 g3 _ _ _
  refine aI.enter ag hr ?_;rcases hid with rfl|rfl<;>rfl
 ·exact (Ve A.stat.cp hs (A.ja (wD E id 0 xs)) ag rfl (by rw[hpend];exact hd)).elim
theorem Dm(A:eY L T Goal)(K:iM L E)(id:Nat)(hid:id=4\/id=5){xs:Nat->Value}(hs:Safe Qg Goal (qF E id 0 xs) E.cs w)(h4:xs 4= .int .i64 m)(hk:iy E w):
  ∃x w',dM Qg Goal (qF E id 0 xs) E.cs w ((qF E id 0 xs).finish x) E.cs w'/\w.heap.size<=w'.heap.size/\∀r,r< w.heap.size->w'.heap[r]? =w.heap[r]? :=by
 obtain⟨f,us,us',vs,vs',_,_,hf,hn,hT,e⟩:=wI A K id hid hs h4;have hs1:=Safe.next hs (A.ja (wD E id 0 xs)) w.tape e;obtain⟨d1,d2⟩:=hk.obj K E.v0 (λ_ _ _=>rfl) (iR _);have hS:=tl A.stat A.fl hf hn hT (qF E id 0 xs::E.cs++ [wall]) [] K.bi (K.gl A.stat) d1 d2;obtain⟨x,w',r1,r2,r3⟩:=Fa (cs:=E.cs) (frQ:=qF E id 0 xs) (D:=[]) (B0:=w.heap.size) (w0:=w) A.stat A.qc (λfr cs w hg=>(A.goal fr cs w hg).1) hs1 [] (fM E.ρ) _ E.v0 rfl hS (λr s hx=>absurd hx ur) (iR _) (λ_ _=>rfl);exact⟨x,w',.step w.tape _ (A.ja (wD E id 0 xs)) e r1,r2,r3⟩
theorem Gy(A:eY L T Goal)(K:iM L E){fr:Frame}(hfr:fr.fn=fQ){t:ByteArray}(hs:Safe Qg Goal fr E.cs w)(hk:iy E w)(e:stepG Qg true (lg fr E.cs) w= .go (lg (Frame.enter Qg 82 #[.string t] .normal) (fr::E.cs)) w #[]):
  ∃x w',dM Qg Goal fr E.cs w (fr.finish x) E.cs w'/\w.heap.size<=w'.heap.size/\∀r,r< w.heap.size->w'.heap[r]? =w.heap[r]? :=by
 have hs1:=Safe.next hs (A.ja hfr) w.tape e;obtain⟨d1,d2⟩:=hk.obj K E.v0 (λ_ _ _=>rfl) (iR _);have hT:TR L (fM E.ρ) 82 #[.string t] #[.string t]:=⟨rfl,λi x y hx hy=>by
  cases i with
  |zero=>
   rw[A.sum.2];simp at hx hy;subst hx hy;exact VR.string t
  |succ i=>simp at hx⟩
 have hS:=tl A.stat A.fl A.sum.1 (λe=>A.qc (e ▸ A.sum.1)) hT (fr::E.cs++ [wall]) [] K.bi (K.gl A.stat) d1 d2;obtain⟨x,w',r1,r2,r3⟩:=Fa (cs:=E.cs) (frQ:=fr) (D:=[]) (B0:=w.heap.size) (w0:=w) A.stat A.qc (λfr cs w hg=>(A.goal fr cs w hg).1) hs1 [] (fM E.ρ) _ E.v0 rfl hS (λr s hx=>absurd hx ur) (iR _) (λ_ _=>rfl);exact⟨x,w',.step w.tape _ (A.ja hfr) e r1,r2,r3⟩
end
end
section
open Go.Conc
open Go.ConcN (upd upd_same upd_ne)
theorem Ms(Q:Program)(hQ:Q=Qg\/Q=Tryz.prog)(d n k:Nat):feed Q (Instr.indexAt 147 (eQ d n) (.int .i64 k) >>=λv=>(pure (.value v):Sem Next)) []=
  feed Q (Sem.bind (if (0:Int)<=(k:Int)/\(k:Int)< (n:Int) then (Sem.bind (Go.sizeOf 44) λs=>Sem.pure (.pointer (some ((⟨d,0,none⟩:Addr).add ((k:Int).toNat*s))))) else (if (decide (n<=1) && false)=true then unsupported (.noEntry "op/indexAddr.an index out of range at an array of length 0 or 1 (ledger 616)") else boundsPanic .i64 k n .index)) λv=>(Sem.pure (Next.value v):Sem Next)) []:=by
 rcases hQ with rfl|rfl
 ·kernel_rfl
 ·kernel_rfl
theorem UB(Q:Program)(hQ:Q=Qg\/Q=Tryz.prog)(d k:Nat):feed Q (Sem.bind (Sem.bind (Go.sizeOf 44) λs=>Sem.pure (.pointer (some ((⟨d,0,none⟩:Addr).add ((k:Int).toNat*s))))) λv=>(Sem.pure (Next.value v):Sem Next)) []=some ([],.inl (.value (.pointer (some ((⟨d,0,none⟩:Addr).add ((k:Int).toNat*1)))))):=by
 rcases hQ with rfl|rfl
 ·kernel_rfl
 ·kernel_rfl
theorem B9(Q:Program)(hQ:Q=Qg\/Q=Tryz.prog){n k:Nat}(h:k< n):feed Q (Instr.indexAt 147 (eQ d n) (.int .i64 k) >>=λv=>(pure (.value v):Sem Next)) []=some ([],.inl (.value (.pointer (some ⟨d,k,none⟩)))):=by
 rw[Ms Q hQ,AS ⟨by omega,by omega⟩,UB Q hQ];have e:(⟨d,0,none⟩:Addr).add ((k:Int).toNat*1)=⟨d,k,none⟩:=by
  unfold Addr.add;split
  ·rename_i h0;simp at h0;subst h0;rfl
  ·simp
 rw[e]
section
variable {L:aA} {T:aN} {Goal:Frame->List Frame->World->Prop} {E:Entry L}
def uv(Goal:Frame->List Frame->World->Prop)(E:Entry L)(i:Nat)(a:Int):Prop:=
 ∃xs w,Safe Qg Goal (qF E 5 0 xs) E.cs w/\xs 4= .int .i64 (IntKind.i64.wrap (E.first+i))/\xs 7= .int .u64 a/\iy E w
structure pe(Goal:Frame->List Frame->World->Prop)(E:Entry L)(i:Nat)(a:Nat->Int)(d:Nat)(xs:Nat->Value)(w:World):Prop where
 safe:Safe Qg Goal (qF E 2 0 (upd xs 3 (.int .i64 i))) E.cs w
 row:xs 6=eQ d E.n
 keeps:iy E w
 new:E.w0.heap.size<=d
 blk: ∃C:Array Value,w.heap[d]? =some (.cells C 44)/\C.size=E.n/\∀k,k< i->C[k]? =some (.int .u64 (a k))
 nK:∀k,k< i->uv Goal E k (a k)
theorem eY.dX(A:eY L T Goal){n:Nat}{fr fr':Frame}{cs:List Frame}(h:eN Qg fQ n fr cs)(he:(aE Qg true n (lg fr cs)).frame=fr')(w:World):dM Qg Goal fr cs w fr' cs w:=
 h.run (λfr cs w hg=>(A.goal fr cs w hg).2) he w
theorem iy.later(A:eY L T Goal){w':World}(h:iy E w)(hs:w.heap.size<=w'.heap.size)(hw:∀r,r< w.heap.size->w'.heap[r]? =w.heap[r]?):iy E w':=by
 have _:=A;exact⟨Xb h.1 hs,λr hr=>by rw[hw r (Xc hr h.1),h.2 r hr]⟩
theorem wrap_small{k:Int}(h0:0<=k)(h1:k< 9223372036854775808):IntKind.i64.wrap k=k:=by
 simp only[IntKind.wrap,IntKind.bits,IntKind.signed];simp;omega
theorem NA(A:eY L T Goal)(K:iM L E){i:Nat}{a:Nat->Int}{xs:Nat->Value}(H:pe Goal E i a d xs w)(hi:i< E.n)(hn:E.n<=64):
  ∃e xs' w',dM Qg Goal (qF E 2 0 (upd xs 3 (.int .i64 i))) E.cs w (qF E 2 0 (upd xs' 3 (.int .i64 ((i+1:Nat):Int)))) E.cs w'/\pe Goal E (i+1) (upd a i e) d xs' w':=by
 have hin:decide ((i:Int)< (E.n:Int))=true:=by simp;omega
 have r1:=A.dX (CO (.int .i64 E.first) E.x2 E.n i xs E.cs) (Dk (.int .i64 E.first) E.x2 E.n i xs E.cs) w;rw[hin] at r1;have r2:=A.dX (KF (.int .i64 E.n) E.x2 E.first i xs E.cs) (Pw (.int .i64 E.n) E.x2 E.first i xs E.cs) w;generalize hX1:upd (upd (upd xs 3 (.int .i64 i)) 14 (.bool true)) 4 (.int .i64 (IntKind.i64.wrap (E.first+i)))=X1 at r2;have f14:X1 4= .int .i64 (IntKind.i64.wrap (E.first+i)):=by rw[←hX1];rfl
 have f13:X1 3= .int .i64 i:=by rw[←hX1];rfl
 have f16:X1 6=eQ d E.n:=by rw[←hX1];exact H.row
 have s1:Safe Qg Goal (qF E 4 0 X1) E.cs w:=Safe.run H.safe (r1.trans r2);obtain⟨x,w1,r3,z1,o1⟩:=Dm A K 4 (.inl rfl) s1 f14 H.keeps;rw[show (qF E 4 0 X1).finish x=qF E 4 1 (upd X1 5 x) from Ka ..] at r3;have s2:=Safe.run s1 r3;obtain⟨t,rfl⟩:=WO _ _ _ _ _ _ _ (A.dW s2 rfl);have r4:=A.dX (Uv (.int .i64 E.first) (.int .i64 E.n) E.x2 X1 E.cs t) (Qm (.int .i64 E.first) (.int .i64 E.n) E.x2 X1 E.cs t) w1;have s3:=Safe.run s2 r4;have k1:=H.keeps.later A z1 o1;obtain⟨dv,w2,r5,z2,o2⟩:=Gy A K (fr:=qF E 4 2 (upd (upd X1 5 (.string t)) 18 (strLt t))) rfl s3 k1 (TS ..);rw[Oj] at r5;have s4:=Safe.run s3 r5;have r6:=A.dX (WM (.int .i64 E.first) (.int .i64 E.n) E.x2 (upd (upd (upd X1 5 (.string t)) 18 (strLt t)) 7 dv) E.cs) (PK (.int .i64 E.first) (.int .i64 E.n) E.x2 (upd (upd (upd X1 5 (.string t)) 18 (strLt t)) 7 dv) E.cs) w2;generalize hX3:upd (upd (upd X1 5 (.string t)) 18 (strLt t)) 7 dv=X3 at r5 r6 s4;have f34:X3 4= .int .i64 (IntKind.i64.wrap (E.first+i)):=by rw[←hX3];exact f14
 have f33:X3 3= .int .i64 i:=by rw[←hX3];exact f13
 have f36:X3 6=eQ d E.n:=by rw[←hX3];exact f16
 have f37:X3 7=dv:=by rw[←hX3];rfl
 have s5:Safe Qg Goal (qF E 5 0 X3) E.cs w2:=Safe.run s4 r6;have k2:=k1.later A z2 o2;obtain⟨x',w3,r7,z3,o3⟩:=Dm A K 5 (.inr rfl) s5 f34 k2;rw[show (qF E 5 0 X3).finish x'=qF E 5 1 (upd X3 8 x') from DM ..] at r7;have s6:=Safe.run s5 r7;obtain⟨t',rfl⟩:=Er _ _ _ _ _ _ _ (A.dW s6 rfl);have r8:=A.dX (Cm (.int .i64 E.first) (.int .i64 E.n) E.x2 X3 E.cs t') (Fu (.int .i64 E.first) (.int .i64 E.n) E.x2 X3 E.cs t') w3;have s7:=Safe.run s6 r8;have k3:=k2.later A z3 o3;obtain⟨ev,w4,r9,z4,o4⟩:=Gy A K (fr:=qF E 5 2 (upd (upd X3 8 (.string t')) 18 (strLt t'))) rfl s7 k3 (DV ..);rw[C9] at r9;have s8:=Safe.run s7 r9;have k4:=k3.later A z4 o4;generalize hX5:upd (upd (upd X3 8 (.string t')) 18 (strLt t')) 9 ev=X5 at r9 s8;have f57:X5 7=dv:=by rw[←hX5];exact f37
 have f59:X5 9=ev:=by rw[←hX5];rfl
 have f56:X5 6=eQ d E.n:=by rw[←hX5];exact f36
 have f53:X5 3= .int .i64 i:=by rw[←hX5];exact f33
 have r10:=A.dX (Fh (.int .i64 E.first) (.int .i64 E.n) E.x2 X5 E.cs) (D9 (.int .i64 E.first) (.int .i64 E.n) E.x2 X5 E.cs) w4;have s9:=Safe.run s8 r10;have u7:upd X5 7 dv=X5:=by rw[←f57];exact kL X5 7
 rw[←u7] at r10 s9;obtain⟨ea,rfl⟩:=Ko _ _ _ _ _ _ _ (A.dW s9 rfl);have r11:=A.dX (Eg (.int .i64 E.first) (.int .i64 E.n) E.x2 X5 E.cs ea) (Hk (.int .i64 E.first) (.int .i64 E.n) E.x2 X5 E.cs ea) w4;have s10:=Safe.run s9 r11;rw[u7] at r10 r11 s10;generalize hX6:upd X5 18 (.bool (decide (ea< 0)))=X6 at r11 s10;have f67:X6 7= .int .u64 ea:=by rw[←hX6];exact f57
 have f69:X6 9=ev:=by rw[←hX6];exact f59
 have f66:X6 6=eQ d E.n:=by rw[←hX6];exact f56
 have f63:X6 3= .int .i64 i:=by rw[←hX6];exact f53
 have u9:upd X6 9 ev=X6:=by rw[←f69];exact kL X6 9
 rw[←u9] at s10;obtain⟨eb,rfl⟩:=Gr _ _ _ _ _ _ _ (A.dW s10 rfl);rw[u9] at s10;have u79:nR ea eb X6=X6:=by
  unfold nR;rw[show upd X6 7 (.int .u64 ea)=X6 by rw[←f67];exact kL X6 7];exact u9
 have r12:=A.dX (CN (.int .i64 E.first) (.int .i64 E.n) E.x2 X6 E.cs ea eb) (Bt (.int .i64 E.first) (.int .i64 E.n) E.x2 X6 E.cs ea eb) w4;rw[u79] at r12;have s11:=Safe.run s10 r12;have hab:ea=eb:=by
  refine XD λhne=>?_;rw[show (!decide (ea=eb))=true by simp[hne]] at s11;have rb:=A.dX (A5 (.int .i64 E.first) (.int .i64 E.n) E.x2 (upd X6 19 (.bool (decide (eb< 0)))) E.cs) rfl w4;have sb:=Safe.run s11 rb
  have:=A.dW (fr:=tz (.int .i64 E.first) (.int .i64 E.n) E.x2 (upd X6 19 (.bool (decide (eb< 0)))) E.cs) sb (FQ ..);rw[Fw] at this;cases this
 subst hab;rw[show (!decide (ea=ea))=false by simp] at r12 s11;have r13:=A.dX (Mv (.int .i64 E.first) (.int .i64 E.n) E.x2 (upd X6 19 (.bool (decide (ea< 0)))) E.cs) (Kv (.int .i64 E.first) (.int .i64 E.n) E.x2 (upd X6 19 (.bool (decide (ea< 0)))) E.cs) w4;have s12:=Safe.run s11 r13;generalize hX7:upd (upd X6 19 (.bool (decide (ea< 0)))) 15 (.bool false)=X7 at r12 r13 s11 s12;have f76:X7 6=eQ d E.n:=by rw[←hX7];exact f66
 have f73:X7 3= .int .i64 i:=by rw[←hX7];exact f63
 have f79:X7 9= .int .u64 ea:=by rw[←hX7];exact f69
 have e14:stepG Qg true (lg (qF E 7 0 X7) E.cs) w4= .go (lg (qF E 7 1 (upd X7 18 (.pointer (some ⟨d,i,none⟩)))) E.cs) w4 #[]:=by
  have hp:=Je (.int .i64 E.first) (.int .i64 E.n) E.x2 X7 E.cs;rw[f76,f73] at hp
  have:=aI.value (IA (.int .i64 E.first) (.int .i64 E.n) E.x2 X7 E.cs) (rs:=[]) (ds:=[]) (v:= .pointer (some ⟨d,i,none⟩)) (by rw[hp];exact B9 Qg (.inl rfl) hi) (w:=w4) (w':=w4) (es:=#[]) ⟨rfl,rfl⟩;rw[this,eS];show GStep.go (fH _ ((qF E 7 0 X7).finish _)) w4 #[]=_;rw[KH];rfl
 have s13:=Safe.next s12 (A.ja rfl) w4.tape e14;have r14:dM Qg Goal (qF E 7 0 X7) E.cs w4 (qF E 7 1 (upd X7 18 (.pointer (some ⟨d,i,none⟩)))) E.cs w4:= .step w4.tape _ (A.ja rfl) e14 (.refl _ _ _);obtain⟨C,hC,hCs,hCk⟩:=H.blk;have hdl:d< w.heap.size:=(Array.getElem?_eq_some_iff.1 hC).1;have hC4:w4.heap[d]? =some (.cells C 44):=by rw[o4 d (by omega),o3 d (by omega),o2 d (by omega),o1 d hdl];exact hC
 have hcell:w4.cell? ⟨d,i,none⟩=C[i]? :=by simp[World.cell?,hC4]
 have hfz:w4.frozen? ⟨d,i,none⟩=false:=by simp[World.frozen?,hC4]
 have e15:stepG Qg true (lg (qF E 7 1 (upd X7 18 (.pointer (some ⟨d,i,none⟩)))) E.cs) w4= .go (lg (qF E 7 2 (upd X7 18 (.pointer (some ⟨d,i,none⟩)))) E.cs) (w4.setCell ⟨d,i,none⟩ (.int .u64 ea)) (seen Qg fQ #[⟨.cell ⟨d,i,none⟩,true,false⟩]):=by
  have:=aI.skip (Ww (.int .i64 E.first) (.int .i64 E.n) E.x2 X7 E.cs (.pointer (some ⟨d,i,none⟩))) (QJ (.int .i64 E.first) (.int .i64 E.n) E.x2 X7 E.cs d i ea f79) (w:=w4) (w':=w4.setCell ⟨d,i,none⟩ (.int .u64 ea)) (es:=#[⟨.cell ⟨d,i,none⟩,true,false⟩])
   ⟨by simp,by simp,⟨C[i]'(by omega),by rw[hcell];simp⟩,hfz,rfl,rfl⟩
  rw[this];show GStep.go (fH _ ((qF E 7 1 (upd X7 18 (.pointer (some ⟨d,i,none⟩)))).finish _)) _ _=_;rw[T3];rfl
 have s14:=Safe.next s13 (A.ja rfl) w4.tape e15;have r15:dM Qg Goal (qF E 7 1 (upd X7 18 (.pointer (some ⟨d,i,none⟩)))) E.cs w4 (qF E 7 2 (upd X7 18 (.pointer (some ⟨d,i,none⟩)))) E.cs (w4.setCell ⟨d,i,none⟩ (.int .u64 ea)):= .step w4.tape _ (A.ja rfl) e15 (.refl _ _ _);generalize hX8:upd X7 18 (.pointer (some ⟨d,i,none⟩))=X8 at r14 r15 s13 s14;have f83:X8 3= .int .i64 i:=by rw[←hX8];exact f73
 have f86:X8 6=eQ d E.n:=by rw[←hX8];exact f76
 have u3:upd X8 3 (.int .i64 i)=X8:=by rw[←f83];exact kL X8 3
 generalize hw5:w4.setCell ⟨d,i,none⟩ (.int .u64 ea)=w5 at r15 s14;have r16:=A.dX (OY (.int .i64 E.first) (.int .i64 E.n) E.x2 i X8 E.cs) (Nl (.int .i64 E.first) (.int .i64 E.n) E.x2 i X8 E.cs) w5;rw[u3,show IntKind.i64.wrap ((i:Int)+1)=((i+1:Nat):Int) by rw[wrap_small (by omega) (by omega)];omega] at r16;have s15:=Safe.run s14 r16;have hsz5:w5.heap.size=w4.heap.size:=by rw[←hw5];simp[World.setCell]
 have h5:∀r,r≠d->w5.heap[r]? =w4.heap[r]? :=λr hr=>by rw[←hw5];simp[World.setCell,Array.getElem?_modify,Xl hr]
 refine⟨ea,upd X8 19 (.int .i64 ((i+1:Nat):Int)),w5,r1.trans (r2.trans (r3.trans (r4.trans (r5.trans (r6.trans (r7.trans (r8.trans (r9.trans (r10.trans (r11.trans (r12.trans (r13.trans (r14.trans (r15.trans r16)))))))))))))),s15,f86,⟨by rw[hsz5];exact k4.1,λr hr=>?_⟩,H.new,⟨C.setIfInBounds i (.int .u64 ea),?_,by simp[hCs],λk hk=>?_⟩,λk hk=>?_⟩
 ·rw[h5 r (by have:=H.new;omega)];exact k4.2 r hr
 ·rw[←hw5];simp[World.setCell,Array.getElem?_modify,hC4]
 ·rcases Nat.lt_succ_iff_lt_or_eq.1 hk with hlt|rfl
  ·rw[upd_ne _ _ (by omega),Array.getElem?_setIfInBounds_ne (by omega)];exact hCk k hlt
  ·rw[upd_same,Array.getElem?_setIfInBounds_self_of_lt (by omega)]
 ·rcases Nat.lt_succ_iff_lt_or_eq.1 hk with hlt|rfl
  ·rw[upd_ne _ _ (by omega)];exact H.nK k hlt
  ·rw[upd_same];exact⟨X3,w2,s5,f34,f37,k2⟩
end
end
section
open Go.Conc
open Go.ConcN (upd upd_same upd_ne)
section
variable {L:aA} {T:aN} {Goal:Frame->List Frame->World->Prop} {E:Entry L}
theorem GI(A:eY L T Goal)(K:iM L E)(hn:E.n<=64):∀(m i:Nat) (a:Nat->Int) (xs:Nat->Value) (w:World),m+i=E.n->pe Goal E i a d xs w->
  ∃a' xs' w',dM Qg Goal (qF E 2 0 (upd xs 3 (.int .i64 i))) E.cs w (qF E 2 0 (upd xs' 3 (.int .i64 E.n))) E.cs w'/\pe Goal E E.n a' d xs' w'
 |0,i,a,xs,w,he,H=>by
  obtain rfl:i=E.n:=by omega
  exact⟨a,xs,w,.refl _ _ _,H⟩
 |m+1,i,a,xs,w,he,H=>by
  obtain⟨e,xs1,w1,r1,H1⟩:=NA A K H (by omega) hn;obtain⟨a',xs',w',r2,H2⟩:=GI A K hn m (i+1) (upd a i e) xs1 w1 (by omega) H1;exact⟨a',xs',w',r1.trans r2,H2⟩
structure yR(Goal:Frame->List Frame->World->Prop)(E:Entry L)(a:Nat->Int)(d:Nat)(xs:Nat->Value)(w:World):Prop where
 row:xs 6=eQ d E.n
 keeps:iy E w
 new:E.w0.heap.size<=d
 blk: ∃C:Array Value,w.heap[d]? =some (.cells C 44)/\C.size=E.n/\∀k,k< E.n->C[k]? =some (.int .u64 (a k))
 nK:∀k,k< E.n->uv Goal E k (a k)
theorem JQ(A:eY L T Goal){a:Nat->Int}{xs:Nat->Value}(H:pe Goal E E.n a d xs w):
  ∃xs',dM Qg Goal (qF E 2 0 (upd xs 3 (.int .i64 E.n))) E.cs w (kS (.int .i64 E.first) (.int .i64 E.n) E.x2 xs' E.cs) E.cs w/\yR Goal E a d xs' w:=by
 have hin:decide ((E.n:Int)< (E.n:Int))=false:=by simp
 have r1:=A.dX (CO (.int .i64 E.first) E.x2 E.n E.n xs E.cs) (Dk (.int .i64 E.first) E.x2 E.n E.n xs E.cs) w;rw[hin] at r1;have r2:=A.dX (Q6 (.int .i64 E.first) (.int .i64 E.n) E.x2 (upd xs 3 (.int .i64 E.n)) E.cs) (fr':=kS (.int .i64 E.first) (.int .i64 E.n) E.x2 (upd xs 3 (.int .i64 E.n)) E.cs) rfl w;exact⟨upd xs 3 (.int .i64 E.n),r1.trans r2,H.row,H.keeps,H.new,H.blk,H.nK⟩
theorem Pt(A:eY L T Goal)(K:iM L E){xs:Nat->Value}(hs:Safe Qg Goal (qF E 1 0 xs) E.cs E.w0)(hf:∀r,feed Qg (aY (lg (qF E 1 0 xs) E.cs)) [.ref r]=some ([.nw (.cells (Array.replicate E.n (.int .u64 0)) 44)],.inl (.value (eQ r E.n)))):
  ∃xs' w',dM Qg Goal (qF E 1 0 xs) E.cs E.w0 (qF E 2 0 (upd xs' 3 (.int .i64 ((0:Nat):Int)))) E.cs w'/\pe Goal E 0 (λ_=>0) E.w0.heap.size xs' w':=by
 have _:=K;have e1:stepG Qg true (lg (qF E 1 0 xs) E.cs) E.w0= .go (lg (qF E 1 1 (upd xs 6 (eQ E.w0.heap.size E.n))) E.cs) {E.w0 with heap:=E.w0.heap.push (.cells (Array.replicate E.n (.int .u64 0)) 44)} #[]:=by
  have:=aI.value (Lq (.int .i64 E.first) (.int .i64 E.n) E.x2 xs E.cs) (hf E.w0.heap.size) (w:=E.w0) (w':={E.w0 with heap:=E.w0.heap.push (.cells (Array.replicate E.n (.int .u64 0)) 44)}) (es:=#[]) ⟨rfl,rfl,rfl⟩;rw[this,eS];show GStep.go (fH _ ((qF E 1 0 xs).finish _)) _ #[]=_;rw[Tc];rfl
 have s1:=Safe.next hs (A.ja rfl) E.w0.tape e1;have r1:dM Qg Goal (qF E 1 0 xs) E.cs E.w0 _ E.cs _:= .step E.w0.tape _ (A.ja rfl) e1 (.refl _ _ _);have r2:=A.dX (JZ (.int .i64 E.first) (.int .i64 E.n) E.x2 (upd xs 6 (eQ E.w0.heap.size E.n)) E.cs) (OX (.int .i64 E.first) (.int .i64 E.n) E.x2 (upd xs 6 (eQ E.w0.heap.size E.n)) E.cs) {E.w0 with heap:=E.w0.heap.push (.cells (Array.replicate E.n (.int .u64 0)) 44)};refine⟨upd xs 6 (eQ E.w0.heap.size E.n),_,r1.trans r2,Safe.run s1 r2,rfl,⟨by simp,λr hr=>?_⟩,iR _,⟨Array.replicate E.n (.int .u64 0),by simp,by simp,λk hk=>absurd hk (by omega)⟩,λk hk=>absurd hk (by omega)⟩;simp[Array.getElem?_push];omega
end
theorem VA{L:aA}{T:aN}{Goal:Frame->List Frame->World->Prop}(A:eY L T Goal){x0 x1 x2 y2:Value}{ρ:Nat->Nat->Prop}{w0 v0:World}{cs:List Frame}(hs:Safe Qg Goal (Frame.enter Qg fQ #[x0,x1,x2] .normal) cs w0)(bi:lJ ρ)(cy:∀r s,ρ r s->r< w0.heap.size/\s< v0.heap.size)(obj:∀r s,ρ r s->∃o q,w0.heap[r]? =some o/\v0.heap[s]? =some q/\OR L (fM ρ) o q)(ij:VR L ρ x2 y2)(yx:∀g,g< Tryz.prog.globals.size->ρ g g):
  ∃(first:Int) (n:Nat),x0= .int .i64 first/\x1= .int .i64 n/\(n=1\/n=4\/n=16\/n=64)/\
   ∃a d xs w,dM Qg Goal (Frame.enter Qg fQ #[x0,x1,x2] .normal) cs w0 (kS (.int .i64 first) (.int .i64 n) x2 xs cs) cs w/\iM L (⟨first,n,x2,y2,ρ,w0,v0,cs⟩:Entry L)/\yR Goal (⟨first,n,x2,y2,ρ,w0,v0,cs⟩:Entry L) a d xs w:=by
 have r0:=A.dX (JR x0 x1 x2 cs) (NY x0 x1 x2 cs) w0;have s0:=Safe.run hs r0;obtain⟨first,rfl⟩:=LG _ _ _ _ _ (A.dW s0 rfl);have r1:=A.dX (IX x1 x2 first un cs) (OZ x1 x2 first un cs) w0;have s1:=Safe.run s0 r1;obtain⟨n,rfl⟩:=OL _ _ _ _ _ _ (A.dW s1 rfl);have r2:=A.dX (Re (.int .i64 first) x2 n (upd un 16 (.bool (decide (first< 0)))) cs) (Qb (.int .i64 first) x2 n (upd un 16 (.bool (decide (first< 0)))) cs) w0;have s2:=Safe.run s1 r2;generalize upd (upd un 16 (.bool (decide (first< 0)))) 17 (.bool (decide (n< 0)))=X at r2 s2;have fin:∀(k:Nat) (xs:Nat->Value),k<=64->n=k->dM Qg Goal (frQ 0 6 (qT (.int .i64 first) (.int .i64 n) x2 (iq (decide (n=1)) (decide (n=4)) (decide (n=16)) (decide (n=64)) X))) cs w0 (frQ 1 0 (qT (.int .i64 first) (.int .i64 n) x2 xs)) cs w0->
   (∀r,feed Qg (aY (lg (frQ 1 0 (qT (.int .i64 first) (.int .i64 n) x2 xs)) cs)) [.ref r]=some ([.nw (.cells (Array.replicate k (.int .u64 0)) 44)],.inl (.value (eQ r k))))->
   ∃a d xs w,dM Qg Goal (Frame.enter Qg fQ #[.int .i64 first,.int .i64 n,x2] .normal) cs w0 (kS (.int .i64 first) (.int .i64 k) x2 xs cs) cs w/\iM L (⟨first,k,x2,y2,ρ,w0,v0,cs⟩:Entry L)/\yR Goal (⟨first,k,x2,y2,ρ,w0,v0,cs⟩:Entry L) a d xs w:=by
  intro k xs hk hnk r3 hf;subst hnk;have K:iM L (⟨first,k,x2,y2,ρ,w0,v0,cs⟩:Entry L):=⟨bi,cy,obj,ij,yx⟩
  obtain⟨xs1,w1,r4,H⟩:=Pt A K (Safe.run s2 r3) hf;obtain⟨a,xs2,w2,r5,H2⟩:=GI A K hk k 0 _ xs1 w1 rfl H;obtain⟨xs3,r6,D⟩:=JQ A H2;exact⟨a,_,xs3,w2,r0.trans (r1.trans (r2.trans (r3.trans (r4.trans (r5.trans r6))))),K,D⟩
 by_cases h1:n=1
 ·subst h1;exact⟨first,1,rfl,rfl,.inl rfl,fin 1 _ (by omega) rfl (A.dX (R3 (.int .i64 first) (.int .i64 1) x2 X cs _ _ _) (U7 (.int .i64 first) (.int .i64 1) x2 X cs _ _ _) w0) (λr=>Ql ..)⟩
 by_cases h4:n=4
 ·subst h4;exact⟨first,4,rfl,rfl,.inr (.inl rfl),fin 4 _ (by omega) rfl (A.dX (Om (.int .i64 first) (.int .i64 4) x2 X cs _ _) (Jg (.int .i64 first) (.int .i64 4) x2 X cs _ _) w0) (λr=>To ..)⟩
 by_cases h16:n=16
 ·subst h16;exact⟨first,16,rfl,rfl,.inr (.inr (.inl rfl)),fin 16 _ (by omega) rfl (A.dX (Mr (.int .i64 first) (.int .i64 16) x2 X cs _) (Vv (.int .i64 first) (.int .i64 16) x2 X cs _) w0) (λr=>PW ..)⟩
 by_cases h64:n=64
 ·subst h64;exact⟨first,64,rfl,rfl,.inr (.inr (.inr rfl)),fin 64 _ (by omega) rfl (A.dX (OG (.int .i64 first) (.int .i64 64) x2 X cs) (KM (.int .i64 first) (.int .i64 64) x2 X cs) w0) (λr=>JI ..)⟩
 ·exfalso;rw[YN h1,YN h4,YN h16,YN h64] at s2;have rb:=A.dX (KQ (.int .i64 first) (.int .i64 n) x2 X cs) (fr':=vS (.int .i64 first) (.int .i64 n) x2 X cs) rfl w0
  have:=A.dW (Safe.run s2 rb) (Vd ..);rw[Qq] at this;cases this
end
section
open Go.Conc
open Go.ConcN (upd upd_same upd_ne)
structure jE where
 fr:Frame
 cs:List Frame
 w:World
def ny(Q:Program)(Goal:Frame->List Frame->World->Prop)(s1 s:jE):Prop:=∃t es,¬ Goal s.fr s.cs s.w/\stepG Q true (lg s.fr s.cs) {s.w with tape:=t}= .go (lg s1.fr s1.cs) s1.w es
theorem IK{Q:Program}{Goal:Frame->List Frame->World->Prop}{fr:Frame}{cs:List Frame}(h:Safe Q Goal fr cs w):Acc (ny Q Goal) ⟨fr,cs,w⟩:=by
 refine Safe.CU (X:=λfr cs w=>Acc (ny Q Goal) ⟨fr,cs,w⟩) ?_ h;intro fr cs w _ ih;refine Acc.intro _ λs1 h1=>?_;obtain⟨t,es,hn,e⟩:=h1;exact ih t s1.fr s1.cs s1.w es hn e
theorem QC{L:aA}{c:bO}{s:ByteArray}(h:CR L τ c (.string s) y):y= .string s:=by
 cases c with
 |any=>cases h;rfl
 |own=>cases h;rfl
 |box=>cases h;rfl
 |jo=>rcases h with ⟨h,_⟩|⟨_,_,h,_⟩<;>cases h
 |dV=>rcases h with ⟨h,_⟩|⟨h,_⟩|⟨_,_,_,h,_⟩<;>cases h
 |loc=>rcases h with ⟨h,_⟩|⟨h,_⟩|⟨_,_,_,h,_⟩<;>cases h
theorem La{L:aA}{c:bO}{k:IntKind}{n:Int}(h:CR L τ c (.int k n) y):y= .int k n:=by
 cases c with
 |any=>cases h;rfl
 |own=>cases h;rfl
 |box=>cases h;rfl
 |jo=>rcases h with ⟨h,_⟩|⟨_,_,h,_⟩<;>cases h
 |dV=>rcases h with ⟨h,_⟩|⟨h,_⟩|⟨_,_,_,h,_⟩<;>cases h
 |loc=>rcases h with ⟨h,_⟩|⟨h,_⟩|⟨_,_,_,h,_⟩<;>cases h
section
variable {L:aA} {T:aN} {Goal:Frame->List Frame->World->Prop}
structure gX(L:aA)(T:aN)(Goal:Frame->List Frame->World->Prop)(E:Entry L)(frQ:Frame)(D:List Frame)(ow:Nat->Prop)(s:jE)(g:Goroutine)(v:World):Prop where
 safe:Safe Qg Goal s.fr s.cs s.w
 sub: ∃sub,s.cs=sub++frQ::E.cs
 ko: ∃τ,iH Tryz.prog Gg L T τ (frQ::E.cs++ [wall]) D (lg s.fr s.cs) s.w g v/\(∀r t,τ.un r t->E.ρ r t\/ow t)/\∀r t,τ.mine r t->ow t/\E.w0.heap.size<=r
 keeps:iy E s.w
theorem gX.running{E:Entry L}{frQ:Frame}{s:jE}(h:gX L T Goal E frQ D ow s g v):g.status= .running:=by
 obtain⟨τ,hS,_⟩:=h.ko;exact hS.g.status.2
theorem gX.acc{E:Entry L}{frQ:Frame}{s:jE}(h:gX L T Goal E frQ D ow s g v):Acc (ny Qg Goal) s:=IK h.safe
theorem gX.low{E:Entry L}{frQ:Frame}{s:jE}(h:gX L T Goal E frQ D ow s g v)(ow':Nat->Prop)(ho:∀t,ow t->ow' t):gX L T Goal E frQ D ow' s g v:=by
 obtain⟨τ,hS,h1,h2⟩:=h.ko;exact⟨h.safe,h.sub,⟨τ,hS,λr t hx=>(h1 r t hx).imp id (ho t),λr t hx=>⟨ho t (h2 r t hx).1,(h2 r t hx).2⟩⟩,h.keeps⟩
theorem gX.lH{E:Entry L}{frQ:Frame}{s:jE}{v2:World}(h:gX L T Goal E frQ D ow s g v)(hs:v.heap.size<=v2.heap.size)(ho:∀t,(∃r,E.ρ r t)\/ow t->v2.heap[t]? =v.heap[t]?):gX L T Goal E frQ D ow s g v2:=by
 obtain⟨τ,hS,h1,h2⟩:=h.ko;refine⟨h.safe,h.sub,⟨τ,⟨hS.g,hS.bi,hS.flat,λr t hx=>⟨(hS.cy r t hx).1,Xc (hS.cy r t hx).2 hs⟩,λr t hx=>?_⟩,h1,h2⟩,h.keeps⟩;obtain⟨o,q,e1,e2,e3⟩:=hS.obj r t hx;refine⟨o,q,e1,?_,e3⟩;rw[ho t ((h1 r t hx).imp (λx=>⟨r,x⟩) id)];exact e2
structure Jt(E:Entry L)(ow ow':Nat->Prop)(v v1:World)(fs:Array Event):Prop where
 grow:v.heap.size<=v1.heap.size
 tape:v1.tape=v.tape
 os:v1.os=v.os
 output:v1.output=v.output
 gf:∀t,t< v.heap.size->¬ ow t->v1.heap[t]? =v.heap[t]?
 own:∀t,ow' t↔ow t\/(v.heap.size<=t/\t< v1.heap.size)
 oQ:∀e∈fs,kK (λt=>(∃r,E.ρ r t)\/ow' t) ow' e
theorem gX.step(A:eY L T Goal){E:Entry L}{frQ:Frame}{c0:Frame}{D:List Frame}{ow:Nat->Prop}{s:jE}{g:Goroutine}{v:World}(h:gX L T Goal E frQ (c0::D) ow s g v):
  (∃g1 v1 fs s1,stepG Tryz.prog false g v= .go g1 v1 fs/\gX L T Goal E frQ (c0::D) (λt=>ow t\/(v.heap.size<=t/\t< v1.heap.size)) s1 g1 v1/\ny Qg Goal s1 s/\Jt E ow (λt=>ow t\/(v.heap.size<=t/\t< v1.heap.size)) v v1 fs)
  \/∃x y fs w1,stepG Tryz.prog false g v= .go {frame:=c0.finish y,callers:=D,status:= .running,dying:=none} v fs/\Safe Qg Goal (frQ.finish x) E.cs w1/\iy E w1/\(∀t,x= .string t->y= .string t)/\(∀e,x= .int .u64 e->y= .int .u64 e)/\∀e∈fs,kK (λt=>(∃r,E.ρ r t)\/ow t) ow e:=by
 obtain⟨sub,dH⟩:=h.sub;obtain⟨τ,hS,hun,hmi⟩:=h.ko;obtain⟨fr,cs,w⟩:=s;have hsafe:Safe Qg Goal fr cs w:=h.safe;simp only at dH hS;have hng: ¬ Goal fr cs w:=λhg=>by have:=(A.goal _ _ _ hg).1;rw[dH] at this;simp at this
 have hn:fr.fn≠T.bU:=λe=>by
  have key:∀a b,iK Tryz.prog Gg L T τ a b->a.fn=T.bU->False:=by
   intro a b hx e;cases hx with
   |run hx=>exact hx.np e
   |bU hp _ _=>exact A.qc hp
  exact key _ _ hS.g.frame e
 obtain⟨fr1,cs1,w1,es,e,hfi,hsafe1⟩:=Safe.goes hsafe hng (mD w v);by_cases hl:fr.mode= .returning/\fr.defers= []/\cs=frQ::E.cs
 ·obtain⟨hm,hd,rfl⟩:=hl;obtain⟨x,fn,hfn,hr,rfl,rfl,rfl⟩:=El A.stat hS hn hm hd _ e;obtain⟨y,fs,hxy,hev,hcall,hkind,_,hst⟩:=hS.last A.stat false hn ⟨hm,hd,rfl⟩ hfn hr;refine .inr ⟨x,y,fs,_,?_,hsafe1,h.keeps,λt ht=>QC (ht ▸ hxy),λe he=>La (he ▸ hxy),λe he=>(hev e he).mono (λt ⟨r,hx⟩=>(hun r t hx).imp (λx=>⟨r,x⟩) id) (λt ⟨r,hx⟩=>(hmi r t hx).1)⟩;rw[hst];simp only[doReturn,hkind,GStep.after,XG]
 ·obtain⟨h1,v1,fs,τ1,e1,hS1,hD,hgr⟩:=hS.step A.stat false hn (λx=>hl ⟨x.1,x.2.1,Yr ((show cs++ [wall]=frQ::E.cs++ [wall] from x.2.2).trans (by simp))⟩) e hfi;obtain⟨cs2,ds2,hg2,_,_,_⟩:=hS1.g.parts;have hcs1:cs1=cs2++frQ::E.cs:=by
   have:=congrArg Goroutine.callers hg2;have e2:cs1++ [wall]=(cs2++frQ::E.cs)++ [wall]:=(show cs1++ [wall]=cs2++(frQ::E.cs++ [wall]) from this).trans (by simp);exact Yr e2
  have hke:iy E w:=h.keeps;have hk1:iy E w1:=⟨Xb hke.1 hgr.grow,λr hr=>by rw[hgr.nD r (Xc hr hke.1) (λt hx=>by have:=(hmi r t hx).2;omega),hke.2 r hr]⟩
  refine .inl ⟨h1,v1,fs,⟨fr1,cs1,w1⟩,e1,⟨hsafe1,⟨cs2,hcs1⟩,⟨τ1,hS1,λr t hx=>?_,λr t hx=>?_⟩,hk1⟩,⟨_,_,hng,e⟩,hD.grow,hD.tape,hD.os,hD.output,λt ht hno=>hD.gf t ht λr hx=>hno (hmi r t hx).1,λt=>Iff.rfl,λev hev=>(hD.oQ ev hev).mono ?_ ?_⟩
  ·rcases hgr.un r t hx with hx|hx
   ·exact (hun r t hx).imp id .inl
   ·exact .inr (.inr ⟨hx.2.2.1,hx.2.2.2⟩)
  ·rcases hgr.mine r t hx with hx|hx
   ·exact⟨.inl (hmi r t hx).1,(hmi r t hx).2⟩
   ·exact⟨.inr ⟨hx.2.2.1,hx.2.2.2⟩,Xb hke.1 hx.1⟩
  ·rintro t (⟨r,hx⟩|hx)
   ·exact (hun r t hx).imp (λx=>⟨r,x⟩) .inl
   ·exact .inr (.inr hx)
  ·rintro t (⟨r,hx⟩|hx)
   ·exact .inl (hmi r t hx).1
   ·exact .inr hx
end
end
section
open Go.Conc
set_option maxRecDepth 100000
noncomputable abbrev Pg:Program:=Tryz.prog
def ptr(b:Nat):Value:=.pointer (some ⟨b,0,none⟩)
def aM(m:Mark):Event:=⟨.mark m,false,true⟩
noncomputable def sR(f:FuncId)(args:Array Value)(cs:List Frame):Goroutine:={frame:=Frame.enter Pg f args .normal,callers:=cs,status:=.running,dying:=none}
def jJ:kW:=.shp (some (188,2))
def unit:Value:=.tuple #[]
def fin(g:Goroutine)(v:Value):Goroutine:=fH g (g.frame.finish v)
section
variable (cs:List Frame) (wg:Nat)
noncomputable def xL:Goroutine:=sR 88 #[ptr wg,.int .i64 (-1)] cs
theorem RU:bf Pg false 11 (xL cs wg):=λw=>by kernel_rfl
noncomputable def vm:Goroutine:=aE Pg false 11 (xL cs wg)
theorem wV:aI Pg false (vm cs wg):=⟨λw=>by kernel_rfl,by kernel_rfl,by kernel_rfl⟩
theorem Ib:feed Pg (aY (vm cs wg)) [jJ,jJ]=some ([.shp wg,.shp wg],.inl (.value (ptr wg))):=by kernel_rfl
noncomputable def pT:Goroutine:=fin (vm cs wg) (ptr wg)
theorem Wn(w:World):stepG Pg false (pT cs wg) w=.go (fin (pT cs wg) unit) w #[aM (.releaseMerge ⟨wg,0,none⟩)]:=by kernel_rfl
theorem FI:(pT cs wg).status=.running:=by kernel_rfl
theorem O0:bf Pg false 3 (fin (pT cs wg) unit):=λw=>by kernel_rfl
noncomputable def oc:Goroutine:=aE Pg false 3 (fin (pT cs wg) unit)
theorem Ik(w:World):stepG Pg false (oc cs wg) w=.go (fin (oc cs wg) unit) w #[aM .disable]:=by kernel_rfl
theorem Av:(oc cs wg).status=.running:=by kernel_rfl
theorem Pb:bf Pg false 11 (fin (oc cs wg) unit):=λw=>by kernel_rfl
noncomputable def sG:Goroutine:=aE Pg false 11 (fin (oc cs wg) unit)
theorem Py(w:World):stepG Pg false (sG cs wg) w=.go (fin (sG cs wg) (.bool false)) w #[]:=by kernel_rfl
theorem Q0:(sG cs wg).status=.running:=by kernel_rfl
theorem Wx:bf Pg false 22 (fin (sG cs wg) (.bool false)):=λw=>by kernel_rfl
noncomputable def pr:Goroutine:=aE Pg false 22 (fin (sG cs wg) (.bool false))
theorem RL:aF Pg false (11+(1+22)) (fin (oc cs wg) unit) (pr cs wg):=(Pb cs wg).aO.trans ((aF.one (Q0 cs wg) (Py cs wg)).trans (Wx cs wg).aO)
theorem zm:aI Pg false (pr cs wg):=⟨λw=>by kernel_rfl,by kernel_rfl,by kernel_rfl⟩
def less(st:Int):Int:=IntKind.u64.wrap (st+18446744069414584320)
theorem LH(st:Int):feed Pg (aY (pr cs wg)) [.val (.int .u64 st)]=some ([.mk (.extern 148),.ld .atomic ⟨wg,0,none⟩,.st .atomic ⟨wg,0,none⟩ (.int .u64 (less st))],.inl (.value (.int .u64 (less st)))):=by kernel_rfl
theorem LX(a:Addr):seen Pg (pr cs wg).frame.fn #[aM (.extern 148),⟨.cell a,false,true⟩,⟨.cell a,true,true⟩]=#[⟨.cell a,false,true⟩,⟨.cell a,true,true⟩]:=by kernel_rfl
noncomputable def mK(st:Int):Goroutine:=fin (pr cs wg) (.int .u64 st)
end
end
end Go.Proofs.YtldmcdeibiclkaaGreatDoor.U
