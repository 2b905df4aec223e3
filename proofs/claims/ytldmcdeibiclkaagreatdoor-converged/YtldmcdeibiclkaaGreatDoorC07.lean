/-
  Toward converged_holds: THE LONE ONE's tree.ofSegments: its steps, on.
-/
import Derived.Test.YtldmcdeibiclkaaGreatDoorC06
import Derived.Test.YtldmcdeibiclkaaGreatDoorRows
set_option linter.unusedVariables false
set_option linter.unusedSimpArgs false
set_option maxRecDepth 100000
set_option maxHeartbeats 20000000
namespace Go.Proofs.YtldmcdeibiclkaaGreatDoor.U
variable {w v:World}{d r s:Nat}{D:List Frame}{ow:Nat->Prop}{g:Goroutine}{τ:ai}{y:Value}{f:FuncId}{ys:Array Value}{m:Int}
section
open Go.Conc
open Go.ConcN (upd)
set_option maxRecDepth 100000
def er(d n:Nat):Value:= .slice (some ⟨d,0,none⟩) n n
section
variable (x0 x1 x2:Value) (a n i:Int) (xs:Nat->Value) (cs:List Frame) (b1 b2 b3 b4:Bool)
theorem Sn:ez Qg fQ 6 (frQ 0 6 (qT x0 x1 x2 (gV true b2 b3 b4 xs))) cs:=⟨λw=>by kernel_rfl,by kernel_rfl,by kernel_rfl⟩
theorem Tz:(aE Qg true 6 (lg (frQ 0 6 (qT x0 x1 x2 (gV true b2 b3 b4 xs))) cs)).frame=frQ 1 0 (qT x0 x1 x2 (gV true b2 b3 b4 xs)):=by kernel_rfl
theorem R5:ez Qg fQ 7 (frQ 0 6 (qT x0 x1 x2 (gV false true b3 b4 xs))) cs:=⟨λw=>by kernel_rfl,by kernel_rfl,by kernel_rfl⟩
theorem SX:(aE Qg true 7 (lg (frQ 0 6 (qT x0 x1 x2 (gV false true b3 b4 xs))) cs)).frame=frQ 1 0 (qT x0 x1 x2 (gV false true b3 b4 xs)):=by kernel_rfl
theorem QX:ez Qg fQ 8 (frQ 0 6 (qT x0 x1 x2 (gV false false true b4 xs))) cs:=⟨λw=>by kernel_rfl,by kernel_rfl,by kernel_rfl⟩
theorem LX:(aE Qg true 8 (lg (frQ 0 6 (qT x0 x1 x2 (gV false false true b4 xs))) cs)).frame=frQ 1 0 (qT x0 x1 x2 (gV false false true b4 xs)):=by kernel_rfl
theorem Mk:ez Qg fQ 9 (frQ 0 6 (qT x0 x1 x2 (gV false false false true xs))) cs:=⟨λw=>by kernel_rfl,by kernel_rfl,by kernel_rfl⟩
theorem Jy:(aE Qg true 9 (lg (frQ 0 6 (qT x0 x1 x2 (gV false false false true xs))) cs)).frame=frQ 1 0 (qT x0 x1 x2 (gV false false false true xs)):=by kernel_rfl
theorem Uq:ez Qg fQ 6 (frQ 0 6 (qT x0 x1 x2 (gV false false false false xs))) cs:=⟨λw=>by kernel_rfl,by kernel_rfl,by kernel_rfl⟩
noncomputable def yK:Frame:=(aE Qg true 6 (lg (frQ 0 6 (qT x0 x1 x2 (gV false false false false xs))) cs)).frame
theorem U4(w:World):dK (stepG Qg true (lg (yK x0 x1 x2 xs cs) cs) w)=false:=by kernel_rfl
theorem O1:(yK x0 x1 x2 xs cs).fn=fQ:=by kernel_rfl
theorem PK:aH Qg true (lg (frQ 1 0 (qT x0 x1 x2 xs)) cs):=⟨λw=>by kernel_rfl,by kernel_rfl,by kernel_rfl⟩
theorem NB(r:Nat):feed Qg (aV (lg (frQ 1 0 (qT x0 (.int .i64 1) x2 xs)) cs)) [.ref r]=some ([.nw (.cells (Array.replicate 1 (.int .u64 0)) 44)],.inl (.value (er r 1))):=by kernel_rfl
theorem IK(r:Nat):feed Qg (aV (lg (frQ 1 0 (qT x0 (.int .i64 4) x2 xs)) cs)) [.ref r]=some ([.nw (.cells (Array.replicate 4 (.int .u64 0)) 44)],.inl (.value (er r 4))):=by kernel_rfl
theorem K7(r:Nat):feed Qg (aV (lg (frQ 1 0 (qT x0 (.int .i64 16) x2 xs)) cs)) [.ref r]=some ([.nw (.cells (Array.replicate 16 (.int .u64 0)) 44)],.inl (.value (er r 16))):=by kernel_rfl
theorem JS(r:Nat):feed Qg (aV (lg (frQ 1 0 (qT x0 (.int .i64 64) x2 xs)) cs)) [.ref r]=some ([.nw (.cells (Array.replicate 64 (.int .u64 0)) 44)],.inl (.value (er r 64))):=by kernel_rfl
theorem Qd(v:Value):(frQ 1 0 (qT x0 x1 x2 xs)).finish v=frQ 1 1 (qT x0 x1 x2 (upd xs 6 v)):=by kernel_rfl
theorem QP:ez Qg fQ 7 (frQ 1 1 (qT x0 x1 x2 xs)) cs:=⟨λw=>by kernel_rfl,by kernel_rfl,by kernel_rfl⟩
theorem UR:(aE Qg true 7 (lg (frQ 1 1 (qT x0 x1 x2 xs)) cs)).frame=frQ 2 0 (qT x0 x1 x2 (upd xs 3 (.int .i64 0))):=by kernel_rfl
theorem E9:ez Qg fQ 1 (frQ 2 0 (qT x0 (.int .i64 n) x2 (upd xs 3 (.int .i64 i)))) cs:=⟨λw=>by kernel_rfl,by kernel_rfl,by kernel_rfl⟩
theorem AO:(aE Qg true 1 (lg (frQ 2 0 (qT x0 (.int .i64 n) x2 (upd xs 3 (.int .i64 i)))) cs)).frame=frQ 2 1 (qT x0 (.int .i64 n) x2 (upd (upd xs 3 (.int .i64 i)) 14 (.bool (decide (i< n))))):=by kernel_rfl
theorem QT:ez Qg fQ 10 (frQ 2 1 (qT (.int .i64 a) x1 x2 (upd (upd xs 3 (.int .i64 i)) 14 (.bool true)))) cs:=⟨λw=>by kernel_rfl,by kernel_rfl,by kernel_rfl⟩
theorem OG:(aE Qg true 10 (lg (frQ 2 1 (qT (.int .i64 a) x1 x2 (upd (upd xs 3 (.int .i64 i)) 14 (.bool true)))) cs)).frame=frQ 4 0 (qT (.int .i64 a) x1 x2 (upd (upd (upd xs 3 (.int .i64 i)) 14 (.bool true)) 4 (.int .i64 (IntKind.i64.wrap (a+i))))):=by kernel_rfl
theorem KI:ez Qg fQ 5 (frQ 2 1 (qT x0 x1 x2 (upd xs 14 (.bool false)))) cs:=⟨λw=>by kernel_rfl,by kernel_rfl,by kernel_rfl⟩
noncomputable def kC:Frame:=(aE Qg true 5 (lg (frQ 2 1 (qT x0 x1 x2 (upd xs 14 (.bool false)))) cs)).frame
theorem Uf:(kC x0 x1 x2 xs cs).mode= .returning/\(kC x0 x1 x2 xs cs).defers= []/\(kC x0 x1 x2 xs cs).fn=fQ/\(kC x0 x1 x2 xs cs).kind= .normal:=⟨by kernel_rfl,by kernel_rfl,by kernel_rfl,by kernel_rfl⟩
theorem JO(c:Frame)(w:World):stepG Qg true (lg (kC x0 x1 x2 xs (c::cs)) (c::cs)) w= .go (lg (c.finish (xs 6)) cs) w #[]:=by kernel_rfl
theorem Lq(id:Nat)(h:id=4\/id=5):aH Qg true (lg (frQ id 0 (qT x0 x1 x2 xs)) cs):=by
 rcases h with rfl|rfl
 ·exact⟨λw=>by kernel_rfl,by kernel_rfl,by kernel_rfl⟩
 ·exact⟨λw=>by kernel_rfl,by kernel_rfl,by kernel_rfl⟩
theorem KZ(id:Nat)(h:id=4\/id=5):aV (lg (frQ id 0 (qT x0 x1 x2 xs)) cs)=(do let d ←Deferred.ofValue x2 #[xs 4];invoke d.target d.args):=by
 rcases h with rfl|rfl<;>kernel_rfl
theorem TW(v:Value):(frQ 4 0 (qT x0 x1 x2 xs)).finish v=frQ 4 1 (qT x0 x1 x2 (upd xs 5 v)):=by kernel_rfl
theorem DS(v:Value):(frQ 5 0 (qT x0 x1 x2 xs)).finish v=frQ 5 1 (qT x0 x1 x2 (upd xs 8 v)):=by kernel_rfl
theorem Lk(x:Value)(w:World)(h:dK (stepG Qg true (lg (frQ 4 1 (qT x0 x1 x2 (upd xs 5 x))) cs) w)=true): ∃s,x= .string s:=by
 have no:∀y,dK (stepG Qg true (lg (frQ 4 1 (qT x0 x1 x2 (upd xs 5 y))) cs) w)=false->x=y->False:=λy hx e=>by rw[e,hx] at h;cases h
 cases x with
 |string s=>exact⟨s,rfl⟩
 |pointer p=>cases p<;>exact (no _ (by kernel_rfl) rfl).elim
 |_=>exact (no _ (by kernel_rfl) rfl).elim
theorem Fq(x:Value)(w:World)(h:dK (stepG Qg true (lg (frQ 5 1 (qT x0 x1 x2 (upd xs 8 x))) cs) w)=true): ∃s,x= .string s:=by
 have no:∀y,dK (stepG Qg true (lg (frQ 5 1 (qT x0 x1 x2 (upd xs 8 y))) cs) w)=false->x=y->False:=λy hx e=>by rw[e,hx] at h;cases h
 cases x with
 |string s=>exact⟨s,rfl⟩
 |pointer p=>cases p<;>exact (no _ (by kernel_rfl) rfl).elim
 |_=>exact (no _ (by kernel_rfl) rfl).elim
noncomputable def strLt(s:ByteArray):Value:=(feed Qg (Go.binOp .lss 9 (.string s) (.string ByteArray.empty)) []).elim undef λx=>x.2.elim id λ_=>undef
theorem JN(s:ByteArray):ez Qg fQ 1 (frQ 4 1 (qT x0 x1 x2 (upd xs 5 (.string s)))) cs:=⟨λw=>by kernel_rfl,by kernel_rfl,by kernel_rfl⟩
theorem ID(s:ByteArray):(aE Qg true 1 (lg (frQ 4 1 (qT x0 x1 x2 (upd xs 5 (.string s)))) cs)).frame=frQ 4 2 (qT x0 x1 x2 (upd (upd xs 5 (.string s)) 18 (strLt s))):=by kernel_rfl
theorem Ed(s:ByteArray):ez Qg fQ 1 (frQ 5 1 (qT x0 x1 x2 (upd xs 8 (.string s)))) cs:=⟨λw=>by kernel_rfl,by kernel_rfl,by kernel_rfl⟩
theorem Ek(s:ByteArray):(aE Qg true 1 (lg (frQ 5 1 (qT x0 x1 x2 (upd xs 8 (.string s)))) cs)).frame=frQ 5 2 (qT x0 x1 x2 (upd (upd xs 8 (.string s)) 18 (strLt s))):=by kernel_rfl
theorem JB(w:World):stepG Qg true (lg (frQ 4 2 (qT x0 x1 x2 xs)) cs) w= .go (lg (Frame.enter Qg 82 #[xs 5] .normal) (frQ 4 2 (qT x0 x1 x2 xs)::cs)) w #[]:=by kernel_rfl
theorem CL(w:World):stepG Qg true (lg (frQ 5 2 (qT x0 x1 x2 xs)) cs) w= .go (lg (Frame.enter Qg 82 #[xs 8] .normal) (frQ 5 2 (qT x0 x1 x2 xs)::cs)) w #[]:=by kernel_rfl
theorem Og(v:Value):(frQ 4 2 (qT x0 x1 x2 xs)).finish v=frQ 4 3 (qT x0 x1 x2 (upd xs 7 v)):=by kernel_rfl
theorem BE(v:Value):(frQ 5 2 (qT x0 x1 x2 xs)).finish v=frQ 5 3 (qT x0 x1 x2 (upd xs 9 v)):=by kernel_rfl
theorem JU:ez Qg fQ 3 (frQ 4 3 (qT x0 x1 x2 xs)) cs:=⟨λw=>by kernel_rfl,by kernel_rfl,by kernel_rfl⟩
theorem SK:(aE Qg true 3 (lg (frQ 4 3 (qT x0 x1 x2 xs)) cs)).frame=frQ 5 0 (qT x0 x1 x2 xs):=by kernel_rfl
theorem Du:ez Qg fQ 3 (frQ 5 3 (qT x0 x1 x2 xs)) cs:=⟨λw=>by kernel_rfl,by kernel_rfl,by kernel_rfl⟩
theorem CP:(aE Qg true 3 (lg (frQ 5 3 (qT x0 x1 x2 xs)) cs)).frame=frQ 6 0 (qT x0 x1 x2 xs):=by kernel_rfl
theorem RY(x:Value)(w:World)(h:dK (stepG Qg true (lg (frQ 6 0 (qT x0 x1 x2 (upd xs 7 x))) cs) w)=true): ∃a,x= .int .u64 a:=by
 have no:∀y,dK (stepG Qg true (lg (frQ 6 0 (qT x0 x1 x2 (upd xs 7 y))) cs) w)=false->x=y->False:=λy hx e=>by rw[e,hx] at h;cases h
 cases x with
 |int k a=>cases k<;>first|exact⟨a,rfl⟩|exact (no _ (by kernel_rfl) rfl).elim
 |pointer p=>cases p<;>exact (no _ (by kernel_rfl) rfl).elim
 |_=>exact (no _ (by kernel_rfl) rfl).elim
theorem Dx(e:Int):ez Qg fQ 1 (frQ 6 0 (qT x0 x1 x2 (upd xs 7 (.int .u64 e)))) cs:=⟨λw=>by kernel_rfl,by kernel_rfl,by kernel_rfl⟩
theorem BD(e:Int):(aE Qg true 1 (lg (frQ 6 0 (qT x0 x1 x2 (upd xs 7 (.int .u64 e)))) cs)).frame=frQ 6 1 (qT x0 x1 x2 (upd (upd xs 7 (.int .u64 e)) 18 (.bool (decide (e< 0))))):=by kernel_rfl
theorem zK(x:Value)(w:World)(h:dK (stepG Qg true (lg (frQ 6 1 (qT x0 x1 x2 (upd xs 9 x))) cs) w)=true): ∃a,x= .int .u64 a:=by
 have no:∀y,dK (stepG Qg true (lg (frQ 6 1 (qT x0 x1 x2 (upd xs 9 y))) cs) w)=false->x=y->False:=λy hx e=>by rw[e,hx] at h;cases h
 cases x with
 |int k a=>cases k<;>first|exact⟨a,rfl⟩|exact (no _ (by kernel_rfl) rfl).elim
 |pointer p=>cases p<;>exact (no _ (by kernel_rfl) rfl).elim
 |_=>exact (no _ (by kernel_rfl) rfl).elim
def oi(e f:Int)(xs:Nat->Value):Nat->Value:=upd (upd xs 7 (.int .u64 e)) 9 (.int .u64 f)
theorem Cc(e f:Int):ez Qg fQ 2 (frQ 6 1 (qT x0 x1 x2 (oi e f xs))) cs:=⟨λw=>by kernel_rfl,by kernel_rfl,by kernel_rfl⟩
theorem EN(e f:Int):(aE Qg true 2 (lg (frQ 6 1 (qT x0 x1 x2 (oi e f xs))) cs)).frame=frQ 6 3 (qT x0 x1 x2 (upd (upd (oi e f xs) 19 (.bool (decide (f< 0)))) 15 (.bool (!(decide (e=f)))))):=by kernel_rfl
theorem E0:ez Qg fQ 3 (frQ 6 3 (qT x0 x1 x2 (upd xs 15 (.bool true)))) cs:=⟨λw=>by kernel_rfl,by kernel_rfl,by kernel_rfl⟩
noncomputable def sD:Frame:=(aE Qg true 3 (lg (frQ 6 3 (qT x0 x1 x2 (upd xs 15 (.bool true)))) cs)).frame
theorem Db(w:World):dK (stepG Qg true (lg (sD x0 x1 x2 xs cs) cs) w)=false:=by kernel_rfl
theorem Gi:(sD x0 x1 x2 xs cs).fn=fQ:=by kernel_rfl
theorem JP:ez Qg fQ 5 (frQ 6 3 (qT x0 x1 x2 (upd xs 15 (.bool false)))) cs:=⟨λw=>by kernel_rfl,by kernel_rfl,by kernel_rfl⟩
theorem GN:(aE Qg true 5 (lg (frQ 6 3 (qT x0 x1 x2 (upd xs 15 (.bool false)))) cs)).frame=frQ 7 0 (qT x0 x1 x2 (upd xs 15 (.bool false))):=by kernel_rfl
theorem Q0:aH Qg true (lg (frQ 7 0 (qT x0 x1 x2 xs)) cs):=⟨λw=>by kernel_rfl,by kernel_rfl,by kernel_rfl⟩
theorem PG:aV (lg (frQ 7 0 (qT x0 x1 x2 xs)) cs)=(Instr.indexAt 147 (xs 6) (xs 3) >>=λv=>pure (.value v)):=by kernel_rfl
theorem NS(v:Value):(frQ 7 0 (qT x0 x1 x2 xs)).finish v=frQ 7 1 (qT x0 x1 x2 (upd xs 18 v)):=by kernel_rfl
theorem O9(v:Value):aH Qg true (lg (frQ 7 1 (qT x0 x1 x2 (upd xs 18 v))) cs):=⟨λw=>by kernel_rfl,by kernel_rfl,by kernel_rfl⟩
theorem NP(d k:Nat)(e:Int):feed Qg (aV (lg (frQ 7 1 (qT x0 x1 x2 (upd (upd xs 9 (.int .u64 e)) 18 (.pointer (some ⟨d,k,none⟩))))) cs)) []=some ([.st .plain ⟨d,k,none⟩ (.int .u64 e)],.inl .skip):=by kernel_rfl
theorem kF(xs:Nat->Value)(j:Nat):upd xs j (xs j)=xs:=by
 funext b;unfold upd;split
 ·rename_i h;rw[h]
 ·rfl
theorem PM(d k:Nat)(e:Int)(h:xs 9= .int .u64 e):feed Qg (aV (lg (frQ 7 1 (qT x0 x1 x2 (upd xs 18 (.pointer (some ⟨d,k,none⟩))))) cs)) []=some ([.st .plain ⟨d,k,none⟩ (.int .u64 e)],.inl .skip):=by
 have:=NP x0 x1 x2 xs cs d k e;rw[←h,kF] at this;rw[this,h]
theorem Ig:(frQ 7 1 (qT x0 x1 x2 xs)).finish undef=frQ 7 2 (qT x0 x1 x2 xs):=by kernel_rfl
theorem Rw:ez Qg fQ 6 (frQ 7 2 (qT x0 x1 x2 (upd xs 3 (.int .i64 i)))) cs:=⟨λw=>by kernel_rfl,by kernel_rfl,by kernel_rfl⟩
theorem U1:(aE Qg true 6 (lg (frQ 7 2 (qT x0 x1 x2 (upd xs 3 (.int .i64 i)))) cs)).frame=frQ 2 0 (qT x0 x1 x2 (upd (upd xs 19 (.int .i64 (IntKind.i64.wrap (i+1)))) 3 (.int .i64 (IntKind.i64.wrap (i+1))))):=by kernel_rfl
end
end
section
open Go.Conc
open Go.ConcN (upd upd_same upd_ne)
def fi(ρ:Nat->Nat->Prop):ai:=⟨ρ,λ_ _=>False,λ_ _=>False,λ_ _=>False⟩
theorem lu{ρ:Nat->Nat->Prop}:(fi ρ).un r s↔ρ r s:=by simp[fi,ai.un]
theorem ti{ρ:Nat->Nat->Prop}: ¬ (fi ρ).mine r s:=by simp[fi,ai.mine]
theorem Ga{ρ:Nat->Nat->Prop}(hb:lV ρ):Fit (fi ρ) where
 own:=λ_ _ h=>h.elim
 two:=λ_ _ _ _ h=>h.elim
 mf:=λ_ _ _ _ h=>h.elim
 mI:=λ_ _ _ h=>h.elim
 fn:=λr s t h k=>hb.fn r s t (lu.1 h) (lu.1 k)
 inj:=λr s t h k=>hb.inj r s t (lu.1 h) (lu.1 k)
section
variable {P:Program} {G:Array Func} {L:ax} {T:aN} {ρ:Nat->Nat->Prop} {Goal:Frame->List Frame->World->Prop}
theorem sH(S:Stat P G L T)(hfl:T.fl=false)(hf:L.fn f)(hn:f≠T.bJ){xs:Array Value}(hT:TR L (fi ρ) f xs ys)(B D:List Frame)(hb:lV ρ)(hg:∀g,g< T.ng->ρ g g)(hd:∀r s,ρ r s->r< w.heap.size/\s< v.heap.size)(ho:∀r s,ρ r s->∃o q,w.heap[r]? =some o/\v.heap[s]? =some q/\OR L (fi ρ) o q):
  iq P G L T (fi ρ) B D {frame:=Frame.enter (gp P G) f xs .normal,callers:=B,status:= .running,dying:=none} w {frame:=Frame.enter P f ys .normal,callers:=D,status:= .running,dying:=none} v:=by
 refine⟨⟨.run (bP.enter S.bX hf hn hT),⟨rfl,rfl⟩,⟨rfl,rfl⟩,⟨rfl,rfl⟩,[],[],rfl,rfl,.nil _,rfl⟩,Ga hb,⟨λhx=>(by rw[hfl] at hx;cases hx),hg⟩,λr s h=>hd r s (lu.1 h),λr s h=>?_⟩;obtain⟨o,q,h1,h2,h3⟩:=ho r s (lu.1 h);exact⟨o,q,h1,h2,KR.nt (Ga hb) (lu.1 h) h3⟩
theorem Er{fn:Func}(h1:P.funcs[f]? =some fn)(h2:(fn.name== "runtime.NumGoroutine")=false)(h3:fn.body.isNone=false)(args:Array Value)(w:World)(es:Array Event):(callFunc f args).runT P w es=(.ok (.enter f args) w,es):=by
 unfold callFunc;show ((Go.program).bind _).runT P w es=_;rw[Sem.runT_bind'];simp only[Go.program,Sem.runT,h1,h2,h3,Vz,Vy];rfl
theorem eC(f:FuncId):seen P f #[]=#[]:=by simp[seen]
theorem aH.enter{m:Bool}{g:Goroutine}(h:aH P m g){f:FuncId}{args:Array Value}{w:World}(hr:(aV g).runT P w #[]=(.ok (.enter f args) w,#[]))(hk:(match g.frame.todo with| .call _ true _ _::_=>CallKind.wrapped|_=>CallKind.normal)= .normal):
  stepG P m g w= .go {frame:=Frame.enter P f args .normal,callers:=g.frame::g.callers,status:= .running,dying:=none} w #[]:=by
 rw[h.1 w];simp only[stepG.apply,hr,h.2.2,Vz,Vy,IS,GStep.after,eC,VZ];exact congrArg (λk=>GStep.go {frame:=Frame.enter P f args k,callers:=g.frame::g.callers,status:= .running,dying:=none} w) hk
theorem SG{x:Value}(hv:VR L τ.all x y){xs:Array Value}(hx:XR (VR L τ.all) xs ys):
  (∃f us us' vs vs',x= .func (.func f) us vs/\y= .func (.func f) us' vs'/\L.fj f/\XR (VR L τ.all) (us++xs++vs) (us'++ys++vs')/\(do let d ←Deferred.ofValue x xs;invoke d.target d.args)=callFunc f (us++xs++vs)/\(do let d ←Deferred.ofValue y ys;invoke d.target d.args)=callFunc f (us'++ys++vs'))
  \/ak (gp P G) (do let d ←Deferred.ofValue x xs;invoke d.target d.args):=by
 cases hv with
 |func us vs hf hu hv'=>exact .inl ⟨_,_,_,_,_,rfl,rfl,hf,XR.append (XR.append ⟨us,rfl,rfl,hu⟩ hx) ⟨vs,rfl,rfl,hv'⟩,rfl,rfl⟩
 |nilFunc=>exact .inr (show ak (gp P G) (runtimePanic .nilDeref:Sem Next) from .runtimePanic _)
 |bc s h1 h2 h3=>
  refine .inr ?_;show ak (gp P G) (match (#[Value.nilIface]++xs)[0]? with|some recv=>callMethod recv s ((#[Value.nilIface]++xs).extract 1 (#[Value.nilIface]++xs).size)|_=>stuck "call: a method without a receiver");have e:(#[Value.nilIface]++xs)[0]? =some .nilIface:=by rw[Array.getElem?_append_left (by decide)];rfl
  rw[e];exact show ak (gp P G) (runtimePanic .nilDeref:Sem Next) from .runtimePanic _
 |_=>exact .inr (ak.bind' (.stuck _))
theorem IM(K:Let P G L T){fr:Frame}{cs:List Frame}(hs:Safe (gp P G) Goal fr cs w)(hn: ¬ Goal fr cs w)(ho:aH (gp P G) true (lg fr cs))(hk:fr.kind= .normal)(hd:ak (gp P G) (aV (lg fr cs))):False:=by
 obtain⟨fr1,cs1,w1,es,e,hfi,_⟩:=Safe.goes hs hn w.tape;have e':stepG (gp P G) true (lg fr cs) w= .go (lg fr1 cs1) w1 es:=e;rw[ho.1 w] at e';obtain⟨a,es0,hr⟩:=yp (Q:=gp P G) K.ahead K.tN (fr:=fr) hk e' hfi;obtain⟨_,_,_,hr',_⟩:=hd w #[];rw[hr] at hr';cases hr'
end
structure eI(L:ax)(T:aN)(Goal:Frame->List Frame->World->Prop):Prop where
 stat:Stat Tryz.prog Gg L T
 fl:T.fl=false
 bJ:T.bJ=fQ
 pM: ¬ L.fn T.bJ
 goal:∀fr cs w,Goal fr cs w->cs= []/\fr.fn≠fQ
 sum:L.fn 82/\L.cR 82 0= .any
structure Entry(L:ax) where
 first:Int
 n:Nat
 x2:Value
 y2:Value
 ρ:Nat->Nat->Prop
 w0:World
 v0:World
 cs:List Frame
structure ir(L:ax)(E:Entry L):Prop where
 bi:lV E.ρ
 cq:∀r s,E.ρ r s->r< E.w0.heap.size/\s< E.v0.heap.size
 obj:∀r s,E.ρ r s->∃o q,E.w0.heap[r]? =some o/\E.v0.heap[s]? =some q/\OR L (fi E.ρ) o q
 gX:VR L E.ρ E.x2 E.y2
 vt:∀g,g< Tryz.prog.globals.size->E.ρ g g
theorem ir.gl{L:ax}{T:aN}{E:Entry L}(K:ir L E)(S:Stat Tryz.prog Gg L T):∀g,g< T.ng->E.ρ g g:=λg h=>K.vt g (by rw[S.globals];exact h)
section
variable {L:ax} {T:aN} {Goal:Frame->List Frame->World->Prop} {E:Entry L}
def gT(E:Entry L)(w:World):Prop:=E.w0.heap.size<=w.heap.size/\∀r,r< E.w0.heap.size->w.heap[r]? =E.w0.heap[r]?
noncomputable abbrev qF(E:Entry L)(id n:Nat)(xs:Nat->Value):Frame:=frQ id n (qT (.int .i64 E.first) (.int .i64 E.n) E.x2 xs)
theorem vj(E:Entry L)(id n:Nat)(xs:Nat->Value):(qF E id n xs).fn=fQ:=rfl
theorem gT.obj(K:ir L E)(h:gT E w)(v:World)(hv:∀r s,E.ρ r s->v.heap[s]? =E.v0.heap[s]?)(hvs:E.v0.heap.size<=v.heap.size):(∀r s,E.ρ r s->r< w.heap.size/\s< v.heap.size)/\∀r s,E.ρ r s->∃o q,w.heap[r]? =some o/\v.heap[s]? =some q/\OR L (fi E.ρ) o q:=by
 refine⟨λr s hr=>?_,λr s hr=>?_⟩
 ·have:=K.cq r s hr;have:=h.1;omega
 ·obtain⟨o,q,h1,h2,h3⟩:=K.obj r s hr;exact⟨o,q,by rw[h.2 r (K.cq r s hr).1];exact h1,by rw[hv r s hr];exact h2,h3⟩
theorem eI.iF(A:eI L T Goal){fr:Frame}{cs:List Frame}(h:fr.fn=fQ): ¬ Goal fr cs w:=λhg=>(A.goal _ _ _ hg).2 h
theorem eI.dK(A:eI L T Goal){fr:Frame}{cs:List Frame}(h:Safe Qg Goal fr cs w)(hf:fr.fn=fQ):dK (stepG Qg true (lg fr cs) w)=true:=by
 obtain⟨fr1,cs1,w1,es,e,_⟩:=Safe.goes h (A.iF hf) w.tape;have e':stepG Qg true (lg fr cs) w= .go (lg fr1 cs1) w1 es:=e;rw[e'];rfl
theorem xS(A:eI L T Goal)(K:ir L E)(id:Nat)(hid:id=4\/id=5){xs:Nat->Value}(hs:Safe Qg Goal (qF E id 0 xs) E.cs w)(h4:xs 4= .int .i64 m):
  ∃f us us' vs vs',E.x2= .func (.func f) us vs/\E.y2= .func (.func f) us' vs'/\L.fn f/\f≠T.bJ/\TR L (fi E.ρ) f (us++#[.int .i64 m]++vs) (us'++#[.int .i64 m]++vs')/\
   stepG Qg true (lg (qF E id 0 xs) E.cs) w= .go (lg (Frame.enter Qg f (us++#[.int .i64 m]++vs) .normal) (qF E id 0 xs::E.cs)) w #[]:=by
 have ag:=Lq (.int .i64 E.first) (.int .i64 E.n) E.x2 xs E.cs id hid;have hpend:=KZ (.int .i64 E.first) (.int .i64 E.n) E.x2 xs E.cs id hid;rw[h4] at hpend;rcases SG (P:=Tryz.prog) (G:=Gg) (L:=L) (τ:=fi E.ρ) K.gX (xs:=#[.int .i64 m]) (ys:=#[.int .i64 m]) (XR.push (xs:=#[]) (ys:=#[]) XR.nil (.int _ _)) with ⟨f,us,us',vs,vs',e1,e2,hf,hx,e3,e4⟩|hd
 ·obtain⟨h1,h2,h3⟩:=A.stat.bX.o5.fj f hf;have hnp:f≠T.bJ:=λe=>A.pM (e ▸ h1);refine⟨f,us,us',vs,vs',e1,e2,h1,hnp,TR.xk h2 hx,?_⟩;obtain⟨_,⟨gn,g1,g2,g3⟩⟩:=A.stat.bX.pR f h1;have hr:(aV (lg (qF E id 0 xs) E.cs)).runT Qg w #[]=(.ok (.enter f (us++#[.int .i64 m]++vs)) w,#[]):=by
   rw[hpend,e3];exact Er (P:=Qg) g1 g2 g3 _ _ _
  refine aH.enter ag hr ?_;rcases hid with rfl|rfl<;>rfl
 ·exact (IM A.stat.bX hs (A.iF (vj E id 0 xs)) ag rfl (by rw[hpend];exact hd)).elim
theorem EP(A:eI L T Goal)(K:ir L E)(id:Nat)(hid:id=4\/id=5){xs:Nat->Value}(hs:Safe Qg Goal (qF E id 0 xs) E.cs w)(h4:xs 4= .int .i64 m)(hk:gT E w):
  ∃x w',dG Qg Goal (qF E id 0 xs) E.cs w ((qF E id 0 xs).finish x) E.cs w'/\w.heap.size<=w'.heap.size/\∀r,r< w.heap.size->w'.heap[r]? =w.heap[r]? :=by
 obtain⟨f,us,us',vs,vs',_,_,hf,hn,hT,e⟩:=xS A K id hid hs h4;have hs1:=Safe.next hs (A.iF (vj E id 0 xs)) w.tape e;obtain⟨d1,d2⟩:=hk.obj K E.v0 (λ_ _ _=>rfl) (eR _);have hS:=sH A.stat A.fl hf hn hT (qF E id 0 xs::E.cs++ [wall]) [] K.bi (K.gl A.stat) d1 d2;obtain⟨x,w',r1,r2,r3⟩:=BR (cs:=E.cs) (frQ:=qF E id 0 xs) (D:=[]) (B0:=w.heap.size) (w0:=w) A.stat A.pM (λfr cs w hg=>(A.goal fr cs w hg).1) hs1 [] (fi E.ρ) _ E.v0 rfl hS (λr s hx=>absurd hx ti) (eR _) (λ_ _=>rfl);exact⟨x,w',.step w.tape _ (A.iF (vj E id 0 xs)) e r1,r2,r3⟩
theorem Es(A:eI L T Goal)(K:ir L E){fr:Frame}(hfr:fr.fn=fQ){t:ByteArray}(hs:Safe Qg Goal fr E.cs w)(hk:gT E w)(e:stepG Qg true (lg fr E.cs) w= .go (lg (Frame.enter Qg 82 #[.string t] .normal) (fr::E.cs)) w #[]):
  ∃x w',dG Qg Goal fr E.cs w (fr.finish x) E.cs w'/\w.heap.size<=w'.heap.size/\∀r,r< w.heap.size->w'.heap[r]? =w.heap[r]? :=by
 have hs1:=Safe.next hs (A.iF hfr) w.tape e;obtain⟨d1,d2⟩:=hk.obj K E.v0 (λ_ _ _=>rfl) (eR _);have hT:TR L (fi E.ρ) 82 #[.string t] #[.string t]:=⟨rfl,λi x y hx hy=>by
  cases i with
  |zero=>
   rw[A.sum.2];simp at hx hy;subst hx hy;exact VR.string t
  |succ i=>simp at hx⟩
 have hS:=sH A.stat A.fl A.sum.1 (λe=>A.pM (e ▸ A.sum.1)) hT (fr::E.cs++ [wall]) [] K.bi (K.gl A.stat) d1 d2;obtain⟨x,w',r1,r2,r3⟩:=BR (cs:=E.cs) (frQ:=fr) (D:=[]) (B0:=w.heap.size) (w0:=w) A.stat A.pM (λfr cs w hg=>(A.goal fr cs w hg).1) hs1 [] (fi E.ρ) _ E.v0 rfl hS (λr s hx=>absurd hx ti) (eR _) (λ_ _=>rfl);exact⟨x,w',.step w.tape _ (A.iF hfr) e r1,r2,r3⟩
end
end
section
open Go.Conc
open Go.ConcN (upd upd_same upd_ne)
theorem O7(Q:Program)(hQ:Q=Qg\/Q=Tryz.prog)(d n k:Nat):feed Q (Instr.indexAt 147 (er d n) (.int .i64 k) >>=λv=>(pure (.value v):Sem Next)) []=
  feed Q (Sem.bind (if (0:Int)<=(k:Int)/\(k:Int)< (n:Int) then (Sem.bind (Go.sizeOf 44) λs=>Sem.pure (.pointer (some ((⟨d,0,none⟩:Addr).add ((k:Int).toNat*s))))) else (if (decide (n<=1) && false)=true then unsupported (.noEntry "op/indexAddr.an index out of range at an array of length 0 or 1 (ledger 616)") else boundsPanic .i64 k n .index)) λv=>(Sem.pure (Next.value v):Sem Next)) []:=by
 rcases hQ with rfl|rfl
 ·kernel_rfl
 ·kernel_rfl
theorem OQ(Q:Program)(hQ:Q=Qg\/Q=Tryz.prog)(d k:Nat):feed Q (Sem.bind (Sem.bind (Go.sizeOf 44) λs=>Sem.pure (.pointer (some ((⟨d,0,none⟩:Addr).add ((k:Int).toNat*s))))) λv=>(Sem.pure (Next.value v):Sem Next)) []=some ([],.inl (.value (.pointer (some ((⟨d,0,none⟩:Addr).add ((k:Int).toNat*1)))))):=by
 rcases hQ with rfl|rfl
 ·kernel_rfl
 ·kernel_rfl
theorem Ce(Q:Program)(hQ:Q=Qg\/Q=Tryz.prog){n k:Nat}(h:k< n):feed Q (Instr.indexAt 147 (er d n) (.int .i64 k) >>=λv=>(pure (.value v):Sem Next)) []=some ([],.inl (.value (.pointer (some ⟨d,k,none⟩)))):=by
 rw[O7 Q hQ,AS ⟨by omega,by omega⟩,OQ Q hQ];have e:(⟨d,0,none⟩:Addr).add ((k:Int).toNat*1)=⟨d,k,none⟩:=by
  unfold Addr.add;split
  ·rename_i h0;simp at h0;subst h0;rfl
  ·simp
 rw[e]
section
variable {L:ax} {T:aN} {Goal:Frame->List Frame->World->Prop} {E:Entry L}
def uq(Goal:Frame->List Frame->World->Prop)(E:Entry L)(i:Nat)(a:Int):Prop:=
 ∃xs w,Safe Qg Goal (qF E 5 0 xs) E.cs w/\xs 4= .int .i64 (IntKind.i64.wrap (E.first+i))/\xs 7= .int .u64 a/\gT E w
structure oQ(Goal:Frame->List Frame->World->Prop)(E:Entry L)(i:Nat)(a:Nat->Int)(d:Nat)(xs:Nat->Value)(w:World):Prop where
 safe:Safe Qg Goal (qF E 2 0 (upd xs 3 (.int .i64 i))) E.cs w
 row:xs 6=er d E.n
 keeps:gT E w
 new:E.w0.heap.size<=d
 blk: ∃C:Array Value,w.heap[d]? =some (.cells C 44)/\C.size=E.n/\∀k,k< i->C[k]? =some (.int .u64 (a k))
 mM:∀k,k< i->uq Goal E k (a k)
theorem eI.dI(A:eI L T Goal){n:Nat}{fr fr':Frame}{cs:List Frame}(h:ez Qg fQ n fr cs)(he:(aE Qg true n (lg fr cs)).frame=fr')(w:World):dG Qg Goal fr cs w fr' cs w:=
 h.run (λfr cs w hg=>(A.goal fr cs w hg).2) he w
theorem gT.later(A:eI L T Goal){w':World}(h:gT E w)(hs:w.heap.size<=w'.heap.size)(hw:∀r,r< w.heap.size->w'.heap[r]? =w.heap[r]?):gT E w':=by
 have _:=A;exact⟨OF h.1 hs,λr hr=>by rw[hw r (VA hr h.1),h.2 r hr]⟩
theorem wrap_small{k:Int}(h0:0<=k)(h1:k< 9223372036854775808):IntKind.i64.wrap k=k:=by
 simp only[IntKind.wrap,IntKind.bits,IntKind.signed];simp;omega
theorem GU(A:eI L T Goal)(K:ir L E){i:Nat}{a:Nat->Int}{xs:Nat->Value}(H:oQ Goal E i a d xs w)(hi:i< E.n)(hn:E.n<=64):
  ∃e xs' w',dG Qg Goal (qF E 2 0 (upd xs 3 (.int .i64 i))) E.cs w (qF E 2 0 (upd xs' 3 (.int .i64 ((i+1:Nat):Int)))) E.cs w'/\oQ Goal E (i+1) (upd a i e) d xs' w':=by
 have hin:decide ((i:Int)< (E.n:Int))=true:=by simp;omega
 have r1:=A.dI (E9 (.int .i64 E.first) E.x2 E.n i xs E.cs) (AO (.int .i64 E.first) E.x2 E.n i xs E.cs) w;rw[hin] at r1;have r2:=A.dI (QT (.int .i64 E.n) E.x2 E.first i xs E.cs) (OG (.int .i64 E.n) E.x2 E.first i xs E.cs) w;generalize hX1:upd (upd (upd xs 3 (.int .i64 i)) 14 (.bool true)) 4 (.int .i64 (IntKind.i64.wrap (E.first+i)))=X1 at r2;have f14:X1 4= .int .i64 (IntKind.i64.wrap (E.first+i)):=by rw[←hX1];rfl
 have f13:X1 3= .int .i64 i:=by rw[←hX1];rfl
 have f16:X1 6=er d E.n:=by rw[←hX1];exact H.row
 have s1:Safe Qg Goal (qF E 4 0 X1) E.cs w:=Safe.run H.safe (r1.trans r2);obtain⟨x,w1,r3,z1,o1⟩:=EP A K 4 (.inl rfl) s1 f14 H.keeps;rw[show (qF E 4 0 X1).finish x=qF E 4 1 (upd X1 5 x) from TW ..] at r3;have s2:=Safe.run s1 r3;obtain⟨t,rfl⟩:=Lk _ _ _ _ _ _ _ (A.dK s2 rfl);have r4:=A.dI (JN (.int .i64 E.first) (.int .i64 E.n) E.x2 X1 E.cs t) (ID (.int .i64 E.first) (.int .i64 E.n) E.x2 X1 E.cs t) w1;have s3:=Safe.run s2 r4;have k1:=H.keeps.later A z1 o1;obtain⟨dv,w2,r5,z2,o2⟩:=Es A K (fr:=qF E 4 2 (upd (upd X1 5 (.string t)) 18 (strLt t))) rfl s3 k1 (JB ..);rw[Og] at r5;have s4:=Safe.run s3 r5;have r6:=A.dI (JU (.int .i64 E.first) (.int .i64 E.n) E.x2 (upd (upd (upd X1 5 (.string t)) 18 (strLt t)) 7 dv) E.cs) (SK (.int .i64 E.first) (.int .i64 E.n) E.x2 (upd (upd (upd X1 5 (.string t)) 18 (strLt t)) 7 dv) E.cs) w2;generalize hX3:upd (upd (upd X1 5 (.string t)) 18 (strLt t)) 7 dv=X3 at r5 r6 s4;have f34:X3 4= .int .i64 (IntKind.i64.wrap (E.first+i)):=by rw[←hX3];exact f14
 have f33:X3 3= .int .i64 i:=by rw[←hX3];exact f13
 have f36:X3 6=er d E.n:=by rw[←hX3];exact f16
 have f37:X3 7=dv:=by rw[←hX3];rfl
 have s5:Safe Qg Goal (qF E 5 0 X3) E.cs w2:=Safe.run s4 r6;have k2:=k1.later A z2 o2;obtain⟨x',w3,r7,z3,o3⟩:=EP A K 5 (.inr rfl) s5 f34 k2;rw[show (qF E 5 0 X3).finish x'=qF E 5 1 (upd X3 8 x') from DS ..] at r7;have s6:=Safe.run s5 r7;obtain⟨t',rfl⟩:=Fq _ _ _ _ _ _ _ (A.dK s6 rfl);have r8:=A.dI (Ed (.int .i64 E.first) (.int .i64 E.n) E.x2 X3 E.cs t') (Ek (.int .i64 E.first) (.int .i64 E.n) E.x2 X3 E.cs t') w3;have s7:=Safe.run s6 r8;have k3:=k2.later A z3 o3;obtain⟨ev,w4,r9,z4,o4⟩:=Es A K (fr:=qF E 5 2 (upd (upd X3 8 (.string t')) 18 (strLt t'))) rfl s7 k3 (CL ..);rw[BE] at r9;have s8:=Safe.run s7 r9;have k4:=k3.later A z4 o4;generalize hX5:upd (upd (upd X3 8 (.string t')) 18 (strLt t')) 9 ev=X5 at r9 s8;have f57:X5 7=dv:=by rw[←hX5];exact f37
 have f59:X5 9=ev:=by rw[←hX5];rfl
 have f56:X5 6=er d E.n:=by rw[←hX5];exact f36
 have f53:X5 3= .int .i64 i:=by rw[←hX5];exact f33
 have r10:=A.dI (Du (.int .i64 E.first) (.int .i64 E.n) E.x2 X5 E.cs) (CP (.int .i64 E.first) (.int .i64 E.n) E.x2 X5 E.cs) w4;have s9:=Safe.run s8 r10;have u7:upd X5 7 dv=X5:=by rw[←f57];exact kF X5 7
 rw[←u7] at r10 s9;obtain⟨ea,rfl⟩:=RY _ _ _ _ _ _ _ (A.dK s9 rfl);have r11:=A.dI (Dx (.int .i64 E.first) (.int .i64 E.n) E.x2 X5 E.cs ea) (BD (.int .i64 E.first) (.int .i64 E.n) E.x2 X5 E.cs ea) w4;have s10:=Safe.run s9 r11;rw[u7] at r10 r11 s10;generalize hX6:upd X5 18 (.bool (decide (ea< 0)))=X6 at r11 s10;have f67:X6 7= .int .u64 ea:=by rw[←hX6];exact f57
 have f69:X6 9=ev:=by rw[←hX6];exact f59
 have f66:X6 6=er d E.n:=by rw[←hX6];exact f56
 have f63:X6 3= .int .i64 i:=by rw[←hX6];exact f53
 have u9:upd X6 9 ev=X6:=by rw[←f69];exact kF X6 9
 rw[←u9] at s10;obtain⟨eb,rfl⟩:=zK _ _ _ _ _ _ _ (A.dK s10 rfl);rw[u9] at s10;have u79:oi ea eb X6=X6:=by
  unfold oi;rw[show upd X6 7 (.int .u64 ea)=X6 by rw[←f67];exact kF X6 7];exact u9
 have r12:=A.dI (Cc (.int .i64 E.first) (.int .i64 E.n) E.x2 X6 E.cs ea eb) (EN (.int .i64 E.first) (.int .i64 E.n) E.x2 X6 E.cs ea eb) w4;rw[u79] at r12;have s11:=Safe.run s10 r12;have hab:ea=eb:=by
  refine V0 λhne=>?_;rw[show (!decide (ea=eb))=true by simp[hne]] at s11;have rb:=A.dI (E0 (.int .i64 E.first) (.int .i64 E.n) E.x2 (upd X6 19 (.bool (decide (eb< 0)))) E.cs) rfl w4;have sb:=Safe.run s11 rb
  have:=A.dK (fr:=sD (.int .i64 E.first) (.int .i64 E.n) E.x2 (upd X6 19 (.bool (decide (eb< 0)))) E.cs) sb (Gi ..);rw[Db] at this;cases this
 subst hab;rw[show (!decide (ea=ea))=false by simp] at r12 s11;have r13:=A.dI (JP (.int .i64 E.first) (.int .i64 E.n) E.x2 (upd X6 19 (.bool (decide (ea< 0)))) E.cs) (GN (.int .i64 E.first) (.int .i64 E.n) E.x2 (upd X6 19 (.bool (decide (ea< 0)))) E.cs) w4;have s12:=Safe.run s11 r13;generalize hX7:upd (upd X6 19 (.bool (decide (ea< 0)))) 15 (.bool false)=X7 at r12 r13 s11 s12;have f76:X7 6=er d E.n:=by rw[←hX7];exact f66
 have f73:X7 3= .int .i64 i:=by rw[←hX7];exact f63
 have f79:X7 9= .int .u64 ea:=by rw[←hX7];exact f69
 have e14:stepG Qg true (lg (qF E 7 0 X7) E.cs) w4= .go (lg (qF E 7 1 (upd X7 18 (.pointer (some ⟨d,i,none⟩)))) E.cs) w4 #[]:=by
  have hp:=PG (.int .i64 E.first) (.int .i64 E.n) E.x2 X7 E.cs;rw[f76,f73] at hp
  have:=aH.value (Q0 (.int .i64 E.first) (.int .i64 E.n) E.x2 X7 E.cs) (rs:=[]) (ds:=[]) (v:= .pointer (some ⟨d,i,none⟩)) (by rw[hp];exact Ce Qg (.inl rfl) hi) (w:=w4) (w':=w4) (es:=#[]) ⟨rfl,rfl⟩;rw[this,eC];show GStep.go (fy _ ((qF E 7 0 X7).finish _)) w4 #[]=_;rw[NS];rfl
 have s13:=Safe.next s12 (A.iF rfl) w4.tape e14;have r14:dG Qg Goal (qF E 7 0 X7) E.cs w4 (qF E 7 1 (upd X7 18 (.pointer (some ⟨d,i,none⟩)))) E.cs w4:= .step w4.tape _ (A.iF rfl) e14 (.refl _ _ _);obtain⟨C,hC,hCs,hCk⟩:=H.blk;have hdl:d< w.heap.size:=(Array.getElem?_eq_some_iff.1 hC).1;have hC4:w4.heap[d]? =some (.cells C 44):=by rw[o4 d (by omega),o3 d (by omega),o2 d (by omega),o1 d hdl];exact hC
 have hcell:w4.cell? ⟨d,i,none⟩=C[i]? :=by simp[World.cell?,hC4]
 have hfz:w4.frozen? ⟨d,i,none⟩=false:=by simp[World.frozen?,hC4]
 have e15:stepG Qg true (lg (qF E 7 1 (upd X7 18 (.pointer (some ⟨d,i,none⟩)))) E.cs) w4= .go (lg (qF E 7 2 (upd X7 18 (.pointer (some ⟨d,i,none⟩)))) E.cs) (w4.setCell ⟨d,i,none⟩ (.int .u64 ea)) (seen Qg fQ #[⟨.cell ⟨d,i,none⟩,true,false⟩]):=by
  have:=aH.skip (O9 (.int .i64 E.first) (.int .i64 E.n) E.x2 X7 E.cs (.pointer (some ⟨d,i,none⟩))) (PM (.int .i64 E.first) (.int .i64 E.n) E.x2 X7 E.cs d i ea f79) (w:=w4) (w':=w4.setCell ⟨d,i,none⟩ (.int .u64 ea)) (es:=#[⟨.cell ⟨d,i,none⟩,true,false⟩])
   ⟨by simp,by simp,⟨C[i]'(by omega),by rw[hcell];simp⟩,hfz,rfl,rfl⟩
  rw[this];show GStep.go (fy _ ((qF E 7 1 (upd X7 18 (.pointer (some ⟨d,i,none⟩)))).finish _)) _ _=_;rw[Ig];rfl
 have s14:=Safe.next s13 (A.iF rfl) w4.tape e15;have r15:dG Qg Goal (qF E 7 1 (upd X7 18 (.pointer (some ⟨d,i,none⟩)))) E.cs w4 (qF E 7 2 (upd X7 18 (.pointer (some ⟨d,i,none⟩)))) E.cs (w4.setCell ⟨d,i,none⟩ (.int .u64 ea)):= .step w4.tape _ (A.iF rfl) e15 (.refl _ _ _);generalize hX8:upd X7 18 (.pointer (some ⟨d,i,none⟩))=X8 at r14 r15 s13 s14;have f83:X8 3= .int .i64 i:=by rw[←hX8];exact f73
 have f86:X8 6=er d E.n:=by rw[←hX8];exact f76
 have u3:upd X8 3 (.int .i64 i)=X8:=by rw[←f83];exact kF X8 3
 generalize hw5:w4.setCell ⟨d,i,none⟩ (.int .u64 ea)=w5 at r15 s14;have r16:=A.dI (Rw (.int .i64 E.first) (.int .i64 E.n) E.x2 i X8 E.cs) (U1 (.int .i64 E.first) (.int .i64 E.n) E.x2 i X8 E.cs) w5;rw[u3,show IntKind.i64.wrap ((i:Int)+1)=((i+1:Nat):Int) by rw[wrap_small (by omega) (by omega)];omega] at r16;have s15:=Safe.run s14 r16;have hsz5:w5.heap.size=w4.heap.size:=by rw[←hw5];simp[World.setCell]
 have h5:∀r,r≠d->w5.heap[r]? =w4.heap[r]? :=λr hr=>by rw[←hw5];simp[World.setCell,Array.getElem?_modify,VG hr]
 refine⟨ea,upd X8 19 (.int .i64 ((i+1:Nat):Int)),w5,r1.trans (r2.trans (r3.trans (r4.trans (r5.trans (r6.trans (r7.trans (r8.trans (r9.trans (r10.trans (r11.trans (r12.trans (r13.trans (r14.trans (r15.trans r16)))))))))))))),s15,f86,⟨by rw[hsz5];exact k4.1,λr hr=>?_⟩,H.new,⟨C.setIfInBounds i (.int .u64 ea),?_,by simp[hCs],λk hk=>?_⟩,λk hk=>?_⟩
 ·rw[h5 r (by have:=H.new;omega)];exact k4.2 r hr
 ·rw[←hw5];simp[World.setCell,Array.getElem?_modify,hC4]
 ·rcases Nat.lt_succ_iff_lt_or_eq.1 hk with hlt|rfl
  ·rw[upd_ne _ _ (by omega),Array.getElem?_setIfInBounds_ne (by omega)];exact hCk k hlt
  ·rw[upd_same,Array.getElem?_setIfInBounds_self_of_lt (by omega)]
 ·rcases Nat.lt_succ_iff_lt_or_eq.1 hk with hlt|rfl
  ·rw[upd_ne _ _ (by omega)];exact H.mM k hlt
  ·rw[upd_same];exact⟨X3,w2,s5,f34,f37,k2⟩
end
end
section
open Go.Conc
open Go.ConcN (upd upd_same upd_ne)
section
variable {L:ax} {T:aN} {Goal:Frame->List Frame->World->Prop} {E:Entry L}
theorem EX(A:eI L T Goal)(K:ir L E)(hn:E.n<=64):∀(m i:Nat) (a:Nat->Int) (xs:Nat->Value) (w:World),m+i=E.n->oQ Goal E i a d xs w->
  ∃a' xs' w',dG Qg Goal (qF E 2 0 (upd xs 3 (.int .i64 i))) E.cs w (qF E 2 0 (upd xs' 3 (.int .i64 E.n))) E.cs w'/\oQ Goal E E.n a' d xs' w'
 |0,i,a,xs,w,he,H=>by
  obtain rfl:i=E.n:=by omega
  exact⟨a,xs,w,.refl _ _ _,H⟩
 |m+1,i,a,xs,w,he,H=>by
  obtain⟨e,xs1,w1,r1,H1⟩:=GU A K H (by omega) hn;obtain⟨a',xs',w',r2,H2⟩:=EX A K hn m (i+1) (upd a i e) xs1 w1 (by omega) H1;exact⟨a',xs',w',r1.trans r2,H2⟩
structure xW(Goal:Frame->List Frame->World->Prop)(E:Entry L)(a:Nat->Int)(d:Nat)(xs:Nat->Value)(w:World):Prop where
 row:xs 6=er d E.n
 keeps:gT E w
 new:E.w0.heap.size<=d
 blk: ∃C:Array Value,w.heap[d]? =some (.cells C 44)/\C.size=E.n/\∀k,k< E.n->C[k]? =some (.int .u64 (a k))
 mM:∀k,k< E.n->uq Goal E k (a k)
theorem GO(A:eI L T Goal){a:Nat->Int}{xs:Nat->Value}(H:oQ Goal E E.n a d xs w):
  ∃xs',dG Qg Goal (qF E 2 0 (upd xs 3 (.int .i64 E.n))) E.cs w (kC (.int .i64 E.first) (.int .i64 E.n) E.x2 xs' E.cs) E.cs w/\xW Goal E a d xs' w:=by
 have hin:decide ((E.n:Int)< (E.n:Int))=false:=by simp
 have r1:=A.dI (E9 (.int .i64 E.first) E.x2 E.n E.n xs E.cs) (AO (.int .i64 E.first) E.x2 E.n E.n xs E.cs) w;rw[hin] at r1;have r2:=A.dI (KI (.int .i64 E.first) (.int .i64 E.n) E.x2 (upd xs 3 (.int .i64 E.n)) E.cs) (fr':=kC (.int .i64 E.first) (.int .i64 E.n) E.x2 (upd xs 3 (.int .i64 E.n)) E.cs) rfl w;exact⟨upd xs 3 (.int .i64 E.n),r1.trans r2,H.row,H.keeps,H.new,H.blk,H.mM⟩
theorem RB(A:eI L T Goal)(K:ir L E){xs:Nat->Value}(hs:Safe Qg Goal (qF E 1 0 xs) E.cs E.w0)(hf:∀r,feed Qg (aV (lg (qF E 1 0 xs) E.cs)) [.ref r]=some ([.nw (.cells (Array.replicate E.n (.int .u64 0)) 44)],.inl (.value (er r E.n)))):
  ∃xs' w',dG Qg Goal (qF E 1 0 xs) E.cs E.w0 (qF E 2 0 (upd xs' 3 (.int .i64 ((0:Nat):Int)))) E.cs w'/\oQ Goal E 0 (λ_=>0) E.w0.heap.size xs' w':=by
 have _:=K;have e1:stepG Qg true (lg (qF E 1 0 xs) E.cs) E.w0= .go (lg (qF E 1 1 (upd xs 6 (er E.w0.heap.size E.n))) E.cs) {E.w0 with heap:=E.w0.heap.push (.cells (Array.replicate E.n (.int .u64 0)) 44)} #[]:=by
  have:=aH.value (PK (.int .i64 E.first) (.int .i64 E.n) E.x2 xs E.cs) (hf E.w0.heap.size) (w:=E.w0) (w':={E.w0 with heap:=E.w0.heap.push (.cells (Array.replicate E.n (.int .u64 0)) 44)}) (es:=#[]) ⟨rfl,rfl,rfl⟩;rw[this,eC];show GStep.go (fy _ ((qF E 1 0 xs).finish _)) _ #[]=_;rw[Qd];rfl
 have s1:=Safe.next hs (A.iF rfl) E.w0.tape e1;have r1:dG Qg Goal (qF E 1 0 xs) E.cs E.w0 _ E.cs _:= .step E.w0.tape _ (A.iF rfl) e1 (.refl _ _ _);have r2:=A.dI (QP (.int .i64 E.first) (.int .i64 E.n) E.x2 (upd xs 6 (er E.w0.heap.size E.n)) E.cs) (UR (.int .i64 E.first) (.int .i64 E.n) E.x2 (upd xs 6 (er E.w0.heap.size E.n)) E.cs) {E.w0 with heap:=E.w0.heap.push (.cells (Array.replicate E.n (.int .u64 0)) 44)};refine⟨upd xs 6 (er E.w0.heap.size E.n),_,r1.trans r2,Safe.run s1 r2,rfl,⟨by simp,λr hr=>?_⟩,eR _,⟨Array.replicate E.n (.int .u64 0),by simp,by simp,λk hk=>absurd hk (by omega)⟩,λk hk=>absurd hk (by omega)⟩;simp[Array.getElem?_push];omega
end
theorem NY{L:ax}{T:aN}{Goal:Frame->List Frame->World->Prop}(A:eI L T Goal){x0 x1 x2 y2:Value}{ρ:Nat->Nat->Prop}{w0 v0:World}{cs:List Frame}(hs:Safe Qg Goal (Frame.enter Qg fQ #[x0,x1,x2] .normal) cs w0)(bi:lV ρ)(cq:∀r s,ρ r s->r< w0.heap.size/\s< v0.heap.size)(obj:∀r s,ρ r s->∃o q,w0.heap[r]? =some o/\v0.heap[s]? =some q/\OR L (fi ρ) o q)(gX:VR L ρ x2 y2)(vt:∀g,g< Tryz.prog.globals.size->ρ g g):
  ∃(first:Int) (n:Nat),x0= .int .i64 first/\x1= .int .i64 n/\(n=1\/n=4\/n=16\/n=64)/\
   ∃a d xs w,dG Qg Goal (Frame.enter Qg fQ #[x0,x1,x2] .normal) cs w0 (kC (.int .i64 first) (.int .i64 n) x2 xs cs) cs w/\ir L (⟨first,n,x2,y2,ρ,w0,v0,cs⟩:Entry L)/\xW Goal (⟨first,n,x2,y2,ρ,w0,v0,cs⟩:Entry L) a d xs w:=by
 have r0:=A.dI (T0 x0 x1 x2 cs) (IF x0 x1 x2 cs) w0;have s0:=Safe.run hs r0;obtain⟨first,rfl⟩:=ON _ _ _ _ _ (A.dK s0 rfl);have r1:=A.dI (MD x1 x2 first un cs) (Jn x1 x2 first un cs) w0;have s1:=Safe.run s0 r1;obtain⟨n,rfl⟩:=PT _ _ _ _ _ _ (A.dK s1 rfl);have r2:=A.dI (Ll (.int .i64 first) x2 n (upd un 16 (.bool (decide (first< 0)))) cs) (TY (.int .i64 first) x2 n (upd un 16 (.bool (decide (first< 0)))) cs) w0;have s2:=Safe.run s1 r2;generalize upd (upd un 16 (.bool (decide (first< 0)))) 17 (.bool (decide (n< 0)))=X at r2 s2;have fin:∀(k:Nat) (xs:Nat->Value),k<=64->n=k->dG Qg Goal (frQ 0 6 (qT (.int .i64 first) (.int .i64 n) x2 (gV (decide (n=1)) (decide (n=4)) (decide (n=16)) (decide (n=64)) X))) cs w0 (frQ 1 0 (qT (.int .i64 first) (.int .i64 n) x2 xs)) cs w0->
   (∀r,feed Qg (aV (lg (frQ 1 0 (qT (.int .i64 first) (.int .i64 n) x2 xs)) cs)) [.ref r]=some ([.nw (.cells (Array.replicate k (.int .u64 0)) 44)],.inl (.value (er r k))))->
   ∃a d xs w,dG Qg Goal (Frame.enter Qg fQ #[.int .i64 first,.int .i64 n,x2] .normal) cs w0 (kC (.int .i64 first) (.int .i64 k) x2 xs cs) cs w/\ir L (⟨first,k,x2,y2,ρ,w0,v0,cs⟩:Entry L)/\xW Goal (⟨first,k,x2,y2,ρ,w0,v0,cs⟩:Entry L) a d xs w:=by
  intro k xs hk hnk r3 hf;subst hnk;have K:ir L (⟨first,k,x2,y2,ρ,w0,v0,cs⟩:Entry L):=⟨bi,cq,obj,gX,vt⟩
  obtain⟨xs1,w1,r4,H⟩:=RB A K (Safe.run s2 r3) hf;obtain⟨a,xs2,w2,r5,H2⟩:=EX A K hk k 0 _ xs1 w1 rfl H;obtain⟨xs3,r6,D⟩:=GO A H2;exact⟨a,_,xs3,w2,r0.trans (r1.trans (r2.trans (r3.trans (r4.trans (r5.trans r6))))),K,D⟩
 by_cases h1:n=1
 ·subst h1;exact⟨first,1,rfl,rfl,.inl rfl,fin 1 _ (by omega) rfl (A.dI (Sn (.int .i64 first) (.int .i64 1) x2 X cs _ _ _) (Tz (.int .i64 first) (.int .i64 1) x2 X cs _ _ _) w0) (λr=>NB ..)⟩
 by_cases h4:n=4
 ·subst h4;exact⟨first,4,rfl,rfl,.inr (.inl rfl),fin 4 _ (by omega) rfl (A.dI (R5 (.int .i64 first) (.int .i64 4) x2 X cs _ _) (SX (.int .i64 first) (.int .i64 4) x2 X cs _ _) w0) (λr=>IK ..)⟩
 by_cases h16:n=16
 ·subst h16;exact⟨first,16,rfl,rfl,.inr (.inr (.inl rfl)),fin 16 _ (by omega) rfl (A.dI (QX (.int .i64 first) (.int .i64 16) x2 X cs _) (LX (.int .i64 first) (.int .i64 16) x2 X cs _) w0) (λr=>K7 ..)⟩
 by_cases h64:n=64
 ·subst h64;exact⟨first,64,rfl,rfl,.inr (.inr (.inr rfl)),fin 64 _ (by omega) rfl (A.dI (Mk (.int .i64 first) (.int .i64 64) x2 X cs) (Jy (.int .i64 first) (.int .i64 64) x2 X cs) w0) (λr=>JS ..)⟩
 ·exfalso;rw[decide_eq_false h1,decide_eq_false h4,decide_eq_false h16,decide_eq_false h64] at s2;have rb:=A.dI (Uq (.int .i64 first) (.int .i64 n) x2 X cs) (fr':=yK (.int .i64 first) (.int .i64 n) x2 X cs) rfl w0
  have:=A.dK (Safe.run s2 rb) (O1 ..);rw[U4] at this;cases this
end
section
open Go.Conc
open Go.ConcN (upd upd_same upd_ne)
structure jc where
 fr:Frame
 cs:List Frame
 w:World
def mu(Q:Program)(Goal:Frame->List Frame->World->Prop)(s1 s:jc):Prop:=∃t es,¬ Goal s.fr s.cs s.w/\stepG Q true (lg s.fr s.cs) {s.w with tape:=t}= .go (lg s1.fr s1.cs) s1.w es
theorem IG{Q:Program}{Goal:Frame->List Frame->World->Prop}{fr:Frame}{cs:List Frame}(h:Safe Q Goal fr cs w):Acc (mu Q Goal) ⟨fr,cs,w⟩:=by
 refine Safe.Ef (X:=λfr cs w=>Acc (mu Q Goal) ⟨fr,cs,w⟩) ?_ h;intro fr cs w _ ih;refine Acc.intro _ λs1 h1=>?_;obtain⟨t,es,hn,e⟩:=h1;exact ih t s1.fr s1.cs s1.w es hn e
theorem Ol{L:ax}{c:bI}{s:ByteArray}(h:CR L τ c (.string s) y):y= .string s:=by
 cases c with
 |any=>cases h;rfl
 |own=>cases h;rfl
 |box=>cases h;rfl
 |iT=>rcases h with ⟨h,_⟩|⟨_,_,h,_⟩<;>cases h
 |dM=>rcases h with ⟨h,_⟩|⟨h,_⟩|⟨_,_,_,h,_⟩<;>cases h
 |loc=>rcases h with ⟨h,_⟩|⟨h,_⟩|⟨_,_,_,h,_⟩<;>cases h
theorem Tw{L:ax}{c:bI}{k:IntKind}{n:Int}(h:CR L τ c (.int k n) y):y= .int k n:=by
 cases c with
 |any=>cases h;rfl
 |own=>cases h;rfl
 |box=>cases h;rfl
 |iT=>rcases h with ⟨h,_⟩|⟨_,_,h,_⟩<;>cases h
 |dM=>rcases h with ⟨h,_⟩|⟨h,_⟩|⟨_,_,_,h,_⟩<;>cases h
 |loc=>rcases h with ⟨h,_⟩|⟨h,_⟩|⟨_,_,_,h,_⟩<;>cases h
section
variable {L:ax} {T:aN} {Goal:Frame->List Frame->World->Prop}
structure gQ(L:ax)(T:aN)(Goal:Frame->List Frame->World->Prop)(E:Entry L)(frQ:Frame)(D:List Frame)(ow:Nat->Prop)(s:jc)(g:Goroutine)(v:World):Prop where
 safe:Safe Qg Goal s.fr s.cs s.w
 sub: ∃sub,s.cs=sub++frQ::E.cs
 jQ: ∃τ,iq Tryz.prog Gg L T τ (frQ::E.cs++ [wall]) D (lg s.fr s.cs) s.w g v/\(∀r t,τ.un r t->E.ρ r t\/ow t)/\∀r t,τ.mine r t->ow t/\E.w0.heap.size<=r
 keeps:gT E s.w
theorem gQ.running{E:Entry L}{frQ:Frame}{s:jc}(h:gQ L T Goal E frQ D ow s g v):g.status= .running:=by
 obtain⟨τ,hS,_⟩:=h.jQ;exact hS.g.status.2
theorem gQ.acc{E:Entry L}{frQ:Frame}{s:jc}(h:gQ L T Goal E frQ D ow s g v):Acc (mu Qg Goal) s:=IG h.safe
theorem gQ.low{E:Entry L}{frQ:Frame}{s:jc}(h:gQ L T Goal E frQ D ow s g v)(ow':Nat->Prop)(ho:∀t,ow t->ow' t):gQ L T Goal E frQ D ow' s g v:=by
 obtain⟨τ,hS,h1,h2⟩:=h.jQ;exact⟨h.safe,h.sub,⟨τ,hS,λr t hx=>(h1 r t hx).imp id (ho t),λr t hx=>⟨ho t (h2 r t hx).1,(h2 r t hx).2⟩⟩,h.keeps⟩
theorem gQ.lI{E:Entry L}{frQ:Frame}{s:jc}{v2:World}(h:gQ L T Goal E frQ D ow s g v)(hs:v.heap.size<=v2.heap.size)(ho:∀t,(∃r,E.ρ r t)\/ow t->v2.heap[t]? =v.heap[t]?):gQ L T Goal E frQ D ow s g v2:=by
 obtain⟨τ,hS,h1,h2⟩:=h.jQ;refine⟨h.safe,h.sub,⟨τ,⟨hS.g,hS.bi,hS.flat,λr t hx=>⟨(hS.cq r t hx).1,VA (hS.cq r t hx).2 hs⟩,λr t hx=>?_⟩,h1,h2⟩,h.keeps⟩;obtain⟨o,q,e1,e2,e3⟩:=hS.obj r t hx;refine⟨o,q,e1,?_,e3⟩;rw[ho t ((h1 r t hx).imp (λx=>⟨r,x⟩) id)];exact e2
structure Nq(E:Entry L)(ow ow':Nat->Prop)(v v1:World)(fs:Array Event):Prop where
 grow:v.heap.size<=v1.heap.size
 tape:v1.tape=v.tape
 os:v1.os=v.os
 output:v1.output=v.output
 gq:∀t,t< v.heap.size->¬ ow t->v1.heap[t]? =v.heap[t]?
 own:∀t,ow' t↔ow t\/(v.heap.size<=t/\t< v1.heap.size)
 nA:∀e∈fs,kg (λt=>(∃r,E.ρ r t)\/ow' t) ow' e
theorem gQ.step(A:eI L T Goal){E:Entry L}{frQ:Frame}{c0:Frame}{D:List Frame}{ow:Nat->Prop}{s:jc}{g:Goroutine}{v:World}(h:gQ L T Goal E frQ (c0::D) ow s g v):
  (∃g1 v1 fs s1,stepG Tryz.prog false g v= .go g1 v1 fs/\gQ L T Goal E frQ (c0::D) (λt=>ow t\/(v.heap.size<=t/\t< v1.heap.size)) s1 g1 v1/\mu Qg Goal s1 s/\Nq E ow (λt=>ow t\/(v.heap.size<=t/\t< v1.heap.size)) v v1 fs)
  \/∃x y fs w1,stepG Tryz.prog false g v= .go {frame:=c0.finish y,callers:=D,status:= .running,dying:=none} v fs/\Safe Qg Goal (frQ.finish x) E.cs w1/\gT E w1/\(∀t,x= .string t->y= .string t)/\(∀e,x= .int .u64 e->y= .int .u64 e)/\∀e∈fs,kg (λt=>(∃r,E.ρ r t)\/ow t) ow e:=by
 obtain⟨sub,dE⟩:=h.sub;obtain⟨τ,hS,hun,hmi⟩:=h.jQ;obtain⟨fr,cs,w⟩:=s;have hsafe:Safe Qg Goal fr cs w:=h.safe;simp only at dE hS;have hng: ¬ Goal fr cs w:=λhg=>by have:=(A.goal _ _ _ hg).1;rw[dE] at this;simp at this
 have hn:fr.fn≠T.bJ:=λe=>by
  have key:∀a b,iy Tryz.prog Gg L T τ a b->a.fn=T.bJ->False:=by
   intro a b hx e;cases hx with
   |run hx=>exact hx.np e
   |bJ hp _ _=>exact A.pM hp
  exact key _ _ hS.g.frame e
 obtain⟨fr1,cs1,w1,es,e,hfi,hsafe1⟩:=Safe.goes hsafe hng (mK w v);by_cases hl:fr.mode= .returning/\fr.defers= []/\cs=frQ::E.cs
 ·obtain⟨hm,hd,rfl⟩:=hl;obtain⟨x,fn,hfn,hr,rfl,rfl,rfl⟩:=A7 A.stat hS hn hm hd _ e;obtain⟨y,fs,hxy,hev,hcall,hkind,_,hst⟩:=hS.last A.stat false hn ⟨hm,hd,rfl⟩ hfn hr;refine .inr ⟨x,y,fs,_,?_,hsafe1,h.keeps,λt ht=>Ol (ht ▸ hxy),λe he=>Tw (he ▸ hxy),λe he=>(hev e he).mono (λt ⟨r,hx⟩=>(hun r t hx).imp (λx=>⟨r,x⟩) id) (λt ⟨r,hx⟩=>(hmi r t hx).1)⟩;rw[hst];simp only[doReturn,hkind,GStep.after,VZ]
 ·obtain⟨h1,v1,fs,τ1,e1,hS1,hD,hgr⟩:=hS.step A.stat false hn (λx=>hl ⟨x.1,x.2.1,WU ((show cs++ [wall]=frQ::E.cs++ [wall] from x.2.2).trans (by simp))⟩) e hfi;obtain⟨cs2,ds2,hg2,_,_,_⟩:=hS1.g.parts;have hcs1:cs1=cs2++frQ::E.cs:=by
   have:=congrArg Goroutine.callers hg2;have e2:cs1++ [wall]=(cs2++frQ::E.cs)++ [wall]:=(show cs1++ [wall]=cs2++(frQ::E.cs++ [wall]) from this).trans (by simp);exact WU e2
  have hke:gT E w:=h.keeps;have hk1:gT E w1:=⟨OF hke.1 hgr.grow,λr hr=>by rw[hgr.nc r (VA hr hke.1) (λt hx=>by have:=(hmi r t hx).2;omega),hke.2 r hr]⟩
  refine .inl ⟨h1,v1,fs,⟨fr1,cs1,w1⟩,e1,⟨hsafe1,⟨cs2,hcs1⟩,⟨τ1,hS1,λr t hx=>?_,λr t hx=>?_⟩,hk1⟩,⟨_,_,hng,e⟩,hD.grow,hD.tape,hD.os,hD.output,λt ht hno=>hD.gq t ht λr hx=>hno (hmi r t hx).1,λt=>Iff.rfl,λev hev=>(hD.nA ev hev).mono ?_ ?_⟩
  ·rcases hgr.un r t hx with hx|hx
   ·exact (hun r t hx).imp id .inl
   ·exact .inr (.inr ⟨hx.2.2.1,hx.2.2.2⟩)
  ·rcases hgr.mine r t hx with hx|hx
   ·exact⟨.inl (hmi r t hx).1,(hmi r t hx).2⟩
   ·exact⟨.inr ⟨hx.2.2.1,hx.2.2.2⟩,OF hke.1 hx.1⟩
  ·rintro t (⟨r,hx⟩|hx)
   ·exact (hun r t hx).imp (λx=>⟨r,x⟩) .inl
   ·exact .inr (.inr hx)
  ·rintro t (⟨r,hx⟩|hx)
   ·exact .inl (hmi r t hx).1
   ·exact .inr hx
end
end
section
open Go.Conc
set_option maxRecDepth 100000
noncomputable abbrev Pg:Program:=Tryz.prog
def ptr(b:Nat):Value:=.pointer (some ⟨b,0,none⟩)
def aK(m:Mark):Event:=⟨.mark m,false,true⟩
noncomputable def qx(f:FuncId)(args:Array Value)(cs:List Frame):Goroutine:={frame:=Frame.enter Pg f args .normal,callers:=cs,status:=.running,dying:=none}
def jO:kl:=.shp (some (188,2))
def unit:Value:=.tuple #[]
def fin(g:Goroutine)(v:Value):Goroutine:=fy g (g.frame.finish v)
section
variable (cs:List Frame) (wg:Nat)
noncomputable def xw:Goroutine:=qx 88 #[ptr wg,.int .i64 (-1)] cs
theorem Jv:aY Pg false 11 (xw cs wg):=λw=>by kernel_rfl
noncomputable def tZ:Goroutine:=aE Pg false 11 (xw cs wg)
theorem xP:aH Pg false (tZ cs wg):=⟨λw=>by kernel_rfl,by kernel_rfl,by kernel_rfl⟩
theorem Vh:feed Pg (aV (tZ cs wg)) [jO,jO]=some ([.shp wg,.shp wg],.inl (.value (ptr wg))):=by kernel_rfl
noncomputable def oX:Goroutine:=fin (tZ cs wg) (ptr wg)
theorem L0(w:World):stepG Pg false (oX cs wg) w=.go (fin (oX cs wg) unit) w #[aK (.releaseMerge ⟨wg,0,none⟩)]:=by kernel_rfl
theorem Gr:(oX cs wg).status=.running:=by kernel_rfl
theorem P6:aY Pg false 3 (fin (oX cs wg) unit):=λw=>by kernel_rfl
noncomputable def nE:Goroutine:=aE Pg false 3 (fin (oX cs wg) unit)
theorem UT(w:World):stepG Pg false (nE cs wg) w=.go (fin (nE cs wg) unit) w #[aK .disable]:=by kernel_rfl
theorem zt:(nE cs wg).status=.running:=by kernel_rfl
theorem RJ:aY Pg false 11 (fin (nE cs wg) unit):=λw=>by kernel_rfl
noncomputable def qQ:Goroutine:=aE Pg false 11 (fin (nE cs wg) unit)
theorem MZ(w:World):stepG Pg false (qQ cs wg) w=.go (fin (qQ cs wg) (.bool false)) w #[]:=by kernel_rfl
theorem Jp:(qQ cs wg).status=.running:=by kernel_rfl
theorem Pp:aY Pg false 22 (fin (qQ cs wg) (.bool false)):=λw=>by kernel_rfl
noncomputable def pj:Goroutine:=aE Pg false 22 (fin (qQ cs wg) (.bool false))
theorem Io:aF Pg false (11+(1+22)) (fin (nE cs wg) unit) (pj cs wg):=(RJ cs wg).aO.trans ((aF.one (Jp cs wg) (MZ cs wg)).trans (Pp cs wg).aO)
theorem xZ:aH Pg false (pj cs wg):=⟨λw=>by kernel_rfl,by kernel_rfl,by kernel_rfl⟩
def less(st:Int):Int:=IntKind.u64.wrap (st+18446744069414584320)
theorem OI(st:Int):feed Pg (aV (pj cs wg)) [.val (.int .u64 st)]=some ([.mk (.extern 148),.ld .atomic ⟨wg,0,none⟩,.st .atomic ⟨wg,0,none⟩ (.int .u64 (less st))],.inl (.value (.int .u64 (less st)))):=by kernel_rfl
theorem KT(a:Addr):seen Pg (pj cs wg).frame.fn #[aK (.extern 148),⟨.cell a,false,true⟩,⟨.cell a,true,true⟩]=#[⟨.cell a,false,true⟩,⟨.cell a,true,true⟩]:=by kernel_rfl
noncomputable def mU(st:Int):Goroutine:=fin (pj cs wg) (.int .u64 st)
end
end
end Go.Proofs.YtldmcdeibiclkaaGreatDoor.U
