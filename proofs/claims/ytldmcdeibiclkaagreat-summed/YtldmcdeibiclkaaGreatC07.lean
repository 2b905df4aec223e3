/-
  Toward summed_holds: THE LONE ONE's tree.ofSegments: its steps, on.
-/
import Derived.Test.YtldmcdeibiclkaaGreatC06
import Derived.Test.YtldmcdeibiclkaaGreatRows
set_option linter.unusedVariables false
set_option linter.unusedSimpArgs false
set_option maxRecDepth 100000
set_option maxHeartbeats 20000000
namespace Go.Proofs.YtldmcdeibiclkaaGreat.U
variable {w v:World}{d r s:Nat}{D:List Frame}{ow:Nat->Prop}{g:Goroutine}{τ:ah}{y:Value}{f:FuncId}{ys:Array Value}{m:Int}
section
open Go.Conc
open Go.ConcN (upd)
set_option maxRecDepth 100000
def dp(d n:Nat):Value:=.slice (some ⟨d,0,none⟩) n n
section
variable (x0 x1 x2:Value) (a n i:Int) (xs:Nat->Value) (cs:List Frame) (b1 b2 b3 b4:Bool)
theorem Mq:dn Qg fQ 6 (frQ 0 6 (qT x0 x1 x2 (fH true b2 b3 b4 xs))) cs:=⟨λw=>by kernel_rfl,by kernel_rfl,by kernel_rfl⟩
theorem O0:(az Qg true 6 (lg (frQ 0 6 (qT x0 x1 x2 (fH true b2 b3 b4 xs))) cs)).frame=frQ 1 0 (qT x0 x1 x2 (fH true b2 b3 b4 xs)):=by kernel_rfl
theorem JN:dn Qg fQ 7 (frQ 0 6 (qT x0 x1 x2 (fH false true b3 b4 xs))) cs:=⟨λw=>by kernel_rfl,by kernel_rfl,by kernel_rfl⟩
theorem LV:(az Qg true 7 (lg (frQ 0 6 (qT x0 x1 x2 (fH false true b3 b4 xs))) cs)).frame=frQ 1 0 (qT x0 x1 x2 (fH false true b3 b4 xs)):=by kernel_rfl
theorem N5:dn Qg fQ 8 (frQ 0 6 (qT x0 x1 x2 (fH false false true b4 xs))) cs:=⟨λw=>by kernel_rfl,by kernel_rfl,by kernel_rfl⟩
theorem ME:(az Qg true 8 (lg (frQ 0 6 (qT x0 x1 x2 (fH false false true b4 xs))) cs)).frame=frQ 1 0 (qT x0 x1 x2 (fH false false true b4 xs)):=by kernel_rfl
theorem Jo:dn Qg fQ 9 (frQ 0 6 (qT x0 x1 x2 (fH false false false true xs))) cs:=⟨λw=>by kernel_rfl,by kernel_rfl,by kernel_rfl⟩
theorem NY:(az Qg true 9 (lg (frQ 0 6 (qT x0 x1 x2 (fH false false false true xs))) cs)).frame=frQ 1 0 (qT x0 x1 x2 (fH false false false true xs)):=by kernel_rfl
theorem MN:dn Qg fQ 6 (frQ 0 6 (qT x0 x1 x2 (fH false false false false xs))) cs:=⟨λw=>by kernel_rfl,by kernel_rfl,by kernel_rfl⟩
noncomputable def rE:Frame:=(az Qg true 6 (lg (frQ 0 6 (qT x0 x1 x2 (fH false false false false xs))) cs)).frame
theorem DT(w:World):cM (stepG Qg true (lg (rE x0 x1 x2 xs cs) cs) w)=false:=by kernel_rfl
theorem Oq:(rE x0 x1 x2 xs cs).fn=fQ:=by kernel_rfl
theorem NW:aE Qg true (lg (frQ 1 0 (qT x0 x1 x2 xs)) cs):=⟨λw=>by kernel_rfl,by kernel_rfl,by kernel_rfl⟩
theorem LN(r:Nat):feed Qg (aQ (lg (frQ 1 0 (qT x0 (.int .i64 1) x2 xs)) cs)) [.ref r]=some ([.nw (.cells (Array.replicate 1 (.int .u64 0)) 55)],.inl (.value (dp r 1))):=by kernel_rfl
theorem D2(r:Nat):feed Qg (aQ (lg (frQ 1 0 (qT x0 (.int .i64 4) x2 xs)) cs)) [.ref r]=some ([.nw (.cells (Array.replicate 4 (.int .u64 0)) 55)],.inl (.value (dp r 4))):=by kernel_rfl
theorem D1(r:Nat):feed Qg (aQ (lg (frQ 1 0 (qT x0 (.int .i64 16) x2 xs)) cs)) [.ref r]=some ([.nw (.cells (Array.replicate 16 (.int .u64 0)) 55)],.inl (.value (dp r 16))):=by kernel_rfl
theorem I3(r:Nat):feed Qg (aQ (lg (frQ 1 0 (qT x0 (.int .i64 64) x2 xs)) cs)) [.ref r]=some ([.nw (.cells (Array.replicate 64 (.int .u64 0)) 55)],.inl (.value (dp r 64))):=by kernel_rfl
theorem Gz(v:Value):(frQ 1 0 (qT x0 x1 x2 xs)).finish v=frQ 1 1 (qT x0 x1 x2 (upd xs 6 v)):=by kernel_rfl
theorem K8:dn Qg fQ 7 (frQ 1 1 (qT x0 x1 x2 xs)) cs:=⟨λw=>by kernel_rfl,by kernel_rfl,by kernel_rfl⟩
theorem Hz:(az Qg true 7 (lg (frQ 1 1 (qT x0 x1 x2 xs)) cs)).frame=frQ 2 0 (qT x0 x1 x2 (upd xs 3 (.int .i64 0))):=by kernel_rfl
theorem yg:dn Qg fQ 1 (frQ 2 0 (qT x0 (.int .i64 n) x2 (upd xs 3 (.int .i64 i)))) cs:=⟨λw=>by kernel_rfl,by kernel_rfl,by kernel_rfl⟩
theorem xO:(az Qg true 1 (lg (frQ 2 0 (qT x0 (.int .i64 n) x2 (upd xs 3 (.int .i64 i)))) cs)).frame=frQ 2 1 (qT x0 (.int .i64 n) x2 (upd (upd xs 3 (.int .i64 i)) 14 (.bool (decide (i<n))))):=by kernel_rfl
theorem GA:dn Qg fQ 10 (frQ 2 1 (qT (.int .i64 a) x1 x2 (upd (upd xs 3 (.int .i64 i)) 14 (.bool true)))) cs:=⟨λw=>by kernel_rfl,by kernel_rfl,by kernel_rfl⟩
theorem LM:(az Qg true 10 (lg (frQ 2 1 (qT (.int .i64 a) x1 x2 (upd (upd xs 3 (.int .i64 i)) 14 (.bool true)))) cs)).frame=frQ 4 0 (qT (.int .i64 a) x1 x2 (upd (upd (upd xs 3 (.int .i64 i)) 14 (.bool true)) 4 (.int .i64 (IntKind.i64.wrap (a+i))))):=by kernel_rfl
theorem MQ:dn Qg fQ 5 (frQ 2 1 (qT x0 x1 x2 (upd xs 14 (.bool false)))) cs:=⟨λw=>by kernel_rfl,by kernel_rfl,by kernel_rfl⟩
noncomputable def iG:Frame:=(az Qg true 5 (lg (frQ 2 1 (qT x0 x1 x2 (upd xs 14 (.bool false)))) cs)).frame
theorem NM:(iG x0 x1 x2 xs cs).mode=.returning/\(iG x0 x1 x2 xs cs).defers= []/\(iG x0 x1 x2 xs cs).fn=fQ/\(iG x0 x1 x2 xs cs).kind=.normal:=⟨by kernel_rfl,by kernel_rfl,by kernel_rfl,by kernel_rfl⟩
theorem PL(c:Frame)(w:World):stepG Qg true (lg (iG x0 x1 x2 xs (c::cs)) (c::cs)) w=.go (lg (c.finish (xs 6)) cs) w #[]:=by kernel_rfl
theorem K5(id:Nat)(h:id=4\/id=5):aE Qg true (lg (frQ id 0 (qT x0 x1 x2 xs)) cs):=by
 rcases h with rfl|rfl
 ·exact⟨λw=>by kernel_rfl,by kernel_rfl,by kernel_rfl⟩
 ·exact⟨λw=>by kernel_rfl,by kernel_rfl,by kernel_rfl⟩
theorem OC(id:Nat)(h:id=4\/id=5):aQ (lg (frQ id 0 (qT x0 x1 x2 xs)) cs)=(do let d ←Deferred.ofValue x2 #[xs 4];invoke d.target d.args):=by
 rcases h with rfl|rfl<;>kernel_rfl
theorem DF(v:Value):(frQ 4 0 (qT x0 x1 x2 xs)).finish v=frQ 4 1 (qT x0 x1 x2 (upd xs 5 v)):=by kernel_rfl
theorem wL(v:Value):(frQ 5 0 (qT x0 x1 x2 xs)).finish v=frQ 5 1 (qT x0 x1 x2 (upd xs 8 v)):=by kernel_rfl
theorem MM(x:Value)(w:World)(h:cM (stepG Qg true (lg (frQ 4 1 (qT x0 x1 x2 (upd xs 5 x))) cs) w)=true): ∃s,x=.string s:=by
 have no:∀y,cM (stepG Qg true (lg (frQ 4 1 (qT x0 x1 x2 (upd xs 5 y))) cs) w)=false->x=y->False:=λy hx e=>by rw[e,hx]at h;cases h
 cases x with
 |string s=>exact⟨s,rfl⟩
 |pointer p=>cases p<;>exact (no _ (by kernel_rfl) rfl).elim
 |_=>exact (no _ (by kernel_rfl) rfl).elim
theorem vJ(x:Value)(w:World)(h:cM (stepG Qg true (lg (frQ 5 1 (qT x0 x1 x2 (upd xs 8 x))) cs) w)=true): ∃s,x=.string s:=by
 have no:∀y,cM (stepG Qg true (lg (frQ 5 1 (qT x0 x1 x2 (upd xs 8 y))) cs) w)=false->x=y->False:=λy hx e=>by rw[e,hx]at h;cases h
 cases x with
 |string s=>exact⟨s,rfl⟩
 |pointer p=>cases p<;>exact (no _ (by kernel_rfl) rfl).elim
 |_=>exact (no _ (by kernel_rfl) rfl).elim
noncomputable def strLt(s:ByteArray):Value:=(feed Qg (Go.binOp .lss 9 (.string s) (.string ByteArray.empty)) []).elim undef λx=>x.2.elim id λ_=>undef
theorem Na(s:ByteArray):dn Qg fQ 1 (frQ 4 1 (qT x0 x1 x2 (upd xs 5 (.string s)))) cs:=⟨λw=>by kernel_rfl,by kernel_rfl,by kernel_rfl⟩
theorem Ih(s:ByteArray):(az Qg true 1 (lg (frQ 4 1 (qT x0 x1 x2 (upd xs 5 (.string s)))) cs)).frame=frQ 4 2 (qT x0 x1 x2 (upd (upd xs 5 (.string s)) 18 (strLt s))):=by kernel_rfl
theorem wZ(s:ByteArray):dn Qg fQ 1 (frQ 5 1 (qT x0 x1 x2 (upd xs 8 (.string s)))) cs:=⟨λw=>by kernel_rfl,by kernel_rfl,by kernel_rfl⟩
theorem uW(s:ByteArray):(az Qg true 1 (lg (frQ 5 1 (qT x0 x1 x2 (upd xs 8 (.string s)))) cs)).frame=frQ 5 2 (qT x0 x1 x2 (upd (upd xs 8 (.string s)) 18 (strLt s))):=by kernel_rfl
theorem Ki(w:World):stepG Qg true (lg (frQ 4 2 (qT x0 x1 x2 xs)) cs) w=.go (lg (Frame.enter Qg 84 #[xs 5] .normal) (frQ 4 2 (qT x0 x1 x2 xs)::cs)) w #[]:=by kernel_rfl
theorem Av(w:World):stepG Qg true (lg (frQ 5 2 (qT x0 x1 x2 xs)) cs) w=.go (lg (Frame.enter Qg 84 #[xs 8] .normal) (frQ 5 2 (qT x0 x1 x2 xs)::cs)) w #[]:=by kernel_rfl
theorem Nn(v:Value):(frQ 4 2 (qT x0 x1 x2 xs)).finish v=frQ 4 3 (qT x0 x1 x2 (upd xs 7 v)):=by kernel_rfl
theorem wY(v:Value):(frQ 5 2 (qT x0 x1 x2 xs)).finish v=frQ 5 3 (qT x0 x1 x2 (upd xs 9 v)):=by kernel_rfl
theorem KW:dn Qg fQ 3 (frQ 4 3 (qT x0 x1 x2 xs)) cs:=⟨λw=>by kernel_rfl,by kernel_rfl,by kernel_rfl⟩
theorem GN:(az Qg true 3 (lg (frQ 4 3 (qT x0 x1 x2 xs)) cs)).frame=frQ 5 0 (qT x0 x1 x2 xs):=by kernel_rfl
theorem wR:dn Qg fQ 3 (frQ 5 3 (qT x0 x1 x2 xs)) cs:=⟨λw=>by kernel_rfl,by kernel_rfl,by kernel_rfl⟩
theorem uT:(az Qg true 3 (lg (frQ 5 3 (qT x0 x1 x2 xs)) cs)).frame=frQ 6 0 (qT x0 x1 x2 xs):=by kernel_rfl
theorem Fx(x:Value)(w:World)(h:cM (stepG Qg true (lg (frQ 6 0 (qT x0 x1 x2 (upd xs 7 x))) cs) w)=true): ∃a,x=.int .u64 a:=by
 have no:∀y,cM (stepG Qg true (lg (frQ 6 0 (qT x0 x1 x2 (upd xs 7 y))) cs) w)=false->x=y->False:=λy hx e=>by rw[e,hx]at h;cases h
 cases x with
 |int k a=>cases k<;>first|exact⟨a,rfl⟩|exact (no _ (by kernel_rfl) rfl).elim
 |pointer p=>cases p<;>exact (no _ (by kernel_rfl) rfl).elim
 |_=>exact (no _ (by kernel_rfl) rfl).elim
theorem xA(e:Int):dn Qg fQ 1 (frQ 6 0 (qT x0 x1 x2 (upd xs 7 (.int .u64 e)))) cs:=⟨λw=>by kernel_rfl,by kernel_rfl,by kernel_rfl⟩
theorem zO(e:Int):(az Qg true 1 (lg (frQ 6 0 (qT x0 x1 x2 (upd xs 7 (.int .u64 e)))) cs)).frame=frQ 6 1 (qT x0 x1 x2 (upd (upd xs 7 (.int .u64 e)) 18 (.bool (decide (e<0))))):=by kernel_rfl
theorem yf(x:Value)(w:World)(h:cM (stepG Qg true (lg (frQ 6 1 (qT x0 x1 x2 (upd xs 9 x))) cs) w)=true): ∃a,x=.int .u64 a:=by
 have no:∀y,cM (stepG Qg true (lg (frQ 6 1 (qT x0 x1 x2 (upd xs 9 y))) cs) w)=false->x=y->False:=λy hx e=>by rw[e,hx]at h;cases h
 cases x with
 |int k a=>cases k<;>first|exact⟨a,rfl⟩|exact (no _ (by kernel_rfl) rfl).elim
 |pointer p=>cases p<;>exact (no _ (by kernel_rfl) rfl).elim
 |_=>exact (no _ (by kernel_rfl) rfl).elim
def lW(e f:Int)(xs:Nat->Value):Nat->Value:=upd (upd xs 7 (.int .u64 e)) 9 (.int .u64 f)
theorem y7(e f:Int):dn Qg fQ 2 (frQ 6 1 (qT x0 x1 x2 (lW e f xs))) cs:=⟨λw=>by kernel_rfl,by kernel_rfl,by kernel_rfl⟩
theorem vu(e f:Int):(az Qg true 2 (lg (frQ 6 1 (qT x0 x1 x2 (lW e f xs))) cs)).frame=frQ 6 3 (qT x0 x1 x2 (upd (upd (lW e f xs) 19 (.bool (decide (f<0)))) 15 (.bool (!(decide (e=f)))))):=by kernel_rfl
theorem AO:dn Qg fQ 3 (frQ 6 3 (qT x0 x1 x2 (upd xs 15 (.bool true)))) cs:=⟨λw=>by kernel_rfl,by kernel_rfl,by kernel_rfl⟩
noncomputable def pB:Frame:=(az Qg true 3 (lg (frQ 6 3 (qT x0 x1 x2 (upd xs 15 (.bool true)))) cs)).frame
theorem vQ(w:World):cM (stepG Qg true (lg (pB x0 x1 x2 xs cs) cs) w)=false:=by kernel_rfl
theorem BJ:(pB x0 x1 x2 xs cs).fn=fQ:=by kernel_rfl
theorem H6:dn Qg fQ 5 (frQ 6 3 (qT x0 x1 x2 (upd xs 15 (.bool false)))) cs:=⟨λw=>by kernel_rfl,by kernel_rfl,by kernel_rfl⟩
theorem IJ:(az Qg true 5 (lg (frQ 6 3 (qT x0 x1 x2 (upd xs 15 (.bool false)))) cs)).frame=frQ 7 0 (qT x0 x1 x2 (upd xs 15 (.bool false))):=by kernel_rfl
theorem Hr:aE Qg true (lg (frQ 7 0 (qT x0 x1 x2 xs)) cs):=⟨λw=>by kernel_rfl,by kernel_rfl,by kernel_rfl⟩
theorem LY:aQ (lg (frQ 7 0 (qT x0 x1 x2 xs)) cs)=(Instr.indexAt 158 (xs 6) (xs 3) >>=λv=>pure (.value v)):=by kernel_rfl
theorem Mr(v:Value):(frQ 7 0 (qT x0 x1 x2 xs)).finish v=frQ 7 1 (qT x0 x1 x2 (upd xs 18 v)):=by kernel_rfl
theorem JP(v:Value):aE Qg true (lg (frQ 7 1 (qT x0 x1 x2 (upd xs 18 v))) cs):=⟨λw=>by kernel_rfl,by kernel_rfl,by kernel_rfl⟩
theorem PZ(d k:Nat)(e:Int):feed Qg (aQ (lg (frQ 7 1 (qT x0 x1 x2 (upd (upd xs 9 (.int .u64 e)) 18 (.pointer (some ⟨d,k,none⟩))))) cs)) []=some ([.st .plain ⟨d,k,none⟩ (.int .u64 e)],.inl .skip):=by kernel_rfl
theorem iJ(xs:Nat->Value)(j:Nat):upd xs j (xs j)=xs:=by
 funext b;unfold upd;split
 ·rename_i h;rw[h]
 ·rfl
theorem Lg(d k:Nat)(e:Int)(h:xs 9=.int .u64 e):feed Qg (aQ (lg (frQ 7 1 (qT x0 x1 x2 (upd xs 18 (.pointer (some ⟨d,k,none⟩))))) cs)) []=some ([.st .plain ⟨d,k,none⟩ (.int .u64 e)],.inl .skip):=by
 have:=PZ x0 x1 x2 xs cs d k e;rw[<-h,iJ]at this;rw[this,h]
theorem Dr:(frQ 7 1 (qT x0 x1 x2 xs)).finish undef=frQ 7 2 (qT x0 x1 x2 xs):=by kernel_rfl
theorem Ds:dn Qg fQ 6 (frQ 7 2 (qT x0 x1 x2 (upd xs 3 (.int .i64 i)))) cs:=⟨λw=>by kernel_rfl,by kernel_rfl,by kernel_rfl⟩
theorem Hf:(az Qg true 6 (lg (frQ 7 2 (qT x0 x1 x2 (upd xs 3 (.int .i64 i)))) cs)).frame=frQ 2 0 (qT x0 x1 x2 (upd (upd xs 19 (.int .i64 (IntKind.i64.wrap (i+1)))) 3 (.int .i64 (IntKind.i64.wrap (i+1))))):=by kernel_rfl
end
end
section
open Go.Conc
open Go.ConcN (upd upd_same upd_ne)
def dV(ρ:Nat->Nat->Prop):ah:=⟨ρ,λ_ _=>False,λ_ _=>False,λ_ _=>False⟩
theorem jg{ρ:Nat->Nat->Prop}:(dV ρ).un r s↔ρ r s:=by simp[dV,ah.un]
theorem qM{ρ:Nat->Nat->Prop}: ¬(dV ρ).mine r s:=by simp[dV,ah.mine]
theorem zM{ρ:Nat->Nat->Prop}(hb:jF ρ):Fit (dV ρ) where
 own:=λ_ _ h=>h.elim
 two:=λ_ _ _ _ h=>h.elim
 jR:=λ_ _ _ _ h=>h.elim
 j3:=λ_ _ _ h=>h.elim
 fn:=λr s t h k=>hb.fn r s t (jg.1 h) (jg.1 k)
 inj:=λr s t h k=>hb.inj r s t (jg.1 h) (jg.1 k)
section
variable {P:Program}{G:Array Func}{L:au}{T:aO}{ρ:Nat->Nat->Prop}{Goal:Frame->List Frame->World->Prop}
theorem px(S:Stat P G L T)(hfl:T.fl=false)(hf:L.fn f)(hn:f≠T.bj){xs:Array Value}(hT:TR L (dV ρ) f xs ys)(B D:List Frame)(hb:jF ρ)(hg:∀g,g<T.ng->ρ g g)(hd:∀r s,ρ r s->r<w.heap.size/\s<v.heap.size)(ho:∀r s,ρ r s->∃o q,w.heap[r]?=some o/\v.heap[s]?=some q/\OR L (dV ρ) o q):
  fT P G L T (dV ρ) B D {frame:=Frame.enter (gp P G) f xs .normal,callers:=B,status:=.running,dying:=none} w {frame:=Frame.enter P f ys .normal,callers:=D,status:=.running,dying:=none} v:=by
 refine⟨⟨.run (bl.enter S.br hf hn hT),⟨rfl,rfl⟩,⟨rfl,rfl⟩,⟨rfl,rfl⟩,[],[],rfl,rfl,.nil _,rfl⟩,zM hb,⟨λhx=>(by rw[hfl]at hx;cases hx),hg⟩,λr s h=>hd r s (jg.1 h),λr s h=>?_⟩;obtain⟨o,q,h1,h2,h3⟩:=ho r s (jg.1 h);exact⟨o,q,h1,h2,KR.kB (zM hb) (jg.1 h) h3⟩
theorem Ad{fn:Func}(h1:P.funcs[f]?=some fn)(h2:(fn.name== "runtime.NumGoroutine")=false)(h3:fn.body.isNone=false)(args:Array Value)(w:World)(es:Array Event):(callFunc f args).runT P w es=(.ok (.enter f args) w,es):=by
 unfold callFunc;show ((Go.program).bind _).runT P w es=_;rw[Sem.runT_bind'];simp only[Go.program,Sem.runT,h1,h2,h3,QF,QC];rfl
theorem dB(f:FuncId):seen P f #[]=#[]:=by simp[seen]
theorem aE.enter{m:Bool}{g:Goroutine}(h:aE P m g){f:FuncId}{args:Array Value}{w:World}(hr:(aQ g).runT P w #[]=(.ok (.enter f args) w,#[]))(hk:(match g.frame.todo with|.call _ true _ _::_=>CallKind.wrapped|_=>CallKind.normal)=.normal):
  stepG P m g w=.go {frame:=Frame.enter P f args .normal,callers:=g.frame::g.callers,status:=.running,dying:=none} w #[]:=by
 rw[h.1 w];simp only[stepG.apply,hr,h.2.2,QF,QC,QD,GStep.after,dB,QV];exact congrArg (λk=>GStep.go {frame:=Frame.enter P f args k,callers:=g.frame::g.callers,status:=.running,dying:=none} w) hk
theorem Ha{x:Value}(hv:VR L τ.all x y){xs:Array Value}(hx:XR (VR L τ.all) xs ys):
  (∃f us us' vs vs',x=.func (.func f) us vs/\y=.func (.func f) us' vs'/\L.eA f/\XR (VR L τ.all) (us++xs++vs) (us'++ys++vs')/\(do let d ←Deferred.ofValue x xs;invoke d.target d.args)=callFunc f (us++xs++vs)/\(do let d ←Deferred.ofValue y ys;invoke d.target d.args)=callFunc f (us'++ys++vs'))
  \/ai (gp P G) (do let d ←Deferred.ofValue x xs;invoke d.target d.args):=by
 cases hv with
 |func us vs hf hu hv'=>exact .inl ⟨_,_,_,_,_,rfl,rfl,hf,XR.append (XR.append ⟨us,rfl,rfl,hu⟩ hx) ⟨vs,rfl,rfl,hv'⟩,rfl,rfl⟩
 |nilFunc=>exact .inr (show ai (gp P G) (runtimePanic .nilDeref:Sem Next) from .runtimePanic _)
 |aW s h1 h2 h3=>
  refine .inr ?_;show ai (gp P G) (match (#[Value.nilIface]++xs)[0]? with|some recv=>callMethod recv s ((#[Value.nilIface]++xs).extract 1 (#[Value.nilIface]++xs).size)|_=>stuck "call: a method without a receiver");have e:(#[Value.nilIface]++xs)[0]?=some .nilIface:=by rw[Array.getElem?_append_left (by decide)];rfl
  rw[e];exact show ai (gp P G) (runtimePanic .nilDeref:Sem Next) from .runtimePanic _
 |_=>exact .inr (ai.bind' (.stuck _))
theorem Fj(K:Let P G L T){fr:Frame}{cs:List Frame}(hs:Safe (gp P G) Goal fr cs w)(hn: ¬Goal fr cs w)(ho:aE (gp P G) true (lg fr cs))(hk:fr.kind=.normal)(hd:ai (gp P G) (aQ (lg fr cs))):False:=by
 obtain⟨fr1,cs1,w1,es,e,hfi,_⟩:=Safe.goes hs hn w.tape;have e':stepG (gp P G) true (lg fr cs) w=.go (lg fr1 cs1) w1 es:=e;rw[ho.1 w]at e';obtain⟨a,es0,hr⟩:=sI (Q:=gp P G) K.ahead K.qy (fr:=fr) hk e' hfi;obtain⟨_,_,_,hr',_⟩:=hd w #[];rw[hr]at hr';cases hr'
end
structure dH(L:au)(T:aO)(Goal:Frame->List Frame->World->Prop):Prop where
 stat:Stat Tryz.prog Gg L T
 fl:T.fl=false
 bj:T.bj=fQ
 nC: ¬L.fn T.bj
 goal:∀fr cs w,Goal fr cs w->cs= []/\fr.fn≠fQ
 sum:L.fn 84/\L.bO 84 0=.any
structure Entry(L:au) where
 first:Int
 n:Nat
 x2:Value
 y2:Value
 ρ:Nat->Nat->Prop
 w0:World
 v0:World
 cs:List Frame
structure fK(L:au)(E:Entry L):Prop where
 bi:jF E.ρ
 bC:∀r s,E.ρ r s->r<E.w0.heap.size/\s<E.v0.heap.size
 obj:∀r s,E.ρ r s->∃o q,E.w0.heap[r]?=some o/\E.v0.heap[s]?=some q/\OR L (dV E.ρ) o q
 fB:VR L E.ρ E.x2 E.y2
 uB:∀g,g<Tryz.prog.globals.size->E.ρ g g
theorem fK.gl{L:au}{T:aO}{E:Entry L}(K:fK L E)(S:Stat Tryz.prog Gg L T):∀g,g<T.ng->E.ρ g g:=λg h=>K.uB g (by rw[S.globals];exact h)
section
variable {L:au}{T:aO}{Goal:Frame->List Frame->World->Prop}{E:Entry L}
def fI(E:Entry L)(w:World):Prop:=E.w0.heap.size<=w.heap.size/\∀r,r<E.w0.heap.size->w.heap[r]?=E.w0.heap[r]?
noncomputable abbrev qF(E:Entry L)(id n:Nat)(xs:Nat->Value):Frame:=frQ id n (qT (.int .i64 E.first) (.int .i64 E.n) E.x2 xs)
theorem sM(E:Entry L)(id n:Nat)(xs:Nat->Value):(qF E id n xs).fn=fQ:=rfl
theorem fI.obj(K:fK L E)(h:fI E w)(v:World)(hv:∀r s,E.ρ r s->v.heap[s]?=E.v0.heap[s]?)(hvs:E.v0.heap.size<=v.heap.size):(∀r s,E.ρ r s->r<w.heap.size/\s<v.heap.size)/\∀r s,E.ρ r s->∃o q,w.heap[r]?=some o/\v.heap[s]?=some q/\OR L (dV E.ρ) o q:=by
 refine⟨λr s hr=>?_,λr s hr=>?_⟩
 ·have:=K.bC r s hr;have:=h.1;omega
 ·obtain⟨o,q,h1,h2,h3⟩:=K.obj r s hr;exact⟨o,q,by rw[h.2 r (K.bC r s hr).1];exact h1,by rw[hv r s hr];exact h2,h3⟩
theorem dH.gq(A:dH L T Goal){fr:Frame}{cs:List Frame}(h:fr.fn=fQ): ¬Goal fr cs w:=λhg=>(A.goal _ _ _ hg).2 h
theorem dH.cM(A:dH L T Goal){fr:Frame}{cs:List Frame}(h:Safe Qg Goal fr cs w)(hf:fr.fn=fQ):cM (stepG Qg true (lg fr cs) w)=true:=by
 obtain⟨fr1,cs1,w1,es,e,_⟩:=Safe.goes h (A.gq hf) w.tape;have e':stepG Qg true (lg fr cs) w=.go (lg fr1 cs1) w1 es:=e;rw[e'];rfl
theorem si(A:dH L T Goal)(K:fK L E)(id:Nat)(hid:id=4\/id=5){xs:Nat->Value}(hs:Safe Qg Goal (qF E id 0 xs) E.cs w)(h4:xs 4=.int .i64 m):
  ∃f us us' vs vs',E.x2=.func (.func f) us vs/\E.y2=.func (.func f) us' vs'/\L.fn f/\f≠T.bj/\TR L (dV E.ρ) f (us++#[.int .i64 m]++vs) (us'++#[.int .i64 m]++vs')/\
   stepG Qg true (lg (qF E id 0 xs) E.cs) w=.go (lg (Frame.enter Qg f (us++#[.int .i64 m]++vs) .normal) (qF E id 0 xs::E.cs)) w #[]:=by
 have hop:=K5 (.int .i64 E.first) (.int .i64 E.n) E.x2 xs E.cs id hid;have hpend:=OC (.int .i64 E.first) (.int .i64 E.n) E.x2 xs E.cs id hid;rw[h4]at hpend;rcases Ha (P:=Tryz.prog) (G:=Gg) (L:=L) (τ:=dV E.ρ) K.fB (xs:=#[.int .i64 m]) (ys:=#[.int .i64 m]) (XR.push (xs:=#[]) (ys:=#[]) XR.nil (.int _ _)) with⟨f,us,us',vs,vs',e1,e2,hf,hx,e3,e4⟩|hd
 ·obtain⟨h1,h2,h3⟩:=A.stat.br.mW.eA f hf;have hnp:f≠T.bj:=λe=>A.nC (e▸h1);refine⟨f,us,us',vs,vs',e1,e2,h1,hnp,TR.uS h2 hx,?_⟩;obtain⟨_,⟨gn,g1,g2,g3⟩⟩:=A.stat.br.nj f h1;have hr:(aQ (lg (qF E id 0 xs) E.cs)).runT Qg w #[]=(.ok (.enter f (us++#[.int .i64 m]++vs)) w,#[]):=by
   rw[hpend,e3];exact Ad (P:=Qg) g1 g2 g3 _ _ _
  refine aE.enter hop hr ?_;rcases hid with rfl|rfl<;>rfl
 ·exact (Fj A.stat.br hs (A.gq (sM E id 0 xs)) hop rfl (by rw[hpend];exact hd)).elim
theorem wa(A:dH L T Goal)(K:fK L E)(id:Nat)(hid:id=4\/id=5){xs:Nat->Value}(hs:Safe Qg Goal (qF E id 0 xs) E.cs w)(h4:xs 4=.int .i64 m)(hk:fI E w):
  ∃x w',cG Qg Goal (qF E id 0 xs) E.cs w ((qF E id 0 xs).finish x) E.cs w'/\w.heap.size<=w'.heap.size/\∀r,r<w.heap.size->w'.heap[r]?=w.heap[r]? :=by
 obtain⟨f,us,us',vs,vs',_,_,hf,hn,hT,e⟩:=si A K id hid hs h4;have hs1:=Safe.next hs (A.gq (sM E id 0 xs)) w.tape e;obtain⟨d1,d2⟩:=hk.obj K E.v0 (λ_ _ _=>rfl) (AI _);have hS:=px A.stat A.fl hf hn hT (qF E id 0 xs::E.cs++ [wall]) [] K.bi (K.gl A.stat) d1 d2;obtain⟨x,w',r1,r2,r3⟩:=vq (cs:=E.cs) (frQ:=qF E id 0 xs) (D:=[]) (B0:=w.heap.size) (w0:=w) A.stat A.nC (λfr cs w hg=>(A.goal fr cs w hg).1) hs1 [] (dV E.ρ) _ E.v0 rfl hS (λr s hx=>absurd hx qM) (AI _) (λ_ _=>rfl);exact⟨x,w',.step w.tape _ (A.gq (sM E id 0 xs)) e r1,r2,r3⟩
theorem yh(A:dH L T Goal)(K:fK L E){fr:Frame}(hfr:fr.fn=fQ){t:ByteArray}(hs:Safe Qg Goal fr E.cs w)(hk:fI E w)(e:stepG Qg true (lg fr E.cs) w=.go (lg (Frame.enter Qg 84 #[.string t] .normal) (fr::E.cs)) w #[]):
  ∃x w',cG Qg Goal fr E.cs w (fr.finish x) E.cs w'/\w.heap.size<=w'.heap.size/\∀r,r<w.heap.size->w'.heap[r]?=w.heap[r]? :=by
 have hs1:=Safe.next hs (A.gq hfr) w.tape e;obtain⟨d1,d2⟩:=hk.obj K E.v0 (λ_ _ _=>rfl) (AI _);have hT:TR L (dV E.ρ) 84 #[.string t] #[.string t]:=⟨rfl,λi x y hx hy=>by
  cases i with
  |zero=>
   rw[A.sum.2];simp at hx hy;subst hx hy;exact VR.string t
  |succ i=>simp at hx⟩
 have hS:=px A.stat A.fl A.sum.1 (λe=>A.nC (e▸A.sum.1)) hT (fr::E.cs++ [wall]) [] K.bi (K.gl A.stat) d1 d2;obtain⟨x,w',r1,r2,r3⟩:=vq (cs:=E.cs) (frQ:=fr) (D:=[]) (B0:=w.heap.size) (w0:=w) A.stat A.nC (λfr cs w hg=>(A.goal fr cs w hg).1) hs1 [] (dV E.ρ) _ E.v0 rfl hS (λr s hx=>absurd hx qM) (AI _) (λ_ _=>rfl);exact⟨x,w',.step w.tape _ (A.gq hfr) e r1,r2,r3⟩
end
end
section
open Go.Conc
open Go.ConcN (upd upd_same upd_ne)
theorem Fl(Q:Program)(hQ:Q=Qg\/Q=Tryz.prog)(d n k:Nat):feed Q (Instr.indexAt 158 (dp d n) (.int .i64 k) >>=λv=>(pure (.value v):Sem Next)) []=
  feed Q (Sem.bind (if (0:Int)<=(k:Int)/\(k:Int)<(n:Int) then (Sem.bind (Go.sizeOf 55) λs=>Sem.pure (.pointer (some ((⟨d,0,none⟩:Addr).add ((k:Int).toNat*s))))) else (if (decide (n<=1)&&false)=true then unsupported (.noEntry "op/indexAddr.an index out of range at an array of length 0 or 1 (ledger 616)") else boundsPanic .i64 k n .index)) λv=>(Sem.pure (Next.value v):Sem Next)) []:=by
 rcases hQ with rfl|rfl
 ·kernel_rfl
 ·kernel_rfl
theorem DK(Q:Program)(hQ:Q=Qg\/Q=Tryz.prog)(d k:Nat):feed Q (Sem.bind (Sem.bind (Go.sizeOf 55) λs=>Sem.pure (.pointer (some ((⟨d,0,none⟩:Addr).add ((k:Int).toNat*s))))) λv=>(Sem.pure (Next.value v):Sem Next)) []=some ([],.inl (.value (.pointer (some ((⟨d,0,none⟩:Addr).add ((k:Int).toNat*1)))))):=by
 rcases hQ with rfl|rfl
 ·kernel_rfl
 ·kernel_rfl
theorem Al(Q:Program)(hQ:Q=Qg\/Q=Tryz.prog){n k:Nat}(h:k<n):feed Q (Instr.indexAt 158 (dp d n) (.int .i64 k) >>=λv=>(pure (.value v):Sem Next)) []=some ([],.inl (.value (.pointer (some ⟨d,k,none⟩)))):=by
 rw[Fl Q hQ,IN ⟨by omega,by omega⟩,DK Q hQ];have e:(⟨d,0,none⟩:Addr).add ((k:Int).toNat*1)=⟨d,k,none⟩:=by
  unfold Addr.add;split
  ·rename_i h0;simp at h0;subst h0;rfl
  ·simp
 rw[e]
section
variable {L:au}{T:aO}{Goal:Frame->List Frame->World->Prop}{E:Entry L}
def pA(Goal:Frame->List Frame->World->Prop)(E:Entry L)(i:Nat)(a:Int):Prop:=
 ∃xs w,Safe Qg Goal (qF E 5 0 xs) E.cs w/\xs 4=.int .i64 (IntKind.i64.wrap (E.first+i))/\xs 7=.int .u64 a/\fI E w
structure ny(Goal:Frame->List Frame->World->Prop)(E:Entry L)(i:Nat)(a:Nat->Int)(d:Nat)(xs:Nat->Value)(w:World):Prop where
 safe:Safe Qg Goal (qF E 2 0 (upd xs 3 (.int .i64 i))) E.cs w
 row:xs 6=dp d E.n
 keeps:fI E w
 new:E.w0.heap.size<=d
 blk: ∃C:Array Value,w.heap[d]?=some (.cells C 55)/\C.size=E.n/\∀k,k<i->C[k]?=some (.int .u64 (a k))
 kh:∀k,k<i->pA Goal E k (a k)
theorem dH.cQ(A:dH L T Goal){n:Nat}{fr fr':Frame}{cs:List Frame}(h:dn Qg fQ n fr cs)(he:(az Qg true n (lg fr cs)).frame=fr')(w:World):cG Qg Goal fr cs w fr' cs w:=
 h.run (λfr cs w hg=>(A.goal fr cs w hg).2) he w
theorem fI.later(A:dH L T Goal){w':World}(h:fI E w)(hs:w.heap.size<=w'.heap.size)(hw:∀r,r<w.heap.size->w'.heap[r]?=w.heap[r]?):fI E w':=by
 have _:=A;exact⟨IT h.1 hs,λr hr=>by rw[hw r (QL hr h.1),h.2 r hr]⟩
theorem wrap_small{k:Int}(h0:0<=k)(h1:k<9223372036854775808):IntKind.i64.wrap k=k:=by
 simp only[IntKind.wrap,IntKind.bits,IntKind.signed];simp;omega
theorem Ik(A:dH L T Goal)(K:fK L E){i:Nat}{a:Nat->Int}{xs:Nat->Value}(H:ny Goal E i a d xs w)(hi:i<E.n)(hn:E.n<=64):
  ∃e xs' w',cG Qg Goal (qF E 2 0 (upd xs 3 (.int .i64 i))) E.cs w (qF E 2 0 (upd xs' 3 (.int .i64 ((i+1:Nat):Int)))) E.cs w'/\ny Goal E (i+1) (upd a i e) d xs' w':=by
 have hin:decide ((i:Int)<(E.n:Int))=true:=by simp;omega
 have r1:=A.cQ (yg (.int .i64 E.first) E.x2 E.n i xs E.cs) (xO (.int .i64 E.first) E.x2 E.n i xs E.cs) w;rw[hin]at r1;have r2:=A.cQ (GA (.int .i64 E.n) E.x2 E.first i xs E.cs) (LM (.int .i64 E.n) E.x2 E.first i xs E.cs) w;generalize hX1:upd (upd (upd xs 3 (.int .i64 i)) 14 (.bool true)) 4 (.int .i64 (IntKind.i64.wrap (E.first+i)))=X1 at r2;have f14:X1 4=.int .i64 (IntKind.i64.wrap (E.first+i)):=by rw[<-hX1];rfl
 have f13:X1 3=.int .i64 i:=by rw[<-hX1];rfl
 have f16:X1 6=dp d E.n:=by rw[<-hX1];exact H.row
 have s1:Safe Qg Goal (qF E 4 0 X1) E.cs w:=Safe.run H.safe (r1.trans r2);obtain⟨x,w1,r3,z1,o1⟩:=wa A K 4 (.inl rfl) s1 f14 H.keeps;rw[show (qF E 4 0 X1).finish x=qF E 4 1 (upd X1 5 x) from DF ..]at r3;have s2:=Safe.run s1 r3;obtain⟨t,rfl⟩:=MM _ _ _ _ _ _ _ (A.cM s2 rfl);have r4:=A.cQ (Na (.int .i64 E.first) (.int .i64 E.n) E.x2 X1 E.cs t) (Ih (.int .i64 E.first) (.int .i64 E.n) E.x2 X1 E.cs t) w1;have s3:=Safe.run s2 r4;have k1:=H.keeps.later A z1 o1;obtain⟨dv,w2,r5,z2,o2⟩:=yh A K (fr:=qF E 4 2 (upd (upd X1 5 (.string t)) 18 (strLt t))) rfl s3 k1 (Ki ..);rw[Nn]at r5;have s4:=Safe.run s3 r5;have r6:=A.cQ (KW (.int .i64 E.first) (.int .i64 E.n) E.x2 (upd (upd (upd X1 5 (.string t)) 18 (strLt t)) 7 dv) E.cs) (GN (.int .i64 E.first) (.int .i64 E.n) E.x2 (upd (upd (upd X1 5 (.string t)) 18 (strLt t)) 7 dv) E.cs) w2;generalize hX3:upd (upd (upd X1 5 (.string t)) 18 (strLt t)) 7 dv=X3 at r5 r6 s4;have f34:X3 4=.int .i64 (IntKind.i64.wrap (E.first+i)):=by rw[<-hX3];exact f14
 have f33:X3 3=.int .i64 i:=by rw[<-hX3];exact f13
 have f36:X3 6=dp d E.n:=by rw[<-hX3];exact f16
 have f37:X3 7=dv:=by rw[<-hX3];rfl
 have s5:Safe Qg Goal (qF E 5 0 X3) E.cs w2:=Safe.run s4 r6;have k2:=k1.later A z2 o2;obtain⟨x',w3,r7,z3,o3⟩:=wa A K 5 (.inr rfl) s5 f34 k2;rw[show (qF E 5 0 X3).finish x'=qF E 5 1 (upd X3 8 x') from wL ..]at r7;have s6:=Safe.run s5 r7;obtain⟨t',rfl⟩:=vJ _ _ _ _ _ _ _ (A.cM s6 rfl);have r8:=A.cQ (wZ (.int .i64 E.first) (.int .i64 E.n) E.x2 X3 E.cs t') (uW (.int .i64 E.first) (.int .i64 E.n) E.x2 X3 E.cs t') w3;have s7:=Safe.run s6 r8;have k3:=k2.later A z3 o3;obtain⟨ev,w4,r9,z4,o4⟩:=yh A K (fr:=qF E 5 2 (upd (upd X3 8 (.string t')) 18 (strLt t'))) rfl s7 k3 (Av ..);rw[wY]at r9;have s8:=Safe.run s7 r9;have k4:=k3.later A z4 o4;generalize hX5:upd (upd (upd X3 8 (.string t')) 18 (strLt t')) 9 ev=X5 at r9 s8;have f57:X5 7=dv:=by rw[<-hX5];exact f37
 have f59:X5 9=ev:=by rw[<-hX5];rfl
 have f56:X5 6=dp d E.n:=by rw[<-hX5];exact f36
 have f53:X5 3=.int .i64 i:=by rw[<-hX5];exact f33
 have r10:=A.cQ (wR (.int .i64 E.first) (.int .i64 E.n) E.x2 X5 E.cs) (uT (.int .i64 E.first) (.int .i64 E.n) E.x2 X5 E.cs) w4;have s9:=Safe.run s8 r10;have u7:upd X5 7 dv=X5:=by rw[<-f57];exact iJ X5 7
 rw[<-u7]at r10 s9;obtain⟨ea,rfl⟩:=Fx _ _ _ _ _ _ _ (A.cM s9 rfl);have r11:=A.cQ (xA (.int .i64 E.first) (.int .i64 E.n) E.x2 X5 E.cs ea) (zO (.int .i64 E.first) (.int .i64 E.n) E.x2 X5 E.cs ea) w4;have s10:=Safe.run s9 r11;rw[u7]at r10 r11 s10;generalize hX6:upd X5 18 (.bool (decide (ea<0)))=X6 at r11 s10;have f67:X6 7=.int .u64 ea:=by rw[<-hX6];exact f57
 have f69:X6 9=ev:=by rw[<-hX6];exact f59
 have f66:X6 6=dp d E.n:=by rw[<-hX6];exact f56
 have f63:X6 3=.int .i64 i:=by rw[<-hX6];exact f53
 have u9:upd X6 9 ev=X6:=by rw[<-f69];exact iJ X6 9
 rw[<-u9]at s10;obtain⟨eb,rfl⟩:=yf _ _ _ _ _ _ _ (A.cM s10 rfl);rw[u9]at s10;have u79:lW ea eb X6=X6:=by
  unfold lW;rw[show upd X6 7 (.int .u64 ea)=X6 by rw[<-f67];exact iJ X6 7];exact u9
 have r12:=A.cQ (y7 (.int .i64 E.first) (.int .i64 E.n) E.x2 X6 E.cs ea eb) (vu (.int .i64 E.first) (.int .i64 E.n) E.x2 X6 E.cs ea eb) w4;rw[u79]at r12;have s11:=Safe.run s10 r12;have hab:ea=eb:=by
  refine Rm λhne=>?_;rw[show (!decide (ea=eb))=true by simp[hne]]at s11;have rb:=A.cQ (AO (.int .i64 E.first) (.int .i64 E.n) E.x2 (upd X6 19 (.bool (decide (eb<0)))) E.cs) rfl w4;have sb:=Safe.run s11 rb
  have:=A.cM (fr:=pB (.int .i64 E.first) (.int .i64 E.n) E.x2 (upd X6 19 (.bool (decide (eb<0)))) E.cs) sb (BJ ..);rw[vQ]at this;cases this
 subst hab;rw[show (!decide (ea=ea))=false by simp]at r12 s11;have r13:=A.cQ (H6 (.int .i64 E.first) (.int .i64 E.n) E.x2 (upd X6 19 (.bool (decide (ea<0)))) E.cs) (IJ (.int .i64 E.first) (.int .i64 E.n) E.x2 (upd X6 19 (.bool (decide (ea<0)))) E.cs) w4;have s12:=Safe.run s11 r13;generalize hX7:upd (upd X6 19 (.bool (decide (ea<0)))) 15 (.bool false)=X7 at r12 r13 s11 s12;have f76:X7 6=dp d E.n:=by rw[<-hX7];exact f66
 have f73:X7 3=.int .i64 i:=by rw[<-hX7];exact f63
 have f79:X7 9=.int .u64 ea:=by rw[<-hX7];exact f69
 have e14:stepG Qg true (lg (qF E 7 0 X7) E.cs) w4=.go (lg (qF E 7 1 (upd X7 18 (.pointer (some ⟨d,i,none⟩)))) E.cs) w4 #[]:=by
  have hp:=LY (.int .i64 E.first) (.int .i64 E.n) E.x2 X7 E.cs;rw[f76,f73]at hp
  have:=aE.value (Hr (.int .i64 E.first) (.int .i64 E.n) E.x2 X7 E.cs) (rs:=[]) (ds:=[]) (v:=.pointer (some ⟨d,i,none⟩)) (by rw[hp];exact Al Qg (.inl rfl) hi) (w:=w4) (w':=w4) (es:=#[]) ⟨rfl,rfl⟩;rw[this,dB];show GStep.go (dX _ ((qF E 7 0 X7).finish _)) w4 #[]=_;rw[Mr];rfl
 have s13:=Safe.next s12 (A.gq rfl) w4.tape e14;have r14:cG Qg Goal (qF E 7 0 X7) E.cs w4 (qF E 7 1 (upd X7 18 (.pointer (some ⟨d,i,none⟩)))) E.cs w4:=.step w4.tape _ (A.gq rfl) e14 (.refl _ _ _);obtain⟨C,hC,hCs,hCk⟩:=H.blk;have hdl:d<w.heap.size:=(Array.getElem?_eq_some_iff.1 hC).1;have hC4:w4.heap[d]?=some (.cells C 55):=by rw[o4 d (by omega),o3 d (by omega),o2 d (by omega),o1 d hdl];exact hC
 have hcell:w4.cell? ⟨d,i,none⟩=C[i]? :=by simp[World.cell?,hC4]
 have hfz:w4.frozen? ⟨d,i,none⟩=false:=by simp[World.frozen?,hC4]
 have e15:stepG Qg true (lg (qF E 7 1 (upd X7 18 (.pointer (some ⟨d,i,none⟩)))) E.cs) w4=.go (lg (qF E 7 2 (upd X7 18 (.pointer (some ⟨d,i,none⟩)))) E.cs) (w4.setCell ⟨d,i,none⟩ (.int .u64 ea)) (seen Qg fQ #[⟨.cell ⟨d,i,none⟩,true,false⟩]):=by
  have:=aE.skip (JP (.int .i64 E.first) (.int .i64 E.n) E.x2 X7 E.cs (.pointer (some ⟨d,i,none⟩))) (Lg (.int .i64 E.first) (.int .i64 E.n) E.x2 X7 E.cs d i ea f79) (w:=w4) (w':=w4.setCell ⟨d,i,none⟩ (.int .u64 ea)) (es:=#[⟨.cell ⟨d,i,none⟩,true,false⟩])
   ⟨by simp,by simp,⟨C[i]'(by omega),by rw[hcell];simp⟩,hfz,rfl,rfl⟩
  rw[this];show GStep.go (dX _ ((qF E 7 1 (upd X7 18 (.pointer (some ⟨d,i,none⟩)))).finish _)) _ _=_;rw[Dr];rfl
 have s14:=Safe.next s13 (A.gq rfl) w4.tape e15;have r15:cG Qg Goal (qF E 7 1 (upd X7 18 (.pointer (some ⟨d,i,none⟩)))) E.cs w4 (qF E 7 2 (upd X7 18 (.pointer (some ⟨d,i,none⟩)))) E.cs (w4.setCell ⟨d,i,none⟩ (.int .u64 ea)):=.step w4.tape _ (A.gq rfl) e15 (.refl _ _ _);generalize hX8:upd X7 18 (.pointer (some ⟨d,i,none⟩))=X8 at r14 r15 s13 s14;have f83:X8 3=.int .i64 i:=by rw[<-hX8];exact f73
 have f86:X8 6=dp d E.n:=by rw[<-hX8];exact f76
 have u3:upd X8 3 (.int .i64 i)=X8:=by rw[<-f83];exact iJ X8 3
 generalize hw5:w4.setCell ⟨d,i,none⟩ (.int .u64 ea)=w5 at r15 s14;have r16:=A.cQ (Ds (.int .i64 E.first) (.int .i64 E.n) E.x2 i X8 E.cs) (Hf (.int .i64 E.first) (.int .i64 E.n) E.x2 i X8 E.cs) w5;rw[u3,show IntKind.i64.wrap ((i:Int)+1)=((i+1:Nat):Int) by rw[wrap_small (by omega) (by omega)];omega]at r16;have s15:=Safe.run s14 r16;have hsz5:w5.heap.size=w4.heap.size:=by rw[<-hw5];simp[World.setCell]
 have h5:∀r,r≠d->w5.heap[r]?=w4.heap[r]? :=λr hr=>by rw[<-hw5];simp[World.setCell,Array.getElem?_modify,QK hr]
 refine⟨ea,upd X8 19 (.int .i64 ((i+1:Nat):Int)),w5,r1.trans (r2.trans (r3.trans (r4.trans (r5.trans (r6.trans (r7.trans (r8.trans (r9.trans (r10.trans (r11.trans (r12.trans (r13.trans (r14.trans (r15.trans r16)))))))))))))),s15,f86,⟨by rw[hsz5];exact k4.1,λr hr=>?_⟩,H.new,⟨C.setIfInBounds i (.int .u64 ea),?_,by simp[hCs],λk hk=>?_⟩,λk hk=>?_⟩
 ·rw[h5 r (by have:=H.new;omega)];exact k4.2 r hr
 ·rw[<-hw5];simp[World.setCell,Array.getElem?_modify,hC4]
 ·rcases Nat.lt_succ_iff_lt_or_eq.1 hk with hlt|rfl
  ·rw[upd_ne _ _ (by omega),Array.getElem?_setIfInBounds_ne (by omega)];exact hCk k hlt
  ·rw[upd_same,Array.getElem?_setIfInBounds_self_of_lt (by omega)]
 ·rcases Nat.lt_succ_iff_lt_or_eq.1 hk with hlt|rfl
  ·rw[upd_ne _ _ (by omega)];exact H.kh k hlt
  ·rw[upd_same];exact⟨X3,w2,s5,f34,f37,k2⟩
end
end
section
open Go.Conc
open Go.ConcN (upd upd_same upd_ne)
section
variable {L:au}{T:aO}{Goal:Frame->List Frame->World->Prop}{E:Entry L}
theorem wF(A:dH L T Goal)(K:fK L E)(hn:E.n<=64):∀(m i:Nat) (a:Nat->Int) (xs:Nat->Value) (w:World),m+i=E.n->ny Goal E i a d xs w->
  ∃a' xs' w',cG Qg Goal (qF E 2 0 (upd xs 3 (.int .i64 i))) E.cs w (qF E 2 0 (upd xs' 3 (.int .i64 E.n))) E.cs w'/\ny Goal E E.n a' d xs' w'
 |0,i,a,xs,w,he,H=>by
  obtain rfl:i=E.n:=by omega
  exact⟨a,xs,w,.refl _ _ _,H⟩
 |m+1,i,a,xs,w,he,H=>by
  obtain⟨e,xs1,w1,r1,H1⟩:=Ik A K H (by omega) hn;obtain⟨a',xs',w',r2,H2⟩:=wF A K hn m (i+1) (upd a i e) xs1 w1 (by omega) H1;exact⟨a',xs',w',r1.trans r2,H2⟩
structure uq(Goal:Frame->List Frame->World->Prop)(E:Entry L)(a:Nat->Int)(d:Nat)(xs:Nat->Value)(w:World):Prop where
 row:xs 6=dp d E.n
 keeps:fI E w
 new:E.w0.heap.size<=d
 blk: ∃C:Array Value,w.heap[d]?=some (.cells C 55)/\C.size=E.n/\∀k,k<E.n->C[k]?=some (.int .u64 (a k))
 kh:∀k,k<E.n->pA Goal E k (a k)
theorem GQ(A:dH L T Goal){a:Nat->Int}{xs:Nat->Value}(H:ny Goal E E.n a d xs w):
  ∃xs',cG Qg Goal (qF E 2 0 (upd xs 3 (.int .i64 E.n))) E.cs w (iG (.int .i64 E.first) (.int .i64 E.n) E.x2 xs' E.cs) E.cs w/\uq Goal E a d xs' w:=by
 have hin:decide ((E.n:Int)<(E.n:Int))=false:=by simp
 have r1:=A.cQ (yg (.int .i64 E.first) E.x2 E.n E.n xs E.cs) (xO (.int .i64 E.first) E.x2 E.n E.n xs E.cs) w;rw[hin]at r1;have r2:=A.cQ (MQ (.int .i64 E.first) (.int .i64 E.n) E.x2 (upd xs 3 (.int .i64 E.n)) E.cs) (fr':=iG (.int .i64 E.first) (.int .i64 E.n) E.x2 (upd xs 3 (.int .i64 E.n)) E.cs) rfl w;exact⟨upd xs 3 (.int .i64 E.n),r1.trans r2,H.row,H.keeps,H.new,H.blk,H.kh⟩
theorem Gx(A:dH L T Goal)(K:fK L E){xs:Nat->Value}(hs:Safe Qg Goal (qF E 1 0 xs) E.cs E.w0)(hf:∀r,feed Qg (aQ (lg (qF E 1 0 xs) E.cs)) [.ref r]=some ([.nw (.cells (Array.replicate E.n (.int .u64 0)) 55)],.inl (.value (dp r E.n)))):
  ∃xs' w',cG Qg Goal (qF E 1 0 xs) E.cs E.w0 (qF E 2 0 (upd xs' 3 (.int .i64 ((0:Nat):Int)))) E.cs w'/\ny Goal E 0 (λ_=>0) E.w0.heap.size xs' w':=by
 have _:=K;have e1:stepG Qg true (lg (qF E 1 0 xs) E.cs) E.w0=.go (lg (qF E 1 1 (upd xs 6 (dp E.w0.heap.size E.n))) E.cs) {E.w0 with heap:=E.w0.heap.push (.cells (Array.replicate E.n (.int .u64 0)) 55)} #[]:=by
  have:=aE.value (NW (.int .i64 E.first) (.int .i64 E.n) E.x2 xs E.cs) (hf E.w0.heap.size) (w:=E.w0) (w':={E.w0 with heap:=E.w0.heap.push (.cells (Array.replicate E.n (.int .u64 0)) 55)}) (es:=#[]) ⟨rfl,rfl,rfl⟩;rw[this,dB];show GStep.go (dX _ ((qF E 1 0 xs).finish _)) _ #[]=_;rw[Gz];rfl
 have s1:=Safe.next hs (A.gq rfl) E.w0.tape e1;have r1:cG Qg Goal (qF E 1 0 xs) E.cs E.w0 _ E.cs _:=.step E.w0.tape _ (A.gq rfl) e1 (.refl _ _ _);have r2:=A.cQ (K8 (.int .i64 E.first) (.int .i64 E.n) E.x2 (upd xs 6 (dp E.w0.heap.size E.n)) E.cs) (Hz (.int .i64 E.first) (.int .i64 E.n) E.x2 (upd xs 6 (dp E.w0.heap.size E.n)) E.cs) {E.w0 with heap:=E.w0.heap.push (.cells (Array.replicate E.n (.int .u64 0)) 55)};refine⟨upd xs 6 (dp E.w0.heap.size E.n),_,r1.trans r2,Safe.run s1 r2,rfl,⟨by simp,λr hr=>?_⟩,AI _,⟨Array.replicate E.n (.int .u64 0),by simp,by simp,λk hk=>absurd hk (by omega)⟩,λk hk=>absurd hk (by omega)⟩;simp[Array.getElem?_push];omega
end
theorem I7{L:au}{T:aO}{Goal:Frame->List Frame->World->Prop}(A:dH L T Goal){x0 x1 x2 y2:Value}{ρ:Nat->Nat->Prop}{w0 v0:World}{cs:List Frame}(hs:Safe Qg Goal (Frame.enter Qg fQ #[x0,x1,x2] .normal) cs w0)(bi:jF ρ)(bC:∀r s,ρ r s->r<w0.heap.size/\s<v0.heap.size)(obj:∀r s,ρ r s->∃o q,w0.heap[r]?=some o/\v0.heap[s]?=some q/\OR L (dV ρ) o q)(fB:VR L ρ x2 y2)(uB:∀g,g<Tryz.prog.globals.size->ρ g g):
  ∃(first:Int) (n:Nat),x0=.int .i64 first/\x1=.int .i64 n/\(n=1\/n=4\/n=16\/n=64)/\
   ∃a d xs w,cG Qg Goal (Frame.enter Qg fQ #[x0,x1,x2] .normal) cs w0 (iG (.int .i64 first) (.int .i64 n) x2 xs cs) cs w/\fK L (⟨first,n,x2,y2,ρ,w0,v0,cs⟩:Entry L)/\uq Goal (⟨first,n,x2,y2,ρ,w0,v0,cs⟩:Entry L) a d xs w:=by
 have r0:=A.cQ (Fw x0 x1 x2 cs) (NG x0 x1 x2 cs) w0;have s0:=Safe.run hs r0;obtain⟨first,rfl⟩:=KP _ _ _ _ _ (A.cM s0 rfl);have r1:=A.cQ (Ee x1 x2 first un cs) (Kw x1 x2 first un cs) w0;have s1:=Safe.run s0 r1;obtain⟨n,rfl⟩:=Cm _ _ _ _ _ _ (A.cM s1 rfl);have r2:=A.cQ (Iz (.int .i64 first) x2 n (upd un 16 (.bool (decide (first<0)))) cs) (Jn (.int .i64 first) x2 n (upd un 16 (.bool (decide (first<0)))) cs) w0;have s2:=Safe.run s1 r2;generalize upd (upd un 16 (.bool (decide (first<0)))) 17 (.bool (decide (n<0)))=X at r2 s2;have fin:∀(k:Nat) (xs:Nat->Value),k<=64->n=k->cG Qg Goal (frQ 0 6 (qT (.int .i64 first) (.int .i64 n) x2 (fH (decide (n=1)) (decide (n=4)) (decide (n=16)) (decide (n=64)) X))) cs w0 (frQ 1 0 (qT (.int .i64 first) (.int .i64 n) x2 xs)) cs w0->
   (∀r,feed Qg (aQ (lg (frQ 1 0 (qT (.int .i64 first) (.int .i64 n) x2 xs)) cs)) [.ref r]=some ([.nw (.cells (Array.replicate k (.int .u64 0)) 55)],.inl (.value (dp r k))))->
   ∃a d xs w,cG Qg Goal (Frame.enter Qg fQ #[.int .i64 first,.int .i64 n,x2] .normal) cs w0 (iG (.int .i64 first) (.int .i64 k) x2 xs cs) cs w/\fK L (⟨first,k,x2,y2,ρ,w0,v0,cs⟩:Entry L)/\uq Goal (⟨first,k,x2,y2,ρ,w0,v0,cs⟩:Entry L) a d xs w:=by
  intro k xs hk hnk r3 hf;subst hnk;have K:fK L (⟨first,k,x2,y2,ρ,w0,v0,cs⟩:Entry L):=⟨bi,bC,obj,fB,uB⟩
  obtain⟨xs1,w1,r4,H⟩:=Gx A K (Safe.run s2 r3) hf;obtain⟨a,xs2,w2,r5,H2⟩:=wF A K hk k 0 _ xs1 w1 rfl H;obtain⟨xs3,r6,D⟩:=GQ A H2;exact⟨a,_,xs3,w2,r0.trans (r1.trans (r2.trans (r3.trans (r4.trans (r5.trans r6))))),K,D⟩
 by_cases h1:n=1
 ·subst h1;exact⟨first,1,rfl,rfl,.inl rfl,fin 1 _ (by omega) rfl (A.cQ (Mq (.int .i64 first) (.int .i64 1) x2 X cs _ _ _) (O0 (.int .i64 first) (.int .i64 1) x2 X cs _ _ _) w0) (λr=>LN ..)⟩
 by_cases h4:n=4
 ·subst h4;exact⟨first,4,rfl,rfl,.inr (.inl rfl),fin 4 _ (by omega) rfl (A.cQ (JN (.int .i64 first) (.int .i64 4) x2 X cs _ _) (LV (.int .i64 first) (.int .i64 4) x2 X cs _ _) w0) (λr=>D2 ..)⟩
 by_cases h16:n=16
 ·subst h16;exact⟨first,16,rfl,rfl,.inr (.inr (.inl rfl)),fin 16 _ (by omega) rfl (A.cQ (N5 (.int .i64 first) (.int .i64 16) x2 X cs _) (ME (.int .i64 first) (.int .i64 16) x2 X cs _) w0) (λr=>D1 ..)⟩
 by_cases h64:n=64
 ·subst h64;exact⟨first,64,rfl,rfl,.inr (.inr (.inr rfl)),fin 64 _ (by omega) rfl (A.cQ (Jo (.int .i64 first) (.int .i64 64) x2 X cs) (NY (.int .i64 first) (.int .i64 64) x2 X cs) w0) (λr=>I3 ..)⟩
 ·exfalso;rw[Rs h1,Rs h4,Rs h16,Rs h64]at s2;have rb:=A.cQ (MN (.int .i64 first) (.int .i64 n) x2 X cs) (fr':=rE (.int .i64 first) (.int .i64 n) x2 X cs) rfl w0
  have:=A.cM (Safe.run s2 rb) (Oq ..);rw[DT]at this;cases this
end
section
open Go.Conc
open Go.ConcN (upd upd_same upd_ne)
structure gw where
 fr:Frame
 cs:List Frame
 w:World
def ky(Q:Program)(Goal:Frame->List Frame->World->Prop)(s1 s:gw):Prop:=∃t es,¬Goal s.fr s.cs s.w/\stepG Q true (lg s.fr s.cs) {s.w with tape:=t}=.go (lg s1.fr s1.cs) s1.w es
theorem OD{Q:Program}{Goal:Frame->List Frame->World->Prop}{fr:Frame}{cs:List Frame}(h:Safe Q Goal fr cs w):Acc (ky Q Goal) ⟨fr,cs,w⟩:=by
 refine Safe.Aw (X:=λfr cs w=>Acc (ky Q Goal) ⟨fr,cs,w⟩) ?_ h;intro fr cs w _ ih;refine Acc.intro _ λs1 h1=>?_;obtain⟨t,es,hn,e⟩:=h1;exact ih t s1.fr s1.cs s1.w es hn e
theorem GO{L:au}{c:bh}{s:ByteArray}(h:CR L τ c (.string s) y):y=.string s:=by
 cases c with
 |any=>cases h;rfl
 |own=>cases h;rfl
 |box=>cases h;rfl
 |gL=>rcases h with⟨h,_⟩|⟨_,_,h,_⟩<;>cases h
 |cO=>rcases h with⟨h,_⟩|⟨h,_⟩|⟨_,_,_,h,_⟩<;>cases h
 |loc=>rcases h with⟨h,_⟩|⟨h,_⟩|⟨_,_,_,h,_⟩<;>cases h
theorem Lz{L:au}{c:bh}{k:IntKind}{n:Int}(h:CR L τ c (.int k n) y):y=.int k n:=by
 cases c with
 |any=>cases h;rfl
 |own=>cases h;rfl
 |box=>cases h;rfl
 |gL=>rcases h with⟨h,_⟩|⟨_,_,h,_⟩<;>cases h
 |cO=>rcases h with⟨h,_⟩|⟨h,_⟩|⟨_,_,_,h,_⟩<;>cases h
 |loc=>rcases h with⟨h,_⟩|⟨h,_⟩|⟨_,_,_,h,_⟩<;>cases h
section
variable {L:au}{T:aO}{Goal:Frame->List Frame->World->Prop}
structure fg(L:au)(T:aO)(Goal:Frame->List Frame->World->Prop)(E:Entry L)(frQ:Frame)(D:List Frame)(ow:Nat->Prop)(s:gw)(g:Goroutine)(v:World):Prop where
 safe:Safe Qg Goal s.fr s.cs s.w
 sub: ∃sub,s.cs=sub++frQ::E.cs
 gV: ∃τ,fT Tryz.prog Gg L T τ (frQ::E.cs++ [wall]) D (lg s.fr s.cs) s.w g v/\(∀r t,τ.un r t->E.ρ r t\/ow t)/\∀r t,τ.mine r t->ow t/\E.w0.heap.size<=r
 keeps:fI E s.w
theorem fg.running{E:Entry L}{frQ:Frame}{s:gw}(h:fg L T Goal E frQ D ow s g v):g.status=.running:=by
 obtain⟨τ,hS,_⟩:=h.gV;exact hS.g.status.2
theorem fg.acc{E:Entry L}{frQ:Frame}{s:gw}(h:fg L T Goal E frQ D ow s g v):Acc (ky Qg Goal) s:=OD h.safe
theorem fg.low{E:Entry L}{frQ:Frame}{s:gw}(h:fg L T Goal E frQ D ow s g v)(ow':Nat->Prop)(ho:∀t,ow t->ow' t):fg L T Goal E frQ D ow' s g v:=by
 obtain⟨τ,hS,h1,h2⟩:=h.gV;exact⟨h.safe,h.sub,⟨τ,hS,λr t hx=>(h1 r t hx).imp id (ho t),λr t hx=>⟨ho t (h2 r t hx).1,(h2 r t hx).2⟩⟩,h.keeps⟩
theorem fg.js{E:Entry L}{frQ:Frame}{s:gw}{v2:World}(h:fg L T Goal E frQ D ow s g v)(hs:v.heap.size<=v2.heap.size)(ho:∀t,(∃r,E.ρ r t)\/ow t->v2.heap[t]?=v.heap[t]?):fg L T Goal E frQ D ow s g v2:=by
 obtain⟨τ,hS,h1,h2⟩:=h.gV;refine⟨h.safe,h.sub,⟨τ,⟨hS.g,hS.bi,hS.flat,λr t hx=>⟨(hS.bC r t hx).1,QL (hS.bC r t hx).2 hs⟩,λr t hx=>?_⟩,h1,h2⟩,h.keeps⟩;obtain⟨o,q,e1,e2,e3⟩:=hS.obj r t hx;refine⟨o,q,e1,?_,e3⟩;rw[ho t ((h1 r t hx).imp (λx=>⟨r,x⟩) id)];exact e2
structure IB(E:Entry L)(ow ow':Nat->Prop)(v v1:World)(fs:Array Event):Prop where
 grow:v.heap.size<=v1.heap.size
 tape:v1.tape=v.tape
 os:v1.os=v.os
 output:v1.output=v.output
 eX:∀t,t<v.heap.size->¬ow t->v1.heap[t]?=v.heap[t]?
 own:∀t,ow' t↔ow t\/(v.heap.size<=t/\t<v1.heap.size)
 lu:∀e∈fs,iy (λt=>(∃r,E.ρ r t)\/ow' t) ow' e
theorem fg.step(A:dH L T Goal){E:Entry L}{frQ:Frame}{c0:Frame}{D:List Frame}{ow:Nat->Prop}{s:gw}{g:Goroutine}{v:World}(h:fg L T Goal E frQ (c0::D) ow s g v):
  (∃g1 v1 fs s1,stepG Tryz.prog false g v=.go g1 v1 fs/\fg L T Goal E frQ (c0::D) (λt=>ow t\/(v.heap.size<=t/\t<v1.heap.size)) s1 g1 v1/\ky Qg Goal s1 s/\IB E ow (λt=>ow t\/(v.heap.size<=t/\t<v1.heap.size)) v v1 fs)
  \/∃x y fs w1,stepG Tryz.prog false g v=.go {frame:=c0.finish y,callers:=D,status:=.running,dying:=none} v fs/\Safe Qg Goal (frQ.finish x) E.cs w1/\fI E w1/\(∀t,x=.string t->y=.string t)/\(∀e,x=.int .u64 e->y=.int .u64 e)/\∀e∈fs,iy (λt=>(∃r,E.ρ r t)\/ow t) ow e:=by
 obtain⟨sub,hsub⟩:=h.sub;obtain⟨τ,hS,hun,hmi⟩:=h.gV;obtain⟨fr,cs,w⟩:=s;have hsafe:Safe Qg Goal fr cs w:=h.safe;simp only at hsub hS;have hng: ¬Goal fr cs w:=λhg=>by have:=(A.goal _ _ _ hg).1;rw[hsub]at this;simp at this
 have hn:fr.fn≠T.bj:=λe=>by
  have key:∀a b,fM Tryz.prog Gg L T τ a b->a.fn=T.bj->False:=by
   intro a b hx e;cases hx with
   |run hx=>exact hx.np e
   |bj hp _ _=>exact A.nC hp
  exact key _ _ hS.g.frame e
 obtain⟨fr1,cs1,w1,es,e,hfi,hsafe1⟩:=Safe.goes hsafe hng (kv w v);by_cases hl:fr.mode=.returning/\fr.defers= []/\cs=frQ::E.cs
 ·obtain⟨hm,hd,rfl⟩:=hl;obtain⟨x,fn,hfn,hr,rfl,rfl,rfl⟩:=AP A.stat hS hn hm hd _ e;obtain⟨y,fs,hxy,hev,hcall,hkind,_,hst⟩:=hS.last A.stat false hn ⟨hm,hd,rfl⟩ hfn hr;refine .inr ⟨x,y,fs,_,?_,hsafe1,h.keeps,λt ht=>GO (ht▸hxy),λe he=>Lz (he▸hxy),λe he=>(hev e he).mono (λt ⟨r,hx⟩=>(hun r t hx).imp (λx=>⟨r,x⟩) id) (λt ⟨r,hx⟩=>(hmi r t hx).1)⟩;rw[hst];simp only[doReturn,hkind,GStep.after,QV]
 ·obtain⟨h1,v1,fs,τ1,e1,hS1,hD,hgr⟩:=hS.step A.stat false hn (λx=>hl ⟨x.1,x.2.1,Rx ((show cs++ [wall]=frQ::E.cs++ [wall] from x.2.2).trans (by simp))⟩) e hfi;obtain⟨cs2,ds2,hg2,_,_,_⟩:=hS1.g.parts;have hcs1:cs1=cs2++frQ::E.cs:=by
   have:=congrArg Goroutine.callers hg2;have e2:cs1++ [wall]=(cs2++frQ::E.cs)++ [wall]:=(show cs1++ [wall]=cs2++(frQ::E.cs++ [wall]) from this).trans (by simp);exact Rx e2
  have hke:fI E w:=h.keeps;have hk1:fI E w1:=⟨IT hke.1 hgr.grow,λr hr=>by rw[hgr.kL r (QL hr hke.1) (λt hx=>by have:=(hmi r t hx).2;omega),hke.2 r hr]⟩
  refine .inl ⟨h1,v1,fs,⟨fr1,cs1,w1⟩,e1,⟨hsafe1,⟨cs2,hcs1⟩,⟨τ1,hS1,λr t hx=>?_,λr t hx=>?_⟩,hk1⟩,⟨_,_,hng,e⟩,hD.grow,hD.tape,hD.os,hD.output,λt ht hno=>hD.eX t ht λr hx=>hno (hmi r t hx).1,λt=>Iff.rfl,λev hev=>(hD.lu ev hev).mono ?_ ?_⟩
  ·rcases hgr.un r t hx with hx|hx
   ·exact (hun r t hx).imp id .inl
   ·exact .inr (.inr ⟨hx.2.2.1,hx.2.2.2⟩)
  ·rcases hgr.mine r t hx with hx|hx
   ·exact⟨.inl (hmi r t hx).1,(hmi r t hx).2⟩
   ·exact⟨.inr ⟨hx.2.2.1,hx.2.2.2⟩,IT hke.1 hx.1⟩
  ·rintro t (⟨r,hx⟩|hx)
   ·exact (hun r t hx).imp (λx=>⟨r,x⟩) .inl
   ·exact .inr (.inr hx)
  ·rintro t (⟨r,hx⟩|hx)
   ·exact .inl (hmi r t hx).1
   ·exact .inr hx
end
end
section
open Go.Conc
set_option maxRecDepth 100000
noncomputable abbrev Pg:Program:=Tryz.prog
def ptr(b:Nat):Value:=.pointer (some ⟨b,0,none⟩)
def aL(m:Mark):Event:=⟨.mark m,false,true⟩
noncomputable def ou(f:FuncId)(args:Array Value)(cs:List Frame):Goroutine:={frame:=Frame.enter Pg f args .normal,callers:=cs,status:=.running,dying:=none}
def ic:iM:=.shp (some (206,2))
def unit:Value:=.tuple #[]
def fin(g:Goroutine)(v:Value):Goroutine:=dX g (g.frame.finish v)
section
variable (cs:List Frame) (wg:Nat)
noncomputable def rZ:Goroutine:=ou 127 #[ptr wg,.int .i64 (-1)] cs
theorem KN:aT Pg false 11 (rZ cs wg):=λw=>by kernel_rfl
noncomputable def po:Goroutine:=az Pg false 11 (rZ cs wg)
theorem tz:aE Pg false (po cs wg):=⟨λw=>by kernel_rfl,by kernel_rfl,by kernel_rfl⟩
theorem NZ:feed Pg (aQ (po cs wg)) [ic,ic]=some ([.shp wg,.shp wg],.inl (.value (ptr wg))):=by kernel_rfl
noncomputable def mY:Goroutine:=fin (po cs wg) (ptr wg)
theorem OU(w:World):stepG Pg false (mY cs wg) w=.go (fin (mY cs wg) unit) w #[aL (.releaseMerge ⟨wg,0,none⟩)]:=by kernel_rfl
theorem vd:(mY cs wg).status=.running:=by kernel_rfl
theorem Cw:aT Pg false 3 (fin (mY cs wg) unit):=λw=>by kernel_rfl
noncomputable def lG:Goroutine:=az Pg false 3 (fin (mY cs wg) unit)
theorem Eu(w:World):stepG Pg false (lG cs wg) w=.go (fin (lG cs wg) unit) w #[aL .disable]:=by kernel_rfl
theorem Bs:(lG cs wg).status=.running:=by kernel_rfl
theorem Mj:aT Pg false 11 (fin (lG cs wg) unit):=λw=>by kernel_rfl
noncomputable def oR:Goroutine:=az Pg false 11 (fin (lG cs wg) unit)
theorem N7(w:World):stepG Pg false (oR cs wg) w=.go (fin (oR cs wg) (.bool false)) w #[]:=by kernel_rfl
theorem Fa:(oR cs wg).status=.running:=by kernel_rfl
theorem IW:aT Pg false 22 (fin (oR cs wg) (.bool false)):=λw=>by kernel_rfl
noncomputable def mf:Goroutine:=az Pg false 22 (fin (oR cs wg) (.bool false))
theorem OQ:aA Pg false (11+(1+22)) (fin (lG cs wg) unit) (mf cs wg):=(Mj cs wg).aN.trans ((aA.one (Fa cs wg) (N7 cs wg)).trans (IW cs wg).aN)
theorem tX:aE Pg false (mf cs wg):=⟨λw=>by kernel_rfl,by kernel_rfl,by kernel_rfl⟩
def less(st:Int):Int:=IntKind.u64.wrap (st+18446744069414584320)
theorem Nq(st:Int):feed Pg (aQ (mf cs wg)) [.val (.int .u64 st)]=some ([.mk (.extern 189),.ld .atomic ⟨wg,0,none⟩,.st .atomic ⟨wg,0,none⟩ (.int .u64 (less st))],.inl (.value (.int .u64 (less st)))):=by kernel_rfl
theorem Hq(a:Addr):seen Pg (mf cs wg).frame.fn #[aL (.extern 189),⟨.cell a,false,true⟩,⟨.cell a,true,true⟩]=#[⟨.cell a,false,true⟩,⟨.cell a,true,true⟩]:=by kernel_rfl
noncomputable def j1(st:Int):Goroutine:=fin (mf cs wg) (.int .u64 st)
end
end
end Go.Proofs.YtldmcdeibiclkaaGreat.U
