/-
  Toward all_holds
-/
import Derived.Test.YtldmcdeibiclkaaGreatC06
import Derived.Test.YtldmcdeibiclkaaGreatC01
import Derived.Test.YtldmcdeibiclkaaGreatRows
set_option linter.all false
noncomputable section
set_option maxRecDepth 100000
set_option maxHeartbeats 20000000
namespace Go.Proofs.YtldmcdeibiclkaaGreat.U
variable {w v:af}{d:Nat}{D:List al}{ow:Nat->Prop}{g:ai}{τ:aJ}{y:ag}{f:au}{ys:aa}{m:Int}
section
open Go.Conc
open Go.ConcN (upd)
def fP(d n:Nat):Value:=.slice (some ⟨d,0,none⟩) n n
section
variable (x0 x1 x2:ag) (a n i:Int) (xs:Nat->ag) (cs:List al) (b1 b2 b3 b4:Bool)
theorem Yn:fN Qg fQ 6 (frQ 0 6 (qT x0 x1 x2 (jc true b2 b3 b4 xs))) cs:=⟨λw=>by kernel_rfl,by kernel_rfl,by kernel_rfl⟩
theorem RH:(aW Qg true 6 (lg (frQ 0 6 (qT x0 x1 x2 (jc true b2 b3 b4 xs))) cs)).frame=frQ 1 0 (qT x0 x1 x2 (jc true b2 b3 b4 xs)):=by kernel_rfl
theorem Sp:fN Qg fQ 7 (frQ 0 6 (qT x0 x1 x2 (jc false true b3 b4 xs))) cs:=⟨λw=>by kernel_rfl,by kernel_rfl,by kernel_rfl⟩
theorem Q0:(aW Qg true 7 (lg (frQ 0 6 (qT x0 x1 x2 (jc false true b3 b4 xs))) cs)).frame=frQ 1 0 (qT x0 x1 x2 (jc false true b3 b4 xs)):=by kernel_rfl
theorem TO:fN Qg fQ 8 (frQ 0 6 (qT x0 x1 x2 (jc false false true b4 xs))) cs:=⟨λw=>by kernel_rfl,by kernel_rfl,by kernel_rfl⟩
theorem Vk:(aW Qg true 8 (lg (frQ 0 6 (qT x0 x1 x2 (jc false false true b4 xs))) cs)).frame=frQ 1 0 (qT x0 x1 x2 (jc false false true b4 xs)):=by kernel_rfl
theorem La:fN Qg fQ 9 (frQ 0 6 (qT x0 x1 x2 (jc false false false true xs))) cs:=⟨λw=>by kernel_rfl,by kernel_rfl,by kernel_rfl⟩
theorem Zi:(aW Qg true 9 (lg (frQ 0 6 (qT x0 x1 x2 (jc false false false true xs))) cs)).frame=frQ 1 0 (qT x0 x1 x2 (jc false false false true xs)):=by kernel_rfl
theorem LH:fN Qg fQ 6 (frQ 0 6 (qT x0 x1 x2 (jc false false false false xs))) cs:=⟨λw=>by kernel_rfl,by kernel_rfl,by kernel_rfl⟩
def zV:Frame:=(aW Qg true 6 (lg (frQ 0 6 (qT x0 x1 x2 (jc false false false false xs))) cs)).frame
theorem N0(w:af):eO (stepG Qg true (lg (zV x0 x1 x2 xs cs) cs) w)=false:=by kernel_rfl
theorem R6:(zV x0 x1 x2 xs cs).fn=fQ:=by kernel_rfl
theorem UL:bg Qg true (lg (frQ 1 0 (qT x0 x1 x2 xs)) cs):=⟨λw=>by kernel_rfl,by kernel_rfl,by kernel_rfl⟩
theorem MY(r:Nat):feed Qg (bG (lg (frQ 1 0 (qT x0 (.int .i64 1) x2 xs)) cs)) [.ref r]=some ([.nw (.cells (Array.replicate 1 (.int .u64 0)) 55)],.inl (.value (fP r 1))):=by kernel_rfl
theorem Up(r:Nat):feed Qg (bG (lg (frQ 1 0 (qT x0 (.int .i64 4) x2 xs)) cs)) [.ref r]=some ([.nw (.cells (Array.replicate 4 (.int .u64 0)) 55)],.inl (.value (fP r 4))):=by kernel_rfl
theorem K9(r:Nat):feed Qg (bG (lg (frQ 1 0 (qT x0 (.int .i64 16) x2 xs)) cs)) [.ref r]=some ([.nw (.cells (Array.replicate 16 (.int .u64 0)) 55)],.inl (.value (fP r 16))):=by kernel_rfl
theorem O6(r:Nat):feed Qg (bG (lg (frQ 1 0 (qT x0 (.int .i64 64) x2 xs)) cs)) [.ref r]=some ([.nw (.cells (Array.replicate 64 (.int .u64 0)) 55)],.inl (.value (fP r 64))):=by kernel_rfl
theorem Wz(v:ag):(frQ 1 0 (qT x0 x1 x2 xs)).finish v=frQ 1 1 (qT x0 x1 x2 (upd xs 6 v)):=by kernel_rfl
theorem Uc:fN Qg fQ 7 (frQ 1 1 (qT x0 x1 x2 xs)) cs:=⟨λw=>by kernel_rfl,by kernel_rfl,by kernel_rfl⟩
theorem WZ:(aW Qg true 7 (lg (frQ 1 1 (qT x0 x1 x2 xs)) cs)).frame=frQ 2 0 (qT x0 x1 x2 (upd xs 3 (.int .i64 0))):=by kernel_rfl
theorem Jf:fN Qg fQ 1 (frQ 2 0 (qT x0 (.int .i64 n) x2 (upd xs 3 (.int .i64 i)))) cs:=⟨λw=>by kernel_rfl,by kernel_rfl,by kernel_rfl⟩
theorem Kr:(aW Qg true 1 (lg (frQ 2 0 (qT x0 (.int .i64 n) x2 (upd xs 3 (.int .i64 i)))) cs)).frame=frQ 2 1 (qT x0 (.int .i64 n) x2 (upd (upd xs 3 (.int .i64 i)) 14 (.bool (decide (i<n))))):=by kernel_rfl
theorem Lh:fN Qg fQ 10 (frQ 2 1 (qT (.int .i64 a) x1 x2 (upd (upd xs 3 (.int .i64 i)) 14 (.bool true)))) cs:=⟨λw=>by kernel_rfl,by kernel_rfl,by kernel_rfl⟩
theorem XI:(aW Qg true 10 (lg (frQ 2 1 (qT (.int .i64 a) x1 x2 (upd (upd xs 3 (.int .i64 i)) 14 (.bool true)))) cs)).frame=frQ 4 0 (qT (.int .i64 a) x1 x2 (upd (upd (upd xs 3 (.int .i64 i)) 14 (.bool true)) 4 (.int .i64 (IntKind.i64.wrap (a+i))))):=by kernel_rfl
theorem Wh:fN Qg fQ 5 (frQ 2 1 (qT x0 x1 x2 (upd xs 14 (.bool false)))) cs:=⟨λw=>by kernel_rfl,by kernel_rfl,by kernel_rfl⟩
def mR:Frame:=(aW Qg true 5 (lg (frQ 2 1 (qT x0 x1 x2 (upd xs 14 (.bool false)))) cs)).frame
theorem RI:(mR x0 x1 x2 xs cs).mode=.returning/\(mR x0 x1 x2 xs cs).defers= []/\(mR x0 x1 x2 xs cs).fn=fQ/\(mR x0 x1 x2 xs cs).kind=.normal:=⟨by kernel_rfl,by kernel_rfl,by kernel_rfl,by kernel_rfl⟩
theorem S9(c:al)(w:af):stepG Qg true (lg (mR x0 x1 x2 xs (c::cs)) (c::cs)) w=.go (lg (c.finish (xs 6)) cs) w #[]:=by kernel_rfl
theorem YL(id:Nat)(h:id=4\/id=5):bg Qg true (lg (frQ id 0 (qT x0 x1 x2 xs)) cs):=by
 rcases h with rfl|rfl
 .exact⟨λw=>by kernel_rfl,by kernel_rfl,by kernel_rfl⟩
 .exact⟨λw=>by kernel_rfl,by kernel_rfl,by kernel_rfl⟩
theorem Rv(id:Nat)(h:id=4\/id=5):bG (lg (frQ id 0 (qT x0 x1 x2 xs)) cs)=(do let d ←Deferred.ofValue x2 #[xs 4];invoke d.target d.args):=by
 rcases h with rfl|rfl<;>kernel_rfl
theorem Qy(v:ag):(frQ 4 0 (qT x0 x1 x2 xs)).finish v=frQ 4 1 (qT x0 x1 x2 (upd xs 5 v)):=by kernel_rfl
theorem EZ(v:ag):(frQ 5 0 (qT x0 x1 x2 xs)).finish v=frQ 5 1 (qT x0 x1 x2 (upd xs 8 v)):=by kernel_rfl
theorem aaF(x:ag)(w:af)(h:eO (stepG Qg true (lg (frQ 4 1 (qT x0 x1 x2 (upd xs 5 x))) cs) w)=true): ∃s,x=.string s:=by
 have b:∀y,eO (stepG Qg true (lg (frQ 4 1 (qT x0 x1 x2 (upd xs 5 y))) cs) w)=false->x=y->False:=λy j e=>by rw[e,j]at h;cases h
 cases x with
 |string s=>exact⟨s,rfl⟩
 |pointer p=>cases p<;>exact(b _ (by kernel_rfl) rfl).elim
 |_=>exact(b _ (by kernel_rfl) rfl).elim
theorem F1(x:ag)(w:af)(h:eO (stepG Qg true (lg (frQ 5 1 (qT x0 x1 x2 (upd xs 8 x))) cs) w)=true): ∃s,x=.string s:=by
 have b:∀y,eO (stepG Qg true (lg (frQ 5 1 (qT x0 x1 x2 (upd xs 8 y))) cs) w)=false->x=y->False:=λy j e=>by rw[e,j]at h;cases h
 cases x with
 |string s=>exact⟨s,rfl⟩
 |pointer p=>cases p<;>exact(b _ (by kernel_rfl) rfl).elim
 |_=>exact(b _ (by kernel_rfl) rfl).elim
def strLt(s:ah):Value:=(feed Qg (Go.binOp .lss 9 (.string s) (.string ByteArray.empty)) []).elim undef λx=>x.2.elim id λ_=>undef
theorem LC(s:ah):fN Qg fQ 1 (frQ 4 1 (qT x0 x1 x2 (upd xs 5 (.string s)))) cs:=⟨λw=>by kernel_rfl,by kernel_rfl,by kernel_rfl⟩
theorem XK(s:ah):(aW Qg true 1 (lg (frQ 4 1 (qT x0 x1 x2 (upd xs 5 (.string s)))) cs)).frame=frQ 4 2 (qT x0 x1 x2 (upd (upd xs 5 (.string s)) 18 (strLt s))):=by kernel_rfl
theorem H6(s:ah):fN Qg fQ 1 (frQ 5 1 (qT x0 x1 x2 (upd xs 8 (.string s)))) cs:=⟨λw=>by kernel_rfl,by kernel_rfl,by kernel_rfl⟩
theorem EM(s:ah):(aW Qg true 1 (lg (frQ 5 1 (qT x0 x1 x2 (upd xs 8 (.string s)))) cs)).frame=frQ 5 2 (qT x0 x1 x2 (upd (upd xs 8 (.string s)) 18 (strLt s))):=by kernel_rfl
theorem VH(w:af):stepG Qg true (lg (frQ 4 2 (qT x0 x1 x2 xs)) cs) w=.go (lg (Frame.enter Qg 84 #[xs 5] .normal) (frQ 4 2 (qT x0 x1 x2 xs)::cs)) w #[]:=by kernel_rfl
theorem Ir(w:af):stepG Qg true (lg (frQ 5 2 (qT x0 x1 x2 xs)) cs) w=.go (lg (Frame.enter Qg 84 #[xs 8] .normal) (frQ 5 2 (qT x0 x1 x2 xs)::cs)) w #[]:=by kernel_rfl
theorem Zd(v:ag):(frQ 4 2 (qT x0 x1 x2 xs)).finish v=frQ 4 3 (qT x0 x1 x2 (upd xs 7 v)):=by kernel_rfl
theorem Eu(v:ag):(frQ 5 2 (qT x0 x1 x2 xs)).finish v=frQ 5 3 (qT x0 x1 x2 (upd xs 9 v)):=by kernel_rfl
theorem P8:fN Qg fQ 3 (frQ 4 3 (qT x0 x1 x2 xs)) cs:=⟨λw=>by kernel_rfl,by kernel_rfl,by kernel_rfl⟩
theorem YC:(aW Qg true 3 (lg (frQ 4 3 (qT x0 x1 x2 xs)) cs)).frame=frQ 5 0 (qT x0 x1 x2 xs):=by kernel_rfl
theorem Fy:fN Qg fQ 3 (frQ 5 3 (qT x0 x1 x2 xs)) cs:=⟨λw=>by kernel_rfl,by kernel_rfl,by kernel_rfl⟩
theorem JM:(aW Qg true 3 (lg (frQ 5 3 (qT x0 x1 x2 xs)) cs)).frame=frQ 6 0 (qT x0 x1 x2 xs):=by kernel_rfl
theorem MF(x:ag)(w:af)(h:eO (stepG Qg true (lg (frQ 6 0 (qT x0 x1 x2 (upd xs 7 x))) cs) w)=true): ∃a,x=.int .u64 a:=by
 have b:∀y,eO (stepG Qg true (lg (frQ 6 0 (qT x0 x1 x2 (upd xs 7 y))) cs) w)=false->x=y->False:=λy j e=>by rw[e,j]at h;cases h
 cases x with
 |int k a=>cases k<;>first|exact⟨a,rfl⟩|exact(b _ (by kernel_rfl) rfl).elim
 |pointer p=>cases p<;>exact(b _ (by kernel_rfl) rfl).elim
 |_=>exact(b _ (by kernel_rfl) rfl).elim
theorem Em(e:Int):fN Qg fQ 1 (frQ 6 0 (qT x0 x1 x2 (upd xs 7 (.int .u64 e)))) cs:=⟨λw=>by kernel_rfl,by kernel_rfl,by kernel_rfl⟩
theorem Dy(e:Int):(aW Qg true 1 (lg (frQ 6 0 (qT x0 x1 x2 (upd xs 7 (.int .u64 e)))) cs)).frame=frQ 6 1 (qT x0 x1 x2 (upd (upd xs 7 (.int .u64 e)) 18 (.bool (decide (e<0))))):=by kernel_rfl
theorem CL(x:ag)(w:af)(h:eO (stepG Qg true (lg (frQ 6 1 (qT x0 x1 x2 (upd xs 9 x))) cs) w)=true): ∃a,x=.int .u64 a:=by
 have b:∀y,eO (stepG Qg true (lg (frQ 6 1 (qT x0 x1 x2 (upd xs 9 y))) cs) w)=false->x=y->False:=λy j e=>by rw[e,j]at h;cases h
 cases x with
 |int k a=>cases k<;>first|exact⟨a,rfl⟩|exact(b _ (by kernel_rfl) rfl).elim
 |pointer p=>cases p<;>exact(b _ (by kernel_rfl) rfl).elim
 |_=>exact(b _ (by kernel_rfl) rfl).elim
def qE(e f:Int)(xs:Nat->ag):Nat->Value:=upd (upd xs 7 (.int .u64 e)) 9 (.int .u64 f)
theorem Iy(e f:Int):fN Qg fQ 2 (frQ 6 1 (qT x0 x1 x2 (qE e f xs))) cs:=⟨λw=>by kernel_rfl,by kernel_rfl,by kernel_rfl⟩
theorem Fc(e f:Int):(aW Qg true 2 (lg (frQ 6 1 (qT x0 x1 x2 (qE e f xs))) cs)).frame=frQ 6 3 (qT x0 x1 x2 (upd (upd (qE e f xs) 19 (.bool (decide (f<0)))) 15 (.bool (!(decide (e=f)))))):=by kernel_rfl
theorem Ge:fN Qg fQ 3 (frQ 6 3 (qT x0 x1 x2 (upd xs 15 (.bool true)))) cs:=⟨λw=>by kernel_rfl,by kernel_rfl,by kernel_rfl⟩
def vF:Frame:=(aW Qg true 3 (lg (frQ 6 3 (qT x0 x1 x2 (upd xs 15 (.bool true)))) cs)).frame
theorem Eb(w:af):eO (stepG Qg true (lg (vF x0 x1 x2 xs cs) cs) w)=false:=by kernel_rfl
theorem Jv:(vF x0 x1 x2 xs cs).fn=fQ:=by kernel_rfl
theorem Ox:fN Qg fQ 5 (frQ 6 3 (qT x0 x1 x2 (upd xs 15 (.bool false)))) cs:=⟨λw=>by kernel_rfl,by kernel_rfl,by kernel_rfl⟩
theorem LD:(aW Qg true 5 (lg (frQ 6 3 (qT x0 x1 x2 (upd xs 15 (.bool false)))) cs)).frame=frQ 7 0 (qT x0 x1 x2 (upd xs 15 (.bool false))):=by kernel_rfl
theorem Mj:bg Qg true (lg (frQ 7 0 (qT x0 x1 x2 xs)) cs):=⟨λw=>by kernel_rfl,by kernel_rfl,by kernel_rfl⟩
theorem Oc:bG (lg (frQ 7 0 (qT x0 x1 x2 xs)) cs)=(Instr.indexAt 158 (xs 6) (xs 3) >>=λv=>pure (.value v)):=by kernel_rfl
theorem Sl(v:ag):(frQ 7 0 (qT x0 x1 x2 xs)).finish v=frQ 7 1 (qT x0 x1 x2 (upd xs 18 v)):=by kernel_rfl
theorem RJ(v:ag):bg Qg true (lg (frQ 7 1 (qT x0 x1 x2 (upd xs 18 v))) cs):=⟨λw=>by kernel_rfl,by kernel_rfl,by kernel_rfl⟩
theorem Lg(d k:Nat)(e:Int):feed Qg (bG (lg (frQ 7 1 (qT x0 x1 x2 (upd (upd xs 9 (.int .u64 e)) 18 (.pointer (some ⟨d,k,none⟩))))) cs)) []=some ([.st .plain ⟨d,k,none⟩ (.int .u64 e)],.inl .skip):=by kernel_rfl
theorem mC(xs:Nat->ag)(j:Nat):upd xs j (xs j)=xs:=by
 funext b;unfold upd;split
 .rename_i h;rw[h]
 .rfl
theorem SC(d k:Nat)(e:Int)(h:xs 9=.int .u64 e):feed Qg (bG (lg (frQ 7 1 (qT x0 x1 x2 (upd xs 18 (.pointer (some ⟨d,k,none⟩))))) cs)) []=some ([.st .plain ⟨d,k,none⟩ (.int .u64 e)],.inl .skip):=by
 have:=Lg x0 x1 x2 xs cs d k e;rw[<-h,mC]at this;rw[this,h]
theorem N5:(frQ 7 1 (qT x0 x1 x2 xs)).finish undef=frQ 7 2 (qT x0 x1 x2 xs):=by kernel_rfl
theorem Lm:fN Qg fQ 6 (frQ 7 2 (qT x0 x1 x2 (upd xs 3 (.int .i64 i)))) cs:=⟨λw=>by kernel_rfl,by kernel_rfl,by kernel_rfl⟩
theorem S8:(aW Qg true 6 (lg (frQ 7 2 (qT x0 x1 x2 (upd xs 3 (.int .i64 i)))) cs)).frame=frQ 2 0 (qT x0 x1 x2 (upd (upd xs 19 (.int .i64 (IntKind.i64.wrap (i+1)))) 3 (.int .i64 (IntKind.i64.wrap (i+1))))):=by kernel_rfl
end
end
section
open Go.Conc
open Go.ConcN (upd upd_same upd_ne)
def gW(ρ:Nat->Nat->Prop):aJ:=⟨ρ,λ_ _=>False,λ_ _=>False,λ_ _=>False⟩
theorem nV{ρ:Nat->Nat->Prop}{r s:Nat}:(gW ρ).un r s↔ρ r s:=by simp[gW,aJ.un]
theorem wa{ρ:Nat->Nat->Prop}{r s:Nat}: ¬(gW ρ).mine r s:=by simp[gW,aJ.mine]
def JN{ρ:Nat->Nat->Prop}(hb:nN ρ):Fit (gW ρ) where
 own:=λ_ _ h=>h.elim
 two:=λ_ _ _ _ h=>h.elim
 oZ:=λ_ _ _ _ h=>h.elim
 pP:=λ_ _ _ h=>h.elim
 fn:=λr s t h k=>hb.fn r s t (nV.1 h) (nV.1 k)
 inj:=λr s t h k=>hb.inj r s t (nV.1 h) (nV.1 k)
section
variable {P:aj}{G:Array Func}{L:aR}{T:bw}{ρ:Nat->Nat->Prop}{Goal:al->List al->af->Prop}
theorem xp(S:Stat P G L T)(b:T.fl=false)(e:L.fn f)(j:f≠T.cA){xs:aa}(k:TR L (gW ρ) f xs ys)(B D:List al)(hb:nN ρ)(l:∀g,g<T.ng->ρ g g)(p:∀r s,ρ r s->r<w/\s<v)(t:∀r s,ρ r s->∃o q,w.heap[r]?=some o/\v.heap[s]?=some q/\OR L (gW ρ) o q):
  jG P G L T (gW ρ) B D {frame:=Frame.enter (gp P G) f xs .normal,callers:=B,status:=.running,dying:=none} w {frame:=Frame.enter P f ys .normal,callers:=D,status:=.running,dying:=none} v:=by
 refine⟨⟨.run (cL.enter S.cY e j k),⟨rfl,rfl⟩,⟨rfl,rfl⟩,⟨rfl,rfl⟩,[],[],rfl,rfl,.nil _,rfl⟩,JN hb,⟨λA=>zg,l⟩,λr s h=>p r s (nV.1 h),λr s h=>?_⟩;obtain⟨o,q,u,x,z⟩:=t r s (nV.1 h);exact⟨o,q,u,x,KR.oW (JN hb) (nV.1 h) z⟩
theorem Fu{fn:Func}(h1:P.funcs[f]?=some fn)(b:(fn.name== "runtime.NumGoroutine")=false)(e:fn.body.isNone=false)(args:aa)(w:af)(es:Array Event):(callFunc f args).runT P w es=(.ok (.enter f args) w,es):=by
 unfold callFunc;show((Go.program).bind _).runT P w es=_;rw[Sem.runT_bind'];simp only[Go.program,Sem.runT,h1,b,e,abf,abd];rfl
theorem fY(f:au):seen P f #[]=#[]:=by simp[seen]
theorem bg.enter{m:Bool}{g:ai}(h:bg P m g){f:au}{args:aa}{w:af}(b:(bG g).runT P w #[]=(.ok (.enter f args) w,#[]))(e:(match g.frame.todo with|.call _ true _ _::_=>CallKind.wrapped|_=>CallKind.normal)=.normal):
  stepG P m g w=.go {frame:=Frame.enter P f args .normal,callers:=g.frame::g.callers,status:=.running,dying:=none} w #[]:=by
 rw[h.1 w];simp only[stepG.apply,b,h.2.2,abf,abd,abj,GStep.after,fY,abL];grind
theorem Rl{x:ag}(hv:VR L τ.all x y){xs:aa}(l:XR (VR L τ.all) xs ys):
  (∃f j b vs h,x=.func (.func f) j vs/\y=.func (.func f) b h/\L.gH f/\XR (VR L τ.all) (j++xs++vs) (b++ys++h)/\(do let d ←Deferred.ofValue x xs;invoke d.target d.args)=callFunc f (j++xs++vs)/\(do let d ←Deferred.ofValue y ys;invoke d.target d.args)=callFunc f (b++ys++h))
  \/aM (gp P G) (do let d ←Deferred.ofValue x xs;invoke d.target d.args):=by
 cases hv with
 |func j vs o p k=>exact .inl ⟨_,_,_,_,_,rfl,rfl,o,XR.append (XR.append ⟨j,rfl,rfl,p⟩ l) ⟨vs,rfl,rfl,k⟩,rfl,rfl⟩
 |nilFunc=>exact .inr (show aM (gp P G) (runtimePanic .nilDeref:Sem Next) from .runtimePanic _)
 |bL s q r t=>
  refine .inr ?_;show aM (gp P G) (match (#[Value.nilIface]++xs)[0]? with|some recv=>callMethod recv s ((#[Value.nilIface]++xs).extract 1 (#[Value.nilIface]++xs).size)|_=>stuck "call: a method without a receiver");have e:(#[Value.nilIface]++xs)[0]?=some .nilIface:=zg;rw[e];exact show aM (gp P G) (runtimePanic .nilDeref:Sem Next) from .runtimePanic _
 |_=>exact .inr (aM.bind' (.stuck _))
theorem Z1(K:Let P G L T){fr:al}{cs:List al}(hs:Safe (gp P G) Goal fr cs w)(j: ¬Goal fr cs w)(k:bg (gp P G) true (lg fr cs))(l:fr.kind=.normal)(o:aM (gp P G) (bG (lg fr cs))):False:=by
 obtain⟨fr1,cs1,w1,es,e,b,_⟩:=Safe.goes hs j w.tape;have h:=e;rw[k.1 w]at h;obtain⟨a,p,r⟩:=Bx (Q:=gp P G) K.ahead K.vI (fr:=fr) l h b;obtain⟨_,_,_,q,_⟩:=o w #[];grind
end
structure gh(L:aR)(T:bw)(Goal:al->List al->af->Prop):Prop where
 stat:Stat Tryz.prog Gg L T
 fl:T.fl=false
 cA:T.cA=fQ
 sD: ¬L.fn T.cA
 goal:∀fr cs w,Goal fr cs w->cs= []/\fr.fn≠fQ
 sum:L.fn 84/\L.dC 84 0=.any
structure Entry(L:aR) where
 first:Int
 n:Nat
 x2:ag
 y2:ag
 ρ:Nat->Nat->Prop
 w0:af
 v0:af
 cs:List al
structure jo(L:aR)(E:Entry L):Prop where
 bi:nN E.ρ
 dq:∀r s,E.ρ r s->r<E.w0/\s<E.v0
 obj:∀r s,E.ρ r s->∃o q,E.w0.heap[r]?=some o/\E.v0.heap[s]?=some q/\OR L (gW E.ρ) o q
 ja:VR L E.ρ E.x2 E.y2
 zq:∀g,g<Tryz.prog.globals.size->E.ρ g g
theorem jo.gl{L:aR}{T:bw}{E:Entry L}(K:jo L E)(S:Stat Tryz.prog Gg L T):∀g,g<T.ng->E.ρ g g:=λg h=>K.zq g (by rw[S.globals];exact h)
section
variable {L:aR}{T:bw}{Goal:al->List al->af->Prop}{E:Entry L}
def jl(E:Entry L)(w:af):Prop:=E.w0.heap.size<=w.heap.size/\∀r,r<E.w0.heap.size->w.heap[r]?=E.w0.heap[r]?
abbrev qF(E:Entry L)(id n:Nat)(xs:Nat->ag):Frame:=frQ id n (qT (.i E.first) (.i E.n) E.x2 xs)
def A9(E:Entry L)(id n:Nat)(xs:Nat->ag):(qF E id n xs).fn=fQ:=rfl
theorem jl.obj(K:jo L E)(h:jl E w)(v:af)(hv:∀r s,E.ρ r s->v.heap[s]?=E.v0.heap[s]?)(e:E.v0.heap.size<=v.heap.size):(∀r s,E.ρ r s->r<w.heap.size/\s<v.heap.size)/\∀r s,E.ρ r s->∃o q,w.heap[r]?=some o/\v.heap[s]?=some q/\OR L (gW E.ρ) o q:=by
 refine⟨λr s b=>?_,λr s b=>?_⟩
 .have:=K.dq r s b;have:=h.1;omega
 .obtain⟨o,q,j,l,k⟩:=K.obj r s b;exact⟨o,q,by rw[h.2 r (K.dq r s b).1];exact j,by grind,k⟩
def gh.jS(A:gh L T Goal){fr:al}{cs:List al}(h:fr.fn=fQ): ¬Goal fr cs w:=λb=>(A.goal _ _ _ b).2 h
theorem gh.eO(A:gh L T Goal){fr:al}{cs:List al}(h:Safe Qg Goal fr cs w)(b:fr.fn=fQ):eO (stepG Qg true (lg fr cs) w)=true:=by
 obtain⟨fr1,cs1,w1,es,e,_⟩:=Safe.goes h (A.jS b) w.tape;have j:=e;rw[j];rfl
theorem AS(A:gh L T Goal)(K:jo L E)(id:Nat)(hid:id=4\/id=5){xs:Nat->ag}(hs:Safe Qg Goal (qF E id 0 xs) E.cs w)(q:xs 4=.i m):
  ∃f k h vs j,E.x2=.func (.func f) k vs/\E.y2=.func (.func f) h j/\L.fn f/\f≠T.cA/\TR L (gW E.ρ) f (k++#[.i m]++vs) (h++#[.i m]++j)/\
   stepG Qg true (lg (qF E id 0 xs) E.cs) w=.go (lg (Frame.enter Qg f (k++#[.i m]++vs) .normal) (qF E id 0 xs::E.cs)) w #[]:=by
 have l:=YL (.i E.first) (.i E.n) E.x2 xs E.cs id hid;have b:=Rv (.i E.first) (.i E.n) E.x2 xs E.cs id hid;rw[q]at b;rcases Rl (P:=Tryz.prog) (G:=Gg) (L:=L) (τ:=gW E.ρ) K.ja (xs:=#[.i m]) (ys:=#[.i m]) (XR.push (xs:=#[]) (ys:=#[]) XR.nil (.int _ _)) with⟨f,k,h,vs,j,r,s,t,u,x,H⟩|z
 .obtain⟨o,B,I⟩:=A.stat.cY.rT.gH f t;have p:f≠T.cA:=λe=>A.sD (e▸o);refine⟨f,k,h,vs,j,r,s,o,p,TR.BJ B u,?_⟩;obtain⟨_,⟨J,g1,g2,C⟩⟩:=A.stat.cY.tw f o;have F:(bG (lg (qF E id 0 xs) E.cs)).runT Qg w #[]=(.ok (.enter f (k++#[.i m]++vs)) w,#[]):=by
   rw[b,x];exact Fu (P:=Qg) g1 g2 C _ _ _
  refine bg.enter l F ?_;rcases hid with rfl|rfl<;>rfl
 .exact (Z1 A.stat.cY hs (A.jS (A9 E id 0 xs)) l rfl (by rw[b];exact z)).elim
theorem Ef(A:gh L T Goal)(K:jo L E)(id:Nat)(hid:id=4\/id=5){xs:Nat->ag}(hs:Safe Qg Goal (qF E id 0 xs) E.cs w)(h:xs 4=.i m)(j:jl E w):
  ∃x w',eL Qg Goal (qF E id 0 xs) E.cs w ((qF E id 0 xs).finish x) E.cs w'/\w.heap.size<=w'.heap.size/\∀r,r<w.heap.size->w'.heap[r]?=w.heap[r]? :=by
 obtain⟨f,H,k,vs,l,_,_,o,p,q,e⟩:=AS A K id hid hs h;have b:=Safe.next hs (A.jS (A9 E id 0 xs)) w.tape e;obtain⟨d1,d2⟩:=j.obj K E.v0 (λ_ _ _=>rfl) zf;have t:=xp A.stat A.fl o p q (qF E id 0 xs::E.cs++ [wall]) [] K.bi (K.gl A.stat) d1 d2;obtain⟨x,w',u,z,B⟩:=FT (cs:=E.cs) (frQ:=qF E id 0 xs) (D:=[]) (B0:=w.heap.size) (w0:=w) A.stat A.sD (λfr cs w C=>(A.goal fr cs w C).1) b [] (gW E.ρ) _ E.v0 rfl t (λr s F=>absurd F wa) zf (λ_ _=>rfl);exact⟨x,w',.step w.tape _ (A.jS (A9 E id 0 xs)) e u,z,B⟩
theorem EA(A:gh L T Goal)(K:jo L E){fr:al}(b:fr.fn=fQ){t:ah}(hs:Safe Qg Goal fr E.cs w)(l:jl E w)(e:stepG Qg true (lg fr E.cs) w=.go (lg (Frame.enter Qg 84 #[.s t] .normal) (fr::E.cs)) w #[]):
  ∃x w',eL Qg Goal fr E.cs w (fr.finish x) E.cs w'/\w.heap.size<=w'.heap.size/\∀r,r<w.heap.size->w'.heap[r]?=w.heap[r]? :=by
 have j:=Safe.next hs (A.jS b) w.tape e;obtain⟨d1,d2⟩:=l.obj K E.v0 (λ_ _ _=>rfl) zf;have o:TR L (gW E.ρ) 84 #[.s t] #[.s t]:=⟨rfl,λi x y h k=>by
  cases i with
  |zero=>
   rw[A.sum.2];simp at h k;subst h k;exact VR.string t
  |succ i=>simp at h⟩
 have p:=xp A.stat A.fl A.sum.1 (λe=>A.sD (e▸A.sum.1)) o (fr::E.cs++ [wall]) [] K.bi (K.gl A.stat) d1 d2;obtain⟨x,w',q,u,z⟩:=FT (cs:=E.cs) (frQ:=fr) (D:=[]) (B0:=w.heap.size) (w0:=w) A.stat A.sD (λfr cs w B=>(A.goal fr cs w B).1) j [] (gW E.ρ) _ E.v0 rfl p (λr s h=>absurd h wa) zf (λ_ _=>rfl);exact⟨x,w',.step w.tape _ (A.jS b) e q,u,z⟩
end
end
section
open Go.Conc
open Go.ConcN (upd upd_same upd_ne)
theorem OW(Q:aj)(b:Q=Qg\/Q=Tryz.prog)(d n k:Nat):feed Q (Instr.indexAt 158 (fP d n) (.i k) >>=λv=>(pure (.value v):Sem Next)) []=
  feed Q (Sem.bind (if (0:Int)<=(k:Int)/\(k:Int)<(n:Int) then (Sem.bind (Go.sizeOf 55) λs=>Sem.pure (.pointer (some (((.a d 0):Addr).add ((k:Int).toNat*s))))) else (if (decide (n<=1)&&false)=true then unsupported (.noEntry "op/indexAddr.an index out of range at an array of length 0 or 1 (ledger 616)") else boundsPanic .i64 k n .index)) λv=>(Sem.pure (Next.value v):Sem Next)) []:=by
 rcases b with rfl|rfl
 .kernel_rfl
 .kernel_rfl
theorem aan(Q:aj)(b:Q=Qg\/Q=Tryz.prog)(d k:Nat):feed Q (Sem.bind (Sem.bind (Go.sizeOf 55) λs=>Sem.pure (.pointer (some (((.a d 0):Addr).add ((k:Int).toNat*s))))) λv=>(Sem.pure (Next.value v):Sem Next)) []=some ([],.inl (.value (.pointer (some (((.a d 0):Addr).add ((k:Int).toNat*1)))))):=by
 rcases b with rfl|rfl
 .kernel_rfl
 .kernel_rfl
theorem Ih(Q:aj)(b:Q=Qg\/Q=Tryz.prog){n k:Nat}(h:k<n):feed Q (Instr.indexAt 158 (fP d n) (.i k) >>=λv=>(pure (.value v):Sem Next)) []=some ([],.inl (.value (.pointer (.a d k)))):=by
 rw[OW Q b,BY ⟨zo,zo⟩,aan Q b];have e:((.a d 0):Addr).add ((k:Int).toNat*1)=(.a d k):=by
  unfold Addr.add;grind
 rw[e]
section
variable {L:aR}{T:bw}{Goal:al->List al->af->Prop}{E:Entry L}
def xu(Goal:al->List al->af->Prop)(E:Entry L)(i:Nat)(a:Int):Prop:=
 ∃xs w,Safe Qg Goal (qF E 5 0 xs) E.cs w/\xs 4=.i (IntKind.i64.wrap (E.first+i))/\xs 7=.int .u64 a/\jl E w
structure rE(Goal:al->List al->af->Prop)(E:Entry L)(i:Nat)(a:Nat->Int)(d:Nat)(xs:Nat->ag)(w:af):Prop where
 safe:Safe Qg Goal (qF E 2 0 (upd xs 3 (.i i))) E.cs w
 row:xs 6=fP d E.n
 keeps:jl E w
 new:E.w0<=d
 blk: ∃C:aa,w.heap[d]?=.c C 55/\C.size=E.n/\∀k,k<i->C[k]?=some (.int .u64 (a k))
 pC:∀k,k<i->xu Goal E k (a k)
def gh.eQ(A:gh L T Goal){n:Nat}{fr fr':al}{cs:List al}(h:fN Qg fQ n fr cs)(b:(aW Qg true n (lg fr cs)).frame=fr')(w:af):eL Qg Goal fr cs w fr' cs w:=
 h.run (λfr cs w e=>(A.goal fr cs w e).2) b w
theorem jl.later(A:gh L T Goal){w':af}(h:jl E w)(hs:w.heap.size<=w'.heap.size)(e:∀r,r<w.heap.size->w'.heap[r]?=w.heap[r]?):jl E w':=by
 have _:=A;exact⟨IT h.1 hs,λr b=>by rw[e r (abc b h.1),h.2 r b]⟩
theorem wrap_small{k:Int}(b:0<=k)(h1:k<9223372036854775808):IntKind.i64.wrap k=k:=by
 simp only[IntKind.wrap,IntKind.bits,IntKind.signed];simp;omega
theorem Yb(A:gh L T Goal)(K:jo L E){i:Nat}{a:Nat->Int}{xs:Nat->ag}(H:rE Goal E i a d xs w)(hi:i<E.n)(hn:E.n<=64):
  ∃e X w',eL Qg Goal (qF E 2 0 (upd xs 3 (.int .i64 i))) E.cs w (qF E 2 0 (upd X 3 (.int .i64 ((i+1:Nat):Int)))) E.cs w'/\rE Goal E (i+1) (upd a i e) d X w':=by
 have aB:decide ((i:Int)<(E.n:Int))=true:=zt;have r1:=A.eQ (Jf (.i E.first) E.x2 E.n i xs E.cs) (Kr (.i E.first) E.x2 E.n i xs E.cs) w;rw[aB]at r1;have r2:=A.eQ (Lh (.i E.n) E.x2 E.first i xs E.cs) (XI (.i E.n) E.x2 E.first i xs E.cs) w;generalize B:upd (upd (upd xs 3 (.i i)) 14 (.bool true)) 4 (.i (IntKind.i64.wrap (E.first+i)))=X1 at r2;have Y:X1 4=.i (IntKind.i64.wrap (E.first+i)):=by rw[<-B];rfl
 have aE:X1 3=.i i:=by rw[<-B];rfl
 have aT:X1 6=fP d E.n:=by rw[<-B];exact H.row
 have s1:Safe Qg Goal (qF E 4 0 X1) E.cs w:=Safe.run H.safe (r1.trans r2);obtain⟨x,w1,r3,z1,o1⟩:=Ef A K 4 (.inl rfl) s1 Y H.keeps;rw[show(qF E 4 0 X1).finish x=qF E 4 1 (upd X1 5 x) from Qy ..]at r3;have s2:=Safe.run s1 r3;obtain⟨t,rfl⟩:=aaF _ _ _ _ _ _ _ (A.eO s2 rfl);have r4:=A.eQ (LC (.i E.first) (.i E.n) E.x2 X1 E.cs t) (XK (.i E.first) (.i E.n) E.x2 X1 E.cs t) w1;have s3:=Safe.run s2 r4;have k1:=H.keeps.later A z1 o1;obtain⟨V,w2,r5,z2,o2⟩:=EA A K (fr:=qF E 4 2 (upd (upd X1 5 (.s t)) 18 (strLt t))) rfl s3 k1 (VH ..);rw[Zd]at r5;have s4:=Safe.run s3 r5;have r6:=A.eQ (P8 (.i E.first) (.i E.n) E.x2 (upd (upd (upd X1 5 (.s t)) 18 (strLt t)) 7 V) E.cs) (YC (.i E.first) (.i E.n) E.x2 (upd (upd (upd X1 5 (.s t)) 18 (strLt t)) 7 V) E.cs) w2;generalize o:upd (upd (upd X1 5 (.s t)) 18 (strLt t)) 7 V=X3 at r5 r6 s4;have Z:X3 4=.i (IntKind.i64.wrap (E.first+i)):=by rw[<-o];exact Y
 have a1:X3 3=.i i:=by rw[<-o];exact aE
 have a6:X3 6=fP d E.n:=by rw[<-o];exact aT
 have ab:X3 7=V:=by rw[<-o];rfl
 have s5:=Safe.run s4 r6;have k2:=k1.later A z2 o2;obtain⟨x',w3,r7,z3,o3⟩:=Ef A K 5 (.inr rfl) s5 Z k2;rw[show(qF E 5 0 X3).finish x'=qF E 5 1 (upd X3 8 x') from EZ ..]at r7;have s6:=Safe.run s5 r7;obtain⟨W,rfl⟩:=F1 _ _ _ _ _ _ _ (A.eO s6 rfl);have r8:=A.eQ (H6 (.i E.first) (.i E.n) E.x2 X3 E.cs W) (EM (.i E.first) (.i E.n) E.x2 X3 E.cs W) w3;have s7:=Safe.run s6 r8;have k3:=k2.later A z3 o3;obtain⟨ev,w4,r9,z4,o4⟩:=EA A K (fr:=qF E 5 2 (upd (upd X3 8 (.s W)) 18 (strLt W))) rfl s7 k3 (Ir ..);rw[Eu]at r9;have s8:=Safe.run s7 r9;have k4:=k3.later A z4 o4;generalize p:upd (upd (upd X3 8 (.s W)) 18 (strLt W)) 9 ev=X5 at r9 s8;have ad:X5 7=V:=by rw[<-p];exact ab
 have a7:X5 9=ev:=by rw[<-p];rfl
 have a8:X5 6=fP d E.n:=by rw[<-p];exact a6
 have bb:X5 3=.i i:=by rw[<-p];exact a1
 have q:=A.eQ (Fy (.i E.first) (.i E.n) E.x2 X5 E.cs) (JM (.i E.first) (.i E.n) E.x2 X5 E.cs) w4;have s9:=Safe.run s8 q;have u7:upd X5 7 V=X5:=by rw[<-ad];exact mC X5 7
 rw[<-u7]at q s9;obtain⟨b,rfl⟩:=MF _ _ _ _ _ _ _ (A.eO s9 rfl);have u:=A.eQ (Em (.i E.first) (.i E.n) E.x2 X5 E.cs b) (Dy (.i E.first) (.i E.n) E.x2 X5 E.cs b) w4;have h:=Safe.run s9 u;rw[u7]at q u h;generalize z:upd X5 18 (.bool (decide (b<0)))=X6 at u h;have bc:X6 7=.int .u64 b:=by rw[<-z];exact ad
 have an:X6 9=ev:=by rw[<-z];exact a7
 have bd:X6 6=fP d E.n:=by rw[<-z];exact a8
 have bm:X6 3=.i i:=by rw[<-z];exact bb
 have u9:upd X6 9 ev=X6:=by rw[<-an];exact mC X6 9
 rw[<-u9]at h;obtain⟨F,rfl⟩:=CL _ _ _ _ _ _ _ (A.eO h rfl);rw[u9]at h;have bn:qE b F X6=X6:=by
  unfold qE;rw[show upd X6 7 (.int .u64 b)=X6 by rw[<-bc];exact mC X6 7];exact u9
 have j:=A.eQ (Iy (.i E.first) (.i E.n) E.x2 X6 E.cs b F) (Fc (.i E.first) (.i E.n) E.x2 X6 E.cs b F) w4;rw[bn]at j;have l:=Safe.run h j;have bo:b=F:=by
  refine aco λbp=>?_;rw[show(!decide (b=F))=true by simp[bp]]at l;have rb:=A.eQ (Ge (.i E.first) (.i E.n) E.x2 (upd X6 19 (.bool (decide (F<0)))) E.cs) rfl w4;have sb:=Safe.run l rb
  have:=A.eO (fr:=vF (.i E.first) (.i E.n) E.x2 (upd X6 19 (.bool (decide (F<0)))) E.cs) sb (Jv ..);rw[Eb]at this;cases this
 subst bo;rw[show(!decide (b=b))=false by simp]at j l;have I:=A.eQ (Ox (.i E.first) (.i E.n) E.x2 (upd X6 19 (.bool (decide (b<0)))) E.cs) (LD (.i E.first) (.i E.n) E.x2 (upd X6 19 (.bool (decide (b<0)))) E.cs) w4;have s12:=Safe.run l I;generalize J:upd (upd X6 19 (.bool (decide (b<0)))) 15 (.bool false)=X7 at j I l s12;have ao:X7 6=fP d E.n:=by rw[<-J];exact bd
 have aq:X7 3=.i i:=by rw[<-J];exact bm
 have br:X7 9=.int .u64 b:=by rw[<-J];exact an
 have ar:stepG Qg true (lg (qF E 7 0 X7) E.cs) w4=.go (lg (qF E 7 1 (upd X7 18 (.pointer (.a d i)))) E.cs) w4 #[]:=by
  have hp:=Oc (.i E.first) (.i E.n) E.x2 X7 E.cs;rw[ao,aq]at hp
  have:=bg.value (Mj (.i E.first) (.i E.n) E.x2 X7 E.cs) (rs:=[]) (ds:=[]) (v:=.pointer (.a d i)) (by rw[hp];exact Ih Qg (.inl rfl) hi) (w:=w4) (w':=w4) (es:=#[]) ⟨rfl,rfl⟩;rw[this,fY];show GStep.go (gP _ ((qF E 7 0 X7).finish _)) w4 #[]=_;rw[Sl];rfl
 have s13:=Safe.next s12 (A.jS rfl) w4.tape ar;have av:eL Qg Goal (qF E 7 0 X7) E.cs w4 (qF E 7 1 (upd X7 18 (.pointer (.a d i)))) E.cs w4:=.step w4.tape _ (A.jS rfl) ar (.refl _ _ _);obtain⟨C,hC,bs,bx⟩:=H.blk;have bR:=(IN.1 hC).1;have M:w4.heap[d]?=.c C 55:=zg;have N:w4.cell? (.a d i)=C[i]? :=by simp[World.cell?,M]
 have bB:w4.frozen? (.a d i)=false:=by simp[World.frozen?,M]
 have ay:stepG Qg true (lg (qF E 7 1 (upd X7 18 (.pointer (.a d i)))) E.cs) w4=.go (lg (qF E 7 2 (upd X7 18 (.pointer (.a d i)))) E.cs) (w4.setCell (.a d i) (.int .u64 b)) (seen Qg fQ #[⟨.cell (.a d i),true,false⟩]):=by
  have:=bg.skip (RJ (.i E.first) (.i E.n) E.x2 X7 E.cs (.pointer (.a d i))) (SC (.i E.first) (.i E.n) E.x2 X7 E.cs d i b br) (w:=w4) (w':=w4.setCell (.a d i) (.int .u64 b)) (es:=#[⟨.cell (.a d i),true,false⟩])
   ⟨zp,zp,⟨C[i]'zo,by rw[N];simp⟩,bB,rfl,rfl⟩
  rw[this];show GStep.go (gP _ ((qF E 7 1 (upd X7 18 (.pointer (.a d i)))).finish _)) _ _=_;rw[N5];rfl
 have O:=Safe.next s13 (A.jS rfl) w4.tape ay;have Q:eL Qg Goal (qF E 7 1 (upd X7 18 (.pointer (.a d i)))) E.cs w4 (qF E 7 2 (upd X7 18 (.pointer (.a d i)))) E.cs (w4.setCell (.a d i) (.int .u64 b)):=.step w4.tape _ (A.jS rfl) ay (.refl _ _ _);generalize az:upd X7 18 (.pointer (.a d i))=X8 at av Q s13 O;have bL:X8 3=.i i:=by rw[<-az];exact aq
 have f86:X8 6=fP d E.n:=by rw[<-az];exact ao
 have u3:upd X8 3 (.i i)=X8:=by rw[<-bL];exact mC X8 3
 generalize R:w4.setCell (.a d i) (.int .u64 b)=w5 at Q O;have S:=A.eQ (Lm (.i E.first) (.i E.n) E.x2 i X8 E.cs) (S8 (.i E.first) (.i E.n) E.x2 i X8 E.cs) w5;rw[u3,show IntKind.i64.wrap ((i:Int)+1)=((i+1:Nat):Int) by rw[wrap_small zo zo];omega]at S;have bN:=Safe.run O S;have aA:w5=w4.heap.size:=by rw[<-R];simp[World.setCell]
 have h5:∀r,r≠d->w5.heap[r]?=w4.heap[r]? :=λr hr=>by rw[<-R];simp[World.setCell,abR,Ne.symm hr]
 refine⟨b,upd X8 19 (.i ((i+1:Nat):Int)),w5,r1.trans (r2.trans (r3.trans (r4.trans (r5.trans (r6.trans (r7.trans (r8.trans (r9.trans (q.trans (u.trans (j.trans (I.trans (av.trans (Q.trans S)))))))))))))),bN,f86,⟨by rw[aA];exact k4.1,λr hr=>?_⟩,H.new,⟨C.setIfInBounds i (.int .u64 b),?_,by simp[bs],λk hk=>?_⟩,λk hk=>?_⟩
 .rw[h5 r (by have:=H.new;omega)];exact k4.2 r hr
 .rw[<-R];simp[World.setCell,abR,M]
 .rcases Nat.lt_succ_iff_lt_or_eq.1 hk with U|rfl
  .rw[upd_ne _ _ zo,abA zo];exact bx k U
  .rw[upd_same,acB zo]
 .rcases Nat.lt_succ_iff_lt_or_eq.1 hk with U|rfl
  .rw[upd_ne _ _ zo];exact H.pC k U
  .rw[upd_same];exact⟨X3,w2,s5,Z,ab,k2⟩
end
end
section
open Go.Conc
open Go.ConcN (upd upd_same upd_ne)
section
variable {L:aR}{T:bw}{Goal:al->List al->af->Prop}{E:Entry L}
theorem Hd(A:gh L T Goal)(K:jo L E)(k:E.n<=64):∀(m i:Nat) (a:Nat->Int) (xs:Nat->ag) (w:af),m+i=E.n->rE Goal E i a d xs w->
  ∃h b w',eL Qg Goal (qF E 2 0 (upd xs 3 (.i i))) E.cs w (qF E 2 0 (upd b 3 (.i E.n))) E.cs w'/\rE Goal E E.n h d b w'
 |0,i,a,xs,w,l,H=>by
  obtain rfl:i=E.n:=zo;exact⟨a,xs,w,.refl _ _ _,H⟩
 |m+1,i,a,xs,w,l,H=>by
  obtain⟨e,j,w1,o,p⟩:=Yb A K H zo k;obtain⟨h,b,w',q,r⟩:=Hd A K k m (i+1) (upd a i e) j w1 zo p;exact⟨h,b,w',o.trans q,r⟩
structure Ce(Goal:al->List al->af->Prop)(E:Entry L)(a:Nat->Int)(d:Nat)(xs:Nat->ag)(w:af):Prop where
 row:xs 6=fP d E.n
 keeps:jl E w
 new:E.w0<=d
 blk: ∃C:aa,w.heap[d]?=.c C 55/\C.size=E.n/\∀k,k<E.n->C[k]?=some (.int .u64 (a k))
 pC:∀k,k<E.n->xu Goal E k (a k)
theorem aaA(A:gh L T Goal){a:Nat->Int}{xs:Nat->ag}(H:rE Goal E E.n a d xs w):
  ∃b,eL Qg Goal (qF E 2 0 (upd xs 3 (.i E.n))) E.cs w (mR (.i E.first) (.i E.n) E.x2 b E.cs) E.cs w/\Ce Goal E a d b w:=by
 have e:decide ((E.n:Int)<(E.n:Int))=false:=zp;have h:=A.eQ (Jf (.i E.first) E.x2 E.n E.n xs E.cs) (Kr (.i E.first) E.x2 E.n E.n xs E.cs) w;rw[e]at h;have j:=A.eQ (Wh (.i E.first) (.i E.n) E.x2 (upd xs 3 (.i E.n)) E.cs) (fr':=mR (.i E.first) (.i E.n) E.x2 (upd xs 3 (.i E.n)) E.cs) rfl w;exact⟨upd xs 3 (.i E.n),h.trans j,H.row,H.keeps,H.new,H.blk,H.pC⟩
theorem ZD(A:gh L T Goal)(K:jo L E){xs:Nat->ag}(hs:Safe Qg Goal (qF E 1 0 xs) E.cs E.w0)(l:∀r,feed Qg (bG (lg (qF E 1 0 xs) E.cs)) [.ref r]=some ([.nw (.cells (Array.replicate E.n (.int .u64 0)) 55)],.inl (.value (fP r E.n)))):
  ∃b w',eL Qg Goal (qF E 1 0 xs) E.cs E.w0 (qF E 2 0 (upd b 3 (.i ((0:Nat):Int)))) E.cs w'/\rE Goal E 0 (λ_=>0) E.w0.heap.size b w':=by
 have _:=K;have h:stepG Qg true (lg (qF E 1 0 xs) E.cs) E.w0=.go (lg (qF E 1 1 (upd xs 6 (fP E.w0.heap.size E.n))) E.cs) {E.w0 with heap:=E.w0.heap.push (.cells (Array.replicate E.n (.int .u64 0)) 55)} #[]:=by
  have:=bg.value (UL (.i E.first) (.i E.n) E.x2 xs E.cs) (l E.w0.heap.size) (w:=E.w0) (w':={E.w0 with heap:=E.w0.heap.push (.cells (Array.replicate E.n (.int .u64 0)) 55)}) (es:=#[]) ⟨rfl,rfl,rfl⟩;rw[this,fY];show GStep.go (gP _ ((qF E 1 0 xs).finish _)) _ #[]=_;rw[Wz];rfl
 have o:=Safe.next hs (A.jS rfl) E.w0.tape h;have p:eL Qg Goal (qF E 1 0 xs) E.cs E.w0 _ E.cs _:=.step E.w0.tape _ (A.jS rfl) h (.refl _ _ _);have j:=A.eQ (Uc (.i E.first) (.i E.n) E.x2 (upd xs 6 (fP E.w0.heap.size E.n)) E.cs) (WZ (.i E.first) (.i E.n) E.x2 (upd xs 6 (fP E.w0.heap.size E.n)) E.cs) {E.w0 with heap:=E.w0.heap.push (.cells (Array.replicate E.n (.int .u64 0)) 55)};refine⟨upd xs 6 (fP E.w0.heap.size E.n),_,p.trans j,Safe.run o j,rfl,⟨zp,λr q=>?_⟩,zf,⟨Array.replicate E.n (.int .u64 0),zp,zp,λk e=>absurd e zo⟩,λk e=>absurd e zo⟩;grind
end
theorem Xc{L:aR}{T:bw}{Goal:al->List al->af->Prop}(A:gh L T Goal){x0 x1 x2 y2:ag}{ρ:Nat->Nat->Prop}{w0 v0:af}{cs:List al}(hs:Safe Qg Goal (Frame.enter Qg fQ #[x0,x1,x2] .normal) cs w0)(bi:nN ρ)(dq:∀r s,ρ r s->r<w0/\s<v0)(obj:∀r s,ρ r s->∃o q,w0.heap[r]?=some o/\v0.heap[s]?=some q/\OR L (gW ρ) o q)(ja:VR L ρ x2 y2)(zq:∀g,g<Tryz.prog.globals.size->ρ g g):
  ∃(first:Int) (n:Nat),x0=.i first/\x1=.i n/\(n=1\/n=4\/n=16\/n=64)/\
   ∃a d xs w,eL Qg Goal (Frame.enter Qg fQ #[x0,x1,x2] .normal) cs w0 (mR (.i first) (.i n) x2 xs cs) cs w/\jo L (⟨first,n,x2,y2,ρ,w0,v0,cs⟩:Entry L)/\Ce Goal (⟨first,n,x2,y2,ρ,w0,v0,cs⟩:Entry L) a d xs w:=by
 have r0:=A.eQ (Ol x0 x1 x2 cs) (Z5 x0 x1 x2 cs) w0;have u:=Safe.run hs r0;obtain⟨first,rfl⟩:=TW _ _ _ _ _ (A.eO u rfl);have x:=A.eQ (MQ x1 x2 first un cs) (Mr x1 x2 first un cs) w0;have z:=Safe.run u x;obtain⟨n,rfl⟩:=Y2 _ _ _ _ _ _ (A.eO z rfl);have j:=A.eQ (aal (.i first) x2 n (upd un 16 (.bool (decide (first<0)))) cs) (Wp (.i first) x2 n (upd un 16 (.bool (decide (first<0)))) cs) w0;have h:=Safe.run z j;generalize upd (upd un 16 (.bool (decide (first<0)))) 17 (.bool (decide (n<0)))=X at j h;have fin:∀(k:Nat) (xs:Nat->ag),k<=64->n=k->eL Qg Goal (frQ 0 6 (qT (.i first) (.i n) x2 (jc (decide (n=1)) (decide (n=4)) (decide (n=16)) (decide (n=64)) X))) cs w0 (frQ 1 0 (qT (.i first) (.i n) x2 xs)) cs w0->
   (∀r,feed Qg (bG (lg (frQ 1 0 (qT (.i first) (.i n) x2 xs)) cs)) [.ref r]=some ([.nw (.cells (Array.replicate k (.int .u64 0)) 55)],.inl (.value (fP r k))))->
   ∃a d xs w,eL Qg Goal (Frame.enter Qg fQ #[.i first,.i n,x2] .normal) cs w0 (mR (.i first) (.i k) x2 xs cs) cs w/\jo L (⟨first,k,x2,y2,ρ,w0,v0,cs⟩:Entry L)/\Ce Goal (⟨first,k,x2,y2,ρ,w0,v0,cs⟩:Entry L) a d xs w:=by
  intro k xs I l B J;subst l;have K:jo L (⟨first,k,x2,y2,ρ,w0,v0,cs⟩:Entry L):=⟨bi,dq,obj,ja,zq⟩
  obtain⟨p,w1,M,H⟩:=ZD A K (Safe.run h B) J;obtain⟨a,N,w2,O,Q⟩:=Hd A K I k 0 _ p w1 rfl H;obtain⟨t,R,D⟩:=aaA A Q;exact⟨a,_,t,w2,r0.trans (x.trans (j.trans (B.trans (M.trans (O.trans R))))),K,D⟩
 by_cases C:n=1
 .subst C;exact⟨first,1,rfl,rfl,.inl rfl,fin 1 _ zo rfl (A.eQ (Yn (.i first) (.i 1) x2 X cs _ _ _) (RH (.i first) (.i 1) x2 X cs _ _ _) w0) (λr=>MY ..)⟩
 by_cases F:n=4
 .subst F;exact⟨first,4,rfl,rfl,.inr (.inl rfl),fin 4 _ zo rfl (A.eQ (Sp (.i first) (.i 4) x2 X cs _ _) (Q0 (.i first) (.i 4) x2 X cs _ _) w0) (λr=>Up ..)⟩
 by_cases b:n=16
 .subst b;exact⟨first,16,rfl,rfl,.inr (.inr (.inl rfl)),fin 16 _ zo rfl (A.eQ (TO (.i first) (.i 16) x2 X cs _) (Vk (.i first) (.i 16) x2 X cs _) w0) (λr=>K9 ..)⟩
 by_cases e:n=64
 .subst e;exact⟨first,64,rfl,rfl,.inr (.inr (.inr rfl)),fin 64 _ zo rfl (A.eQ (La (.i first) (.i 64) x2 X cs) (Zi (.i first) (.i 64) x2 X cs) w0) (λr=>O6 ..)⟩
 .exfalso;rw[abC C,abC F,abC b,abC e]at h;have rb:=A.eQ (LH (.i first) (.i n) x2 X cs) (fr':=zV (.i first) (.i n) x2 X cs) rfl w0
  have:=A.eO (Safe.run h rb) (R6 ..);rw[N0]at this;cases this
end
section
open Go.Conc
open Go.ConcN (upd upd_same upd_ne)
structure kD where
 fr:al
 cs:List al
 w:af
def pd(Q:aj)(Goal:al->List al->af->Prop)(s1 s:kD):Prop:=∃t es,¬Goal s.fr s.cs s.w/\stepG Q true (lg s.fr s.cs) {s.w with tape:=t}=.go (lg s1.fr s1.cs) s1.w es
theorem aat{Q:aj}{Goal:al->List al->af->Prop}{fr:al}{cs:List al}(h:Safe Q Goal fr cs w):Acc (pd Q Goal) ⟨fr,cs,w⟩:=by
 refine Safe.EF (X:=λfr cs w=>Acc (pd Q Goal) ⟨fr,cs,w⟩) ?_ h;intro fr cs w _ j;refine Acc.intro _ λb k=>?_;obtain⟨t,es,l,e⟩:=k;exact j t b.fr b.cs b.w es l e
theorem VU{L:aR}{c:cy}{s:ah}(h:CR L τ c (.s s) y):y=.s s:=by
 cases c with
 |any=>cases h;rfl
 |own=>cases h;rfl
 |box=>cases h;rfl
 |kF=>rcases h with⟨h,_⟩|⟨_,_,h,_⟩<;>cases h
 |eT=>rcases h with⟨h,_⟩|⟨h,_⟩|⟨_,_,_,h,_⟩<;>cases h
 |loc=>rcases h with⟨h,_⟩|⟨h,_⟩|⟨_,_,_,h,_⟩<;>cases h
theorem YF{L:aR}{c:cy}{k:IntKind}{n:Int}(h:CR L τ c (.int k n) y):y=.int k n:=by
 cases c with
 |any=>cases h;rfl
 |own=>cases h;rfl
 |box=>cases h;rfl
 |kF=>rcases h with⟨h,_⟩|⟨_,_,h,_⟩<;>cases h
 |eT=>rcases h with⟨h,_⟩|⟨h,_⟩|⟨_,_,_,h,_⟩<;>cases h
 |loc=>rcases h with⟨h,_⟩|⟨h,_⟩|⟨_,_,_,h,_⟩<;>cases h
section
variable {L:aR}{T:bw}{Goal:al->List al->af->Prop}
structure iF(L:aR)(T:bw)(Goal:al->List al->af->Prop)(E:Entry L)(frQ:al)(D:List al)(ow:Nat->Prop)(s:kD)(g:ai)(v:af):Prop where
 safe:Safe Qg Goal s.fr s.cs s.w
 sub: ∃sub,s.cs=sub++frQ::E.cs
 lC: ∃τ,jG Tryz.prog Gg L T τ (frQ::E.cs++ [wall]) D (lg s.fr s.cs) s.w g v/\(∀r t,τ.un r t->E.ρ r t\/ow t)/\∀r t,τ.mine r t->ow t/\E.w0<=r
 keeps:jl E s.w
theorem iF.running{E:Entry L}{frQ:al}{s:kD}(h:iF L T Goal E frQ D ow s g v):g.status=.running:=by
 obtain⟨τ,b,_⟩:=h.lC;exact b.g.status.2
def iF.acc{E:Entry L}{frQ:al}{s:kD}(h:iF L T Goal E frQ D ow s g v):Acc (pd Qg Goal) s:=aat h.safe
theorem iF.low{E:Entry L}{frQ:al}{s:kD}(h:iF L T Goal E frQ D ow s g v)(ow':Nat->Prop)(e:∀t,ow t->ow' t):iF L T Goal E frQ D ow' s g v:=by
 obtain⟨τ,k,l,j⟩:=h.lC;exact⟨h.safe,h.sub,⟨τ,k,λr t b=>(l r t b).imp id (e t),λr t b=>⟨e t (j r t b).1,(j r t b).2⟩⟩,h.keeps⟩
theorem iF.nM{E:Entry L}{frQ:al}{s:kD}{v2:af}(h:iF L T Goal E frQ D ow s g v)(hs:v<=v2.heap.size)(l:∀t,(∃r,E.ρ r t)\/ow t->v2.heap[t]?=v.heap[t]?):iF L T Goal E frQ D ow s g v2:=by
 obtain⟨τ,b,j,k⟩:=h.lC;refine⟨h.safe,h.sub,⟨τ,⟨b.g,b.bi,b.flat,λr t e=>⟨(b.dq r t e).1,abc (b.dq r t e).2 hs⟩,λr t e=>?_⟩,j,k⟩,h.keeps⟩;obtain⟨o,q,p,u,x⟩:=b.obj r t e;grind
structure Zx(E:Entry L)(ow ow':Nat->Prop)(v v1:af)(fs:Array Event):Prop where
 grow:v<=v1.heap.size
 tape:v1.tape=v.tape
 os:v1.os=v.os
 output:v1.output=v.output
 ix:∀t,t<v.heap.size->¬ow t->v1.heap[t]?=v.heap[t]?
 own:∀t,ow' t↔ow t\/(v<=t/\t<v1)
 qy:∀e∈fs,lX (λt=>(∃r,E.ρ r t)\/ow' t) ow' e
theorem iF.step(A:gh L T Goal){E:Entry L}{frQ:al}{c0:al}{D:List al}{ow:Nat->Prop}{s:kD}{g:ai}{v:af}(h:iF L T Goal E frQ (c0::D) ow s g v):
  (∃g1 v1 fs s1,stepG Tryz.prog false g v=.go g1 v1 fs/\iF L T Goal E frQ (c0::D) (λt=>ow t\/(v.heap.size<=t/\t<v1.heap.size)) s1 g1 v1/\pd Qg Goal s1 s/\Zx E ow (λt=>ow t\/(v.heap.size<=t/\t<v1.heap.size)) v v1 fs)
  \/∃x y fs w1,stepG Tryz.prog false g v=.go {frame:=c0.finish y,callers:=D,status:=.running,dying:=none} v fs/\Safe Qg Goal (frQ.finish x) E.cs w1/\jl E w1/\(∀t,x=.s t->y=.s t)/\(∀e,x=.int .u64 e->y=.int .u64 e)/\∀e∈fs,lX (λt=>(∃r,E.ρ r t)\/ow t) ow e:=by
 obtain⟨sub,B⟩:=h.sub;obtain⟨τ,C,N,F⟩:=h.lC;obtain⟨fr,cs,w⟩:=s;have p:Safe Qg Goal fr cs w:=h.safe;simp only at B C;have H: ¬Goal fr cs w:=λhg=>by have:=(A.goal _ _ _ hg).1;simp_all
 have O:fr.fn≠T.cA:=λe=>by
  have key:∀a b,jC Tryz.prog Gg L T τ a b->a.fn=T.cA->False:=by
   intro a b j e;cases j with
   |run j=>exact j.np e
   |cA hp _ _=>exact A.sD hp
  exact key _ _ C.g.frame e
 obtain⟨fr1,cs1,w1,es,e,Q,k⟩:=Safe.goes p H (pX w v);by_cases hl:fr.mode=.returning/\fr.defers= []/\cs=frQ::E.cs
 .obtain⟨hm,hd,rfl⟩:=hl;obtain⟨x,fn,R,M,rfl,rfl,rfl⟩:=H0 A.stat C O hm hd _ e;obtain⟨y,fs,I,q,S,u,_,U⟩:=C.last A.stat false O ⟨hm,hd,rfl⟩ R M;refine .inr ⟨x,y,fs,_,?_,k,h.keeps,λt V=>VU (V▸I),λe W=>YF (W▸I),λe W=>(q e W).mono (λt ⟨r,j⟩=>(N r t j).imp (λx=>⟨r,x⟩) id) (λt ⟨r,j⟩=>(F r t j).1)⟩;rw[U];simp only[doReturn,u,GStep.after,abL]
 .obtain⟨h1,v1,fs,τ1,e1,J,z,l⟩:=C.step A.stat false O (λx=>hl ⟨x.1,x.2.1,acG ((show cs++ [wall]=frQ::E.cs++ [wall] from x.2.2).trans zp)⟩) e Q;obtain⟨cs2,ab,X,_,_,_⟩:=J.g.parts;have K:cs1=cs2++frQ::E.cs:=by
   have:=congrArg Goroutine.callers X;have e2:cs1++ [wall]=(cs2++frQ::E.cs)++ [wall]:=(show cs1++ [wall]=cs2++(frQ::E.cs++ [wall]) from this).trans zp;exact acG e2
  have o:jl E w:=h.keeps;have Y:jl E w1:=⟨IT o.1 l.grow,λr M=>by rw[l.pS r (abc M o.1) (λt j=>zg),o.2 r M]⟩
  refine .inl ⟨h1,v1,fs,⟨fr1,cs1,w1⟩,e1,⟨k,⟨cs2,K⟩,⟨τ1,J,λr t j=>?_,λr t j=>?_⟩,Y⟩,⟨_,_,H,e⟩,z.grow,z.tape,z.os,z.output,λt V Z=>z.ix t V λr j=>Z (F r t j).1,λt=>Iff.rfl,λev q=>(z.qy ev q).mono ?_ ?_⟩
  .rcases l.un r t j with j|j
   .grind
   omega
  .rcases l.mine r t j with j|j
   .grind
   .exact⟨.inr ⟨j.2.2.1,j.2.2.2⟩,IT o.1 j.1⟩
  .grind
  grind
end
end
section
open Go.Conc
abbrev Pg:Program:=Tryz.prog
def ptr(b:Nat):Value:=.p b
def bt(m:Mark):Event:=⟨.mark m,false,true⟩
def uP(f:au)(args:aa)(cs:List al):Goroutine:={frame:=Frame.enter Pg f args .normal,callers:=cs,status:=.running,dying:=none}
def lr:ny:=.shp (some (206,2))
def unit:Value:=.tuple #[]
def fin(g:ai)(v:ag):Goroutine:=gP g (g.frame.finish v)
section
variable (cs:List al) (wg:Nat)
def Cc:Goroutine:=uP 127 #[ptr wg,.i (-1)] cs
theorem Z7:bJ Pg false 11 (Cc cs wg):=zl
def wo:Goroutine:=aW Pg false 11 (Cc cs wg)
theorem zM:bg Pg false (wo cs wg):=⟨λw=>zk,zk,zk⟩
theorem Us:feed Pg (bG (wo cs wg)) [lr,lr]=some ([.shp wg,.shp wg],.inl (.value (ptr wg))):=zk
def rI:Goroutine:=fin (wo cs wg) (ptr wg)
theorem YU(w:af):stepG Pg false (rI cs wg) w=.go (fin (rI cs wg) unit) w #[bt (.releaseMerge (.a wg 0))]:=zk
theorem F4:(rI cs wg).status=.running:=zk
theorem YI:bJ Pg false 3 (fin (rI cs wg) unit):=zl
def qO:Goroutine:=aW Pg false 3 (fin (rI cs wg) unit)
theorem XC(w:af):stepG Pg false (qO cs wg) w=.go (fin (qO cs wg) unit) w #[bt .disable]:=zk
theorem EV:(qO cs wg).status=.running:=zk
theorem V0:bJ Pg false 11 (fin (qO cs wg) unit):=zl
def vo:Goroutine:=aW Pg false 11 (fin (qO cs wg) unit)
theorem W8(w:af):stepG Pg false (vo cs wg) w=.go (fin (vo cs wg) (.bool false)) w #[]:=zk
theorem Ts:(vo cs wg).status=.running:=zk
theorem Ls:bJ Pg false 22 (fin (vo cs wg) (.bool false)):=zl
def sq:Goroutine:=aW Pg false 22 (fin (vo cs wg) (.bool false))
def NX:bh Pg false (11+(1+22)) (fin (qO cs wg) unit) (sq cs wg):=(V0 cs wg).bu.trans ((bh.one (Ts cs wg) (W8 cs wg)).trans (Ls cs wg).bu)
theorem yH:bg Pg false (sq cs wg):=⟨λw=>zk,zk,zk⟩
def less(st:Int):Int:=IntKind.u64.wrap (st+18446744069414584320)
theorem ZP(st:Int):feed Pg (bG (sq cs wg)) [.val (.int .u64 st)]=some ([.mk (.extern 189),.ld .atomic (.a wg 0),.st .atomic (.a wg 0) (.int .u64 (less st))],.inl (.value (.int .u64 (less st)))):=zk
theorem Uj(a:Addr):seen Pg (sq cs wg).frame.fn #[bt (.extern 189),⟨.cell a,false,true⟩,⟨.cell a,true,true⟩]=#[⟨.cell a,false,true⟩,⟨.cell a,true,true⟩]:=zk
def pe(st:Int):Goroutine:=fin (sq cs wg) (.int .u64 st)
end
end
section
open Go.Conc
section
variable (c:al) (cs:List al) (wg:Nat)
def back:Goroutine:={frame:=c.finish unit,callers:=cs,status:=.running,dying:=none}
def uM(st:Int):Goroutine:=aW Pg false 87 (pe (c::cs) wg st)
def enabled(g:ai):Goroutine:={g with frame:={g.frame with defers:=[]}}
theorem Ib:∀e∈#[bt .enable],Event.mute e=true:=by intro e b;simp[bt]at b;subst b;rfl
theorem Jn{st:Int}{q:Nat}(h1:bJ Pg false 87 (pe (c::cs) wg st))(b:(uM c cs wg st).status=.running)(e:∀w,stepG Pg false (uM c cs wg st) w=.go (enabled (uM c cs wg st)) w #[bt .enable])(j:(enabled (uM c cs wg st)).status=.running)(k:∀w,stepG Pg false (enabled (uM c cs wg st)) w=.go (back c cs) w #[])(h:QuitsD Pg q 0 (back c cs)):QuitsD Pg (87+((1+q)+1)) 1 (pe (c::cs) wg st):=
 QuitsD.bu h1.bu (QuitsD.marked b e Ib (QuitsD.bu (bh.one j k) h))
theorem QC:bJ Pg false 103 (pe (c::cs) wg 1):=zl
def sV:Goroutine:=aW Pg false 103 (pe (c::cs) wg 1)
theorem zQ:bg Pg false (sV c cs wg):=⟨λw=>zk,zk,zk⟩
theorem Se:feed Pg (bG (sV c cs wg)) [.val (.int .u64 1)]=some ([.mk (.extern 190),.ld .atomic (.a wg 0)],.inl (.value (.int .u64 1))):=zk
theorem VG(a:Addr):seen Pg (sV c cs wg).frame.fn #[bt (.extern 190),⟨.cell a,false,true⟩]=#[⟨.cell a,false,true⟩]:=zk
theorem Tu:bJ Pg false 20 (fin (sV c cs wg) (.int .u64 1)):=zl
def sj:Goroutine:=aW Pg false 20 (fin (sV c cs wg) (.int .u64 1))
theorem BU:bg Pg false (sj c cs wg):=⟨λw=>zk,zk,zk⟩
theorem Xf:feed Pg (bG (sj c cs wg)) []=some ([.mk (.extern 191),.st .atomic (.a wg 0) (.int .u64 0)],.inl (.value unit)):=zk
theorem WS(a:Addr):seen Pg (sj c cs wg).frame.fn #[bt (.extern 191),⟨.cell a,true,true⟩]=#[⟨.cell a,true,true⟩]:=zk
theorem Ro:bJ Pg false 27 (fin (sj c cs wg) unit):=zl
def px:Goroutine:=aW Pg false 27 (fin (sj c cs wg) unit)
theorem AH:bg Pg false (px c cs wg):=⟨λw=>zk,zk,zk⟩
theorem Qf:mayWake Pg (px c cs wg)=true:=zk
theorem XQ:feed Pg (bG (px c cs wg)) [.val (.int .u32 0)]=some ([.mk (.extern 168),.mk .disable,.ld .atomic (.a wg 1),.st .atomic (.a wg 1) (.int .u32 1),.mk .enable],.inl (.value unit)):=zk
theorem Rs(a:Addr):seen Pg (px c cs wg).frame.fn #[bt (.extern 168),bt .disable,⟨.cell a,false,true⟩,⟨.cell a,true,true⟩,bt .enable]=#[bt .disable,⟨.cell a,false,true⟩,⟨.cell a,true,true⟩,bt .enable]:=zk
theorem Mi:bJ Pg false 17 (fin (px c cs wg) unit):=zl
def AL:Goroutine:=aW Pg false 17 (fin (px c cs wg) unit)
theorem Sg(w:af):stepG Pg false (AL c cs wg) w=.go (enabled (AL c cs wg)) w #[bt .enable]:=zk
theorem ZN(w:af):stepG Pg false (enabled (AL c cs wg)) w=.go (back c cs) w #[]:=zk
theorem TT{q:Nat}(h:QuitsD Pg q 0 (back c cs)):QuitsD Pg (17+((1+q)+1)) 1 (fin (px c cs wg) unit):=
 QuitsD.bu (Mi c cs wg).bu (QuitsD.marked zk (Sg c cs wg) Ib (QuitsD.bu (bh.one zk (ZN c cs wg)) h))
end
end
end Go.Proofs.YtldmcdeibiclkaaGreat.U
