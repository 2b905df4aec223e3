/-
  Toward summed_holds: tree.ofSegments UNTIL ITS FIRST go, beside leavers; the pool's machine BEGINS.
-/
import Derived.Test.YtldmcdeibiclkaaGreatC12
set_option linter.unusedVariables false
set_option linter.unusedSimpArgs false
set_option maxRecDepth 100000
set_option maxHeartbeats 20000000
namespace Go.Proofs.YtldmcdeibiclkaaGreat.U
variable {gs:Array Goroutine}{t:Trace}{v:World}{π:Nat->Nat->Prop}{b i N d:Nat}{q:Nat->Nat}{s:PS}{xs:Nat->Value}{τ:ah}
section
open Go.Conc
open Go.ConcN (upd upd_same upd_ne sumTo sumTo_upd sumTo_congr sumTo_le le_sumTo RelBy)
set_option maxRecDepth 100000
theorem GI(M:Mn)(c:Frame)(cs:List Frame):(jd M c cs).frame.fn=95:=by kernel_rfl
theorem O6(M:Mn)(c:Frame)(cs:List Frame):(jJ M c cs).frame.fn=95:=by kernel_rfl
theorem Mf(M:Mn){n:Nat}(hn:n=1\/n=4\/n=16\/n=64)(h:M.count=n)(c:Frame)(cs:List Frame)(r:Nat):feed Pg (aQ (oG M c cs)) [.ref r]=some ([.nw (.chan n #[] false 0 0 false)],.inl (.value (.chan (some r)))):=by
 obtain⟨p,f,m,fn,ca,cb⟩:=M;simp only at h;subst h;rcases hn with rfl|rfl|rfl|rfl<;>kernel_rfl
theorem Ie(M:Mn){n:Nat}(hn:n=1\/n=4\/n=16\/n=64)(h:M.count=n)(c:Frame)(cs:List Frame)(r:Nat):feed Pg (aQ (oH M c cs)) [.ref r]=some ([.nw (.chan n #[] false 0 0 false)],.inl (.value (.chan (some r)))):=by
 obtain⟨p,f,m,fn,ca,cb⟩:=M;simp only at h;subst h;rcases hn with rfl|rfl|rfl|rfl<;>kernel_rfl
theorem Hy(M:Mn){n nW:Nat}(hn:n=1\/n=4\/n=16\/n=64)(hw:(n=1/\nW=1)\/(n≠1/\nW=4))(h:M.count=n)(c:Frame)(cs:List Frame): ∃xs,aA Pg true 12 (pa M c cs) (fW M xs (c::cs) nW (0:Nat)):=by
 refine⟨ko (az Pg true 12 (pa M c cs)),?_⟩;obtain⟨p,f,m,fn,ca,cb⟩:=M;simp only at h;subst h;rcases (show (n=1/\nW=1)\/(n=4/\nW=4)\/(n=16/\nW=4)\/(n=64/\nW=4) by omega) with⟨rfl,rfl⟩|⟨rfl,rfl⟩|⟨rfl,rfl⟩|⟨rfl,rfl⟩<;>exact nB (λw=>by kernel_rfl) (by kernel_rfl)
def cV(v:World)(o:Obj):World:={v with heap:=v.heap.push o}
theorem eK(v:World)(o:Obj):(cV v o).heap.size=v.heap.size+1:=by simp[cV]
theorem fh(v:World)(o:Obj)(b:Nat):(cV v o).heap[b]?=if b=v.heap.size then some o else v.heap[b]? :=by
 show (v.heap.push o)[b]?=_;rw[Array.getElem?_push]
theorem Br(v:World)(x y:Value)(τ:TypeId)(hb:b=v.heap.size):(cV v (.cells #[x] τ)).setCell ⟨b,0,none⟩ y=cV v (.cells #[y] τ):=by
 subst hb;unfold cV World.setCell;simp only[World.mk.injEq,Ri];apply QX
 ·simp
 ·intro i h1 h2;have h3:i<v.heap.size+1:=by simpa using h2
  simp only[Array.getElem_modify,Array.getElem_push];by_cases hi:v.heap.size=i
  ·subst hi;simp
  ·simp[hi,show i<v.heap.size by omega]
section
variable {L:au}{T:aO}{Goal:Frame->List Frame->World->Prop}{X:PC L}
def AV(X:PC L):lX where
 ro b:=b<X.E.v0.heap.size/\¬X.Sh b
 ow k b:=k=0/\(b=X.M.bT\/b=X.M.bN\/b=X.M.bB)
 qu b:=b=X.M.wg\/b=X.M.cN\/b=X.M.cB
def fy(X:PC L)(B:Nat)(t:Trace):Prop:=TP (AV X) X.Sh (λk=>k=0) (λ_=>False) B t/\Deaf t 0=0/\NoRelease (bf X) t
def Ok0(X:PC L)(B:Nat)(e:Event):Prop:=∃b,(b=X.M.bN\/b=X.M.bB)/\b<B/\e=⟨.cell ⟨b,0,none⟩,true,false⟩
theorem KQ(O:aH T Goal X):td (AV X):=by
 have b1:=O.bT;have b2:=O.cN;have b3:=O.bN;have b4:=O.cB;have b5:=O.bB;have b6:=O.wg;refine⟨λk k' b h h'=>h.1.trans h'.1.symm,λk b h h'=>?_,λk b h h'=>?_,λb h h'=>?_⟩
 ·have:=h'.1;rcases h.2 with h|h|h<;>omega
 ·rcases h.2 with h|h|h<;>rcases h' with h'|h'|h'<;>omega
 ·have:=h.1;rcases h' with h'|h'|h'<;>omega
theorem FH(O:aH T Goal X)(c0:Nat):Kept (fy X) (Ok0 X) c0:=by
 refine⟨λB B' t fn pos es h hB hes=>⟨?_,?_,?_⟩,λB i t fn pos es hi h hm=>⟨?_,?_,?_⟩,λB t fn pos l hc h hl=>⟨?_,?_,?_⟩⟩
 ·refine (h.1.grow hB (λk b x=>.inl x) (λb x=>.inl x) (λb x=>.inl x) (λb x=>x)).app (KQ O) rfl (.inl rfl) (λop hop=>ofEvents_g hop) (λop hop a ha=>?_) (λop hop=>?_)
  ·obtain⟨e,he,rfl⟩:=Go.Conc.mem_ofEvents hop;obtain⟨b,hb,hbB,rfl⟩:=hes e he;simp only[MemAct.ofEvent,MemAct.touch?,QA]at ha;subst ha;refine⟨rfl,λb' hb'=>?_⟩;simp only[blk,QA]at hb';subst hb';exact .inl ⟨⟨rfl,.inr hb⟩,rfl⟩
  ·obtain⟨e,he,rfl⟩:=Go.Conc.mem_ofEvents hop;obtain⟨b,hb,hbB,rfl⟩:=hes e he;exact kY hbB _ _
 ·rw[Deaf_own,deafBehind_still (λe he=>by obtain⟨b,hb,hbB,rfl⟩:=hes e he;exact⟨by simp,by simp⟩)];exact h.2.1
 ·refine h.2.2.app λop hop=>?_;obtain⟨e,he,rfl⟩:=Go.Conc.mem_ofEvents hop;obtain⟨b,hb,hbB,rfl⟩:=hes e he;simp[MemAct.ofEvent]
 ·exact h.1.mute (k:=i) (λop hop=>ofEvents_g hop) (λop hop=>by obtain⟨e,he,rfl⟩:=Go.Conc.mem_ofEvents hop;exact touch_mute (hm e he)) (λop hop=>by obtain⟨e,he,rfl⟩:=Go.Conc.mem_ofEvents hop;exact low_mute (hm e he) B)
 ·rw[Deaf_other t (g':=i) (by omega) _ λop hop=>ofEvents_g hop];exact h.2.1
 ·refine h.2.2.app λop hop=>?_;obtain⟨e,he,rfl⟩:=Go.Conc.mem_ofEvents hop
  have:=hm e he;obtain⟨loc,wr,sy⟩:=e;intro hx;cases loc with
  |mark m=>simp only[MemAct.ofEvent,MemAct.mark.injEq]at hx;subst hx;simp[Event.mute]at this
  |_=>simp[Event.mute]at this
 ·refine h.1.still _ (λop hop=>?_) (λop hop=>?_)
  ·simp only[Rj]at hop;obtain⟨a,ha,rfl⟩:=hop;rcases hl a ha with⟨r,cap,rfl⟩|⟨r,rfl⟩|rfl<;>rfl
  ·simp only[Rj]at hop;obtain⟨a,ha,rfl⟩:=hop;rcases hl a ha with⟨r,cap,rfl⟩|⟨r,rfl⟩|rfl<;>exact hc
 ·rw[kN t 0 _ λop hop=>?_];exact h.2.1;simp only[Rj]at hop;obtain⟨a,ha,rfl⟩:=hop;rcases hl a ha with⟨r,cap,rfl⟩|⟨r,rfl⟩|rfl<;>exact⟨by simp,by simp⟩
 ·refine h.2.2.app λop hop=>?_;simp only[RA,Rj]at hop;obtain⟨a,ha,rfl⟩:=hop;rcases hl a ha with⟨r,cap,rfl⟩|⟨r,rfl⟩|rfl<;>simp
def v8(X:PC L):World:=cV (cV (cV (cV (cV (cV X.E.v0 (.cells #[X.M.fB] 98)) (.chan X.E.n #[] false 0 0 false)) (.cells #[.chan (some X.M.cN)] 197)) (.chan X.E.n #[] false 0 0 false)) (.cells #[.chan (some X.M.cB)] 198)) (.cells #[.int .u64 0,.int .u32 0] 206)
theorem JD(O:aH T Goal X):aS (fy X) X.n0 (m0 X.M X.c X.cs) X.E.v0 (pa X.M X.c X.cs) (v8 X):=by
 have b1:=O.bT;have b2:=O.cN;have b3:=O.bN;have b4:=O.cB;have b5:=O.bB;have b6:=O.wg;have K:=FH O 0;have hn:=O.n0;let V1:=cV X.E.v0 (.cells #[X.M.fB] 98)
 let V2:=cV V1 (.chan X.E.n #[] false 0 0 false)
 let V3:=cV V2 (.cells #[.chan none] 197)
 let V4:=cV V2 (.cells #[.chan (some X.M.cN)] 197)
 let V5:=cV V4 (.chan X.E.n #[] false 0 0 false)
 let V6:=cV V5 (.cells #[.chan none] 198)
 let V7:=cV V5 (.cells #[.chan (some X.M.cB)] 198)
 let V8:=cV V7 (.cells #[.int .u64 0,.int .u32 0] 206)
 have z1:V1.heap.size=X.E.v0.heap.size+1:=eK _ _;have z2:V2.heap.size=X.E.v0.heap.size+2:=by rw[eK,z1]
 have z3:V3.heap.size=X.E.v0.heap.size+3:=by rw[eK,z2]
 have z4:V4.heap.size=X.E.v0.heap.size+3:=by rw[eK,z2]
 have z5:V5.heap.size=X.E.v0.heap.size+4:=by rw[eK,z4]
 have z6:V6.heap.size=X.E.v0.heap.size+5:=by rw[eK,z5]
 have z7:V7.heap.size=X.E.v0.heap.size+5:=by rw[eK,z5]
 have z8:V8.heap.size=X.E.v0.heap.size+6:=by rw[eK,z7]
 have hnil:∀B,∀e∈(#[]:Array Event),Ok0 X B e:=λB e he=>by simp at he
 have s1:aS (fy X) X.n0 (m0 X.M X.c X.cs) X.E.v0 (kg X.M X.c X.cs) X.E.v0:=.aN K hn (CY X.M X.c X.cs).aN;have s2:aS (fy X) X.n0 (kg X.M X.c X.cs) X.E.v0 (fin (kg X.M X.c X.cs) (ptr X.M.bT)) V1:=.op K hn (ES _ _ _) (Hg X.M X.c X.cs X.M.bT) (es:=#[]) (λd=>⟨b1,rfl,rfl⟩) (by omega) (dB _) (hnil _);have s3:aS (fy X) X.n0 (fin (kg X.M X.c X.cs) (ptr X.M.bT)) V1 (oG X.M X.c X.cs) V1:=.aN K hn (PD X.M X.c X.cs).aN;have s4:aS (fy X) X.n0 (oG X.M X.c X.cs) V1 (nP X.M X.c X.cs) V2:=.op K hn (En _ _ _) (Mf X.M O.nn O.count X.c X.cs X.M.cN) (es:=#[]) (λd=>⟨by show X.M.cN=V1.heap.size;omega,rfl,rfl⟩) (by omega) (dB _) (hnil _);have s5:aS (fy X) X.n0 (nP X.M X.c X.cs) V2 (jd X.M X.c X.cs) V3:=.op K hn (M1 _ _ _) (Kt X.M X.c X.cs X.M.bN) (es:=#[]) (λd=>⟨by show X.M.bN=V2.heap.size;omega,rfl,rfl⟩) (by omega) (dB _) (hnil _);have g3:V3.heap[X.M.bN]?=some (.cells #[.chan none] 197):=by rw[fh,IN (by omega)]
 have s6:aS (fy X) X.n0 (jd X.M X.c X.cs) V3 (fin (jd X.M X.c X.cs) undef) V4:=by
  refine .skip K hn (JZ _ _ _) (Cl X.M X.c X.cs) (es:=#[⟨.cell ⟨X.M.bN,0,none⟩,true,false⟩]) (es':=#[⟨.cell ⟨X.M.bN,0,none⟩,true,false⟩]) (λd=>⟨by simp,by simp,⟨.chan none,by simp[World.cell?,World.at,g3]⟩,by simp[World.frozen?,World.at,g3],?_,rfl⟩) (by omega) (by rw[GI];exact rR _) (λe he=>?_)
  ·rw[show (V3.at d).setCell ⟨X.M.bN,0,none⟩ (.chan (some X.M.cN))=(V3.setCell ⟨X.M.bN,0,none⟩ (.chan (some X.M.cN))).at d from rfl,Br V2 _ _ _ (by omega)]
  ·simp at he;exact⟨X.M.bN,.inl rfl,by omega,he⟩
 have s7:aS (fy X) X.n0 (fin (jd X.M X.c X.cs) undef) V4 (oH X.M X.c X.cs) V4:=.aN K hn (D8 X.M X.c X.cs).aN;have s8:aS (fy X) X.n0 (oH X.M X.c X.cs) V4 (oL X.M X.c X.cs) V5:=.op K hn (Dc _ _ _) (Ie X.M O.nn O.count X.c X.cs X.M.cB) (es:=#[]) (λd=>⟨by show X.M.cB=V4.heap.size;omega,rfl,rfl⟩) (by omega) (dB _) (hnil _);have s9:aS (fy X) X.n0 (oL X.M X.c X.cs) V5 (jJ X.M X.c X.cs) V6:=.op K hn (C0 _ _ _) (G9 X.M X.c X.cs X.M.bB) (es:=#[]) (λd=>⟨by show X.M.bB=V5.heap.size;omega,rfl,rfl⟩) (by omega) (dB _) (hnil _);have g6:V6.heap[X.M.bB]?=some (.cells #[.chan none] 198):=by rw[fh,IN (by omega)]
 have s10:aS (fy X) X.n0 (jJ X.M X.c X.cs) V6 (fin (jJ X.M X.c X.cs) undef) V7:=by
  refine .skip K hn (Mi _ _ _) (DN X.M X.c X.cs) (es:=#[⟨.cell ⟨X.M.bB,0,none⟩,true,false⟩]) (es':=#[⟨.cell ⟨X.M.bB,0,none⟩,true,false⟩]) (λd=>⟨by simp,by simp,⟨.chan none,by simp[World.cell?,World.at,g6]⟩,by simp[World.frozen?,World.at,g6],?_,rfl⟩) (by omega) (by rw[O6];exact rR _) (λe he=>?_)
  ·rw[show (V6.at d).setCell ⟨X.M.bB,0,none⟩ (.chan (some X.M.cB))=(V6.setCell ⟨X.M.bB,0,none⟩ (.chan (some X.M.cB))).at d from rfl,Br V5 _ _ _ (by omega)]
  ·simp at he;exact⟨X.M.bB,.inr rfl,by omega,he⟩
 have s11:aS (fy X) X.n0 (fin (jJ X.M X.c X.cs) undef) V7 (oC X.M X.c X.cs) V7:=.aN K hn (Ny X.M X.c X.cs).aN;have s12:aS (fy X) X.n0 (oC X.M X.c X.cs) V7 (pa X.M X.c X.cs) V8:=.op K hn (PB _ _ _) (Gw X.M X.c X.cs X.M.wg) (es:=#[]) (λd=>⟨by show X.M.wg=V7.heap.size;omega,rfl,rfl⟩) (by omega) (dB _) (hnil _);exact s1.trans (s2.trans (s3.trans (s4.trans (s5.trans (s6.trans (s7.trans (s8.trans (s9.trans (s10.trans (s11.trans s12))))))))))
theorem IV(O:aH T Goal X){u:World}(H:nI (fy X) X.n0 (pa X.M X.c X.cs) (v8 X) gs u t q): ∃s,PI T Goal X s gs u t:=by
 have b1:=O.bT;have b2:=O.cN;have b3:=O.bN;have b4:=O.cB;have b5:=O.bB;have b6:=O.wg;have hnW:=O.nW;obtain⟨xs,hg⟩:=Hy X.M O.nn O.nw O.count X.c X.cs;obtain⟨d,rfl⟩:=H.world;let s:PS:={mt:=.cW 0 34 xs,j:=0,ws:=λ_=>.quit 0,ow:=λ_ _=>False,q:=q,bD:=[],rN:=0,bZ:=[],st:=0,sm:=0}
 have hz:(v8 X).heap.size=X.E.v0.heap.size+6:=by unfold v8;simp only[eK]
 have hlt:∀b,b<X.E.v0.heap.size->(v8 X).heap[b]?=X.E.v0.heap[b]? :=λb hb=>by
  unfold v8;simp only[fh,eK];rw[By (by omega),By (by omega),By (by omega),By (by omega),By (by omega),By (by omega)]
 refine⟨s,⟨H.size,⟨_,H.main,hg.trans (xo O xs (by omega)),by omega⟩,λk hk=>absurd hk (Rh _),λi g hi _ hgi=>H.fq.old i g hi hgi,H.fq.above⟩,⟨⟨by show _<=(v8 X).heap.size;omega,λb hb=>hlt b hb⟩,by show _<(v8 X).heap.size;omega,?_,?_,?_,?_,⟨0,?_⟩,?_,rfl,rfl,rfl⟩,?_,?_,?_⟩
 ·show (v8 X).heap[_]?=_;unfold v8;simp only[fh,eK];rw[By (by omega),By (by omega),By (by omega),By (by omega),By (by omega),IN (by omega)]
 ·show (v8 X).heap[_]?=_;unfold v8;simp only[fh,eK];rw[By (by omega),By (by omega),By (by omega),IN (by omega)]
 ·show (v8 X).heap[_]?=_;unfold v8;simp only[fh,eK];rw[By (by omega),IN (by omega)]
 ·show (v8 X).heap[_]?=_;unfold v8;simp only[fh,eK];rw[By (by omega),By (by omega),By (by omega),By (by omega),IN (by omega)];rfl
 ·show (v8 X).heap[_]?=_;unfold v8;simp only[fh,eK];rw[By (by omega),By (by omega),IN (by omega)];rfl
 ·show (v8 X).heap[_]?=_;unfold v8;simp only[fh,eK];rw[IN (by omega)];rfl
 ·exact⟨rfl,QQ _,rfl,λi hi=>absurd hi (Rh _),AI _,λi hi=>(by cases hi),λi hi=>(by cases hi),λk hk=>absurd hk (Rh _),λk hk=>absurd hk (Rh _)⟩
 ·exact .opn rfl (λk hk=>absurd hk (Rh _)) (by show 0=(sumTo 0 _+0)*aV;simp[sumTo]) rfl (λ_ _ _ _ h=>by cases h)
 ·refine⟨?_,λi b hi=>absurd hi (Rh _),λi i' b hi=>absurd hi (Rh _),λk hk=>absurd hk (Rh _),H.trace.2.2,H.trace.2.1,λ_ _ h=>by cases h⟩;have l1:(λk=>k=0\/ec X s k)=(λk=>k=0):=by
   funext k;apply propext;show (k=0\/(X.n0<=k/\k<X.n0+0))↔k=0;omega
  have l2:ec X s=(λ_=>False):=by
   funext k;apply propext;exact⟨λh=>by have h1:X.n0<=k:=h.1;have h2:k<X.n0+0:=h.2;omega,False.elim⟩
  rw[l1,l2];refine H.trace.1.share (λk hk=>hk) (λk b hb=>?_) (λb hb=>?_) (λb=>Iff.rfl)
  ·obtain⟨i,hi,_⟩:=hb;exact absurd hi (Rh _)
  ·rcases hb with hb|hb
   ·exact .inl hb
   ·exact .inr ⟨rfl,hb⟩
end
end
section
open Go.Conc
open Go.ConcN (upd upd_same upd_ne sumTo sumTo_upd sumTo_congr sumTo_le le_sumTo RelBy)
set_option maxRecDepth 100000
theorem Mb(M:Mn){n:Nat}(hn:n=1\/n=4\/n=16\/n=64)(h:M.count=n)(xs:Nat->Value)(cs:List Frame)(j:Int)(r:Nat):feed Pg (aQ (kj M xs cs j)) [.ref r]=some ([.nw (.cells (Array.replicate n (.int .u64 0)) 55)],.inl (.value (gT r n))):=by
 obtain⟨p,f,m,fn,ca,cb⟩:=M;simp only at h;subst h;rcases hn with rfl|rfl|rfl|rfl<;>kernel_rfl
theorem ze(M:Mn)(xs:Nat->Value)(cs:List Frame)(d n:Nat):dX (eJ M xs cs d n) (eJ M xs cs d n).frame=eJ M xs cs d n:=by kernel_rfl
theorem Mk(f:Int)(hi:i<64):IntKind.i64.wrap (IntKind.i64.wrap (f+i)-f)=i:=by
 simp only[IntKind.wrap,IntKind.bits,IntKind.signed];simp;omega
theorem Dm(v:World)(x y x' y':Value)(τ:TypeId):((cV v (.cells #[x,y] τ)).setCell ⟨v.heap.size,0,none⟩ x').setCell ⟨v.heap.size,1,none⟩ y'=cV v (.cells #[x',y'] τ):=by
 unfold cV World.setCell;simp only[World.mk.injEq,Ri];apply QX
 ·simp
 ·intro i h1 h2;have h3:i<v.heap.size+1:=by simpa using h2
  simp only[Array.getElem_modify,Array.getElem_push];by_cases hi:v.heap.size=i
  ·subst hi;simp
  ·simp[hi,show i<v.heap.size by omega]
section
variable {L:au}{T:aO}{Goal:Frame->List Frame->World->Prop}{X:PC L}
def lj(X:PC L)(b:Nat):Prop:=X.Sh b\/(b=X.M.wg\/b=X.M.cN\/b=X.M.cB)
def di(X:PC L)(B:Nat)(t:Trace):Prop:=Past (gU (lj X)) B t
def BZ(X:PC L)(B:Nat)(e:Event):Prop:=EvL (gU (lj X)) B e
theorem yD(X:PC L)(c0:Nat):Kept (di X) (BZ X) c0:=by
 refine⟨λB B' t fn pos es h hB hes=>(Past.mono h hB).own hes,λB i t fn pos es hi h hm=>Past.mute h (by omega) hm,λB t fn pos l hc h hl=>?_⟩;refine Past.app0 h (λop hop=>?_) (λop hop b hb=>?_) ?_ (λop hop=>?_)
 ·simp only[RA,Rj]at hop;obtain⟨a,ha,rfl⟩:=hop;rfl
 ·simp only[RA,Rj]at hop;obtain⟨a,ha,rfl⟩:=hop;rcases hl a ha with⟨r,cap,rfl⟩|⟨r,rfl⟩|rfl<;>cases hb
 ·refine kN t 0 _ λop hop=>?_;simp only[Rj]at hop;obtain⟨a,ha,rfl⟩:=hop;rcases hl a ha with⟨r,cap,rfl⟩|⟨r,rfl⟩|rfl<;>exact⟨by simp,by simp⟩
 ·simp only[RA,Rj]at hop;obtain⟨a,ha,rfl⟩:=hop;rcases hl a ha with⟨r,cap,rfl⟩|⟨r,rfl⟩|rfl<;>exact hc
theorem mo(X:PC L){B o:Nat}(wr:Bool)(hb: ¬lj X b)(hB:b<B):BZ X B ⟨.cell ⟨b,o,none⟩,wr,false⟩:=evL_cell _ wr hb hB
structure nO(X:PC L)(rest:List Nat)(done:Nat->Prop)(d:Nat)(v:World):Prop where
 old:pe X.E v
 cB: ∃sB rB,v.heap[X.M.cB]?=some (.chan X.E.n (rest.map X.eP).toArray true sB rB false)
 low:X.M.wg<d/\d<v.heap.size
 row: ∃C:Array Value,v.heap[d]?=some (.cells C 55)/\C.size=X.E.n/\∀i,done i->C[i]?=some (.int .u64 (X.a i))
 tape:v.tape=X.E.v0.tape
 os:v.os=X.E.v0.os
 output:v.output=X.E.v0.output
theorem JG(O:aH T Goal X)(hN:0<N)(hi:i<X.E.n){rest:List Nat}{done:Nat->Prop}(xs:Nat->Value)(G:nO X (i::rest) done d v):
  ∃v' xs',aS (di X) N (eJ X.M xs X.ds d X.E.n) v (eJ X.M xs' X.ds d X.E.n) v'/\nO X rest (λk=>done k\/k=i) d v':=by
 have b1:=O.bT;have b2:=O.cN;have b3:=O.bN;have b4:=O.cB;have b5:=O.bB;have b6:=O.wg;have K:=yD X X.M.cB;have hn:=O.nn;obtain⟨sB,rB,hcB⟩:=G.cB;have hlow:=G.low;have hfresh:∀b,X.M.wg<b->¬lj X b:=λb hb h=>by
  rcases h with h|h|h|h
  ·have:=O.sh b h;omega
  all_goals omega
 let s:Int:=IntKind.i64.wrap (X.E.first+i)
 let W1:=v.setChan X.M.cB X.E.n (rest.map X.eP).toArray true sB (rB+1) false
 have hcl:X.M.cB<v.heap.size:=(Array.getElem?_eq_some_iff.1 hcB).1;obtain⟨c1,c2,c3,c4,c5,c6⟩:=oE v X.M.cB X.E.n (rest.map X.eP).toArray true sB (rB+1) false hcl;have c1':W1.heap.size=v.heap.size:=c1;have e0:∀dd,stepG Pg true (eJ X.M xs X.ds d X.E.n) (v.at dd)=.comm (eJ X.M xs X.ds d X.E.n) #[rcase X.M.cB zF] true (.recv true) (v.at dd) #[]:=λdd=>by
  have hc:=aE.comm (qi X.M xs X.ds d X.E.n) (yL X.M xs X.ds d X.E.n) (w:=v.at dd) (w':=v.at dd) (es:=#[]) ⟨rfl,rfl⟩;rw[dB,ze]at hc;exact hc
 have s0:aS (di X) N (eJ X.M xs X.ds d X.E.n) v (qQ X.M xs X.ds d X.E.n s (X.a i)) W1:=aS.recv K hN (qi X.M xs X.ds d X.E.n).2.1 e0 (x:=X.eP i) (l:=rest.map X.eP) hcB;have s1:aS (di X) N (qQ X.M xs X.ds d X.E.n s (X.a i)) W1 (oA X.M xs X.ds d X.E.n s (X.a i)) W1:=.aN K hN (Nt X.M xs X.ds d X.E.n s (X.a i)).aN;let r:=W1.heap.size
 let W2:=cV W1 (.cells #[.int .i64 0,.int .u64 0] 209)
 let W3:=cV W1 (.cells #[.int .i64 s,.int .u64 (X.a i)] 209)
 have z2:W2.heap.size=W1.heap.size+1:=eK _ _;have z3:W3.heap.size=W1.heap.size+1:=eK _ _;have hrr:X.M.wg<W1.heap.size:=by rw[c1];omega
 have s2:aS (di X) N (oA X.M xs X.ds d X.E.n s (X.a i)) W1 (ju X.M xs X.ds d X.E.n s (X.a i) r) W2:=.op K hN (FN X.M xs X.ds d X.E.n s (X.a i)) (Ed X.M xs X.ds d X.E.n s (X.a i) r) (es:=#[]) (λdd=>⟨rfl,rfl,rfl⟩) (by omega) (dB _) (λe he=>by simp at he);have g2:W2.heap[r]?=some (.cells #[.int .i64 0,.int .u64 0] 209):=by rw[fh,IN rfl]
 have g3:W3.heap[r]?=some (.cells #[.int .i64 s,.int .u64 (X.a i)] 209):=by rw[fh,IN rfl]
 have hset:=Dm W1 (.int .i64 0) (.int .u64 0) (.int .i64 s) (.int .u64 (X.a i)) 209;have s3:aS (di X) N (ju X.M xs X.ds d X.E.n s (X.a i) r) W2 (fin (ju X.M xs X.ds d X.E.n s (X.a i) r) undef) W3:=by
  refine .skip K hN (I9 X.M xs X.ds d X.E.n s (X.a i) r) (OV X.M xs X.ds d X.E.n s (X.a i) r) (es:=#[⟨.cell ⟨r,0,none⟩,true,false⟩,⟨.cell ⟨r,1,none⟩,true,false⟩]) (es':=#[⟨.cell ⟨r,0,none⟩,true,false⟩,⟨.cell ⟨r,1,none⟩,true,false⟩]) (λdd=>⟨by simp,by simp,⟨.int .i64 0,by simp[World.cell?,World.at,g2]⟩,by simp[World.frozen?,World.at,g2],by simp,by simp,⟨.int .u64 0,?_⟩,?_,?_,rfl⟩) (by omega) (by rw[J5];exact Qr _ _) (λe he=>?_)
  ·simp[World.cell?,World.setCell,World.at,Array.getElem?_modify,g2]
  ·simp[World.frozen?,World.setCell,World.at,Array.getElem?_modify,g2]
  ·show W3.at dd=((W2.setCell ⟨r,0,none⟩ (.int .i64 s)).setCell ⟨r,1,none⟩ (.int .u64 (X.a i))).at dd;rw[hset]
  ·simp at he;rcases he with rfl|rfl<;>exact mo X true (hfresh _ hrr) (by omega)
 have s4:aS (di X) N (fin (ju X.M xs X.ds d X.E.n s (X.a i) r) undef) W3 (jv X.M xs X.ds d X.E.n s (X.a i) r) W3:=.aN K hN (JR X.M xs X.ds d X.E.n s (X.a i) r).aN;have s5:aS (di X) N (jv X.M xs X.ds d X.E.n s (X.a i) r) W3 (fin (jv X.M xs X.ds d X.E.n s (X.a i) r) (.int .i64 s)) W3:=by
  refine .op K hN (NA X.M xs X.ds d X.E.n s (X.a i) r) (K0 X.M xs X.ds d X.E.n s (X.a i) r (.int .i64 s)) (es:=#[⟨.cell ⟨r,0,none⟩,false,false⟩]) (es':=#[⟨.cell ⟨r,0,none⟩,false,false⟩]) (λdd=>⟨by simp[World.cell?,World.at,g3],rfl,rfl⟩) (AI _) (by rw[Pm];exact yQ _) (λe he=>?_);simp at he;subst he;exact mo X false (hfresh _ hrr) (by omega)
 have s6:aS (di X) N (fin (jv X.M xs X.ds d X.E.n s (X.a i) r) (.int .i64 s)) W3 (mi X.M xs X.ds d X.E.n s (X.a i) r) W3:=.aN K hN (O7 X.M xs X.ds d X.E.n s (X.a i) r).aN;have s7:aS (di X) N (mi X.M xs X.ds d X.E.n s (X.a i) r) W3 (mP X.M xs X.ds d X.E.n s (X.a i) r) W3:=by
  refine .op K hN (Jf X.M xs X.ds d X.E.n s (X.a i) r) (GG X.M xs X.ds d X.E.n s (X.a i) r (.int .u64 (X.a i))) (es:=#[⟨.cell ⟨r,1,none⟩,false,false⟩]) (es':=#[⟨.cell ⟨r,1,none⟩,false,false⟩]) (λdd=>⟨by simp[World.cell?,World.at,g3],rfl,rfl⟩) (AI _) (by rw[NX];exact yQ _) (λe he=>?_);simp at he;subst he;exact mo X false (hfresh _ hrr) (by omega)
 have hix:feed Pg (aQ (mP X.M xs X.ds d X.E.n s (X.a i) r)) []=some ([],.inl (.value (.pointer (some ⟨d,i,none⟩)))):=by
  rw[JF,O.first,Mk X.E.first (by omega)];exact Al Pg (.inr rfl) hi
 have s8:aS (di X) N (mP X.M xs X.ds d X.E.n s (X.a i) r) W3 (jk X.M xs X.ds d X.E.n s (X.a i) r i) W3:=.op K hN (HJ X.M xs X.ds d X.E.n s (X.a i) r) hix (es:=#[]) (λdd=>⟨rfl,rfl⟩) (AI _) (dB _) (λe he=>by simp at he);obtain⟨C,hC,hCs,hCd⟩:=G.row;have h3d:W3.heap[d]?=some (.cells C 55):=by
  rw[fh,By (by rw[c1];omega),c3 d (by omega)];exact hC
 let W4:=W3.setCell ⟨d,i,none⟩ (.int .u64 (X.a i))
 have z4:W4.heap.size=W3.heap.size:=(iP W3 d i _).1;have s9:aS (di X) N (jk X.M xs X.ds d X.E.n s (X.a i) r i) W3 (fin (jk X.M xs X.ds d X.E.n s (X.a i) r i) undef) W4:=by
  refine .skip K hN (Fc X.M xs X.ds d X.E.n s (X.a i) r i) (He X.M xs X.ds d X.E.n s (X.a i) r i) (es:=#[⟨.cell ⟨d,i,none⟩,true,false⟩]) (es':=#[⟨.cell ⟨d,i,none⟩,true,false⟩]) (λdd=>⟨by simp,by simp,⟨C[i]'(by omega),?_⟩,by simp[World.frozen?,World.at,h3d],rfl,rfl⟩) (by omega) (by rw[I8];exact rR _) (λe he=>?_)
  ·simp[World.cell?,World.at,h3d,hCs,hi]
  ·simp at he;subst he;exact mo X true (hfresh _ hlow.1) (by omega)
 have s10:=aS.aN (Θ:=di X) (n:=N) (v:=W4) K hN (EP X.M xs X.ds d X.E.n s (X.a i) r i).aN;rw[LA]at s10;refine⟨W4,_,s0.trans (s1.trans (s2.trans (s3.trans (s4.trans (s5.trans (s6.trans (s7.trans (s8.trans (s9.trans s10))))))))),?_⟩;have hoth:∀b,b≠d->b<v.heap.size->b≠X.M.cB->W4.heap[b]?=v.heap[b]? :=λb h1 h2 h3=>by
  rw[(iP W3 d i _).2 b h1,fh,By (by rw[c1];omega),c3 b h3]
 refine⟨⟨?_,λb hb=>?_⟩,⟨sB,rB+1,?_⟩,⟨hlow.1,by omega⟩,⟨C.setIfInBounds i (.int .u64 (X.a i)),?_,by simp[hCs],λk hk=>?_⟩,G.tape,G.os,G.output⟩
 ·have:=G.old.1;omega
 ·have:=G.old.1;rw[hoth b (by omega) (by omega) (by omega)];exact G.old.2 b hb
 ·rw[(iP W3 d i _).2 _ (by omega),fh,By (by rw[c1];omega)];exact c2
 ·show (W3.setCell ⟨d,i,none⟩ (.int .u64 (X.a i))).heap[d]?=_;simp[World.setCell,Array.getElem?_modify,h3d]
 ·by_cases hki:k=i
  ·subst hki;rw[Array.getElem?_setIfInBounds_self_of_lt (by omega)]
  ·rw[Array.getElem?_setIfInBounds_ne (QK hki)];exact hCd k (hk.resolve_right hki)
theorem yd(O:aH T Goal X)(hN:0<N):∀(rest:List Nat) (done:Nat->Prop) (v:World) (xs:Nat->Value),(∀i∈rest,i<X.E.n)->nO X rest done d v->
  ∃v' xs',aS (di X) N (eJ X.M xs X.ds d X.E.n) v (eJ X.M xs' X.ds d X.E.n) v'/\nO X [] (λk=>done k\/k∈rest) d v'
 |[],done,v,xs,_,G=>⟨v,xs,.refl _ _,⟨G.old,G.cB,G.low,by obtain⟨C,h1,h2,h3⟩:=G.row;exact⟨C,h1,h2,λi hi=>h3 i (by simpa using hi)⟩,G.tape,G.os,G.output⟩⟩
 |i::rest,done,v,xs,hr,G=>by
  obtain⟨v1,xs1,t1,G1⟩:=JG O hN (hr i (by simp)) xs G;obtain⟨v2,xs2,t2,G2⟩:=yd O hN rest _ v1 xs1 (λk hk=>hr k (by simp[hk])) G1;refine⟨v2,xs2,t1.trans t2,⟨G2.old,G2.cB,G2.low,?_,G2.tape,G2.os,G2.output⟩⟩;obtain⟨C,h1,h2,h3⟩:=G2.row;refine⟨C,h1,h2,λk hk=>h3 k ?_⟩;rcases hk with hk|hk
  ·exact .inl (.inl hk)
  ·rcases RP.1 hk with hk|hk
   ·exact .inl (.inr hk)
   ·exact .inr hk
end
end
section
open Go.Conc
open Go.ConcN (upd upd_same upd_ne sumTo sumTo_upd sumTo_congr sumTo_le le_sumTo RelBy)
set_option maxRecDepth 100000
section
variable {L:au}{T:aO}{Goal:Frame->List Frame->World->Prop}{X:PC L}
structure BD(X:PC L)(d:Nat)(gs:Array Goroutine)(v:World)(t:Trace)(q:Nat->Nat):Prop where
 main:gs[0]?=some {frame:=X.c.finish (gT d X.E.n),callers:=X.cs,status:=.running,dying:=none}
 fq:Leavers Pg t gs q
 jQ:Past (gU (lj X)) v.heap.size t
 old:pe X.E v
 low:X.M.wg<d/\d<v.heap.size
 row: ∃C:Array Value,v.heap[d]?=some (.cells C 55)/\C.size=X.E.n/\∀i,i<X.E.n->C[i]?=some (.int .u64 (X.a i))
 tape:v.tape=X.E.v0.tape
 os:v.os=X.E.v0.os
 output:v.output=X.E.v0.output
theorem yu{σ:Wk}(h:σ.ag=0):σ=.quit σ.idle:=by
 cases σ<;>simp[Wk.ag]at h;rfl
theorem Gp(O:aH T Goal X)(H:PI T Goal X s gs v t){n:Nat}(hmt:s.mt=.fin n xs):
  ∃h q,nI (di X) gs.size h v gs v t q/\aA Pg true n h (j7 X.M xs X.ds X.E.n)/\(∀i,i<X.E.n->i∈s.bZ)/\0<gs.size:=by
 have hn0:=O.n0;have hnW:=O.nW;obtain⟨a1,a2,a3⟩:=j2 H.wg (by rw[hmt];rfl) (by rw[hmt];rfl);obtain⟨h,h0,hM⟩:=H.gs.main;rw[hmt]at hM;have hj:s.j=X.nW:=by rw[H.ac.on,hmt];rfl
 have hsz:=H.gs.size;let q:Nat->Nat:=λi=>if i<X.n0 then s.q i else (s.ws (i-X.n0)).idle
 refine⟨h,q,⟨h0,⟨v.drawn,rfl⟩,⟨λi g hi hg=>?_,λi hi=>H.gs.above i hi⟩,?_,rfl⟩,hM,λi hi=>?_,by omega⟩
 ·rcases QO i X.n0 with hlt|hge
  ·show QuitsD Pg (if i<X.n0 then s.q i else _) _ g;rw[IN hlt];exact H.gs.gY i g hi hlt hg
  ·obtain⟨k,rfl⟩: ∃k,i=X.n0+k:=⟨i-X.n0,by omega⟩
   have hk:k<s.j:=by have:=(Array.getElem?_eq_some_iff.1 hg).1;omega
   obtain⟨g',hg',hW⟩:=H.gs.work k hk;rw[hg]at hg';cases hg';show QuitsD Pg (if X.n0+k<X.n0 then s.q (X.n0+k) else (s.ws (X.n0+k-X.n0)).idle) _ g;rw[By (by omega),show X.n0+k-X.n0=k by omega];rw[yu (a1 k hk)]at hW;exact hW
 ·obtain⟨p,h1,h2,h3,h4⟩:=H.tr.acq n xs hmt;have hd:Deaf t 0=0:=by rw[H.tr.d0,hmt];rfl
  have:=H.tr.tp.jQ (ad:=bf X) (q:=p) (λk hk=>?_) H.tr.norel h1 h2 h3 hd
  ·exact this
  ·obtain⟨k',rfl⟩: ∃k',k=X.n0+k':=⟨k-X.n0,by have:=hk.1;omega⟩
   exact h4 k' (by have:=hk.2;omega)
 ·have hg0:=H.ac.gone 0 (by omega) (by rw[a1 0 (by omega)];omega);rcases H.ac.cover i (by rw[hmt];exact hi) with hx|hx|⟨k,hk,hx⟩
  ·rw[hg0.2]at hx;cases hx
  ·exact hx
  ·rw[yu (a1 k hk)]at hx;cases hx
theorem Qs(O:aH T Goal X)(sl:Option (Nat×Nat))(H:PI T Goal X s gs v t){n:Nat}(hmt:s.mt=.fin n xs):
  ∃N d gs' v' sl' t' q',runNT Pg N (crowd gs v sl) t=(.next (crowd gs' v' sl'),t')/\BD X d gs' v' t' q':=by
 have b1:=O.bT;have b2:=O.cN;have b3:=O.bN;have b4:=O.cB;have b5:=O.bB;have b6:=O.wg;obtain⟨h,q,hA,hg,hall,hN⟩:=Gp O H hmt;have K:=yD X X.M.cB;have hsz:=H.wd.size;obtain⟨sB,hcB⟩:=H.wd.cB;have hnB: ¬lj X X.M.bB:=λh=>by
  rcases h with h|h|h|h
  ·have:=O.sh _ h;omega
  all_goals omega
 have s1:aS (di X) gs.size h v (j7 X.M xs X.ds X.E.n) v:=.aN K hN hg;have hbox:∀(w:World),w.heap[X.M.bB]?=v.heap[X.M.bB]? ->∀d,(w.at d).cell? ⟨X.M.bB,0,none⟩=some (.chan (some X.M.cB)):=λw hw d=>by
  have:(w.at d).heap[X.M.bB]?=v.heap[X.M.bB]? :=hw;simp[World.cell?,this,H.wd.bB]
 have s2:aS (di X) gs.size (j7 X.M xs X.ds X.E.n) v (jc X.M xs X.ds X.E.n) v:=by
  refine .op K hN (zk X.M xs X.ds X.E.n) (Qq X.M xs X.ds X.E.n (.chan (some X.M.cB))) (es:=#[⟨.cell ⟨X.M.bB,0,none⟩,false,false⟩]) (es':=#[⟨.cell ⟨X.M.bB,0,none⟩,false,false⟩]) (λd=>⟨hbox v rfl d,rfl,rfl⟩) (AI _) (by rw[Et];exact pq _) (λe he=>?_);simp at he;subst he;exact mo X false hnB (by omega)
 let W1:World:={v with heap:=v.heap.setIfInBounds X.M.cB (.chan X.E.n (s.bZ.map X.eP).toArray true sB 0 false)}
 have z1:W1.heap.size=v.heap.size:=by simp[W1]
 have o1:∀b,b≠X.M.cB->W1.heap[b]?=v.heap[b]? :=λb hb=>by simp[W1,Array.getElem?_setIfInBounds_ne (QK hb)]
 have g1:W1.heap[X.M.cB]?=some (.chan X.E.n (s.bZ.map X.eP).toArray true sB 0 false):=by
  have:X.M.cB<v.heap.size:=by omega
  simp[W1,this]
 have s3:aS (di X) gs.size (jc X.M xs X.ds X.E.n) v (fin (jc X.M xs X.ds X.E.n) unit) W1:=by
  refine .op K hN (Fp X.M xs X.ds X.E.n) (LG X.M xs X.ds X.E.n X.E.n (s.bZ.map X.eP).toArray sB 0 false) (es:=#[⟨.obj X.M.cB,false,true⟩,⟨.obj X.M.cB,true,true⟩]) (es':=#[⟨.obj X.M.cB,false,true⟩,⟨.obj X.M.cB,true,true⟩]) (λd=>⟨hcB,rfl,⟨_,hcB,rfl⟩,rfl,rfl⟩) (by omega) (by rw[Km];exact yE _) (λe he=>?_);simp at he;rcases he with rfl|rfl
  ·refine⟨λx hx _=>?_,by simp,by simp,show X.M.cB<_ by omega⟩;simp only[MemAct.ofEvent,MemAct.touch?,QA]at hx;subst hx;simp
  ·refine⟨λx hx _=>?_,by simp,by simp,show X.M.cB<_ by omega⟩;simp[MemAct.ofEvent,MemAct.touch?]at hx
 have s4:aS (di X) gs.size (fin (jc X.M xs X.ds X.E.n) unit) W1 (kj X.M xs X.ds X.E.n) W1:=.aN K hN (O8 X.M xs X.ds X.E.n).aN;let d:=W1.heap.size
 let W2:=cV W1 (.cells (Array.replicate X.E.n (.int .u64 0)) 55)
 have z2:W2.heap.size=W1.heap.size+1:=eK _ _;have s5:aS (di X) gs.size (kj X.M xs X.ds X.E.n) W1 (fin (kj X.M xs X.ds X.E.n) (gT d X.E.n)) W2:=.op K hN (Jm X.M xs X.ds X.E.n) (Mb X.M O.nn O.count xs X.ds X.E.n d) (es:=#[]) (λdd=>⟨rfl,rfl,rfl⟩) (by omega) (dB _) (λe he=>by simp at he);have s6:aS (di X) gs.size (fin (kj X.M xs X.ds X.E.n) (gT d X.E.n)) W2 (jG X.M xs X.ds X.E.n d X.E.n) W2:=.aN K hN (GL X.M xs X.ds X.E.n d X.E.n).aN;have o2:∀b,b<v.heap.size->b≠X.M.cB->W2.heap[b]?=v.heap[b]? :=λb hb hc=>by rw[fh,By (by omega),o1 b hc]
 have s7:aS (di X) gs.size (jG X.M xs X.ds X.E.n d X.E.n) W2 (fin (jG X.M xs X.ds X.E.n d X.E.n) (.chan (some X.M.cB))) W2:=by
  refine .op K hN (CS X.M xs X.ds X.E.n d X.E.n) (PQ X.M xs X.ds X.E.n d X.E.n (.chan (some X.M.cB))) (es:=#[⟨.cell ⟨X.M.bB,0,none⟩,false,false⟩]) (es':=#[⟨.cell ⟨X.M.bB,0,none⟩,false,false⟩]) (λdd=>⟨hbox W2 (o2 _ (by omega) (by omega)) dd,rfl,rfl⟩) (AI _) (by rw[E6];exact pq _) (λe he=>?_);simp at he;subst he;exact mo X false hnB (by omega)
 have s8:=aS.aN (Θ:=di X) (n:=gs.size) (v:=W2) K hN (OA X.M xs X.ds X.E.n d X.E.n).aN;rw[Lh]at s8;have G0:nO X s.bZ (λ_=>False) d W2:=by
  refine⟨⟨by have:=H.wd.old.1;omega,λb hb=>by have:=H.wd.old.1;rw[o2 b (by omega) (by omega)];exact H.wd.old.2 b hb⟩,⟨sB,0,?_⟩,⟨by show X.M.wg<W1.heap.size;omega,by show W1.heap.size<_;omega⟩,⟨Array.replicate X.E.n (.int .u64 0),by rw[fh,IN rfl],by simp,λi hi=>hi.elim⟩,H.wd.tape,H.wd.os,H.wd.output⟩;rw[fh,By (by omega)];exact g1
 obtain⟨v',xs',s9,G⟩:=yd O hN s.bZ _ W2 _ H.ac.okB G0;obtain⟨sB',rB',hcl⟩:=G.cB;have e0:∀dd,stepG Pg true (eJ X.M xs' X.ds d X.E.n) (v'.at dd)=.comm (eJ X.M xs' X.ds d X.E.n) #[rcase X.M.cB zF] true (.recv true) (v'.at dd) #[]:=λdd=>by
  have hc:=aE.comm (qi X.M xs' X.ds d X.E.n) (yL X.M xs' X.ds d X.E.n) (w:=v'.at dd) (w':=v'.at dd) (es:=#[]) ⟨rfl,rfl⟩;rw[dB,ze]at hc;exact hc
 have s10:aS (di X) gs.size (eJ X.M xs' X.ds d X.E.n) v' (mZ X.M xs' X.c X.cs d X.E.n) v':=aS.L8 K hN (qi X.M xs' X.ds d X.E.n).2.1 e0 hcl;have s11:=aS.aN (Θ:=di X) (n:=gs.size) (v:=v') K hN (JI X.M xs' X.c X.cs d X.E.n).aN;rw[Lb]at s11;have all:=s1.trans (s2.trans (s3.trans (s4.trans (s5.trans (s6.trans (s7.trans (s8.trans (s9.trans (s10.trans s11)))))))));obtain⟨N,gs',u',sl',t',q',hr,hA'⟩:=all gs v sl t q hA;obtain⟨dd,rfl⟩:=hA'.world;obtain⟨C,r1,r2,r3⟩:=G.row;exact⟨N,d,gs',v'.at dd,sl',t',q',hr,hA'.main,hA'.fq,hA'.trace,G.old,G.low,⟨C,r1,r2,λi hi=>r3 i (.inr (hall i hi))⟩,G.tape,G.os,G.output⟩
theorem Ms(O:aH T Goal X)(sl:Option (Nat×Nat))(h0:gs[0]?=some (m0 X.M X.c X.cs))(hL:Leavers Pg t gs q)(hP:Past (gU X.Sh) X.E.v0.heap.size t)(hsz:gs.size=X.n0):
  ∃N d gs' v' sl' t' q',runNT Pg N (crowd gs X.E.v0 sl) t=(.next (crowd gs' v' sl'),t')/\BD X d gs' v' t' q':=by
 have b1:=O.bT;have b2:=O.cN;have b3:=O.bN;have b4:=O.cB;have b5:=O.bB;have b6:=O.wg;have hT:fy X X.E.v0.heap.size t:=by
  refine⟨TP.begin hP (λb hb=>hb.2) (λk b hb=>?_) (λb hb=>?_),hP.hears,λi hi=>?_⟩
  ·rcases hb.2 with h|h|h<;>omega
  ·rcases hb with h|h|h<;>omega
  ·unfold Trace.act? at hi;obtain⟨op,hop,ha⟩:=Rp.1 hi;have hl:=hP.seen op (Array.mem_of_getElem? hop);rw[ha]at hl;have:X.M.wg<X.E.v0.heap.size:=hl;omega
 obtain⟨N1,gs1,u1,sl1,t1,q1,r1,H1⟩:=JD O gs X.E.v0 sl t q ⟨h0,⟨X.E.v0.drawn,rfl⟩,hL,hT,hsz⟩;obtain⟨s,hI⟩:=IV O H1;obtain⟨N2,s2,gs2,v2,sl2,t2,r2,H2,n,xs,hmt⟩:=Di O _ s gs1 u1 sl1 t1 hI rfl;obtain⟨N3,d,gs3,v3,sl3,t3,q3,r3,H3⟩:=Qs O sl2 H2 hmt;refine⟨N1+(N2+N3),d,gs3,v3,sl3,t3,q3,?_,H3⟩;rw[runNT_add,r1];show runNT Pg (N2+N3) (crowd gs1 u1 sl1) t1=_;rw[runNT_add,r2];exact r3
end
end
section
open Go.Conc
open Go.ConcN (upd upd_same upd_ne sumTo sumTo_upd sumTo_congr sumTo_le le_sumTo RelBy)
set_option maxRecDepth 100000
structure Mz(L1:au)(T1:aO)(L2:au):Prop where
 bj:T1.bj=fQ
 fl:T1.fl=true
 ar:L1.ar fQ=some 3
 bO:∀i,i<3->L1.bO fQ i=.any
 res:L1.res fQ=.any
 eA:∀f,L1.eA f->L2.eA f
 aW:∀s,L1.aW s=L2.aW s
 ng:T1.ng=Pg.globals.size
section
variable {L1 L2:au}
theorem VR.link(hc:∀f,L1.eA f->L2.eA f)(hj:∀s,L1.aW s=L2.aW s){v w:Value}(h:VR L1 π v w):VR L2 π v w:=by
 induction h with
 |aW s a b c=>rw[hj s]at a b c ⊢;exact .aW s a b c
 |bool b=>exact .bool b
 |int k n=>exact .int k n
 |string s=>exact .string s
 |bc=>exact .bc
 |ptr h=>exact .ptr h
 |fX n c=>exact .fX n c
 |slice n c h=>exact .slice n c h
 |iV=>exact .iV
 |mj=>exact .mj
 |map h=>exact .map h
 |func xs ys hf _ _ ih1 ih2=>exact .func xs ys (hc _ hf) ih1 ih2
 |nilFunc=>exact .nilFunc
 |iface t _ ih=>exact .iface t ih
 |nilIface=>exact .nilIface
 |agg xs _ ih=>exact .agg xs ih
 |tuple xs _ ih=>exact .tuple xs ih
theorem OR.link(hc:∀f,L1.eA f->L2.eA f)(hj:∀s,L1.aW s=L2.aW s){o q:Obj}(h:OR L1 τ o q):OR L2 (dV τ.all) o q:=by
 cases h with
 |cells e f h=>obtain⟨zs,a,b,c⟩:=h;exact .cells e f ⟨zs,a,b,λz hz=>(c z hz).link hc hj⟩
 |map c h=>obtain⟨zs,a,b,d⟩:=h;exact .map c ⟨zs,a,b,λz hz=>⟨(d z hz).1.link hc hj,(d z hz).2.1.link hc hj,(d z hz).2.2⟩⟩
 |stringIter s p=>exact .stringIter s p
 |mapIter a b c h=>exact .mapIter a b c h
 |number l h=>exact .number l h
end
section
variable {Q:Program}{Goal:Frame->List Frame->World->Prop}
theorem cG.O2{fr fr1 fr2:Frame}{cs cs1 cs2:List Frame}{w w1 w2:World}(h:cG Q Goal fr cs w fr1 cs1 w1)(hn: ¬Goal fr1 cs1 w1){es:Array Event}(e:stepG Q true (lg fr1 cs1) w1=.go (lg fr2 cs2) w2 es):Below Q Goal fr cs w fr2 cs2 w2:=by
 induction h with
 |refl fr cs w=>exact .one w.tape es hn e
 |step t es' hg hs _ ih=>exact .more t es' hg hs (ih hn e)
end
theorem fM.HI{P:Program}{G:Array Func}{L:au}{T:aO}{fr gr:Frame}(h:fM P G L T τ fr gr)(hf:fr.fn=T.bj):
  ∃xs ys,TR L τ T.bj xs ys/\(∀k,L.ar T.bj=some k->xs.size=k)/\fr=Frame.enter (gp P G) T.bj xs .normal/\gr=Frame.enter P T.bj ys .normal:=by
 cases h with
 |run h=>exact absurd hf h.np
 |bj h1 h2 h3=>exact⟨_,_,h2,h3,rfl,rfl⟩
theorem A0(P:Program)(f:FuncId)(xs:Array Value):(Frame.enter P f xs .normal).roundOf=none/\(Frame.enter P f xs .normal).fn=f:=⟨rfl,rfl⟩
theorem Nl{L1 L2:au}{T1 T2:aO}{Goal:Frame->List Frame->World->Prop}(A:dH L2 T2 Goal)(K:Mz L1 T1 L2)(D:List Frame):sG Pg Gg L1 T1 D Goal:=by
 intro fr cs w hfn hsafe gs v sl t q τ Sh hb;obtain⟨h,h0,hS⟩:=hb.main;obtain⟨xs,ys,hT,har,rfl,hgr⟩:=hS.g.frame.HI hfn;obtain⟨cs',ds,hc1,hc2,hch,hbot⟩:=hS.g.callers;obtain rfl:cs=cs':=Rx hc1;rw[K.bj]at hsafe hT har hgr hch hbot;have h3:xs.size=3:=har 3 K.ar;have hy3:ys.size=3:=hT.1.trans h3;have hv:∀(i:Nat) x y,xs[i]?=some x->ys[i]?=some y->VR L1 τ.all x y:=λi x y hx hy=>by
  have hi:i<3:=by have:=(Array.getElem?_eq_some_iff.1 hx).1;omega
  have:=hT.2 i x y hx hy;rw[K.bO i hi]at this;exact this
 obtain⟨x0,x1,x2,rfl⟩: ∃x0 x1 x2,xs=#[x0,x1,x2]:=⟨xs[0],xs[1],xs[2],by
  apply QX
  ·simp[h3]
  ·intro i h1 h2;rcases (show i=0\/i=1\/i=2 by omega) with rfl|rfl|rfl<;>rfl⟩
 obtain⟨y0,y1,y2,rfl⟩: ∃y0 y1 y2,ys=#[y0,y1,y2]:=⟨ys[0],ys[1],ys[2],by
  apply QX
  ·simp[hy3]
  ·intro i h1 h2;rcases (show i=0\/i=1\/i=2 by omega) with rfl|rfl|rfl<;>rfl⟩
 have v0:=hv 0 x0 y0 rfl rfl;have v1:=hv 1 x1 y1 rfl rfl;have v2:=hv 2 x2 y2 rfl rfl;obtain⟨first,n,rfl,rfl,hn,a,d,X,w',hrun,KE,hD⟩:=I7 A (x0:=x0) (x1:=x1) (x2:=x2) (y2:=y2) (ρ:=τ.all) (w0:=w) (v0:=v) (cs:=cs) hsafe ⟨λr s t h k=>hS.bi.fn r s t (.inl h) (.inl k),λr s t h k=>hS.bi.inj r s t (.inl h) (.inl k)⟩ (λr s h=>hS.bC r s (.inl h))
  (λr s h=>by obtain⟨o,q,e1,e2,e3⟩:=hS.obj r s (.inl h);exact⟨o,q,e1,e2,(e3.all h).link K.eA K.aW⟩) (v2.link K.eA K.aW) (λg hg=>hS.flat.2 g (by rw[K.ng];exact hg))
 have hret:=NM (.int .i64 first) (.int .i64 n) x2 X cs;have hng:∀u,¬Goal (iG (.int .i64 first) (.int .i64 n) x2 X cs) cs u:=λu hg=>(A.goal _ _ _ hg).2 hret.2.2.1;cases hcs:cs with
 |nil=>
  exfalso;have hs2:=Safe.run hsafe hrun;cases hs2 with
  |goal hg=>exact hng _ hg
  |step f c u es h1 h2 h3 h4 h5=>exact h2 ⟨hret.1,hret.2.1,hcs⟩
 |cons c1 cs1=>
 subst hcs;have hstep:=PL (.int .i64 first) (.int .i64 n) x2 X cs1 c1 w';rw[hD.row]at hstep;have hbelow:=cG.O2 hrun (hng _) hstep;cases hch with
 |@cons _ _ gr _ ds1 hfr hfin hch1=>
 obtain rfl:y0=.int .i64 first:=by cases v0;rfl
 obtain rfl:y1=.int .i64 n:=by cases v1;rfl
 obtain⟨f,us,us',vs,vs',e1,e2,_⟩: ∃f us us' vs vs',x2=.func (.func f) us vs/\y2=.func (.func f) us' vs'/\True:=by
  obtain⟨X1,w1,s1,s2,s3,s4⟩:=hD.kh 0 (by show 0<n;omega);obtain⟨f,us,us',vs,vs',e1,e2,_⟩:=si A KE 5 (.inr rfl) s1 s2;exact⟨f,us,us',vs,vs',e1,e2,trivial⟩
 let M:Mn:={wg:=v.heap.size+5,bN:=v.heap.size+2,bB:=v.heap.size+4,bT:=v.heap.size,cN:=v.heap.size+1,cB:=v.heap.size+3,first:=first,count:=n,fn:=.func f,ca:=us',cb:=vs'}
 let Y:PC L2:={E:=⟨first,n,x2,y2,τ.all,w,v,c1::cs1⟩,M:=M,c:=gr,cs:=ds1++D,n0:=gs.size,nW:=if n=1 then 1 else 4,a:=a,Sh:=Sh,g0:=gs}
 have hsz:0<gs.size:=(Array.getElem?_eq_some_iff.1 h0).1;have O:aH T2 Goal Y:=by
  refine {A:=A,K:=KE,kh:=hD.kh,first:=rfl,count:=rfl,fB:=e2.symm,nn:=hn,nw:=?_,bT:=rfl,cN:=rfl,bN:=rfl,cB:=rfl,bB:=rfl,wg:=rfl,n0:=hsz,sh:=hb.old,vg:=λr s hx=>hb.apart r s (.inl hx)};show (n=1/\(if n=1 then 1 else 4)=1)\/(n≠1/\(if n=1 then 1 else 4)=4)
  by_cases h1:n=1
  ·exact .inl ⟨h1,IN h1⟩
  ·exact .inr ⟨h1,By h1⟩
 have hh:h=m0 Y.M Y.c Y.cs:=by
  have g1:=hS.g.status.2;have g2:=hS.g.dying.2;have g3:=hS.g.offers.2;obtain⟨hf,hcl,hst,hdy,hof⟩:=h;simp only at g1 g2 g3 hgr hc2;subst g1 g2 g3 hgr hc2;show Goroutine.mk _ _ _ _ _=ou 95 #[.int .i64 first,.int .i64 n,.func (.func f) us' vs'] (gr::(ds1++D));rw[<-e2];rfl
 subst hh;obtain⟨N,d',gs',v',sl',t',q',hr,hB⟩:=Ms O sl h0 hb.fq hb.jQ rfl;obtain⟨C,hC,hCs,hCk⟩:=hD.blk;obtain⟨C',hC',hCs',hCk'⟩:=hB.row;have hdw:d<w'.heap.size:=(Array.getElem?_eq_some_iff.1 hC).1;have hnew:w.heap.size<=d:=hD.new;have hlow:v.heap.size+5<d'/\d'<v'.heap.size:=hB.low;have hkeep:w.heap.size<=w'.heap.size/\∀r,r<w.heap.size->w'.heap[r]?=w.heap[r]? :=hD.keeps;have hold:v.heap.size<=v'.heap.size/\∀s,s<v.heap.size->v'.heap[s]?=v.heap[s]? :=hB.old;let τ':ah:=⟨λr s=>τ.all r s\/(r=d/\s=d'),λr s=>τ.own r s\/(r=d/\s=d'),τ.box,τ.lp⟩
 have hle:eO τ τ':=⟨λ_ _ h=>.inl h,λ_ _ h=>.inl h,λ_ _ h=>h,λ_ _ h=>h⟩
 have hun:∀r s,τ'.un r s->τ.un r s\/(r=d/\s=d'):=λr s h=>by
  rcases h with (h|h)|h|h
  ·exact .inl (.inl h)
  ·exact .inr h
  ·exact .inl (.inr (.inl h))
  ·exact .inl (.inr (.inr h))
 have hfit:Fit τ':=by
  have nd:∀s,¬τ.un d s:=λs h=>by have:=(hS.bC d s h).1;omega
  have nd':∀r,¬τ.un r d':=λr h=>by have:=(hS.bC r d' h).2;omega
  exact
   {own:=λr s h=>h.imp (hS.bi.own r s) id
    two:=λr s t h k=>by
     rcases h with h|⟨rfl,rfl⟩
     ·exact hS.bi.two r s t h k
     ·exact nd _ (.inr (.inl k))
    jR:=λr s t h k=>by
     rcases h with h|⟨rfl,rfl⟩
     ·exact hS.bi.jR r s t h k
     ·exact nd _ (.inr (.inr k))
    j3:=hS.bi.j3
    fn:=λr s t h k=>by
     rcases hun r s h with h'|⟨rfl,rfl⟩<;>rcases hun _ t k with k'|⟨k1,k2⟩
     ·exact hS.bi.fn r s t h' k'
     ·rw[k1]at h';exact absurd h' (nd _)
     ·exact absurd k' (nd _)
     ·exact k2.symm
    inj:=λr s t h k=>by
     rcases hun r t h with h'|⟨rfl,rfl⟩<;>rcases hun s _ k with k'|⟨k1,k2⟩
     ·exact hS.bi.inj r s t h' k'
     ·rw[k2]at h';exact absurd h' (nd' _)
     ·exact absurd k' (nd' _)
     ·exact k1.symm}
 have hflat:Flat T1 τ':=⟨λhf r s h=>h.imp (hS.flat.1 hf r s) id,λg hg=>.inl (hS.flat.2 g hg)⟩
 have hsl:CR L1 τ' .any (dp d n) (gT d' n):=VR.slice n n ⟨.inr ⟨rfl,rfl⟩,rfl,rfl⟩;have hrc:fw L1 (Frame.enter (gp Pg Gg) fQ #[.int .i64 first,.int .i64 n,x2] .normal)=.any:=by
  unfold fw;rw[(A0 _ _ _).1,(A0 _ _ _).2];exact K.res
 rw[hrc]at hfin;have hG:GR Pg Gg L1 T1 τ' [wall] D (lg (c1.finish (dp d n)) cs1) {frame:=gr.finish (gT d' n),callers:=ds1++D,status:=.running,dying:=none}:=by
  refine⟨.run (bl.finish hfit.toeh hflat (hfr.mono hle) hfin hsl),⟨rfl,rfl⟩,⟨rfl,rfl⟩,⟨rfl,rfl⟩,cs1,ds1,rfl,rfl,?_,?_⟩
  ·show fe Pg L1 T1 τ' (fw L1 (c1.finish (dp d n))) cs1 ds1;rw[o6];exact hch1.mono hle
  ·have hbot':gJ c1 cs1:=hbot;exact hbot'.same (nG _ _)
 have hSim:fT Pg Gg L1 T1 τ' [wall] D (lg (c1.finish (dp d n)) cs1) w' {frame:=gr.finish (gT d' n),callers:=ds1++D,status:=.running,dying:=none} v':=by
  refine⟨hG,hfit,hflat,λr s hx=>?_,λr s hx=>?_⟩
  ·rcases hun r s hx with hx|⟨rfl,rfl⟩
   ·have:=hS.bC r s hx;omega
   ·omega
  ·rcases hun r s hx with hy|⟨rfl,rfl⟩
   ·obtain⟨o,p,e1,e2,e3⟩:=hS.obj r s hy
    have:=hS.bC r s hy;exact⟨o,p,by rw[hkeep.2 r this.1];exact e1,by rw[hold.2 s this.2];exact e2,e3.tk hle hfit hy⟩
   ·refine⟨_,_,hC,hC',λ_=>?_,λhx=>?_,λhx=>?_⟩
    ·have hCC:C'=C:=by
      apply QX
      ·exact hCs'.trans hCs.symm
      ·intro i h1 h2;have hi:i<n:=by have:C.size=n:=hCs;omega
       have a1:=hCk i hi;have a2:=hCk' i hi;rw[Array.getElem?_eq_getElem h2]at a1;rw[Array.getElem?_eq_getElem h1]at a2;exact (Q0 a2).trans (Q0 a1).symm
     subst hCC;refine .cells _ _ (XR.self _ λx hx=>?_);obtain⟨i,hi,rfl⟩:=Array.mem_iff_getElem.1 hx;have hin:i<n:=by have:C'.size=n:=hCs';omega
     have a2:=hCk' i hin;rw[Array.getElem?_eq_getElem hi]at a2;rw[Q0 a2];exact .int _ _
    ·exact absurd (hS.bC _ _ (.inr (.inl hx))).1 (by omega)
    ·exact absurd (hS.bC _ _ (.inr (.inr hx))).1 (by omega)
 refine⟨N,gs',v',sl',t',q',τ',_,_,_,lj Y,hr,⟨⟨_,hB.main,hSim⟩,hB.fq,hB.jQ,λr s hx hsh=>?_,λs hsh=>?_⟩,by rw[K.bj];exact hbelow,⟨hold.1,hB.tape,hB.os,hB.output,λs hs _=>hold.2 s hs,hle,λr s hx=>?_⟩⟩
 ·have hsh':Sh s\/(s=v.heap.size+5\/s=v.heap.size+1\/s=v.heap.size+3):=hsh;rcases hun r s hx with hy|⟨rfl,rfl⟩
  ·have:=(hS.bC r s hy).2;rcases hsh' with h|h|h|h
   ·exact hb.apart r s hy h
   all_goals omega
  ·rcases hsh' with h|h|h|h
   ·have:=hb.old s h;omega
   all_goals omega
 ·have hsh':Sh s\/(s=v.heap.size+5\/s=v.heap.size+1\/s=v.heap.size+3):=hsh;rcases hsh' with h|h|h|h
  ·have:=hb.old s h;omega
  all_goals omega
 ·rcases hun r s hx with hy|⟨rfl,rfl⟩
  ·exact .inl hy
  ·exact .inr ⟨by omega,hlow.2⟩
end
section
open Go
def iQ(L:au)(i:TypeInfo):Prop:=(∀v,i.zero=some v->∀π,VR L π v v)/\∀n u,i.desc=.named n u->n≠ "sync.copyChecker"
theorem VR.AD{L:au}{v:Value}(h:VR L π v v):∀x∈v.cells,VR L π x x:=by
 obtain⟨zs,h1,h2,h3⟩:=h.cells;intro x hx;obtain⟨i,hi,rfl⟩:=Array.mem_iff_getElem.1 hx;have hl:i<zs.size:=by rw[h1]at hi;simpa using hi
 have e1:v.cells[i]=zs[i].1:=by simp only[h1,Array.getElem_map]
 have e2:v.cells[i]=zs[i].2:=by
  have:v.cells[i]?=(zs.map (·.2))[i]? :=by rw[<-h2]
  rw[Array.getElem?_eq_getElem hi,Array.getElem?_map,Array.getElem?_eq_getElem hl]at this;exact Q0 this
 have:=h3 zs[i] (Array.getElem_mem hl);rw[<-e1,<-e2]at this;exact this
theorem VR.tH{L:au}{c:Array Value}(h:∀x∈c,VR L π x x):VR L π (.agg c) (.agg c):=by
 have:=VR.agg (L:=L) (π:=π) (c.map λx=>(x,x)) (λz hz=>by
  obtain⟨x,hx,rfl⟩:=Array.mem_map.1 hz;exact h x hx)
 simpa[Rl] using this
theorem zf{α β:Type}(Inv:β->Prop)(f:α->β->Option (ForInStep β))(hs:∀a b r,Inv b->f a b=some r->Inv (match r with|.yield b'=>b'|.done b'=>b')):∀(l:List α) (init r:β),Inv init->forIn l init f=some r->Inv r
 |[],init,r,h0,h=>by
  simp only[List.forIn_nil,Ru,QA]at h;subst h;exact h0
 |a::l,init,r,h0,h=>by
  rw[List.forIn_cons]at h;simp only[RB,RD]at h;obtain⟨x,h1,h2⟩:=h
  have:=hs a init x h0 h1;cases x with
  |done b=>simp only[Ru,QA]at h2;subst h2;exact this
  |yield b=>exact zf Inv f hs l b r this h2
section
variable {L:au}{info:TypeId->Option TypeInfo}
theorem LU(hi:∀t i,info t=some i->iQ L i){fs:Array Field}{i:TypeInfo}(h:Made.reckonStruct info fs=some i):iQ L i:=by
 unfold Made.reckonStruct at h;simp only[RB,RD,Ru]at h;obtain⟨r,h1,h2⟩:=h;rw[<-Array.forIn_toList]at h1;have key:=zf (λr=>∀a,r.2.2.2.2.2.2.2.1=some a->∀x∈a,∀π,VR L π x x) _ ?_ _ _ _ ?_ h1
 ·split at h2
  all_goals
   simp only[QA]at h2;subst h2;refine⟨λv hv π=>?_,λn u h=>by cases h⟩;simp only[Rp]at hv;obtain⟨a,ha,rfl⟩:=hv;exact VR.tH λx hx=>key a ha x hx π
 ·intro f b s hb hf;obtain⟨j,hj,hf⟩:=RD.1 hf;have fin:∀(c:Prop) [Decidable c] (a:Array Value),(if c then none else b.2.2.2.2.2.2.2.1.bind λx=>j.zero.bind λy=>some (x++y.cells))=some a->∀x∈a,∀π,VR L π x x:=by
   intro c _ a h x hx π;split at h
   ·cases h
   ·obtain⟨p,hp,h⟩:=RD.1 h;obtain⟨z,hz,h⟩:=RD.1 h;cases h;rcases Array.mem_append.1 hx with hx|hx
    ·exact hb p hp x hx π
    ·exact ((hi _ _ hj).1 z hz π).AD x hx
  by_cases c1:j.str.isEmpty=true
  ·rw[IN c1]at hf;cases hf
  ·rw[By c1]at hf;by_cases c2:f.embedded=true
   ·rw[IN c2]at hf;cases hf
   ·rw[By c2]at hf;by_cases c3:f.tag.isEmpty=true
    ·rw[IN c3]at hf;obtain⟨tg,_,hf⟩:=RD.1 hf;split at hf<;>(cases hf;exact λa ha=>fin _ a ha)
    ·rw[By c3]at hf;obtain⟨tg,_,hf⟩:=RD.1 hf;split at hf<;>(cases hf;exact λa ha=>fin _ a ha)
 ·intro a ha x hx;simp only[QA]at ha;subst ha;simp at hx
theorem KI(hi:∀t i,info t=some i->iQ L i){d:TypeDesc}{i:TypeInfo}(h:Made.reckon info d=some i):iQ L i:=by
 have word:∀(d:TypeDesc) (s:String) (z:Value) (c:Bool) (b:Nat),(∀n u,d≠.named n u)->(∀π,VR L π z z)->iQ L (Made.word d s z c b):=λd s z c b hd hz=>⟨λv hv π=>by
  have:some z=some v:=hv;cases this;exact hz π,λn u e=>absurd e (hd n u)⟩
 unfold Made.reckon at h;cases d with
 |pointer e=>
  simp only[RB,RD,Ru]at h;obtain⟨j,_,h⟩:=h;split at h
  ·cases h
  ·split at h
   ·cases h
   ·obtain⟨s,_,h⟩:=RD.1 h;cases h;exact word _ _ _ _ _ (λ_ _ h=>by cases h) λ_=>.bc
  ·obtain⟨s,_,h⟩:=RD.1 h;cases h;exact word _ _ _ _ _ (λ_ _ h=>by cases h) λ_=>.bc
 |slice e=>
  simp only[RB,RD,Ru]at h;obtain⟨_,_,_,_,h⟩:=h;cases h;exact word _ _ _ _ _ (λ_ _ h=>by cases h) λ_=>.fX _ _
 |map k e=>
  simp only[RB,RD,Ru]at h;obtain⟨_,_,_,_,_,_,_,_,h⟩:=h;cases h;exact word _ _ _ _ _ (λ_ _ h=>by cases h) λ_=>.iV
 |chan dir e=>
  simp only[RB,RD,Ru]at h;obtain⟨_,_,_,_,h⟩:=h;cases h;exact word _ _ _ _ _ (λ_ _ h=>by cases h) λ_=>.mj
 |func ps rs v=>
  simp only[RB,RD,Ru]at h;obtain⟨_,_,h⟩:=h;cases h;exact word _ _ _ _ _ (λ_ _ h=>by cases h) λ_=>.nilFunc
 |array n e=>
  simp only[RB,RD,Ru]at h;obtain⟨j,hj,s,_,h⟩:=h;cases h;refine⟨λv hv π=>?_,λn u h=>by cases h⟩;simp only at hv;split at hv
  ·cases hv
  ·split at hv
   ·cases hv;exact VR.tH λx hx=>by simp at hx
   ·simp only[Rp]at hv;obtain⟨z,hz,rfl⟩:=hv;refine VR.tH λx hx=>?_;obtain⟨y,hy,hx⟩:=Array.mem_flatten.1 hx;have:y=z.cells:=by have:=Array.mem_replicate.1 hy;exact this.2
    subst this;exact ((hi _ _ hj).1 z hz π).AD x hx
 |struct fs=>exact LU hi h
 |_=>cases h
end
theorem y9{L:au}{T:Tables}(h0:∀(t:Nat) i,T.types[t]?=some i->iQ L i):∀(fuel:Nat) (t:TypeId) (i:TypeInfo),Made.infoAt T fuel t=some i->iQ L i
 |0,t,i,h=>by cases h
 |n+1,t,i,h=>by
  unfold Made.infoAt at h;split at h
  ·exact h0 t i h
  ·obtain⟨d,_,h⟩:=RD.1 h;exact KI (y9 h0 n) h
theorem xP{L:au}{T:Tables}(h0:∀(t:Nat) i,T.types[t]?=some i->iQ L i){t:TypeId}{i:TypeInfo}(h:T.info? t=some i):iQ L i:=by
 unfold Tables.info? at h;split at h
 ·exact h0 t i h
 ·exact y9 h0 _ t i h
end
end Go.Proofs.YtldmcdeibiclkaaGreat.U
