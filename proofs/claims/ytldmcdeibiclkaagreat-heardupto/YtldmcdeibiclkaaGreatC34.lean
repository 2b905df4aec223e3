/-
  The statement of Heard: for every script whose bulk is at most the bound, every Hear, of letters that were kept and of any text, answers as the reference does.
-/
import Derived.Test.YtldmcdeibiclkaaGreatC24
import Derived.Test.YtldmcdeibiclkaaGreatC01
import Derived.Test.YtldmcdeibiclkaaGreatC33
import Derived.Test.YtldmcdeibiclkaaGreatRows
import Derived.Test.YtldmcdeibiclkaaGreatC15
import Derived.WalkKit
import Derived.ProofKit
import Derived.OpenShut
import Derived.ChangeSlices
import Derived.JoinedCond
import Derived.Conc.Holds
import Derived.Conc.LeavingOf
import Derived.Deep.Slices
set_option linter.all false
noncomputable section
set_option maxRecDepth 100000
set_option maxHeartbeats 20000000
namespace Go.Proofs.YtldmcdeibiclkaaGreatQ
variable {B N wb:Nat}{w:af}
open Go.RowKit
section
variable {U:List ah}
theorem WL(wb:Nat)(pv le hv:ag)(gs:List PG)(hs:List Nat)(w:af)(h:dQ U w wb pv le hv gs hs)(hlen:hs.length<=9000000000000):
  Calls aC.prog 10 #[.p wb] w λe w'=>e=.r (.bool true)/\∃q,w'=w.drewN q:=by
 have aT:=h.aT;obtain⟨ad,cap,rfl,m,s⟩:=cz aT;have n:=(aH h.blk).1;have c2:w.cell? (.a wb 2)=some (.slice ad hs.length cap):=by rw[n];rfl
 have t:Hid _:=aT;have u:Hid (∀k (j:k<hs.length) q,Calls aC.prog 27 #[.p hs[k]] (w.drewN q) λe w'=>e=.r (.bool true)/\∃q,w'=w.drewN q):=λk j q=>
  (O9 hs[k] (λ_=>True) (w.drewN q) ((h.holds _ (List.getElem_mem j)).below (below_drewN zj q))).mono λe w' ⟨v,x,y⟩=>⟨v,q+x,by rw[y];exact World.drewN_drewN ..⟩
 clear h aT n;go_enter aC.func10,aC.ntmps10;go_wp2;go_loopw [3] (λi wr=>∃k:Nat,k<=hs.length/\i=.i k/\∃q,wr=w.drewN q) (λi _=>hs.length-(intOf i).toNat)
 case atStart=>exact⟨0,zo,rfl,0,rfl⟩
 case round=>
  obtain⟨k,j,rfl,q,rfl⟩:=hrel;have A:(0:Int)<=(k:Int):=zo;by_cases c:k<hs.length
  .have z:(k:Int)<(hs.length:Int):=zo;obtain⟨g,o,d,_,_,C,b⟩:=dU t.out zo;cases d;have D:w.cell? (.a g k)=.p hs[k]:=b k _ zo (by simp[c,gv]);have l:Hid _:=u.out k c;generalize hs[k]=hh at*;clear b;go_wp2_with (first
    |(go_at_call 27;refine Calls.mono (l.out _) ?_;rintro e w1 ⟨rfl,E,rfl⟩))
   exact⟨⟨k+1,zo,by go_num,_,rfl⟩,zi⟩
  .obtain rfl:k=hs.length:=zo;go_wp2;go_ret;exact⟨rfl,_,rfl⟩
end
section
variable {U:List ah}
def pK(w:af)(ad:Option Addr)(n:Nat)(ops:Nat->ef):Prop:=
 n=0\/∃b off,ad=.a b off/\b<w/\∀i,i<n->∀j,j<10->w.cell? (.a b (off+i*10+j))=(eV (ops i))[j]?
theorem RU(w:af):gY U w 0 (w.alloc (.cells #[.slice none 0 0,.slice none 0 0,.slice none 0 0] 30)) w (.slice none 0 0) (.slice none 0 0) (.slice none 0 0) [] [] where
 law:=⟨heap_alloc_new w _,World.ownsRow_nil _ _ _ _,World.ownsRow_nil _ _ _ _,λg a=>by simp at a,λi j hi=>by simp at hi,λk b=>by simp at b,⟨[],World.ownsRow_nil _ _ _ _,λT h=>by cases h⟩,λk e=>by cases e⟩
 nZ:=Nat.le_refl _
 pa:=λk e=>by cases e
 qJ:=λk e=>by cases e
 cU:=λg a=>by simp at a
 len:=λg a=>by simp at a
 gl:=zp
 hl:=zp
 base:=zp
 leB:=λk e=>by cases e
 ll:=λad n cap e=>zg
theorem Gh(B:Nat)(wb:Nat)(pv le hv:ag)(gs:List PG)(hs:List Nat)(n:Nat)(w:af)(h:gY U B 0 w wb pv le hv gs hs)(z:gs.length<2)(o:n<4)(d:U.length<=1300000):
  Calls aC.prog 8 #[.p wb,.i n] w λe w'=>e=.r (.bool true)/\∃b c,gY U B 0 w' wb b le hv c hs/\c.length=gs.length+1/\Below B w w':=by
 refine(KM wb pv le hv gs hs n w h.law zo o).mono ?_;rintro e w' ⟨q,g,b,s,t,u,v,l,x⟩;have hl:=h.hl;refine⟨q,b,gs++ [g],⟨s,h.nZ,λk e=>?_,h.qJ,λj a=>?_,λj a=>?_,zt,zo,Nat.le_trans h.base l.size,h.leB,λad n cap e=>Nat.le_trans (h.ll ad n cap e) zo⟩,zp,l.toBelow (λk e=>?_) h.base⟩
 .rcases x k e with e|e
  .exact h.pa k e
  .exact Nat.le_trans h.base e
 .rcases List.mem_append.1 a with a|a
  .exact h.cU j a
  .rw[List.mem_singleton]at a;rw[a];exact⟨λm y=>Nat.le_trans h.base (u m y),Nat.le_trans h.base v⟩
 .rcases List.mem_append.1 a with a|a
  .exact h.len j a
  .rw[List.mem_singleton]at a;rw[a,t];exact bQ.none d
 .rcases e with e|e
  .rw[e];exact h.nZ
  .exact h.pa k e
def ku(U:List ah)(B N:Nat)(w:af)(wb:Nat):Prop:=∃pv le hv gs hs,gY U B N w wb pv le hv gs hs/\0<gs.length
theorem xX(B N wb:Nat)(o:ef)(w:af)(h:ku U B N w wb)(i:N<=900000)(j:mx U o)(a:U.length<=1300000)(k:o.kind<=10):
  Calls aC.prog 9 #[.p wb,.agg (eV o)] w λe w'=>e=.r (.bool true)/\ku U B (N+1) w' wb/\Below B w w':=by
 obtain⟨pv,le,hv,gs,hs,hl,l⟩:=h;refine(SL B N wb pv le hv gs hs o w hl l i j a k).mono ?_;rintro e w' ⟨m,b,le,c,d,g,n,q,s⟩;exact⟨m,⟨b,le,c,d,g,n,q⟩,s⟩
theorem Yf(B N wb:Nat)(w:af)(h:ku U B N w wb)(a:N<=900000):
  Calls aC.prog 10 #[.p wb] w λe w'=>e=.r (.bool true)/\∃q,w'=w.drewN q:=by
 obtain⟨pv,le,hv,gs,hs,hl,b⟩:=h;exact WL wb pv le hv gs hs w hl.law (by have:=hl.hl;omega)
theorem ku.below{w':af}(h:ku U B N w wb)(hb:Below w w w'):ku U B N w' wb:=by
 obtain⟨pv,le,hv,gs,hs,hl,a⟩:=h;exact⟨pv,le,hv,gs,hs,hl.below hb,a⟩
theorem ku.more{a:Nat}(h:ku U B N w wb)(b:N<=a):ku U B a w wb:=by
 obtain⟨pv,le,hv,gs,hs,hl,c⟩:=h;exact⟨pv,le,hv,gs,hs,hl.more b,c⟩
def j9:ef:=⟨2,0,0,0,⟨#[65]⟩,⟨#[]⟩,λ_=>0⟩
def mK:ef:=⟨2,0,0,0,⟨#[97]⟩,⟨#[120]⟩,λ_=>0⟩
def tT:ef:=⟨4,0,0,0,⟨#[97]⟩,⟨#[]⟩,λ_=>0⟩
theorem OV:jL j9:=⟨zd,zd,zd,zd,zd,zd,zd,zd⟩
theorem Xd:jL mK:=⟨zd,zd,zd,zd,zd,zd,zd,zd⟩
theorem Ms:jL tT:=⟨zd,zd,zd,zd,zd,zd,zd,zd⟩
theorem ML(lo hi:Int)(ad:Option Addr)(n cap:Nat)(ops:Nat->ef)(w:af)(hs:pK w ad n ops)(hn:n<=800000)(d:U.length<=1300000)(hA:mx U j9)(hB:mx U mK)(hC:mx U tT)(A:∀i,i<n->mx U (ops i)):
  Calls aC.prog 7 #[.slice ad n cap,.i lo,.i hi,.i 10] w λe w'=>e=.r (.bool true)/\Below w w w':=by
 have HS:Hid _:=hs;have ab:Hid _:=A;have C:Hid _:=RU (U:=U) w;have u:Hid (mx U j9/\mx U mK/\mx U tT):=⟨hA,hB,hC⟩
 clear hA hB hC;clear hs A;go_enter aC.func7,aC.ntmps7;go_upto_region 2 with fail;obtain⟨Z,l⟩: ∃W,W=w.alloc (.cells #[.slice none 0 0,.slice none 0 0,.slice none 0 0] 30):=⟨_,rfl⟩
 rw[<-l];have an:Hid (Below w w Z):=(by rw[l];exact zj.alloc zf _)
 have ao:Hid (gY U w 0 Z w (.slice none 0 0) (.slice none 0 0) (.slice none 0 0) [] []):=(by rw[l];exact C.out)
 have HA:Hid _:=CV w 4 Z (Or.inr zo);have HB:Hid _:=Gh w w _ _ _ [] [] 0 Z ao.out zp zo d;clear l C;go_upto_region 3 with (first
  |(go_at_call 8;refine Calls.mono HA.out ?_;rintro e w1 ⟨rfl,rfl⟩))
 go_upto_region 4 with (first
  |(go_at_call 8;refine Calls.mono HB.out ?_;rintro e w2 ⟨rfl,aq,ar,D,E,F⟩))
 have av:Hid _:=an.out.trans F;have HC:Hid (Calls aC.prog 8 #[.p w,.i 1] w2 λe w'=>e=.r (.bool true)/\ku U w 0 w' w/\Below w w2 w'):=(Gh w w aq _ _ ar [] 1 w2 D (by simp at E;omega) zo d).mono λe w' ⟨he,ay,az,h1,h2,h3⟩=>⟨he,⟨ay,_,_,az,[],h1,zo⟩,h3⟩
 clear D E F;go_upto_region 7 with (first
  |(go_at_call 8;refine Calls.mono HC.out ?_;rintro e w3 ⟨rfl,v,G⟩))
 have a8:Hid _:=v;have aA:Hid _:=av.out.trans G;have HD:Hid _:=xX w 0 w j9 w3 v zo u.out.1 d zd;clear v G;go_upto_region 8 with (first
  |(go_at_call 9;refine Calls.mono HD.out ?_;rintro e w4 ⟨rfl,I,J⟩))
 have aB:Hid _:=aA.out.trans J;have HE:Hid _:=xX w 1 w mK w4 I zo u.out.2.1 d zd;clear I J;go_upto_region 9 with (first
  |(go_at_call 9;refine Calls.mono HE.out ?_;rintro e w5 ⟨rfl,K,L⟩))
 have aE:Hid _:=aB.out.trans L;have HF:Hid _:=xX w 2 w tT w5 K zo u.out.2.2 d zd;clear K L;go_upto_region 12 with (first
  |(go_at_call 9;refine Calls.mono HF.out ?_;rintro e w6 ⟨rfl,M,O⟩))
 have aT:Hid _:=aE.out.trans O;have a1:Hid _:=M;clear M O;go_wp2;go_loopw [16] (λi wr=>∃k:Nat,k<=n/\i=.i k/\Hid (ku U w (k+3) wr w)/\Hid (Below w w wr)) (λi _=>n-(intOf i).toNat)
 case atStart=>exact⟨0,zo,rfl,a1.out,aT.out⟩
 case round=>
  obtain⟨k,hk,rfl,P,Q⟩:=hrel;have HP:=zu P.out;have g:Hid _:=Q.out;clear P Q;have k0:(0:Int)<=(k:Int):=zo;by_cases R:k<n
  .have bb:(k:Int)<(n:Int):=zo;rcases HS.out with h0|⟨b,S,rfl,hb,T⟩
   .omega
   have hz:=g.out.size;have ho:=ab.out k R;have h:∀j,j<10->wr.cell? (.a b (S+k*10+j))=(eV (ops k))[j]? :=λj hj=>by
    rw[g.out.cell (p:=(.a b (S+k*10+j))) hb];exact T k R j hj
   generalize ops k=o at*;have x:Hid (o.kind<=10->∀W,Below wr wr W->Calls aC.prog 9 #[.p w,.agg (eV o)] W λe w'=>e=.r (.bool true)/\ku U w (k+1+3) w' w/\Below w W w'):=λy W hW=>by
    have:=xX w (k+3) w o W (HP.out.below hW) zo ho d y;rw[show k+1+3=k+3+1 by omega];exact this
   have z:Hid (∀W,ku U w (k+1+3) W w->Calls aC.prog 10 #[.p w.heap.size] W λe w'=>e=.r (.bool true)/\∃q,w'=W.drewN q):=λW hW=>Yf w (k+1+3) w W hW zo;have c0:=h 0 zo;have c1:=h 1 zo;have c2:=h 2 zo;have c3:=h 3 zo;have c4:=h 4 zo;have c5:=h 5 zo;have c6:=h 6 zo;have c7:=h 7 zo;have c8:=h 8 zo;have c9:=h 9 zo;rw[Nat.add_zero]at c0;obtain⟨kind,m,a,ob,s,t,c⟩:=o;simp only[eV] at*;clear h T ho;by_cases y:kind<=10
   .have a6:Hid _:=x.out y;go_wp2_with (first
     |(go_at_call 9;refine Calls.mono (a6.out _ (zj.alloc zf _)) ?_;rintro e w7 ⟨rfl,V,X⟩;have Y:=zu V;have a7:=zu ((g.out.alloc hz _).trans X);clear V X)
     |(go_at_call 10;refine Calls.mono (z.out _ Y.out) ?_;rintro e w8 ⟨rfl,q8,rfl⟩))
    exact⟨⟨k+1,zo,by go_num,Y.out.below (below_drewN zj q8),below_drewN a7.out q8⟩,zi⟩
   .have bc:10<kind:=zo;go_wp2;exact⟨⟨k+1,zo,by go_num,(HP.out.below (zj.alloc zf _)).more zo,g.out.alloc hz _⟩,zi⟩
  .obtain rfl:k=n:=zo;go_wp2;go_ret;exact⟨rfl,g.out⟩
end
def univ(ts:List ah):List ByteArray:=ts++ts.flatMap lO
theorem ZJ(T:ah):(lO T).length<=T.size:=by
 unfold lO;cases h:dZ T with
 |none=>exact Nat.zero_le _
 |some L=>exact LK h
theorem En:∀a:List ah,(a.flatMap lO).length<=(a.map (·.size)).sum
 |[]=>Nat.le_refl _
 |T::a=>by
  have h1:=En a;have b:=ZJ T;grind
theorem CX{x:Nat}:∀{l:List Nat},x∈l->x<=l.sum
 |y::l,h=>by
  rw[List.sum_cons];rcases List.mem_cons.1 h with rfl|h
  .omega
  .have:=CX h;omega
theorem xM{a:List ah}{o:ef}(b:jL o)(h:o.s∈a)(c:o.s.size<=1200000):mx (univ a) o:=
 ⟨b,List.mem_append.2 (.inl h),zo,λs hs=>List.mem_append.2 (.inr (List.mem_flatMap.2 ⟨_,h,hs⟩))⟩
theorem Sn(b hi:Int)(ad:Option Addr)(n cap:Nat)(ops:Nat->ef)(w:af)(hs:pK w ad n ops)(d:n<=800000)(a:∀i,i<n->jL (ops i))(c:((List.range n).map λi=>(ops i).s.size+1).sum<=1200000):
  Calls aC.prog 7 #[.slice ad n cap,.i b,.i hi,.i 10] w λe w'=>e=.r (.bool true)/\Below w w w':=by
 have g:∀i,i<n->(ops i).s∈j9.s::mK.s::(List.range n).map λi=>(ops i).s:=λi hi=>by
  grind
 have hlen:(univ (j9.s::mK.s::(List.range n).map λi=>(ops i).s)).length<=1300000:=by
  have h:=En (j9.s::mK.s::(List.range n).map λi=>(ops i).s);have key:∀l:List Nat,(l.map λi=>(ops i).s.size+1).sum=(l.map λi=>(ops i).s.size).sum+l.length:=λl=>by
   induction l with
   |nil=>rfl
   |cons x l k=>grind
  have j:=key (List.range n);rw[List.map_cons,List.map_cons,List.map_map,List.sum_cons,List.sum_cons]at h;rw[univ,List.length_append,List.length_cons,List.length_cons,List.length_map];rw[List.length_range]at j ⊢;have m:j9.s.size=1:=rfl;have o:mK.s.size=1:=rfl;have p:(List.map ((λx=>x.size)∘λi=>(ops i).s) (List.range n)).sum=(List.map (λi=>(ops i).s.size) (List.range n)).sum:=rfl;omega
 exact ML (U:=univ (j9.s::mK.s::(List.range n).map λi=>(ops i).s)) b hi ad n cap ops w hs d hlen (xM OV zp zd) (xM Xd zp zd) (xM Ms (by simp[tT,mK]) zd) λi hi=>xM (a i hi) (g i hi) (by have:=CX (List.mem_map.2 ⟨i,List.mem_range.2 hi,rfl⟩:(ops i).s.size+1∈(List.range n).map λi=>(ops i).s.size+1);omega)
@[simp]def _root_.Go.Proofs.aC.func5:=aC.aN Tryz.func5 zd
def _root_.Go.Proofs.aC.ntmps5:=Tryz.ntmps5
theorem heard_true(ad:Option Addr)(n cap:Nat)(ops:Nat->ef)(w:af)(hs:pK w ad n ops)(c:n<=800000)(b:∀i,i<n->jL (ops i))(a:((List.range n).map λi=>(ops i).s.size+1).sum<=1200000):
  Calls aC.prog 5 #[.slice ad n cap] w λe w'=>e=.r (.bool true)/\Below w w w':=by
 have d:=hid (Sn 9 10 ad n cap ops w hs c b a);clear hs b a;go_enter aC.func5,aC.ntmps5;go_wp2_with (go_at_call 7;refine Calls.mono d.out ?_;rintro e w1 ⟨rfl,hb⟩)
 go_ret;exact⟨rfl,hb⟩
end Go.Proofs.YtldmcdeibiclkaaGreatQ
section
namespace Go
open Go.Conc
section
variable {H:Type}{enc:TypeId×Value->H}
theorem Vw{a:Assume}{C:Checked}{os:Os}{f:FuncId}{fn:Func}{s:OpenSpec}{k:(H:Type)->List (DataW H)->Bool}(n:s.cond=some k){conds:List PathCond}{apart fresh handsOn again:Bool}{F:Stop.Interp}(own:ownKnob C.prog.godebug=none)(started:os.Started)(g:C.prog.funcs[f]?=some fn)(witness: ∃(w:World) (tape:Tape) (i:Input),w.os=os/\(w.forCall tape i).Shaped C.prog/\i.vars= []/\Input.okWide C.prog (w.forCall tape i) .any w f i/\
   s.pre6 enc C.prog fn conds apart (w.forCall tape i).memory i.args/\a.holds C.prog (lone (Frame.enter C.prog f i.args .normal) [] (w.forCall tape i)))(runs:∀(W:World) (base:Nat) (args:Array Value) (ds gs:List (DataW H)) (before:List MemPlace),
   (∀(j:Nat) t v,fn.params[j]?=some t->args[j]?=some v->Value.okWide C.prog W .any base t v)->
   DataW.Whole enc C.prog fn.params.toList s.vars apart W args.toList ds gs before->k H (ds++gs)=true->
   ∃M last o w' e,runNT C.prog (M+1) (solo (G (Frame.enter C.prog f args .normal) []) W) #[]=(.ended o w',e)/\runN C.prog M (solo (G (Frame.enter C.prog f args .normal) []) W)=.next last/\
    step C.prog last=.ended o w'/\Conc.Good C.prog (λv p=>(s.at F).post enc C.prog fn apart fresh handsOn again W args v p) last o w' e):
  ReturnsInLeavingWide a C os f .any (s.pre6 enc C.prog fn conds apart) ((s.at F).post enc C.prog fn apart fresh handsOn again):=by
 refine returnsInLeavingWide_of_good own started witness ?_;intro w tape i _ _ _ h b _;obtain⟨_,_,_,l,c,_,_,_,_,d⟩:=h;obtain rfl:l=fn:=Option.some.inj (c.symm.trans g);obtain⟨ds,gs,before,q,_,m⟩:=(OpenSpec.pre_some n conds apart _ _).1 b.1;obtain⟨M,last,o,w',e,r,u,x,y⟩:=runs (w.forCall tape i) w i.args ds gs before d (q.of_heap (by rfl)) m;exact⟨M,last,o,w',e,r,u,x,y.mono λv z=>ChangeSpec.post_blind z⟩
end
end Go
namespace Go.Proofs.YtldmcdeibiclkaaGreat.ScriptRow
variable {H:Type}{W:af}{f:au}{cap:Nat}
open Go.ChangeShapes Go.WideShapes Go.ChangeAt Go.RowKit Go.Conc
open Go.Proofs.YtldmcdeibiclkaaGreat.U (pE FV xz fQ Pg dA bare uy q9 qB)
open Go.Proofs.YtldmcdeibiclkaaGreatQ (ef eV jL j9 pK)
theorem own:ownKnob Tryz.prog.godebug=none:=zk
theorem laidOut:laidOutB Tryz.prog=true:=zk
theorem oU:Tryz.prog.cellsOf 3=1:=zk
theorem D1:Tryz.prog.cellsOf 9=1:=zk
theorem S2:Tryz.prog.cellsOf 34=4:=zk
theorem Iq:Tryz.prog.cellsOf 36=10:=zk
theorem one_le(d:DataW H):1<=Rows.uptoBulk d:=by
 cases d with
 |lit l=>cases l<;>simp[Rows.uptoBulk]
 |_=>simp[Rows.uptoBulk]
theorem L8(l:List (DataW H)):l.length<=Rows.uptoBulkAll l:=by
 induction l with
 |nil=>simp
 |cons x r a=>have:=one_le x;simp only[Rows.uptoBulkAll,List.length_cons];omega
theorem IM{H:Type}:∀{i:Nat} (l:List (DataW H)) {d:DataW H},l[i]?=some d->Rows.uptoBulk d+l.length<=Rows.uptoBulkAll l+1
 |0,x::r,d,h=>by
  have:=L8 r;obtain rfl:x=d:=by simpa using h
  simp only[Rows.uptoBulkAll,List.length_cons];omega
 |i+1,x::r,d,h=>by
  have a:=IM (i:=i) r (by simpa using h)
  have:=one_le x;simp only[Rows.uptoBulkAll,List.length_cons];omega
theorem J1{D:Nat->DataW H}{f:Nat->Nat}:∀(l:List Nat),(∀i∈l,f i<=Rows.uptoBulk (D i))->(l.map f).sum<=Rows.uptoBulkAll (l.map D)
 |[],_=>Nat.le_refl _
 |i::l,h=>by
  have h1:=h i zp;have a:=J1 l λj hj=>h j (by simp[hj]);simp only[Rows.uptoBulkAll,List.map_cons,List.sum_cons];omega
theorem rU{n:Int}(h:(Lit.int .i64 n).wf=true): -9223372036854775808<=n/\n<=9223372036854775807:=by
 simp[Lit.wf,IntKind.min,IntKind.max,IntKind.bits,IntKind.signed]at h;omega
theorem aaw{enc:ak×ag->H}{base:Nat}{spare:Nat->Bool}{held:Bool}{fuel:Nat}{cs:ae}{x:DataW H×List MemPlace}(h:DataW.trod enc Tryz.prog W base spare held fuel 36 cs=some x): ∃o:ef,cs=(eV o).toList/\jL o/\o.s.size+8<=Rows.uptoBulk x.1:=by
 obtain⟨xs,n,_,t,hl,hlen,g⟩:=DataW.trod_struct Tryz.underlying36 h;rw[Iq]at hl;have a:∀(i:Nat) (hi:i<7),∃y,xs[i]?=some y:=λi hi=>⟨xs[i]'(by rw[hlen];exact hi),List.getElem?_eq_getElem _⟩
 match cs,hl with
 |[c0,c1,c2,c3,c4,j,k,l,p,q],_=>
  obtain⟨y0,V⟩:=a 0 zo;obtain⟨y1,X⟩:=a 1 zo;obtain⟨y2,Y⟩:=a 2 zo;obtain⟨y3,Z⟩:=a 3 zo;obtain⟨y4,v⟩:=a 4 zo;obtain⟨y5,e5⟩:=a 5 zo;obtain⟨y6,e6⟩:=a 6 zo;have z:DataW.trod enc Tryz.prog W base spare held n 3 (([c0,c1,c2,c3,c4,j,k,l,p,q].drop 0).take (Tryz.prog.cellsOf 3))=xs[0]? :=g 0 _ rfl;rw[oU,V]at z;have A:DataW.trod enc Tryz.prog W base spare held n 3 (([c0,c1,c2,c3,c4,j,k,l,p,q].drop 1).take (Tryz.prog.cellsOf 3))=xs[1]? :=g 1 _ rfl;rw[oU,X]at A;have C:DataW.trod enc Tryz.prog W base spare held n 3 (([c0,c1,c2,c3,c4,j,k,l,p,q].drop 2).take (Tryz.prog.cellsOf 3))=xs[2]? :=g 2 _ rfl;rw[oU,Y]at C;have D:DataW.trod enc Tryz.prog W base spare held n 3 (([c0,c1,c2,c3,c4,j,k,l,p,q].drop 3).take (Tryz.prog.cellsOf 3))=xs[3]? :=g 3 _ rfl;rw[oU,Z]at D;have E:DataW.trod enc Tryz.prog W base spare held n 9 (([c0,c1,c2,c3,c4,j,k,l,p,q].drop 4).take (Tryz.prog.cellsOf 9))=xs[4]? :=g 4 _ rfl;rw[D1,v]at E;have F:DataW.trod enc Tryz.prog W base spare held n 9 (([c0,c1,c2,c3,c4,j,k,l,p,q].drop 5).take (Tryz.prog.cellsOf 9))=xs[5]? :=g 5 _ rfl;rw[D1,e5]at F;have G:DataW.trod enc Tryz.prog W base spare held n 34 (([c0,c1,c2,c3,c4,j,k,l,p,q].drop 6).take (Tryz.prog.cellsOf 34))=xs[6]? :=g 6 _ rfl;rw[S2,e6]at G;obtain⟨k0,g0,_,w0⟩:=DataW.trod_int Tryz.underlying3 z;obtain⟨k1,g1,_,w1⟩:=DataW.trod_int Tryz.underlying3 A;obtain⟨k2,g2,_,w2⟩:=DataW.trod_int Tryz.underlying3 C;obtain⟨k3,I,_,w3⟩:=DataW.trod_int Tryz.underlying3 D;obtain⟨u,J,r4,w4⟩:=DataW.trod_string Tryz.underlying9 E;obtain⟨s5,K,_,w5⟩:=DataW.trod_string Tryz.underlying9 F;obtain⟨ys,m,_,_,_,hy,c⟩:=DataW.trod_array Tryz.underlying34 G;have b:∀(i:Nat) (hi:i<4),∃y,ys[i]?=some y:=λi hi=>⟨ys[i]'(by rw[hy];exact hi),List.getElem?_eq_getElem _⟩
  obtain⟨z0,d0⟩:=b 0 zo;obtain⟨z1,d1⟩:=b 1 zo;obtain⟨z2,d2⟩:=b 2 zo;obtain⟨z3,d3⟩:=b 3 zo;have L:=c 0 zo;rw[oU,d0]at L;have M:=c 1 zo;rw[oU,d1]at M;have O:=c 2 zo;rw[oU,d2]at O;have P:=c 3 zo;rw[oU,d3]at P;obtain⟨k6,Q,_,_⟩:=DataW.trod_int Tryz.underlying3 L;obtain⟨k7,R,_,_⟩:=DataW.trod_int Tryz.underlying3 M;obtain⟨k8,S,_,_⟩:=DataW.trod_int Tryz.underlying3 O;obtain⟨k9,T,_,_⟩:=DataW.trod_int Tryz.underlying3 P;simp at g0 g1 g2 I J K Q R S T;refine⟨⟨k0,k1,k2,k3,u,s5,λi=>match i with|0=>k6|1=>k7|2=>k8|_=>k9⟩,?_,⟨(rU w1).1,(rU w1).2,(rU w3).1,(rU w3).2,(rU w2).1,(rU w2).2,w4,w5⟩,?_⟩;rotate_left
  .rw[t];have r:=IM (i:=4) (xs.map (·.1)) (d:=y4.1) (by rw[List.getElem?_map,v];rfl);rw[List.length_map,hlen]at r;rw[r4]at r;have e:u.data.toList.length=u.size:=rfl;simp only[Rows.uptoBulk]at r ⊢;simp only[List.size_toArray,List.length_cons,List.length_nil]at r;omega
  simp[eV,g0,g1,g2,I,J,K,Q,R,S,T]
theorem Wx{o:ef}{j:Nat}{v:ag}(h:(eV o)[j]?=some v):U.aQ v:=by
 have hv:=Array.mem_of_getElem? h;simp only[eV,List.mem_toArray,List.mem_cons,List.not_mem_nil,or_false]at hv;rcases hv with rfl|rfl|rfl|rfl|rfl|rfl|rfl|rfl|rfl|rfl<;>first|exact .inl ⟨_,_,rfl⟩|exact .inr ⟨_,rfl⟩
theorem runs(X:U.ez.fb f=true)(I:f≠fQ)(L:Pg.inits.idxOf? f=none)(q:∀J i,(dA J).dC f i=.any)(u:∀J,(dA J).res f=.any)(Y:∀(ad:Option Addr) (n cap:Nat) (ops:Nat->ef) (w:af),pK w ad n ops->n<=800000->(∀i,i<n->jL (ops i))->((List.range n).map λi=>(ops i).s.size+1).sum<=1200000->Calls aC.prog f #[.slice ad n cap] w λe w'=>e=.r (.bool true)/\Below w w w'){ad:Option Addr}{len:Nat}{ops:Nat->ef}(O:ad=none/\len=0\/∃b d c e g,ad=.a b d/\W.heap[b]?=some (.cells c e g)/\∀i,i<len->∀j,j<10->W.cell? (.a b (d+i*10+j))=(eV (ops i))[j]?)(hlen:len<=800000)(P:∀i,i<len->jL (ops i))(z:((List.range len).map λi=>(ops i).s.size+1).sum<=1200000):
  ∃M last o w' E,runNT Tryz.prog (M+1) (solo (G (Frame.enter Tryz.prog f #[.slice ad len cap] .normal) []) W) #[]=(.ended o w',E)/\runN Tryz.prog M (solo (G (Frame.enter Tryz.prog f #[.slice ad len cap] .normal) []) W)=.next last/\
   step Tryz.prog last=.ended o w'/\Conc.Good Tryz.prog (λv Z=>v=.bool true/\Below W.heap.size W Z) last o w' E:=by
 obtain⟨K,J,V,l,A,Q⟩: ∃K J V,pE J K V W/\qB K W (.slice ad len cap)/\∀t:Nat->Question->Nat,pK {bare K V with tape:=t} ad len ops:=by
  rcases O with⟨rfl,rfl⟩|⟨b,d,c,e,g,rfl,hb,T⟩
  .exact⟨[],λ_=>.i 0,W,⟨rfl,λb hb=>by cases hb⟩,.inl rfl,λt=>.inl rfl⟩
  .have C:=(Array.getElem?_eq_some_iff.1 hb).1;obtain⟨J,V,l,p⟩:=U.Ub (W:=W) (λr i=>r=b/\d<=i/\i<d+len*10) hb hb (λr i v R hv=>by
    obtain⟨rfl,h1,h2⟩:=R;have F:=T ((i-d) / 10) zo ((i-d)%10) (Nat.mod_lt _ zo);rw[show d+(i-d) / 10*10+(i-d)%10=i by omega,hv]at F;exact Wx F.symm)
   refine⟨[b,b],J,V,l,.inr ⟨_,_,_,rfl,zp,C⟩,λt=>.inr ⟨b,d,rfl,?_,λi hi j hj=>?_⟩⟩
   .show b<(bare [b,b] V).heap.size;rw[uy,l.1];exact C
   .have D:(bare [b,b] V).heap[b]?=V.heap[b]? :=q9 zp;have e1:World.cell? {bare [b,b] V with tape:=t} (.a b (d+i*10+j))=V.cell? (.a b (d+i*10+j)):=by simp only[World.cell?,D]
    have F:=T i hi j hj;rw[e1];cases hv:(eV (ops i))[j]? with
    |none=>exact absurd (Array.getElem?_eq_none_iff.1 hv) (by have:(eV (ops i)).size=10:=rfl;omega)
    |some v=>exact p b zp _ v ⟨rfl,zo,zo⟩ (F.trans hv)
 have m:∀t:Nat->Question->Nat,Calls U.Qg f #[.slice ad len cap] {bare K V with tape:=t} λe w'=>∃v,e=.returned v/\(v=.bool true/\∀k,k<V.heap.size->w'.heap[k]?=(bare K V).heap[k]?):=λt=>by
  have S:({bare K V with tape:=t}:af).heap.size=V.heap.size:=by
   show(bare K V).heap.size=_;rw[uy]
  have h:=Y ad len cap ops {bare K V with tape:=t} (Q t) hlen P z;rw[aC.is]at h;refine h.mono ?_;rintro e w' ⟨rfl,hb⟩;exact⟨_,rfl,rfl,λk hk=>hb.block k (by rw[S];exact hk)⟩
 obtain⟨M,last,o,w',E,r1,r2,r3,r4⟩:=U.OT (J:=J) (K:=K) (V:=V) (W:=W) (λg hg=>absurd (show g<0 from hg) (Nat.not_lt_zero g)) l (f:=f) X I L (q J)
  (args:=#[.slice ad len cap]) (λv hv=>by
   simp only[List.mem_toArray,List.mem_cons,List.not_mem_nil,or_false]at hv;subst hv;exact A)
  (Φ:=λx w1=>x=.bool true/\∀k,k<V.heap.size->w1.heap[k]?=(bare K V).heap[k]?) (λ_ _ _ h=>h) m
 exact⟨M,last,o,w',E,r1,r2,r3,r4.mono λv hp=>U.MV l (u J) (λπ y h=>by cases h;rfl) hp⟩
theorem aaB{b:Nat}{x:ak×Nat}(h:W.shape? b=some x): ∃c e f,W.heap[b]?=some (.cells c e f):=by
 unfold World.shape? at h;split at h
 .rename_i c e f a;exact⟨_,_,_,a⟩
 .cases h
theorem UW(K:U.ez.fb f=true)(u:f≠fQ)(y:Pg.inits.idxOf? f=none)(k:∀J i,(dA J).dC f i=.any)(q:∀J,(dA J).res f=.any)(L:∀(ad:Option Addr) (n cap:Nat) (ops:Nat->ef) (w:af),pK w ad n ops->n<=800000->(∀i,i<n->jL (ops i))->((List.range n).map λi=>(ops i).s.size+1).sum<=1200000->Calls aC.prog f #[.slice ad n cap] w λe w'=>e=.r (.bool true)/\Below w w w'){enc:ak×ag->H}{base:Nat}{a0:Option Addr}{len:Nat}{d0:DataW H}{Y:List MemPlace}(O:Value.okWide Tryz.prog W .any base 22 (.slice a0 len cap))(Z:DataW.Trod enc Tryz.prog W 0 (λ_=>true) true 22 (Value.slice a0 len cap) d0 Y)(P:Rows.uptoBulk d0<=1048576):
  ∃M last o w' Q,runNT Tryz.prog (M+1) (solo (G (Frame.enter Tryz.prog f #[.slice a0 len cap] .normal) []) W) #[]=(.ended o w',Q)/\runN Tryz.prog M (solo (G (Frame.enter Tryz.prog f #[.slice a0 len cap] .normal) []) W)=.next last/\
   step Tryz.prog last=.ended o w'/\Conc.Good Tryz.prog (λv W'=>v=.bool true/\Below W W W') last o w' Q:=by
 obtain⟨fuel,z⟩:=Z;have hblk:∀a,a0=some a->a.spot=none/\∃c e f,W.heap[a.block]?=some (.cells c e f):=λa e=>by
  subst e;simp only[Value.okWide,Tryz.underlying22,Cell.okWide,Cell.ok]at O;obtain⟨_,_,_,t,row,cells,A,_⟩:=O;exact⟨t,aaB A⟩
 rcases Go.Deep.open_slice Tryz.underlying22 z with⟨d,_⟩|⟨a,R,S,m,n,D,Pl,d,_,hl,hm,C,hx,E⟩
 .simp[Value.cells]at d;obtain⟨rfl,rfl,rfl⟩:=d;exact runs K u y k q L (ops:=λ_=>j9) (.inl ⟨rfl,rfl⟩) zo (λi hi=>absurd hi zo) (Nat.zero_le _)
 .simp[Value.cells]at d;obtain⟨rfl,rfl,rfl⟩:=d;have hd:d0=.slice ((List.range len).map D) ((List.range (m-len)).map λj=>D (len+j)):=congrArg (·.1) hx;have ab:len<=m:=by rw[C];simp;omega
  have T:Inhabited ef:=⟨j9⟩
  obtain⟨ops,h⟩:=Go.Deep.choose_lt (α:=ef) (n:=len) (p:=λi o=>((∀j,j<10->W.cell? ((a.add (i*10)).add j)=(eV o)[j]?)/\jL o)/\o.s.size+8<=Rows.uptoBulk (D i)) (λi hi=>by
   obtain⟨an,V,h2⟩:=E i zo;rw[Iq]at V;obtain⟨o,ho,F,X⟩:=aaw h2;obtain⟨_,_,h3⟩:=World.cells?_some V;exact⟨o,⟨λj hj=>by rw[h3 j hj,ho];simp,F⟩,X⟩)
  have X:((List.range len).map λi=>(ops i).s.size+8).sum<=1048576:=by
   have:=J1 (D:=D) (f:=λi=>(ops i).s.size+8) (List.range len) λi hi=>(h i (List.mem_range.1 hi)).2;rw[hd]at P;simp only[Rows.uptoBulk]at P;omega
  have key:∀l:List Nat,(l.map λi=>(ops i).s.size+8).sum=(l.map λi=>(ops i).s.size+1).sum+7*l.length:=λl=>by
   induction l with
   |nil=>rfl
   |cons x l ih=>rw[List.map_cons,List.sum_cons,List.map_cons,List.sum_cons,ih,List.length_cons];omega
  have h7:=key (List.range len);rw[List.length_range]at h7;obtain⟨t,c,e,g,hh⟩:=hblk a rfl;obtain⟨b,I,spot⟩:=a;obtain rfl:spot=none:=t;refine runs K u y k q L (ops:=ops) (.inr ⟨b,I,c,e,g,rfl,hh,λi hi j hj=>?_⟩) zo (λi hi=>(h i hi).1.2) zo
  have:=(h i hi).1.1 j hj;rwa [add_plain,add_plain]at this
end Go.Proofs.YtldmcdeibiclkaaGreat.ScriptRow
end
section
namespace Go
open Go.Conc
theorem OpenClaim.Sd{p:Pinned}{s:OpenSpec}{c:OpenClaim}(f:FuncId)(fn:Func)(K:c.program=p.name)(hs:c.sum=p.sum)(u:c.spec=s.name)(hstart:c.start=.entering)(e:c.outside= [])(v:c.inits= [])(x:c.under=none)(y:c.initsInPlace= []/\c.initsUnfollowed=false/\c.initsRecurse=false/\c.initsNamed= []/\c.initsPassed= [])(q:c.noBlocks=false)(z:c.leaving=true)(j:c.followed=none)(r:c.narrowed=s.cond.isSome)(g:c.still=false)(A:p.checked.prog.funcNamed c.func=some f)(L:p.checked.prog.funcs[f]?=some fn)(closed:joinedFacts p.checked.prog f fn s.bare c=true)(l:fn.isInstance p.checked.prog c.origin c.targs)(m:fn.isWrapper p.checked.prog c.wrapper c.mainSum)(h:∀os:Os,os.Started->∀(H:Type) (enc:TypeId×Value->H),(∀a b,enc a=enc b->a=b)->∀F:Stop.Interp,
   ReturnsInLeavingWide c.assume p.checked os f .any (c.pre enc p.checked.prog fn s) ((s.at F).post enc p.checked.prog fn c.apart c.fresh c.handsOn c.again)):c.holds p s:=by
 simp only[joinedFacts,Bool.and_eq_true,beq_iff_eq,Array.all_eq_true_iff_forall_mem,List.all_eq_true,decide_eq_true_eq]at closed;obtain⟨⟨⟨⟨⟨⟨⟨⟨⟨⟨⟨⟨⟨⟨⟨⟨⟨⟨⟨⟨⟨⟨⟨⟨⟨⟨⟨⟨⟨⟨⟨a1,a2⟩,M⟩,O⟩,P⟩,E⟩,Q⟩,R⟩,C⟩,b0⟩,b1⟩,b2⟩,b3⟩,S⟩,T⟩,V⟩,X⟩,Y⟩,Z⟩,c0⟩,c1⟩,c2⟩,c3⟩,c4⟩,c5⟩,G⟩,c7⟩,c8⟩,c9⟩,d0⟩,d1⟩,d2⟩:=closed;have t:c.startFits p.checked.prog:=by unfold OpenClaim.startFits;rw[hstart];exact G
 have o:c.startTold p.checked.prog:=by unfold OpenClaim.startTold;rw[hstart];exact⟨v,x,y⟩
 have d:∀os,c.world os=os.Started:=λos=>by unfold OpenClaim.world;rw[e,hstart]
 have i:c.shortTexts=none:=by
  cases D:c.shortTexts with
  |none=>rfl
  |some _=>rw[D]at c4;cases c4
 refine⟨a1,K,hs,u,a2,M,t,o,f,fn,A,L,⟨O,c0⟩,λhb=>Bool.noConfusion (q.symm.trans hb),by unfold OpenClaim.namedList;rw[j];exact P,l,m,E.trans Q.symm,⟨R.trans C.symm,by unfold Program.envWorded;rw[C];rfl,c5⟩,
  b0,b1,b2,b3,S,⟨T,d1,d2⟩,⟨V,c1⟩,⟨X,c2,c9,d0⟩,⟨c3,c7,c8,Y⟩,by rw[e,r,i];simp,λn hm=>varReadable_some (Z n hm),
  ⟨_,by rw[d];exact WideRow.started_initial,λk I=>by rw[C]at I;cases I⟩,[],by unfold OpenClaim.lists;rw[j],λos st _ H enc inj=>?_⟩
 rw[d]at st;rw[OpenClaim.post_not_still g];unfold OpenClaim.form;rw[hstart,E];intro F;have J:=h os st H enc inj F G;have e1:c.okInput=Input.okWide:=by unfold OpenClaim.okInput;rw[q]
 have e2:c.atReturn p.checked.prog=leavingAtReturn p.checked.prog:=by unfold OpenClaim.atReturn;rw[z]
 have e3:c.always p.checked.prog []=nothingAlways:=by unfold OpenClaim.always;rw[j]
 have e4:s.post enc p.checked.prog fn F c.outside c.apart c.fresh c.handsOn c.again=(s.at F).post enc p.checked.prog fn c.apart c.fresh c.handsOn c.again:=by rw[e];rfl
 rw[<-e1,<-e2,<-e3,<-e4]at J;exact J
end Go
namespace Go.Proofs.YtldmcdeibiclkaaGreat.HeardRow
open Go.ChangeShapes Go.WideShapes Go.ChangeAt Go.RowKit Go.Conc
open Go.Proofs.YtldmcdeibiclkaaGreat.ScriptRow
open Go.Proofs.YtldmcdeibiclkaaGreatQ (ef eV jL j9 pK)
theorem Vh(H:Type)(enc:ak×ag->H)(W:af)(base:Nat)(args:aa)(ds gs:List (DataW H))(before:List MemPlace)(a:∀(j:Nat) t v,Tryz.f5.params[j]?=some t->args[j]?=some v->Value.okWide Tryz.prog W .any base t v)(l:DataW.Whole enc Tryz.prog Tryz.f5.params.toList Rows.heardSpec.vars false W args.toList ds gs before)(u:Rows.uptoSmall H (ds++gs)=true):
  ∃M last o w' d,runNT Tryz.prog (M+1) (solo (G (Frame.enter Tryz.prog 5 args .normal) []) W) #[]=(.ended o w',d)/\runN Tryz.prog M (solo (G (Frame.enter Tryz.prog 5 args .normal) []) W)=.next last/\
   step Tryz.prog last=.ended o w'/\Conc.Good Tryz.prog (λv y=>Rows.heardSpec.post enc Tryz.prog Tryz.f5 false true false false W args v y) last o w' d:=by
 have b:=l;obtain⟨p,q,c,z,rfl,A,C⟩:=l;have m:=c;rw[Tryz.params5]at m a;obtain⟨v0,D,d0,E,n,P,e,rfl,rfl,r,r0⟩:=trodAll_cons m;obtain⟨rfl,rfl,rfl⟩:=trodAll_nil r0;obtain rfl:args=#[v0]:=by cases args;simp_all
 obtain⟨rfl,rfl⟩:=trodVars_none z;have s:=a 0 22 v0 rfl rfl;obtain⟨a0,len,cap,rfl⟩:=okWide_slice Tryz.underlying22 s;have g:∀x∈n,x.block<W:=λx F=>by simpa using b.lt x (by simp[F])
 have k:Rows.uptoBulk d0<=1048576:=by
  have h:=of_decide_eq_true u;simp only[List.append_nil,Rows.uptoBulkAll]at h;omega
 obtain⟨M,last,o,w',d,I,K,L,O⟩:=UW (f:=5) zk zd zk (λJ i=>by rfl) (λJ=>zk) Go.Proofs.YtldmcdeibiclkaaGreatQ.heard_true s r k;clear c;refine⟨M,last,o,w',d,I,K,L,O.mono λv ⟨hv,hb⟩=>?_⟩;subst hv;refine⟨_,_,_,[],n++ [],[],b,?_,?_,rfl,hb.frame _,λh=>by cases h⟩
 .exact trodAll_cons_mk (shut_bool Tryz.underlying4 _) trodAll_mk0
 .exact trodAll_cons_mk (Below.trod laidOut zk (of_decide_eq_true zk) r hb g) trodAll_mk0
theorem lifted(os:Os)(started:os.Started)(H:Type)(enc:TypeId×Value->H)(F:Stop.Interp):
  ReturnsInLeavingWide {} Tryz.checked os 5 .any ((Rows.OpenSpec.upto Rows.heardSpec).pre6 enc Tryz.prog Tryz.f5 Rows.heardUptoRow.domain false) (((Rows.OpenSpec.upto Rows.heardSpec).at F).post enc Tryz.prog Tryz.f5 false true false false):=by
 refine Vw (C:=Tryz.checked) (s:=Rows.OpenSpec.upto Rows.heardSpec) (k:=Rows.uptoSmall) rfl own started Tryz.func5
  (OpenSpec.witness (enc:=enc) (C:=Tryz.checked) (s:=Rows.OpenSpec.upto Rows.heardSpec) (k:=Rows.uptoSmall) rfl false ⟨#[],#[.slice none 0 0],[]⟩ 8 zk zk zk
   (x:=([.nil],[],[])) zk rfl zk) ?_
 intro W base args ds gs before a b c;exact Vh H enc W base args ds gs before a b c
end Go.Proofs.YtldmcdeibiclkaaGreat.HeardRow
namespace Go.Proofs.YtldmcdeibiclkaaGreat
theorem heard_holds:Rows.HeardUptoSaid:=
 OpenClaim.Sd 5 Tryz.f5 rfl rfl rfl rfl rfl rfl rfl ⟨rfl,rfl,rfl,rfl,rfl⟩ rfl rfl rfl rfl rfl zk Tryz.func5 zk
  (of_decide_eq_true zk) (by unfold Func.isWrapper;first|(rw[if_pos (by decide+kernel)];kernel_rfl)|(rw[if_neg (by decide+kernel)];exact⟨rfl,rfl⟩))
  (λos started H enc _ F=>HeardRow.lifted os started H enc F)
end Go.Proofs.YtldmcdeibiclkaaGreat
end
