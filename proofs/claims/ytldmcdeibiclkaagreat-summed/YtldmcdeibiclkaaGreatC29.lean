/-
  The statement of Summed: for every script, whatever its length, every Segment, Digest and Hello answers as the reference does.
-/
import Derived.Test.YtldmcdeibiclkaaGreatC28
import Derived.Test.YtldmcdeibiclkaaGreatRows
import Derived.Test.YtldmcdeibiclkaaGreatC15
import Derived.WalkKit
import Derived.ProofKit
import Derived.OpenShut
import Derived.ChangeSlices
import Derived.SizedLaws
import Derived.Conc.Holds
import Derived.Conc.LeavingOf
import Derived.Deep.Slices
set_option linter.unusedVariables false
set_option linter.unusedSimpArgs false
set_option maxRecDepth 100000
set_option maxHeartbeats 20000000
namespace Go.Proofs.YtldmcdeibiclkaaGreatQ
variable {B N wb:Nat}{w:World}
open Go.RowKit
def kK(w:World)(ad:Option Addr)(n:Nat)(ops:Nat->bU):Prop:=
 n=0\/∃b off,ad=some ⟨b,off,none⟩/\b<w.heap.size/\∀i,i<n->∀j,j<10->w.cell? ⟨b,off+i*10+j,none⟩=(bq (ops i))[j]?
theorem ED(w:World):dT w.heap.size 0 (w.alloc (.cells #[.slice none 0 0,.slice none 0 0,.slice none 0 0] 30)) w.heap.size (.slice none 0 0) (.slice none 0 0) (.slice none 0 0) [] [] where
 law:=⟨heap_alloc_new w _,World.ownsRow_nil _ _ _ _,World.ownsRow_nil _ _ _ _,λg hg=>by simp at hg,λi j hi=>by simp at hi,λk hk=>by simp at hk,⟨[],World.ownsRow_nil _ _ _ _⟩,λk e=>by cases e⟩
 ia:=Nat.le_refl _
 iD:=λk e=>by cases e
 jA:=λk e=>by cases e
 iY:=λg hg=>by simp at hg
 len:=λg hg=>by simp at hg
 gl:=by simp
 hl:=by simp
 base:=by simp
 leB:=λk e=>by cases e
 ll:=λad n cap e=>by cases e;exact Nat.le_refl _
theorem Ay(B:Nat)(wb:Nat)(pv le hv:Value)(gs:List PG)(hs:List Nat)(n:Nat)(w:World)(h:dT B 0 w wb pv le hv gs hs)(hg:gs.length<2)(hn:n<4):
  Calls aa.prog 8 #[.pointer (some ⟨wb,0,none⟩),.int .i64 n] w λe w'=>e=.returned (.bool true)/\∃pv' gs',dT B 0 w' wb pv' le hv gs' hs/\gs'.length=gs.length+1/\Below B w w':=by
 refine (y8 wb pv le hv gs hs n w h.law (by omega) hn).mono ?_;rintro e w' ⟨he,g,pv',h1,h2,h3,h4,h5,h6⟩;have hl:=h.hl;refine⟨he,pv',gs++ [g],⟨h1,h.ia,λk e=>?_,h.jA,λg' hg'=>?_,λg' hg'=>?_,by simp;omega,by omega,Nat.le_trans h.base h5.size,h.leB,λad n cap e=>Nat.le_trans (h.ll ad n cap e) (by omega)⟩,by simp,h5.toBelow (λk e=>?_) h.base⟩
 ·rcases h6 k e with e|e
  ·exact h.iD k e
  ·exact Nat.le_trans h.base e
 ·rcases List.mem_append.1 hg' with hg'|hg'
  ·exact h.iY g' hg'
  ·rw[List.mem_singleton]at hg';rw[hg'];exact⟨λm hm=>Nat.le_trans h.base (h3 m hm),Nat.le_trans h.base h4⟩
 ·rcases List.mem_append.1 hg' with hg'|hg'
  ·exact h.len g' hg'
  ·rw[List.mem_singleton]at hg';rw[hg',h2];simp
 ·rcases e with e|e
  ·rw[e];exact h.ia
  ·exact h.iD k e
def eD(B N:Nat)(w:World)(wb:Nat):Prop:=∃pv le hv gs hs,dT B N w wb pv le hv gs hs/\0<gs.length
theorem py(B N wb:Nat)(o:bU)(w:World)(h:eD B N w wb)(hN:N<=1600000000000)(ho:fC o)(hk:o.kind<=8):
  Calls aa.prog 9 #[.pointer (some ⟨wb,0,none⟩),.agg (bq o)] w λe w'=>e=.returned (.bool true)/\eD B (N+1) w' wb/\Below B w w':=by
 obtain⟨pv,le,hv,gs,hs,hl,h0⟩:=h;refine (Jp B N wb pv le hv gs hs o w hl h0 hN ho hk).mono ?_;rintro e w' ⟨he,pv',le,hv',gs',hs',h1,h2,h3⟩;exact⟨he,⟨pv',le,hv',gs',hs',h1,h2⟩,h3⟩
theorem Io(B N wb:Nat)(w:World)(h:eD B N w wb)(hN:N<=1600000000000):
  Calls aa.prog 10 #[.pointer (some ⟨wb,0,none⟩)] w λe w'=>e=.returned (.bool true)/\∃q,w'=w.drewN q:=by
 obtain⟨pv,le,hv,gs,hs,hl,h0⟩:=h;exact GD wb pv le hv gs hs w hl.law (by have:=hl.hl;omega)
theorem eD.below{w':World}(h:eD B N w wb)(hb:Below w.heap.size w w'):eD B N w' wb:=by
 obtain⟨pv,le,hv,gs,hs,hl,h0⟩:=h;exact⟨pv,le,hv,gs,hs,hl.below hb,h0⟩
theorem eD.more{N':Nat}(h:eD B N w wb)(hN:N<=N'):eD B N' w wb:=by
 obtain⟨pv,le,hv,gs,hs,hl,h0⟩:=h;exact⟨pv,le,hv,gs,hs,hl.more hN,h0⟩
def mO:bU:=⟨2,0,0,0,⟨#[65]⟩,⟨#[]⟩,λ_=>0⟩
def xz:bU:=⟨2,0,0,0,⟨#[97]⟩,⟨#[120]⟩,λ_=>0⟩
def B8:bU:=⟨4,0,0,0,⟨#[97]⟩,⟨#[]⟩,λ_=>0⟩
theorem M6:fC mO:=⟨by decide,by decide,by decide,by decide,by decide,by decide⟩
theorem Ox:fC xz:=⟨by decide,by decide,by decide,by decide,by decide,by decide⟩
theorem Ii:fC B8:=⟨by decide,by decide,by decide,by decide,by decide,by decide⟩
theorem Ec(ad:Option Addr)(n cap:Nat)(ops:Nat->bU)(w:World)(hs:kK w ad n ops)(hn:n<=1500000000000)(hok:∀i,i<n->fC (ops i)):
  Calls aa.prog 7 #[.slice ad n cap,.int .i64 6,.int .i64 8,.int .i64 8] w λe w'=>e=.returned (.bool true)/\Below w.heap.size w w':=by
 have HS:Hid (kK w ad n ops):=hs;have HOk:Hid (∀i,i<n->fC (ops i)):=hok;have HL0:Hid _:=ED w;clear hs hok;go_enter aa.func7,aa.ntmps7;go_upto_region 2 with fail;obtain⟨W0,hW0⟩: ∃W,W=w.alloc (.cells #[.slice none 0 0,.slice none 0 0,.slice none 0 0] 30):=⟨_,rfl⟩
 rw[<-hW0];have HB0:Hid (Below w.heap.size w W0):=(by rw[hW0];exact (Below.refl _ _).alloc (Nat.le_refl _) _)
 have HLw:Hid (dT w.heap.size 0 W0 w.heap.size (.slice none 0 0) (.slice none 0 0) (.slice none 0 0) [] []):=(by rw[hW0];exact HL0.out)
 have HA:Hid _:=wC w.heap.size 4 W0 (Or.inr (by omega));have HB:Hid (Calls aa.prog 8 #[.pointer (some ⟨w.heap.size,0,none⟩),.int .i64 0] W0 λe w'=>e=.returned (.bool true)/\∃pv' gs',dT w.heap.size 0 w' w.heap.size pv' (.slice none 0 0) (.slice none 0 0) gs' []/\gs'.length=([]:List PG).length+1/\Below w.heap.size W0 w'):=Ay w.heap.size w.heap.size _ _ _ [] [] 0 W0 HLw.out (by simp) (by omega);clear hW0 HL0;go_upto_region 3 with (first
  |(go_at_call 8;refine Calls.mono HA.out ?_;rintro e w1 ⟨rfl,rfl⟩))
 go_upto_region 4 with (first
  |(go_at_call 8;refine Calls.mono HB.out ?_;rintro e w2 ⟨rfl,pv1,gs1,hl1,hg1,hb1⟩))
 have HB1:Hid (Below w.heap.size w w2):=HB0.out.trans hb1;have HC:Hid (Calls aa.prog 8 #[.pointer (some ⟨w.heap.size,0,none⟩),.int .i64 1] w2 λe w'=>e=.returned (.bool true)/\eD w.heap.size 0 w' w.heap.size/\Below w.heap.size w2 w'):=(Ay w.heap.size w.heap.size pv1 _ _ gs1 [] 1 w2 hl1 (by simp at hg1;omega) (by omega)).mono λe w' ⟨he,pv',gs',h1,h2,h3⟩=>⟨he,⟨pv',_,_,gs',[],h1,by omega⟩,h3⟩
 clear hl1 hg1 hb1;go_upto_region 7 with (first
  |(go_at_call 8;refine Calls.mono HC.out ?_;rintro e w3 ⟨rfl,hp3,hb3⟩))
 have HP3:Hid (eD w.heap.size 0 w3 w.heap.size):=hp3;have HB3:Hid (Below w.heap.size w w3):=HB1.out.trans hb3;have HD:Hid (Calls aa.prog 9 #[.pointer (some ⟨w.heap.size,0,none⟩),.agg #[.int .i64 2,.int .i64 0,.int .i64 0,.int .i64 0,.string ⟨#[65]⟩,.string ⟨#[]⟩,.int .i64 0,.int .i64 0,.int .i64 0,.int .i64 0]] w3 λe w'=>e=.returned (.bool true)/\eD w.heap.size 1 w' w.heap.size/\Below w.heap.size w3 w'):=py w.heap.size 0 w.heap.size mO w3 hp3 (by omega) M6 (by decide);clear hp3 hb3;go_upto_region 8 with (first
  |(go_at_call 9;refine Calls.mono HD.out ?_;rintro e w4 ⟨rfl,hp4,hb4⟩))
 have HB4:Hid (Below w.heap.size w w4):=HB3.out.trans hb4;have HE:Hid (Calls aa.prog 9 #[.pointer (some ⟨w.heap.size,0,none⟩),.agg #[.int .i64 2,.int .i64 0,.int .i64 0,.int .i64 0,.string ⟨#[97]⟩,.string ⟨#[120]⟩,.int .i64 0,.int .i64 0,.int .i64 0,.int .i64 0]] w4 λe w'=>e=.returned (.bool true)/\eD w.heap.size 2 w' w.heap.size/\Below w.heap.size w4 w'):=py w.heap.size 1 w.heap.size xz w4 hp4 (by omega) Ox (by decide);clear hp4 hb4;go_upto_region 9 with (first
  |(go_at_call 9;refine Calls.mono HE.out ?_;rintro e w5 ⟨rfl,hp5,hb5⟩))
 have HB5:Hid (Below w.heap.size w w5):=HB4.out.trans hb5;have HF:Hid (Calls aa.prog 9 #[.pointer (some ⟨w.heap.size,0,none⟩),.agg #[.int .i64 4,.int .i64 0,.int .i64 0,.int .i64 0,.string ⟨#[97]⟩,.string ⟨#[]⟩,.int .i64 0,.int .i64 0,.int .i64 0,.int .i64 0]] w5 λe w'=>e=.returned (.bool true)/\eD w.heap.size 3 w' w.heap.size/\Below w.heap.size w5 w'):=py w.heap.size 2 w.heap.size B8 w5 hp5 (by omega) Ii (by decide);clear hp5 hb5;go_upto_region 12 with (first
  |(go_at_call 9;refine Calls.mono HF.out ?_;rintro e w6 ⟨rfl,hp6,hb6⟩))
 have HB6:Hid (Below w.heap.size w w6):=HB5.out.trans hb6;have HP6:Hid (eD w.heap.size 3 w6 w.heap.size):=hp6;clear hp6 hb6;go_wp2;go_loopw [16] (λi wr=>∃k:Nat,k<=n/\i=.int .i64 k/\Hid (eD w.heap.size (k+3) wr w.heap.size)/\Hid (Below w.heap.size w wr)) (λi _=>n-(intOf i).toNat)
 case atStart=>exact⟨0,by omega,rfl,HP6.out,HB6.out⟩
 case round=>
  obtain⟨k,hk,rfl,hpl,hbl⟩:=hrel;have HP:Hid (eD w.heap.size (k+3) wr w.heap.size):=hpl.out;have HBl:Hid (Below w.heap.size w wr):=hbl.out;clear hpl hbl;have k0:(0:Int)<=(k:Int):=by omega
  by_cases hlt:k<n
  ·have k63:(k:Int)<(n:Int):=by omega
   rcases HS.out with h0|⟨b,off,rfl,hb,hcl⟩
   ·omega
   have hz:=HBl.out.size;have ho:=HOk.out k hlt;have hc:∀j,j<10->wr.cell? ⟨b,off+k*10+j,none⟩=(bq (ops k))[j]? :=λj hj=>by
    rw[HBl.out.cell (p:=⟨b,off+k*10+j,none⟩) hb];exact hcl k hlt j hj
   generalize ops k=o at*;have HStep:Hid (o.kind<=8->∀W,Below wr.heap.size wr W->Calls aa.prog 9 #[.pointer (some ⟨w.heap.size,0,none⟩),.agg (bq o)] W λe w'=>e=.returned (.bool true)/\eD w.heap.size (k+1+3) w' w.heap.size/\Below w.heap.size W w'):=λhk5 W hW=>by
    have:=py w.heap.size (k+3) w.heap.size o W (HP.out.below hW) (by omega) ho hk5;rw[show k+1+3=k+3+1 by omega];exact this
   have HLook:Hid (∀W,eD w.heap.size (k+1+3) W w.heap.size->Calls aa.prog 10 #[.pointer (some ⟨w.heap.size,0,none⟩)] W λe w'=>e=.returned (.bool true)/\∃q,w'=W.drewN q):=λW hW=>Io w.heap.size (k+1+3) w.heap.size W hW (by omega);have c0:=hc 0 (by omega);have c1:=hc 1 (by omega);have c2:=hc 2 (by omega);have c3:=hc 3 (by omega);have c4:=hc 4 (by omega);have c5:=hc 5 (by omega);have c6:=hc 6 (by omega);have c7:=hc 7 (by omega);have c8:=hc 8 (by omega);have c9:=hc 9 (by omega);rw[Nat.add_zero]at c0;obtain⟨kind,m,a,ob,s,t,c⟩:=o;simp only[bq] at*;clear hc hcl ho;by_cases hk5:kind<=8
   ·have HSt:Hid _:=HStep.out hk5;go_wp2_with (first
     |(go_at_call 9;refine Calls.mono (HSt.out _ ((Below.refl _ _).alloc (Nat.le_refl _) _)) ?_;rintro e w7 ⟨rfl,hp7,hb7⟩;have HP7:Hid (eD w.heap.size (k+1+3) w7 w.heap.size):=hp7;have HB7:Hid (Below w.heap.size w w7):=(HBl.out.alloc hz _).trans hb7;clear hp7 hb7)
     |(go_at_call 10;refine Calls.mono (HLook.out _ HP7.out) ?_;rintro e w8 ⟨rfl,q8,rfl⟩))
    exact⟨⟨k+1,by omega,by go_num,HP7.out.below (below_drewN (Below.refl _ _) q8),below_drewN HB7.out q8⟩,by simp[intOf];omega⟩
   ·have hk6:8<kind:=by omega
    go_wp2;exact⟨⟨k+1,by omega,by go_num,(HP.out.below ((Below.refl _ _).alloc (Nat.le_refl _) _)).more (by omega),HBl.out.alloc hz _⟩,by simp[intOf];omega⟩
  ·obtain rfl:k=n:=by omega
   go_wp2;go_ret;exact⟨rfl,HBl.out⟩
theorem PA(ad:Option Addr)(n cap:Nat)(ops:Nat->bU)(w:World)(hs:kK w ad n ops)(hn:n<=1500000000000)(hok:∀i,i<n->fC (ops i)):
  Calls aa.prog 4 #[.slice ad n cap] w λe w'=>e=.returned (.bool true)/\Below w.heap.size w w':=by
 have HP:Hid _:=Ec ad n cap ops w hs hn hok;clear hs hok;go_enter aa.func4,aa.ntmps4;go_wp2_with (first
  |(go_at_call 7;refine Calls.mono HP.out ?_;rintro e w1 ⟨rfl,hb⟩))
 go_ret;exact⟨rfl,hb⟩
end Go.Proofs.YtldmcdeibiclkaaGreatQ
section
namespace Go.Proofs.YtldmcdeibiclkaaGreat.ScriptRow
variable {H:Type}{W:World}{base cap:Nat}{f:FuncId}
open Go.ChangeShapes Go.WideShapes Go.ChangeAt Go.RowKit Go.Conc
open Go.Proofs.YtldmcdeibiclkaaGreat.U (jW FV pj fQ Pg bG bare oq lI ln)
open Go.Proofs.YtldmcdeibiclkaaGreatQ (bU bq fC mO kK)
theorem own:ownKnob Tryz.prog.godebug=none:=by kernel_rfl
theorem laidOut:laidOutB Tryz.prog=true:=by kernel_rfl
theorem j9:Tryz.prog.cellsOf 3=1:=by kernel_rfl
theorem Cc:Tryz.prog.cellsOf 9=1:=by kernel_rfl
theorem IZ:Tryz.prog.cellsOf 34=4:=by kernel_rfl
theorem BI:Tryz.prog.cellsOf 36=10:=by kernel_rfl
theorem Bo:Tryz.prog.bytesOf 36=96:=by kernel_rfl
theorem qA{n:Int}(h:(Lit.int .i64 n).wf=true): -9223372036854775808<=n/\n<=9223372036854775807:=by
 simp[Lit.wf,IntKind.min,IntKind.max,IntKind.bits,IntKind.signed]at h;omega
theorem Kh{enc:TypeId×Value->H}{spare:Nat->Bool}{held:Bool}{fuel:Nat}{cs:List Value}{x:DataW H×List MemPlace}(h:DataW.trod enc Tryz.prog W base spare held fuel 36 cs=some x): ∃o:bU,cs=(bq o).toList/\fC o:=by
 obtain⟨xs,n,_,hxx,hl,hlen,hf⟩:=DataW.trod_struct Tryz.underlying36 h;rw[BI]at hl;have get:∀(i:Nat) (hi:i<7),∃y,xs[i]?=some y:=λi hi=>⟨xs[i]'(by rw[hlen];exact hi),List.getElem?_eq_getElem _⟩
 match cs,hl with
 |[c0,c1,c2,c3,c4,c5,c6,c7,c8,c9],_=>
  obtain⟨y0,e0⟩:=get 0 (by omega);obtain⟨y1,e1⟩:=get 1 (by omega);obtain⟨y2,e2⟩:=get 2 (by omega);obtain⟨y3,e3⟩:=get 3 (by omega);obtain⟨y4,e4⟩:=get 4 (by omega);obtain⟨y5,e5⟩:=get 5 (by omega);obtain⟨y6,e6⟩:=get 6 (by omega);have f0:DataW.trod enc Tryz.prog W base spare held n 3 (([c0,c1,c2,c3,c4,c5,c6,c7,c8,c9].drop 0).take (Tryz.prog.cellsOf 3))=xs[0]? :=hf 0 _ rfl;rw[j9,e0]at f0;have f1:DataW.trod enc Tryz.prog W base spare held n 3 (([c0,c1,c2,c3,c4,c5,c6,c7,c8,c9].drop 1).take (Tryz.prog.cellsOf 3))=xs[1]? :=hf 1 _ rfl;rw[j9,e1]at f1;have f2:DataW.trod enc Tryz.prog W base spare held n 3 (([c0,c1,c2,c3,c4,c5,c6,c7,c8,c9].drop 2).take (Tryz.prog.cellsOf 3))=xs[2]? :=hf 2 _ rfl;rw[j9,e2]at f2;have f3:DataW.trod enc Tryz.prog W base spare held n 3 (([c0,c1,c2,c3,c4,c5,c6,c7,c8,c9].drop 3).take (Tryz.prog.cellsOf 3))=xs[3]? :=hf 3 _ rfl;rw[j9,e3]at f3;have f4:DataW.trod enc Tryz.prog W base spare held n 9 (([c0,c1,c2,c3,c4,c5,c6,c7,c8,c9].drop 4).take (Tryz.prog.cellsOf 9))=xs[4]? :=hf 4 _ rfl;rw[Cc,e4]at f4;have f5:DataW.trod enc Tryz.prog W base spare held n 9 (([c0,c1,c2,c3,c4,c5,c6,c7,c8,c9].drop 5).take (Tryz.prog.cellsOf 9))=xs[5]? :=hf 5 _ rfl;rw[Cc,e5]at f5;have f6:DataW.trod enc Tryz.prog W base spare held n 34 (([c0,c1,c2,c3,c4,c5,c6,c7,c8,c9].drop 6).take (Tryz.prog.cellsOf 34))=xs[6]? :=hf 6 _ rfl;rw[IZ,e6]at f6;obtain⟨k0,g0,_,w0⟩:=DataW.trod_int Tryz.underlying3 f0;obtain⟨k1,g1,_,w1⟩:=DataW.trod_int Tryz.underlying3 f1;obtain⟨k2,g2,_,w2⟩:=DataW.trod_int Tryz.underlying3 f2;obtain⟨k3,g3,_,w3⟩:=DataW.trod_int Tryz.underlying3 f3;obtain⟨s4,g4,_,w4⟩:=DataW.trod_string Tryz.underlying9 f4;obtain⟨s5,g5,_,w5⟩:=DataW.trod_string Tryz.underlying9 f5;obtain⟨ys,m,_,_,_,hy,hyf⟩:=DataW.trod_array Tryz.underlying34 f6;have gety:∀(i:Nat) (hi:i<4),∃y,ys[i]?=some y:=λi hi=>⟨ys[i]'(by rw[hy];exact hi),List.getElem?_eq_getElem _⟩
  obtain⟨z0,d0⟩:=gety 0 (by omega);obtain⟨z1,d1⟩:=gety 1 (by omega);obtain⟨z2,d2⟩:=gety 2 (by omega);obtain⟨z3,d3⟩:=gety 3 (by omega);have h0:=hyf 0 (by omega);rw[j9,d0]at h0;have h1:=hyf 1 (by omega);rw[j9,d1]at h1;have h2:=hyf 2 (by omega);rw[j9,d2]at h2;have h3:=hyf 3 (by omega);rw[j9,d3]at h3;obtain⟨k6,g6,_,_⟩:=DataW.trod_int Tryz.underlying3 h0;obtain⟨k7,g7,_,_⟩:=DataW.trod_int Tryz.underlying3 h1;obtain⟨k8,g8,_,_⟩:=DataW.trod_int Tryz.underlying3 h2;obtain⟨k9,g9,_,_⟩:=DataW.trod_int Tryz.underlying3 h3;simp at g0 g1 g2 g3 g4 g5 g6 g7 g8 g9;refine⟨⟨k0,k1,k2,k3,s4,s5,λi=>match i with|0=>k6|1=>k7|2=>k8|_=>k9⟩,?_,⟨(qA w1).1,(qA w1).2,(qA w3).1,(qA w3).2,w4,w5⟩⟩
  simp[bq,g0,g1,g2,g3,g4,g5,g6,g7,g8,g9]
theorem EN{o:bU}{j:Nat}{v:Value}(h:(bq o)[j]?=some v):U.aw v:=by
 have hv:=Array.mem_of_getElem? h;simp only[bq,List.mem_toArray,List.mem_cons,List.not_mem_nil,or_false]at hv;rcases hv with rfl|rfl|rfl|rfl|rfl|rfl|rfl|rfl|rfl|rfl<;>first|exact .inl ⟨_,_,rfl⟩|exact .inr ⟨_,rfl⟩
theorem runs(hf:U.cu.fb f=true)(hnp:f≠fQ)(hin:Pg.inits.idxOf? f=none)(hcol:∀J i,(bG J).bO f i=.any)(hres:∀J,(bG J).res f=.any)(hq:∀(ad:Option Addr) (n cap:Nat) (ops:Nat->bU) (w:World),kK w ad n ops->n<=1500000000000->(∀i,i<n->fC (ops i))->Calls aa.prog f #[.slice ad n cap] w λe w'=>e=.returned (.bool true)/\Below w.heap.size w w'){ad:Option Addr}{len:Nat}{ops:Nat->bU}(had:ad=none/\len=0\/∃b off c e g,ad=some ⟨b,off,none⟩/\W.heap[b]?=some (.cells c e g)/\∀i,i<len->∀j,j<10->W.cell? ⟨b,off+i*10+j,none⟩=(bq (ops i))[j]?)(hlen:len<=1500000000000)(hok:∀i,i<len->fC (ops i)):
  ∃M last o w' t',runNT Tryz.prog (M+1) (solo (G (Frame.enter Tryz.prog f #[.slice ad len cap] .normal) []) W) #[]=(.ended o w',t')/\runN Tryz.prog M (solo (G (Frame.enter Tryz.prog f #[.slice ad len cap] .normal) []) W)=.next last/\
   step Tryz.prog last=.ended o w'/\Conc.Good Tryz.prog (λv W'=>v=.bool true/\Below W.heap.size W W') last o w' t':=by
 obtain⟨K,J,V,hbl,harg,hsc⟩: ∃K J V,jW J K V W/\ln K W (.slice ad len cap)/\∀t:Nat->Question->Nat,kK {bare K V with tape:=t} ad len ops:=by
  rcases had with⟨rfl,rfl⟩|⟨b,off,c,e,g,rfl,hb,hc⟩
  ·exact⟨[],λ_=>.int .i64 0,W,⟨rfl,λb hb=>by cases hb⟩,.inl rfl,λt=>.inl rfl⟩
  ·have hbs:b<W.heap.size:=(Array.getElem?_eq_some_iff.1 hb).1;obtain⟨J,V,hbl,hheld⟩:=U.CA (W:=W) (λr i=>r=b/\off<=i/\i<off+len*10) hb hb (λr i v hri hv=>by
    obtain⟨rfl,h1,h2⟩:=hri;have hz:=hc ((i-off) / 10) (by omega) ((i-off)%10) (Nat.mod_lt _ (by omega));rw[show off+(i-off) / 10*10+(i-off)%10=i by omega,hv]at hz;exact EN hz.symm)
   refine⟨[b,b],J,V,hbl,.inr ⟨_,_,_,rfl,by simp,hbs⟩,λt=>.inr ⟨b,off,rfl,?_,λi hi j hj=>?_⟩⟩
   ·show b<(bare [b,b] V).heap.size;rw[oq,hbl.1];exact hbs
   ·have hin':(bare [b,b] V).heap[b]?=V.heap[b]? :=lI (by simp);have e1:World.cell? {bare [b,b] V with tape:=t} ⟨b,off+i*10+j,none⟩=V.cell? ⟨b,off+i*10+j,none⟩:=by simp only[World.cell?,hin']
    have hz:=hc i hi j hj;rw[e1];cases hv:(bq (ops i))[j]? with
    |none=>exact absurd (Array.getElem?_eq_none_iff.1 hv) (by have:(bq (ops i)).size=10:=rfl;omega)
    |some v=>exact hheld b (by simp) _ v ⟨rfl,by omega,by omega⟩ (hz.trans hv)
 have hcalls:∀t:Nat->Question->Nat,Calls U.Qg f #[.slice ad len cap] {bare K V with tape:=t} λe w'=>∃v,e=.returned v/\(v=.bool true/\∀k,k<V.heap.size->w'.heap[k]?=(bare K V).heap[k]?):=λt=>by
  have hsz:({bare K V with tape:=t}:World).heap.size=V.heap.size:=by
   show (bare K V).heap.size=_;rw[oq]
  have h:=hq ad len cap ops {bare K V with tape:=t} (hsc t) hlen hok;rw[aa.is]at h;refine h.mono ?_;rintro e w' ⟨rfl,hb⟩;exact⟨_,rfl,rfl,λk hk=>hb.block k (by rw[hsz];exact hk)⟩
 obtain⟨M,last,o,w',t',r1,r2,r3,r4⟩:=U.OT (J:=J) (K:=K) (V:=V) (W:=W) (λg hg=>absurd (show g<0 from hg) (Nat.not_lt_zero g)) hbl (f:=f) hf hnp hin (hcol J)
  (args:=#[.slice ad len cap]) (λv hv=>by
   simp only[List.mem_toArray,List.mem_cons,List.not_mem_nil,or_false]at hv;subst hv;exact harg)
  (Φ:=λx w1=>x=.bool true/\∀k,k<V.heap.size->w1.heap[k]?=(bare K V).heap[k]?) (λ_ _ _ h=>h) hcalls
 exact⟨M,last,o,w',t',r1,r2,r3,r4.mono λv hp=>U.DR hbl (hres J) (λπ y h=>by cases h;rfl) hp⟩
theorem IE{b:Nat}{x:TypeId×Nat}(h:W.shape? b=some x): ∃c e f,W.heap[b]?=some (.cells c e f):=by
 unfold World.shape? at h;split at h
 ·rename_i c e f hx;exact⟨_,_,_,hx⟩
 ·cases h
theorem Qp(hf:U.cu.fb f=true)(hnp:f≠fQ)(hin:Pg.inits.idxOf? f=none)(hcol:∀J i,(bG J).bO f i=.any)(hres:∀J,(bG J).res f=.any)(hq:∀(ad:Option Addr) (n cap:Nat) (ops:Nat->bU) (w:World),kK w ad n ops->n<=1500000000000->(∀i,i<n->fC (ops i))->Calls aa.prog f #[.slice ad n cap] w λe w'=>e=.returned (.bool true)/\Below w.heap.size w w'){enc:TypeId×Value->H}{a0:Option Addr}{len:Nat}{d0:DataW H}{p0:List MemPlace}(o0:Value.okWide Tryz.prog W .any base 22 (.slice a0 len cap))(h0:DataW.Trod enc Tryz.prog W 0 (λ_=>true) true 22 (Value.slice a0 len cap) d0 p0)(hk:∀el sp,d0=.slice el sp->(el.length+sp.length)*96<=140737488351232):
  ∃M last o w' t',runNT Tryz.prog (M+1) (solo (G (Frame.enter Tryz.prog f #[.slice a0 len cap] .normal) []) W) #[]=(.ended o w',t')/\runN Tryz.prog M (solo (G (Frame.enter Tryz.prog f #[.slice a0 len cap] .normal) []) W)=.next last/\
   step Tryz.prog last=.ended o w'/\Conc.Good Tryz.prog (λv W'=>v=.bool true/\Below W.heap.size W W') last o w' t':=by
 obtain⟨fuel,hf0⟩:=h0;have hblk:∀a,a0=some a->a.spot=none/\∃c e f,W.heap[a.block]?=some (.cells c e f):=λa e=>by
  subst e;simp only[Value.okWide,Tryz.underlying22,Cell.okWide,Cell.ok]at o0;obtain⟨_,_,_,hsp,row,cells,hsh,_⟩:=o0;exact⟨hsp,IE hsh⟩
 rcases Go.Deep.open_slice Tryz.underlying22 hf0 with⟨hcs,_⟩|⟨a,len',cap',m,n,D,Pl,hcs,_,hl,hm,hmm,hx,hel⟩
 ·simp[Value.cells]at hcs;obtain⟨rfl,rfl,rfl⟩:=hcs;exact runs hf hnp hin hcol hres hq (ops:=λ_=>mO) (.inl ⟨rfl,rfl⟩) (by omega) (λi hi=>absurd hi (by omega))
 ·simp[Value.cells]at hcs;obtain⟨rfl,rfl,rfl⟩:=hcs;have hd:d0=.slice ((List.range len).map D) ((List.range (m-len)).map λj=>D (len+j)):=congrArg (·.1) hx;have hle:len<=m:=by rw[hmm];simp;omega
  have hinh:Inhabited bU:=⟨mO⟩
  obtain⟨ops,hops⟩:=Go.Deep.choose_lt (α:=bU) (n:=len) (p:=λi o=>(∀j,j<10->W.cell? ((a.add (i*10)).add j)=(bq o)[j]?)/\fC o) (λi hi=>by
   obtain⟨cs',h1,h2⟩:=hel i (by omega);rw[BI]at h1;obtain⟨o,ho,hok⟩:=Kh h2;obtain⟨_,_,h3⟩:=World.cells?_some h1;exact⟨o,λj hj=>by rw[h3 j hj,ho];simp,hok⟩)
  have hlen:len<=1500000000000:=by
   have:=hk _ _ hd;simp only[List.length_map,List.length_range]at this;omega
  obtain⟨hsp,c,e,g,hh⟩:=hblk a rfl;obtain⟨b,off,spot⟩:=a;obtain rfl:spot=none:=hsp;refine runs hf hnp hin hcol hres hq (ops:=ops) (.inr ⟨b,off,c,e,g,rfl,hh,λi hi j hj=>?_⟩) hlen λi hi=>(hops i hi).2
  have:=(hops i hi).1 j hj;rwa [add_plain,add_plain]at this
end Go.Proofs.YtldmcdeibiclkaaGreat.ScriptRow
end
section
namespace Go.Proofs.YtldmcdeibiclkaaGreat.SummedRow
open Go.ChangeShapes Go.WideShapes Go.ChangeAt Go.RowKit Go.Conc
open Go.Proofs.YtldmcdeibiclkaaGreat.ScriptRow
open Go.Proofs.YtldmcdeibiclkaaGreatQ (bU bq fC mO kK)
theorem C7(H:Type)(enc:TypeId×Value->H)(W:World)(base:Nat)(args:Array Value)(ds gs:List (DataW H))(before:List MemPlace)(hval:∀(j:Nat) t v,Tryz.f4.params[j]?=some t->args[j]?=some v->Value.okWide Tryz.prog W .any base t v)(hW:DataW.Whole enc Tryz.prog Tryz.f4.params.toList Rows.summedSpec.vars false W args.toList ds gs before)(hsz:(DataW.weightsEach Tryz.prog (Tryz.f4.params.toList++Rows.summedSpec.plain.varTypes Tryz.prog) (ds++gs)).all (·<=reachBytes)=true):
  ∃M last o w' t',runNT Tryz.prog (M+1) (solo (G (Frame.enter Tryz.prog 4 args .normal) []) W) #[]=(.ended o w',t')/\runN Tryz.prog M (solo (G (Frame.enter Tryz.prog 4 args .normal) []) W)=.next last/\
   step Tryz.prog last=.ended o w'/\Conc.Good Tryz.prog (λv W'=>Rows.summedSpec.post enc Tryz.prog Tryz.f4 false true false false W args v W') last o w' t':=by
 have hW':=hW;obtain⟨p,q,hA0,hV,rfl,hfz,hnd⟩:=hW;have hA:DataW.TrodAll enc Tryz.prog W 0 (λ_=>true) true Tryz.f4.params.toList args.toList ds p:=hA0;rw[Tryz.params4]at hA hval hsz;obtain⟨v0,vs0,d0,ds0,p0,q0,hargs,rfl,rfl,h0,r0⟩:=trodAll_cons hA;obtain⟨rfl,rfl,rfl⟩:=trodAll_nil r0;obtain rfl:args=#[v0]:=by cases args;simp_all
 obtain⟨rfl,rfl⟩:=trodVars_none hV;have o0:=hval 0 22 v0 rfl rfl;obtain⟨a0,len,cap,rfl⟩:=okWide_slice Tryz.underlying22 o0;have hlt:∀x∈p0,x.block<W.heap.size:=λx hx=>by simpa using hW'.lt x (by simp[hx])
 have hk:∀el sp,d0=.slice el sp->(el.length+sp.length)*96<=140737488351232:=λel sp e=>by
  have hb:=sized_slice hsz (j:=0) (t:=22) (e:=36) (elems:=el) (spare:=sp) rfl (by rw[e];rfl) Tryz.underlying22;rw[Bo]at hb;have hr:reachBytes=140737488351232:=by rfl
  rwa [hr]at hb
 obtain⟨M,last,o,w',t',h1,h2,h3,h4⟩:=Qp (f:=4) (by kernel_rfl) (by decide) (by kernel_rfl) (λJ i=>by rfl) (λJ=>by kernel_rfl) Go.Proofs.YtldmcdeibiclkaaGreatQ.PA o0 h0 hk;clear hA0;refine⟨M,last,o,w',t',h1,h2,h3,h4.mono λv ⟨hv,hb⟩=>?_⟩;subst hv;refine⟨_,_,_,[],p0++ [],[],hW',?_,?_,rfl,hb.frame _,λh=>by cases h⟩
 ·exact trodAll_cons_mk (shut_bool Tryz.underlying4 _) trodAll_mk0
 ·exact trodAll_cons_mk (Below.trod laidOut (by kernel_rfl) (of_decide_eq_true (by kernel_rfl)) h0 hb hlt) trodAll_mk0
theorem lifted(os:Os)(started:os.Started)(H:Type)(enc:TypeId×Value->H):
  ReturnsInLeavingWide {} Tryz.checked os 4 .any (Rows.summedSpec.pre6 enc Tryz.prog Tryz.f4 Rows.summedRow.domain false) (Rows.summedSpec.post enc Tryz.prog Tryz.f4 false true false false):=
 returnsInLeavingWide_of_change_sized (C:=Tryz.checked) own started Tryz.func4
  (ChangeSpec.witness6 (enc:=enc) (C:=Tryz.checked) false ⟨#[],#[.slice none 0 0],[]⟩ 8 (by kernel_rfl) (by kernel_rfl) (by kernel_rfl) (by kernel_rfl))
  (λW base args ds gs before hval hW _ hsz _=>C7 H enc W base args ds gs before hval hW hsz)
end Go.Proofs.YtldmcdeibiclkaaGreat.SummedRow
namespace Go.Proofs.YtldmcdeibiclkaaGreat
theorem summed_holds:Rows.SummedSaid:=
 OpenClaim.holds_of_wide_leaving 4 Tryz.f4 rfl rfl rfl rfl rfl rfl rfl ⟨rfl,rfl,rfl,rfl,rfl⟩ rfl rfl rfl rfl rfl (by kernel_rfl) Tryz.func4 (by kernel_rfl)
  (of_decide_eq_true (by kernel_rfl)) (by unfold Func.isWrapper;first|(rw[if_pos (by decide+kernel)];kernel_rfl)|(rw[if_neg (by decide+kernel)];exact⟨rfl,rfl⟩))
  (λos started H enc _=>SummedRow.lifted os started H enc)
end Go.Proofs.YtldmcdeibiclkaaGreat
end
