/-
  Toward converged_holds: Loads and stores of a whole memory; the dice within a frame.
-/
import Derived.Test.YtldmcdeibiclkaaGreatDoorC24
import Derived.Deep.CutRange
import Derived.Test.YtldmcdeibiclkaaGreatDoorC23
import Derived.Test.YtldmcdeibiclkaaGreatDoorC22
import Derived.Test.YtldmcdeibiclkaaGreatDoorC17
import Derived.Deep.DrawnRows
set_option linter.unusedVariables false
set_option linter.unusedSimpArgs false
set_option maxRecDepth 100000
set_option maxHeartbeats 20000000
namespace Go.Proofs.YtldmcdeibiclkaaGreatDoorQ
variable {b o B at2:Nat}{t:TypeId}{W:World}{C A:Array Value}
open Go.RowKit
section
def iC(w:World)(b o:Nat):List Value:=(List.range 84).map λj=>(w.cell? ⟨b,o+j,none⟩).getD undef
def lW(w:World)(b o:Nat):Prop:=∀j,j<84->(w.cell? ⟨b,o+j,none⟩).isSome=true
def rC(w:World):Value->Prop
 |.pointer (some ⟨b,o,none⟩)=>lW w b o
 |_=>False
def vg(w:World):Value->Value
 |.pointer (some ⟨b,o,none⟩)=>.agg (iC w b o).toArray
 |_=>undef
theorem xT(w:World)(b o:Nat):rC w (.pointer (some ⟨b,o,none⟩))=lW w b o:=rfl
theorem qE(w:World)(b o:Nat):vg w (.pointer (some ⟨b,o,none⟩))=.agg (iC w b o).toArray:=rfl
theorem uF(w:World)(b o:Nat):(iC w b o).length=84:=by simp[iC]
theorem EB{w:World}(h:lW w b o):w.rangeAt b o (iC w b o):=λj v hv=>by
 have hj:j<84:=by have:=(List.getElem?_eq_some_iff.1 hv).1;rwa [uF]at this
 have:=h j hj;obtain⟨u,hu⟩:=Option.isSome_iff_exists.1 this;simp[iC,hj,hu]at hv;rw[hu,hv]
theorem F3{w:World}{cs:List Value}(h:w.rangeAt b o cs)(hl:cs.length=84):iC w b o=cs/\lW w b o:=by
 refine⟨?_,λj hj=>?_⟩
 ·apply List.ext_getElem?;intro j;by_cases hj:j<84
  ·have hc:cs[j]?=some cs[j]:=List.getElem?_eq_getElem (by omega);rw[hc];simp[iC,hj,h j _ hc]
  ·rw[List.getElem?_eq_none (by rw[uF];omega),List.getElem?_eq_none (by omega)]
 ·rw[h j _ (List.getElem?_eq_getElem (by omega))];rfl
theorem aa.vc:(aa.prog.info? 74).map (·.size)=some 84:=by kernel_rfl
theorem vB(d:Option Tmp)(x:Operand)(ty:TypeId)(pos:String)(aft:Array Edge)(gd:Option (Nat×Bool))(a:Act)(w:World)(K:Act->World->Prop)(Q:Exit->Act->World->Prop)(h:rC w (a.eval x)):
  Oper.wp aa.prog {dst:=d,op:=.load 74 x,type:=ty,pos:=pos,after:=aft,guard:=gd} a w K Q=K (a.put d (vg w (a.eval x))) w:=by
 unfold rC at h;split at h
 ·rename_i b o heq;rw[heq,qE];unfold Oper.wp execOp;simp only[heq,Instr.loadAt,Instr.sureAddr,VQ,WG,We,Xc w b o 74 (iC w b o) _ (EB h) aa.underlying74 rfl (by rw[aa.vc,uF])];rfl
 ·exact h.elim
def kQ(w:World):Value->Value->Prop
 |.pointer (some ⟨b,o,none⟩),.agg cs=>w.there b o 84/\cs.size=84/\cs.all (·.oneCell')=true
 |_,_=>False
def C8(w:World):Value->Value->World
 |.pointer (some ⟨b,o,none⟩),.agg cs=>w.setCells b o cs.toList
 |_,_=>w
theorem wI(w:World)(b o:Nat)(cs:Array Value):kQ w (.pointer (some ⟨b,o,none⟩)) (.agg cs)=(w.there b o 84/\cs.size=84/\cs.all (·.oneCell')=true):=rfl
theorem uN(w:World)(b o:Nat)(cs:Array Value):C8 w (.pointer (some ⟨b,o,none⟩)) (.agg cs)=w.setCells b o cs.toList:=rfl
theorem wZ(d:Option Tmp)(x y:Operand)(ty:TypeId)(pos:String)(aft:Array Edge)(gd:Option (Nat×Bool))(a:Act)(w:World)(K:Act->World->Prop)(Q:Exit->Act->World->Prop)(h:kQ w (a.eval x) (a.eval y)):
  Oper.wp aa.prog {dst:=d,op:=.store 74 x y,type:=ty,pos:=pos,after:=aft,guard:=gd} a w K Q=K (a.put d undef) (C8 w (a.eval x) (a.eval y)):=by
 unfold kQ at h;split at h
 ·rename_i b o cs heq heq';rw[heq,heq',uN];unfold Oper.wp execOp;simp only[heq,heq',Instr.storeAt,Instr.sureAddr,VQ,WG,We,run_storeVar_mid w b o 74 cs (by rw[h.2.1];exact h.1) (by rw[aa.vc,h.2.1]) h.2.2];rfl
 ·exact h.elim
theorem EK(m:Mem):∀v∈b9 m,v.oneCell'=true:=by
 intro v hv;simp only[b9,List.mem_append]at hv;rcases hv with hv|hv
 ·simp at hv;rcases hv with rfl|rfl|rfl|rfl<;>rfl
 ·exact vf m.2 v hv
def Jx(w:World)(bx:Nat)(ad:Option Addr)(n cap:Nat)(w':World):Prop:=
 Fr (λk=>k=bx) w w'/\(∃at2:Nat,at2<=n/\w'.heap[bx]?=some (.cells #[.slice ad n cap,.int .i64 at2] 25))/\bx<w.heap.size
section
variable {w w1 w2:World}{bx n cap:Nat}{ad:Option Addr}
theorem Jx.drew(h:Jx w bx ad n cap w1):Jx w bx ad n cap w1.drew:=⟨h.1.drew,h.2.1,h.2.2⟩
theorem Jx.alloc(h:Jx w bx ad n cap w1)(X:Obj):Jx w bx ad n cap (w1.alloc X):=by
 obtain⟨h1,⟨a,h2,h3⟩,h4⟩:=h;exact⟨h1.alloc X,⟨a,h2,by rw[Vx _ _ _ (Array.getElem?_eq_some_iff.1 h3).1];exact h3⟩,h4⟩
theorem Jx.below(h:Jx w bx ad n cap w1)(hb:Below w1.heap.size w1 w2):Jx w bx ad n cap w2:=by
 obtain⟨h1,⟨a,h2,h3⟩,h4⟩:=h;exact⟨h1.below hb,⟨a,h2,aS h3 hb⟩,h4⟩
theorem Jx.setCell(h:Jx w bx ad n cap w1)(hb:w.heap.size<=b)(v:Value):Jx w bx ad n cap (w1.setCell ⟨b,o,none⟩ v):=by
 obtain⟨h1,⟨a,h2,h3⟩,h4⟩:=h;have hne:bx≠b:=by omega
 exact⟨h1.setCell (Or.inl hb) v,⟨a,h2,by rw[VC _ _ _ _ hne];exact h3⟩,h4⟩
theorem Jx.setCells(h:Jx w bx ad n cap w1)(hb:w.heap.size<=b):∀(vs:List Value) (o:Nat),Jx w bx ad n cap (w1.setCells b o vs):=by
 intro vs;induction vs generalizing w1 with
 |nil=>intro o;exact h
 |cons v vs ih=>intro o;rw[World.setCells];exact ih (h.setCell hb v) (o+1)
theorem Jx.toBelow(h:Jx w bx ad n cap w1)(hb:B<=bx):Below B w w1:=
 h.1.toBelow (λk e=>by rw[e];exact hb) (by have:=h.2.2;omega)
theorem Jx.yC(h:Jx w bx ad n cap w1)(hn:n<=9223372036854775807)(hc:nu w ad n)(hnb:0<n->∀b off,ad=some ⟨b,off,none⟩->b≠bx): ∃at2,bY w1 bx ad n cap at2:=by
 obtain⟨h1,⟨a,h2,h3⟩,h4⟩:=h;refine⟨a,h3,h2,hn,?_⟩;rcases hc with hc|⟨b,off,rfl,hall⟩
 ·exact Or.inl hc
 ·refine Or.inr ⟨b,off,rfl,λj hj=>?_⟩;obtain⟨z,hz,hr⟩:=hall j hj;exact⟨z,h1.cell hz (hnb (by omega) b off rfl),hr⟩
theorem Jx.next(h:Jx w bx ad n cap w1)(hg:w1.grownBy w2 (some bx))(hd:bY w2 bx ad n cap at2):Jx w bx ad n cap w2:=
 ⟨h.1.grown hg (λk e _=>by cases e;rfl),⟨at2,hd.2.1,hd.1⟩,h.2.2⟩
theorem Jx.start(h:bY w bx ad n cap at2):Jx w bx ad n cap w:=
 ⟨Fr.refl _ _,⟨at2,h.2.1,h.1⟩,(Array.getElem?_eq_some_iff.1 h.1).1⟩
end
end
section
attribute [local go_sem ↓] vB wZ
attribute [local go_sem] xT qE wI uN
theorem xd(f:Operand->Value)(d:Option Tmp)(x:Operand)(ty:TypeId)(pos:String)(aft:Array Edge)(gd:Option (Nat×Bool))(w:World)(h:rC w (f x)):
  (execOp f {dst:=d,op:=.load 74 x,type:=ty,pos:=pos,after:=aft,guard:=gd}).run aa.prog w=.ok (.value (vg w (f x))) w:=by
 unfold rC at h;split at h
 ·rename_i b o heq;rw[heq,qE];unfold execOp;simp only[heq,Instr.loadAt,Instr.sureAddr,VQ,WG,We,Xc w b o 74 (iC w b o) _ (EB h) aa.underlying74 rfl (by rw[aa.vc,uF])]
 ·exact h.elim
attribute [local go_sem ↓] xd
def gU(l:List Mem)(r:Nat):Mem:=l.getD r (λ_=>0,λ_=>false)
theorem vX(l:List Mem)(r:Nat)(h:r<l.length):gU l r=l[r]:=by
 unfold gU;rw[List.getD_eq_getElem?_getD,List.getElem?_eq_getElem h];rfl
theorem yO{p:Nat}(hC:C.size=84)(h:W.heap[p]?=some (.cells C t))(m:Mem):
  (storeCells ⟨p,0,none⟩ (b9 m)).run aa.prog W=.ok () (W.setCells p 0 (b9 m)):=by
 obtain⟨e,f⟩:=au h
 have:=run_storeCells_cells (P:=aa.prog) p 0 (b9 m) 0 W (λj hj=>by
   have hj':j<84:=by rwa [kG]at hj
   simp[e,hC,hj']) (λj hj=>by simpa using f j) (EK m)
 simpa using this
theorem sU{p:Nat}(hC:C.size=84)(h:W.heap[p]?=some (.cells C t))(m:Mem):(W.setCells p 0 (b9 m)).heap[p]?=some (.cells (b9 m).toArray t):=by
 have:=oI h (b9 m).toArray (by rw[hC,List.size_toArray,kG]);simpa using this
theorem BQ(W:World)(m:Mem):(storeCells ⟨W.heap.size,0,none⟩ (b9 m)).run aa.prog (W.alloc (.cells eJ 74))=.ok () ((W.alloc (.cells eJ 74)).setCells W.heap.size 0 (b9 m)):=
 yO gR (BY W _) m
theorem Fi{w w1:World}{bx:Nat}(hg:(w.drew.alloc (.cells eJ 74)).grownBy w1 (some bx))(hbx:bx<w.heap.size):w1.heap[w.heap.size]?=some (.cells eJ 74):=by
 rw[hg.block w.heap.size (by simp) (λe=>by cases e;omega)];exact BY w.drew _
def Ot(bt k:Nat)(g:ay)(w':World):Prop:=
 w'.cell? ⟨bt,1922+k,none⟩=some (g.mv k)/\(∀r,r<(g.mem k).length->lW w' (g.gm k) (r*84))/\(∀r,r<(g.mem k).length->iC w' (g.gm k) (r*84)=b9 (gU (g.mem k) r))
theorem bk.px{w:World}{bt k:Nat}{g:ay}(h:bk B w bt g)(hk:k<3):Ot bt k g w:=by
 have hx:∀r,r<(g.mem k).length->w.rangeAt (g.gm k) (r*84) (b9 (gU (g.mem k) r)):=λr hr j v hv=>by
  have hj:j<84:=by have:=(List.getElem?_eq_some_iff.1 hv).1;rwa [kG]at this
  obtain⟨gw,cw,hwv,hw1,hw2,hcells⟩:=Dj (h.cG k hk) (by omega);cases hwv;refine hcells _ _ ?_ ?_
  ·omega
  ·rw[BK _ r hr j hj];rw[vX _ _ hr]at hv;exact hv
 refine⟨?_,λr hr=>(F3 (hx r hr) (kG _)).2,λr hr=>(F3 (hx r hr) (kG _)).1⟩;rw[(au h.hT).1];exact h.eS k hk
theorem pf(m:Mem)(j:Nat)(h:j<80):(b9 m).toArray[4+j]?=some (.bool (m.2 j)):=by
 rw[List.getElem?_toArray,b9,List.getElem?_append_right (by simp)]
 have:=kZ m.2 j h;simp only[VL,Wt];rw[show 4+j-(0+1+1+1+1)=j by omega,Array.getElem?_toList];exact this
end
def jX(w:World)(b o:Nat):List Value:=(List.range 80).map λj=>(w.cell? ⟨b,o+j,none⟩).getD undef
def hasB(w:World)(b o:Nat):Prop:=∀j,j<80->(w.cell? ⟨b,o+j,none⟩).isSome=true
def okB(w:World):Value->Prop
 |.pointer (some ⟨b,o,none⟩)=>hasB w b o
 |_=>False
def Fp(w:World):Value->Value
 |.pointer (some ⟨b,o,none⟩)=>.agg (jX w b o).toArray
 |_=>undef
theorem tM(w:World)(b o:Nat):okB w (.pointer (some ⟨b,o,none⟩))=hasB w b o:=rfl
theorem qo(w:World)(b o:Nat):Fp w (.pointer (some ⟨b,o,none⟩))=.agg (jX w b o).toArray:=rfl
theorem zP(w:World)(b o:Nat):(jX w b o).length=80:=by simp[jX]
theorem Sb{w:World}(h:hasB w b o):w.rangeAt b o (jX w b o):=λj v hv=>by
 have hj:j<80:=by have:=(List.getElem?_eq_some_iff.1 hv).1;rwa [zP]at this
 have:=h j hj;obtain⟨u,hu⟩:=Option.isSome_iff_exists.1 this;simp[jX,hj,hu]at hv;rw[hu,hv]
theorem lC{w:World}{s:Nat->Bool}(h:∀j,j<80->w.cell? ⟨b,o+j,none⟩=some (.bool (s j))):(jX w b o).toArray=bits s/\hasB w b o:=by
 refine⟨?_,λj hj=>by rw[h j hj];rfl⟩;unfold bits jX;congr 1;refine Wb λj hj=>?_;rw[h j (List.mem_range.1 hj)];rfl
theorem sA(w:World)(b o:Nat):jX w.drew b o=jX w b o:=rfl
theorem uI(w:World)(b o:Nat):hasB w.drew b o=hasB w b o:=rfl
theorem um(d:Option Tmp)(x:Operand)(ty:TypeId)(pos:String)(aft:Array Edge)(gd:Option (Nat×Bool))(a:Act)(w:World)(K:Act->World->Prop)(Q:Exit->Act->World->Prop)(h:okB w (a.eval x)):
  Oper.wp aa.prog {dst:=d,op:=.load 33 x,type:=ty,pos:=pos,after:=aft,guard:=gd} a w K Q=K (a.put d (Fp w (a.eval x))) w:=by
 unfold okB at h;split at h
 ·rename_i b o heq;rw[heq,qo];unfold Oper.wp execOp;simp only[heq,Instr.loadAt,Instr.sureAddr,VQ,WG,We,Xc w b o 33 (jX w b o) _ (Sb h) aa.underlying33 rfl (by rw[aa.sJ,zP])];rfl
 ·exact h.elim
def lY(w:World)(b o:Nat):Prop:=w.there b o 80
theorem vp(w:World)(b o:Nat):lY w.drew b o=lY w b o:=rfl
def zr(w:World):Value->Value->Prop
 |.pointer (some ⟨b,o,none⟩),.agg cs=>lY w b o/\∃s,cs=bits s
 |_,_=>False
def BU(w:World):Value->Value->World
 |.pointer (some ⟨b,o,none⟩),.agg cs=>w.setCells b o cs.toList
 |_,_=>w
theorem ym(w:World)(b o:Nat)(s:Nat->Bool):zr w (.pointer (some ⟨b,o,none⟩)) (.agg (bits s))=lY w b o:=by
 apply propext;exact⟨λh=>h.1,λh=>⟨h,s,rfl⟩⟩
theorem sj(w:World)(b o:Nat)(cs:Array Value):BU w (.pointer (some ⟨b,o,none⟩)) (.agg cs)=w.setCells b o cs.toList:=rfl
theorem yf(d:Option Tmp)(x y:Operand)(ty:TypeId)(pos:String)(aft:Array Edge)(gd:Option (Nat×Bool))(a:Act)(w:World)(K:Act->World->Prop)(Q:Exit->Act->World->Prop)(h:zr w (a.eval x) (a.eval y)):
  Oper.wp aa.prog {dst:=d,op:=.store 33 x y,type:=ty,pos:=pos,after:=aft,guard:=gd} a w K Q=K (a.put d undef) (BU w (a.eval x) (a.eval y)):=by
 unfold zr at h;split at h
 ·rename_i b o cs heq heq';obtain⟨h1,s,rfl⟩:=h;rw[heq,heq',sj];unfold Oper.wp execOp;simp only[heq,heq',Instr.storeAt,Instr.sureAddr,VQ,WG,We,run_storeVar_mid w b o 33 (bits s) (by rw[jf];exact h1) (by rw[aa.sJ,jf]) (Array.all_eq_true_iff_forall_mem.2 (λv hv=>vf s v (by simpa using hv)))];rfl
 ·exact h.elim
theorem tB{w:World}(h:w.heap[b]?=some (.cells A t))(hs:o+80<=A.size):lY w b o:=λj hj=>by
 obtain⟨e,f⟩:=au h;refine⟨?_,f _⟩;rw[e,Array.getElem?_eq_getElem (by omega)];rfl
theorem tL{w:World}(h:w.heap[b]?=some (.cells A t))(hs:o+80<=A.size)(s:Nat->Bool):
  ∃A',(w.setCells b o (bits s).toList).heap[b]?=some (.cells A' t)/\A'.size=A.size/\(∀j,j<80->A'[o+j]?=some (.bool (s j)))/\∀j,(j<o\/o+80<=j)->A'[j]?=A[j]? :=by
 obtain⟨A',h1,h2,h3⟩:=vR b t (bits s).toList o w A h;have hl:(bits s).toList.length=80:=by rw[Wc,jf]
 refine⟨A',h1,h2,λj hj=>?_,λj hj=>?_⟩
 ·rw[h3,AS ⟨by omega,by omega,by omega⟩,show o+j-o=j by omega,Array.getElem?_toList];exact kZ s j hj
 ·rw[h3,AI (by omega)]
end Go.Proofs.YtldmcdeibiclkaaGreatDoorQ
namespace Go.Proofs.YtldmcdeibiclkaaGreatDoorQ
variable {ws:List Wr}{k:Nat}{kn m:Nat->Bool}
def fY(f:Nat->Bool):Nat->Bool
 |0=>false
 |j+1=>fY f j||f j
def cg(f:Nat->Bool):Nat->Nat
 |0=>0
 |j+1=>cg f j+(if f j then 1 else 0)
theorem Em{f g:Nat->Bool}:∀{m:Nat},(∀j,j<m->f j=g j)->cg f m=cg g m
 |0,_=>rfl
 |m+1,h=>by rw[cg,cg,Em (λj hj=>h j (by omega)),h m (by omega)]
theorem xE{f m:Nat->Bool}:∀{n:Nat},(fY (λj=>f j&&m j) n=false->cg (λj=>f j&&!m j) n=cg f n)/\(fY (λj=>f j&&m j) n=true->cg (λj=>f j&&!m j) n<cg f n)/\cg (λj=>f j&&!m j) n<=cg f n
 |0=>⟨λ_=>rfl,λh=>by simp[fY]at h,eR _⟩
 |n+1=>by
  obtain⟨h1,h2,h3⟩:=xE (f:=f) (m:=m) (n:=n);simp only[fY,cg];generalize fY (λj=>f j&&m j) n=A at*;generalize cg (λj=>f j&&!m j) n=x at*;generalize cg f n=y at*;rcases Bool.eq_false_or_eq_true (f n) with hf|hf<;>rcases Bool.eq_false_or_eq_true (m n) with hm|hm<;>simp only[hf,hm]<;>cases A<;>simp at* <;>omega
theorem zz{ws:List Wr}{kn go:Nat->Bool}{k:Nat}(hk:∀(j:Nat) (x:Wr),ws[j]?=some x->kn j=true->x.2.1=k/\x.1<4):∀m,m<=ws.length->
  (cJ ws kn go k 0 m).length+(cJ ws kn go k 1 m).length+(cJ ws kn go k 2 m).length+(cJ ws kn go k 3 m).length=cg (λj=>kn j&&!go j) m
 |0,_=>by simp[cJ,cg]
 |m+1,hm=>by
  have ih:=zz (go:=go) hk m (by omega);obtain⟨x,hx⟩: ∃x,ws[m]?=some x:=⟨ws[m],List.getElem?_eq_getElem (by omega)⟩
  rw[cg];by_cases h:kn m=true/\go m=false
  ·obtain⟨h1,h2⟩:=hk m x hx h.1;have hb:∀b,(cJ ws kn go k b (m+1)).length=(cJ ws kn go k b m).length+(if x.1=b then 1 else 0):=λb=>by
    by_cases e:x.1=b
    ·rw[yd hx h1 e h.1 h.2,AS e];simp
    ·rw[rW hx (λq=>e q.2.1),AI e];rfl
   rw[hb,hb,hb,hb,h.1,h.2];simp only[Bool.not_false,Bool.and_self,IS];rcases fc h2 with e|e|e|e<;>rw[e]<;>simp<;>omega
  ·have hb:∀b,cJ ws kn go k b (m+1)=cJ ws kn go k b m:=λb=>rW hx (λq=>h q.2.2);rw[hb,hb,hb,hb,ih];have hf:(kn m&&!go m)=false:=by
    cases e1:kn m<;>cases e2:go m<;>simp_all
   rw[hf];simp
theorem sT{go:Nat->Bool}(hk:∀(j:Nat) (x:Wr),ws[j]?=some x->kn j=true->x.2.1=k/\x.1<4):(expected ws kn go k).length=cg (λj=>kn j&&!go j) ws.length:=by
 rw[<-zz hk _ (eR _),expected,four];simp only[VF];omega
theorem tH{go:Nat->Bool}{c:Ctx}(hk:∀(j:Nat) (x:Wr),ws[j]?=some x->kn j=true->x.2.1=k/\x.1<4)(hm:Good ws k c m):
  (aT (expected ws kn go k) c).length=cg (λj=>(kn j&&!go j)&&!m j) ws.length:=by
 rw[vI (m:=m) (λj x hx hxk=>by rw[hm.1 j x hx];exact⟨λh=>h.2,λh=>⟨hxk,h⟩⟩),sT hk];refine Em λj _=>?_;cases kn j<;>cases go j<;>cases m j<;>rfl
theorem Td{go:Nat->Bool}{c:Ctx}(hk:∀(j:Nat) (x:Wr),ws[j]?=some x->kn j=true->x.2.1=k/\x.1<4)(hm:Good ws k c m)(h:fY (λj=>(kn j&&!go j)&&m j) ws.length=false):
  (aT (expected ws kn go k) c).length=(expected ws kn go k).length:=by
 rw[tH hk hm,sT hk];exact xE.1 h
theorem PL{go:Nat->Bool}{c:Ctx}(hk:∀(j:Nat) (x:Wr),ws[j]?=some x->kn j=true->x.2.1=k/\x.1<4)(hm:Good ws k c m)(h:fY (λj=>(kn j&&!go j)&&m j) ws.length=true):
  (aT (expected ws kn go k) c).length<(expected ws kn go k).length:=by
 rw[tH hk hm,sT hk];exact xE.2.1 h
theorem Good.sound{c:Ctx}(h:Good ws k c m)(hl:ws.length<=80):fZ c=true:=by
 have hb:∀b,ej (c b)=true:=λb=>by
  have h1:=h.2.2 b;have h2:=tG ws b k;simp only[ej,VN];omega
 simp[fZ,hb]
end Go.Proofs.YtldmcdeibiclkaaGreatDoorQ
namespace Go.Proofs.YtldmcdeibiclkaaGreatDoorQ
variable {w w2 w' w1:World}{B i bt k n0 b j bx cap at':Nat}{g:ay}{ks:Nat->ByteArray}{X:Nat->Prop}{m:Mem}{A C:Array Value}{t:TypeId}{l:List aj}{K:al}{v sv:Value}{ad:Option Addr}
open Go.RowKit
structure lN(X:Nat->Prop)(w:World)(bt i n0:Nat)(g:ay):Prop where
 only:∀b,X b->b=bt\/b=g.bm i n0\/∃cur,w.heap[b]?=some (.cells cur 115 (0,0))
 hi:i<g.nr
 hn:n0<64
theorem bk.map{B:Nat}{w:World}{bt i n:Nat}{g:ay}(hN:bk B w bt g)(hi:i<g.nr)(hn:n<64): ∃es clock,w.heap[g.bm i n]?=some (.map es clock):=by
 obtain⟨es,clock,h,_⟩:=(hN.ct i hi).2.1 n hn;exact⟨es,clock,h⟩
theorem lN.cells(ht:lN X w bt i n0 g)(hN:bk B w bt g){fr:Nat×Nat}(hb:w.heap[b]?=some (.cells C t fr))(h1:t≠42)(h2:t≠115): ¬X b:=λh=>by
 rcases ht.only b h with e|e|⟨cur,e⟩
 ·rw[e,hN.hT]at hb;cases hb;exact h1 rfl
 ·obtain⟨es,clock,hm⟩:=hN.map ht.hi ht.hn;rw[e,hm]at hb;cases hb
 ·rw[e]at hb;cases hb;exact h2 rfl
theorem lN.other(ht:lN X w bt i n0 g)(hN:bk B w bt g){n:Nat}(hj:j<g.nr)(hn:n<64)(hne:j≠i): ¬X (g.bm j n):=λh=>by
 obtain⟨es,clock,hm⟩:=hN.map hj hn;rcases ht.only _ h with e|e|⟨cur,e⟩
 ·rw[e,hN.hT]at hm;cases hm
 ·exact hne (hN.fe j i n n0 hj ht.hi hn ht.hn e)
 ·rw[hm]at e;cases e
theorem lN.rep(ht:lN X w bt i n0 g)(hN:bk B w bt g)(hF:Fr X w w2)(hj:j<g.nr)(hne:j≠i):aA w2 (g.b j) (g.bm j) j (g.K j):=by
 refine hF.rep (hN.ct j hj) ?_ (λn hn=>ht.other hN hj hn hne) (λb cur hb=>ht.cells hN hb (by decide) (by decide));obtain⟨⟨A,hA,_⟩,_⟩:=hN.ct j hj;exact ht.cells hN hA (by decide) (by decide)
theorem jj.upd{key:ByteArray}{c:Ctx}(h:jj K)(h1:∀v∈l,v.rep<4)(h2:l.length<=100)(h3:∀v∈l,v.val.size<=12)(h4:∀i,i<4->0<=c i/\c i<=1000000):jj (bl K key (c,l)):=by
 intro s;by_cases e:s=key
 ·simp only[bl,AS e];exact⟨h1,h2,h3,h4⟩
 ·simp only[bl,AI e];exact h s
theorem Good.bounds{ws:List Wr}{c:Ctx}{m:Nat->Bool}(h:Good ws k c m)(hl:ws.length<=80)(b:Nat):0<=c b/\c b<=80:=by
 have h1:=h.2.2 b;have h2:=tG ws b k;omega
theorem bS.known(hI:bS ks g)(hi:i<g.nr)(hk:k<3)(j:Nat)(x:Wr)(hx:g.ws[j]?=some x)(h:g.kn i k j=true):x.2.1=k/\x.1<4:=
 ⟨(((hI.dc i k hi hk).1 j x hx).1 h).1,hI.dQ x (List.mem_of_getElem? hx)⟩
def ay.gx(g:ay)(ks:Nat->ByteArray)(i k:Nat)(m:Mem)(A:Array Value):ay:=
 {g with
  K:=λj=>if j=i then bl (g.K i) (ks k) (aU (g.K i (ks k)).1 m.1,aT (g.K i (ks k)).2 m.1) else g.K j
  kn:=λj l q=>if j=i/\l=k then g.kn i k q||m.2 q else g.kn j l q
  go:=λj l q=>if j=i/\l=k then g.go i k q||m.2 q else g.go j l q
  A:=A}
theorem bS.gx(hI:bS ks g)(hks:∀k l,k<3->l<3->ks k=ks l->k=l)(A:Array Value)(hi:i<g.nr)(hk:k<3)(hm:Good g.ws k m.1 m.2):bS ks (g.gx ks i k m A) where
 cC:=hI.cC
 hlen:=hI.hlen
 eH:=hI.eH
 dq:=hI.dq
 dQ:=hI.dQ
 dc:=λj l hj hl=>by
  simp only[ay.gx];by_cases e:j=i
  ·subst e;by_cases e':l=k
   ·subst e';simpa[bl] using (hI.dc j l hi hl).join hm
   ·have hne:ks l≠ks k:=λq=>e' (hks l k hl hk q);simpa[bl,e',hne] using hI.dc j l hj hl
  ·simpa[e] using hI.dc j l hj hl
 aD:=λj l hj hl=>by
  simp only[ay.gx];by_cases e:j=i
  ·subst e;by_cases e':l=k
   ·subst e';have h1:=hI.aD j l hj hl;have h2:=(hm.2.2 j).2;simp only[IS,bl,aU];omega
   ·have hne:ks l≠ks k:=λq=>e' (hks l k hl hk q);simpa[bl,hne] using hI.aD j l hj hl
  ·simpa[e] using hI.aD j l hj hl
 hex:=λj l hj hl=>by
  simp only[ay.gx];by_cases e:j=i
  ·subst e;by_cases e':l=k
   ·subst e';simp only[IS,bl,and_self];rw[hI.hex j l hj hl];exact L8 (m:=m.2) (λq x hx hxk=>by rw[hm.1 q x hx];exact⟨λh=>h.2,λh=>⟨hxk,h⟩⟩) (λ_ _=>rfl) (λ_ _=>rfl)
   ·have hne:ks l≠ks k:=λq=>e' (hks l k hl hk q);simpa[bl,e',hne] using hI.hex j l hj hl
  ·simpa[e] using hI.hex j l hj hl
 il:=λj l q hj hl hq=>by
  simp only[ay.gx];by_cases e:j=i/\l=k
  ·rw[AS e,hI.il i k q hi hk hq,hm.2.1 q hq];rfl
  ·rw[AI e];exact hI.il j l q hj hl hq
 jH:=hI.jH
 jb:=hI.jb
 eM:=λj hj=>by
  simp only[ay.gx];by_cases e:j=i
  ·subst e;rw[AS rfl];have hK:=hI.eM j hj;refine hK.upd (λv hv=>(hK (ks k)).1 v (List.mem_filter.1 hv).1) (OF (List.length_filter_le _ _) (hK (ks k)).2.1) (λv hv=>(hK (ks k)).2.2.1 v (List.mem_filter.1 hv).1) λb _=>?_;have h1:=((hI.dc j k hj hk).join hm).bounds hI.hlen b;omega
  ·rw[AI e];exact hI.eM j hj
 eV:=λj hj s hs=>by
  simp only[ay.gx]at hs;by_cases e:j=i
  ·subst e;rw[AS rfl]at hs;by_cases e':s=ks k
   ·exact⟨k,hk,e'⟩
   ·simp only[bl,AI e']at hs;exact hI.eV j hj s hs
  ·rw[AI e]at hs;exact hI.eV j hj s hs
 dE:=λj l q hj hl h=>by
  simp only[ay.gx]at h ⊢;by_cases e:j=i/\l=k
  ·obtain⟨rfl,rfl⟩:=e;simp only[and_self,IS,VU]at h ⊢;exact h.imp (hI.dE j l q hj hl) id
  ·rw[AI e]at h ⊢;exact hI.dE j l q hj hl h
theorem bk.gx(hN:bk B w bt g)(hF:Fr X w w2)(hX:∀b,X b->b=bt\/b=g.bm i n0)(hi:i<g.nr)(hi4:i<4)(hk:k<3)(hn:n0<64)(hT:w2.heap[bt]?=some (.cells A 42))(hA:A.size=1939)(ct:aA w2 (g.b i) (g.bm i) i (bl (g.K i) (ks k) (aU (g.K i (ks k)).1 m.1,aT (g.K i (ks k)).2 m.1)))(hg:∀j,j<80->A[962+i*240+k*80+j]?=some (.bool (g.go i k j||m.2 j)))(bz:∀j,j<80->A[2+i*240+k*80+j]?=some (.bool (g.kn i k j||m.2 j)))(ho:∀q,(q<2+i*240+k*80\/2+i*240+k*80+80<=q)->(q<962+i*240+k*80\/962+i*240+k*80+80<=q)->A[q]?=g.A[q]?):bk B w2 bt (g.gx ks i k m A):=by
 have ht:lN X w bt i n0 g:=⟨λb h=>by rcases hX b h with e|e;exact Or.inl e;exact Or.inr (Or.inl e),hi,hn⟩
 have hwr:∀b cur,w.heap[b]?=some (.cells cur 115 (0,0))->¬X b:=λb cur hb h=>by
  rcases hX b h with e|e
  ·rw[e,hN.hT]at hb;cases hb
  ·obtain⟨es,clock,hm'⟩:=hN.map hi hn;rw[e,hm']at hb;cases hb
 exact {
  hB:=hN.hB
  hT:=hT
  hA:=hA
  h0:=by show A[0]?=_;rw[ho 0 (by omega) (by omega)];exact hN.h0
  hR:=hF.heap hN.hR (ht.cells hN hN.hR (by decide) (by decide))
  iQ:=hN.iQ
  ct:=λj hj=>by
   simp only[ay.gx];by_cases e:j=i
   ·subst e;rw[AS rfl];exact ct
   ·rw[AI e];exact ht.rep hN hF hj e
  fe:=hN.fe
  h1:=by show A[1]?=_;rw[ho 1 (by omega) (by omega)];exact hN.h1
  hw:=hF.ji hN.hw hwr
  bz:=λj l q hj hl hq=>by
   simp only[ay.gx];by_cases e:j=i/\l=k
   ·obtain⟨rfl,rfl⟩:=e;rw[AS ⟨rfl,rfl⟩];exact bz q hq
   ·rw[AI e,ho _ (by omega) (by omega)];exact hN.bz j l q hj hl hq
  hgo:=λj l q hj hl hq=>by
   simp only[ay.gx];by_cases e:j=i/\l=k
   ·obtain⟨rfl,rfl⟩:=e;rw[AS ⟨rfl,rfl⟩];exact hg q hq
   ·rw[AI e,ho _ (by omega) (by omega)];exact hN.hgo j l q hj hl hq
  eS:=λl hl=>by show A[1922+l]?=_;rw[ho _ (by omega) (by omega)];exact hN.eS l hl
  cG:=λl hl=>hF.ji (hN.cG l hl) λb cur hb=>ht.cells hN hb (by decide) (by decide)
  eQ:=hN.eQ
  kV:=λj l hj hl=>by show A[1927+j*3+l]?=_;rw[ho _ (by omega) (by omega)];exact hN.kV j l hj hl}
def NR(sv:Value)(g:Nat):Prop:=∀a l c,sv=.slice (some a) l c->a.block≠g
theorem UA{n size:Nat}{xs:List Value}(h:w.ownsRow B t size v n xs):∀g,g<B->NR v g:=by
 intro g hg a l c hv e;rcases h.2 with h2|⟨g',cap,cur,hv',hg',_⟩
 ·rw[h2.1]at hv;cases hv
 ·rw[hv']at hv;cases hv;simp at e;omega
theorem Ns(h:az w sv l)(X:Obj):az (w.alloc X) sv l:=VD h X
theorem vi{g o:Nat}(h:az w sv l)(hn:NR sv g):az (w.setCell ⟨g,o,none⟩ v) sv l:=by
 obtain⟨h1,h2⟩:=h;refine⟨h1,?_⟩;rcases h2 with h2|⟨g',cap,cur,hv,hg,hh,r⟩
 ·exact Or.inl h2
 ·refine Or.inr ⟨g',cap,cur,hv,hg,?_,r⟩;rw[VC _ _ _ _ (hn _ _ _ hv)];exact hh
theorem Bw(b num:Nat)(bm:Nat->Nat)(K:al)(key val:ByteArray)(seen:Ctx)(w:World)(h:aA w b bm num K)(hK:jj K)(hkey:cS key=true)(hks:key.size<=8)(hvs:val.size<=12)(hseen:fZ seen=true)(hnum:num<4)(hn:(aT (K key).2 seen).length<20)(h0:0<=aU (K key).1 seen num)(h1:aU (K key).1 seen num<1000000):
  Calls aa.prog 21 #[.pointer (some ⟨b,0,none⟩),.string key,.string val,cU seen] w λe w'=>e=.returned (.int .i64 0)/\∃l',l'.Perm (aT (K key).2 seen++ [(num,aU (K key).1 seen num+1,val)])/\l'.Pairwise (λa b=>aP b a=false)/\aA w' b bm num (bl K key (bump (aU (K key).1 seen) num,l'))/\w.grownBy w' (some (bm (aC key))):=by
 have hb:=h.1;have HRep:Hid (aA w b bm num K):=h;obtain⟨es,clock,hm,hk,hall,_⟩:=h.2.1 _ (eX key);obtain⟨sv,hent,hvs0⟩:=hall key rfl;obtain⟨ad,cap,rfl,hcap⟩:=hvs0.len;have hlk:∀W:World,W.heap[bm (aC key)]?=some (.map es clock)->(Instr.lookup 98 (.map (some (bm (aC key)))) (.string key) false).run aa.prog W=.ok (bD (K key).1 (.slice ad (K key).2.length cap)) W:=λW hW=>by
  rw[ou W _ es clock key hW hk,hent]
 have HSeg:Hid (∀W,dX W b bm num->Calls aa.prog 39 #[.pointer (some ⟨b,0,none⟩),.string key] W λe w'=>e=.returned (.map (some (bm (aC key))))/\Below W.heap.size W w'/\w'.heap.size=W.heap.size):=λW hW=>uG b num bm key W (by unfold maxLen;omega) hW;have hbc0:w.cell? ⟨b,0,none⟩=some (.int .i64 num):=hb.num;have HBlk:Hid (∀W,Below w.heap.size w W->dX W b bm num):=λW hW=>(h.below hW).1;have HL:Hid ((K key).2.length<=100000):=OF (hK key).2.1 (by decide);have HR:Hid (∀v∈(K key).2,v.rep<4):=(hK key).1;generalize (K key).1=c at*;generalize (K key).2=l at*;have HV:Hid _:=hvs0;have HN:Hid _:=And.intro hn (And.intro h0 h1);have HKn:Hid (cH (bump (aU c seen) num)):=(show cH (bump (aU c seen) num) from⟨num,hnum,by simp only[bump,IS];omega⟩)
 have HCK:Hid _:=nR key;have HCV:Hid _:=wT val;have HSO:Hid _:=rA seen;have hvd:decide (val.size<=12)=true:=by simpa using hvs
 clear hvs0 hall hent hK hn h0 h1 h;generalize hbms:bm (aC key)=bms at*;have HBMS:Hid _:=hbms;clear hbms;go_enter aa.func21,aa.ntmps21;go_wp2_with (first
  |(go_at_call 36;refine (HCK.out _ (by unfold maxLen;omega)).mono ?_;rw[hkey];rintro e w1 ⟨rfl,rfl⟩)
  |(go_at_call 37;refine (HCV.out _ (by unfold maxLen;omega)).mono ?_;rw[hvd];rintro e w1 ⟨rfl,rfl⟩)
  |(go_at_call 38;refine (HSO.out _).mono ?_;rw[hseen];rintro e w2 ⟨rfl,hb2⟩;obtain⟨c2,hB2,hz2⟩:=sP hb2;clear hb2))
 have hmk:Hid (∀w',Below w2.heap.size w2 w'->dX w' b bm num/\w'.cell? ⟨b,0,none⟩=some (.int .i64 num)/\(Instr.lookup 98 (.map (some bms)) (.string key) false).run aa.prog w'=.ok (bD c (.slice ad l.length cap)) w'/\az w' (.slice ad l.length cap) l/\w'.cell? ⟨w.heap.size+1,0,none⟩=some (.int .i64 (seen 0))/\w'.cell? ⟨w.heap.size+1,1,none⟩=some (.int .i64 (seen 1))/\w'.cell? ⟨w.heap.size+1,2,none⟩=some (.int .i64 (seen 2))/\w'.cell? ⟨w.heap.size+1,3,none⟩=some (.int .i64 (seen 3))):=λw' hw=>
  ⟨HBlk.out _ (bf hB2 hw),bp (bp hbc0 hB2) hw,hlk w' (aS (aS hm hB2) hw),(az.below HV.out hB2).below hw,bp (c2 0) hw,bp (c2 1) hw,bp (c2 2) hw,bp (c2 3) hw⟩
 have HB2:Hid _:=hB2;clear hB2 c2 hlk;go_region_held3 (λw'=>dX w' b bm num/\w'.cell? ⟨b,0,none⟩=some (.int .i64 num)/\(Instr.lookup 98 (.map (some bms)) (.string key) false).run aa.prog w'=.ok (bD c (.slice ad l.length cap)) w'/\az w' (.slice ad l.length cap) l/\w'.cell? ⟨w.heap.size+1,0,none⟩=some (.int .i64 (seen 0))/\w'.cell? ⟨w.heap.size+1,1,none⟩=some (.int .i64 (seen 1))/\w'.cell? ⟨w.heap.size+1,2,none⟩=some (.int .i64 (seen 2))/\w'.cell? ⟨w.heap.size+1,3,none⟩=some (.int .i64 (seen 3)))
  ((refine hmk.out _ ?_;first|(simp (maxDischargeDepth:=12) [AT,No,Vw,VI];done)|(simp (maxDischargeDepth:=12) [AT,No,Vw,VI,B3,y3];done)|(simp (maxDischargeDepth:=12) [AT,No,Vw,VI,B6,y6];done)|(simp (maxDischargeDepth:=12) [AT,No,Vw,VI,B4,y4,y3,y6];done)))
  (first
   |(go_at_call 39;refine By (HSeg.out _ (by go_split_ands;assumption)) ?_;rintro e w6 ⟨rfl,hb6,z6⟩;obtain⟨s1,s2⟩:=kh hb6;(try simp only[WK,lr]at z6);have B6:Below w2.heap.size w2 w6:=jn hb6 (by first|(simp (maxDischargeDepth:=12) [AT,No,Vw];done)|(simp (maxDischargeDepth:=12) [AT,No,Vw,B3,y3];done));have y6:=B6.size;(try (have x6:w2.heap.size<w6.heap.size:=by omega));(try (have x6':w3.heap.size<w6.heap.size:=by omega));clear hb6)
   |(go_at_call 41;refine (rq val _ (by omega)).mono ?_;rintro e w3 ⟨rfl,hb3⟩;obtain⟨q1,q2⟩:=kh hb3;have B3:Below w2.heap.size w2 w3:=jn hb3 (by first|(simp (maxDischargeDepth:=12) [AT,No,Vw];done)|(simp (maxDischargeDepth:=12) [AT,No,Vw,B6,y6];done));have y3:=B3.size;have z3:=hb3.size;(try simp only[WK,lr]at z3);(try (have x3:w2.heap.size<w3.heap.size:=by omega));(try (have x3':w6.heap.size<w3.heap.size:=by omega));clear hb3)
   |(go_at_call 40;refine (Vn c _ l num val seen _ (by go_split_ands;assumption) HR.out HL.out hnum HN.out.1 HN.out.2.1 HN.out.2.2).mono ?_;rintro e w4 ⟨v',l',rfl,hperm,hsort,aD,hb4⟩;obtain⟨ad',cap',hv'⟩:=nS aD;subst hv';have V4:=az.rD aD;have N4:=UA aD;(try simp only[WK,lr]at N4);(try (have n2:=N4 w2.heap.size (by omega)));(try (have n3:=N4 w3.heap.size (by omega)));(try (have n6:=N4 w6.heap.size (by omega)));clear N4;obtain⟨p1,p2⟩:=kh hb4;have B4:Below w2.heap.size w2 w4:=jn hb4 (by first|(simp (maxDischargeDepth:=12) [AT,No,Vw,B3,y3];done)|(simp (maxDischargeDepth:=12) [AT,No,Vw,B6,y6];done));have y4:=B4.size;have HP:Hid _:=hperm;have HS:Hid _:=hsort;clear aD hb4 hperm hsort))
 all_goals
  go_wp2_with (go_at_call 42;go_must (refine (E4 b num bm K key (bump (aU c seen) num) _ l' _ ⟨by omega,hkey⟩ HKn.out (aA.below HRep.out (bf HB2.out (by simp (maxDischargeDepth:=12) [AT,No,Vw,VI,B4,y4,y3,y6]))) (by first|(simp[Ns,V4];done)|(simp (maxDischargeDepth:=12) [vi,V4,n2];done)|(simp (maxDischargeDepth:=12) [vi,V4,n3];done)|(simp (maxDischargeDepth:=12) [vi,V4,n6];done))).mono ?_);rintro e w5 ⟨rfl,hrep5,hg5⟩;have B5:=tP (w:=w2) (by simp (maxDischargeDepth:=12) [AT,No,Vw,VI,B4,y4,y3,y6]) hg5;have HR5:Hid _:=hrep5;clear hrep5 hg5)
  go_ret;exact⟨rfl,l',HP.out,HS.out,HR5.out,by have g:=tP HB2.out B5;rw[HBMS.out]at g;exact g⟩
theorem R4(b num:Nat)(bm:Nat->Nat)(K:al)(key val:ByteArray)(seen:Ctx)(w:World)(h:aA w b bm num K)(hK:jj K)(hkey:cS key=true)(hks:key.size<=8)(hvs:val.size<=12)(hseen:fZ seen=true)(hnum:num<4)(hn:20<=(aT (K key).2 seen).length\/(aT (K key).2 seen).length<20/\1000000<=aU (K key).1 seen num):
  Calls aa.prog 21 #[.pointer (some ⟨b,0,none⟩),.string key,.string val,cU seen] w λe w'=>e=.returned (.int .i64 6)/\Below w.heap.size w w':=by
 have hb:=h.1;obtain⟨es,clock,hm,hk,hall,_⟩:=h.2.1 _ (eX key);obtain⟨sv,hent,hvs0⟩:=hall key rfl;obtain⟨ad,cap,rfl,hcap⟩:=hvs0.len;have hlk:∀W:World,W.heap[bm (aC key)]?=some (.map es clock)->(Instr.lookup 98 (.map (some (bm (aC key)))) (.string key) false).run aa.prog W=.ok (bD (K key).1 (.slice ad (K key).2.length cap)) W:=λW hW=>by
  rw[ou W _ es clock key hW hk,hent]
 have HSeg:Hid (∀W,dX W b bm num->Calls aa.prog 39 #[.pointer (some ⟨b,0,none⟩),.string key] W λe w'=>e=.returned (.map (some (bm (aC key))))/\Below W.heap.size W w'/\w'.heap.size=W.heap.size):=λW hW=>uG b num bm key W (by unfold maxLen;omega) hW;have hbc0:w.cell? ⟨b,0,none⟩=some (.int .i64 num):=hb.num;have HBlk:Hid (∀W,Below w.heap.size w W->dX W b bm num):=λW hW=>(h.below hW).1;have HL:Hid ((K key).2.length<=100000):=OF (hK key).2.1 (by decide);have HR:Hid (∀v∈(K key).2,v.rep<4):=(hK key).1;generalize (K key).1=c at*;generalize (K key).2=l at*;have HV:Hid _:=hvs0;have HN:Hid _:=hn;have HCK:Hid _:=nR key;have HCV:Hid _:=wT val;have HSO:Hid _:=rA seen;have hvd:decide (val.size<=12)=true:=by simpa using hvs
 clear hvs0 hall hent hK hn h;generalize hbms:bm (aC key)=bms at*;have HBMS:Hid _:=hbms;clear hbms;go_enter aa.func21,aa.ntmps21;go_wp2_with (first
  |(go_at_call 36;refine (HCK.out _ (by unfold maxLen;omega)).mono ?_;rw[hkey];rintro e w1 ⟨rfl,rfl⟩)
  |(go_at_call 37;refine (HCV.out _ (by unfold maxLen;omega)).mono ?_;rw[hvd];rintro e w1 ⟨rfl,rfl⟩)
  |(go_at_call 38;refine (HSO.out _).mono ?_;rw[hseen];rintro e w2 ⟨rfl,hb2⟩;obtain⟨c2,hB2,hz2⟩:=sP hb2;clear hb2))
 have hmk:Hid (∀w',Below w2.heap.size w2 w'->dX w' b bm num/\w'.cell? ⟨b,0,none⟩=some (.int .i64 num)/\(Instr.lookup 98 (.map (some bms)) (.string key) false).run aa.prog w'=.ok (bD c (.slice ad l.length cap)) w'/\az w' (.slice ad l.length cap) l/\w'.cell? ⟨w.heap.size+1,0,none⟩=some (.int .i64 (seen 0))/\w'.cell? ⟨w.heap.size+1,1,none⟩=some (.int .i64 (seen 1))/\w'.cell? ⟨w.heap.size+1,2,none⟩=some (.int .i64 (seen 2))/\w'.cell? ⟨w.heap.size+1,3,none⟩=some (.int .i64 (seen 3))):=λw' hw=>
  ⟨HBlk.out _ (bf hB2 hw),bp (bp hbc0 hB2) hw,hlk w' (aS (aS hm hB2) hw),(az.below HV.out hB2).below hw,bp (c2 0) hw,bp (c2 1) hw,bp (c2 2) hw,bp (c2 3) hw⟩
 have HB2:Hid _:=hB2;clear hB2 c2 hlk;go_region_held3 (λw'=>dX w' b bm num/\w'.cell? ⟨b,0,none⟩=some (.int .i64 num)/\(Instr.lookup 98 (.map (some bms)) (.string key) false).run aa.prog w'=.ok (bD c (.slice ad l.length cap)) w'/\az w' (.slice ad l.length cap) l/\w'.cell? ⟨w.heap.size+1,0,none⟩=some (.int .i64 (seen 0))/\w'.cell? ⟨w.heap.size+1,1,none⟩=some (.int .i64 (seen 1))/\w'.cell? ⟨w.heap.size+1,2,none⟩=some (.int .i64 (seen 2))/\w'.cell? ⟨w.heap.size+1,3,none⟩=some (.int .i64 (seen 3)))
  ((refine hmk.out _ ?_;first|(simp (maxDischargeDepth:=12) [AT,No,Vw,VI];done)|(simp (maxDischargeDepth:=12) [AT,No,Vw,VI,B3,y3];done)|(simp (maxDischargeDepth:=12) [AT,No,Vw,VI,B6,y6];done)|(simp (maxDischargeDepth:=12) [AT,No,Vw,VI,B4,y4,y3,y6];done)))
  (first
   |(go_at_call 39;refine By (HSeg.out _ (by go_split_ands;assumption)) ?_;rintro e w6 ⟨rfl,hb6,z6⟩;obtain⟨s1,s2⟩:=kh hb6;(try simp only[WK,lr]at z6);have B6:Below w2.heap.size w2 w6:=jn hb6 (by first|(simp (maxDischargeDepth:=12) [AT,No,Vw];done)|(simp (maxDischargeDepth:=12) [AT,No,Vw,B3,y3];done));have y6:=B6.size;(try (have x6:w2.heap.size<w6.heap.size:=by omega));(try (have x6':w3.heap.size<w6.heap.size:=by omega));clear hb6)
   |(go_at_call 41;refine (rq val _ (by omega)).mono ?_;rintro e w3 ⟨rfl,hb3⟩;obtain⟨q1,q2⟩:=kh hb3;have B3:Below w2.heap.size w2 w3:=jn hb3 (by first|(simp (maxDischargeDepth:=12) [AT,No,Vw];done)|(simp (maxDischargeDepth:=12) [AT,No,Vw,B6,y6];done));have y3:=B3.size;have z3:=hb3.size;(try simp only[WK,lr]at z3);(try (have x3:w2.heap.size<w3.heap.size:=by omega));(try (have x3':w6.heap.size<w3.heap.size:=by omega));clear hb3)
   |(go_at_call 40;refine (To c _ l num val seen _ (by go_split_ands;assumption) HR.out HL.out hnum HN.out).mono ?_;rintro e w4 ⟨rfl,hb4⟩;obtain⟨p1,p2⟩:=kh hb4;have B4:Below w2.heap.size w2 w4:=jn hb4 (by first|(simp (maxDischargeDepth:=12) [AT,No,Vw,B3,y3];done)|(simp (maxDischargeDepth:=12) [AT,No,Vw,B6,y6];done));have y4:=B4.size;clear hb4))
 all_goals
  go_wp2_with (go_at_call 42;go_must (refine (CA b key (λ_=>0) (.slice none 0 0) 6 _ (by decide)).mono ?_);rintro e w5 ⟨rfl,hb5⟩;have B5:Below w2.heap.size w2 w5:=jn hb5 (by simp (maxDischargeDepth:=12) [AT,No,Vw,VI,B4,y4,y3,y6]);clear hb5)
  go_ret;exact⟨rfl,bf HB2.out B5⟩
theorem Rt(b:Nat)(key val:ByteArray)(seen:Ctx)(w:World)(hkey:cS key=false)(hks:key.size<=8):
  Calls aa.prog 21 #[.pointer (some ⟨b,0,none⟩),.string key,.string val,cU seen] w λe w'=>e=.returned (.int .i64 2)/\Below w.heap.size w w':=by
 have HCK:Hid _:=nR key;go_enter aa.func21,aa.ntmps21;go_wp2_with (go_at_call 36;refine (HCK.out _ (by unfold maxLen;omega)).mono ?_;rw[hkey];rintro e w1 ⟨rfl,rfl⟩)
 go_ret;exact⟨rfl,((AT _ _).alloc (eR _) _).alloc (by simp) _⟩
section
attribute [local go_sem ↓] vB wZ xd
attribute [local go_sem] xT qE wI uN
attribute [local go_sem ↓] um yf Xa Xb
attribute [local go_sem] tM qo ym sj sA uI vp
theorem eY.below(h:eY w ks)(h0:0<B)(hb:Below B w w'):eY w' ks:=
 ⟨λk hk=>by rw[World.cell?_of_block (hb.block 0 h0)];exact h.cell k hk,h.key,h.ne⟩
theorem eB{s:TypeId}{f h:Nat×Nat}(e:some (Obj.cells A s f)=some (Obj.cells C t h)):s=t:=by
 injection e with e;injection e
theorem ES{num:Nat}{bm:Nat->Nat}(hR:aA w b bm num K)(hT:w.heap[bt]?=some (.cells A 42))(hF:Fr (λb=>b=bt) w w'):aA w' b bm num K:=by
 refine hF.rep hR (λe=>?_) (λn hn e=>?_) (λq cur hc e=>?_)
 ·obtain⟨⟨C,hC,_⟩,_⟩:=hR;rw[e,hT]at hC;cases hC
 ·obtain⟨es,clock,hm,_⟩:=hR.2.1 n hn;rw[e,hT]at hm;cases hm
 ·rw[e,hT]at hc;cases hc
theorem yT{n:Nat}(hD:bY w bx ad n cap at')(hJ:Jx w bx ad n cap w1)(hF:Fr X w1 w2)(hx: ¬X bx)(hnb:0<n->∀b off,ad=some ⟨b,off,none⟩->b<B)(hb:Below B w w2): ∃at2,bY w2 bx ad n cap at2:=by
 obtain⟨_,⟨a,h2,h3⟩,_⟩:=hJ;obtain⟨_,_,hn,hc⟩:=hD;refine⟨a,hF.heap h3 hx,h2,hn,?_⟩;rcases hc with hc|⟨b,off,rfl,hall⟩
 ·exact Or.inl hc
 ·refine Or.inr ⟨b,off,rfl,λj hj=>?_⟩;obtain⟨z,hz,hr⟩:=hall j hj;exact⟨z,by rw[World.cell?_of_block (hb.block b (hnb (by omega) b off rfl))];exact hz,hr⟩
theorem Oc{wc:World}{n:Nat}(hN0:bk B w bt g)(hJ:Jx w bx ad n cap wc)(hN:bk B wc bt g)(hD:bY w bx ad n cap at')(hB:B<=bx)(hnb:0<n->∀b off,ad=some ⟨b,off,none⟩->b<B)(hi:i<g.nr)(hi4:i<4)(hk:k<3)(h1:Fr (λb=>b=g.bm i (aC (ks k))) wc w1)(h2:Fr (λb=>b=bt) w1 w2)(hT1:w1.heap[bt]?=some (.cells g.A 42))(hT:w2.heap[bt]?=some (.cells A 42))(hA:A.size=1939)(hR:aA w1 (g.b i) (g.bm i) i (bl (g.K i) (ks k) (aU (g.K i (ks k)).1 m.1,aT (g.K i (ks k)).2 m.1)))(hg:∀j,j<80->A[962+i*240+k*80+j]?=some (.bool (g.go i k j||m.2 j)))(bz:∀j,j<80->A[2+i*240+k*80+j]?=some (.bool (g.kn i k j||m.2 j)))(ho:∀q,(q<2+i*240+k*80\/2+i*240+k*80+80<=q)->(q<962+i*240+k*80\/962+i*240+k*80+80<=q)->A[q]?=g.A[q]?):
  Below B w w2/\bk B w2 bt (g.gx ks i k m A)/\∃at2,bY w2 bx ad n cap at2:=by
 have hF:Fr (λb=>b=bt\/b=g.bm i (aC (ks k))) wc w2:=(h1.weaken λb e=>Or.inr e).trans (h2.weaken λb e=>Or.inl e);have hbw:B<=wc.heap.size:=by
  have:=hN.hB.1
  have:=(Array.getElem?_eq_some_iff.1 hN.hT).1;omega
 have hb:Below B w w2:=(hJ.toBelow hB).trans (hF.toBelow (λb e=>by
  rcases e with e|e
  ·rw[e];exact hN.hB.1
  ·rw[e];exact hN.hB.2 i _ hi (eX _)) hbw)
 refine⟨hb,hN.gx hF (λb e=>e) hi hi4 hk (eX _) hT hA (ES hR hT1 h2) hg bz ho,yT hD hJ hF (λe=>?_) hnb hb⟩;obtain⟨_,⟨a,_,h3⟩,_⟩:=hJ;rcases e with e|e
 ·rw[e,hN.hT]at h3;exact absurd (eB h3) (by decide)
 ·obtain⟨es,clock,hm⟩:=hN.map hi (eX (ks k));rw[e,hm]at h3;cases h3
theorem Js(hN:bk B w bt g)(hI:bS ks g)(hK:eY w ks)(hi:i<g.nr)(hk:k<3)(hm:Good g.ws k m.1 m.2)(s:Bool)(hs:fY (λj=>(g.kn i k j&&!g.go i k j)&&m.2 j) g.ws.length=s)(W:World)(hW:Below w.heap.size w W):
  Calls aa.prog 23 #[.pointer (some ⟨g.b i,0,none⟩),.string (ks k),cU m.1] W λe w'=>e=.returned (.int .i64 (if s=true then 0 else 5))/\W.grownBy w' (some (g.bm i (aC (ks k))))/\(s=false->Below W.heap.size W w')/\(s=true->aA w' (g.b i) (g.bm i) i (bl (g.K i) (ks k) (aU (g.K i (ks k)).1 m.1,aT (g.K i (ks k)).2 m.1))):=by
 have hR:=(hN.ct i hi).below hW;have hKO:=hI.eM i hi;have hso:=hm.sound hI.hlen;cases s with
 |false=>
  have:=Td (λj x hx h=>hI.known hi hk j x hx h) hm hs;rw[<-hI.hex i k hi hk]at this;refine (Aq (g.b i) i (g.bm i) (g.K i) (ks k) m.1 W hR hKO (hK.key k hk).1 (hK.key k hk).2 hso this).mono ?_;rintro e w' ⟨rfl,hb⟩;exact⟨by simp,⟨hb.os,hb.tape,hb.output,hb.size,λq hq _=>hb.block q hq⟩,λ_=>hb,λh=>by cases h⟩
 |true=>
  have:=PL (λj x hx h=>hI.known hi hk j x hx h) hm hs;rw[<-hI.hex i k hi hk]at this;refine (Uv (g.b i) i (g.bm i) (g.K i) (ks k) m.1 W hR hKO (hK.key k hk).1 (hK.key k hk).2 hso this).mono ?_;rintro e w' ⟨rfl,hr,hg⟩;exact⟨by simp,hg,(λh=>by cases h),λ_=>hr⟩
theorem Mm(B bt bx n cap at' i k:Nat)(ad:Option Addr)(g:ay)(ks:Nat->ByteArray)(w:World)(hN:bk B w bt g)(hI:bS ks g)(hK:eY w ks)(hD:bY w bx ad n cap at')(hnb:0<n->∀b off,ad=some ⟨b,off,none⟩->b<B)(hB:B<=bx)(hB0:0<B)(hi:i<g.nr)(hk:k<3):
  Calls aa.prog 25 #[.pointer (some ⟨bt,0,none⟩),.pointer (some ⟨bx,0,none⟩),.int .i64 i,.int .i64 k] w λe w'=>e=.returned (.bool true)/\Below B w w'/\∃g',g'.nr=g.nr/\bk B w' bt g'/\bS ks g'/\∃at2,bY w' bx ad n cap at2:=by
 have hL:=hI.jb k hk;have hnb':0<n->∀b off,ad=some ⟨b,off,none⟩->b≠bx:=λh0 b off h=>by have:=hnb h0 b off h;omega
 have HJ:Hid (∀w',Jx w bx ad n cap w'->bk B w' bt g):=λw' h=>hN.fr h.1 (hN.yI hD.1 (by decide) (by decide) (by decide) (by decide) (by decide) (by decide));have HDice:Hid (∀w',Jx w bx ad n cap w'->∃at2,bY w' bx ad n cap at2):=λw' h=>h.yC hD.2.2.1 hD.2.2.2 hnb';have Hmk:Hid (∀w',Jx w bx ad n cap w'->w'.cell? ⟨bt,1922+k,none⟩=some (.slice (some ⟨g.gm k,0,none⟩) (g.mem k).length (g.j9 k))/\(∀r,r<(g.mem k).length->lW w' (g.gm k) (r*84))/\(∀r,r<(g.mem k).length->iC w' (g.gm k) (r*84)=b9 (gU (g.mem k) r))/\∃at2,bY w' bx ad n cap at2):=λw' h=>
  ⟨((HJ.out w' h).px hk).1,((HJ.out w' h).px hk).2.1,((HJ.out w' h).px hk).2.2,HDice.out w' h⟩
 have HNext:Hid (∀W,(∃at2,bY W bx ad n cap at2)->Calls aa.prog 14 #[.pointer (some ⟨bx,0,none⟩),.int .i64 (g.mem k).length] W λe w'=>∃(r at2:Nat),e=.returned (.int .i64 r)/\r<(g.mem k).length/\bY w' bx ad n cap at2/\W.grownBy w' (some bx)):=by
  rintro W ⟨a,hW⟩;refine (sx bx ad n cap a (g.mem k).length W hW hnb' (by omega) (by omega)).mono ?_;rintro e w' ⟨r,at2,rfl,hr,hd,_,hg,hz⟩;exact⟨r,at2,rfl,by omega,hd,hg⟩
 have J0:Hid (Jx w bx ad n cap w):=Jx.start hD;have HI:Hid _:=hI;have HKA:Hid _:=hK;have k3:(k:Int)<3:=by omega
 have k0:(0:Int)<=(k:Int):=by omega
 have hi4:(i:Int)<4:=by have:=hI.cC;omega
 have hi0:(0:Int)<=(i:Int):=by omega
 have hin:(i:Int)<(g.nr:Int):=by omega
 have hbx:bx<w.heap.size:=(Array.getElem?_eq_some_iff.1 hD.1).1;have hz:=aa.yM;have hst:=BQ;have hL30:=hL.2;have HD0:Hid _:=hD;have HN0:Hid _:=hN;clear hD hI hK hN hL;generalize hgk:g.gm k=gk at*;generalize hck:g.j9 k=ck at*;have HGK:Hid _:=And.intro hgk hck;clear hgk hck;go_enter aa.func25,aa.ntmps25;go_wp2;go_cut [9] from 13 to 30 (λpv wx=>∃p r,pv=.pointer (some ⟨p,0,none⟩)/\w.heap.size<=p/\r<(g.mem k).length/\wx.heap[p]?=some (.cells (b9 (gU (g.mem k) r)).toArray 74)/\Jx w bx ad n cap wx)
 case first=>
  go_region_held3 (λw'=>w'.cell? ⟨bt,1922+k,none⟩=some (.slice (some ⟨gk,0,none⟩) (g.mem k).length ck)/\(∀r,r<(g.mem k).length->lW w' gk (r*84))/\(∀r,r<(g.mem k).length->iC w' gk (r*84)=b9 (gU (g.mem k) r))/\∃at2,bY w' bx ad n cap at2)
   ((refine Hmk.out _ ?_;first|(simp (maxDischargeDepth:=12) [Jx.drew,Jx.alloc,Jx.setCells,J0.out];done)|(simp (maxDischargeDepth:=12) [Jx.drew,Jx.alloc,Jx.setCells,J1,z1];done)))
   (first|(go_at_call 14;refine By (HNext.out _ (by go_split_ands;assumption)) ?_;rintro e w1 ⟨r,at2,rfl,hr,hd,hg⟩;(try (have bz:=Fi (w:=w) hg hbx;have hs1:=yO gR bz));have J1:Jx w bx ad n cap w1:=Jx.next (by simp (maxDischargeDepth:=12) [Jx.drew,Jx.alloc,J0.out]) hg hd;have z1:=J1.1.size;clear hd hg))
  ·go_wp2_with fail;go_meet;exact⟨w1.heap.size,r,rfl,z1,hr,sU gR (BY w1 _) _,(J1.alloc _).setCells z1 _ _⟩
  ·go_wp2_with fail;go_meet;exact⟨w.heap.size,r,rfl,eR _,hr,sU gR bz _,J1.setCells (eR _) _ _⟩
 case rest=>
  obtain⟨p,r,rfl,hp,hr,hpc,hJ⟩:=hcut;have HP:Hid _:=hpc;have HJC:Hid _:=hJ;have NC:Hid _:=HJ.out _ hJ;have KC:Hid (eY wc ks):=HKA.out.below hB0 (hJ.toBelow hB);have HM:Hid (Good g.ws k (gU (g.mem k) r).1 (gU (g.mem k) r).2):=HI.out.jH k _ hk (by rw[vX _ _ hr];exact VB hr);clear hpc hJ Hmk HNext hst hz;generalize gU (g.mem k) r=m at*;obtain⟨wad,wcap,hwv⟩:=uQ NC.out.hw;have t1:wc.cell? ⟨bt,1,none⟩=some (.slice wad g.ws.length wcap):=by rw[(au NC.out.hT).1,NC.out.h1,hwv]
  have HWV:Hid _:=hwv;have hlen80:g.ws.length<=80:=HI.out.hlen;clear hwv;generalize hF:(λj=>(g.kn i k j&&!g.go i k j)&&m.2 j)=F;have HF:Hid (∀j,F j=((g.kn i k j&&!g.go i k j)&&m.2 j)):=λj=>by rw[<-hF]
  have HFF:Hid _:=hF;clear hF;go_wp2;go_loop [10,11] (λsv iv=>∃j:Nat,j<=g.ws.length/\iv=.int .i64 j/\sv=.bool (fY F j)) (λ_ iv=>g.ws.length-(intOf iv).toNat)
  case atStart=>exact⟨0,by omega,rfl,rfl⟩
  case round=>
   obtain⟨j,hj,rfl,hsv⟩:=hrel;by_cases hjl:j<g.ws.length
   ·have j1:(j:Int)<(g.ws.length:Int):=by omega
    have j80:(j:Int)<80:=by omega
    have j0:(0:Int)<=(j:Int):=by omega
    have hi4':i<4:=by omega
    have kc:wc.cell? ⟨bt,2+i*240+k*80+j,none⟩=some (.bool (g.kn i k j)):=by rw[(au NC.out.hT).1];exact NC.out.bz i k j hi4' hk (by omega)
    have gc:wc.cell? ⟨bt,962+i*240+k*80+j,none⟩=some (.bool (g.go i k j)):=by rw[(au NC.out.hT).1];exact NC.out.hgo i k j hi4' hk (by omega)
    have mc:wc.cell? ⟨p,4+j,none⟩=some (.bool (m.2 j)):=by rw[(au HP.out).1];exact pf m j (by omega)
    have hFj:=HF.out j;have HA:Hid (fY F (j+1)=(fY F j||F j)):=rfl;cases hs:fY F j with
    |true=>
     rw[hs]at hsv HA;subst hsv;go_wp2;exact⟨⟨j+1,by omega,by go_num,by rw[HA.out];rfl⟩,by simp[intOf];omega⟩
    |false=>
     rw[hs]at hsv HA;subst hsv;cases h1:g.kn i k j with
     |false=>
      rw[h1]at kc hFj;have HA2:Hid (fY F (j+1)=false):=by show _=_;rw[HA.out,hFj];rfl
      clear hFj;go_wp2;exact⟨⟨j+1,by omega,by go_num,by rw[HA2.out]⟩,by simp[intOf];omega⟩
     |true=>
      rw[h1]at kc hFj;cases h2:g.go i k j with
      |true=>
       rw[h2]at gc hFj;have HA2:Hid (fY F (j+1)=false):=by show _=_;rw[HA.out,hFj];rfl
       clear hFj;go_wp2;exact⟨⟨j+1,by omega,by go_num,by rw[HA2.out]⟩,by simp[intOf];omega⟩
      |false=>
       rw[h2]at gc hFj;have HA2:Hid (fY F (j+1)=m.2 j):=by show _=_;rw[HA.out,hFj];rfl
       clear hFj;go_wp2;exact⟨⟨j+1,by omega,by go_num,by rw[HA2.out]⟩,by simp[intOf];omega⟩
   ·obtain rfl:j=g.ws.length:=by omega
    subst hsv;go_wp2;have HDel:Hid (∀s,fY F g.ws.length=s->∀W,Below wc.heap.size wc W->Calls aa.prog 23 #[.pointer (some ⟨g.b i,0,none⟩),.string (ks k),cU m.1] W λe w'=>e=.returned (.int .i64 (if s=true then 0 else 5))/\W.grownBy w' (some (g.bm i (aC (ks k))))/\(s=false->Below W.heap.size W w')/\(s=true->aA w' (g.b i) (g.bm i) i (bl (g.K i) (ks k) (aU (g.K i (ks k)).1 m.1,aT (g.K i (ks k)).2 m.1)))):=λs hs W hW=>
     Js NC.out HI.out (KC.out) hi hk HM.out s (by rw[HFF.out];exact hs) W hW
    have hmap:=NC.out.map hi (eX (ks k));have hcell:Hid (∀w',Fr (λb=>b=g.bm i (aC (ks k))) wc w'->w'.cell? ⟨bt,0,none⟩=some (.slice (some ⟨g.br,0,none⟩) g.nr g.cT)/\w'.cell? ⟨g.br,i,none⟩=some (.pointer (some ⟨g.b i,0,none⟩))/\w'.cell? ⟨0,k,none⟩=some (.string (ks k))/\w'.cell? ⟨p,0,none⟩=some (.int .i64 (m.1 0))/\w'.cell? ⟨p,1,none⟩=some (.int .i64 (m.1 1))/\w'.cell? ⟨p,2,none⟩=some (.int .i64 (m.1 2))/\w'.cell? ⟨p,3,none⟩=some (.int .i64 (m.1 3))):=λw' h=>by
     obtain⟨es,clock,hm⟩:=hmap;have ne:∀{b C t},wc.heap[b]?=some (.cells C t)->¬b=g.bm i (aC (ks k)):=λh e=>by rw[e,hm]at h;cases h
     have hp:=(au HP.out).1;refine⟨h.cell (by rw[(au NC.out.hT).1];exact NC.out.h0) (ne NC.out.hT),h.cell (by rw[(au NC.out.hR).1];exact NC.out.iQ i hi) (ne NC.out.hR),h.cell (KC.out.cell k hk) (λe=>?_),h.cell (hp 0) (ne HP.out),h.cell (hp 1) (ne HP.out),h.cell (hp 2) (ne HP.out),h.cell (hp 3) (ne HP.out)⟩
     have:=NC.out.hB.2 i _ hi (eX (ks k));omega
    have hnr4:g.nr<=4:=HI.out.cC.2;have F0:Hid (Fr (λb=>b=g.bm i (aC (ks k))) wc wc):=Fr.refl _ _;cases hs:fY F g.ws.length with
    |false=>
     have HD:=HDel.out _ hs;have HDD:Hid _:=HD;clear HD HDel;go_wp2_with fail;go_region_held3 (λw'=>w'.cell? ⟨bt,0,none⟩=some (.slice (some ⟨g.br,0,none⟩) g.nr g.cT)/\w'.cell? ⟨g.br,i,none⟩=some (.pointer (some ⟨g.b i,0,none⟩))/\w'.cell? ⟨0,k,none⟩=some (.string (ks k))/\w'.cell? ⟨p,0,none⟩=some (.int .i64 (m.1 0))/\w'.cell? ⟨p,1,none⟩=some (.int .i64 (m.1 1))/\w'.cell? ⟨p,2,none⟩=some (.int .i64 (m.1 2))/\w'.cell? ⟨p,3,none⟩=some (.int .i64 (m.1 3)))
      ((refine hcell.out _ ?_;first|(simp[Fr.drew,F0.out];done)|(simp[Fr.drew,F1];done)))
      (first|(go_at_call 23;refine By (HDD.out _ (by simp[AT,No])) ?_;rintro e w1 ⟨rfl,hg1,hbel,hrep1⟩;have F1:Fr (λb=>b=g.bm i (aC (ks k))) wc w1:=Fr.grown (Fr.drew F0.out) hg1 (λb e _=>by cases e;rfl);have HB1:Hid (Below wc.drew.heap.size wc.drew w1):=hbel (by first|exact trivial|rfl);clear hg1 hbel hrep1))
     go_wp2;go_ret;have JF:=(Jx.drew HJC.out).below HB1.out;exact⟨rfl,JF.toBelow hB,g,rfl,HJ.out _ JF,HI.out,HDice.out _ JF⟩
    |true=>
     have HD:=HDel.out _ hs;have HDD:Hid _:=HD;clear HD HDel;go_wp2_with fail;go_region_held3 (λw'=>w'.cell? ⟨bt,0,none⟩=some (.slice (some ⟨g.br,0,none⟩) g.nr g.cT)/\w'.cell? ⟨g.br,i,none⟩=some (.pointer (some ⟨g.b i,0,none⟩))/\w'.cell? ⟨0,k,none⟩=some (.string (ks k))/\w'.cell? ⟨p,0,none⟩=some (.int .i64 (m.1 0))/\w'.cell? ⟨p,1,none⟩=some (.int .i64 (m.1 1))/\w'.cell? ⟨p,2,none⟩=some (.int .i64 (m.1 2))/\w'.cell? ⟨p,3,none⟩=some (.int .i64 (m.1 3)))
      ((refine hcell.out _ ?_;first|(simp[Fr.drew,F0.out];done)|(simp[Fr.drew,F1];done)))
      (first|(go_at_call 23;refine By (HDD.out _ (by simp[AT,No])) ?_;rintro e w1 ⟨rfl,hg1,hbel,hrep1⟩;have F1:Fr (λb=>b=g.bm i (aC (ks k))) wc w1:=Fr.grown (Fr.drew F0.out) hg1 (λb e _=>by cases e;rfl);have HR1:Hid (aA w1 (g.b i) (g.bm i) i (bl (g.K i) (ks k) (aU (g.K i (ks k)).1 m.1,aT (g.K i (ks k)).2 m.1))):=hrep1 (by first|exact trivial|rfl);clear hg1 hbel hrep1))
     have hm':=hmap;obtain⟨es,clock,hmp⟩:=hm';have T1:Hid (w1.heap[bt]?=some (.cells g.A 42)):=F1.heap NC.out.hT (λe=>by have:=NC.out.hT;rw[e,hmp]at this;cases this);have P1:Hid (w1.heap[p]?=some (.cells (b9 m).toArray 74)):=F1.heap HP.out (λe=>by have:=HP.out;rw[e,hmp]at this;cases this);have HF1:Hid _:=F1;have hi4n:i<4:=by omega
     have hAs:=NC.out.hA;obtain⟨r1,q1⟩:=lC (w:=w1) (b:=bt) (o:=962+i*240+k*80) (s:=g.go i k) (λj hj=>by rw[(au T1.out).1];exact NC.out.hgo i k j hi4n hk hj);obtain⟨r2,q2⟩:=lC (w:=w1) (b:=p) (o:=4) (s:=m.2) (λj hj=>by rw[(au P1.out).1];exact pf m j hj);clear F1 hmp hmap;go_wp2;go_cut [] from 88 to 106 (λwx=>∃A1,wx.heap[bt]?=some (.cells A1 42)/\A1.size=1939/\(∀j,j<80->A1[962+i*240+k*80+j]?=some (.bool (g.go i k j||m.2 j)))/\(∀j,(j<962+i*240+k*80\/962+i*240+k*80+80<=j)->A1[j]?=g.A[j]?)/\Fr (λb=>b=bt) w1 wx)
     case first=>
      go_region_with (first|(go_at_call 45;refine (uO (g.go i k) m.2 _).mono ?_;rintro e w2 ⟨rfl,hb2⟩;have B2:=qf (w0:=w1) hb2 rfl rfl rfl rfl;have T2:=aS T1.out B2;have t2:lY w2 bt (962+i*240+k*80):=tB T2 (by omega);have HT2:Hid _:=T2;have HB2:Hid _:=B2;clear hb2 B2 T2))
      all_goals
       go_wp2_with fail;go_meet;obtain⟨A1,a1,a2,a3,a4⟩:=tL HT2.out (show 962+i*240+k*80+80<=g.A.size by omega) (λj=>g.go i k j||m.2 j);exact⟨A1,a1,by rw[a2];exact hAs,a3,a4,Fr.setCells (X:=λb=>b=bt) (Fr.lz HB2.out) (Or.inr rfl) _ _⟩
     case rest=>
      obtain⟨A1,a1,a2,a3,a4,a5⟩:=hcut;have HA1:Hid _:=And.intro a1 (And.intro a2 (And.intro a3 (And.intro a4 a5)));have P2:Hid _:=a5.heap P1.out (λe=>by have:=P1.out;rw[e,T1.out]at this;exact absurd (eB this) (by decide));clear r1 q1 r2 q2;obtain⟨r1,q1⟩:=lC (w:=wc) (b:=bt) (o:=2+i*240+k*80) (s:=g.kn i k) (λj hj=>by rw[(au a1).1,a4 _ (by omega)];exact NC.out.bz i k j hi4n hk hj);obtain⟨r2,q2⟩:=lC (w:=wc) (b:=p) (o:=4) (s:=m.2) (λj hj=>by rw[(au P2.out).1];exact pf m j hj);clear a1 a3 a4 a5;go_wp2;go_cut [] from 106 to 124 (λwx=>∃A2,wx.heap[bt]?=some (.cells A2 42)/\A2.size=1939/\(∀j,j<80->A2[2+i*240+k*80+j]?=some (.bool (g.kn i k j||m.2 j)))/\(∀j,(j<2+i*240+k*80\/2+i*240+k*80+80<=j)->A2[j]?=A1[j]?)/\Fr (λb=>b=bt) w1 wx)
      case first=>
       go_region_with (first|(go_at_call 45;refine (uO (g.kn i k) m.2 _).mono ?_;rintro e w2 ⟨rfl,hb2⟩;have B2:=qf (w0:=wc) hb2 rfl rfl rfl rfl;have T2:=aS HA1.out.1 B2;have t2:lY w2 bt (2+i*240+k*80):=tB T2 (by omega);have HT2:Hid _:=T2;have HB2:Hid _:=B2;clear hb2 B2 T2))
       all_goals
        go_wp2_with fail;go_meet;obtain⟨A2,b1,b2,b3,b4⟩:=tL HT2.out (show 2+i*240+k*80+80<=A1.size by omega) (λj=>g.kn i k j||m.2 j);exact⟨A2,b1,by rw[b2];exact a2,b3,b4,Fr.setCells (X:=λb=>b=bt) (HA1.out.2.2.2.2.below HB2.out) (Or.inr rfl) _ _⟩
      case rest=>
       have HC:Hid _:=hcut;clear hcut r1 q1 r2 q2;go_wp2;go_ret;obtain⟨A2,b1,b2,b3,b4,b5⟩:=HC.out;obtain⟨_,_,a3,a4,_⟩:=HA1.out;obtain⟨hd1,hd2,hd3⟩:=Oc HN0.out HJC.out NC.out HD0.out hB hnb hi hi4n hk HF1.out b5 T1.out b1 b2 HR1.out (λj hj=>by rw[b4 _ (by omega)];exact a3 j hj) b3 (λq h1 h2=>by rw[b4 q h1,a4 q h2]);exact⟨rfl,hd1,g.gx ks i k m A2,rfl,hd2,HI.out.gx KC.out.ne A2 hi hk HM.out,hd3⟩
end
end Go.Proofs.YtldmcdeibiclkaaGreatDoorQ
