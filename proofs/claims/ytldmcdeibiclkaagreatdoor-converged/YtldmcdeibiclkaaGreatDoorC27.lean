/-
  Toward converged_holds: Contract: tree: the digests of all nodes of a replica, and the texts of its segments.
-/
import Derived.Test.YtldmcdeibiclkaaGreatDoorC26
import Derived.Test.YtldmcdeibiclkaaGreatDoorC25
set_option linter.unusedVariables false
set_option linter.unusedSimpArgs false
set_option maxRecDepth 100000
set_option maxHeartbeats 20000000
namespace Go.Proofs.YtldmcdeibiclkaaGreatDoorQ
variable {F F':Nat->Int}{G G' ks:Nat->ByteArray}{k N b l q B i:Nat}{W W':World}{t:TypeId}{A:Array Value}{K1 K2:al}{ws:List Wr}{kn:Nat->Bool}{g:ay}{m:Mem}{l':List aj}
open Go.RowKit
section
open Go.Lib (strCells strCells_length strCells_oneCell)
def bh(F:Nat->Int):Array Value:=((List.range 256).map λq=>Value.int .u64 (F q)).toArray
def bH(G:Nat->ByteArray):Array Value:=((List.range 64).map λq=>Value.string (G q)).toArray
theorem jT(F:Nat->Int):(bh F).size=256:=by simp[bh]
theorem jq(G:Nat->ByteArray):(bH G).size=64:=by simp[bH]
theorem ll(h:q<256):(bh F)[q]?=some (.int .u64 (F q)):=by simp[bh,h]
theorem xc(h:q<64):(bH G)[q]?=some (.string (G q)):=by simp[bH,h]
theorem sZ(h:∀q,q<256->F q=F' q):bh F=bh F':=by
 unfold bh;rw[Wb λq hq=>by rw[h q (List.mem_range.1 hq)]]
theorem zm(h:∀q,q<64->G q=G' q):bH G=bH G':=by
 unfold bH;rw[Wb λq hq=>by rw[h q (List.mem_range.1 hq)]]
theorem map_set{α:Type}(f:Nat->α)(n k:Nat)(v:α):((List.range n).map f).toArray.setIfInBounds k v=((List.range n).map λq=>if q=k then v else f q).toArray:=by
 apply Array.ext_getElem?;intro j;rw[Array.getElem?_setIfInBounds];by_cases hj:j<n
 ·by_cases e:k=j
  ·subst e;simp[hj]
  ·rw[AI e];have e': ¬j=k:=λq=>e q.symm;simp[hj,e']
 ·have h1:((List.range n).map f).toArray[j]?=none:=by simp;omega
  have h2:((List.range n).map λq=>if q=k then v else f q).toArray[j]?=none:=by simp;omega
  rw[h1,h2];by_cases e:k=j
  ·subst e;rw[AS rfl,AI (by simpa using hj)]
  ·rw[AI e]
theorem I1(v:Int):(bh F).setIfInBounds k (.int .u64 v)=bh λq=>if q=k then v else F q:=by
 unfold bh;rw[map_set];congr 1;refine Wb λq _=>?_;by_cases e:q=k
 ·simp[e]
 ·simp[e]
theorem GM(v:ByteArray):(bH G).setIfInBounds k (.string v)=bH λq=>if q=k then v else G q:=by
 unfold bH;rw[map_set];congr 1;refine Wb λq _=>?_;by_cases e:q=k
 ·simp[e]
 ·simp[e]
theorem aa.GG:(aa.prog.info? 88).map (·.zero)=some (some (.agg (bh λ_=>0))):=by kernel_rfl
theorem aa.FC(w:World):(zeroValue 88).run aa.prog w=.ok (.agg (bh λ_=>0)) w:=pz aa.GG w
theorem aa.Ov:(aa.prog.info? 89).map (·.zero)=some (some (.agg (bH λ_=>⟨#[]⟩))):=by kernel_rfl
theorem aa.Cn(w:World):(zeroValue 89).run aa.prog w=.ok (.agg (bH λ_=>⟨#[]⟩)) w:=pz aa.Ov w
theorem aa.xj:(aa.prog.info? 88).map (·.size)=some 256:=by kernel_rfl
theorem aa.zl:(aa.prog.info? 89).map (·.size)=some 64:=by kernel_rfl
def jN(N:Nat)(w:World)(b o:Nat):List Value:=(List.range N).map λj=>(w.cell? ⟨b,o+j,none⟩).getD undef
def j7(N:Nat)(w:World)(b o:Nat):Prop:=∀j,j<N->(w.cell? ⟨b,o+j,none⟩).isSome=true
def qV(N:Nat)(w:World):Value->Prop
 |.pointer (some ⟨b,o,none⟩)=>j7 N w b o
 |_=>False
def uT(N:Nat)(w:World):Value->Value
 |.pointer (some ⟨b,o,none⟩)=>.agg (jN N w b o).toArray
 |_=>undef
theorem Nb(N:Nat)(w:World)(b o:Nat):qV N w (.pointer (some ⟨b,o,none⟩))=j7 N w b o:=rfl
theorem Cz(N:Nat)(w:World)(b o:Nat):uT N w (.pointer (some ⟨b,o,none⟩))=.agg (jN N w b o).toArray:=rfl
theorem N5(N:Nat)(w:World)(b o:Nat):jN N w.drew b o=jN N w b o:=rfl
theorem UD(N:Nat)(w:World)(b o:Nat):j7 N w.drew b o=j7 N w b o:=rfl
theorem y8{w:World}{C:Array Value}{fr:Nat×Nat}(h:w.heap[b]?=some (.cells C t fr))(hC:C.size=N):(jN N w b 0).toArray=C/\j7 N w b 0:=by
 have hc:∀j,w.cell? ⟨b,0+j,none⟩=C[j]? :=λj=>by simp[World.cell?,h]
 refine⟨?_,λj hj=>by rw[hc,Array.getElem?_eq_getElem (by omega)];rfl⟩;apply Array.ext_getElem?;intro j;by_cases hj:j<N
 ·have:C[j]?=some C[j]:=Array.getElem?_eq_getElem (by omega);simp[jN,hj,World.cell?,h,this]
 ·rw[Array.getElem?_eq_none (by simp[jN];omega),Array.getElem?_eq_none (by omega)]
theorem Ai(T:TypeId){u:TypeDesc}(hu:aa.prog.underlying T=some u)(hg:u.isRow=true)(hs:(aa.prog.info? T).map (·.size)=some N)(d:Option Tmp)(x:Operand)(ty:TypeId)(pos:String)(aft:Array Edge)(gd:Option (Nat×Bool))(a:Act)(w:World)(K:Act->World->Prop)(Q:Exit->Act->World->Prop)(h:qV N w (a.eval x)):
  Oper.wp aa.prog {dst:=d,op:=.load T x,type:=ty,pos:=pos,after:=aft,guard:=gd} a w K Q=K (a.put d (uT N w (a.eval x))) w:=by
 unfold qV at h;split at h
 ·rename_i b o heq;have hr:w.rangeAt b o (jN N w b o):=λj v hv=>by
   have hj:j<N:=by have:=(List.getElem?_eq_some_iff.1 hv).1;simpa[jN] using this
   obtain⟨z,hz⟩:=Option.isSome_iff_exists.1 (h j hj);simp[jN,hj,hz]at hv;rw[hz,hv]
  rw[heq,Cz];unfold Oper.wp execOp;simp only[heq,Instr.loadAt,Instr.sureAddr,VQ,WG,We,Xc w b o T (jN N w b o) _ hr hu hg (by rw[hs];simp[jN])];rfl
 ·exact h.elim
def oJ(N:Nat)(w:World)(b o:Nat)(cs:Array Value):Prop:=w.there b o N/\cs.size=N/\cs.all (·.oneCell')=true
def qv(N:Nat)(w:World):Value->Value->Prop
 |.pointer (some ⟨b,o,none⟩),.agg cs=>oJ N w b o cs
 |_,_=>False
def uX(w:World):Value->Value->World
 |.pointer (some ⟨b,o,none⟩),.agg cs=>w.setCells b o cs.toList
 |_,_=>w
theorem BA(N:Nat)(w:World)(b o:Nat)(cs:Array Value):qv N w (.pointer (some ⟨b,o,none⟩)) (.agg cs)=oJ N w b o cs:=rfl
theorem zn(w:World)(b o:Nat)(cs:Array Value):uX w (.pointer (some ⟨b,o,none⟩)) (.agg cs)=w.setCells b o cs.toList:=rfl
theorem AJ(T:TypeId)(hs:(aa.prog.info? T).map (·.size)=some N)(d:Option Tmp)(x y:Operand)(ty:TypeId)(pos:String)(aft:Array Edge)(gd:Option (Nat×Bool))(a:Act)(w:World)(K:Act->World->Prop)(Q:Exit->Act->World->Prop)(h:qv N w (a.eval x) (a.eval y)):
  Oper.wp aa.prog {dst:=d,op:=.store T x y,type:=ty,pos:=pos,after:=aft,guard:=gd} a w K Q=K (a.put d undef) (uX w (a.eval x) (a.eval y)):=by
 unfold qv at h;split at h
 ·rename_i b o cs heq heq';rw[heq,heq',zn];unfold Oper.wp execOp;simp only[heq,heq',Instr.storeAt,Instr.sureAddr,VQ,WG,We,run_storeVar_mid w b o T cs (by rw[h.2.1];exact h.1) (by rw[hs,h.2.1]) h.2.2];rfl
 ·exact h.elim
section
variable (d:Option Tmp) (x y:Operand) (ty:TypeId) (pos:String) (aft:Array Edge) (gd:Option (Nat×Bool)) (a:Act) (w:World) (K:Act->World->Prop) (Q:Exit->Act->World->Prop)
theorem UX(h:qV 256 w (a.eval x)):Oper.wp aa.prog {dst:=d,op:=.load 88 x,type:=ty,pos:=pos,after:=aft,guard:=gd} a w K Q=K (a.put d (uT 256 w (a.eval x))) w:=Ai _ aa.underlying88 rfl aa.xj d x ty pos aft gd a w K Q h
theorem Pz(h:qV 64 w (a.eval x)):Oper.wp aa.prog {dst:=d,op:=.load 89 x,type:=ty,pos:=pos,after:=aft,guard:=gd} a w K Q=K (a.put d (uT 64 w (a.eval x))) w:=Ai _ aa.underlying89 rfl aa.zl d x ty pos aft gd a w K Q h
theorem CV(h:qv 256 w (a.eval x) (a.eval y)):Oper.wp aa.prog {dst:=d,op:=.store 88 x y,type:=ty,pos:=pos,after:=aft,guard:=gd} a w K Q=K (a.put d undef) (uX w (a.eval x) (a.eval y)):=AJ _ aa.xj d x y ty pos aft gd a w K Q h
theorem zy(h:qv 64 w (a.eval x) (a.eval y)):Oper.wp aa.prog {dst:=d,op:=.store 89 x y,type:=ty,pos:=pos,after:=aft,guard:=gd} a w K Q=K (a.put d undef) (uX w (a.eval x) (a.eval y)):=AJ _ aa.zl d x y ty pos aft gd a w K Q h
end
attribute [local go_sem ↓] UX Pz CV zy Xa Xb
attribute [local go_sem] Nb Cz N5 UD BA zn
noncomputable def bQ(K:al)(j n q:Nat):Int:=if q%64<4 ^ (q / 64)/\(j<=q / 64\/q / 64+1=j/\q%64<n) then aM K (q / 64) (q%64) else 0
theorem Fo{K:al}{n:Nat}(hl:l<4)(hn:n<4 ^ l)(h64:n<64)(q:Nat):bQ K (l+1) (n+1) q=if q=l*64+n then aM K l n else bQ K (l+1) n q:=by
 unfold bQ;by_cases e:q=l*64+n
 ·subst e;have e1:(l*64+n) / 64=l:=by omega
  have e2:(l*64+n)%64=n:=by omega
  rw[AS rfl,e1,e2,AS ⟨hn,.inr ⟨rfl,by omega⟩⟩]
 ·rw[AI e];have:(q / 64+1=l+1/\q%64<n+1)↔(q / 64+1=l+1/\q%64<n):=⟨λ⟨h1,h2⟩=>⟨h1,by omega⟩,λ⟨h1,h2⟩=>⟨h1,by omega⟩⟩
  simp only[this]
theorem Fv{K:al}(q:Nat):bQ K (l+1) (4 ^ l) q=bQ K l 0 q:=by
 unfold bQ;by_cases h:q%64<4 ^ (q / 64)
 ·by_cases h1:l<=q / 64
  ·rw[AS,AS ⟨h,.inl h1⟩];refine⟨h,?_⟩;by_cases h2:l=q / 64
   ·right;subst h2;exact⟨rfl,h⟩
   ·left;omega
  ·rw[AI,AI]
   ·rintro⟨_,h2|h2⟩<;>omega
   ·rintro⟨_,h2|h2⟩<;>omega
 ·rw[AI (λx=>h x.1),AI (λx=>h x.1)]
structure cY(w:World)(F:Nat->Int)(G:Nat->ByteArray)(W:World):Prop where
 x0:W.heap[w.heap.size]?=some (.cells (bh λ_=>0) 88)
 x1:W.heap[w.heap.size+1]?=some (.cells (bH λ_=>⟨#[]⟩) 89)
 x2:W.heap[w.heap.size+2]?=some (.cells (bh F) 88)
 x3:W.heap[w.heap.size+3]?=some (.cells (bH G) 89)
 bj:Below w.heap.size w W
theorem cY.below{w:World}(h:cY w F G W)(hb:Below W.heap.size W W'):cY w F G W':=
 ⟨aS h.x0 hb,aS h.x1 hb,aS h.x2 hb,aS h.x3 hb,bf h.bj hb⟩
theorem cY.grow{w:World}(h:cY w F G W){size n:Nat}{v v':Value}{xs:List Value}(hr:W.ownsRow B 5 size v n xs)(hB:w.heap.size<=B)(hg:_root_.Go.Proofs.YtldmcdeibiclkaaGreatDoorQ.bq W W' v v'):cY w F G W':=
 ⟨hg.other hr h.x0 (by decide),hg.other hr h.x1 (by decide),hg.other hr h.x2 (by decide),hg.other hr h.x3 (by decide),hg.toBelow h.bj h.bj.size (eE hr hB)⟩
theorem cY.FG{w:World}{v:Int}(h:cY w F G W)(hF:∀q,q<256->F' q=if q=k then v else F q):cY w F' G (W.setCell ⟨w.heap.size+2,k,none⟩ (.int .u64 v)):=by
 refine⟨?_,?_,?_,?_,h.bj.setCell (show w.heap.size<=w.heap.size+2 by omega) _⟩
 ·rw[VC _ _ _ _ (by show _≠w.heap.size+2;omega)];exact h.x0
 ·rw[VC _ _ _ _ (by show _≠w.heap.size+2;omega)];exact h.x1
 ·rw[heap_set h.x2,I1,sZ hF]
 ·rw[VC _ _ _ _ (by show _≠w.heap.size+2;omega)];exact h.x3
theorem cY.JZ{w:World}{v:ByteArray}(h:cY w F G W)(hG:∀q,q<64->G' q=if q=k then v else G q):cY w F G' (W.setCell ⟨w.heap.size+3,k,none⟩ (.string v)):=by
 refine⟨?_,?_,?_,?_,h.bj.setCell (show w.heap.size<=w.heap.size+3 by omega) _⟩
 ·rw[VC _ _ _ _ (by show _≠w.heap.size+3;omega)];exact h.x0
 ·rw[VC _ _ _ _ (by show _≠w.heap.size+3;omega)];exact h.x1
 ·rw[VC _ _ _ _ (by show _≠w.heap.size+3;omega)];exact h.x2
 ·rw[heap_set h.x3,GM,zm hG]
theorem cY.NW{w:World}(h:cY w F G W)(hF:∀q,q<256->F q=F' q):cY w F' G W:=⟨h.x0,h.x1,by rw[<-sZ hF];exact h.x2,h.x3,h.bj⟩
theorem AH(F:Nat->Int):(bh F).all (·.oneCell')=true:=by
 rw[bh,List.all_toArray,List.all_map,List.all_eq_true];intro q _;rfl
theorem Bq(G:Nat->ByteArray):(bH G).all (·.oneCell')=true:=by
 rw[bH,List.all_toArray,List.all_map,List.all_eq_true];intro q _;rfl
theorem sO{w:World}(h:w.heap[b]?=some (.cells A t))(hs:A.size=N):w.there b 0 N:=λj hj=>by
 obtain⟨e,f⟩:=au h;refine⟨?_,f _⟩;rw[e,Array.getElem?_eq_getElem (by omega)];rfl
structure AB(w:World)(D T:Array Value)(W:World):Prop where
 there:(W.drew.setCells w.heap.size 0 D.toList).there (w.heap.size+1) 0 64
 Uc:(loadVar 88 ⟨w.heap.size,0,none⟩).run aa.prog ((W.drew.setCells w.heap.size 0 D.toList).setCells (w.heap.size+1) 0 T.toList)=.ok (.agg D) ((W.drew.setCells w.heap.size 0 D.toList).setCells (w.heap.size+1) 0 T.toList)
 GA:(loadVar 89 ⟨w.heap.size+1,0,none⟩).run aa.prog ((W.drew.setCells w.heap.size 0 D.toList).setCells (w.heap.size+1) 0 T.toList)=.ok (.agg T) ((W.drew.setCells w.heap.size 0 D.toList).setCells (w.heap.size+1) 0 T.toList)
 bj:Below w.heap.size w ((W.drew.setCells w.heap.size 0 D.toList).setCells (w.heap.size+1) 0 T.toList)
 dH:(W.drew.setCells w.heap.size 0 D.toList).heap[w.heap.size+3]?=some (.cells T 89)
theorem FE{w:World}(h:cY w F G W):AB w (bh F) (bH G) W:=by
 have h0:(W.drew.setCells w.heap.size 0 (bh F).toList).heap[w.heap.size]?=some (.cells (bh F) 88):=oI (w:=W.drew) h.x0 (bh F) (by rw[jT,jT]);have f0:Fr (λq=>q=w.heap.size) W.drew (W.drew.setCells w.heap.size 0 (bh F).toList):=Fr.setCells (X:=λq=>q=w.heap.size) (Fr.refl _ _) (Or.inr rfl) _ _;have h1:(W.drew.setCells w.heap.size 0 (bh F).toList).heap[w.heap.size+1]?=some (.cells (bH λ_=>⟨#[]⟩) 89):=f0.heap h.x1 (by show ¬w.heap.size+1=w.heap.size;omega);have f1:Fr (λq=>q=w.heap.size+1) (W.drew.setCells w.heap.size 0 (bh F).toList) ((W.drew.setCells w.heap.size 0 (bh F).toList).setCells (w.heap.size+1) 0 (bH G).toList):=Fr.setCells (X:=λq=>q=w.heap.size+1) (Fr.refl _ _) (Or.inr rfl) _ _;have g0:=f1.heap h0 (by show ¬w.heap.size=w.heap.size+1;omega);have g1:=oI h1 (bH G) (by rw[jq,jq]);refine⟨sO h1 (jq _),?_,?_,pc _ (pc _ h.bj.drew (eR _) _) (by omega) _,f0.heap h.x3 (by show ¬w.heap.size+3=w.heap.size;omega)⟩
 ·have:=Xc (P:=aa.prog) _ w.heap.size 0 88 (bh F).toList _ (tR g0) aa.underlying88 rfl (by rw[aa.xj,Wc,jT]);rwa [Xn]at this
 ·have:=Xc (P:=aa.prog) _ (w.heap.size+1) 0 89 (bH G).toList _ (tR g1) aa.underlying89 rfl (by rw[aa.zl,Wc,jq]);rwa [Xn]at this
theorem A9(b num:Nat)(bm:Nat->Nat)(K:al)(w:World)(h:aA w b bm num K)(hK:dD w bm K):
  Calls aa.prog 33 #[.pointer (some ⟨b,0,none⟩)] w λe w'=>e=.returned (.tuple #[.agg (bh (bQ K 0 0)),.agg (bH (aB K))])/\Below w.heap.size w w':=by
 have HSg:Hid (∀n:Nat,n<64->∀W,Below w.heap.size w W->Calls aa.prog 11 #[.pointer (some ⟨b,0,none⟩),.int .i64 n] W λe w'=>e=.returned (.tuple #[.string (aB K n),.int .i64 0])/\Below W.heap.size W w'):=λn hn W hW=>by
  have:=zI b num n bm K W (h.below hW) (hK.below h hW) hn;rw[(h.below hW).text hn]at this;exact this
 have HTs:Hid (∀n,n<64->(aB K n).size<=maxLen):=λn hn=>by rw[<-h.text hn];exact C4 h hK n hn
 have hz:=aa.FC;have hzt:=aa.Cn;have s1:=jT;have s2:=jq;have HJ0:Hid (cY w (bQ K 4 0) (λq=>if q<0 then aB K q else ⟨#[]⟩) ((((w.alloc (.cells (bh λ_=>0) 88)).alloc (.cells (bH λ_=>⟨#[]⟩) 89)).alloc (.cells (bh λ_=>0) 88)).alloc (.cells (bH λ_=>⟨#[]⟩) 89))):=by
  refine⟨?_,?_,?_,?_,((((AT _ _).alloc (eR _) _).alloc (by simp) _).alloc (by simp;omega) _).alloc (by simp;omega) _⟩
  ·rw[Vx _ _ _ (by simp;omega)];exact wi w _ _ _
  ·rw[Vx _ _ _ (by simp<;>omega)];simpa using Gl w _ _ _
  ·rw[Vx _ _ _ (by simp),sZ (F:=bQ K 4 0) (F':=λ_=>0) λq hq=>?_]
   ·exact re w _ _ _
   ·unfold bQ;rw[AI];rintro⟨_,h|h⟩<;>omega
  ·have:=BY (((w.alloc (.cells (bh λ_=>0) 88)).alloc (.cells (bH λ_=>⟨#[]⟩) 89)).alloc (.cells (bh λ_=>0) 88)) (.cells (bH λ_=>⟨#[]⟩) 89);simp only[World.alloc,WJ]at this;rw[zm (G:=λq=>if q<0 then aB K q else ⟨#[]⟩) (G':=λ_=>⟨#[]⟩) λq _=>by simp];exact this
 clear h hK;go_enter aa.func33,aa.ntmps33;go_wp2;go_loopw [6] (λiv wr=>∃n:Nat,n<=64/\iv=.int .i64 n/\Hid (cY w (bQ K 4 n) (λq=>if q<n then aB K q else ⟨#[]⟩) wr)) (λiv _=>64-(intOf iv).toNat)
 case atStart=>exact⟨0,by omega,rfl,HJ0.out⟩
 case round=>
  obtain⟨n,hn,rfl,HJ⟩:=hrel;clear HJ0;by_cases hlt:n<64
  ·have n1:(n:Int)<64:=by omega
   have n0:(0:Int)<=(n:Int):=by omega
   have HSn:Hid (Calls aa.prog 11 #[.pointer (some ⟨b,0,none⟩),.int .i64 n] wr λe w2=>e=.returned (.tuple #[.string (aB K n),.int .i64 0])/\cY w (bQ K 4 n) (λq=>if q<n then aB K q else ⟨#[]⟩) w2):=(HSg.out n hlt wr HJ.out.bj).mono λe w2 ⟨he,hb⟩=>⟨he,HJ.out.below hb⟩
   have HSm:Hid (∀W,Calls aa.prog 13 #[.string (aB K n)] W λe w'=>e=.returned (.int .u64 (aM K 3 n))/\w'=W):=λW=>Ap (aB K n) W (HTs.out n hlt);have HFin:Hid (∀w2,cY w (bQ K 4 n) (λq=>if q<n then aB K q else ⟨#[]⟩) w2->cY w (bQ K 4 (n+1)) (λq=>if q<n+1 then aB K q else ⟨#[]⟩) ((w2.setCell ⟨w.heap.size+3,n,none⟩ (.string (aB K n))).setCell ⟨w.heap.size+2,192+n,none⟩ (.int .u64 (aM K 3 n)))):=λw2 h2=>by
    refine (h2.JZ (k:=n) (v:=aB K n) λq _=>?_).FG (k:=192+n) (v:=aM K 3 n) λq _=>Fo (l:=3) (by omega) hlt hlt q;by_cases e:q=n
    ·subst e;simp
    ·rw[AI e];by_cases hq:q<n
     ·rw[AS hq,AS (by omega)]
     ·rw[AI hq,AI (by omega)]
   have HT3:Hid (∀w2,cY w (bQ K 4 n) (λq=>if q<n then aB K q else ⟨#[]⟩) w2->w2.cell? ⟨w.heap.size+3,n,none⟩=some (.string ⟨#[]⟩)/\w2.frozen? ⟨w.heap.size+3,n,none⟩=false/\w2.cell? ⟨w.heap.size+2,192+n,none⟩=some (.int .u64 0)/\w2.frozen? ⟨w.heap.size+2,192+n,none⟩=false):=λw2 h2=>by
    refine⟨?_,(au h2.x3).2 _,?_,(au h2.x2).2 _⟩
    ·rw[(au h2.x3).1,xc hlt];simp
    ·rw[(au h2.x2).1,ll (by omega)];congr 2;unfold bQ;rw[AI];rintro⟨_,h|h⟩<;>omega
   clear HJ HSg;generalize aB K n=tx at*;generalize aM K 3 n=dx at*;go_wp2_with (first
    |(go_at_call 11;refine By HSn.out ?_;rintro e w2 ⟨rfl,hj2⟩;obtain⟨q1,q2,q3,q4⟩:=HT3.out _ hj2;have HJ2:Hid _:=hj2;clear hj2)
    |(go_at_call 13;refine By (HSm.out _) ?_;rintro e w3 ⟨rfl,hw3⟩;obtain rfl:=hw3.symm))
   exact⟨⟨n+1,by omega,by go_num,HFin.out _ HJ2.out⟩,by simp[intOf];omega⟩
  ·have HJe:Hid (cY w (bQ K 3 0) (aB K) wr):=(by
    obtain rfl:n=64:=by omega
    obtain⟨x0,x1,x2,x3,x4⟩:=HJ.out;exact⟨x0,x1,by rw[<-sZ λq _=>Fv (l:=3) q];exact x2,by rw[zm (G:=aB K) (G':=λq=>if q<64 then aB K q else ⟨#[]⟩) λq hq=>by rw[AS hq]];exact x3,x4⟩)
   clear HJ HSg HTs hn;have hlt': ¬(n:Int)<64:=by omega
   clear hlt;generalize n=n64 at*;obtain⟨i0,hi0,hz0,hz1,hz2⟩:=VH aa.oc;go_wp2;go_loopw [7,8] (λwv lv wr=>∃j:Nat,j<=3/\wv=.int .i64 (if j=0 then 0 else 4 ^ (j-1):Nat)/\lv=.int .i64 ((j:Int)-1)/\Hid (cY w (bQ K j 0) (aB K) wr)) (λ_ lv _=>(intOf lv+1).toNat)
   case atStart=>exact⟨3,by omega,rfl,rfl,HJe.out⟩
   case round=>
    obtain⟨j,hj,rfl,rfl,HJ⟩:=hrel;clear HJe;cases j with
    |zero=>
     have HJf:Hid (cY w (bQ K 0 0) (aB K) wr):=HJ.out;clear HJ;have hm1:((0:Nat):Int)-1= -1:=by omega
     rw[hm1];have d2:=y8 (show wr.heap[w.heap.size+1+1]?=_ from HJf.out.x2) (jT _);have d3:=y8 (show wr.heap[w.heap.size+1+1+1]?=_ from HJf.out.x3) (jq _);have d4:=y8 (show (wr.drew.setCells w.heap.size 0 (bh (bQ K 0 0)).toList).heap[w.heap.size+1+1+1]?=_ from (FE HJf.out).dH) (jq _);have p1:oJ 256 wr.drew w.heap.size 0 (bh (bQ K 0 0)):=⟨sO (w:=wr.drew) HJf.out.x0 (jT _),jT _,AH _⟩
     have HE:Hid (AB w (bh (bQ K 0 0)) (bH (aB K)) wr):=FE HJf.out;have p2:oJ 64 (wr.drew.setCells w.heap.size 0 (bh (bQ K 0 0)).toList) (w.heap.size+1) 0 (bH (aB K)):=⟨HE.out.there,jq _,Bq _⟩
     clear HJf s1 s2;generalize hD:bh (bQ K 0 0)=D at*;generalize hTT:bH (aB K)=TT at*;have HDT:Hid (bh (bQ K 0 0)=D/\bH (aB K)=TT):=⟨hD,hTT⟩
     clear hD hTT;obtain⟨r2,q2⟩:=d2;obtain⟨r3,q3⟩:=d3;obtain⟨r4,q4⟩:=d4;go_wp2;go_region_law (fail)
     all_goals
      have l0:=HE.out.Uc;have l1:=HE.out.GA;go_wp2;refine V9 (v:=.tuple #[.agg D,.agg TT]) ?_ rfl ⟨by rw[HDT.out.1,HDT.out.2],HE.out.bj⟩;simp only[results,aa.results33];simp[asAddr,l0,l1]
    |succ l=>
     have hl:l<3:=by omega
     have el:((l+1:Nat):Int)-1=(l:Int):=by omega
     have ew:(if l+1=0 then 0 else 4 ^ (l+1-1):Nat)=4 ^ l:=by simp
     rw[el,ew];have hp:=(kU (show l<=3 by omega)).1;have hp2:=(kU (show l+1<=3 by omega)).1;have hps:4 ^ (l+1)=4 ^ l*4:=Wf ..;have l0:(0:Int)<=(l:Int):=by omega
     have l3:(l:Int)+1<4:=by omega
     clear el ew;obtain⟨wd,hwd⟩: ∃wd:Nat,4 ^ l=wd:=⟨_,rfl⟩
     rw[hwd]at hp hps ⊢;have HWd:Hid (4 ^ l=wd):=hwd;clear hwd;go_wp2;go_loopw [9] (λnv wr=>∃n:Nat,n<=wd/\nv=.int .i64 n/\Hid (cY w (bQ K (l+1) n) (aB K) wr)) (λnv _=>wd-(intOf nv).toNat)
     case atStart=>exact⟨0,by omega,rfl,HJ.out⟩
     case round=>
      obtain⟨n,hn,rfl,HI⟩:=hrel;clear HJ;by_cases hlt:n<wd
      ·have n1:(n:Int)<(wd:Int):=by omega
       have n0:(0:Int)<=(n:Int):=by omega
       obtain⟨d,hd⟩: ∃d:Nat->Int,d=λi=>aM K (l+1) (n*4+i):=⟨_,rfl⟩
       have HDg:Hid (aM K l n=dA (cA d 4)):=(show _=_ by rw[yL K hl,hd];rfl)
       have HC:Hid (∀W,cY w (bQ K (l+1) n) (aB K) W->∀i,i<4->W.cell? ⟨w.heap.size+1+1,(l+1)*64+(4*n+i),none⟩=some (.int .u64 (d i))):=λW hW i hi=>by
        rw[(au hW.x2).1,ll (by omega),hd];congr 2;unfold bQ;rw[show ((l+1)*64+(4*n+i)) / 64=l+1 by omega,show ((l+1)*64+(4*n+i))%64=n*4+i by omega,AS ⟨by rw[hps];omega,.inl (eR _)⟩]
       clear hd;obtain⟨W0,hW0⟩: ∃W,W=wr:=⟨_,rfl⟩
       have HW0:Hid (W0.heap.size<=wr.heap.size/\w.heap.size<=W0.heap.size):=(by rw[hW0];exact⟨eR _,HI.out.bj.size⟩)
       clear hW0;go_wp2;go_loopw [10,11] (λo iv wx=>∃i:Nat,i<=4/\iv=.int .i64 i/\Hid (aG wx W0.heap.size o (cA d i))/\Hid (cY w (bQ K (l+1) n) (aB K) wx)/\Hid (W0.heap.size<=wx.heap.size)) (λ_ iv _=>4-(intOf iv).toNat)
       case atStart=>exact⟨0,by omega,rfl,aG.nil _ _,HI.out,HW0.out.1⟩
       case round=>
        obtain⟨i,hi,rfl,HR,HX,HZ⟩:=hrel;by_cases hi4:i<4
        ·have a1:(i:Int)<4:=by omega
         have a0:(0:Int)<=(i:Int):=by omega
         have hsn:(cA d i).size=8*i:=nJ d i;go_wp2;go_loopw [10,12] (λo kv wy=>∃m:Nat,m<=8/\kv=.int .i64 (7-(m:Int))/\Hid (aG wy W0.heap.size o (cA d i++ft (d i) m))/\Hid (cY w (bQ K (l+1) n) (aB K) wy)/\Hid (W0.heap.size<=wy.heap.size)) (λ_ kv _=>(intOf kv+1).toNat)
         case atStart=>exact⟨0,by omega,rfl,by show aG _ _ _ _;rw[ft,gN];exact HR.out,HX.out,HZ.out⟩
         case round=>
          obtain⟨m,hm,rfl,HR2,HX2,HZ2⟩:=hrel;by_cases hm8:m<8
          ·have g1:(0:Int)<=7-(m:Int):=by omega
           have g2:7-(m:Int)<=7:=by omega
           have hc:=HC.out _ HX2.out i hi4;have hz2':=HZ2.out;have hwz:=HX2.out.bj.size;have hl2:(cA d i++ft (d i) m).size+1<=140737488355328:=by rw[IT,ry,hsn];omega
           have HNk:Hid ((8*(7-(m:Int))).toNat=56-8*m):=(show (8*(7-(m:Int))).toNat=56-8*m by omega)
           generalize hst:cA d i++ft (d i) m=st at*;have HST:Hid (st=cA d i++ft (d i) m):=hst.symm;clear hst;generalize d i=di at*;go_wp2_with (at_builtin;refine jw _ rfl _ _ _ rfl W0.heap.size 5 i0 _ 1 1 aa.underlying48 hi0 hz0 hz1 hz2 rfl (by omega) u10 _ _ rfl (VD HR2.out _) ⟨wr.heap.size,0,none⟩ 1 1 _ rfl (by rfl) (VM (BY wr _)) (by simp[Value.oneCell']) (by omega) (by unfold maxLen;omega) (by omega) (by simp;omega) ?_;intro g capn w1 aD hgr1)
           refine⟨⟨m+1,by omega,by first|omega|go_num,?_,(HX2.out.below ((AT _ _).alloc (eR _) _)).grow (VD HR2.out _) HW0.out.2 hgr1,by have:=hgr1.grown.size;simp at this;show _<=_;omega⟩,by simp[intOf];omega⟩;show aG _ _ _ _;rw[ft,<-cM,<-HST.out];refine aG.of aD rfl ?_;rw[je,show 8*(7-m)=56-8*m by omega]
          ·obtain rfl:m=8:=by omega
           have HR8:Hid (aG wr W0.heap.size u10 (cA d (i+1))):=HR2.out;clear HR2 HR HX HZ;go_wp2;exact⟨⟨i+1,by omega,by go_num,HR8.out,HX2.out,HZ2.out⟩,by simp[intOf];omega⟩
        ·obtain rfl:i=4:=by omega
         have hcv:=og HR.out;have hcvd:(convert 48 9 u10).run aa.prog wr.drew=.ok (.string (cA d 4)) wr.drew:=og (w:=wr.drew) HR.out;have HSm:Hid (∀W,Calls aa.prog 13 #[.string (cA d 4)] W λe w'=>e=.returned (.int .u64 (aM K l n))/\w'=W):=λW=>by
          rw[HDg.out];exact Ap (cA d 4) W (by rw[nJ];decide)
         have HFin:Hid (∀W:World,W.heap=wr.heap->W.os=wr.os->W.tape=wr.tape->W.output=wr.output->cY w (bQ K (l+1) (n+1)) (aB K) (W.setCell ⟨w.heap.size+1+1,l*64+n,none⟩ (.int .u64 (aM K l n)))):=λW e1 e2 e3 e4=>by
          have hW:cY w (bQ K (l+1) n) (aB K) W:=HX.out.below ⟨e2,e3,e4,by rw[e1];exact eR _,λk _=>by rw[e1]⟩;exact hW.FG λq _=>Fo (by omega) (by rw[HWd.out];exact hlt) (by omega) q
         have hcs:wr.cell? ⟨w.heap.size+1+1,l*64+n,none⟩=some (.int .u64 0):=by
          rw[(au HX.out.x2).1,ll (by omega)];congr 2;unfold bQ;rw[show (l*64+n) / 64=l by omega,show (l*64+n)%64=n by omega,AI];rintro⟨_,h|h⟩<;>omega
         have hfs:wr.frozen? ⟨w.heap.size+1+1,l*64+n,none⟩=false:=(au HX.out.x2).2 _;generalize cA d 4=nb at*;generalize aM K l n=dx at*;have l4:(l:Int)<4:=by omega
         have n64:(n:Int)<64:=by omega
         clear HR HX HDg HC;go_wp2;go_region_with (first|(go_at_call 13;refine By (HSm.out _) ?_;rintro e w3 ⟨rfl,hw3⟩;obtain rfl:=hw3.symm))
         all_goals
          go_wp2;exact⟨⟨n+1,by omega,by go_num,(HFin.out wr rfl rfl rfl rfl).below (AT _ _).drew⟩,by simp[intOf];omega⟩
      ·obtain rfl:n=wd:=by omega
       have HJn:Hid (cY w (bQ K l 0) (aB K) wr):=HI.out.NW λq _=>by rw[<-HWd.out];exact Fv q
       clear HI;have hq4:(n:Int) / 4=((if l=0 then 0 else 4 ^ (l-1):Nat):Int):=by
        rw[<-HWd.out];rcases (show l=0\/l=1\/l=2 by omega) with rfl|rfl|rfl<;>rfl
       have HQ4:Hid ((n:Int) / 4=((if l=0 then 0 else 4 ^ (l-1):Nat):Int)):=hq4;clear hq4;go_wp2;refine⟨⟨l,by omega,?_,by go_num,HJn.out⟩,by simp[intOf]⟩;rw[HQ4.out]
end
section
structure nM(w:World)(b1 n1:Nat)(m1:Nat->Nat)(K1:al)(b2 n2:Nat)(m2:Nat->Nat)(K2:al):Prop where
 r1:aA w b1 m1 n1 K1
 f1:dD w m1 K1
 r2:aA w b2 m2 n2 K2
 f2:dD w m2 K2
theorem nM.below{w:World}{b1 n1:Nat}{m1:Nat->Nat}{b2 n2:Nat}{m2:Nat->Nat}(h:nM w b1 n1 m1 K1 b2 n2 m2 K2)(hb:Below w.heap.size w W):nM W b1 n1 m1 K1 b2 n2 m2 K2:=
 ⟨h.r1.below hb,h.f1.below h.r1 hb,h.r2.below hb,h.f2.below h.r2 hb⟩
theorem uB{w:World}{num n:Nat}{bm:Nat->Nat}{K:al}(h:aA w b bm num K)(hK:dD w bm K)(hn:n<64):Calls aa.prog 11 #[.pointer (some ⟨b,0,none⟩),.int .i64 n] w λe w'=>e=.returned (.tuple #[.string (aB K n),.int .i64 0])/\Below w.heap.size w w':=by
 have:=zI b num n bm K w h hK hn;rwa [h.text hn]at this
theorem SV(b1 n1:Nat)(m1:Nat->Nat)(K1:al)(b2 n2:Nat)(m2:Nat->Nat)(K2:al)(w:World)(h:nM w b1 n1 m1 K1 b2 n2 m2 K2):
  Calls aa.prog 19 #[.pointer (some ⟨b1,0,none⟩),.pointer (some ⟨b2,0,none⟩)] w λe w'=>∃f:Bool,e=.returned (.bool f)/\((∀n,n<64->aB K1 n=aB K2 n)->f=true)/\Below w.heap.size w w':=by
 have H1:Hid (∀n:Nat,n<64->∀W,Below w.heap.size w W->Calls aa.prog 11 #[.pointer (some ⟨b1,0,none⟩),.int .i64 n] W λe w'=>e=.returned (.tuple #[.string (aB K1 n),.int .i64 0])/\Below w.heap.size w w'):=λn hn W hW=>(uB (h.below hW).r1 (h.below hW).f1 hn).mono λe w' ⟨he,hb⟩=>⟨he,bf hW hb⟩
 have H2:Hid (∀n:Nat,n<64->∀W,Below w.heap.size w W->Calls aa.prog 11 #[.pointer (some ⟨b2,0,none⟩),.int .i64 n] W λe w'=>e=.returned (.tuple #[.string (aB K2 n),.int .i64 0])/\Below w.heap.size w w'):=λn hn W hW=>(uB (h.below hW).r2 (h.below hW).f2 hn).mono λe w' ⟨he,hb⟩=>⟨he,bf hW hb⟩
 clear h;go_enter aa.func19,aa.ntmps19;go_wp2;go_loopw [5] (λiv wr=>∃n:Nat,n<=64/\iv=.int .i64 n/\Hid (Below w.heap.size w wr)) (λiv _=>64-(intOf iv).toNat)
 case atStart=>exact⟨0,by omega,rfl,AT _ _⟩
 case round=>
  obtain⟨n,hn,rfl,HB⟩:=hrel;by_cases hlt:n<64
  ·have n1':(n:Int)<64:=by omega
   have HN:Hid ((∀n,n<64->aB K1 n=aB K2 n)->aB K1 n=aB K2 n):=λh=>h n hlt;have S1:Hid _:=H1.out n hlt;have S2:Hid _:=H2.out n hlt;clear H1 H2;generalize aB K1 n=x1 at*;generalize aB K2 n=x2 at*;go_upto_region 6 with (first
    |(go_at_call_of 11 (Value.pointer (some ⟨b1,0,none⟩));refine By (S1.out _ HB.out) ?_;rintro e w1 ⟨rfl,hb1⟩;have HB1:Hid (Below w.heap.size w w1):=hb1;clear hb1)
    |(go_at_call_of 11 (Value.pointer (some ⟨b2,0,none⟩));refine By (S2.out _ HB1.out) ?_;rintro e w2 ⟨rfl,hb2⟩;have HB2:Hid (Below w.heap.size w w2):=hb2;clear hb2))
   go_wp2
   ·exact⟨⟨n+1,by omega,by go_num,HB2.out⟩,by simp[intOf];omega⟩
   ·rename_i hne;go_ret;exact⟨false,rfl,λh=>absurd (by rw[HN.out h]) hne,HB2.out⟩
  ·go_wp2;go_ret;exact⟨true,rfl,λ_=>rfl,HB.out⟩
structure iV(w:World)(p5 p6 p7 p8:Nat)(K1 K2:al)(W:World):Prop where
 x5:W.heap[p5]?=some (.cells (bh (bQ K1 0 0)) 88)
 x6:W.heap[p6]?=some (.cells (bH (aB K1)) 89)
 x7:W.heap[p7]?=some (.cells (bh (bQ K2 0 0)) 88)
 x8:W.heap[p8]?=some (.cells (bH (aB K2)) 89)
 bj:Below w.heap.size w W
theorem iV.drewN{w:World}{p5 p6 p7 p8:Nat}(h:iV w p5 p6 p7 p8 K1 K2 W)(q:Nat):iV w p5 p6 p7 p8 K1 K2 (W.drewN q):=⟨h.x5,h.x6,h.x7,h.x8,Wq h.bj q⟩
def Vj(w:World)(K1 K2:al)(e:Ending)(w':World):Prop:=∃f:Bool,e=.returned (.bool f)/\(f=false->iE K1 K2)/\Below w.heap.size w w'
theorem oR{K:al}{n:Nat}(hl:l<4)(hn:n<4 ^ l)(h64:n<64):bQ K 0 0 (l*64+n)=aM K l n:=by
 unfold bQ;rw[show (l*64+n) / 64=l by omega,show (l*64+n)%64=n by omega,AS ⟨hn,.inl (WD _)⟩]
abbrev js(w:World):World:=(w.alloc (.cells (bh λ_=>0) 88)).alloc (.cells (bH λ_=>⟨#[]⟩) 89)
structure My(w:World)(F:Nat->Int)(G:Nat->ByteArray):Prop where
 f1:oJ 256 (js w) w.heap.size 0 (bh F)
 f2:oJ 64 ((js w).setCells w.heap.size 0 (bh F).toList) (w.heap.size+1) 0 (bH G)
 h1:(((js w).setCells w.heap.size 0 (bh F).toList).setCells (w.heap.size+1) 0 (bH G).toList).heap[w.heap.size]?=some (.cells (bh F) 88)
 h2:(((js w).setCells w.heap.size 0 (bh F).toList).setCells (w.heap.size+1) 0 (bH G).toList).heap[w.heap.size+1]?=some (.cells (bH G) 89)
 bj:Below w.heap.size w (((js w).setCells w.heap.size 0 (bh F).toList).setCells (w.heap.size+1) 0 (bH G).toList)
theorem CZ(w:World)(F:Nat->Int)(G:Nat->ByteArray):My w F G:=by
 have a0:(js w).heap[w.heap.size]?=some (.cells (bh λ_=>0) 88):=by
  rw[Vx _ _ _ (by simp)];exact BY w _
 have a1:(js w).heap[w.heap.size+1]?=some (.cells (bH λ_=>⟨#[]⟩) 89):=kP w _ _;have b0:=oI a0 (bh F) (by rw[jT,jT]);have f0:Fr (λq=>q=w.heap.size) (js w) ((js w).setCells w.heap.size 0 (bh F).toList):=Fr.setCells (X:=λq=>q=w.heap.size) (Fr.refl _ _) (Or.inr rfl) _ _;have b1:=f0.heap a1 (by show ¬w.heap.size+1=w.heap.size;omega);have f1:Fr (λq=>q=w.heap.size+1) ((js w).setCells w.heap.size 0 (bh F).toList) (((js w).setCells w.heap.size 0 (bh F).toList).setCells (w.heap.size+1) 0 (bH G).toList):=Fr.setCells (X:=λq=>q=w.heap.size+1) (Fr.refl _ _) (Or.inr rfl) _ _;exact⟨⟨sO a0 (jT _),jT _,AH _⟩,⟨sO b1 (jq _),jq _,Bq _⟩,f1.heap b0 (by show ¬w.heap.size=w.heap.size+1;omega),oI b1 (bH G) (by rw[jq,jq]),pc _ (pc _ (((AT _ _).alloc (eR _) _).alloc (by simp) _) (eR _) _) (by omega) _⟩
attribute [local go_sem ↓] CV zy Xa Xb
attribute [local go_sem] BA zn
theorem GP(b1 n1:Nat)(m1:Nat->Nat)(K1:al)(b2 n2:Nat)(m2:Nat->Nat)(K2:al)(w:World)(h:nM w b1 n1 m1 K1 b2 n2 m2 K2):
  Calls aa.prog 17 #[.pointer (some ⟨b1,0,none⟩),.pointer (some ⟨b2,0,none⟩)] w λe w'=>Vj w K1 K2 e w':=by
 have T1:Hid (Calls aa.prog 33 #[.pointer (some ⟨b1,0,none⟩)] w λe w'=>e=.returned (.tuple #[.agg (bh (bQ K1 0 0)),.agg (bH (aB K1))])/\Below w.heap.size w w'):=A9 b1 n1 m1 K1 w h.r1 h.f1;have T2:Hid (∀W,Below w.heap.size w W->Calls aa.prog 33 #[.pointer (some ⟨b2,0,none⟩)] W λe w'=>e=.returned (.tuple #[.agg (bh (bQ K2 0 0)),.agg (bH (aB K2))])/\Below W.heap.size W w'):=λW hW=>A9 b2 n2 m2 K2 W (h.below hW).r2 (h.below hW).f2;have hz:=aa.FC;have hzt:=aa.Cn;have s1:=jT;have s2:=jq;clear h;go_enter aa.func17,aa.ntmps17;go_upto_region 2 with (go_at_call 33;refine By T1.out ?_;rintro e w1 ⟨rfl,hb1⟩;have HS1:Hid _:=CZ w1 (bQ K1 0 0) (aB K1);have g1:=HS1.out.f1;have g2:=HS1.out.f2;have HB1:Hid (Below w.heap.size w w1):=hb1;clear hb1)
 obtain⟨W3,hW3⟩: ∃W,W=(((js w1).setCells w1.heap.size 0 (bh (bQ K1 0 0)).toList).setCells (w1.heap.size+1) 0 (bH (aB K1)).toList):=⟨_,rfl⟩
 have e3:W3=(((w1.alloc (.cells (bh λ_=>0) 88)).alloc (.cells (bH λ_=>⟨#[]⟩) 89)).setCells w1.heap.size 0 (bh (bQ K1 0 0)).toList).setCells (w1.heap.size+1) 0 (bH (aB K1)).toList:=hW3;rw[<-e3];have HX:Hid (W3.heap[w1.heap.size]?=some (.cells (bh (bQ K1 0 0)) 88)/\W3.heap[w1.heap.size+1]?=some (.cells (bH (aB K1)) 89)/\Below w.heap.size w W3):=(by rw[hW3];exact⟨HS1.out.h1,HS1.out.h2,bf HB1.out HS1.out.bj⟩)
 clear e3 hW3 g1 g2 HS1 T1;have T2':Hid _:=T2.out W3 HX.out.2.2;go_upto_region 3 with (go_at_call 33;refine By T2'.out ?_;rintro e w4 ⟨rfl,hb4⟩;have HS4:Hid _:=CZ w4 (bQ K2 0 0) (aB K2);have g1:=HS4.out.f1;have g2:=HS4.out.f2;have HB4:Hid (Below W3.heap.size W3 w4):=hb4;clear hb4)
 obtain⟨W6,hW6⟩: ∃W,W=(((js w4).setCells w4.heap.size 0 (bh (bQ K2 0 0)).toList).setCells (w4.heap.size+1) 0 (bH (aB K2)).toList):=⟨_,rfl⟩
 have e6:W6=(((w4.alloc (.cells (bh λ_=>0) 88)).alloc (.cells (bH λ_=>⟨#[]⟩) 89)).setCells w4.heap.size 0 (bh (bQ K2 0 0)).toList).setCells (w4.heap.size+1) 0 (bH (aB K2)).toList:=hW6;rw[<-e6];have HJ0:Hid (iV w w1.heap.size (w1.heap.size+1) w4.heap.size (w4.heap.size+1) K1 K2 W6):=(by
  have hb:Below W3.heap.size W3 W6:=by rw[hW6];exact bf HB4.out HS4.out.bj
  refine⟨aS HX.out.1 hb,aS HX.out.2.1 hb,?_,?_,bf HX.out.2.2 hb⟩
  ·rw[hW6];exact HS4.out.h1
  ·rw[hW6];exact HS4.out.h2)
 clear e6 hW6 g1 g2 HS4 HB4 HX T2 T2' HB1 hz hzt s1 s2;generalize w1.heap.size=p5 at*;generalize w4.heap.size=p7 at*;go_wp2;go_loopw [9] (λiv wr=>∃n:Nat,n<=64/\iv=.int .i64 n/\Hid (iV w p5 (p5+1) p7 (p7+1) K1 K2 wr/\∀k,k<n->aB K1 k≠aB K2 k->dz K1 K2 3 k)) (λiv _=>64-(intOf iv).toNat)
 case atStart=>exact⟨0,by omega,rfl,HJ0.out,λk hk=>by omega⟩
 case round=>
  obtain⟨n,hn,rfl,HJ⟩:=hrel;clear HJ0;by_cases hlt:n<64
  ·have n1':(n:Int)<64:=by omega
   have n0:(0:Int)<=(n:Int):=by omega
   have q1:wr.cell? ⟨p5+1,n,none⟩=some (.string (aB K1 n)):=by rw[(au HJ.out.1.x6).1,xc hlt]
   have q2:wr.cell? ⟨p7+1,n,none⟩=some (.string (aB K2 n)):=by rw[(au HJ.out.1.x8).1,xc hlt]
   have q3:wr.cell? ⟨p5,192+n,none⟩=some (.int .u64 (aM K1 3 n)):=by rw[(au HJ.out.1.x5).1,ll (by omega),show 192+n=3*64+n by omega,oR (by omega) hlt hlt]
   have q4:wr.cell? ⟨p7,192+n,none⟩=some (.int .u64 (aM K2 3 n)):=by rw[(au HJ.out.1.x7).1,ll (by omega),show 192+n=3*64+n by omega,oR (by omega) hlt hlt]
   have HN:Hid (∀q,¬(aB K1 n≠aB K2 n/\aM K1 3 n=aM K2 3 n)->iV w p5 (p5+1) p7 (p7+1) K1 K2 (wr.drewN q)/\∀k,k<n+1->aB K1 k≠aB K2 k->dz K1 K2 3 k):=λq hno=>⟨HJ.out.1.drewN q,λk hk hne=>by
    by_cases e:k=n
    ·subst e;exact λe=>hno ⟨hne,e⟩
    ·exact HJ.out.2 k (by omega) hne⟩
   have HBe:Hid (Below w.heap.size w wr):=HJ.out.1.bj;clear HJ;generalize aB K1 n=x1 at*;generalize aB K2 n=x2 at*;generalize aM K1 3 n=d1 at*;generalize aM K2 3 n=d2 at*;by_cases hx:x1.toList=x2.toList
   ·have hxb:(x1.toList==x2.toList)=true:=by simpa using hx
    have hx':x1=x2:=WV (Array.ext' (by rw[<-W8,<-W8];exact hx));go_wp2;go_quiet (fail);go_wp2;exact⟨⟨n+1,by omega,by go_num,HN.out _ (λh=>h.1 hx')⟩,by simp[intOf];omega⟩
   ·have hxb:(x1.toList==x2.toList)=false:=by simpa using hx
    by_cases hd:d1=d2
    ·have hde:decide (d1=d2)=true:=by simpa using hd
     go_wp2;go_quiet (fail);go_wp2;go_ret;exact⟨true,rfl,(λh=>by cases h),Wq HBe.out _⟩
    ·have hde:decide (d1=d2)=false:=by simpa using hd
     go_wp2;go_quiet (fail);go_wp2;exact⟨⟨n+1,by omega,by go_num,HN.out _ (λh=>hd h.2)⟩,by simp[intOf];omega⟩
  ·have HLf:Hid (∀k,k<64->aB K1 k≠aB K2 k->dz K1 K2 3 k):=(λk hk=>HJ.out.2 k (by omega))
   have HJ1:Hid (iV w p5 (p5+1) p7 (p7+1) K1 K2 wr):=HJ.out.1;have hlt': ¬(n:Int)<64:=by omega
   clear HJ hn hlt;generalize n=n64 at*;go_wp2;go_loopw [10,11] (λwv lv wr=>∃l:Nat,l<=3/\wv=.int .i64 (4 ^ l:Nat)/\lv=.int .i64 l/\Hid (iV w p5 (p5+1) p7 (p7+1) K1 K2 wr/\∀v n,v<l->n<4 ^ v->(∃i,i<4/\dz K1 K2 (v+1) (n*4+i))->dz K1 K2 v n)) (λ_ lv _=>3-(intOf lv).toNat)
   case atStart=>exact⟨0,by omega,rfl,rfl,HJ1.out,λv n hv=>by omega⟩
   case round=>
    obtain⟨l,hl,rfl,rfl,HL⟩:=hrel;clear HJ1;by_cases hl3:l<3
    ·have l3:(l:Int)<3:=by omega
     have l0:(0:Int)<=(l:Int):=by omega
     have l4:(l:Int)+1<4:=by omega
     have l4':(l:Int)<4:=by omega
     have hp:=(kU (show l<=3 by omega)).1;have hp2:=(kU (show l+1<=3 by omega)).1;have hps:4 ^ (l+1)=4 ^ l*4:=Wf ..;obtain⟨wd,hwd⟩: ∃wd:Nat,4 ^ l=wd:=⟨_,rfl⟩
     rw[hwd]at hp hps ⊢;have HWd:Hid (4 ^ l=wd):=hwd;clear hwd;go_wp2;go_loopw [12] (λnv wr=>∃n:Nat,n<=wd/\nv=.int .i64 n/\Hid (iV w p5 (p5+1) p7 (p7+1) K1 K2 wr/\∀k,k<n->(∃i,i<4/\dz K1 K2 (l+1) (k*4+i))->dz K1 K2 l k)) (λnv _=>wd-(intOf nv).toNat)
     case atStart=>exact⟨0,by omega,rfl,HL.out.1,λk hk=>by omega⟩
     case round=>
      obtain⟨n,hn,rfl,HN⟩:=hrel;by_cases hnl:n<wd
      ·have a1:(n:Int)<(wd:Int):=by omega
       have a0:(0:Int)<=(n:Int):=by omega
       have n64':(n:Int)<64:=by omega
       go_wp2;go_loopw [13,14] (λov iv wr=>∃(i:Nat) (f:Bool),i<=4/\ov=.bool f/\iv=.int .i64 i/\Hid (iV w p5 (p5+1) p7 (p7+1) K1 K2 wr/\(f=true↔∃j,j<i/\dz K1 K2 (l+1) (n*4+j)))) (λ_ iv _=>4-(intOf iv).toNat)
       case atStart=>exact⟨0,false,by omega,rfl,rfl,HN.out.1,by simp⟩
       case round=>
        obtain⟨i,f,hi,rfl,rfl,HI⟩:=hrel;by_cases hi4:i<4
        ·have b1:(i:Int)<4:=by omega
         have b0:(0:Int)<=(i:Int):=by omega
         have q3:wr.cell? ⟨p5,(l+1)*64+(4*n+i),none⟩=some (.int .u64 (aM K1 (l+1) (n*4+i))):=by rw[(au HI.out.1.x5).1,ll (by omega),show 4*n+i=n*4+i by omega,oR (by omega) (by omega) (by omega)]
         have q4:wr.cell? ⟨p7,(l+1)*64+(4*n+i),none⟩=some (.int .u64 (aM K2 (l+1) (n*4+i))):=by rw[(au HI.out.1.x7).1,ll (by omega),show 4*n+i=n*4+i by omega,oR (by omega) (by omega) (by omega)]
         have HG:Hid (∀q (f':Bool),(f'=true↔(f=true\/¬aM K1 (l+1) (n*4+i)=aM K2 (l+1) (n*4+i)))->iV w p5 (p5+1) p7 (p7+1) K1 K2 (wr.drewN q)/\(f'=true↔∃j,j<i+1/\dz K1 K2 (l+1) (n*4+j))):=λq f' hf=>⟨HI.out.1.drewN q,by
          rw[hf,HI.out.2];constructor
          ·rintro (⟨j,hj,hd⟩|hd)
           ·exact⟨j,by omega,hd⟩
           ·exact⟨i,by omega,hd⟩
          ·rintro⟨j,hj,hd⟩;by_cases e:j=i
           ·subst e;exact .inr hd
           ·exact .inl ⟨j,by omega,hd⟩⟩
         clear HI;generalize aM K1 (l+1) (n*4+i)=d1 at*;generalize aM K2 (l+1) (n*4+i)=d2 at*;cases f with
         |true=>
          go_wp2;go_quiet (fail);go_wp2;exact⟨⟨i+1,true,by omega,rfl,by go_num,HG.out _ true (by simp)⟩,by simp[intOf];omega⟩
         |false=>
          by_cases hd:d1=d2
          ·have hde:decide (d1=d2)=true:=by simpa using hd
           go_wp2;go_quiet (fail);go_wp2;exact⟨⟨i+1,false,by omega,by simp[hd],by go_num,HG.out _ false (by simp[hd])⟩,by simp[intOf];omega⟩
          ·have hde:decide (d1=d2)=false:=by simpa using hd
           go_wp2;go_quiet (fail);go_wp2;exact⟨⟨i+1,true,by omega,by simp[hd],by go_num,HG.out _ true (by simp[hd])⟩,by simp[intOf];omega⟩
        ·obtain rfl:i=4:=by omega
         have q5:wr.cell? ⟨p5,l*64+n,none⟩=some (.int .u64 (aM K1 l n)):=by rw[(au HI.out.1.x5).1,ll (by omega),oR (by omega) (by rw[HWd.out];exact hnl) (by omega)]
         have q6:wr.cell? ⟨p7,l*64+n,none⟩=some (.int .u64 (aM K2 l n)):=by rw[(au HI.out.1.x7).1,ll (by omega),oR (by omega) (by rw[HWd.out];exact hnl) (by omega)]
         have HG:Hid (∀q,(f=false\/¬aM K1 l n=aM K2 l n)->iV w p5 (p5+1) p7 (p7+1) K1 K2 (wr.drewN q)/\∀k,k<n+1->(∃i,i<4/\dz K1 K2 (l+1) (k*4+i))->dz K1 K2 l k):=λq hf=>⟨HI.out.1.drewN q,λk hk hx=>by
          by_cases e:k=n
          ·subst e;rcases hf with hf|hf
           ·have:=HI.out.2.2 hx;rw[hf]at this;cases this
           ·exact hf
          ·exact HN.out.2 k (by omega) hx⟩
         have HBe:Hid (Below w.heap.size w wr):=HI.out.1.bj;clear HI;generalize aM K1 l n=d1 at*;generalize aM K2 l n=d2 at*;cases f with
         |false=>
          go_wp2;go_quiet (fail);go_wp2;exact⟨⟨n+1,by omega,by go_num,HG.out _ (.inl (by simp))⟩,by simp[intOf];omega⟩
         |true=>
          by_cases hd:d1=d2
          ·have hde:decide (d1=d2)=true:=by simpa using hd
           go_wp2;go_quiet (fail);go_wp2;go_ret;exact⟨true,rfl,(λh=>by cases h),Wq HBe.out _⟩
          ·have hde:decide (d1=d2)=false:=by simpa using hd
           go_wp2;go_quiet (fail);go_wp2;exact⟨⟨n+1,by omega,by go_num,HG.out _ (.inr hd)⟩,by simp[intOf];omega⟩
      ·have hnw:n=wd:=by omega
       have HLn:Hid (iV w p5 (p5+1) p7 (p7+1) K1 K2 wr/\∀v n,v<l+1->n<4 ^ v->(∃i,i<4/\dz K1 K2 (v+1) (n*4+i))->dz K1 K2 v n):=⟨HN.out.1,λv k hv hk hx=>by
        by_cases e:v=l
        ·subst e;exact HN.out.2 k (by rw[hnw,<-HWd.out];exact hk) hx
        ·exact HL.out.2 v k (by omega) hk hx⟩
       have a1: ¬(n:Int)<(wd:Int):=by omega
       have HW4:Hid (4*(wd:Int)=((4 ^ (l+1):Nat):Int)):=(show 4*(wd:Int)=((4 ^ (l+1):Nat):Int) by rw[hps];omega)
       have w64:(wd:Int)<=64:=by omega
       clear HN HL hnw hps;go_wp2;refine⟨⟨l+1,by omega,?_,by go_num,HLn.out⟩,by simp[intOf];omega⟩;rw[HW4.out]
    ·have hl3': ¬(l:Int)<3:=by omega
     have HF:Hid (iE K1 K2):=⟨HLf.out,λv n hv hn hx=>HL.out.2 v n (by omega) hn hx⟩
     have HBe:Hid (Below w.heap.size w wr):=HL.out.1.bj;clear HL HLf;go_wp2;go_ret;exact⟨false,rfl,λ_=>HF.out,HBe.out⟩
end
theorem BO{go:Nat->Bool}(x:Wr)(h:kn ws.length=false):expected (ws++ [x]) kn go k=expected ws kn go k:=by
 have hw:∀j,j<ws.length->(ws++ [x])[j]?=ws[j]? :=λj hj=>List.getElem?_append_left hj;have hl:(ws++ [x])[ws.length]?=some x:=by simp
 unfold expected;refine kA _ λb _=>?_;rw[VF,WA,rW hl (λq=>by rw[h]at q;exact absurd q.2.2.1 (by decide)),tJ hw (λ_ _=>Iff.rfl)]
theorem Ee{go:Nat->Bool}{v:aj}(h:v∈expected ws kn go k):v.rep<4/\∃x∈ws,v.val=x.2.2.2:=by
 unfold expected at h;obtain⟨b,hb,hv⟩:=List.mem_flatMap.1 h;obtain⟨j,x,_,hx,_,_,_,_,rfl⟩:=qi hv;exact⟨List.mem_range.1 hb,x,List.mem_of_getElem? hx,rfl⟩
theorem ET(ws:List Wr)(i k:Nat)(n:Int)(val:ByteArray)(j l:Nat):bu (ws++ [(i,k,n,val)]) j l=bu ws j l+(if i=j/\k=l then 1 else 0):=by
 rw[oo];simp[bu]
def ay.iD(g:ay)(i k:Nat)(val:ByteArray):Wr:=(i,k,bu g.ws i k+1,val)
def ay.put(g:ay)(ks:Nat->ByteArray)(i k:Nat)(m:Mem)(val:ByteArray)(l':List aj)(wv:Value)(A:Array Value):ay:=
 {g with
  K:=λj=>if j=i then bl (g.K i) (ks k) (bump (aU (g.K i (ks k)).1 m.1) i,l') else g.K j
  ws:=g.ws++ [g.iD i k val]
  wv:=wv
  kn:=λj l q=>if j=i/\l=k then (if q=g.ws.length then true else g.kn i k q||m.2 q) else g.kn j l q
  go:=λj l q=>if j=i/\l=k then g.go i k q||m.2 q else g.go j l q
  A:=A}
theorem bS.put(hI:bS ks g)(hks:∀k l,k<3->l<3->ks k=ks l->k=l){val:ByteArray}(wv:Value)(A:Array Value)(hi:i<g.nr)(hk:k<3)(hm:Good g.ws k m.1 m.2)(dq:val.size<=12)(hlen:g.ws.length<80)(hp:l'.Perm (aT (g.K i (ks k)).2 m.1++ [(i,aU (g.K i (ks k)).1 m.1 i+1,val)]))(hs2:(l'.Pairwise λa b=>aP b a=false)/\l'.length<=20):bS ks (g.put ks i k m val l' wv A):=by
 have hs:=hs2.1;have hi4:i<4:=VA hi hI.cC.2;have hbi:aU (g.K i (ks k)).1 m.1 i=bu g.ws i k:=by
  have h1:=hI.aD i k hi hk;have h2:=(hm.2.2 i).2;simp only[aU];omega
 have eH:jg (g.ws++ [g.iD i k val]):=hI.eH.snoc i k val;have hl':l'=expected (g.ws++ [g.iD i k val]) (λq=>if q=g.ws.length then true else g.kn i k q||m.2 q) (λq=>g.go i k q||m.2 q) k:=by
  rw[hbi]at hp;refine SR (m:=m.2) (c:=m.1) (kn:=g.kn i k) (go:=g.go i k) hi4 (hI.hex i k hi hk) (λq x hx hxk=>by rw[hm.1 q x hx];exact⟨λh=>h.2,λh=>⟨hxk,h⟩⟩) hp hs eH.num (λq hq=>?_) (λq _=>rfl) (by simp) ?_
  ·rw[AI (by omega)]
  ·simp[hI.il i k g.ws.length hi hk (eR _),hm.2.1 g.ws.length (eR _)]
 have hval':∀x∈g.ws++ [g.iD i k val],x.2.2.2.size<=12:=λx hx=>by
  rcases List.mem_append.1 hx with hx|hx
  ·exact hI.dq x hx
  ·rw[List.mem_singleton.1 hx];exact dq
 have dc:Good (g.ws++ [g.iD i k val]) k (bump (aU (g.K i (ks k)).1 m.1) i) (λq=>if q=g.ws.length then true else g.kn i k q||m.2 q):=by
  refine Good.put hI.eH ((hI.dc i k hi hk).join hm) hbi (λq hq=>by rw[AI (by omega)]) (by simp) (λq hq=>?_);rw[AI (by omega),(hI.dc i k hi hk).2.1 q (by omega),hm.2.1 q (by omega)];rfl
 exact {
  cC:=hI.cC
  hlen:=by simp only[ay.put,VF,WA];omega
  eH:=eH
  dq:=hval'
  dQ:=λx hx=>by
   rcases List.mem_append.1 hx with hx|hx
   ·exact hI.dQ x hx
   ·rw[List.mem_singleton.1 hx];exact hi4
  dc:=λj l hj hl=>by
   simp only[ay.put];by_cases e:j=i
   ·subst e;by_cases e':l=k
    ·subst e';simpa[bl] using dc
    ·have hne:ks l≠ks k:=λq=>e' (hks l k hl hk q);have hh:Good (g.ws++ [g.iD j k val]) l (g.K j (ks l)).1 (g.kn j l):=(hI.dc j l hj hl).other j k val;simpa[bl,e',hne] using hh
   ·have hh:Good (g.ws++ [g.iD i k val]) l (g.K j (ks l)).1 (g.kn j l):=(hI.dc j l hj hl).other i k val;simpa[e] using hh
  aD:=λj l hj hl=>by
   simp only[ay.put,ay.iD];rw[ET];by_cases e:j=i
   ·subst e;by_cases e':l=k
    ·subst e';simp only[IS,bl,and_self,bump];rw[hbi]
    ·have hne:ks l≠ks k:=λq=>e' (hks l k hl hk q);have hne': ¬k=l:=λq=>e' q.symm;simpa[bl,hne,hne'] using hI.aD j l hj hl
   ·have hne': ¬i=j:=λq=>e q.symm;simpa[e,hne'] using hI.aD j l hj hl
  hex:=λj l hj hl=>by
   simp only[ay.put];by_cases e:j=i
   ·subst e;by_cases e':l=k
    ·subst e';simpa[bl] using hl'
    ·have hne:ks l≠ks k:=λq=>e' (hks l k hl hk q)
     have:=hI.hex j l hj hl;rw[<-BO (g.iD j k val) ((hI.dc j l hj hl).2.1 _ (eR _))]at this;simpa[bl,e',hne] using this
   ·have:=hI.hex j l hj hl;rw[<-BO (g.iD i k val) ((hI.dc j l hj hl).2.1 _ (eR _))]at this;simpa[e] using this
  il:=λj l q hj hl hq=>by
   simp only[ay.put,VF,WA]at hq ⊢;by_cases e:j=i/\l=k
   ·rw[AS e,hI.il i k q hi hk (by omega),hm.2.1 q (by omega)];rfl
   ·rw[AI e];exact hI.il j l q hj hl (by omega)
  jH:=λl x hl hx=>(hI.jH l x hl hx).other i k val
  jb:=hI.jb
  eM:=λj hj=>by
   simp only[ay.put];by_cases e:j=i
   ·subst e;rw[AS rfl];have hb:=λb=>dc.bounds (by simp only[VF,WA];omega) b;refine (hI.eM j hj).upd (λv hv=>?_) ?_ (λv hv=>?_) λb _=>by have:=hb b;omega
    ·rw[hl']at hv;exact (Ee hv).1
    ·exact OF hs2.2 (by decide)
    ·rw[hl']at hv;obtain⟨_,x,hx,e⟩:=Ee hv;rw[e];exact hval' x hx
   ·rw[AI e];exact hI.eM j hj
  eV:=λj hj s hs=>by
   simp only[ay.put]at hs;by_cases e:j=i
   ·subst e;rw[AS rfl]at hs;by_cases e':s=ks k
    ·exact⟨k,hk,e'⟩
    ·simp only[bl,AI e']at hs;exact hI.eV j hj s hs
   ·rw[AI e]at hs;exact hI.eV j hj s hs
  dE:=λj l q hj hl h=>by
   simp only[ay.put]at h ⊢;by_cases e:j=i/\l=k
   ·obtain⟨rfl,rfl⟩:=e;simp only[and_self,IS,VU]at h ⊢;split
    ·rfl
    ·rw[VU];exact h.imp (hI.dE j l q hj hl) id
   ·rw[AI e]at h ⊢;exact hI.dE j l q hj hl h}
theorem bk.put{X:Nat->Prop}{w w2:World}{bt:Nat}{n0:Nat}{val:ByteArray}{wv:Value}(hN:bk B w bt g)(hF:Fr X w w2)(ht:lN X w bt i n0 g)(hi4:i<4)(hk:k<3)(hlen:g.ws.length<80)(hT:w2.heap[bt]?=some (.cells A 42))(hA:A.size=1939)(ct:aA w2 (g.b i) (g.bm i) i (bl (g.K i) (ks k) (bump (aU (g.K i (ks k)).1 m.1) i,l')))(h1:A[1]?=some wv)(hw:w2.ownsRow B 115 4 wv (g.ws.length+1) (ja (g.ws++ [g.iD i k val])))(hc:A[1927+i*3+k]?=some (.int .i64 (bu g.ws i k+1)))(hg:∀j,j<80->A[962+i*240+k*80+j]?=some (.bool (g.go i k j||m.2 j)))(bz:∀j,j<80->A[2+i*240+k*80+j]?=some (.bool (if j=g.ws.length then true else g.kn i k j||m.2 j)))(ho:∀q,(q<2+i*240+k*80\/2+i*240+k*80+80<=q)->(q<962+i*240+k*80\/962+i*240+k*80+80<=q)->q≠1->q≠1927+i*3+k->A[q]?=g.A[q]?):bk B w2 bt (g.put ks i k m val l' wv A) where
 hB:=hN.hB
 hT:=hT
 hA:=hA
 h0:=by show A[0]?=_;rw[ho 0 (by omega) (by omega) (by omega) (by omega)];exact hN.h0
 hR:=hF.heap hN.hR (ht.cells hN hN.hR (by decide) (by decide))
 iQ:=hN.iQ
 ct:=λj hj=>by
  simp only[ay.put];by_cases e:j=i
  ·subst e;rw[AS rfl];exact ct
  ·rw[AI e];exact ht.rep hN hF hj e
 fe:=hN.fe
 h1:=h1
 hw:=by simp only[ay.put,VF,WA];exact hw
 bz:=λj l q hj hl hq=>by
  simp only[ay.put];by_cases e:j=i/\l=k
  ·obtain⟨rfl,rfl⟩:=e;rw[AS ⟨rfl,rfl⟩];exact bz q hq
  ·rw[AI e,ho _ (by omega) (by omega) (by omega) (by omega)];exact hN.bz j l q hj hl hq
 hgo:=λj l q hj hl hq=>by
  simp only[ay.put];by_cases e:j=i/\l=k
  ·obtain⟨rfl,rfl⟩:=e;rw[AS ⟨rfl,rfl⟩];exact hg q hq
  ·rw[AI e,ho _ (by omega) (by omega) (by omega) (by omega)];exact hN.hgo j l q hj hl hq
 eS:=λl hl=>by show A[1922+l]?=_;rw[ho _ (by omega) (by omega) (by omega) (by omega)];exact hN.eS l hl
 cG:=λl hl=>hF.ji (hN.cG l hl) λb cur hb=>ht.cells hN hb (by decide) (by decide)
 eQ:=hN.eQ
 kV:=λj l hj hl=>by
  simp only[ay.put,ay.iD];rw[ET];by_cases e:i=j/\k=l
  ·obtain⟨rfl,rfl⟩:=e;rw[AS ⟨rfl,rfl⟩];exact hc
  ·rw[AI e,ho _ (by omega) (by omega) (by omega) (by omega),Int.add_zero];exact hN.kV j l hj hl
end Go.Proofs.YtldmcdeibiclkaaGreatDoorQ
