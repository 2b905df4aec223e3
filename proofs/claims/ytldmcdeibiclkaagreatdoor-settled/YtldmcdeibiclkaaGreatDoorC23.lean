/-
  Toward settled_holds: The zero values of the greater types.
-/
import Derived.Test.YtldmcdeibiclkaaGreatDoorC16
import Derived.WalkKit
import Derived.Test.YtldmcdeibiclkaaGreatDoorC18
import Derived.Test.YtldmcdeibiclkaaGreatDoorC22
import Derived.Deep.MidRow
import Derived.Deep.CutRange
set_option linter.unusedVariables false
set_option linter.unusedSimpArgs false
set_option maxRecDepth 100000
set_option maxHeartbeats 20000000
namespace Go.Proofs.YtldmcdeibiclkaaGreatDoorQ
variable {b j k B:Nat}{w:World}{kn:Nat->Bool}{C:Array Value}{t e:TypeId}{v:Value}{xs:List Value}
open Go.RowKit
def mS:Array Value:=Array.replicate 80 (Value.bool false)
theorem C7:mS.size=80:=by simp[mS]
theorem aa.R7:(aa.prog.info? 33).map (·.zero)=some (some (.agg mS)):=by kernel_rfl
theorem aa.Od(w:World):(zeroValue 33).run aa.prog w=.ok (.agg mS) w:=pc aa.R7 w
def fe:Array Value:=Array.replicate 4 (Value.int .i64 0)++mS
theorem iB:fe.size=84:=by simp[fe,mS]
theorem aa.WB:(aa.prog.info? 74).map (·.zero)=some (some (.agg fe)):=by kernel_rfl
theorem aa.zy(w:World):(zeroValue 74).run aa.prog w=.ok (.agg fe) w:=pc aa.WB w
def hY:Array Value:=(List.replicate 2 (Value.slice none 0 0)++(List.replicate 1920 (Value.bool false)++(List.replicate 5 (Value.slice none 0 0)++List.replicate 12 (Value.int .i64 0)))).toArray
theorem EU:hY.size=1939:=by
 unfold hY;rw[List.size_toArray];simp only[Xk,X9]
theorem aa.LP:(aa.prog.info? 42).map (·.zero)=some (some (.agg hY)):=by kernel_rfl
theorem aa.TA(w:World):(zeroValue 42).run aa.prog w=.ok (.agg hY) w:=pc aa.LP w
def bits(s:Nat->Bool):Array Value:=((List.range 80).map λj=>Value.bool (s j)).toArray
theorem jD(s:Nat->Bool):(bits s).size=80:=by simp[bits]
theorem mg(s:Nat->Bool)(j:Nat)(h:j<80):(bits s)[j]?=some (.bool (s j)):=by simp[bits,h]
theorem yG(w:World)(X Y Z:Obj):(((w.alloc X).alloc Y).alloc Z).heap[w.heap.size+1]?=some Y:=by
 rw[OF _ _ _ (by simp)];simpa using BY (w.alloc X) Y
theorem Le{s t:Nat->Bool}(h:∀j,j<80->s j=t j):bits s=bits t:=by
 apply Array.ext_getElem?;intro j;by_cases hj:j<80
 ·rw[mg _ _ hj,mg _ _ hj,h j hj]
 ·rw[Array.getElem?_eq_none (by rw[jD];omega),Array.getElem?_eq_none (by rw[jD];omega)]
theorem vD{fr:Nat×Nat}(h:w.heap[b]?=some (.cells C t fr)):w.rangeAt b 0 C.toList:=λj v hv=>by
 simp only[World.cell?,h,Nat.zero_add];simpa using hv
theorem aa.ua:(aa.prog.info? 33).map (·.size)=some 80:=by kernel_rfl
theorem yk(s:Nat->Bool):∀v∈(bits s).toList,v.oneCell'=true:=by
 intro v hv;simp[bits]at hv;obtain⟨j,_,rfl⟩:=hv;rfl
theorem Ph(hC:C.size=80)(h:w.heap[b]?=some (.cells C t))(s:Nat->Bool):
  (storeCells ⟨b,0,none⟩ (bits s).toList).run aa.prog w=.ok () (w.setCells b 0 (bits s).toList):=by
 obtain⟨e,f⟩:=al h
 have:=run_storeCells_cells (P:=aa.prog) b 0 (bits s).toList 0 w (λj hj=>by
   have hj':j<80:=by simpa[jD] using hj
   simp[e,hC,hj']) (λj hj=>by simpa using f j) (yk s)
 simpa using this
theorem ze(b:Nat)(t:TypeId):∀(vs:List Value) (o:Nat) (w:World) (C:Array Value),w.heap[b]?=some (.cells C t)->∃C',(w.setCells b o vs).heap[b]?=some (.cells C' t)/\C'.size=C.size/\∀j,C'[j]?=if o<=j/\j<o+vs.length/\j<C.size then vs[j-o]? else C[j]?
 |[],o,w,C,h=>⟨C,by simpa[World.setCells] using h,rfl,λj=>by rw[AI (by simp;omega)]⟩
 |v::vs,o,w,C,h=>by
  obtain⟨C',h1,h2,h3⟩:=ze b t vs (o+1) (w.setCell ⟨b,o,none⟩ v) (C.setIfInBounds o v) (heap_set h);refine⟨C',by rw[World.setCells];exact h1,by simpa using h2,λj=>?_⟩;rw[h3,Array.getElem?_setIfInBounds,XB];by_cases h5:o=j
  ·subst h5;rw[AI (by omega),AS rfl];by_cases h6:o<C.size
   ·rw[AS h6,AS (by simp;omega)];simp
   ·rw[AI h6,AI (by omega)];rw[Array.getElem?_eq_none (by omega)]
  ·rw[AI h5];by_cases h6:o+1<=j/\j<o+1+vs.length/\j<C.size
   ·rw[AS h6,AS (by simp;omega)];rw[show j-o=(j-(o+1))+1 by omega];simp
   ·rw[AI h6,AI (by simp;omega)]
theorem pK(h:w.heap[b]?=some (.cells C t))(F:Array Value)(hs:C.size=F.size):(w.setCells b 0 F.toList).heap[b]?=some (.cells F t):=by
 obtain⟨C',h1,h2,h3⟩:=ze b t F.toList 0 w C h;rw[h1];congr 2;apply Array.ext_getElem?;intro j;rw[h3];by_cases hj:j<F.size
 ·rw[AS ⟨by omega,by simp;omega,by omega⟩];simp
 ·rw[AI (by simp;omega),Array.getElem?_eq_none (by omega),Array.getElem?_eq_none (by omega)]
theorem qN{a:World}:∀(vs:List Value) {w:World},Below B a w->B<=b->∀o,Below B a (w.setCells b o vs)
 |[],_,h,_,_=>h
 |v::vs,_,h,hb,o=>by rw[World.setCells];exact qN vs (h.setCell (p:=⟨b,o,none⟩) hb v) hb (o+1)
def uU(w:World)(a b:Nat->Bool)(k:Nat)(wr:World):Prop:=
 wr.heap[w.heap.size]?=some (.cells (bits λj=>if j<k then a j||b j else a j) 33)/\wr.heap[w.heap.size+1]?=some (.cells (bits b) 33)/\wr.heap[w.heap.size+1+1]?=some (.cells mS 33)/\Below w.heap.size w wr
theorem M8(s:Nat->Bool)(k:Nat)(v:Bool)(hk:k<80):(bits s).setIfInBounds k (.bool v)=bits λj=>if j=k then v else s j:=by
 apply Array.ext_getElem?;intro j;rw[Array.getElem?_setIfInBounds,jD];by_cases h:j<80
 ·rw[mg _ _ h];by_cases e:k=j
  ·subst e;rw[mg _ _ hk];simp[hk]
  ·rw[AI e,mg _ _ h,AI (Xl e)]
 ·have h1:(bits s)[j]?=none:=by rw[Array.getElem?_eq_none];rw[jD];omega
  have h2:(bits λj=>if j=k then v else s j)[j]?=none:=by rw[Array.getElem?_eq_none];rw[jD];omega
  rw[h1,h2,AI (by omega)]
theorem uU.step{w wr:World}{a b:Nat->Bool}{k:Nat}(h:uU w a b k wr)(hk:k<80):uU w a b (k+1) (wr.setCell ⟨w.heap.size,k,none⟩ (.bool (a k||b k))):=by
 obtain⟨h1,h2,h3,h4⟩:=h;refine⟨?_,?_,?_,h4.setCell (iR _) _⟩
 ·rw[heap_set h1,M8 _ _ _ hk];congr 2;congr 1;funext j;by_cases e:j=k
  ·subst e;simp
  ·by_cases hl:j<k
   ·simp[e,hl,Nat.lt_succ_of_lt hl]
   ·have: ¬j<k+1:=by omega
    simp[e,hl,this]
 ·rw[Xg _ _ _ _ (by simp)];exact h2
 ·rw[Xg _ _ _ _ (by simp;omega)];exact h3
theorem qi(a b:Nat->Bool)(w:World):
  Calls aa.prog 45 #[.agg (bits a),.agg (bits b)] w λe w'=>e=.returned (.agg (bits λj=>a j||b j))/\Below w.heap.size w w':=by
 have hz:=aa.Od;go_enter aa.func45,aa.ntmps45;go_wp2;go_loopw [5] (λi wr=>∃k:Nat,k<=80/\i=.int .i64 k/\uU w a b k wr) (λi _=>80-(intOf i).toNat)
 case atStart=>exact⟨0,by omega,rfl,um w _ _ _,by simpa using yG w _ _ _,qe w _ _ _,(((AT _ _).alloc (iR _) _).alloc (by simp) _).alloc (by simp;omega) _⟩
 case round=>
  obtain⟨k,hk,rfl,hrel⟩:=hrel;by_cases hlt:k<80
  ·have g1:(k:Int)<80:=by omega
   have g0:(0:Int)<=(k:Int):=by omega
   obtain⟨e0,f0⟩:=al hrel.1;obtain⟨e1,f1⟩:=al hrel.2.1;have r0:wr.cell? ⟨w.heap.size,k,none⟩=some (.bool (a k)):=by rw[e0,mg _ _ hlt];simp
   have r1:wr.cell? ⟨w.heap.size+1,k,none⟩=some (.bool (b k)):=by rw[e1,mg _ _ hlt]
   have w0:=f0 k;have hst:Hid _:=hrel.step hlt;clear e0 f0 e1 f1 hrel;cases ha:a k with
   |true=>
    rw[ha]at r0 hst;go_wp2;exact⟨⟨k+1,by omega,by go_num,hst.out⟩,by simp[intOf];omega⟩
   |false=>
    rw[ha]at r0 hst;rw[Bool.false_or]at hst;go_wp2;exact⟨⟨k+1,by omega,by go_num,hst.out⟩,by simp[intOf];omega⟩
  ·obtain rfl:k=80:=by omega
   have hbits:(bits λj=>if j<80 then a j||b j else a j)=bits λj=>a j||b j:=Le λj hj=>by simp[hj]
   have h1:=hrel.1;rw[hbits]at h1;have HR:Hid _:=hrel;have hrange:=vD h1;clear hrel hbits h1;go_wp2_with fail;refine wp_load_mid 33 _ rfl w.heap.size 0 rfl _ _ hrange aa.underlying33 rfl (by rw[aa.ua,XC,jD]) ?_;have hs80:(bits λj=>a j||b j).size=80:=jD _;have hst:=Ph C7 HR.out.2.2.1 (λj=>a j||b j);generalize hF:(bits λj=>a j||b j)=F at*;have HF:Hid _:=hF;clear hF;go_wp2;have hfin:=pK HR.out.2.2.1 F (by rw[C7,hs80]);refine XF (v:=.agg F) ?_ rfl ⟨by rw[HF.out],?_⟩
   ·have hl:=Yv (P:=aa.prog) (wr.setCells (w.heap.size+1+1) 0 F.toList) (w.heap.size+1+1) 0 33 F.toList _ (vD hfin) aa.underlying33 rfl (by rw[aa.ua,XC,hs80]);rw[YR]at hl;simp[results,aa.results45,asAddr,hl]
   ·exact qN _ HR.out.2.2.2 (by omega) _
abbrev Wr:=Nat×Nat×Int×ByteArray
def sI(x:Wr):List Value:=[.int .i64 x.1,.int .i64 x.2.1,.int .i64 x.2.2.1,.string x.2.2.2]
def fq(l:List Wr):List Value:=l.flatMap sI
theorem Ha(W:World)(r n:Int)(s:ByteArray):(binOp .neq 71 (.agg #[.int .i64 r,.int .i64 n,.string s]) (.agg #[.int .i64 r,.int .i64 n,.string s])).run aa.prog W=.ok (.bool false) W:=by
 have u3:=aa.underlying3;have u9:=aa.underlying9;have a3:=aa.isAgg3;have z3:=aa.sizeOf3;have a9:=aa.isAgg9;have z9:=aa.sizeOf9;have hS:aa.prog.underlying 71=some (.struct (aa.prog.fieldsOf 71)):=by kernel_rfl
 have hp:aa.prog.stoodInHeld 71=false:=by kernel_rfl
 rw[run_neq_struct,show (10000:Nat)=9999+1 from rfl,run_equalIn_agg W 9999 71 _ _ hS hp];simp only[Program.fieldsOf,aa.underlying71];go_simp
def cf(ws:List Wr)(kn go:Nat->Bool)(k b m:Nat):List aj:=
 (List.range m).flatMap λj=>match ws[j]? with
  |some x=>if x.2.1=k/\x.1=b/\kn j=true/\go j=false then [(b,x.2.2.1,x.2.2.2)] else []
  |none=>[]
def expected(ws:List Wr)(kn go:Nat->Bool)(k:Nat):List aj:=(List.range 4).flatMap λb=>cf ws kn go k b ws.length
theorem Wf(l:List Wr)(k:Nat)(h:k<l.length):
  (fq l)[k*4]?=some (.int .i64 l[k].1)/\(fq l)[k*4+1]?=some (.int .i64 l[k].2.1)/\(fq l)[k*4+2]?=some (.int .i64 l[k].2.2.1)/\(fq l)[k*4+3]?=some (.string l[k].2.2.2):=by
 induction l generalizing k with
 |nil=>simp at h
 |cons v l ih=>
  have e:fq (v::l)=sI v++fq l:=by simp[fq]
  cases k with
  |zero=>simp[e,sI]
  |succ k=>
   have h':k<l.length:=by simpa using h
   have:=ih k h';rw[e];simp only[List.getElem_cons_succ];have e0:(k+1)*4=k*4+4:=by omega
   rw[e0];have hl:(sI v).length=4:=rfl;refine⟨?_,?_,?_,?_⟩
   ·rw[List.getElem?_append_right (by omega),hl,show k*4+4-4=k*4 by omega];exact this.1
   ·rw[List.getElem?_append_right (by omega),hl,show k*4+4+1-4=k*4+1 by omega];exact this.2.1
   ·rw[List.getElem?_append_right (by omega),hl,show k*4+4+2-4=k*4+2 by omega];exact this.2.2.1
   ·rw[List.getElem?_append_right (by omega),hl,show k*4+4+3-4=k*4+3 by omega];exact this.2.2.2
theorem uy{size:Nat}{n:Nat}(h:w.ownsRow B e size v n xs)(hn:0<n):
  ∃g cap,v=.slice (some ⟨g,0,none⟩) n cap/\n<=cap/\cap<=maxLen/\∀t u,t<n*size->xs[t]?=some u->w.cell? ⟨g,t,none⟩=some u:=by
 rcases h.2 with⟨_,h0⟩|⟨g,cap,cur,hv,_,hh,hnc,hc,_,ht⟩
 ·omega
 ·refine⟨g,cap,hv,hnc,hc,λt u htl hu=>?_⟩;rw[<-ht,List.getElem?_take,AS htl]at hu;simp only[World.cell?,hh];simpa using hu
theorem qE{size:Nat}{n:Nat}(h:w.ownsRow B e size v n xs): ∃ad cap,v=.slice ad n cap:=by
 rcases h.2 with⟨h1,h2⟩|⟨g,cap,cur,hv,_⟩
 ·exact⟨_,_,by rw[h1,h2]⟩
 ·exact⟨_,_,hv⟩
def pre(ws:List Wr)(kn go:Nat->Bool)(k b j:Nat):List aj:=((List.range b).flatMap λb'=>cf ws kn go k b' ws.length)++cf ws kn go k b j
theorem rz{ws:List Wr}{go:Nat->Bool}{x:Wr}(hx:ws[j]?=some x)(h1:x.2.1=k)(h2:x.1=b)(h3:kn j=true)(h4:go j=false):cf ws kn go k b (j+1)=cf ws kn go k b j++ [(b,x.2.2.1,x.2.2.2)]:=by
 simp[cf,XV,XU,hx,h1,h2,h3,h4]
theorem qJ{ws:List Wr}{go:Nat->Bool}{x:Wr}(hx:ws[j]?=some x)(h: ¬(x.2.1=k/\x.1=b/\kn j=true/\go j=false)):cf ws kn go k b (j+1)=cf ws kn go k b j:=by
 simp only[cf,XV,XU,XM,List.flatMap_nil,hx,AI h,Ya]
theorem Bz(ws:List Wr)(kn go:Nat->Bool)(k b:Nat){m:Nat}(h:j<=m):cf ws kn go k b j<+:cf ws kn go k b m:=by
 obtain⟨d,rfl⟩:=Nat.exists_eq_add_of_le h;induction d with
 |zero=>exact List.prefix_refl _
 |succ d ih=>
  refine (ih (by omega)).trans ?_;rw[<-Nat.add_assoc];simp only[cf,XV,XU];exact List.prefix_append _ _
theorem wu(ws:List Wr)(kn go:Nat->Bool)(k b:Nat):pre ws kn go k b ws.length=pre ws kn go k (b+1) 0:=by
 simp[pre,XV,XU,cf]
theorem GV(ws:List Wr)(kn go:Nat->Bool)(k:Nat):pre ws kn go k 4 0=expected ws kn go k:=by
 simp[pre,expected,cf]
theorem TF(ws:List Wr)(kn go:Nat->Bool)(k:Nat)(hb:b<4)(hj:j<=ws.length):pre ws kn go k b j<+:expected ws kn go k:=by
 have h1:pre ws kn go k b j<+:pre ws kn go k b ws.length:=by
  obtain⟨t,ht⟩:=Bz ws kn go k b hj;exact⟨t,by simp only[pre,X4,ht]⟩
 rw[wu]at h1;refine h1.trans ?_;have h2:∀d c,c+d=4->pre ws kn go k c 0<+:expected ws kn go k:=by
  intro d;induction d with
  |zero=>
   intro c hc;have hc4:c=4:=by omega
   subst hc4;rw[GV];exact List.prefix_refl _
  |succ d ih=>
   intro c hc;refine List.IsPrefix.trans ?_ (ih (c+1) (by omega));rw[<-wu];exact⟨cf ws kn go k c ws.length,by simp[pre,cf]⟩
 exact h2 (3-b) (b+1) (by omega)
theorem Sz{ws:List Wr}{go:Nat->Bool}{x:Wr}(hb:b<4)(hx:ws[j]?=some x)(h1:x.2.1=k)(h2:x.1=b)(h3:kn j=true)(h4:go j=false):
  pre ws kn go k b (j+1)=pre ws kn go k b j++ [(b,x.2.2.1,x.2.2.2)]/\(expected ws kn go k)[(pre ws kn go k b j).length]?=some (b,x.2.2.1,x.2.2.2):=by
 have e:pre ws kn go k b (j+1)=pre ws kn go k b j++ [(b,x.2.2.1,x.2.2.2)]:=by
  simp only[pre,rz hx h1 h2 h3 h4,X4]
 have hj:j<ws.length:=(List.getElem?_eq_some_iff.1 hx).1;refine⟨e,?_⟩;obtain⟨t,ht⟩:=TF ws kn go k hb (show j+1<=ws.length by omega);rw[<-ht,e];simp
theorem vp{ws:List Wr}{go:Nat->Bool}{x:Wr}(hx:ws[j]?=some x)(h: ¬(x.2.1=k/\x.1=b/\kn j=true/\go j=false)):pre ws kn go k b (j+1)=pre ws kn go k b j:=by
 simp only[pre,qJ hx h]
structure BW(w:World)(bt br b:Nat)(bm:Nat->Nat)(i nr bS num:Nat)(A R:Array Value)(wv:Value)(K:aw)(ws:List Wr)(kn go:Nat->Nat->Bool)(ks:Nat->ByteArray):Prop where
 hT:w.heap[bt]?=some (.cells A 42)
 h0:A[0]?=some (.slice (some ⟨br,0,none⟩) nr bS)
 hR:w.heap[br]?=some (.cells R 29)
 hi:i<nr/\i<4/\nr<=4
 fh:R[i]?=some (.pointer (some ⟨b,0,none⟩))
 bj:aB w b bm num K
 hK:ji K
 h1:A[1]?=some wv
 hw:w.ownsRow 0 115 4 wv ws.length (fq ws)
 hlen:ws.length<=80
 aV:∀k j,k<3->j<80->A[2+i*240+k*80+j]?=some (.bool (kn k j))
 hgo:∀k j,k<3->j<80->A[962+i*240+k*80+j]?=some (.bool (go k j))
 ed:∀k,k<3->w.cell? ⟨0,k,none⟩=some (.string (ks k))/\cV (ks k)=true/\(ks k).size<=8
 hex:∀k,k<3->(K (ks k)).2=expected ws (kn k) (go k) k
theorem IU(bt br b:Nat)(bm:Nat->Nat)(i nr bS num:Nat)(A R:Array Value)(wv:Value)(K:aw)(ws:List Wr)(kn go:Nat->Nat->Bool)(ks:Nat->ByteArray)(w:World)(h:BW w bt br b bm i nr bS num A R wv K ws kn go ks):
  Calls aa.prog 32 #[.pointer (some ⟨bt,0,none⟩),.int .i64 i] w λe w'=>e=.returned (.bool true)/\Below w.heap.size w w':=by
 have H:Hid _:=h;have hi0:(0:Int)<=(i:Int):=by omega
 have hi1:(i:Int)<(nr:Int):=by have:=h.hi;omega
 have hi4:(i:Int)<4:=by have:=h.hi;omega
 have bA:nr<=4:=h.hi.2.2;clear h;go_enter aa.func32,aa.ntmps32;go_wp2;go_loopw [5] (λkk wr=>∃k:Nat,k<=3/\kk=.int .i64 k/\Below w.heap.size w wr) (λkk _=>3-(intOf kk).toNat)
 case atStart=>exact⟨0,by omega,rfl,AT _ _⟩
 case round=>
  obtain⟨k,hk,rfl,hbel⟩:=hrel;by_cases hlt:k<3
  ·have k3:(k:Int)<3:=by omega
   have k0:(0:Int)<=(k:Int):=by omega
   have hmk:Hid (∀w',Below w.heap.size w w'->w'.cell? ⟨bt,0,none⟩=some (.slice (some ⟨br,0,none⟩) nr bS)/\w'.cell? ⟨br,i,none⟩=some (.pointer (some ⟨b,0,none⟩))/\w'.cell? ⟨0,k,none⟩=some (.string (ks k))/\aB w' b bm num K):=λw' hw=>
    ⟨aU (by rw[(al H.out.hT).1];exact H.out.h0) hw,aU (by rw[(al H.out.hR).1];exact H.out.fh) hw,aU (H.out.ed k hlt).1 hw,H.out.bj.below hw⟩
   have zr:=hbel.size;have hget:Hid (∀W,aB W b bm num K->Calls aa.prog 22 #[.pointer (some ⟨b,0,none⟩),.string (ks k)] W λe w'=>∃v',e=.returned (.tuple #[v',c9 (K (ks k)).1,.int .i64 0])/\w'.ownsRow W.heap.size 71 3 v' (K (ks k)).2.length (aX (K (ks k)).2)/\Below W.heap.size W w'):=λW hW=>wT b num bm K (ks k) W hW H.out.hK (H.out.ed k hlt).2.1 (H.out.ed k hlt).2.2;go_wp2_with fail;go_cut [6,7,8] from 13 to 113 (λlv cv ev wx=>ev=.int .i64 0/\Hid (wx.ownsRow 0 71 3 lv (K (ks k)).2.length (aX (K (ks k)).2))/\Below w.heap.size w wx)
   case first=>
    go_region_held3 (λw'=>w'.cell? ⟨bt,0,none⟩=some (.slice (some ⟨br,0,none⟩) nr bS)/\w'.cell? ⟨br,i,none⟩=some (.pointer (some ⟨b,0,none⟩))/\w'.cell? ⟨0,k,none⟩=some (.string (ks k))/\aB w' b bm num K)
     ((refine hmk.out _ ?_;first|(simp (maxDischargeDepth:=12) [AT,IT,W9,Xj,hbel,zr];done)|(simp (maxDischargeDepth:=12) [AT,IT,W9,Xj,B1,z1,zr];done)))
     (first|(go_at_call 22;refine (hget.out _ (by go_split_ands;assumption)).mono ?_;rintro e w1 ⟨v',rfl,aD,hb1⟩;obtain⟨q1,q2⟩:=jN hb1;have O1:=aD;(try simp only[Yg,kM]at O1);have B1:Below w.heap.size w w1:=iT hb1 (by simp (maxDischargeDepth:=12) [AT,IT,W9,hbel,zr]);have z1:=B1.size;clear aD hb1))
    all_goals
     go_wp2_with fail;go_meet;refine⟨rfl,?_,?_⟩
     ·first|(refine ej (base:=wr.heap.size) ?_ (XN _);simp (maxDischargeDepth:=12) [Xh,O1];done)|(refine ej (base:=wr.heap.size+1) ?_ (XN _);simp (maxDischargeDepth:=12) [XK,O1];done)
     ·simp (maxDischargeDepth:=12) [AT,IT,W9,Xj,B1,z1,zr]
   case rest=>
    obtain⟨rfl,hl,hbx⟩:=hcut;have HE:Hid ((K (ks k)).2=expected ws (kn k) (go k) k):=H.out.hex k hlt;go_wp2;go_loopw [9,10] (λav bv wy=>∃bb:Nat,bb<=4/\bv=.int .i64 bb/\av=.int .i64 (pre ws (kn k) (go k) k bb 0).length/\Hid (wy.ownsRow 0 71 3 u6 (K (ks k)).2.length (aX (K (ks k)).2))/\Below w.heap.size w wy) (λ_ bv _=>4-(intOf bv).toNat)
    case atStart=>exact⟨0,by omega,rfl,rfl,hl,hbx⟩
    case round=>
     obtain⟨bb,hbb,rfl,rfl,hl2,hbel2⟩:=hrel;by_cases hb4:bb<4
     ·have b4:(bb:Int)<4:=by omega
      obtain⟨wad,wcap,hwv⟩:=qE H.out.hw;subst hwv;have hT1:Hid (∀W,Below w.heap.size w W->W.cell? ⟨bt,1,none⟩=some (.slice wad ws.length wcap)):=λW hW=>aU (by rw[(al H.out.hT).1];exact H.out.h1) hW;have hlen80:ws.length<=80:=H.out.hlen;go_wp2;go_loopw [9,11] (λav jv wz=>∃j:Nat,j<=ws.length/\jv=.int .i64 j/\av=.int .i64 (pre ws (kn k) (go k) k bb j).length/\Hid (wz.ownsRow 0 71 3 u6 (K (ks k)).2.length (aX (K (ks k)).2))/\Below w.heap.size w wz) (λ_ jv _=>ws.length-(intOf jv).toNat)
      case atStart=>exact⟨0,by omega,rfl,rfl,hl2,hbel2⟩
      case round=>
       obtain⟨j,hj,rfl,rfl,hl3,hbel3⟩:=hrel;have t1:=hT1.out _ hbel3;by_cases hjl:j<ws.length
       ·have j1:(j:Int)<(ws.length:Int):=by omega
        have j80:(j:Int)<80:=by omega
        have j0:(0:Int)<=(j:Int):=by omega
        obtain⟨gw,cw,hwv,hw1,hw2,hcells⟩:=uy H.out.hw (by omega);cases hwv;obtain⟨f0,f1,f2,f3⟩:=Wf ws j hjl;have x0:=aU (hcells _ _ (by omega) f0) hbel3;have x1:=aU (hcells _ _ (by omega) f1) hbel3;have x2:=aU (hcells _ _ (by omega) f2) hbel3;have x3:=aU (hcells _ _ (by omega) f3) hbel3;have hxj:Hid (ws[j]?=some ws[j]):=List.getElem?_eq_getElem hjl;have kc: ‹World›.cell? ⟨bt,2+i*240+k*80+j,none⟩=some (.bool (kn k j)):=aU (by rw[(al H.out.hT).1];exact H.out.aV k j hlt (by omega)) hbel3;have gc: ‹World›.cell? ⟨bt,962+i*240+k*80+j,none⟩=some (.bool (go k j)):=aU (by rw[(al H.out.hT).1];exact H.out.hgo k j hlt (by omega)) hbel3;have hbt:bt<wr.heap.size:=World.block_lt_of_cell? _ _ kc;have hz3:=hbel3.size;have ho3:Hid (∀Z,(wr.alloc Z).ownsRow 0 71 3 u6 (K (ks k)).2.length (aX (K (ks k)).2)):=λZ=>hl3.out.alloc Z;have hb3:Hid (∀Z,Below w.heap.size w (wr.alloc Z)):=λZ=>hbel3.alloc hz3 Z;rcases hxx:ws[j] with⟨xb,xk,xn,xs⟩
        have HX:Hid (ws[j]?=some (xb,xk,xn,xs)):=by rw[<-hxx];exact hxj.out
        rw[hxx]at x0 x1 x2 x3;simp only at x0 x1 x2 x3;clear hxx hxj f0 f1 f2 f3 hcells;by_cases c1:xk=k
        ·subst c1;by_cases c2:xb=bb
         ·subst c2;cases c3:kn xk j with
          |false=>
           have Hm:Hid (pre ws (kn xk) (go xk) xk xb (j+1)=pre ws (kn xk) (go xk) xk xb j):=vp HX.out (λh=>by rw[c3]at h;simp at h);rw[c3]at kc;go_wp2;exact⟨⟨j+1,by omega,by go_num,by rw[Hm.out],ho3.out _,hb3.out _⟩,by simp[intOf];omega⟩
          |true=>
           rw[c3]at kc;cases c4:go xk j with
           |true=>
            have Hm:Hid (pre ws (kn xk) (go xk) xk xb (j+1)=pre ws (kn xk) (go xk) xk xb j):=vp HX.out (λh=>by rw[c4]at h;simp at h);rw[c4]at gc;go_wp2;exact⟨⟨j+1,by omega,by go_num,by rw[Hm.out],ho3.out _,hb3.out _⟩,by simp[intOf];omega⟩
           |false=>
            rw[c4]at gc;obtain⟨hp1,hp2⟩:=Sz hb4 HX.out rfl rfl c3 c4;rw[<-HE.out]at hp2;have HLen:Hid ((pre ws (kn xk) (go xk) xk xb (j+1)).length=(pre ws (kn xk) (go xk) xk xb j).length+1):=(congrArg List.length hp1).trans (Xk);clear hp1;obtain⟨hal,hae⟩:=List.getElem?_eq_some_iff.1 hp2;obtain⟨gl,cl,hu6,hn1,hn2,hlc⟩:=uy hl3.out (by omega);obtain⟨y0,y1,y2⟩:=xg (K (ks xk)).2 _ hal;have l0:=hlc _ _ (by omega) y0;have l1:=hlc _ _ (by omega) y1;have l2:=hlc _ _ (by omega) y2;rw[hae]at l0 l1 l2;simp only at l0 l1 l2;clear hae hp2 y0 y1 y2 hlc;have hlz:(K (ks xk)).2.length<=100000:=Xb (H.out.hK (ks xk)).2.1 (by decide);generalize (pre ws (kn xk) (go xk) xk xb j).length=at' at*;have hal':(at':Int)<((K (ks xk)).2.length:Int):=by omega
            have hat0:(0:Int)<=(at':Int):=by omega
            have hd:decide ((K (ks xk)).2.length<=at')=false:=by simpa using hal
            have hneq:=λW=>Ha W xb xn xs;have hgl:gl<wr.heap.size:=World.block_lt_of_cell? _ _ l0;subst hu6;go_wp2;go_quiet (fail);go_wp2;exact⟨⟨j+1,by omega,by go_num,by rw[HLen.out];go_num,ho3.out _,Xz (hb3.out _) _⟩,by simp[intOf];omega⟩
         ·have Hm:Hid (pre ws (kn xk) (go xk) xk bb (j+1)=pre ws (kn xk) (go xk) xk bb j):=vp HX.out (λh=>c2 h.2.1);have d2:((xb:Int) !=(bb:Int))=true:=by simp;omega
          go_wp2;exact⟨⟨j+1,by omega,by go_num,by rw[Hm.out],ho3.out _,hb3.out _⟩,by simp[intOf];omega⟩
        ·have Hm:Hid (pre ws (kn k) (go k) k bb (j+1)=pre ws (kn k) (go k) k bb j):=vp HX.out (λh=>c1 h.1);have d1:((xk:Int) !=(k:Int))=true:=by simp;omega
         go_wp2;exact⟨⟨j+1,by omega,by go_num,by rw[Hm.out],ho3.out _,hb3.out _⟩,by simp[intOf];omega⟩
       ·have hje:j=ws.length:=by omega
        subst hje;have Hn:Hid _:=wu ws (kn k) (go k) k bb;go_wp2;exact⟨⟨bb+1,by omega,by go_num,by rw[Hn.out],hl3,hbel3⟩,by simp[intOf];omega⟩
     ·have hbe:bb=4:=by omega
      subst hbe;have Hf:Hid _:=GV ws (kn k) (go k) k;obtain⟨lad,lcap,hlv⟩:=qE hl2.out;subst hlv;have hlen:((pre ws (kn k) (go k) k 4 0).length:Int)=((K (ks k)).2.length:Int):=by rw[Hf.out,HE.out]
      go_wp2;exact⟨⟨k+1,by omega,by go_num,hbel2⟩,by simp[intOf];omega⟩
  ·have hke:k=3:=by omega
   subst hke;go_wp2;go_ret;exact⟨rfl,hbel⟩
end Go.Proofs.YtldmcdeibiclkaaGreatDoorQ
namespace Go.Proofs.YtldmcdeibiclkaaGreatDoorQ
variable {α β:Type}
theorem uP(p:β->Bool)(f:α->List β):∀l:List α,(l.flatMap f).filter p=l.flatMap λa=>(f a).filter p
 |[]=>rfl
 |a::l=>by simp only[XM,List.filter_append,uP p f l]
theorem k9{f g:α->List β}:∀l:List α,(∀a∈l,f a=g a)->l.flatMap f=l.flatMap g
 |[],_=>rfl
 |a::l,h=>by
  simp only[XM];rw[h a (by simp),k9 l λb hb=>h b (by simp[hb])]
theorem we{ws:List Wr}{kn go m:Nat->Bool}{c:Ctx}{k:Nat}(hm:∀(j:Nat) (x:Wr),ws[j]?=some x->x.2.1=k->(m j=true↔x.2.2.1<=c x.1)):
  aW (expected ws kn go k) c=expected ws kn (λj=>go j||m j) k:=by
 unfold aW expected;rw[uP];refine k9 _ λb _=>?_;unfold cf;rw[uP];refine k9 _ λj _=>?_;cases hx:ws[j]? with
 |none=>rfl
 |some x=>
  simp only;by_cases h1:x.2.1=k
  ·by_cases h2:x.1=b
   ·have h:=hm j x hx h1;subst h2;by_cases h3:kn j=true
    ·by_cases h4:go j=true
     ·simp[h4]
     ·by_cases h5:m j=true
      ·have h6:=h.1 h5;simp[h1,h3,h4,h5,gQ,h6]
      ·have h6: ¬x.2.2.1<=c x.1:=λe=>h5 (h.2 e);simp[h1,h3,h4,h5,gQ];exact Int.not_le.1 h6
    ·simp[h3]
   ·simp[h2]
  ·simp[h1]
end Go.Proofs.YtldmcdeibiclkaaGreatDoorQ
namespace Go.Proofs.YtldmcdeibiclkaaGreatDoorQ
variable {D:Nat->Int}{sg:List Nd}
open Go.RowKit
theorem aa.Ex:(aa.prog.info? 3).map (λi=>(i.zero,i.size,i.bytes))=some (some (.int .i64 0),1,8):=by kernel_rfl
def dL(D:Nat->Int)(g:Nd)(i:Nat):List Nat:=((List.range i).filter λj=>decide (D (g.1*4+j)≠g.2 j)).map λj=>g.1*4+j
def bJ(D:Nat->Int)(sg:List Nd):List Nat:=sg.flatMap λg=>dL D g 4
theorem Pj(D:Nat->Int)(g:Nd)(i:Nat):dL D g (i+1)=dL D g i++(if D (g.1*4+i)≠g.2 i then [g.1*4+i] else []):=by
 unfold dL;rw[XV,List.filter_append,Yi];congr 1;by_cases h:D (g.1*4+i)=g.2 i<;>simp[h]
theorem Rr(D:Nat->Int){k:Nat}(h:k<sg.length):bJ D (sg.take (k+1))=bJ D (sg.take k)++dL D sg[k] 4:=by
 rw[Xq h,bJ,bJ,XU];simp
theorem Bh(D:Nat->Int)(g:Nd)(i:Nat):(dL D g i).length<=i:=by
 unfold dL;rw[Xn];exact Xb (List.length_filter_le _ _) (by simp)
theorem Vy(D:Nat->Int)(sg:List Nd):(bJ D sg).length<=4*sg.length:=by
 induction sg with
 |nil=>simp[bJ]
 |cons g sg ih=>
  have:=Bh D g 4;simp only[bJ,XM,Xk,Xp] at*;omega
theorem fO.snoc{w:World}{B g cap n:Nat}{ns:List Nat}(h:w.ownsRow B 3 1 (.slice (some ⟨g,0,none⟩) (ns.length+1) cap) (ns.length+1) ((ns.map λ(n:Nat)=>Value.int .i64 (n:Int))++ [.int .i64 n])):fO w B (.slice (some ⟨g,0,none⟩) (ns.length+1) cap) (ns++ [n]):=by
 unfold fO;rw[Xk,Yi];exact h
theorem PG(b num lev B1:Nat)(bm:Nat->Nat)(K:aw)(lv:Value)(sg:List Nd)(w:World)(h:aB w b bm num K)(hK:dK w bm K)(hr:w.ownsRow B1 163 5 lv sg.length (ez sg))(hlev:lev<3)(hl:sg.length<=64)(hns:∀g∈sg,g.1<4 ^ lev):
  Calls aa.prog 79 #[.pointer (some ⟨b,0,none⟩),.agg #[.int .i64 lev,lv]] w λe w'=>∃v,e=.returned v/\fO w' w.heap.size v (bJ (bR w bm K (lev+1)) sg)/\Below w.heap.size w w':=by
 obtain⟨i0,hi0,hz0,hz1,hz2⟩:=Xm aa.Ex;obtain⟨ad,cap,rfl,hcap,hlc⟩:=jS hr;have h4:=(ly (show lev<=3 by omega)).1;have HD:Hid (∀g∈sg,∀i:Nat,i<4->∀W,Below w.heap.size w W->Calls aa.prog 27 #[.pointer (some ⟨b,0,none⟩),.int .i64 ((lev:Int)+1),.int .i64 ((g.1*4+i:Nat):Int)] W λe w'=>e=.returned (.int .u64 (bR w bm K (lev+1) (g.1*4+i)))/\Below W.heap.size W w'):=λg hg i hi W hW=>by
  have h1:=hns g hg
  have:=wX h hK (lev+1) (g.1*4+i) (by omega) (by rw[XH];omega) W hW;rw[show ((lev+1:Nat):Int)=(lev:Int)+1 by omega]at this;exact this
 have HC:Hid (∀g∈sg,∀i:Nat,i<4->∀W,Calls aa.prog 103 #[.int .i64 g.1,.int .i64 i] W λe w'=>e=.returned (.int .i64 ((g.1*4+i:Nat):Int))/\w'=W):=λg hg i hi W=>by
  have h1:=hns g hg;exact BQ g.1 i W (by omega) hi
 have HN:Hid (w.ownsRow B1 163 5 (.slice ad sg.length cap) sg.length (ez sg)):=hr;have v1:(lev:Int)+1<=3:=by omega
 have HB0:Hid (Below w.heap.size w (w.alloc (.cells #[.int .i64 lev,.slice ad sg.length cap] 128))):=(AT _ _).alloc (iR _) _;have HS0:Hid ((w.alloc (.cells #[.int .i64 lev,.slice ad sg.length cap] 128)).heap[w.heap.size]?=some (.cells #[.int .i64 lev,.slice ad sg.length cap] 128)):=BY w _;clear h hr hns hK;generalize bR w bm K (lev+1)=D at*;go_enter aa.func79,aa.ntmps79;go_wp2;go_loopw [5,14] (λo iv wr=>∃k:Nat,k<=sg.length/\iv=.int .i64 k/\Hid (fO wr w.heap.size o (bJ D (sg.take k)))/\Hid (wr.heap[w.heap.size]?=some (.cells #[.int .i64 lev,.slice ad sg.length cap] 128))/\Hid (Below w.heap.size w wr)) (λ_ iv _=>sg.length-(intOf iv).toNat)
 case atStart=>exact⟨0,by omega,rfl,XZ _ _ _ _,HS0.out,HB0.out⟩
 case round=>
  obtain⟨k,hkl,rfl,HR,HS,HB⟩:=hrel;clear HS0 HB0;have hsw:=HB.out.size;by_cases hlt:k<sg.length
  ·obtain⟨g,cap',hv',hgl,_,_,cc⟩:=qL HN.out (show 0<sg.length by omega);cases hv';have cw:∀j,j<5->wr.cell? ⟨g,k*5+j,none⟩=(mh sg[k])[j]? :=λj hj=>by
    have h1:=vQ sg k hlt j hj;rw[HB.out.cell (p:=⟨g,k*5+j,none⟩) hgl,<-h1];rw[List.getElem?_eq_getElem (by rw[DF];omega)];exact cc _ _ (by omega) (List.getElem?_eq_getElem _)
   have c0:wr.cell? ⟨g,k*5,none⟩=some (.int .i64 sg[k].1):=cw 0 (by omega);have c1:wr.cell? ⟨g,k*5+1,none⟩=some (.int .u64 (sg[k].2 0)):=cw 1 (by omega);have c2:wr.cell? ⟨g,k*5+2,none⟩=some (.int .u64 (sg[k].2 1)):=cw 2 (by omega);have c3:wr.cell? ⟨g,k*5+3,none⟩=some (.int .u64 (sg[k].2 2)):=cw 3 (by omega);have c4:wr.cell? ⟨g,k*5+4,none⟩=some (.int .u64 (sg[k].2 3)):=cw 4 (by omega);have HD':Hid (∀i:Nat,i<4->∀W,Below w.heap.size w W->Calls aa.prog 27 #[.pointer (some ⟨b,0,none⟩),.int .i64 ((lev:Int)+1),.int .i64 ((sg[k].1*4+i:Nat):Int)] W λe w'=>e=.returned (.int .u64 (D (sg[k].1*4+i)))/\Below W.heap.size W w'):=HD.out sg[k] (Xe hlt);have HC':Hid (∀i:Nat,i<4->∀W,Calls aa.prog 103 #[.int .i64 sg[k].1,.int .i64 i] W λe w'=>e=.returned (.int .i64 ((sg[k].1*4+i:Nat):Int))/\w'=W):=HC.out sg[k] (Xe hlt);have HT:Hid (bJ D (sg.take (k+1))=bJ D (sg.take k)++dL D sg[k] 4):=Rr D hlt;have hL:(bJ D (sg.take k)).length<=256:=Xb (Vy D _) (by have:=List.length_take_le k sg;omega);clear cc cw HD HC;generalize bJ D (sg.take k)=L at*;generalize sg[k]=nd at*;have a1:(k:Int)<(sg.length:Int):=by omega
   have a0:(0:Int)<=(k:Int):=by omega
   have HR5:Hid (fO (wr.alloc (.cells #[.int .i64 nd.1,.int .u64 (nd.2 0),.int .u64 (nd.2 1),.int .u64 (nd.2 2),.int .u64 (nd.2 3)] 163)) w.heap.size u5 (L++dL D nd 0)):=(by rw[show dL D nd 0= [] from rfl,Ya];exact Xh HR.out _)
   have HB5:Hid (Below w.heap.size w (wr.alloc (.cells #[.int .i64 nd.1,.int .u64 (nd.2 0),.int .u64 (nd.2 1),.int .u64 (nd.2 2),.int .u64 (nd.2 3)] 163))):=HB.out.alloc hsw _;have HS5:Hid ((wr.alloc (.cells #[.int .i64 nd.1,.int .u64 (nd.2 0),.int .u64 (nd.2 1),.int .u64 (nd.2 2),.int .u64 (nd.2 3)] 163)).heap[w.heap.size]?=some (.cells #[.int .i64 lev,.slice (some ⟨g,0,none⟩) sg.length cap] 128)):=aQ HS.out ((AT _ _).alloc (iR _) _);have HN5:Hid ((wr.alloc (.cells #[.int .i64 nd.1,.int .u64 (nd.2 0),.int .u64 (nd.2 1),.int .u64 (nd.2 2),.int .u64 (nd.2 3)] 163)).heap[wr.heap.size]?=some (.cells #[.int .i64 nd.1,.int .u64 (nd.2 0),.int .u64 (nd.2 1),.int .u64 (nd.2 2),.int .u64 (nd.2 3)] 163)):=BY wr _;go_wp2;generalize wr.heap.size=bn at*;go_loopw [5,20] (λo iv wq=>∃i:Nat,i<=4/\iv=.int .i64 i/\Hid (fO wq w.heap.size o (L++dL D nd i))/\Hid (wq.heap[w.heap.size]?=some (.cells #[.int .i64 lev,.slice (some ⟨g,0,none⟩) sg.length cap] 128))/\Hid (wq.heap[bn]?=some (.cells #[.int .i64 nd.1,.int .u64 (nd.2 0),.int .u64 (nd.2 1),.int .u64 (nd.2 2),.int .u64 (nd.2 3)] 163))/\Hid (Below w.heap.size w wq)) (λ_ iv _=>4-(intOf iv).toNat)
   case atStart=>exact⟨0,by omega,rfl,HR5.out,HS5.out,HN5.out,HB5.out⟩
   case round=>
    obtain⟨i,hi,rfl,HRi,HSi,HNi,HBi⟩:=hrel;clear HR5 HS5 HN5 HB5;by_cases hi4:i<4
    ·have i1:(i:Int)<4:=by omega
     have i00:(0:Int)<=(i:Int):=by omega
     have hix:=indexAt nd.2 hi4;have HDi:Hid (∀W,Below w.heap.size w W->Calls aa.prog 27 #[.pointer (some ⟨b,0,none⟩),.int .i64 ((lev:Int)+1),.int .i64 ((nd.1*4+i:Nat):Int)] W λe w'=>e=.returned (.int .u64 (D (nd.1*4+i)))/\Below W.heap.size W w'):=HD'.out i hi4;have HCi:Hid (∀W,Calls aa.prog 103 #[.int .i64 nd.1,.int .i64 i] W λe w'=>e=.returned (.int .i64 ((nd.1*4+i:Nat):Int))/\w'=W):=HC'.out i hi4;have HSu:Hid (L++dL D nd (i+1)=(L++dL D nd i)++(if D (nd.1*4+i)≠nd.2 i then [nd.1*4+i] else [])):=(show _=_ by rw[Pj,X4])
     have hLi:(L++dL D nd i).length<=260:=by have:=Bh D nd i;rw[Xk];omega
     have nd0:=(al HNi.out).1 0;have lev0:=(al HSi.out).1 0;generalize L++dL D nd i=Li at*;generalize nd.1*4+i=ch at*;by_cases hd:D ch=nd.2 i
     ·rw[AI (by simpa using hd),Ya]at HSu;rw[hd]at HDi;generalize nd.2 i=di at*;go_wp2_with (first
       |(go_at_call 103;refine (HCi.out _).mono ?_;rintro e w' ⟨rfl,hw'⟩;subst w')
       |(go_at_call 27;refine (HDi.out _ HBi.out).mono ?_;rintro e w2 ⟨rfl,hb2⟩;have HB2:Hid (Below wr.heap.size wr w2):=hb2;clear hb2))
      exact⟨⟨i+1,by omega,by go_num,by rw[HSu.out];exact ec HRi.out HB2.out (iR _),aQ HSi.out HB2.out,aQ HNi.out HB2.out,bc HBi.out HB2.out⟩,by simp[intOf];omega⟩
     ·rw[AS (by simpa using hd)]at HSu;generalize D ch=Dc at*;generalize nd.2 i=di at*;go_wp2_with (first
       |(go_at_call 103;refine (HCi.out _).mono ?_;rintro e w' ⟨rfl,hw'⟩;subst w')
       |(go_at_call 27;refine (HDi.out _ HBi.out).mono ?_;rintro e w2 ⟨rfl,hb2⟩;have HB2:Hid (Below wr.heap.size wr w2):=hb2;have HRa:Hid ((w2.alloc (.cells #[.int .i64 ch] 3)).ownsRow w.heap.size 3 1 u5 Li.length (Li.map λ(n:Nat)=>Value.int .i64 (n:Int))):=Xh (ec HRi.out hb2 (iR _)) _;have HBa:Hid (Below w.heap.size w (w2.alloc (.cells #[.int .i64 ch] 3))):=(bc HBi.out hb2).alloc (by have:=hb2.size;have:=HBi.out.size;omega) _;have HSa:Hid ((w2.alloc (.cells #[.int .i64 ch] 3)).heap[w.heap.size]?=some (.cells #[.int .i64 lev,.slice (some ⟨g,0,none⟩) sg.length cap] 128)):=aQ (aQ HSi.out hb2) ((AT _ _).alloc (iR _) _);have HNa:Hid ((w2.alloc (.cells #[.int .i64 ch] 3)).heap[bn]?=some (.cells #[.int .i64 nd.1,.int .u64 (nd.2 0),.int .u64 (nd.2 1),.int .u64 (nd.2 2),.int .u64 (nd.2 3)] 163)):=aQ (aQ HNi.out hb2) ((AT _ _).alloc (iR _) _);clear hb2)
       |(at_builtin;refine jm _ rfl _ _ _ rfl w.heap.size 3 i0 _ 1 8 aa.underlying22 hi0 hz0 hz1 hz2 rfl (by omega) u5 _ _ rfl HRa.out ⟨w2.heap.size,0,none⟩ 1 1 _ rfl (by rfl) (Xr (BY w2 _)) (by simp[Value.oneCell']) (by omega) (by unfold maxLen;omega) (by omega) HBa.out.size ?_;intro g7 cap7 w7 hown7 hgr7;have HR7:Hid (fO w7 w.heap.size (.slice (some ⟨g7,0,none⟩) (Li.length+1) cap7) (Li++ [ch])):=fO.snoc hown7;have HG7:Hid (bE (w2.alloc (.cells #[.int .i64 ch] 3)) w7 u5 (.slice (some ⟨g7,0,none⟩) (Li.length+1) cap7)):=hgr7;clear hown7 hgr7))
      exact⟨⟨i+1,by omega,by go_num,by rw[HSu.out];exact HR7.out,HG7.out.other HRa.out HSa.out (by decide),HG7.out.other HRa.out HNa.out (by decide),HG7.out.toBelow HBa.out HBa.out.size HRa.out⟩,by simp[intOf];omega⟩
    ·obtain rfl:i=4:=by omega
     rw[<-HT.out]at HRi;go_wp2;exact⟨⟨k+1,by omega,by go_num,HRi.out,HSi.out,HBi.out⟩,by simp[intOf];omega⟩
  ·obtain rfl:k=sg.length:=by omega
   have hR:=HR.out;rw[Xx]at hR;go_wp2;go_ret;exact⟨_,rfl,hR,HB.out⟩
theorem vR{g:Nd}{i c:Nat}(h:c∈dL D g i): ∃j,j<i/\c=g.1*4+j/\D c≠g.2 j:=by
 simp only[dL,XP,List.mem_filter,List.mem_range,Xs]at h;obtain⟨j,⟨h1,h2⟩,rfl⟩:=h;exact⟨j,h1,rfl,h2⟩
theorem vq{lev:Nat}(h:∀g∈sg,g.1<4 ^ lev):∀c∈bJ D sg,c<4 ^ (lev+1):=λc hc=>by
 obtain⟨g,hg,hc⟩:=YM.1 hc;obtain⟨j,hj,rfl,_⟩:=vR hc
 have:=h g hg;rw[XH];omega
theorem yJ:∀{sg:List Nd},(sg.map (·.1)).Pairwise (· < ·)->(bJ D sg).Pairwise (· < ·)
 |[],_=>List.Pairwise.nil
 |g::sg,h=>by
  rw[XE,List.pairwise_cons]at h;show (dL D g 4++bJ D sg).Pairwise _;rw[List.pairwise_append];refine⟨?_,yJ h.2,λa ha c hc=>?_⟩
  ·rw[dL,List.pairwise_map];exact ((List.pairwise_lt_range (n:=4)).filter _).imp λ{a c} hac=>by omega
  ·obtain⟨j,hj,rfl,_⟩:=vR ha;obtain⟨g',hg',hc⟩:=YM.1 hc;obtain⟨j',hj',rfl,_⟩:=vR hc
   have:=h.1 g'.1 (Ys hg');omega
theorem xp:∀{l:List Nat} {a m:Nat},l.Pairwise (· < ·)->(∀x∈l,a<=x/\x<m)->l.length<=m-a
 |[],_,_,_,_=>XN _
 |x::l,a,m,h,hb=>by
  rw[List.pairwise_cons]at h;have hx:=hb x List.mem_cons_self
  have:=xp (a:=x+1) (m:=m) h.2 λy hy=>⟨h.1 y hy,(hb y (List.mem_cons_of_mem _ hy)).2⟩
  rw[Xp];omega
def lR(w:World)(bm:Nat->Nat)(K:aw)(d:Int):Option Let:=if d=bR w bm K 0 0 then none else some (.nodes 0 (gq w bm K 0 [0]))
def lG(w:World)(bm:Nat->Nat)(K:aw)(lev:Nat)(sg:List Nd):Option Let:=
 if bJ (bR w bm K (lev+1)) sg= [] then none else if lev=2 then some (.aK 83 (bC w bm K (bJ (bR w bm K (lev+1)) sg))) else some (.nodes (lev+1) (gq w bm K (lev+1) (bJ (bR w bm K (lev+1)) sg)))
def iU:Option Let->ByteArray
 |none=>⟨#[]⟩
 |some L=>L.bytes
theorem QI(b num:Nat)(bm:Nat->Nat)(K:aw)(d:Int)(w:World)(h:aB w b bm num K)(hK:dK w bm K):
  Calls aa.prog 59 #[.pointer (some ⟨b,0,none⟩),.agg #[.int .u64 d]] w λe w'=>e=.returned (.string (iU (lR w bm K d)))/\Below w.heap.size w w':=by
 have HB1:Hid (Below w.heap.size w (w.alloc (.cells #[.int .u64 d] 81))):=(AT _ _).alloc (iR _) _;have HD:Hid (∀W,Below w.heap.size w W->Calls aa.prog 27 #[.pointer (some ⟨b,0,none⟩),.int .i64 0,.int .i64 0] W λe w'=>e=.returned (.int .u64 (bR w bm K 0 0))/\Below W.heap.size W w'):=λW hW=>wX h hK 0 0 (by omega) (by decide) W hW;have HT:Hid (∀W,Below w.heap.size w W->Calls aa.prog 78 #[.pointer (some ⟨b,0,none⟩),.int .i64 0,.slice (some ⟨W.heap.size,0,none⟩) 1 1] (W.alloc (.cells #[.int .i64 0] 3)) λe w'=>e=.returned (.string (Let.nodes 0 (gq w bm K 0 [0])).bytes)/\Below w.heap.size w w'):=λW hW=>by
  have hb:Below w.heap.size w (W.alloc (.cells #[.int .i64 0] 3)):=hW.alloc hW.size _;have hrow:fO (W.alloc (.cells #[.int .i64 0] 3)) W.heap.size (.slice (some ⟨W.heap.size,0,none⟩) 1 1) [0]:=⟨rfl,Or.inr ⟨W.heap.size,1,#[.int .i64 0],rfl,iR _,BY W _,iR _,by decide,rfl,rfl⟩⟩
  have:=Hv b num 0 W.heap.size bm K _ [0] _ (h.below hb) (hK.below h hb) hrow (by omega) (by decide) (by simp);rw[uX h hb (by omega) (by simp)]at this;exact this.mono λe w' ⟨he,hb'⟩=>⟨he,bc hb hb'⟩
 clear h hK;unfold lR;generalize gq w bm K 0 [0]=no at*;generalize bR w bm K 0 0=D at*;have HD1:Hid (Calls aa.prog 27 #[.pointer (some ⟨b,0,none⟩),.int .i64 0,.int .i64 0] (w.alloc (.cells #[.int .u64 d] 81)).drew λe w'=>e=.returned (.int .u64 D)/\w'.cell? ⟨w.heap.size,0,none⟩=some (.int .u64 d)/\Below w.heap.size w w'):=(HD.out _ HB1.out.drew).mono λe w' ⟨he,hb⟩=>⟨he,by
  have:=(al (aQ (BY w (.cells #[.int .u64 d] 81)) (bc (AT _ _).drew hb))).1 0;simpa using this,bc HB1.out.drew hb⟩
 have c0:(w.alloc (.cells #[.int .u64 d] 81)).cell? ⟨w.heap.size,0,none⟩=some (.int .u64 d):=by
  exact (al (BY w (.cells #[.int .u64 d] 81))).1 0
 by_cases hd:d=D
 ·subst hd;rw[AS rfl];go_enter aa.func59,aa.ntmps59;go_upto_region 1 with fail;go_region_held3 (λw'=>w'.cell? ⟨w.heap.size,0,none⟩=some (.int .u64 d)) (go_keep)
   (first|(go_at_call 27;refine By HD1.out ?_;rintro e w2 ⟨rfl,hc2,hb2⟩))
  all_goals
   go_wp2;go_ret;exact⟨rfl,hb2⟩
 ·rw[AI hd];have hd': ¬d=D:=hd;go_enter aa.func59,aa.ntmps59;go_upto_region 1 with fail;go_region_held3 (λw'=>w'.cell? ⟨w.heap.size,0,none⟩=some (.int .u64 d)) (go_keep)
   (first|(go_at_call 27;refine By HD1.out ?_;rintro e w2 ⟨rfl,hc2,hb2⟩))
  all_goals
   go_wp2_with (go_at_call 78;refine By (HT.out _ hb2) ?_;rintro e w3 ⟨rfl,hb3⟩)
   go_ret;exact⟨rfl,hb3⟩
theorem Tn(b num lev B1:Nat)(bm:Nat->Nat)(K:aw)(lv:Value)(sg:List Nd)(w:World)(h:aB w b bm num K)(hK:dK w bm K)(hr:w.ownsRow B1 163 5 lv sg.length (ez sg))(hlev:lev<3)(hl:sg.length<=64)(hns:∀g∈sg,g.1<4 ^ lev)(hasc:(sg.map (·.1)).Pairwise (· < ·))(hsz:∀ns:List Nat,ns.length<=64->(∀n∈ns,n<64)->(Let.aK 83 (bC w bm K ns)).bytes.size<=140737488355328):
  Calls aa.prog 60 #[.pointer (some ⟨b,0,none⟩),.agg #[.int .i64 lev,lv]] w λe w'=>e=.returned (.string (iU (lG w bm K lev sg)))/\Below w.heap.size w w':=by
 obtain⟨ad,cap,rfl⟩:=gP hr;have h4:=(ly (show lev+1<=3 by omega)).1;have hdl:=vq (D:=bR w bm K (lev+1)) hns;have hda:=yJ (D:=bR w bm K (lev+1)) hasc;have hdn:=xp (a:=0) (m:=64) hda λx hx=>⟨XN _,Xc (hdl x hx) h4⟩
 obtain⟨W1,hW1⟩: ∃W,W=w.alloc (.cells #[.int .i64 lev,.slice ad sg.length cap] 128):=⟨_,rfl⟩
 have hB1:Below w.heap.size w W1:=by rw[hW1];exact (AT _ _).alloc (iR _) _
 have eD:bJ (bR W1 bm K (lev+1)) sg=bJ (bR w bm K (lev+1)) sg:=by
  have hg:∀g∈sg,dL (bR W1 bm K (lev+1)) g 4=dL (bR w bm K (lev+1)) g 4:=λg hg=>by
   unfold dL;congr 1;refine YK λj hj=>?_
   have:=hns g hg;have hj':=List.mem_range.1 hj;rw[rR h hB1 (by omega) (by rw[XH];omega)]
  exact k9 sg hg
 have HDf:Hid (Calls aa.prog 79 #[.pointer (some ⟨b,0,none⟩),.agg #[.int .i64 lev,.slice ad sg.length cap]] (w.alloc (.cells #[.int .i64 lev,.slice ad sg.length cap] 128)) λe w'=>∃adv capv,e=.returned (.slice adv (bJ (bR w bm K (lev+1)) sg).length capv)/\fO w' w.heap.size (.slice adv (bJ (bR w bm K (lev+1)) sg).length capv) (bJ (bR w bm K (lev+1)) sg)/\Below w.heap.size w w'):=by
  rw[<-hW1]
  have:=PG b num lev B1 bm K _ sg W1 (h.below hB1) (hK.below h hB1) (ec hr hB1 (iR _)) hlev hl hns;rw[eD]at this;refine this.mono ?_;rintro e w' ⟨v,rfl,h1,h2⟩;obtain⟨adv,capv,rfl⟩:=gP h1;exact⟨adv,capv,rfl,ej h1 hB1.size,bc hB1 h2⟩
 have HTs:Hid (lev=2->∀W nv,Below w.heap.size w W->fO W w.heap.size nv (bJ (bR w bm K (lev+1)) sg)->Calls aa.prog 80 #[.pointer (some ⟨b,0,none⟩),.int .u8 83,nv] W λe w'=>e=.returned (.string (Let.aK 83 (bC w bm K (bJ (bR w bm K (lev+1)) sg))).bytes)/\Below w.heap.size w w'):=λh2 W nv hW hrow=>by
  have es:∀n,n<64->cM W (bm n)=cM w (bm n):=λn hn=>by unfold cM;rw[hW.block _ (h.2.1 n hn).lt]
  have e1:bC W bm K (bJ (bR w bm K (lev+1)) sg)=bC w bm K (bJ (bR w bm K (lev+1)) sg):=XI λn hn=>by rw[es n (Xc (hdl n hn) h4)]
  have:=Ax b num 83 w.heap.size bm K nv _ W (h.below hW) (hK.below h hW) hrow (by omega) (by omega) (λn hn=>Xc (hdl n hn) h4) (by rw[e1];exact hsz _ (by omega) (λn hn=>Xc (hdl n hn) h4));rw[e1]at this;exact this.mono λe w' ⟨he,hb⟩=>⟨he,bc hW hb⟩
 have HTn:Hid (lev<2->∀W nv,Below w.heap.size w W->fO W w.heap.size nv (bJ (bR w bm K (lev+1)) sg)->Calls aa.prog 78 #[.pointer (some ⟨b,0,none⟩),.int .i64 ((lev:Int)+1),nv] W λe w'=>e=.returned (.string (Let.nodes (lev+1) (gq w bm K (lev+1) (bJ (bR w bm K (lev+1)) sg))).bytes)/\Below w.heap.size w w'):=λh2 W nv hW hrow=>by
  have:=Hv b num (lev+1) w.heap.size bm K nv _ W (h.below hW) (hK.below h hW) hrow (by omega) (by omega) hdl;rw[uX h hW (by omega) hdl,show ((lev+1:Nat):Int)=(lev:Int)+1 by omega]at this;exact this.mono λe w' ⟨he,hb⟩=>⟨he,bc hW hb⟩
 have v1:(lev:Int)+1<=3:=by omega
 clear h hK hr hdl hda hW1 hB1 eD hsz hns hasc;unfold lG;generalize bC w bm K (bJ (bR w bm K (lev+1)) sg)=so at*;generalize gq w bm K (lev+1) (bJ (bR w bm K (lev+1)) sg)=no at*;generalize bJ (bR w bm K (lev+1)) sg=ds at*;by_cases hd:ds= []
 ·subst hd;rw[AS rfl];go_enter aa.func60,aa.ntmps60;go_wp2_with (go_at_call 79;refine By HDf.out ?_;rintro e w2 ⟨adv,capv,rfl,hrow2,hb2⟩)
  go_ret;exact⟨rfl,hb2⟩
 ·rw[AI hd];have hl0: ¬ds.length=0:=λh=>hd (List.eq_nil_of_length_eq_zero h);have hl1: ¬(ds.length:Int)=0:=by omega
  by_cases h2:lev=2
  ·subst h2;rw[AS rfl];have HTs':Hid _:=HTs.out rfl;go_enter aa.func60,aa.ntmps60;go_wp2_with (first
    |(go_at_call 79;refine By HDf.out ?_;rintro e w2 ⟨adv,capv,rfl,hrow2,hb2⟩)
    |(go_at_call 80;refine By (HTs'.out _ _ hb2 hrow2) ?_;rintro e w3 ⟨rfl,hb3⟩))
   go_ret;exact⟨rfl,hb3⟩
  ·rw[AI h2];have h3: ¬(lev:Int)+1=3:=by omega
   have HTn':Hid _:=HTn.out (by omega);go_enter aa.func60,aa.ntmps60;go_wp2_with (first
    |(go_at_call 79;refine By HDf.out ?_;rintro e w2 ⟨adv,capv,rfl,hrow2,hb2⟩)
    |(go_at_call 78;refine By (HTn'.out _ _ hb2 hrow2) ?_;rintro e w3 ⟨rfl,hb3⟩))
   go_ret;exact⟨rfl,hb3⟩
end Go.Proofs.YtldmcdeibiclkaaGreatDoorQ
