/-
  Toward causal_holds: The zero values of the greater types.
-/
import Derived.Test.YtldmcdeibiclkaaGreatDoorC16
import Derived.WalkKit
import Derived.Test.YtldmcdeibiclkaaGreatDoorC18
import Derived.Test.YtldmcdeibiclkaaGreatDoorC23
import Derived.Deep.MidRow
import Derived.Deep.CutRange
set_option linter.unusedVariables false
set_option linter.unusedSimpArgs false
set_option maxRecDepth 100000
set_option maxHeartbeats 20000000
namespace Go.Proofs.YtldmcdeibiclkaaGreatDoorQ
open Go.RowKit
def nH:Array Value:=Array.replicate 80 (Value.bool false)
theorem zJ:nH.size=80:=by simp[nH]
theorem aa.IU:(aa.prog.info? 33).map (·.zero)=some (some (.agg nH)):=by kernel_rfl
theorem aa.N5(w:World):(zeroValue 33).run aa.prog w= .ok (.agg nH) w:=td aa.IU w
def eR:Array Value:=Array.replicate 4 (Value.int .i64 0)++nH
theorem hY:eR.size=84:=by simp[eR,nH]
theorem aa.Sj:(aa.prog.info? 74).map (·.zero)=some (some (.agg eR)):=by kernel_rfl
theorem aa.xU(w:World):(zeroValue 74).run aa.prog w= .ok (.agg eR) w:=td aa.Sj w
def gL:Array Value:=(List.replicate 2 (Value.slice none 0 0)++(List.replicate 1920 (Value.bool false)++(List.replicate 5 (Value.slice none 0 0)++List.replicate 12 (Value.int .i64 0)))).toArray
theorem Cz:gL.size=1939:=by
 unfold gL
 rw[List.size_toArray]
 simp only[Yh,Zb]
theorem aa.NS:(aa.prog.info? 42).map (·.zero)=some (some (.agg gL)):=by kernel_rfl
theorem aa.U8(w:World):(zeroValue 42).run aa.prog w= .ok (.agg gL) w:=td aa.NS w
def bits(s:Nat->Bool):Array Value:=((List.range 80).map λj=>Value.bool (s j)).toArray
theorem ju(s:Nat->Bool):(bits s).size=80:=by simp[bits]
theorem ma(s:Nat->Bool)(j:Nat)(h:j< 80):(bits s)[j]? =some (.bool (s j)):=by simp[bits,h]
theorem Az(w:World)(X Y Z:Obj):(((w.alloc X).alloc Y).alloc Z).heap[w.heap.size+1]? =some Y:=by
 rw[OF _ _ _ (by simp)]
 simpa using IS (w.alloc X) Y
theorem M1{s t:Nat->Bool}(h:∀j,j< 80->s j=t j):bits s=bits t:=by
 apply ZU
 intro j
 by_cases hj:j< 80
 ·rw[ma _ _ hj,ma _ _ hj,h j hj]
 ·rw[YA (by rw[ju];omega),YA (by rw[ju];omega)]
theorem Fp{w:World}{b:Nat}{C:Array Value}{t:TypeId}{fr:Nat×Nat}(h:w.heap[b]? =some (.cells C t fr)):w.rangeAt b 0 C.toList:=λj v hv=>by
 simp only[World.cell?,h,Nat.zero_add]
 simpa using hv
theorem aa.sV:(aa.prog.info? 33).map (·.size)=some 80:=by kernel_rfl
theorem yl(s:Nat->Bool):∀v∈(bits s).toList,v.oneCell'=true:=by
 intro v hv
 simp[bits] at hv
 obtain⟨j,_,rfl⟩:=hv
 rfl
theorem Wj{w:World}{b:Nat}{C:Array Value}{t:TypeId}(hC:C.size=80)(h:w.heap[b]? =some (.cells C t))(s:Nat->Bool):
  (storeCells ⟨b,0,none⟩ (bits s).toList).run aa.prog w= .ok () (w.setCells b 0 (bits s).toList):=by
 obtain⟨e,f⟩:=au h
 have:=run_storeCells_cells (P:=aa.prog) b 0 (bits s).toList 0 w (λj hj=>by
   have hj':j< 80:=by simpa[ju] using hj
   simp[e,hC,hj']) (λj hj=>by simpa using f j) (yl s)
 simpa using this
theorem wZ(b:Nat)(t:TypeId):∀(vs:List Value) (o:Nat) (w:World) (C:Array Value),w.heap[b]? =some (.cells C t)->∃C',(w.setCells b o vs).heap[b]? =some (.cells C' t)/\C'.size=C.size/\∀j,C'[j]? =if o<=j/\j< o+vs.length/\j< C.size then vs[j - o]? else C[j]?
 |[],o,w,C,h=>⟨C,by simpa[World.setCells] using h,rfl,λj=>by rw[AS (by simp;omega)]⟩
 |v::vs,o,w,C,h=>by
  obtain⟨C',h1,h2,h3⟩:=wZ b t vs (o+1) (w.setCell ⟨b,o,none⟩ v) (C.setIfInBounds o v) (heap_set h)
  refine⟨C',by rw[World.setCells];exact h1,by simpa using h2,λj=>?_⟩
  rw[h3,Yl,YK]
  by_cases h5:o=j
  ·subst h5
   rw[AS (by omega),AT rfl]
   by_cases h6:o< C.size
   ·rw[AT h6,AT (by simp;omega)];simp
   ·rw[AS h6,AS (by omega)];rw[YA (by omega)]
  ·rw[AS h5]
   by_cases h6:o+1<=j/\j< o+1+vs.length/\j< C.size
   ·rw[AT h6,AT (by simp;omega)]
    rw[show j - o=(j - (o+1))+1 by omega];simp
   ·rw[AS h6,AS (by simp;omega)]
theorem C7{w:World}{b:Nat}{C:Array Value}{t:TypeId}(h:w.heap[b]? =some (.cells C t))(F:Array Value)(hs:C.size=F.size):(w.setCells b 0 F.toList).heap[b]? =some (.cells F t):=by
 obtain⟨C',h1,h2,h3⟩:=wZ b t F.toList 0 w C h
 rw[h1]
 congr 2
 apply ZU
 intro j
 rw[h3]
 by_cases hj:j< F.size
 ·rw[AT ⟨by omega,by simp;omega,by omega⟩];simp
 ·rw[AS (by simp;omega),YA (by omega),YA (by omega)]
theorem Dd{B:Nat}{a:World}{b:Nat}:∀(vs:List Value) {w:World},Below B a w->B<=b->∀o,Below B a (w.setCells b o vs)
 |[],_,h,_,_=>h
 |v::vs,_,h,hb,o=>by rw[World.setCells];exact Dd vs (h.setCell (p:=⟨b,o,none⟩) hb v) hb (o+1)
def uv(w:World)(a b:Nat->Bool)(k:Nat)(wr:World):Prop:=
 wr.heap[w.heap.size]? =some (.cells (bits λj=>if j< k then a j||b j else a j) 33)/\wr.heap[w.heap.size+1]? =some (.cells (bits b) 33)/\wr.heap[w.heap.size+1+1]? =some (.cells nH 33)/\Below w.heap.size w wr
theorem Xn(s:Nat->Bool)(k:Nat)(v:Bool)(hk:k< 80):(bits s).setIfInBounds k (.bool v)=bits λj=>if j=k then v else s j:=by
 apply ZU
 intro j
 rw[Yl,ju]
 by_cases h:j< 80
 ·rw[ma _ _ h]
  by_cases e:k=j
  ·subst e;rw[ma _ _ hk];simp[hk]
  ·rw[AS e,ma _ _ h,AS (Ne.symm e)]
 ·have h1:(bits s)[j]? =none:=by rw[YA];rw[ju];omega
  have h2:(bits λj=>if j=k then v else s j)[j]? =none:=by rw[YA];rw[ju];omega
  rw[h1,h2,AS (by omega)]
theorem uv.step{w wr:World}{a b:Nat->Bool}{k:Nat}(h:uv w a b k wr)(hk:k< 80):uv w a b (k+1) (wr.setCell ⟨w.heap.size,k,none⟩ (.bool (a k||b k))):=by
 obtain⟨h1,h2,h3,h4⟩:=h
 refine⟨?_,?_,?_,h4.setCell (AI _) _⟩
 ·rw[heap_set h1,Xn _ _ _ hk]
  congr 2
  congr 1
  funext j
  by_cases e:j=k
  ·subst e;simp
  ·by_cases hl:j< k
   ·simp[e,hl,Nat.lt_succ_of_lt hl]
   ·have: ¬ j< k+1:=by omega
    simp[e,hl,this]
 ·rw[Yj _ _ _ _ (by simp)];exact h2
 ·rw[Yj _ _ _ _ (by simp;omega)];exact h3
theorem pO(a b:Nat->Bool)(w:World):
  Calls aa.prog 45 #[.agg (bits a),.agg (bits b)] w λe w'=>e= .returned (.agg (bits λj=>a j||b j))/\Below w.heap.size w w':=by
 have hz:=aa.N5
 go_enter aa.func45,aa.ntmps45
 go_wp2
 go_loopw [5] (λi wr=>∃k:Nat,k<=80/\i= .int .i64 k/\uv w a b k wr) (λi _=>80 - (intOf i).toNat)
 case atStart=>exact⟨0,by omega,rfl,qa w _ _ _,by simpa using Az w _ _ _,nj w _ _ _,(((By _ _).alloc (AI _) _).alloc (by simp) _).alloc (by simp;omega) _⟩
 case round=>
  obtain⟨k,hk,rfl,hrel⟩:=hrel
  by_cases hlt:k< 80
  ·have g1:(k:Int)< 80:=by omega
   have g0:(0:Int)<=(k:Int):=by omega
   obtain⟨e0,f0⟩:=au hrel.1
   obtain⟨e1,f1⟩:=au hrel.2.1
   have r0:wr.cell? ⟨w.heap.size,k,none⟩=some (.bool (a k)):=by rw[e0,ma _ _ hlt];simp
   have r1:wr.cell? ⟨w.heap.size+1,k,none⟩=some (.bool (b k)):=by rw[e1,ma _ _ hlt]
   have w0:=f0 k
   have hst:Hid _:=hrel.step hlt
   clear e0 f0 e1 f1 hrel
   cases ha:a k with
   |true=>
    rw[ha] at r0 hst
    go_wp2
    exact⟨⟨k+1,by omega,by go_num,hst.out⟩,by simp[intOf];omega⟩
   |false=>
    rw[ha] at r0 hst
    rw[Bool.false_or] at hst
    go_wp2
    exact⟨⟨k+1,by omega,by go_num,hst.out⟩,by simp[intOf];omega⟩
  ·obtain rfl:k=80:=by omega
   have hbits:(bits λj=>if j< 80 then a j||b j else a j)=bits λj=>a j||b j:=M1 λj hj=>by simp[hj]
   have h1:=hrel.1
   rw[hbits] at h1
   have HR:Hid _:=hrel
   have hrange:=Fp h1
   clear hrel hbits h1
   go_wp2_with fail
   refine wp_load_mid 33 _ rfl w.heap.size 0 rfl _ _ hrange aa.underlying33 rfl (by rw[aa.sV,YR,ju]) ?_
   have hs80:(bits λj=>a j||b j).size=80:=ju _
   have hst:=Wj zJ HR.out.2.2.1 (λj=>a j||b j)
   generalize hF:(bits λj=>a j||b j)=F at*
   have HF:Hid _:=hF
   clear hF
   go_wp2
   have hfin:=C7 HR.out.2.2.1 F (by rw[zJ,hs80])
   refine YB (v:= .agg F) ?_ rfl ⟨by rw[HF.out],?_⟩
   ·have hl:=run_loadVar_mid (P:=aa.prog) (wr.setCells (w.heap.size+1+1) 0 F.toList) (w.heap.size+1+1) 0 33 F.toList _ (Fp hfin) aa.underlying33 rfl (by rw[aa.sV,YR,hs80])
    rw[aan] at hl
    simp[results,aa.results45,asAddr,hl]
   ·exact Dd _ HR.out.2.2.2 (by omega) _
abbrev Wr:=Nat×Nat×Int×ByteArray
def rz(x:Wr):List Value:=[.int .i64 x.1,.int .i64 x.2.1,.int .i64 x.2.2.1,.string x.2.2.2]
def eY(l:List Wr):List Value:=l.flatMap rz
theorem Cr(W:World)(r n:Int)(s:ByteArray):(binOp .neq 71 (.agg #[.int .i64 r,.int .i64 n,.string s]) (.agg #[.int .i64 r,.int .i64 n,.string s])).run aa.prog W= .ok (.bool false) W:=by
 have u3:=aa.underlying3
 have u9:=aa.underlying9
 have a3:=aa.isAgg3
 have z3:=aa.sizeOf3
 have a9:=aa.isAgg9
 have z9:=aa.sizeOf9
 have hS:aa.prog.underlying 71=some (.struct (aa.prog.fieldsOf 71)):=by kernel_rfl
 have hp:aa.prog.stoodInHeld 71=false:=by kernel_rfl
 rw[run_neq_struct,show (10000:Nat)=9999+1 from rfl,run_equalIn_agg W 9999 71 _ _ hS hp]
 simp only[Program.fieldsOf,aa.underlying71]
 go_simp
def bV(ws:List Wr)(kn go:Nat->Bool)(k b m:Nat):List aj:=
 (List.range m).flatMap λj=>match ws[j]? with
  |some x=>if x.2.1=k/\x.1=b/\kn j=true/\go j=false then [(b,x.2.2.1,x.2.2.2)] else []
  |none=>[]
def expected(ws:List Wr)(kn go:Nat->Bool)(k:Nat):List aj:=(List.range 4).flatMap λb=>bV ws kn go k b ws.length
theorem Ty(l:List Wr)(k:Nat)(h:k< l.length):
  (eY l)[k*4]? =some (.int .i64 l[k].1)/\(eY l)[k*4+1]? =some (.int .i64 l[k].2.1)/\(eY l)[k*4+2]? =some (.int .i64 l[k].2.2.1)/\(eY l)[k*4+3]? =some (.string l[k].2.2.2):=by
 induction l generalizing k with
 |nil=>simp at h
 |cons v l ih=>
  have e:eY (v::l)=rz v++eY l:=by simp[eY]
  cases k with
  |zero=>simp[e,rz]
  |succ k=>
   have h':k< l.length:=by simpa using h
   have:=ih k h'
   rw[e]
   simp only[aab]
   have e0:(k+1)*4=k*4+4:=by omega
   rw[e0]
   have hl:(rz v).length=4:=rfl
   refine⟨?_,?_,?_,?_⟩
   ·rw[Yx (by omega),hl,show k*4+4 - 4=k*4 by omega];exact this.1
   ·rw[Yx (by omega),hl,show k*4+4+1 - 4=k*4+1 by omega];exact this.2.1
   ·rw[Yx (by omega),hl,show k*4+4+2 - 4=k*4+2 by omega];exact this.2.2.1
   ·rw[Yx (by omega),hl,show k*4+4+3 - 4=k*4+3 by omega];exact this.2.2.2
theorem tq{w:World}{B:Nat}{e:TypeId}{size:Nat}{v:Value}{n:Nat}{xs:List Value}(h:w.ownsRow B e size v n xs)(hn:0< n):
  ∃g cap,v= .slice (some ⟨g,0,none⟩) n cap/\n<=cap/\cap<=maxLen/\∀t u,t< n*size->xs[t]? =some u->w.cell? ⟨g,t,none⟩=some u:=by
 rcases h.2 with ⟨_,h0⟩|⟨g,cap,cur,hv,_,hh,hnc,hc,_,ht⟩
 ·omega
 ·refine⟨g,cap,hv,hnc,hc,λt u htl hu=>?_⟩
  rw[←ht,YJ,AT htl] at hu
  simp only[World.cell?,hh]
  simpa using hu
theorem pR{w:World}{B:Nat}{e:TypeId}{size:Nat}{v:Value}{n:Nat}{xs:List Value}(h:w.ownsRow B e size v n xs): ∃ad cap,v= .slice ad n cap:=by
 rcases h.2 with ⟨h1,h2⟩|⟨g,cap,cur,hv,_⟩
 ·exact⟨_,_,by rw[h1,h2]⟩
 ·exact⟨_,_,hv⟩
def pre(ws:List Wr)(kn go:Nat->Bool)(k b j:Nat):List aj:=((List.range b).flatMap λb'=>bV ws kn go k b' ws.length)++bV ws kn go k b j
theorem tM{ws:List Wr}{kn go:Nat->Bool}{k b j:Nat}{x:Wr}(hx:ws[j]? =some x)(h1:x.2.1=k)(h2:x.1=b)(h3:kn j=true)(h4:go j=false):bV ws kn go k b (j+1)=bV ws kn go k b j++ [(b,x.2.2.1,x.2.2.2)]:=by
 simp[bV,Zj,Ze,hx,h1,h2,h3,h4]
theorem pN{ws:List Wr}{kn go:Nat->Bool}{k b j:Nat}{x:Wr}(hx:ws[j]? =some x)(h: ¬ (x.2.1=k/\x.1=b/\kn j=true/\go j=false)):bV ws kn go k b (j+1)=bV ws kn go k b j:=by
 simp only[bV,Zj,Ze,Zd,List.flatMap_nil,hx,AS h,Zf]
theorem Gx(ws:List Wr)(kn go:Nat->Bool)(k b:Nat){j m:Nat}(h:j<=m):bV ws kn go k b j<+:bV ws kn go k b m:=by
 obtain⟨d,rfl⟩:=Nat.exists_eq_add_of_le h
 induction d with
 |zero=>exact List.prefix_refl _
 |succ d ih=>
  refine (ih (by omega)).trans ?_
  rw[←Nat.add_assoc]
  simp only[bV,Zj,Ze]
  exact List.prefix_append _ _
theorem wJ(ws:List Wr)(kn go:Nat->Bool)(k b:Nat):pre ws kn go k b ws.length=pre ws kn go k (b+1) 0:=by
 simp[pre,Zj,Ze,bV]
theorem Cm(ws:List Wr)(kn go:Nat->Bool)(k:Nat):pre ws kn go k 4 0=expected ws kn go k:=by
 simp[pre,expected,bV]
theorem Pu(ws:List Wr)(kn go:Nat->Bool)(k:Nat){b j:Nat}(hb:b< 4)(hj:j<=ws.length):pre ws kn go k b j<+:expected ws kn go k:=by
 have h1:pre ws kn go k b j<+:pre ws kn go k b ws.length:=by
  obtain⟨t,ht⟩:=Gx ws kn go k b hj
  exact⟨t,by simp only[pre,Zg,ht]⟩
 rw[wJ] at h1
 refine h1.trans ?_
 have h2:∀d c,c+d=4->pre ws kn go k c 0<+:expected ws kn go k:=by
  intro d
  induction d with
  |zero=>
   intro c hc
   have hc4:c=4:=by omega
   subst hc4
   rw[Cm]
   exact List.prefix_refl _
  |succ d ih=>
   intro c hc
   refine List.IsPrefix.trans ?_ (ih (c+1) (by omega))
   rw[←wJ]
   exact⟨bV ws kn go k c ws.length,by simp[pre,bV]⟩
 exact h2 (3 - b) (b+1) (by omega)
theorem GP{ws:List Wr}{kn go:Nat->Bool}{k b j:Nat}{x:Wr}(hb:b< 4)(hx:ws[j]? =some x)(h1:x.2.1=k)(h2:x.1=b)(h3:kn j=true)(h4:go j=false):
  pre ws kn go k b (j+1)=pre ws kn go k b j++ [(b,x.2.2.1,x.2.2.2)]/\(expected ws kn go k)[(pre ws kn go k b j).length]? =some (b,x.2.2.1,x.2.2.2):=by
 have e:pre ws kn go k b (j+1)=pre ws kn go k b j++ [(b,x.2.2.1,x.2.2.2)]:=by
  simp only[pre,tM hx h1 h2 h3 h4,Zg]
 have hj:j< ws.length:=(YP.1 hx).1
 refine⟨e,?_⟩
 obtain⟨t,ht⟩:=Pu ws kn go k hb (show j+1<=ws.length by omega)
 rw[←ht,e]
 simp
theorem uw{ws:List Wr}{kn go:Nat->Bool}{k b j:Nat}{x:Wr}(hx:ws[j]? =some x)(h: ¬ (x.2.1=k/\x.1=b/\kn j=true/\go j=false)):pre ws kn go k b (j+1)=pre ws kn go k b j:=by
 simp only[pre,pN hx h]
structure CX(w:World)(bt br b:Nat)(bm:Nat->Nat)(i nr bQ num:Nat)(A R:Array Value)(wv:Value)(K:aF)(ws:List Wr)(kn go:Nat->Nat->Bool)(ks:Nat->ByteArray):Prop where
 hT:w.heap[bt]? =some (.cells A 42)
 h0:A[0]? =some (.slice (some ⟨br,0,none⟩) nr bQ)
 hR:w.heap[br]? =some (.cells R 29)
 hi:i< nr/\i< 4/\nr<=4
 eZ:R[i]? =some (.pointer (some ⟨b,0,none⟩))
 bk:aE w b bm num K
 hK:jc K
 h1:A[1]? =some wv
 hw:w.ownsRow 0 115 4 wv ws.length (eY ws)
 hlen:ws.length<=80
 bd:∀k j,k< 3->j< 80->A[2+i*240+k*80+j]? =some (.bool (kn k j))
 hgo:∀k j,k< 3->j< 80->A[962+i*240+k*80+j]? =some (.bool (go k j))
 dQ:∀k,k< 3->w.cell? ⟨0,k,none⟩=some (.string (ks k))/\cL (ks k)=true/\(ks k).size<=8
 hex:∀k,k< 3->(K (ks k)).2=expected ws (kn k) (go k) k
theorem LB(bt br b:Nat)(bm:Nat->Nat)(i nr bQ num:Nat)(A R:Array Value)(wv:Value)(K:aF)(ws:List Wr)(kn go:Nat->Nat->Bool)(ks:Nat->ByteArray)(w:World)(h:CX w bt br b bm i nr bQ num A R wv K ws kn go ks):
  Calls aa.prog 32 #[.pointer (some ⟨bt,0,none⟩),.int .i64 i] w λe w'=>e= .returned (.bool true)/\Below w.heap.size w w':=by
 have H:Hid _:=h
 have hi0:(0:Int)<=(i:Int):=by omega
 have hi1:(i:Int)< (nr:Int):=by have:=h.hi;omega
 have hi4:(i:Int)< 4:=by have:=h.hi;omega
 have aZ:nr<=4:=h.hi.2.2
 clear h
 go_enter aa.func32,aa.ntmps32
 go_wp2
 go_loopw [5] (λkk wr=>∃k:Nat,k<=3/\kk= .int .i64 k/\Below w.heap.size w wr) (λkk _=>3 - (intOf kk).toNat)
 case atStart=>exact⟨0,by omega,rfl,By _ _⟩
 case round=>
  obtain⟨k,hk,rfl,hbel⟩:=hrel
  by_cases hlt:k< 3
  ·have k3:(k:Int)< 3:=by omega
   have k0:(0:Int)<=(k:Int):=by omega
   have hmk:Hid (∀w',Below w.heap.size w w'->w'.cell? ⟨bt,0,none⟩=some (.slice (some ⟨br,0,none⟩) nr bQ)/\w'.cell? ⟨br,i,none⟩=some (.pointer (some ⟨b,0,none⟩))/\w'.cell? ⟨0,k,none⟩=some (.string (ks k))/\aE w' b bm num K):=λw' hw=>
    ⟨aX (by rw[(au H.out.hT).1];exact H.out.h0) hw,aX (by rw[(au H.out.hR).1];exact H.out.eZ) hw,aX (H.out.dQ k hlt).1 hw,H.out.bk.below hw⟩
   have zr:=hbel.size
   have hget:Hid (∀W,aE W b bm num K->Calls aa.prog 22 #[.pointer (some ⟨b,0,none⟩),.string (ks k)] W λe w'=>∃v',e= .returned (.tuple #[v',cA (K (ks k)).1,.int .i64 0])/\w'.ownsRow W.heap.size 71 3 v' (K (ks k)).2.length (aU (K (ks k)).2)/\Below W.heap.size W w'):=λW hW=>uW b num bm K (ks k) W hW H.out.hK (H.out.dQ k hlt).2.1 (H.out.dQ k hlt).2.2
   go_wp2_with fail
   go_cut [6,7,8] from 13 to 113 (λlv cv ev wx=>ev= .int .i64 0/\Hid (wx.ownsRow 0 71 3 lv (K (ks k)).2.length (aU (K (ks k)).2))/\Below w.heap.size w wx)
   case first=>
    go_region_held3 (λw'=>w'.cell? ⟨bt,0,none⟩=some (.slice (some ⟨br,0,none⟩) nr bQ)/\w'.cell? ⟨br,i,none⟩=some (.pointer (some ⟨b,0,none⟩))/\w'.cell? ⟨0,k,none⟩=some (.string (ks k))/\aE w' b bm num K)
     ((refine hmk.out _ ?_;first|(simp (maxDischargeDepth:=12) [By,XX,XY,Yg,hbel,zr];done)|(simp (maxDischargeDepth:=12) [By,XX,XY,Yg,B1,z1,zr];done)))
     (first|(go_at_call 22;refine (hget.out _ (by go_split_ands;assumption)).mono ?_;rintro e w1 ⟨v',rfl,aA,hb1⟩;obtain⟨q1,q2⟩:=jK hb1;have O1:=aA;(try simp only[Zi,kH] at O1);have B1:Below w.heap.size w w1:=ji hb1 (by simp (maxDischargeDepth:=12) [By,XX,XY,hbel,zr]);have z1:=B1.size;clear aA hb1))
    all_goals
     go_wp2_with fail
     go_meet
     refine⟨rfl,?_,?_⟩
     ·first|(refine cY (base:=wr.heap.size) ?_ (Y2 _);simp (maxDischargeDepth:=12) [Yc,O1];done)|(refine cY (base:=wr.heap.size+1) ?_ (Y2 _);simp (maxDischargeDepth:=12) [Yf,O1];done)
     ·simp (maxDischargeDepth:=12) [By,XX,XY,Yg,B1,z1,zr]
   case rest=>
    obtain⟨rfl,hl,hbx⟩:=hcut
    have HE:Hid ((K (ks k)).2=expected ws (kn k) (go k) k):=H.out.hex k hlt
    go_wp2
    go_loopw [9,10] (λav bv wy=>∃bb:Nat,bb<=4/\bv= .int .i64 bb/\av= .int .i64 (pre ws (kn k) (go k) k bb 0).length/\Hid (wy.ownsRow 0 71 3 u6 (K (ks k)).2.length (aU (K (ks k)).2))/\Below w.heap.size w wy) (λ_ bv _=>4 - (intOf bv).toNat)
    case atStart=>exact⟨0,by omega,rfl,rfl,hl,hbx⟩
    case round=>
     obtain⟨bb,hbb,rfl,rfl,hl2,hbel2⟩:=hrel
     by_cases hb4:bb< 4
     ·have b4:(bb:Int)< 4:=by omega
      obtain⟨wad,wcap,hwv⟩:=pR H.out.hw
      subst hwv
      have hT1:Hid (∀W,Below w.heap.size w W->W.cell? ⟨bt,1,none⟩=some (.slice wad ws.length wcap)):=λW hW=>aX (by rw[(au H.out.hT).1];exact H.out.h1) hW
      have hlen80:ws.length<=80:=H.out.hlen
      go_wp2
      go_loopw [9,11] (λav jv wz=>∃j:Nat,j<=ws.length/\jv= .int .i64 j/\av= .int .i64 (pre ws (kn k) (go k) k bb j).length/\Hid (wz.ownsRow 0 71 3 u6 (K (ks k)).2.length (aU (K (ks k)).2))/\Below w.heap.size w wz) (λ_ jv _=>ws.length - (intOf jv).toNat)
      case atStart=>exact⟨0,by omega,rfl,rfl,hl2,hbel2⟩
      case round=>
       obtain⟨j,hj,rfl,rfl,hl3,hbel3⟩:=hrel
       have t1:=hT1.out _ hbel3
       by_cases hjl:j< ws.length
       ·have j1:(j:Int)< (ws.length:Int):=by omega
        have j80:(j:Int)< 80:=by omega
        have j0:(0:Int)<=(j:Int):=by omega
        obtain⟨gw,cw,hwv,hw1,hw2,hcells⟩:=tq H.out.hw (by omega)
        cases hwv
        obtain⟨f0,f1,f2,f3⟩:=Ty ws j hjl
        have x0:=aX (hcells _ _ (by omega) f0) hbel3
        have x1:=aX (hcells _ _ (by omega) f1) hbel3
        have x2:=aX (hcells _ _ (by omega) f2) hbel3
        have x3:=aX (hcells _ _ (by omega) f3) hbel3
        have hxj:Hid (ws[j]? =some ws[j]):=Yn hjl
        have kc: ‹World›.cell? ⟨bt,2+i*240+k*80+j,none⟩=some (.bool (kn k j)):=aX (by rw[(au H.out.hT).1];exact H.out.bd k j hlt (by omega)) hbel3
        have gc: ‹World›.cell? ⟨bt,962+i*240+k*80+j,none⟩=some (.bool (go k j)):=aX (by rw[(au H.out.hT).1];exact H.out.hgo k j hlt (by omega)) hbel3
        have hbt:bt< wr.heap.size:=Z6 _ _ kc
        have hz3:=hbel3.size
        have ho3:Hid (∀Z,(wr.alloc Z).ownsRow 0 71 3 u6 (K (ks k)).2.length (aU (K (ks k)).2)):=λZ=>hl3.out.alloc Z
        have hb3:Hid (∀Z,Below w.heap.size w (wr.alloc Z)):=λZ=>hbel3.alloc hz3 Z
        rcases hxx:ws[j] with ⟨xb,xk,xn,xs⟩
        have HX:Hid (ws[j]? =some (xb,xk,xn,xs)):=by rw[←hxx];exact hxj.out
        rw[hxx] at x0 x1 x2 x3
        simp only at x0 x1 x2 x3
        clear hxx hxj f0 f1 f2 f3 hcells
        by_cases c1:xk=k
        ·subst c1
         by_cases c2:xb=bb
         ·subst c2
          cases c3:kn xk j with
          |false=>
           have Hm:Hid (pre ws (kn xk) (go xk) xk xb (j+1)=pre ws (kn xk) (go xk) xk xb j):=uw HX.out (λh=>by rw[c3] at h;simp at h)
           rw[c3] at kc
           go_wp2
           exact⟨⟨j+1,by omega,by go_num,by rw[Hm.out],ho3.out _,hb3.out _⟩,by simp[intOf];omega⟩
          |true=>
           rw[c3] at kc
           cases c4:go xk j with
           |true=>
            have Hm:Hid (pre ws (kn xk) (go xk) xk xb (j+1)=pre ws (kn xk) (go xk) xk xb j):=uw HX.out (λh=>by rw[c4] at h;simp at h)
            rw[c4] at gc
            go_wp2
            exact⟨⟨j+1,by omega,by go_num,by rw[Hm.out],ho3.out _,hb3.out _⟩,by simp[intOf];omega⟩
           |false=>
            rw[c4] at gc
            obtain⟨hp1,hp2⟩:=GP hb4 HX.out rfl rfl c3 c4
            rw[←HE.out] at hp2
            have HLen:Hid ((pre ws (kn xk) (go xk) xk xb (j+1)).length=(pre ws (kn xk) (go xk) xk xb j).length+1):=(congrArg List.length hp1).trans (Yh)
            clear hp1
            obtain⟨hal,hae⟩:=YP.1 hp2
            obtain⟨gl,cl,hu6,hn1,hn2,hlc⟩:=tq hl3.out (by omega)
            obtain⟨y0,y1,y2⟩:=we (K (ks xk)).2 _ hal
            have l0:=hlc _ _ (by omega) y0
            have l1:=hlc _ _ (by omega) y1
            have l2:=hlc _ _ (by omega) y2
            rw[hae] at l0 l1 l2
            simp only at l0 l1 l2
            clear hae hp2 y0 y1 y2 hlc
            have hlz:(K (ks xk)).2.length<=100000:=X0 (H.out.hK (ks xk)).2.1 (by decide)
            generalize (pre ws (kn xk) (go xk) xk xb j).length=at' at*
            have hal':(at':Int)< ((K (ks xk)).2.length:Int):=by omega
            have hat0:(0:Int)<=(at':Int):=by omega
            have hd:decide ((K (ks xk)).2.length<=at')=false:=by simpa using hal
            have hneq:=λW=>Cr W xb xn xs
            have hgl:gl< wr.heap.size:=Z6 _ _ l0
            subst hu6
            go_wp2
            go_quiet (fail)
            go_wp2
            exact⟨⟨j+1,by omega,by go_num,by rw[HLen.out];go_num,ho3.out _,Zr (hb3.out _) _⟩,by simp[intOf];omega⟩
         ·have Hm:Hid (pre ws (kn xk) (go xk) xk bb (j+1)=pre ws (kn xk) (go xk) xk bb j):=uw HX.out (λh=>c2 h.2.1)
          have d2:((xb:Int) !=(bb:Int))=true:=by simp;omega
          go_wp2
          exact⟨⟨j+1,by omega,by go_num,by rw[Hm.out],ho3.out _,hb3.out _⟩,by simp[intOf];omega⟩
        ·have Hm:Hid (pre ws (kn k) (go k) k bb (j+1)=pre ws (kn k) (go k) k bb j):=uw HX.out (λh=>c1 h.1)
         have d1:((xk:Int) !=(k:Int))=true:=by simp;omega
         go_wp2
         exact⟨⟨j+1,by omega,by go_num,by rw[Hm.out],ho3.out _,hb3.out _⟩,by simp[intOf];omega⟩
       ·have hje:j=ws.length:=by omega
        subst hje
        have Hn:Hid _:=wJ ws (kn k) (go k) k bb
        go_wp2
        exact⟨⟨bb+1,by omega,by go_num,by rw[Hn.out],hl3,hbel3⟩,by simp[intOf];omega⟩
     ·have hbe:bb=4:=by omega
      subst hbe
      have Hf:Hid _:=Cm ws (kn k) (go k) k
      obtain⟨lad,lcap,hlv⟩:=pR hl2.out
      subst hlv
      have hlen:((pre ws (kn k) (go k) k 4 0).length:Int)=((K (ks k)).2.length:Int):=by rw[Hf.out,HE.out]
      go_wp2
      exact⟨⟨k+1,by omega,by go_num,hbel2⟩,by simp[intOf];omega⟩
  ·have hke:k=3:=by omega
   subst hke
   go_wp2
   go_ret
   exact⟨rfl,hbel⟩
end Go.Proofs.YtldmcdeibiclkaaGreatDoorQ
namespace Go.Proofs.YtldmcdeibiclkaaGreatDoorQ
theorem wC{α β:Type}(p:β->Bool)(f:α->List β):∀l:List α,(l.flatMap f).filter p=l.flatMap λa=>(f a).filter p
 |[]=>rfl
 |a::l=>by simp only[Zd,List.filter_append,wC p f l]
theorem l9{α β:Type}{f g:α->List β}:∀l:List α,(∀a∈l,f a=g a)->l.flatMap f=l.flatMap g
 |[],_=>rfl
 |a::l,h=>by
  simp only[Zd]
  rw[h a (by simp),l9 l λb hb=>h b (by simp[hb])]
theorem vz{ws:List Wr}{kn go m:Nat->Bool}{c:Ctx}{k:Nat}(hm:∀(j:Nat) (x:Wr),ws[j]? =some x->x.2.1=k->(m j=true↔x.2.2.1<=c x.1)):
  aQ (expected ws kn go k) c=expected ws kn (λj=>go j||m j) k:=by
 unfold aQ expected
 rw[wC]
 refine l9 _ λb _=>?_
 unfold bV
 rw[wC]
 refine l9 _ λj _=>?_
 cases hx:ws[j]? with
 |none=>rfl
 |some x=>
  simp only
  by_cases h1:x.2.1=k
  ·by_cases h2:x.1=b
   ·have h:=hm j x hx h1
    subst h2
    by_cases h3:kn j=true
    ·by_cases h4:go j=true
     ·simp[h4]
     ·by_cases h5:m j=true
      ·have h6:=h.1 h5
       simp[h1,h3,h4,h5,gO,h6]
      ·have h6: ¬ x.2.2.1<=c x.1:=λe=>h5 (h.2 e)
       simp[h1,h3,h4,h5,gO]
       exact Int.not_le.1 h6
    ·simp[h3]
   ·simp[h2]
  ·simp[h1]
end Go.Proofs.YtldmcdeibiclkaaGreatDoorQ
namespace Go.Proofs.YtldmcdeibiclkaaGreatDoorQ
open Go.RowKit
theorem aa.Aj:(aa.prog.info? 3).map (λi=>(i.zero,i.size,i.bytes))=some (some (.int .i64 0),1,8):=by kernel_rfl
def dE(D:Nat->Int)(g:Nd)(i:Nat):List Nat:=((List.range i).filter λj=>decide (D (g.1*4+j)≠g.2 j)).map λj=>g.1*4+j
def bO(D:Nat->Int)(sg:List Nd):List Nat:=sg.flatMap λg=>dE D g 4
theorem Mw(D:Nat->Int)(g:Nd)(i:Nat):dE D g (i+1)=dE D g i++(if D (g.1*4+i)≠g.2 i then [g.1*4+i] else []):=by
 unfold dE
 rw[Zj,List.filter_append,Zx]
 congr 1
 by_cases h:D (g.1*4+i)=g.2 i<;>simp[h]
theorem Gy(D:Nat->Int){sg:List Nd}{k:Nat}(h:k< sg.length):bO D (sg.take (k+1))=bO D (sg.take k)++dE D sg[k] 4:=by
 rw[Yu h,bO,bO,Ze]
 simp
theorem CO(D:Nat->Int)(g:Nd)(i:Nat):(dE D g i).length<=i:=by
 unfold dE
 rw[Yr]
 exact X0 (aaa _ _) (by simp)
theorem F8(D:Nat->Int)(sg:List Nd):(bO D sg).length<=4*sg.length:=by
 induction sg with
 |nil=>simp[bO]
 |cons g sg ih=>
  have:=CO D g 4
  simp only[bO,Zd,Yh,Ys] at*
  omega
theorem fR.snoc{w:World}{B g cap n:Nat}{ns:List Nat}(h:w.ownsRow B 3 1 (.slice (some ⟨g,0,none⟩) (ns.length+1) cap) (ns.length+1) ((ns.map λ(n:Nat)=>Value.int .i64 (n:Int))++ [.int .i64 n])):fR w B (.slice (some ⟨g,0,none⟩) (ns.length+1) cap) (ns++ [n]):=by
 unfold fR
 rw[Yh,Zx]
 exact h
theorem Ny(b num lev B1:Nat)(bm:Nat->Nat)(K:aF)(lv:Value)(sg:List Nd)(w:World)(h:aE w b bm num K)(hK:dX w bm K)(hr:w.ownsRow B1 163 5 lv sg.length (dV sg))(hlev:lev< 3)(hl:sg.length<=64)(hns:∀g∈sg,g.1< 4 ^ lev):
  Calls aa.prog 79 #[.pointer (some ⟨b,0,none⟩),.agg #[.int .i64 lev,lv]] w λe w'=>∃v,e= .returned v/\fR w' w.heap.size v (bO (bH w bm K (lev+1)) sg)/\Below w.heap.size w w':=by
 obtain⟨i0,hi0,hz0,hz1,hz2⟩:=Yk aa.Aj
 obtain⟨ad,cap,rfl,hcap,hlc⟩:=jJ hr
 have h4:=(oD (show lev<=3 by omega)).1
 have HD:Hid (∀g∈sg,∀i:Nat,i< 4->∀W,Below w.heap.size w W->Calls aa.prog 27 #[.pointer (some ⟨b,0,none⟩),.int .i64 ((lev:Int)+1),.int .i64 ((g.1*4+i:Nat):Int)] W λe w'=>e= .returned (.int .u64 (bH w bm K (lev+1) (g.1*4+i)))/\Below W.heap.size W w'):=λg hg i hi W hW=>by
  have h1:=hns g hg
  have:=yu h hK (lev+1) (g.1*4+i) (by omega) (by rw[Y7];omega) W hW
  rw[show ((lev+1:Nat):Int)=(lev:Int)+1 by omega] at this
  exact this
 have HC:Hid (∀g∈sg,∀i:Nat,i< 4->∀W,Calls aa.prog 103 #[.int .i64 g.1,.int .i64 i] W λe w'=>e= .returned (.int .i64 ((g.1*4+i:Nat):Int))/\w'=W):=λg hg i hi W=>by
  have h1:=hns g hg
  exact FD g.1 i W (by omega) hi
 have HN:Hid (w.ownsRow B1 163 5 (.slice ad sg.length cap) sg.length (dV sg)):=hr
 have v1:(lev:Int)+1<=3:=by omega
 have HB0:Hid (Below w.heap.size w (w.alloc (.cells #[.int .i64 lev,.slice ad sg.length cap] 128))):=(By _ _).alloc (AI _) _
 have HS0:Hid ((w.alloc (.cells #[.int .i64 lev,.slice ad sg.length cap] 128)).heap[w.heap.size]? =some (.cells #[.int .i64 lev,.slice ad sg.length cap] 128)):=IS w _
 clear h hr hns hK
 generalize bH w bm K (lev+1)=D at*
 go_enter aa.func79,aa.ntmps79
 go_wp2
 go_loopw [5,14] (λo iv wr=>∃k:Nat,k<=sg.length/\iv= .int .i64 k/\Hid (fR wr w.heap.size o (bO D (sg.take k)))/\Hid (wr.heap[w.heap.size]? =some (.cells #[.int .i64 lev,.slice ad sg.length cap] 128))/\Hid (Below w.heap.size w wr)) (λ_ iv _=>sg.length - (intOf iv).toNat)
 case atStart=>exact⟨0,by omega,rfl,Y6 _ _ _ _,HS0.out,HB0.out⟩
 case round=>
  obtain⟨k,hkl,rfl,HR,HS,HB⟩:=hrel
  clear HS0 HB0
  have hsw:=HB.out.size
  by_cases hlt:k< sg.length
  ·obtain⟨g,cap',hv',hgl,_,_,cc⟩:=pj HN.out (show 0< sg.length by omega)
   cases hv'
   have cw:∀j,j< 5->wr.cell? ⟨g,k*5+j,none⟩=(lE sg[k])[j]? :=λj hj=>by
    have h1:=vQ sg k hlt j hj
    rw[HB.out.cell (p:=⟨g,k*5+j,none⟩) hgl,←h1]
    rw[Yn (by rw[EI];omega)]
    exact cc _ _ (by omega) (Yn _)
   have c0:wr.cell? ⟨g,k*5,none⟩=some (.int .i64 sg[k].1):=cw 0 (by omega)
   have c1:wr.cell? ⟨g,k*5+1,none⟩=some (.int .u64 (sg[k].2 0)):=cw 1 (by omega)
   have c2:wr.cell? ⟨g,k*5+2,none⟩=some (.int .u64 (sg[k].2 1)):=cw 2 (by omega)
   have c3:wr.cell? ⟨g,k*5+3,none⟩=some (.int .u64 (sg[k].2 2)):=cw 3 (by omega)
   have c4:wr.cell? ⟨g,k*5+4,none⟩=some (.int .u64 (sg[k].2 3)):=cw 4 (by omega)
   have HD':Hid (∀i:Nat,i< 4->∀W,Below w.heap.size w W->Calls aa.prog 27 #[.pointer (some ⟨b,0,none⟩),.int .i64 ((lev:Int)+1),.int .i64 ((sg[k].1*4+i:Nat):Int)] W λe w'=>e= .returned (.int .u64 (D (sg[k].1*4+i)))/\Below W.heap.size W w'):=HD.out sg[k] (X9 hlt)
   have HC':Hid (∀i:Nat,i< 4->∀W,Calls aa.prog 103 #[.int .i64 sg[k].1,.int .i64 i] W λe w'=>e= .returned (.int .i64 ((sg[k].1*4+i:Nat):Int))/\w'=W):=HC.out sg[k] (X9 hlt)
   have HT:Hid (bO D (sg.take (k+1))=bO D (sg.take k)++dE D sg[k] 4):=Gy D hlt
   have hL:(bO D (sg.take k)).length<=256:=X0 (F8 D _) (by have:=List.length_take_le k sg;omega)
   clear cc cw HD HC
   generalize bO D (sg.take k)=L at*
   generalize sg[k]=nd at*
   have a1:(k:Int)< (sg.length:Int):=by omega
   have a0:(0:Int)<=(k:Int):=by omega
   have HR5:Hid (fR (wr.alloc (.cells #[.int .i64 nd.1,.int .u64 (nd.2 0),.int .u64 (nd.2 1),.int .u64 (nd.2 2),.int .u64 (nd.2 3)] 163)) w.heap.size u5 (L++dE D nd 0)):=(by rw[show dE D nd 0= [] from rfl,Zf];exact Yc HR.out _)
   have HB5:Hid (Below w.heap.size w (wr.alloc (.cells #[.int .i64 nd.1,.int .u64 (nd.2 0),.int .u64 (nd.2 1),.int .u64 (nd.2 2),.int .u64 (nd.2 3)] 163))):=HB.out.alloc hsw _
   have HS5:Hid ((wr.alloc (.cells #[.int .i64 nd.1,.int .u64 (nd.2 0),.int .u64 (nd.2 1),.int .u64 (nd.2 2),.int .u64 (nd.2 3)] 163)).heap[w.heap.size]? =some (.cells #[.int .i64 lev,.slice (some ⟨g,0,none⟩) sg.length cap] 128)):=aY HS.out ((By _ _).alloc (AI _) _)
   have HN5:Hid ((wr.alloc (.cells #[.int .i64 nd.1,.int .u64 (nd.2 0),.int .u64 (nd.2 1),.int .u64 (nd.2 2),.int .u64 (nd.2 3)] 163)).heap[wr.heap.size]? =some (.cells #[.int .i64 nd.1,.int .u64 (nd.2 0),.int .u64 (nd.2 1),.int .u64 (nd.2 2),.int .u64 (nd.2 3)] 163)):=IS wr _
   go_wp2
   generalize wr.heap.size=bn at*
   go_loopw [5,20] (λo iv wq=>∃i:Nat,i<=4/\iv= .int .i64 i/\Hid (fR wq w.heap.size o (L++dE D nd i))/\Hid (wq.heap[w.heap.size]? =some (.cells #[.int .i64 lev,.slice (some ⟨g,0,none⟩) sg.length cap] 128))/\Hid (wq.heap[bn]? =some (.cells #[.int .i64 nd.1,.int .u64 (nd.2 0),.int .u64 (nd.2 1),.int .u64 (nd.2 2),.int .u64 (nd.2 3)] 163))/\Hid (Below w.heap.size w wq)) (λ_ iv _=>4 - (intOf iv).toNat)
   case atStart=>exact⟨0,by omega,rfl,HR5.out,HS5.out,HN5.out,HB5.out⟩
   case round=>
    obtain⟨i,hi,rfl,HRi,HSi,HNi,HBi⟩:=hrel
    clear HR5 HS5 HN5 HB5
    by_cases hi4:i< 4
    ·have i1:(i:Int)< 4:=by omega
     have i00:(0:Int)<=(i:Int):=by omega
     have hix:=indexAt nd.2 hi4
     have HDi:Hid (∀W,Below w.heap.size w W->Calls aa.prog 27 #[.pointer (some ⟨b,0,none⟩),.int .i64 ((lev:Int)+1),.int .i64 ((nd.1*4+i:Nat):Int)] W λe w'=>e= .returned (.int .u64 (D (nd.1*4+i)))/\Below W.heap.size W w'):=HD'.out i hi4
     have HCi:Hid (∀W,Calls aa.prog 103 #[.int .i64 nd.1,.int .i64 i] W λe w'=>e= .returned (.int .i64 ((nd.1*4+i:Nat):Int))/\w'=W):=HC'.out i hi4
     have HSu:Hid (L++dE D nd (i+1)=(L++dE D nd i)++(if D (nd.1*4+i)≠nd.2 i then [nd.1*4+i] else [])):=(show _=_ by rw[Mw,Zg])
     have hLi:(L++dE D nd i).length<=260:=by have:=CO D nd i;rw[Yh];omega
     have nd0:=(au HNi.out).1 0
     have lev0:=(au HSi.out).1 0
     generalize L++dE D nd i=Li at*
     generalize nd.1*4+i=ch at*
     by_cases hd:D ch=nd.2 i
     ·rw[AS (by simpa using hd),Zf] at HSu
      rw[hd] at HDi
      generalize nd.2 i=di at*
      go_wp2_with (first
       |(go_at_call 103;refine (HCi.out _).mono ?_;rintro e w' ⟨rfl,hw'⟩;subst w')
       |(go_at_call 27;refine (HDi.out _ HBi.out).mono ?_;rintro e w2 ⟨rfl,hb2⟩;have HB2:Hid (Below wr.heap.size wr w2):=hb2;clear hb2))
      exact⟨⟨i+1,by omega,by go_num,by rw[HSu.out];exact dp HRi.out HB2.out (AI _),aY HSi.out HB2.out,aY HNi.out HB2.out,bG HBi.out HB2.out⟩,by simp[intOf];omega⟩
     ·rw[AT (by simpa using hd)] at HSu
      generalize D ch=Dc at*
      generalize nd.2 i=di at*
      go_wp2_with (first
       |(go_at_call 103;refine (HCi.out _).mono ?_;rintro e w' ⟨rfl,hw'⟩;subst w')
       |(go_at_call 27;refine (HDi.out _ HBi.out).mono ?_;rintro e w2 ⟨rfl,hb2⟩;have HB2:Hid (Below wr.heap.size wr w2):=hb2;have HRa:Hid ((w2.alloc (.cells #[.int .i64 ch] 3)).ownsRow w.heap.size 3 1 u5 Li.length (Li.map λ(n:Nat)=>Value.int .i64 (n:Int))):=Yc (dp HRi.out hb2 (AI _)) _;have HBa:Hid (Below w.heap.size w (w2.alloc (.cells #[.int .i64 ch] 3))):=(bG HBi.out hb2).alloc (by have:=hb2.size;have:=HBi.out.size;omega) _;have HSa:Hid ((w2.alloc (.cells #[.int .i64 ch] 3)).heap[w.heap.size]? =some (.cells #[.int .i64 lev,.slice (some ⟨g,0,none⟩) sg.length cap] 128)):=aY (aY HSi.out hb2) ((By _ _).alloc (AI _) _);have HNa:Hid ((w2.alloc (.cells #[.int .i64 ch] 3)).heap[bn]? =some (.cells #[.int .i64 nd.1,.int .u64 (nd.2 0),.int .u64 (nd.2 1),.int .u64 (nd.2 2),.int .u64 (nd.2 3)] 163)):=aY (aY HNi.out hb2) ((By _ _).alloc (AI _) _);clear hb2)
       |(at_builtin;refine j6 _ rfl _ _ _ rfl w.heap.size 3 i0 _ 1 8 aa.underlying22 hi0 hz0 hz1 hz2 rfl (by omega) u5 _ _ rfl HRa.out ⟨w2.heap.size,0,none⟩ 1 1 _ rfl (by rfl) (Yo (IS w2 _)) (by simp[Value.oneCell']) (by omega) (by unfold maxLen;omega) (by omega) HBa.out.size ?_;intro g7 cap7 w7 hown7 hgr7;have HR7:Hid (fR w7 w.heap.size (.slice (some ⟨g7,0,none⟩) (Li.length+1) cap7) (Li++ [ch])):=fR.snoc hown7;have HG7:Hid (bw (w2.alloc (.cells #[.int .i64 ch] 3)) w7 u5 (.slice (some ⟨g7,0,none⟩) (Li.length+1) cap7)):=hgr7;clear hown7 hgr7))
      exact⟨⟨i+1,by omega,by go_num,by rw[HSu.out];exact HR7.out,HG7.out.other HRa.out HSa.out (by decide),HG7.out.other HRa.out HNa.out (by decide),HG7.out.toBelow HBa.out HBa.out.size HRa.out⟩,by simp[intOf];omega⟩
    ·obtain rfl:i=4:=by omega
     rw[←HT.out] at HRi
     go_wp2
     exact⟨⟨k+1,by omega,by go_num,HRi.out,HSi.out,HBi.out⟩,by simp[intOf];omega⟩
  ·obtain rfl:k=sg.length:=by omega
   have hR:=HR.out
   rw[YD] at hR
   go_wp2
   go_ret
   exact⟨_,rfl,hR,HB.out⟩
theorem vJ{D:Nat->Int}{g:Nd}{i c:Nat}(h:c∈dE D g i): ∃j,j< i/\c=g.1*4+j/\D c≠g.2 j:=by
 simp only[dE,Ya,List.mem_filter,YV,Yt] at h
 obtain⟨j,⟨h1,h2⟩,rfl⟩:=h
 exact⟨j,h1,rfl,h2⟩
theorem sA{D:Nat->Int}{sg:List Nd}{lev:Nat}(h:∀g∈sg,g.1< 4 ^ lev):∀c∈bO D sg,c< 4 ^ (lev+1):=λc hc=>by
 obtain⟨g,hg,hc⟩:=Zk.1 hc
 obtain⟨j,hj,rfl,_⟩:=vJ hc
 have:=h g hg
 rw[Y7]
 omega
theorem xE{D:Nat->Int}:∀{sg:List Nd},(sg.map (·.1)).Pairwise (· < ·)->(bO D sg).Pairwise (· < ·)
 |[],_=>List.Pairwise.nil
 |g::sg,h=>by
  rw[YI,YE] at h
  show (dE D g 4++bO D sg).Pairwise _
  rw[List.pairwise_append]
  refine⟨?_,xE h.2,λa ha c hc=>?_⟩
  ·rw[dE,Z8]
   exact ((List.pairwise_lt_range (n:=4)).filter _).imp λ{a c} hac=>by omega
  ·obtain⟨j,hj,rfl,_⟩:=vJ ha
   obtain⟨g',hg',hc⟩:=Zk.1 hc
   obtain⟨j',hj',rfl,_⟩:=vJ hc
   have:=h.1 g'.1 (ZG hg')
   omega
theorem uU:∀{l:List Nat} {a m:Nat},l.Pairwise (· < ·)->(∀x∈l,a<=x/\x< m)->l.length<=m - a
 |[],_,_,_,_=>Y2 _
 |x::l,a,m,h,hb=>by
  rw[YE] at h
  have hx:=hb x List.mem_cons_self
  have:=uU (a:=x+1) (m:=m) h.2 λy hy=>⟨h.1 y hy,(hb y (aak _ hy)).2⟩
  rw[Ys]
  omega
def ly(w:World)(bm:Nat->Nat)(K:aF)(d:Int):Option Let:=if d=bH w bm K 0 0 then none else some (.nodes 0 (gz w bm K 0 [0]))
def lB(w:World)(bm:Nat->Nat)(K:aF)(lev:Nat)(sg:List Nd):Option Let:=
 if bO (bH w bm K (lev+1)) sg= [] then none else if lev=2 then some (.aV 83 (bp w bm K (bO (bH w bm K (lev+1)) sg))) else some (.nodes (lev+1) (gz w bm K (lev+1) (bO (bH w bm K (lev+1)) sg)))
def jb:Option Let->ByteArray
 |none=>⟨#[]⟩
 |some L=>L.bytes
theorem P4(b num:Nat)(bm:Nat->Nat)(K:aF)(d:Int)(w:World)(h:aE w b bm num K)(hK:dX w bm K):
  Calls aa.prog 59 #[.pointer (some ⟨b,0,none⟩),.agg #[.int .u64 d]] w λe w'=>e= .returned (.string (jb (ly w bm K d)))/\Below w.heap.size w w':=by
 have HB1:Hid (Below w.heap.size w (w.alloc (.cells #[.int .u64 d] 81))):=(By _ _).alloc (AI _) _
 have HD:Hid (∀W,Below w.heap.size w W->Calls aa.prog 27 #[.pointer (some ⟨b,0,none⟩),.int .i64 0,.int .i64 0] W λe w'=>e= .returned (.int .u64 (bH w bm K 0 0))/\Below W.heap.size W w'):=λW hW=>yu h hK 0 0 (by omega) (by decide) W hW
 have HT:Hid (∀W,Below w.heap.size w W->Calls aa.prog 78 #[.pointer (some ⟨b,0,none⟩),.int .i64 0,.slice (some ⟨W.heap.size,0,none⟩) 1 1] (W.alloc (.cells #[.int .i64 0] 3)) λe w'=>e= .returned (.string (Let.nodes 0 (gz w bm K 0 [0])).bytes)/\Below w.heap.size w w'):=λW hW=>by
  have hb:Below w.heap.size w (W.alloc (.cells #[.int .i64 0] 3)):=hW.alloc hW.size _
  have hrow:fR (W.alloc (.cells #[.int .i64 0] 3)) W.heap.size (.slice (some ⟨W.heap.size,0,none⟩) 1 1) [0]:=⟨rfl,Or.inr ⟨W.heap.size,1,#[.int .i64 0],rfl,AI _,IS W _,AI _,by decide,rfl,rfl⟩⟩
  have:=Aw b num 0 W.heap.size bm K _ [0] _ (h.below hb) (hK.below h hb) hrow (by omega) (by decide) (by simp)
  rw[sq h hb (by omega) (by simp)] at this
  exact this.mono λe w' ⟨he,hb'⟩=>⟨he,bG hb hb'⟩
 clear h hK
 unfold ly
 generalize gz w bm K 0 [0]=no at*
 generalize bH w bm K 0 0=D at*
 have HD1:Hid (Calls aa.prog 27 #[.pointer (some ⟨b,0,none⟩),.int .i64 0,.int .i64 0] (w.alloc (.cells #[.int .u64 d] 81)).drew λe w'=>e= .returned (.int .u64 D)/\w'.cell? ⟨w.heap.size,0,none⟩=some (.int .u64 d)/\Below w.heap.size w w'):=(HD.out _ HB1.out.drew).mono λe w' ⟨he,hb⟩=>⟨he,by
  have:=(au (aY (IS w (.cells #[.int .u64 d] 81)) (bG (By _ _).drew hb))).1 0
  simpa using this,bG HB1.out.drew hb⟩
 have c0:(w.alloc (.cells #[.int .u64 d] 81)).cell? ⟨w.heap.size,0,none⟩=some (.int .u64 d):=by
  exact (au (IS w (.cells #[.int .u64 d] 81))).1 0
 by_cases hd:d=D
 ·subst hd
  rw[AT rfl]
  go_enter aa.func59,aa.ntmps59
  go_upto_region 1 with fail
  go_region_held3 (λw'=>w'.cell? ⟨w.heap.size,0,none⟩=some (.int .u64 d)) (go_keep)
   (first|(go_at_call 27;refine BY HD1.out ?_;rintro e w2 ⟨rfl,hc2,hb2⟩))
  all_goals
   go_wp2
   go_ret
   exact⟨rfl,hb2⟩
 ·rw[AS hd]
  have hd': ¬ d=D:=hd
  go_enter aa.func59,aa.ntmps59
  go_upto_region 1 with fail
  go_region_held3 (λw'=>w'.cell? ⟨w.heap.size,0,none⟩=some (.int .u64 d)) (go_keep)
   (first|(go_at_call 27;refine BY HD1.out ?_;rintro e w2 ⟨rfl,hc2,hb2⟩))
  all_goals
   go_wp2_with (go_at_call 78;refine BY (HT.out _ hb2) ?_;rintro e w3 ⟨rfl,hb3⟩)
   go_ret
   exact⟨rfl,hb3⟩
theorem IM(b num lev B1:Nat)(bm:Nat->Nat)(K:aF)(lv:Value)(sg:List Nd)(w:World)(h:aE w b bm num K)(hK:dX w bm K)(hr:w.ownsRow B1 163 5 lv sg.length (dV sg))(hlev:lev< 3)(hl:sg.length<=64)(hns:∀g∈sg,g.1< 4 ^ lev)(hasc:(sg.map (·.1)).Pairwise (· < ·))(hsz:∀ns:List Nat,ns.length<=64->(∀n∈ns,n< 64)->(Let.aV 83 (bp w bm K ns)).bytes.size<=140737488355328):
  Calls aa.prog 60 #[.pointer (some ⟨b,0,none⟩),.agg #[.int .i64 lev,lv]] w λe w'=>e= .returned (.string (jb (lB w bm K lev sg)))/\Below w.heap.size w w':=by
 obtain⟨ad,cap,rfl⟩:=gY hr
 have h4:=(oD (show lev+1<=3 by omega)).1
 have hdl:=sA (D:=bH w bm K (lev+1)) hns
 have hda:=xE (D:=bH w bm K (lev+1)) hasc
 have hdn:=uU (a:=0) (m:=64) hda λx hx=>⟨Y2 _,X4 (hdl x hx) h4⟩
 obtain⟨W1,hW1⟩: ∃W,W=w.alloc (.cells #[.int .i64 lev,.slice ad sg.length cap] 128):=⟨_,rfl⟩
 have hB1:Below w.heap.size w W1:=by rw[hW1];exact (By _ _).alloc (AI _) _
 have eD:bO (bH W1 bm K (lev+1)) sg=bO (bH w bm K (lev+1)) sg:=by
  have hg:∀g∈sg,dE (bH W1 bm K (lev+1)) g 4=dE (bH w bm K (lev+1)) g 4:=λg hg=>by
   unfold dE
   congr 1
   refine List.filter_congr λj hj=>?_
   have:=hns g hg
   have hj':=YV.1 hj
   rw[qD h hB1 (by omega) (by rw[Y7];omega)]
  exact l9 sg hg
 have HDf:Hid (Calls aa.prog 79 #[.pointer (some ⟨b,0,none⟩),.agg #[.int .i64 lev,.slice ad sg.length cap]] (w.alloc (.cells #[.int .i64 lev,.slice ad sg.length cap] 128)) λe w'=>∃adv capv,e= .returned (.slice adv (bO (bH w bm K (lev+1)) sg).length capv)/\fR w' w.heap.size (.slice adv (bO (bH w bm K (lev+1)) sg).length capv) (bO (bH w bm K (lev+1)) sg)/\Below w.heap.size w w'):=by
  rw[←hW1]
  have:=Ny b num lev B1 bm K _ sg W1 (h.below hB1) (hK.below h hB1) (dp hr hB1 (AI _)) hlev hl hns
  rw[eD] at this
  refine this.mono ?_
  rintro e w' ⟨v,rfl,h1,h2⟩
  obtain⟨adv,capv,rfl⟩:=gY h1
  exact⟨adv,capv,rfl,cY h1 hB1.size,bG hB1 h2⟩
 have HTs:Hid (lev=2->∀W nv,Below w.heap.size w W->fR W w.heap.size nv (bO (bH w bm K (lev+1)) sg)->Calls aa.prog 80 #[.pointer (some ⟨b,0,none⟩),.int .u8 83,nv] W λe w'=>e= .returned (.string (Let.aV 83 (bp w bm K (bO (bH w bm K (lev+1)) sg))).bytes)/\Below w.heap.size w w'):=λh2 W nv hW hrow=>by
  have es:∀n,n< 64->cp W (bm n)=cp w (bm n):=λn hn=>by unfold cp;rw[hW.block _ (h.2.1 n hn).lt]
  have e1:bp W bm K (bO (bH w bm K (lev+1)) sg)=bp w bm K (bO (bH w bm K (lev+1)) sg):=Y9 λn hn=>by rw[es n (X4 (hdl n hn) h4)]
  have:=C4 b num 83 w.heap.size bm K nv _ W (h.below hW) (hK.below h hW) hrow (by omega) (by omega) (λn hn=>X4 (hdl n hn) h4) (by rw[e1];exact hsz _ (by omega) (λn hn=>X4 (hdl n hn) h4))
  rw[e1] at this
  exact this.mono λe w' ⟨he,hb⟩=>⟨he,bG hW hb⟩
 have HTn:Hid (lev< 2->∀W nv,Below w.heap.size w W->fR W w.heap.size nv (bO (bH w bm K (lev+1)) sg)->Calls aa.prog 78 #[.pointer (some ⟨b,0,none⟩),.int .i64 ((lev:Int)+1),nv] W λe w'=>e= .returned (.string (Let.nodes (lev+1) (gz w bm K (lev+1) (bO (bH w bm K (lev+1)) sg))).bytes)/\Below w.heap.size w w'):=λh2 W nv hW hrow=>by
  have:=Aw b num (lev+1) w.heap.size bm K nv _ W (h.below hW) (hK.below h hW) hrow (by omega) (by omega) hdl
  rw[sq h hW (by omega) hdl,show ((lev+1:Nat):Int)=(lev:Int)+1 by omega] at this
  exact this.mono λe w' ⟨he,hb⟩=>⟨he,bG hW hb⟩
 have v1:(lev:Int)+1<=3:=by omega
 clear h hK hr hdl hda hW1 hB1 eD hsz hns hasc
 unfold lB
 generalize bp w bm K (bO (bH w bm K (lev+1)) sg)=so at*
 generalize gz w bm K (lev+1) (bO (bH w bm K (lev+1)) sg)=no at*
 generalize bO (bH w bm K (lev+1)) sg=ds at*
 by_cases hd:ds= []
 ·subst hd
  rw[AT rfl]
  go_enter aa.func60,aa.ntmps60
  go_wp2_with (go_at_call 79;refine BY HDf.out ?_;rintro e w2 ⟨adv,capv,rfl,hrow2,hb2⟩)
  go_ret
  exact⟨rfl,hb2⟩
 ·rw[AS hd]
  have hl0: ¬ ds.length=0:=λh=>hd (List.eq_nil_of_length_eq_zero h)
  have hl1: ¬ (ds.length:Int)=0:=by omega
  by_cases h2:lev=2
  ·subst h2
   rw[AT rfl]
   have HTs':Hid _:=HTs.out rfl
   go_enter aa.func60,aa.ntmps60
   go_wp2_with (first
    |(go_at_call 79;refine BY HDf.out ?_;rintro e w2 ⟨adv,capv,rfl,hrow2,hb2⟩)
    |(go_at_call 80;refine BY (HTs'.out _ _ hb2 hrow2) ?_;rintro e w3 ⟨rfl,hb3⟩))
   go_ret
   exact⟨rfl,hb3⟩
  ·rw[AS h2]
   have h3: ¬ (lev:Int)+1=3:=by omega
   have HTn':Hid _:=HTn.out (by omega)
   go_enter aa.func60,aa.ntmps60
   go_wp2_with (first
    |(go_at_call 79;refine BY HDf.out ?_;rintro e w2 ⟨adv,capv,rfl,hrow2,hb2⟩)
    |(go_at_call 78;refine BY (HTn'.out _ _ hb2 hrow2) ?_;rintro e w3 ⟨rfl,hb3⟩))
   go_ret
   exact⟨rfl,hb3⟩
end Go.Proofs.YtldmcdeibiclkaaGreatDoorQ
