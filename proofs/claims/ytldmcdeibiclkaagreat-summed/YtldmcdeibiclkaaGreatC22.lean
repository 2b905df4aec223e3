/-
  Toward summed_holds: append onto a row that is owned: what it says of the old row besides: where the new row li
-/
import Derived.Deep.AppendLies
import Derived.Test.YtldmcdeibiclkaaGreatC21
import Derived.Test.YtldmcdeibiclkaaGreatC17
import Derived.Deep.MidRow
import Derived.Maps.RangeWalk
import Derived.Laws.BytesArg
set_option linter.unusedVariables false
set_option linter.unusedSimpArgs false
set_option maxRecDepth 100000
set_option maxHeartbeats 20000000
namespace Go.Proofs.YtldmcdeibiclkaaGreatQ
variable {o:Oper}{a:Act}{v:Value}{xs:List Value}{g:Nat}{t:TypeId}
section
open Go
section
variable {P:Program} (w:World)
theorem Pv(t ty:TypeId)(base:Nat)(e:TypeId)(i:TypeInfo)(z:Value)(size bytes:Nat)(ht:P.underlying t=some (.slice e))(hi:P.info? e=some i)(hz:i.zero=some z)(hsize:i.size=size)(hby:i.bytes=bytes)(hzs:z.cells.size=size)(hsz:0<size)(v:Value)(n:Nat)(xs:List Value)(hown:w.ownsRow base e size v n xs)(ad:Addr)(m c:Nat)(news:List Value)(hl:news.length=m*size)(hnews:∀j u,news[j]?=some u->w.cell? (ad.add j)=some u)(h1:∀u∈news,u.oneCell'=true)(hm:0<m)(h63:n+m<=maxLen)(hbytes:(n+m)*bytes<=140737488355328)(hbase:base<=w.heap.size):
  ∃g cap w',(Builtin.append_ #[t,t] ty #[v,.slice (some ad) m c]).run P w=.ok (.slice (some ⟨g,0,none⟩) (n+m) cap) w'/\
   w'.ownsRow base e size (.slice (some ⟨g,0,none⟩) (n+m) cap) (n+m) (xs++news)/\w.grownBy w' v.ownBlock/\(v.ownBlock=some g\/g=w.heap.size/\w.grownBy w' none):=by
 obtain⟨g,cap,w',hr,h2,h3,h4,_⟩:=run_append_lies (P:=P) w t ty base e i z size bytes ht hi hz hsize hby hzs hsz v n xs hown ad m c news hl hnews h1 hm h63 hbytes hbase _ rfl;refine⟨g,cap,w',hr,h2,h3,?_⟩;rcases h4 with h4|h4
 ·exact Or.inl h4
 ·refine Or.inr ⟨h4,?_⟩;rcases hown.2 with⟨rfl,_⟩|⟨k,kc,cur,rfl,_,hg,_,_,hcs,_⟩
  ·exact h3
  ·have hlt:k<w.heap.size:=(Array.getElem?_eq_some_iff.1 hg).1;subst hsize;subst hby;by_cases hroom:n+m<=kc
   ·have hfit:n*i.size+news.length<=cur.size:=by rw[hl,hcs,<-Nat.add_mul];exact R0 _ hroom
    have hr2:=run_append_room (P:=P) w t ty e i ht hi k n kc cur hg ad m c news hl hnews h1 hroom hfit;rw[hr]at hr2;injection hr2 with hv _;injection hv with hv _ _;injection hv with hv;injection hv with hv _ _;omega
   ·have hr2:=run_append_grow (P:=P) w t ty e i z ht hi hz ⟨k,0,none⟩ n kc xs hown.1 (hown.cells (g:=k) rfl) ad m c news hl hnews (by omega) (by simp only[maxLen]at h63;omega) (growslice_fits (by omega) hbytes);rw[hr]at hr2;injection hr2 with _ hw;rw[hw];exact⟨rfl,rfl,rfl,by simp,λj hj _=>by first|exact heap_alloc_old w.drew _ j hj|exact heap_alloc_old w.drew _ hj⟩
theorem Np{K:Act->World->Prop}{Q:Exit->Act->World->Prop}(s x:Operand)(t:TypeId)(ho:o.op=.call {callee:=.builtin .append,args:=#[s,x],argTypes:=#[t,t]})(base:Nat)(e:TypeId)(i:TypeInfo)(z:Value)(size bytes:Nat)(ht:P.underlying t=some (.slice e))(hi:P.info? e=some i)(hz:i.zero=some z)(hsize:i.size=size)(hby:i.bytes=bytes)(hzs:z.cells.size=size)(hsz:0<size)(v:Value)(n:Nat)(xs:List Value)(hs:a.eval s=v)(hown:w.ownsRow base e size v n xs)(ad:Addr)(m c:Nat)(news:List Value)(hx:a.eval x=.slice (some ad) m c)(hl:news.length=m*size)(hnews:∀j u,news[j]?=some u->w.cell? (ad.add j)=some u)(h1:∀u∈news,u.oneCell'=true)(hm:0<m)(h63:n+m<=maxLen)(hbytes:(n+m)*bytes<=140737488355328)(hbase:base<=w.heap.size)(h:∀g cap w',w'.ownsRow base e size (.slice (some ⟨g,0,none⟩) (n+m) cap) (n+m) (xs++news)->w.grownBy w' v.ownBlock->(v.ownBlock=some g\/g=w.heap.size/\w.grownBy w' none)->K (a.put o.dst (.slice (some ⟨g,0,none⟩) (n+m) cap)) w'):o.wp P a w K Q:=by
 obtain⟨g,cap,w',hr,h2,h3,h4⟩:=Pv (P:=P) w t o.type base e i z size bytes ht hi hz hsize hby hzs hsz v n xs hown ad m c news hl hnews h1 hm h63 hbytes hbase;unfold Oper.wp execOp;simp only[ho,resolve,invoke,builtin,Q6,Sem.run_pure,Rv,List.map_toArray,QU,List.map_nil,hs,hx,hr];exact h g cap w' h2 h3 h4
theorem nA{ops:Array Oper}{rest:List Oper}{Q:Exit->Act->World->Prop}(hgd:o.guard=none)(s x:Operand)(t:TypeId)(ho:o.op=.call {callee:=.builtin .append,args:=#[s,x],argTypes:=#[t,t]})(base:Nat)(e:TypeId)(i:TypeInfo)(z:Value)(size bytes:Nat)(ht:P.underlying t=some (.slice e))(hi:P.info? e=some i)(hz:i.zero=some z)(hsize:i.size=size)(hby:i.bytes=bytes)(hzs:z.cells.size=size)(hsz:0<size)(v:Value)(n:Nat)(xs:List Value)(hs:a.eval s=v)(hown:w.ownsRow base e size v n xs)(ad:Addr)(m c:Nat)(news:List Value)(hx:a.eval x=.slice (some ad) m c)(hl:news.length=m*size)(hnews:∀j u,news[j]?=some u->w.cell? (ad.add j)=some u)(h1:∀u∈news,u.oneCell'=true)(hm:0<m)(h63:n+m<=maxLen)(hbytes:(n+m)*bytes<=140737488355328)(hbase:base<=w.heap.size)(h:∀g cap w',w'.ownsRow base e size (.slice (some ⟨g,0,none⟩) (n+m) cap) (n+m) (xs++news)->w.grownBy w' v.ownBlock->(v.ownBlock=some g\/g=w.heap.size/\w.grownBy w' none)->wpList P ops Q rest (a.put o.dst (.slice (some ⟨g,0,none⟩) (n+m) cap)) w'):wpList P ops Q (o::rest) a w:=
 wpList_plain hgd λ_ hK=>Np w s x t ho base e i z size bytes ht hi hz hsize hby hzs hsz v n xs hs hown ad m c news hx hl hnews h1 hm h63 hbytes hbase λg cap w' h2 h3 h4=>hK _ _ (h g cap w' h2 h3 h4)
end
theorem Ho{w w':World}{base size n m:Nat}{e:TypeId}{news:List Value}{cap:Nat}(hown:w.ownsRow base e size v n xs)(h2:w'.ownsRow base e size (.slice (some ⟨g,0,none⟩) m cap) m (xs++news))(h4:v.ownBlock=some g\/g=w.heap.size/\w.grownBy w' none):∀k o l c,v=.slice (some ⟨k,o,none⟩) l c->(∃cur,w'.heap[k]?=some (.cells cur e))/\∀j,j<n*size->w'.cell? ⟨k,j,none⟩=w.cell? ⟨k,j,none⟩:=by
 intro k o l c hv;rcases hown.2 with⟨h,_⟩|⟨k',kc,cur,hv',_,hg,_,_,hcs,htk⟩
 ·rw[h]at hv;cases hv
 ·rw[hv']at hv;cases hv;have hk:k<w.heap.size:=(Array.getElem?_eq_some_iff.1 hg).1;rcases h4 with h4|⟨_,h4⟩
  ·rw[hv']at h4;have hkg:k=g:=by simpa[Value.ownBlock] using h4
   subst hkg;refine⟨?_,λj hj=>?_⟩
   ·rcases h2.2 with⟨h,_⟩|⟨_,_,cur',hv2,_,hg2,_⟩
    ·cases h
    ·cases hv2;exact⟨cur',hg2⟩
   ·have e1:=hown.cells (g:=k) (by rw[hv'];rfl) j;have e2:=h2.cells (g:=k) rfl j;have hj1:j<xs.length:=by rw[hown.1];exact hj
    have e3:=e1 xs[j] (by simp[hj1]);have e4:=e2 xs[j] (by simp[List.getElem?_append,hj1]);have hadd:(⟨k,0,none⟩:Addr).add j=⟨k,j,none⟩:=by unfold Addr.add;split<;>simp_all
    rw[hadd]at e3 e4;rw[e3,e4]
  ·exact⟨⟨cur,by rw[h4.block k hk (by simp)];exact hg⟩,λj _=>World.cell?_of_block (a:=⟨k,j,none⟩) (h4.block k hk (by simp))⟩
theorem ew{w:World}{t':TypeId}{c c':Array Value}(h:w.heap[g]?=some (.cells c t))(h':w.heap[g]?=some (.cells c' t')):t=t':=by
 rw[h]at h';injection h' with h';injection h' with _ h'
theorem cZ{w:World}{B n size:Nat}(h:w.ownsRow B t size v n xs){b:Nat}(e:v.ownBlock=some b): ∃cur,w.heap[b]?=some (.cells cur t):=by
 rcases h.2 with⟨h1,_⟩|⟨g,cap,c,hv,_,hh,_⟩
 ·rw[h1]at e;cases e
 ·rw[hv]at e;simp[Value.ownBlock]at e;subst e;exact⟨c,hh⟩
end
end Go.Proofs.YtldmcdeibiclkaaGreatQ
namespace Go.Proofs.YtldmcdeibiclkaaGreatQ
variable {w w1 wr w':World}{S X S':Nat->Prop}{t tv tl:TypeId}{pat xs ys:List Value}{v pv le hv u a:Value}{h k wb g cap B i:Nat}{hs:List Nat}{hb:Value->Array Value}{o:Obj}
open Go.RowKit
theorem aa.IP:(aa.prog.info? 64).map (·.size)=some 64:=by kernel_rfl
theorem HZ(W:World)(cs:List Value)(k:Nat)(v:Value)(hk:k<64)(hv:cs[k]?=some v):(Instr.index 64 (.agg cs.toArray) (.int .i64 k)).run aa.prog W=.ok v W:=by
 have u:=aa.underlying64;have a:=aa.isAgg63;have z:=aa.sizeOf63;have h1:(0:Int)<=(k:Int)/\(k:Int)<64:=by omega
 simp[Instr.index,asIntOf,Q6,Rk u,Rv,h1,z,part,a,hv];intro h;omega
theorem Of(W:World)(m:Nat)(es:Array MapEntry)(clock:Nat)(hm:W.heap[m]?=some (.map es clock)):(Instr.range 63 (.map (some m))).run aa.prog W=.ok (.pointer (some ⟨W.heap.size,0,none⟩)) (W.alloc (.mapIter (some m) clock #[] clock)):=by
 have u:=aa.underlying63;simp[Instr.range,Q6,Rk u,Rv,getObj,newObj,Sem.run,hm]
def p8(W:World)(r:Nat)(es:Array MapEntry):Nat:=
 match W.heap[r]? with
 |some (.mapIter _ _ seen _)=>(leftOf es seen).size
 |_=>0
theorem OS(b num:Nat)(bm:Nat->Nat)(K:aB)(w:World)(h:ba w b bm num K)(hK:dG K)(hbd:∀L:List (List UInt8),L.Nodup->(∀k,eN k∈L->Live K k)->L.length<=1900000000000):
  Calls aa.prog 68 #[.pointer (some ⟨b,0,none⟩)] w λe w'=>∃v' L,e=.returned v'/\iq K 64 L/\w'.ownsRow w.heap.size 9 1 v' L.length (bJ (gH L))/\Below w.heap.size w w':=by
 obtain⟨cs,hcl,hcg⟩: ∃cs:List Value,cs.length=64/\∀n,n<64->cs[n]?=some (.map (some (bm n))):=
  ⟨(List.range 64).map λn=>.map (some (bm n)),by simp,λn hn=>by simp[hn]⟩
 have hra:w.rangeAt b 1 cs:=λj v hv=>by
  have hj:j<64:=by have:=(List.getElem?_eq_some_iff.1 hv).1;omega
  rw[hcg j hj]at hv;rw[<-hv,Ry 1 j];exact h.1.kZ hj
 have hbs:=h.1.lt;have HRa:Hid (w.rangeAt b 1 cs):=hra;have HCg:Hid (∀n,n<64->cs[n]?=some (.map (some (bm n)))):=hcg;have HSz:Hid ((aa.prog.info? 64).map (·.size)=some cs.length):=(by rw[hcl];exact aa.IP)
 have HRep:Hid (ba w b bm num K):=h;have HK:Hid (dG K):=hK;have HBd:Hid _:=hbd;obtain⟨i0,hi0,hz0,hz1,hz2⟩:=QN aa.qJ;have tokL:True:=trivial;clear h hK hbd hra hcg hcl;go_enter aa.func68,aa.ntmps68;go_wp2_with (first
  |(have _t:=tokL;refine wpList_load_mid rfl 64 _ rfl b 1 rfl cs _ HRa.out aa.underlying64 rfl HSz.out ?_;clear tokL))
 go_loopw [3,12] (λks i wr=>∃(n:Nat) (L:List (List UInt8)),n<=64/\i=.int .i64 n/\Hid (iq K n L)/\Hid (wr.ownsRow w.heap.size 9 1 ks L.length (bJ L))/\Hid (Below w.heap.size w wr)) (λ_ i _=>64-(intOf i).toNat)
 case atStart=>exact⟨0,[],by omega,rfl,iq.zero K,QT _ _ _ _,AT _ _⟩
 case round=>
  obtain⟨n,L,hn,rfl,hinv,hown,hbel⟩:=hrel;obtain⟨Wo,hWo⟩: ∃W,W=wr:=⟨_,rfl⟩
  subst hWo;have n0:(0:Int)<=(n:Int):=by omega
  by_cases hlt:n<64
  ·have n64:(n:Int)<64:=by omega
   obtain⟨es,clock,hm,hk,hall,hst⟩:=(HRep.out.below hbel.out).2.1 n hlt;have hix:=λW=>HZ W cs n _ hlt (HCg.out n hlt);have hrg:=Of Wo (bm n) es clock hm;obtain⟨ad,cap,rfl,hcap,hlc⟩:=aZ hown.out;have hmlt:bm n<w.heap.size:=((HRep.out.2.1 n hlt)).lt;generalize bm n=bmn at*;go_wp2;have HM:Hid (Wo.heap[bmn]?=some (.map es clock)):=hm;have HKo:Hid (dA es.toList):=hk;have HAll:Hid (∀s,aI s=n->∃sv,(bp es.toList s).getD ij=bw (K s).1 sv/\aM Wo sv (K s).2):=hall;have HSt:Hid (ie (λk=>aI k=n/\k.size<=281474976710656/\aK k=true) es.toList clock):=hst.1;have HBel:Hid (Below w.heap.size w Wo):=hbel.out;have hrs:=hbel.out.size;have HI0:Hid (iq K n L):=hinv.out;have HO0:Hid (Wo.ownsRow w.heap.size 9 1 (.slice ad L.length cap) L.length (bJ L)):=hown.out;clear hm hk hall hst hbel hinv hown hix hrg;go_loopw [3] (λks wi=>∃(seen:Array Nat) (M:List (List UInt8)),Hid (gx K n es.toList seen M)/\Hid (wi.ownsRow w.heap.size 9 1 ks M.length (bJ M))/\Hid (Below w.heap.size w wi)/\Hid (wi.heap[Wo.heap.size]?=some (.mapIter (some bmn) clock seen clock))) (λ_ wi=>p8 wi Wo.heap.size es)
   case atStart=>exact⟨#[],L,HI0.out.start _,HO0.out.alloc _,HBel.out.alloc hrs _,IS Wo _⟩
   case round=>
    obtain⟨seen,M,hM,hown2,hbel2,hit⟩:=hrel;obtain⟨ad2,cap2,rfl,hcap2,hlc2⟩:=aZ hown2.out;have HO2:Hid (wr.ownsRow w.heap.size 9 1 (.slice ad2 M.length cap2) M.length (bJ M)):=hown2.out;have HB2:Hid (Below w.heap.size w wr):=hbel2.out;have HIt:Hid (wr.heap[Wo.heap.size]?=some (.mapIter (some bmn) clock seen clock)):=hit.out;have HIM:Hid (gx K n es.toList seen M):=hM.out;have HMi:Hid (wr.heap[bmn]?=some (.map es clock)):=(HB2.out.block bmn hmlt).trans ((HBel.out.block bmn hmlt).symm.trans HM.out);have hzB:=HB2.out.size;clear hM hown2 hbel2 hit;rcases run_next_at (P:=aa.prog) wr 0 Wo.heap.size bmn clock clock seen es clock HIt.out HMi.out HSt.out.2.2.1 (AI _) with⟨hzero,hnx⟩|⟨e,he,w1,hw1,hnx⟩
    ·go_wp2;exact⟨⟨n+1,M,by omega,by go_num,HIM.out.done HKo.out HAll.out hzero,HO2.out,HB2.out⟩,by simp[intOf];omega⟩
    ·obtain⟨s,sv,hs,hsn,hsz,hval,hvs⟩:=Oz HKo.out HAll.out HSt.out ((mem_left.1 he).1);obtain⟨adv,capv,rfl,hcapv⟩:=hvs.len;rw[hs,hval]at hnx;have hrlt:Wo.heap.size<wr.heap.size:=(Array.getElem?_eq_some_iff.1 HIt.out).1;obtain⟨W1,hW1⟩: ∃W,W=Go.ChangeMaps.setBlock w1 Wo.heap.size (.mapIter (some bmn) clock (seen.push e.born) clock):=⟨_,rfl⟩
     rw[<-hW1]at hnx;have e1:∀k:Nat,w1.heap[k]?=wr.heap[k]? :=λk=>by rcases hw1 with rfl|rfl<;>rfl
     have hs1:w1.heap.size=wr.heap.size:=by rcases hw1 with rfl|rfl<;>rfl
     have hB1:Below w.heap.size w w1:=by rcases hw1 with rfl|rfl;exact HB2.out;exact HB2.out.drew
     have hit1:W1.heap[Wo.heap.size]?=some (.mapIter (some bmn) clock (seen.push e.born) clock):=by rw[hW1];simp[Go.ChangeMaps.setBlock,hs1,hrlt]
     have hoth:∀k:Nat,k≠Wo.heap.size->W1.heap[k]?=wr.heap[k]? :=λk hk=>by
      rw[hW1,<-e1 k];simp only[Go.ChangeMaps.setBlock,Array.getElem?_setIfInBounds];rw[By (QK hk)]
     have hmi1:W1.heap[bmn]?=some (.map es clock):=(hoth bmn (by omega)).trans HMi.out;have hBW:Below w.heap.size w W1:=⟨by rw[hW1];exact hB1.os,by rw[hW1];exact hB1.tape,by rw[hW1];exact hB1.output,by rw[hW1];simp[Go.ChangeMaps.setBlock,hs1];exact hzB,λk hk=>(hoth k (by omega)).trans (HB2.out.block k hk)⟩
     have HOW:Hid (W1.ownsRow w.heap.size 9 1 (.slice ad2 M.length cap2) M.length (bJ M)):=(by
      refine⟨HO2.out.1,?_⟩;rcases HO2.out.2 with h2|⟨g,cap,cur,hv,hg,hh,rr⟩
      ·exact Or.inl h2
      ·exact Or.inr ⟨g,cap,cur,hv,hg,(hoth g (λe'=>by rw[e',HIt.out]at hh;cases hh)).trans hh,rr⟩)
     have hen:=run_entry_at (P:=aa.prog) W1 Wo.heap.size bmn clock seen es clock e hit1 hmi1 ((mem_left.1 he).1) HSt.out.2.1;rw[hs,hval]at hen;have HIt1:Hid (W1.heap[Wo.heap.size]?=some (.mapIter (some bmn) clock (seen.push e.born) clock)):=hit1;have HBW:Hid (Below w.heap.size w W1):=hBW;have hzW:=hBW.size;have hrW:Wo.heap.size<W1.heap.size:=(Array.getElem?_eq_some_iff.1 hit1).1;have HLess:Hid (∀W,W.heap[Wo.heap.size]?=some (.mapIter (some bmn) clock (seen.push e.born) clock)->p8 W Wo.heap.size es<p8 wr Wo.heap.size es):=λW hW=>by
      unfold p8;rw[hW,HIt.out];exact HY he
     have HE:Hid (e∈(leftOf es seen).toList):=he;have HEs:Hid (e.key=.string s):=hs;have HSn:Hid (aI s=n):=hsn;have HLv:Hid (Live K s↔0<(K s).2.length):=List.length_pos_iff.symm;have hKl:(K s).2.length<=20:=(HK.out s).len;generalize (K s).1=c at*;generalize (K s).2.length=len at*;clear hw1 hW1 e1 hs1 hB1 hit1 hoth hmi1 hBW hval hvs hs he hsn;by_cases hl:0<len
     ·have hl':(0:Int)<(len:Int):=by omega
      have HLive:Hid (Live K s):=HLv.out.2 hl;have HInv:Hid (gx K n es.toList (seen.push e.born) (M++ [eN s])):=HIM.out.live HSt.out.2.1 HSt.out.1 HE.out HEs.out HSn.out HLive.out;have hMl:M.length<=1900000000000:=HBd.out M HIM.out.1 λk hk=>by
       rcases (HIM.out.2 k).1 hk with⟨_,h2⟩|⟨_,h2,_⟩<;>exact h2
      have HEnc:Hid (bJ (M++ [eN s])=bJ M++ [.string s]):=(show bJ (M++ [eN s])=bJ M++ [.string s] by simp[bJ,zo])
      have HNeI:Hid (∀W:World,W.ownsRow w.heap.size 9 1 (.slice ad2 M.length cap2) M.length (bJ M)->W.heap[Wo.heap.size]?=some (.mapIter (some bmn) clock (seen.push e.born) clock)->some Wo.heap.size≠(Value.slice ad2 M.length cap2).ownBlock):=λW hr hi e'=>by
       obtain⟨cur,hc⟩:=cZ hr e'.symm;rw[hi]at hc;cases hc
      go_wp2_with (first
       |(go_at_call 34;refine (nN s _ hsz).mono ?_;rintro e3 w3 ⟨rfl,hb3⟩;have HB3:Hid (Below w.heap.size w w3):=(HBW.out.alloc hzW _).trans (hb3.mono (by simp;omega));have HO3:Hid (w3.ownsRow w.heap.size 9 1 (.slice ad2 M.length cap2) M.length (bJ M)):=cy (HOW.out.alloc _) hb3 (AI _);have HI3:Hid (w3.heap[Wo.heap.size]?=some (.mapIter (some bmn) clock (seen.push e.born) clock)):=dw ((Qx W1 _ _ hrW).trans HIt1.out) hb3;have z3:=HB3.out.size;have r3:Wo.heap.size<w3.heap.size:=(Array.getElem?_eq_some_iff.1 HI3.out).1;clear hb3)
       |(at_builtin;refine QZ _ rfl _ _ _ rfl w.heap.size 9 i0 _ 1 16 aa.underlying27 hi0 hz0 hz1 hz2 rfl (by omega) (.slice ad2 M.length cap2) _ _ rfl (HO3.out.alloc _) ⟨w3.heap.size,0,none⟩ 1 1 [.string s] rfl rfl (QJ (cs:=#[.string s]) (t:=9) (fr:=(0,0)) (IS w3 _)) (by simp[Value.oneCell']) (by omega) (by unfold maxLen;omega) (by omega) (by simp;omega) _ rfl ?_;intro gg capn w4 hown4 hgrow4 hat4 hlt4;have HO4:Hid (w4.ownsRow w.heap.size 9 1 (.slice (some ⟨gg,0,none⟩) (M.length+1) capn) (M.length+1) (bJ M++ [.string s])):=hown4;have HB4:Hid (Below w.heap.size w w4):=kD HO3.out HB3.out z3 hgrow4;have HI4:Hid (w4.heap[Wo.heap.size]?=some (.mapIter (some bmn) clock (seen.push e.born) clock)):=(hgrow4.block Wo.heap.size (by simp;omega) (HNeI.out w3 HO3.out HI3.out)).trans ((Qx w3 _ _ r3).trans HI3.out);clear hown4 hgrow4 hat4 hlt4))
      refine⟨⟨seen.push e.born,M++ [eN s],HInv.out,?_,HB4.out,HI4.out⟩,HLess.out _ HI4.out⟩;show w4.ownsRow _ _ _ _ _ _;rw[HEnc.out,Q2,RQ];exact HO4.out
     ·obtain rfl:len=0:=by omega
      have HInv:Hid (gx K n es.toList (seen.push e.born) M):=HIM.out.dead HSt.out.2.1 HE.out HEs.out (λh=>by have:=HLv.out.1 h;omega);go_wp2;have hX:=λX=>(Qx W1 X _ hrW).trans HIt1.out;exact⟨⟨seen.push e.born,M,HInv.out,HOW.out.alloc _,HBW.out.alloc hzW _,hX _⟩,HLess.out _ (hX _)⟩
  ·obtain rfl:n=64:=by omega
   obtain⟨ad,cap,rfl,hcap,hlc⟩:=aZ hown.out;have HI0:Hid (iq K 64 L):=hinv.out;have HB0:Hid (Below w.heap.size w Wo):=hbel.out;have HO0:Hid (Wo.ownsRow w.heap.size 9 1 (.slice ad L.length cap) L.length (bJ L)):=hown.out;have hLl:L.length<=1900000000000:=HBd.out L hinv.out.1 λk hk=>((hinv.out.2 k).1 hk).2;have HSort:Hid _:=JU w.heap.size (.slice ad L.length cap) L Wo hown.out (by omega);have hz0':=hbel.out.size;clear hinv hbel hown;go_wp2_with (first
    |(go_at_call 91;refine BY HSort.out ?_;rintro e w1 ⟨rfl,hown1,hgrow1⟩;have HO1:Hid (w1.ownsRow w.heap.size 9 1 (.slice ad L.length cap) L.length (bJ (gH L))):=hown1;have HB1:Hid (Below w.heap.size w w1):=lk HO0.out HB0.out hz0' hgrow1;clear hown1 hgrow1))
   go_ret;exact⟨_,L,rfl,HI0.out,HO1.out,HB1.out⟩
structure PG where
 b:Nat
 bm:Nat->Nat
 num:Nat
 K:aB
 rb:Nat
 sv:Value
 l:List aC
structure bH(w:World)(g:PG):Prop where
 rep:ba w g.b g.bm g.num g.K
 dW:bK w g.rb g.num g.sv g.l g.K
 inv:dG g.K
 num:g.num<4
def Apart(g g':PG):Prop:=(∀n m,n<64->m<64->g.bm n≠g'.bm m)/\g.rb≠g'.rb
def dL(w:World)(t:TypeId)(pat:List Value)(S:Nat->Prop)(v:Value):Prop:=
 ∃ad n cap,v=.slice ad n cap/\n<=2000000000000/\(n=0\/∃g cur,ad=some ⟨g,0,none⟩/\S g/\w.heap[g]?=some (.cells cur t)/\∀i j,i<n->j<pat.length->cur[i*pat.length+j]?=pat[j]?)
theorem dL.frame(h:dL w t pat S v)(hF:Fr X w w1)(hS:∀g cur,S g->w.heap[g]?=some (.cells cur t)->¬X g):dL w1 t pat S v:=by
 obtain⟨ad,n,cap,e,hn,h⟩:=h;refine⟨ad,n,cap,e,hn,?_⟩;rcases h with h|⟨g,cur,e1,e2,e3,e4⟩
 ·exact Or.inl h
 ·exact Or.inr ⟨g,cur,e1,e2,hF.heap e3 (hS g cur e2 e3),e4⟩
theorem dL.weaken(h:dL w t pat S v)(hS:∀g,g<w.heap.size->S g->S' g):dL w t pat S' v:=by
 obtain⟨ad,n,cap,e,hn,h⟩:=h;refine⟨ad,n,cap,e,hn,?_⟩;rcases h with h|⟨g,cur,e1,e2,e3,e4⟩
 ·exact Or.inl h
 ·exact Or.inr ⟨g,cur,e1,hS g (Array.getElem?_eq_some_iff.1 e3).1 e2,e3,e4⟩
abbrev eH(m:ByteArray):List Value:=[.int .i64 0,.int .i64 0,.string m]
abbrev eM(m:ByteArray):List Value:=[.string m]
def cT(w:World)(h:Nat)(S:Nat->Prop):Prop:=
 ∃(vs ts:Value) (m:ByteArray) (vl tl:List Value),w.heap[h]?=some (.cells #[vs,ts,.string m] 110)/\m.size<=4/\w.ownsRow 0 67 1 vs vl.length vl/\w.ownsRow 0 27 1 ts tl.length tl/\vl.length<=9/\tl.length<=9/\
  (∀v∈vl,dL w 88 (eH m) S v)/\∀v∈tl,dL w 9 (eM m) S v
theorem cT.frame(H:cT w h S)(hF:Fr X w w1)(hh: ¬X h)(hv:∀g cur,w.heap[g]?=some (.cells cur 67)->¬X g)(ht:∀g cur,w.heap[g]?=some (.cells cur 27)->¬X g)(hS:∀g cur,S g->w.heap[g]?=some (.cells cur 88)->¬X g)(hS':∀g cur,S g->w.heap[g]?=some (.cells cur 9)->¬X g):cT w1 h S:=by
 obtain⟨vs,ts,m,vl,tl,h1,h2,h3,h4,h5,h6,h7,h8⟩:=H;exact⟨vs,ts,m,vl,tl,hF.heap h1 hh,h2,hF.dq h3 hv,hF.dq h4 ht,h5,h6,λv hv=>(h7 v hv).frame hF hS,λv hv=>(h8 v hv).frame hF hS'⟩
theorem cT.weaken(H:cT w h S)(hS:∀g,g<w.heap.size->S g->S' g):cT w h S':=by
 obtain⟨vs,ts,m,vl,tl,h1,h2,h3,h4,h5,h6,h7,h8⟩:=H;exact⟨vs,ts,m,vl,tl,h1,h2,h3,h4,h5,h6,λv hv=>(h7 v hv).weaken hS,λv hv=>(h8 v hv).weaken hS⟩
theorem cT.typed(H:cT w h S): ∃cur,w.heap[h]?=some (.cells cur 110):=by
 obtain⟨vs,ts,m,vl,tl,h1,_⟩:=H;exact⟨_,h1⟩
theorem dL.and(h:dL w t pat S v)(h':dL w t pat S' v):dL w t pat (λg=>S g/\S' g) v:=by
 obtain⟨ad,n,cap,e,hn,h⟩:=h;obtain⟨ad',n',cap',e',_,h'⟩:=h';rw[e]at e';cases e';refine⟨ad,n,cap,e,hn,?_⟩;rcases h with h|⟨g,cur,e1,e2,e3,e4⟩
 ·exact .inl h
 ·rcases h' with h'|⟨g',cur',e1',e2',_,_⟩
  ·exact .inl h'
  ·rw[e1]at e1';cases e1';exact .inr ⟨g,cur,e1,⟨e2,e2'⟩,e3,e4⟩
theorem yS{n n' size:Nat}(h:w.ownsRow B t size v n xs)(h':w.ownsRow B t size v n' ys):xs=ys:=by
 have hn:n=n':=by
  obtain⟨ad,cap,e,_⟩:=aZ h;obtain⟨ad',cap',e',_⟩:=aZ h';rw[e]at e';cases e';rfl
 subst hn;rcases h.2 with⟨h1,h2⟩|⟨g,cap,cur,hv,_,hh,_,_,hs,ht⟩
 ·have l1:=h.1;have l2:=h'.1;rw[h2,Nat.zero_mul]at l1 l2;rw[List.length_eq_zero_iff.1 l1,List.length_eq_zero_iff.1 l2]
 ·rcases h'.2 with⟨h1,h2⟩|⟨g',cap',cur',hv',_,hh',_,_,hs',ht'⟩
  ·have l1:=h.1;have l2:=h'.1;rw[h2,Nat.zero_mul]at l1 l2;rw[List.length_eq_zero_iff.1 l1,List.length_eq_zero_iff.1 l2]
  ·rw[hv]at hv';cases hv';rw[hh]at hh';cases hh';rw[<-ht,<-ht']
theorem cT.and(H:cT w h S)(H':cT w h S'):cT w h λg=>S g/\S' g:=by
 obtain⟨vs,ts,m,vl,tl,h1,h2,h3,h4,h5,h6,h7,h8⟩:=H;obtain⟨vs',ts',m',vl',tl',g1,g2,g3,g4,g5,g6,g7,g8⟩:=H';rw[h1]at g1;cases g1;cases yS h3 g3;cases yS h4 g4;exact⟨vs,ts,m,vl,tl,h1,h2,h3,h4,h5,h6,λv hv=>(h7 v hv).and (g7 v hv),λv hv=>(h8 v hv).and (g8 v hv)⟩
def cS(b:Nat):Value:=.pointer (some ⟨b,0,none⟩)
def dR(g:PG):List Value:=[cS g.b,cS g.rb]
structure bu(w:World)(wb:Nat)(pv le hv:Value)(gs:List PG)(hs:List Nat):Prop where
 blk:w.heap[wb]?=some (.cells #[pv,le,hv] 30)
 fJ:w.ownsRow 0 47 2 pv gs.length (gs.flatMap dR)
 aF:w.ownsRow 0 61 1 hv hs.length (hs.map cS)
 bL:∀g∈gs,bH w g
 apart:∀i j (hi:i<gs.length) (hj:j<gs.length),i≠j->Apart gs[i] gs[j]
 holds:∀h∈hs,cT w h λ_=>True
 kS: ∃ls:List ByteArray,w.ownsRow 0 9 1 le ls.length (ls.map Value.string)
 free:∀k,le.ownBlock=some k->∀h∈hs,cT w h λg=>g≠k
theorem bH.frame{g:PG}(h:bH w g)(hF:Fr X w w1)(hb: ¬X g.b)(hm:∀n,n<64->¬X (g.bm n))(hr: ¬X g.rb)(hv:∀k cur,w.heap[k]?=some (.cells cur 117)->¬X k)(hk:∀k cur,w.heap[k]?=some (.cells cur 82)->¬X k)(ha:∀k cur,w.heap[k]?=some (.cells cur 88)->¬X k):bH w1 g:=
 ⟨hF.rep h.rep hb hm hv,h.dW.frame hF hr hk λs k o m c e=>by
  obtain⟨cur,hh⟩:=nD (h.dW.at_ s).2 k o m c e;exact ha k cur hh,h.inv,h.num⟩
theorem bH.below{g:PG}(h:bH w g)(hb:Below w.heap.size w w1):bH w1 g:=⟨h.rep.below hb,h.dW.below hb,h.inv,h.num⟩
theorem cT.below(H:cT w h S)(hb:Below w.heap.size w w1):cT w1 h S:=
 H.frame (X:=λ_=>False) (Fr.bR hb) (λh=>h) (λ_ _ _ h=>h) (λ_ _ _ h=>h) (λ_ _ _ _ h=>h) (λ_ _ _ _ h=>h)
theorem bu.below{gs:List PG}(h:bu w wb pv le hv gs hs)(hb:Below w.heap.size w w1):bu w1 wb pv le hv gs hs:=
 ⟨dw h.blk hb,(Fr.bR (X:=λ_=>False) hb).dq h.fJ λ_ _ _ h=>h,(Fr.bR (X:=λ_=>False) hb).dq h.aF λ_ _ _ h=>h,λg hg=>(h.bL g hg).below hb,h.apart,λk hk=>(h.holds k hk).below hb,h.kS.imp λls hl=>(Fr.bR (X:=λ_=>False) hb).dq hl λ_ _ _ h=>h,λk e h' hh=>(h.free k e h' hh).below hb⟩
theorem bH.kinds{g:PG}(h:bH w g):(∃A,w.heap[g.b]?=some (.cells A 66))/\(∀n,n<64->∃es c,w.heap[g.bm n]?=some (.map es c))/\∃A,w.heap[g.rb]?=some (.cells A 45):=by
 obtain⟨A,h1,_⟩:=h.rep.1;refine⟨⟨A,h1⟩,λn hn=>?_,⟨_,h.dW.ref.1⟩⟩;obtain⟨es,c,h2,_⟩:=h.rep.2.1 n hn;exact⟨es,c,h2⟩
theorem Fz(gs:List PG)(i:Nat)(hi:i<gs.length)(g':PG)(hb:g'.b=gs[i].b)(hr:g'.rb=gs[i].rb):(gs.set i g').flatMap dR=gs.flatMap dR:=by
 have e:dR g'=dR gs[i]:=by simp[dR,hb,hr]
 rw[List.flatMap_def,List.flatMap_def,List.map_set,e];congr 1;have:dR gs[i]=(gs.map dR)[i]'(by simpa using hi):=by simp
 rw[this];exact List.set_getElem_self _
theorem Ah{α:Type}{l:List α}{a x:α}(h:x∈l.set i a):x=a\/∃j,∃hj:j<l.length,j≠i/\x=l[j]:=by
 obtain⟨j,hj,rfl⟩:=List.mem_iff_getElem.1 h;rw[List.length_set]at hj;by_cases e:i=j
 ·subst e;left;simp
 ·right;exact⟨j,hj,λe'=>e e'.symm,by simp[List.getElem_set,e]⟩
theorem bu.upd{gs:List PG}(h:bu w wb pv le hv gs hs)(i:Nat)(hi:i<gs.length)(g':PG)(hb:g'.b=gs[i].b)(hbm:g'.bm=gs[i].bm)(hrb:g'.rb=gs[i].rb)(hp:bH w' g')(hF:Fr (λk=>(∃n,n<64/\k=gs[i].bm n)\/k=gs[i].rb) w w'):bu w' wb pv le hv (gs.set i g') hs:=by
 obtain⟨kb,km,kr⟩:=(h.bL gs[i] (OF hi)).kinds;have hX:∀k t cur,w.heap[k]?=some (.cells cur t)->t≠45->¬((∃n,n<64/\k=gs[i].bm n)\/k=gs[i].rb):=by
  rintro k t cur hk ht (⟨n,hn,e⟩|e)
  ·obtain⟨es,c,hm⟩:=km n hn;rw[e,hm]at hk;cases hk
  ·obtain⟨A,hA⟩:=kr;rw[e,hA]at hk;injection hk with hk;injection hk with _ hk;exact ht hk.symm
 refine⟨hF.heap h.blk (hX _ _ _ h.blk (by decide)),?_,hF.dq h.aF λk cur hk=>hX k _ cur hk (by decide),λg hg=>?_,λj k hj hk hne=>?_,λk hk=>?_,h.kS.imp λls hl=>hF.dq hl λk cur hk=>hX k _ cur hk (by decide),λk e h' hh=>by
  obtain⟨cur,ht⟩:=(h.holds h' hh).typed;exact (h.free k e h' hh).frame hF (hX _ _ _ ht (by decide)) (λg cur hg=>hX g _ cur hg (by decide)) (λg cur hg=>hX g _ cur hg (by decide)) (λg cur _ hg=>hX g _ cur hg (by decide)) (λg cur _ hg=>hX g _ cur hg (by decide))⟩
 ·rw[Fz gs i hi g' hb hrb,List.length_set];exact hF.dq h.fJ λk cur hk=>hX k _ cur hk (by decide)
 ·rcases Ah hg with rfl|⟨j,hj,hne,rfl⟩
  ·exact hp
  ·have hpj:=h.bL gs[j] (OF hj);obtain⟨⟨A,jb⟩,jm,⟨C,jr⟩⟩:=hpj.kinds;obtain⟨a1,a2⟩:=h.apart j i hj hi hne;refine hpj.frame hF (hX _ _ _ jb (by decide)) (λn hn=>?_) ?_ (λk cur hk=>hX k _ cur hk (by decide)) (λk cur hk=>hX k _ cur hk (by decide)) (λk cur hk=>hX k _ cur hk (by decide))
   ·rintro (⟨m,hm,e⟩|e)
    ·exact a1 n m hn hm e
    ·obtain⟨es,c,hm⟩:=jm n hn;obtain⟨A',hA⟩:=kr;rw[e,hA]at hm;cases hm
   ·rintro (⟨m,hm,e⟩|e)
    ·obtain⟨es,c,hm⟩:=km m hm;rw[e,hm]at jr;cases jr
    ·exact a2 e
 ·rw[List.length_set]at hj hk;rw[List.getElem_set,List.getElem_set];by_cases ej:i=j
  ·by_cases ek:i=k
   ·exact absurd (ej.symm.trans ek) hne
   ·rw[IN ej,By ek];obtain⟨q1,q2⟩:=h.apart i k hi hk ek;exact⟨by rw[hbm];exact q1,by rw[hrb];exact q2⟩
  ·by_cases ek:i=k
   ·rw[By ej,IN ek];obtain⟨q1,q2⟩:=h.apart j i hj hi (λe=>ej e.symm);exact⟨by rw[hbm];exact q1,by rw[hrb];exact q2⟩
   ·rw[By ej,By ek];exact h.apart j k hj hk hne
 ·obtain⟨cur,ht⟩:=(h.holds k hk).typed;exact (h.holds k hk).frame hF (hX _ _ _ ht (by decide)) (λg cur hg=>hX g _ cur hg (by decide)) (λg cur hg=>hX g _ cur hg (by decide)) (λg cur _ hg=>hX g _ cur hg (by decide)) (λg cur _ hg=>hX g _ cur hg (by decide))
theorem bH.Ns{g:PG}(h:bH w g)(hF:Fr X w w1)(hb: ¬X g.b)(hm:∀n,n<64->¬X (g.bm n))(hr: ¬X g.rb)(hv:∀k cur,w.heap[k]?=some (.cells cur 117)->¬X k)(hk:∀k cur,w.heap[k]?=some (.cells cur 82)->¬X k)(ha:∀s k o m c,(bA g.l s).2.2=.slice (some ⟨k,o,none⟩) m c->¬X k):bH w1 g:=
 ⟨hF.rep h.rep hb hm hv,h.dW.frame hF hr hk ha,h.inv,h.num⟩
structure eI(S:Nat->Prop)(w:World)(wb:Nat)(pv le hv:Value)(gs:List PG)(hs:List Nat):Prop where
 law:bu w wb pv le hv gs hs
 holds:∀h∈hs,cT w h S
 refs:∀g∈gs,∀s k o m c,(bA g.l s).2.2=.slice (some ⟨k,o,none⟩) m c->S k
 lets:∀k,le.ownBlock=some k->S k
theorem bu.BE{gs:List PG}(h:bu w wb pv le hv gs hs):eI (λk=>k<w.heap.size) w wb pv le hv gs hs:=
 ⟨h,λk hk=>(h.holds k hk).weaken λg hg _=>hg,λg hg s k o m c e=>by
  obtain⟨cur,hh⟩:=nD ((h.bL g hg).dW.at_ s).2 k o m c e;exact (Array.getElem?_eq_some_iff.1 hh).1,λk e=>by
  obtain⟨ls,hl⟩:=h.kS;obtain⟨cur,hc⟩:=cZ hl e;exact (Array.getElem?_eq_some_iff.1 hc).1⟩
theorem eI.below{gs:List PG}(h:eI S w wb pv le hv gs hs)(hb:Below w.heap.size w w1):eI S w1 wb pv le hv gs hs:=
 ⟨h.law.below hb,λk hk=>(h.holds k hk).below hb,h.refs,h.lets⟩
theorem eI.held{hv':Value}{gs:List PG}(H:eI S w wb pv le hv gs hs)(S':Nat->Prop)(hSS:∀k,S k->S' k)(hblk:w'.heap[wb]?=some (.cells #[pv,le,hv'] 30))(aF:w'.ownsRow 0 61 1 hv' (hs++ [h]).length ((hs++ [h]).map cS))(N:Nat->Prop)(hN:∀k,N k->S' k)(hNl:∀k,N k->¬S k\/w.heap.size<=k)(hnew:cT w' h N)(hF:Fr X w w')(hX:∀k,X k->(∃cur,w.heap[k]?=some (.cells cur 30))\/(∃cur,w.heap[k]?=some (.cells cur 61))\/¬S k/\((∃cur,w.heap[k]?=some (.cells cur 88))\/∃cur,w.heap[k]?=some (.cells cur 9))):eI S' w' wb pv le hv' gs (hs++ [h]):=by
 have hT:∀k t cur,w.heap[k]?=some (.cells cur t)->t≠30->t≠61->t≠88->t≠9->¬X k:=by
  intro k t cur hk t1 t2 t3 t4 hx;rcases hX k hx with⟨c,hc⟩|⟨c,hc⟩|⟨_,⟨c,hc⟩|⟨c,hc⟩⟩<;>rw[hc]at hk<;>injection hk with hk<;>injection hk with _ hk
  ·exact t1 hk.symm
  ·exact t2 hk.symm
  ·exact t3 hk.symm
  ·exact t4 hk.symm
 have hM:∀k es c,w.heap[k]?=some (.map es c)->¬X k:=by
  intro k es c hk hx;rcases hX k hx with⟨c,hc⟩|⟨c,hc⟩|⟨_,⟨c,hc⟩|⟨c,hc⟩⟩<;>rw[hc]at hk<;>cases hk
 have hS:∀k t cur,S k->w.heap[k]?=some (.cells cur t)->t≠30->t≠61->¬X k:=by
  intro k t cur hs hk t1 t2 hx;rcases hX k hx with⟨c,hc⟩|⟨c,hc⟩|⟨hn,_⟩
  ·rw[hc]at hk;injection hk with hk;injection hk with _ hk;exact t1 hk.symm
  ·rw[hc]at hk;injection hk with hk;injection hk with _ hk;exact t2 hk.symm
  ·exact hn hs
 have hp:∀g∈gs,bH w' g:=λg hg=>by
  obtain⟨⟨A,kb⟩,km,⟨C,kr⟩⟩:=(H.law.bL g hg).kinds;refine (H.law.bL g hg).Ns hF (hT _ _ _ kb (by decide) (by decide) (by decide) (by decide)) (λn hn=>?_) (hT _ _ _ kr (by decide) (by decide) (by decide) (by decide)) (λk cur hk=>hT k _ cur hk (by decide) (by decide) (by decide) (by decide)) (λk cur hk=>hT k _ cur hk (by decide) (by decide) (by decide) (by decide)) λs k o m c e=>?_
  ·obtain⟨es,c,hm⟩:=km n hn;exact hM _ es c hm
  ·obtain⟨cur,hh⟩:=nD ((H.law.bL g hg).dW.at_ s).2 k o m c e;exact hS k _ cur (H.refs g hg s k o m c e) hh (by decide) (by decide)
 have hg0:∀k∈hs,∀Z:Nat->Prop,cT w k Z->cT w' k λg=>S g/\Z g:=λk hk Z hZ=>by
  obtain⟨cur,ht⟩:=(H.holds k hk).typed;exact ((H.holds k hk).and hZ).frame hF (hT _ _ _ ht (by decide) (by decide) (by decide) (by decide)) (λg cur hg=>hT g _ cur hg (by decide) (by decide) (by decide) (by decide)) (λg cur hg=>hT g _ cur hg (by decide) (by decide) (by decide) (by decide)) (λg cur hs hg=>hS g _ cur hs.1 hg (by decide) (by decide)) (λg cur hs hg=>hS g _ cur hs.1 hg (by decide) (by decide))
 have hh:∀k∈hs,cT w' k S':=λk hk=>(hg0 k hk _ (H.holds k hk)).weaken λg _ hg=>hSS g hg.1;have hall:∀k∈hs++ [h],cT w' k S':=λk hk=>by
  rcases List.mem_append.1 hk with hk|hk
  ·exact hh k hk
  ·rw[Q5]at hk;rw[hk];exact hnew.weaken λg _ hg=>hN g hg
 exact⟨⟨hblk,hF.dq H.law.fJ λk cur hk=>hT k _ cur hk (by decide) (by decide) (by decide) (by decide),aF,hp,H.law.apart,λk hk=>(hall k hk).weaken λ_ _ _=>trivial,H.law.kS.imp λls hl=>hF.row hl λg o l c e=>by
  obtain⟨cur,hc⟩:=nD hl g o l c e;exact hS g _ cur (H.lets g (by rw[e];rfl)) hc (by decide) (by decide),λk e h' hh'=>by
  rcases List.mem_append.1 hh' with hh'|hh'
  ·exact (hg0 h' hh' _ (H.law.free k e h' hh')).weaken λg _ hg=>hg.2
  ·rw[Q5]at hh';rw[hh'];refine hnew.weaken λg _ hg e'=>?_;obtain⟨ls,hl⟩:=H.law.kS;obtain⟨cur,hc⟩:=cZ hl e;have hlt:=(Array.getElem?_eq_some_iff.1 hc).1;rcases hNl g hg with h1|h1
   ·exact h1 (e' ▸ H.lets k e)
   ·omega⟩,hall,λg hg s k o m c e=>hSS k (H.refs g hg s k o m c e),λk e=>hSS k (H.lets k e)⟩
theorem aa.DX:(aa.prog.info? 61).map (λi=>(i.zero,i.size,i.bytes))=some (some (.pointer none),1,8):=by kernel_rfl
def AQ(x:Int):ByteArray:=strOfNums [35,x%256,x / 256%256,x / 65536%256]
theorem KJ(x:Int):(AQ x).size<=4:=by simp[AQ,strOfNums,ByteArray.size]
theorem NQ(W:World)(a x y z:Int):(convert 124 9 (.slice (some ⟨W.heap.size,0,none⟩) 4 4)).run aa.prog (W.alloc (.cells #[.int .u8 a,.int .u8 x,.int .u8 y,.int .u8 z] 5))=.ok (.string (strOfNums [a,x,y,z])) (W.alloc (.cells #[.int .u8 a,.int .u8 x,.int .u8 y,.int .u8 z] 5)):=
 run_convert_bytes_arg (P:=aa.prog) _ 124 5 aa.underlying124 aa.underlying5 W.heap.size 0 4 4 [a,x,y,z] rfl (λj hj=>by
  have hj':j<4:=by simpa using hj
  rw[(aj (IS W (.cells #[.int .u8 a,.int .u8 x,.int .u8 y,.int .u8 z] 5))).1];rcases (show j=0\/j=1\/j=2\/j=3 by omega) with rfl|rfl|rfl|rfl<;>rfl) 9 aa.underlying9
theorem kG{n size:Nat}{t':TypeId}{cur:Array Value}(h:w.ownsRow B t size v n xs)(hk:w.heap[k]?=some (.cells cur t'))(hne:t≠t'):some k≠v.ownBlock:=by
 intro e;rcases h.2 with⟨h1,_⟩|⟨g,cap,c,hv,_,hh,_⟩
 ·rw[h1]at e;cases e
 ·rw[hv]at e;simp[Value.ownBlock]at e;rw[<-e,hk]at hh;injection hh with hh;injection hh with _ hh;exact hne hh.symm
theorem Jj(hs:List Nat)(h:Nat):(hs++ [h]).map cS=hs.map cS++ [.pointer (some ⟨h,0,none⟩)]:=by simp[cS]
theorem Bi(wb:Nat)(pv lv hv:Value)(hs:List Nat)(w:World)(hblk:w.heap[wb]?=some (.cells #[pv,lv,hv] 30))(aF:w.ownsRow 0 61 1 hv hs.length (hs.map cS))(hlen:hs.length<=9000000000000):
  Calls aa.prog 67 #[.pointer (some ⟨wb,0,none⟩)] w λe w'=>∃(h:Nat) (m:ByteArray) (hv':Value),e=.returned (cS h)/\m.size<=4/\w.heap.size<=h/\w'.heap[h]?=some (.cells #[.slice none 0 0,.slice none 0 0,.string m] 110)/\w'.heap[wb]?=some (.cells #[pv,lv,hv'] 30)/\
   w'.ownsRow 0 61 1 hv' (hs++ [h]).length ((hs++ [h]).map cS)/\Fr (λk=>k=wb\/hv.ownBlock=some k) w w'/\∀k,hv'.ownBlock=some k->hv.ownBlock=some k\/w.heap.size<=k:=by
 obtain⟨ad,cap,rfl,hcap,hlc⟩:=aZ aF;obtain⟨i0,hi0,hz0,hz1,hz2⟩:=QN aa.DX;have hwb:wb<w.heap.size:=(Array.getElem?_eq_some_iff.1 hblk).1;have HB:Hid (w.heap[wb]?=some (.cells #[pv,lv,.slice ad hs.length cap] 30)):=hblk;have HR:Hid (w.ownsRow 0 61 1 (.slice ad hs.length cap) hs.length (hs.map cS)):=aF;have hc:=aj hblk;have hc2:w.cell? ⟨wb,2,none⟩=some (.slice ad hs.length cap):=by rw[hc.1];rfl
 have hf2:w.frozen? ⟨wb,2,none⟩=false:=hc.2 2;have hl0:(0:Int)<=(hs.length:Int):=by omega
 have hcv:=NQ w 35 ((hs.length:Int)%256) ((hs.length:Int) / 256%256) ((hs.length:Int) / 65536%256);have Hm4:Hid ((strOfNums [35,(hs.length:Int)%256,(hs.length:Int) / 256%256,(hs.length:Int) / 65536%256]).size<=4):=KJ _;generalize strOfNums [35,(hs.length:Int)%256,(hs.length:Int) / 256%256,(hs.length:Int) / 65536%256]=m at*;have HNe:Hid (some wb≠(Value.slice ad hs.length cap).ownBlock):=kG aF hblk (by decide);have HNe2:Hid (∀k,w.heap.size<=k->some k≠(Value.slice ad hs.length cap).ownBlock):=λk hk e=>by
  have:=(aF.lt k e.symm).2;omega
 have HT:Hid (∀A B C,(((w.alloc A).alloc B).alloc C).heap[w.heap.size+1+1]?=some C):=λA B C=>by
  have:=IS ((w.alloc A).alloc B) C;simpa using this
 have HBw:Hid (∀A B C,(((w.alloc A).alloc B).alloc C).heap[wb]?=some (.cells #[pv,lv,.slice ad hs.length cap] 30)):=λA B C=>by
  rw[Qx _ _ _ (by simp;omega),Qx _ _ _ (by simp;omega),Qx _ _ _ hwb];exact hblk
 clear hblk aF hc;go_enter aa.func67,aa.ntmps67;go_wp2_with (first
  |(at_builtin;refine QZ _ rfl _ _ _ rfl 0 61 i0 _ 1 8 aa.underlying28 hi0 hz0 hz1 hz2 rfl (by omega) (.slice ad hs.length cap) _ _ rfl (((HR.out.alloc _).alloc _).alloc _) ⟨w.heap.size+1+1,0,none⟩ 1 1 [.pointer (some ⟨w.heap.size+1,0,none⟩)] rfl rfl (QJ (cs:=#[.pointer (some ⟨w.heap.size+1,0,none⟩)]) (t:=61) (fr:=(0,0)) (HT.out _ _ _)) (by simp[Value.oneCell']) (by omega) (by unfold maxLen;omega) (by omega) (QQ _) _ rfl ?_;intro gg capn w4 hown4 hgrow4 hat4 hlt4;have HO4:Hid (w4.ownsRow 0 61 1 (.slice (some ⟨gg,0,none⟩) (hs.length+1) capn) (hs.length+1) (hs.map cS++ [.pointer (some ⟨w.heap.size+1,0,none⟩)])):=hown4;have HG4:Hid _:=hgrow4;have hb4:=(HG4.out.block wb (by simp;omega) HNe.out).trans (HBw.out _ _ _);obtain⟨c4,f4⟩:=aj hb4;have hc4:=c4 2;have hf4:=f4 2;have Hb4:Hid _:=hb4;have HA4:Hid ((Value.slice ad hs.length cap).ownBlock=some gg\/gg=(((w.alloc _).alloc _).alloc _).heap.size):=hat4;clear hown4 hgrow4 hat4 hlt4 hb4 c4 f4))
 go_ret;have hz:=HG4.out.size;simp only[cA]at hz;refine⟨w.heap.size+1,m,.slice (some ⟨gg,0,none⟩) (hs.length+1) capn,rfl,Hm4.out,by omega,?_,?_,?_,?_,?_⟩
 ·rw[Re _ _ _ _ (show w.heap.size+1≠wb by omega),HG4.out.block (w.heap.size+1) (by simp) (HNe2.out _ (by omega)),Qx _ _ _ (by simp)]
  have:=IS (w.alloc (.cells #[.int .u8 35,.int .u8 ((hs.length:Int)%256),.int .u8 ((hs.length:Int) / 256%256),.int .u8 ((hs.length:Int) / 65536%256)] 5)) (.cells #[.slice none 0 0,.slice none 0 0,.string m] 110);simpa using this
 ·rw[heap_set Hb4.out];rfl
 ·rw[Jj,Q2,RQ];refine (Fr.setCell (X:=λk=>k=wb) (Fr.refl _ _) (Or.inr rfl) _).dq HO4.out λg cur hg e=>?_;have e':g=wb:=e;rw[e',Hb4.out]at hg;exact absurd hg (by simp)
 ·exact Fr.setCell (X:=λk=>k=wb\/(Value.slice ad hs.length cap).ownBlock=some k) ((((Fr.refl _ w).alloc _).alloc _).alloc _|>.grown HG4.out λk e _=>Or.inr e) (Or.inr (Or.inl rfl)) _
 ·intro k e;have e':gg=k:=by simpa[Value.ownBlock] using e
  subst e';rcases HA4.out with h4|h4
  ·exact Or.inl h4
  ·right;rw[h4];simp;omega
def dC(w:World)(t:TypeId)(pat:List Value)(v:Value)(n k:Nat):Prop:=
 ∃ys,w.ownsRow 0 t pat.length v n ys/\∀i j,i<k->j<pat.length->ys[i*pat.length+j]?=pat[j]?
theorem qE{j n p:Nat}(hi:i<n)(hj:j<p):i*p+j<n*p:=by
 have:(i+1)*p<=n*p:=R0 _ hi;rw[Nat.add_mul,Nat.one_mul]at this;omega
theorem dC.mk{n:Nat}(h:dC w t pat v n n)(hn:n<=2000000000000)(hS:∀b,v.ownBlock=some b->S b):dL w t pat S v:=by
 obtain⟨ys,⟨hl,h⟩,hy⟩:=h;rcases h with⟨rfl,rfl⟩|⟨g,cap,cur,rfl,_,hh,_,_,_,ht⟩
 ·exact⟨none,0,0,rfl,by omega,Or.inl rfl⟩
 ·refine⟨some ⟨g,0,none⟩,n,cap,rfl,hn,Or.inr ⟨g,cur,rfl,hS g rfl,hh,λi j hi hj=>?_⟩⟩;rw[<-hy i j hi hj,<-ht,List.getElem?_take,IN (qE hi hj)];simp
theorem dC.form{n:Nat}(h:dC w t pat v n k): ∃ad cap,v=.slice ad n cap/\n<=cap/\cap<=maxLen:=by
 obtain⟨ys,⟨hl,h⟩,hy⟩:=h;rcases h with⟨rfl,rfl⟩|⟨g,cap,cur,rfl,_,hh,h1,h2,_,ht⟩
 ·exact⟨none,0,rfl,AI _,QQ _⟩
 ·exact⟨_,cap,rfl,h1,h2⟩
theorem dC.frame{n:Nat}(h:dC w t pat v n k)(hF:Fr X w w1)(hX:∀g cur,w.heap[g]?=some (.cells cur t)->¬X g):dC w1 t pat v n k:=by
 obtain⟨ys,h,hy⟩:=h;exact⟨ys,hF.dq h hX,hy⟩
theorem dC.zp{n:Nat}(h:w.ownsRow 0 t pat.length v n xs):dC w t pat v n 0:=⟨xs,h,λi j hi=>absurd hi (by omega)⟩
theorem dC.Py{b c:Value}{n:Nat}(h:dC w t [a,b,c] (.slice (some ⟨g,0,none⟩) n cap) n k)(hk:k<n):
  dC (((w.setCell ⟨g,k*3,none⟩ a).setCell ⟨g,k*3+1,none⟩ b).setCell ⟨g,k*3+2,none⟩ c) t [a,b,c] (.slice (some ⟨g,0,none⟩) n cap) n (k+1):=by
 obtain⟨ys,⟨hl,h⟩,hy⟩:=h;rcases h with⟨h,_⟩|⟨g',cap',cur,hv,hb,hh,h1,h2,hs,ht⟩
 ·cases h
 ·cases hv;have hh':=uZ (x:=a) (y:=b) (z:=c) (o:=k*3) hh;have hle:n*3<=cur.size:=by rw[hs];exact R0 _ h1
  have hN:(((cur.setIfInBounds (k*3) a).setIfInBounds (k*3+1) b).setIfInBounds (k*3+2) c).size=cap*3:=by simpa using hs
  refine⟨((((cur.setIfInBounds (k*3) a).setIfInBounds (k*3+1) b).setIfInBounds (k*3+2) c).toList).take (n*3),⟨?_,Or.inr ⟨g,cap,_,rfl,hb,hh',h1,h2,hN,rfl⟩⟩,λi j hi hj=>?_⟩
  ·rw[RS,RG,hN];have:n*3<=cap*3:=R0 _ h1;simp only[QH,QY];omega
  ·have hj3:j<3:=by simpa using hj
   have hlt:i*3+j<n*3:=qE (by omega) hj3;rw[List.getElem?_take,IN (by simpa using hlt)];simp only[QH,QY,Array.getElem?_toList,Array.getElem?_setIfInBounds];by_cases e:i=k
   ·subst e;rcases (show j=0\/j=1\/j=2 by omega) with rfl|rfl|rfl
    ·rw[By (by omega),By (by omega),IN (by omega)];simp;omega
    ·rw[By (by omega),IN (by omega)];simp;omega
    ·rw[IN (by omega)];simp;omega
   ·have:=hy i j (by omega) hj;rw[<-ht,List.getElem?_take,IN (by simpa using hlt)]at this;simp only[QH,QY,Array.getElem?_toList]at this;rw[By (by omega),By (by omega),By (by omega)];exact this
theorem dC.F4{n:Nat}(h:dC w t [a] (.slice (some ⟨g,0,none⟩) n cap) n k)(hk:k<n):
  dC (w.setCell ⟨g,k,none⟩ a) t [a] (.slice (some ⟨g,0,none⟩) n cap) n (k+1):=by
 obtain⟨ys,⟨hl,h⟩,hy⟩:=h;rcases h with⟨h,_⟩|⟨g',cap',cur,hv,hb,hh,h1,h2,hs,ht⟩
 ·cases h
 ·cases hv;have hh':=heap_set (v:=a) (o:=k) hh;have hle:n<=cur.size:=by rw[hs];simpa using h1
  have hN:(cur.setIfInBounds k a).size=cap*1:=by simpa using hs
  refine⟨((cur.setIfInBounds k a).toList).take (n*1),⟨?_,Or.inr ⟨g,cap,_,rfl,hb,hh',h1,h2,hN,rfl⟩⟩,λi j hi hj=>?_⟩
  ·rw[RS,RG,hN];simp only[QH,QY];omega
  ·have hj3:j=0:=by simpa using hj
   subst hj3;rw[List.getElem?_take,IN (by simp;omega)];simp only[QH,QY,Array.getElem?_toList,Array.getElem?_setIfInBounds];by_cases e:i=k
   ·subst e;rw[IN (by omega)];simp;omega
   ·have:=hy i 0 (by omega) hj;rw[<-ht,List.getElem?_take,IN (by simp;omega)]at this;simp only[QH,QY,Array.getElem?_toList]at this;rw[By (by omega)];exact this
structure KV(tv tl:TypeId)(pat:List Value)(S:Nat->Prop)(hb:Value->Array Value)(h n:Nat)(X:Nat->Prop)(w1 wr:World)(u:Value)(k c:Nat):Prop where
 fr:Fr X w1 wr
 row:dC wr tv pat u (n+k) (n+k)
 uI:∀b,u.ownBlock=some b->S b
 tS:∀b,u.ownBlock=some b->b<w1.heap.size->X b
 hold: ∃vs vl,wr.heap[h]?=some (.cells (hb vs) 110)/\wr.ownsRow w1.heap.size tl 1 vs c vl/\∀v∈vl,∃ad l cp,v=.slice ad l cp/\l<=n+k/\dL wr tv pat S v
theorem KV.vC{n:Nat}{c:Nat}(H:KV tv tl pat S hb h n X w1 wr u k c)(t1:tv≠110)(t2:tv≠tl)(hS:∀b,w1.heap.size<=b->S b){w2:World}(hys:wr.ownsRow 0 tv pat.length u (n+k) ys)(hyp:∀i j,i<n+k->j<pat.length->ys[i*pat.length+j]?=pat[j]?)(hown:w2.ownsRow 0 tv pat.length (.slice (some ⟨g,0,none⟩) (n+k+1) cap) (n+k+1) (ys++pat))(hgrow:(wr.alloc o).grownBy w2 u.ownBlock)(h4:u.ownBlock=some g\/g=(wr.alloc o).heap.size/\(wr.alloc o).grownBy w2 none):
  KV tv tl pat S hb h n X w1 w2 (.slice (some ⟨g,0,none⟩) (n+k+1) cap) (k+1) c:=by
 have hw1:=H.fr.size;have hF:Fr (λb=>u.ownBlock=some b) wr w2:=((Fr.refl (λb=>u.ownBlock=some b) wr).alloc o).grown hgrow λb e _=>e;have hX:∀g' t cur,wr.heap[g']?=some (.cells cur t)->tv≠t->¬u.ownBlock=some g':=λg' t cur hg ht e=>by
  obtain⟨cur',hc⟩:=cZ hys e;exact ht (ew hc hg)
 refine⟨(H.fr.alloc o).grown hgrow λb e hb=>H.tS b e hb,⟨ys++pat,hown,λi j hi hj=>?_⟩,λb e=>?_,λb e hb=>?_,?_⟩
 ·by_cases e:i<n+k
  ·rw[List.getElem?_append_left (by rw[hys.1];exact qE e hj)];exact hyp i j e hj
  ·have:i=n+k:=by omega
   subst this;rw[List.getElem?_append_right (by rw[hys.1];omega),hys.1];congr 1;omega
 ·have eb:g=b:=by simpa[Value.ownBlock] using e
  subst eb;rcases h4 with h4|⟨h4,_⟩
  ·exact H.uI _ h4
  ·refine hS _ ?_;rw[h4];simp;omega
 ·have eb:g=b:=by simpa[Value.ownBlock] using e
  subst eb;rcases h4 with h4|⟨h4,_⟩
  ·exact H.tS _ h4 hb
  ·rw[h4]at hb;simp at hb;omega
 ·obtain⟨vs,vl,e1,e2,e3⟩:=H.hold;refine⟨vs,vl,hF.heap e1 (hX _ _ _ e1 t1),hF.dq e2 λg' cur hg=>hX g' _ cur hg t2,λv hv=>?_⟩;obtain⟨ad,l,cp,ev,hl,hm⟩:=e3 v hv;refine⟨ad,l,cp,ev,by omega,?_⟩;obtain⟨ad',l',cp',ev',hl',hm⟩:=hm;rw[ev]at ev';cases ev';refine⟨ad,l,cp,ev,hl',?_⟩;rcases hm with hm|⟨g0,cur,f1,f2,f3,f4⟩
  ·exact Or.inl hm
  ·refine Or.inr ?_;by_cases eu:u.ownBlock=some g0
   ·obtain⟨ad0,o0,l0,c0,hu⟩: ∃ad0 o0 l0 c0,u=.slice (some ⟨ad0,o0,none⟩) l0 c0:=by
     rcases hys.2 with⟨h1,_⟩|⟨g,cap,c,hv,_⟩
     ·rw[h1]at eu;cases eu
     ·exact⟨_,_,_,_,hv⟩
    have e0:ad0=g0:=by rw[hu]at eu;simpa[Value.ownBlock] using eu
    subst e0;obtain⟨⟨cur',hc'⟩,hce⟩:=Ho (hys.alloc o) hown h4 ad0 o0 l0 c0 hu;refine⟨ad0,cur',f1,f2,hc',λi j hi hj=>?_⟩;have hlt:i*pat.length+j<(n+k)*pat.length:=qE (by omega) hj;have e5:=hce _ hlt;rw[World.cell?_alloc_lt _ _ _ (show ad0<wr.heap.size from (Array.getElem?_eq_some_iff.1 f3).1)]at e5;simp only[World.cell?,hc',f3]at e5;have e6:cur'[i*pat.length+j]?=cur[i*pat.length+j]? :=by simpa using e5
    rw[e6];exact f4 i j hi hj
   ·exact⟨g0,cur,f1,f2,hF.heap f3 eu,f4⟩
theorem KV.qL{n:Nat}{c:Nat}(H:KV tv tl pat S hb h n X w1 wr u k c)(t1:tv≠110)(t2:tv≠tl)(t3:tl≠110)(hXh:X h)(hn:n+k<=2000000000000)(f:Nat)(hf:∀a b,(hb a).setIfInBounds f b=hb b){w3:World}{vs:Value}{vl:List Value}(e1:wr.heap[h]?=some (.cells (hb vs) 110))(e2:wr.ownsRow w1.heap.size tl 1 vs c vl)(e3:∀v∈vl,∃ad l cp,v=.slice ad l cp/\l<=n+k/\dL wr tv pat S v)(hown:w3.ownsRow w1.heap.size tl 1 (.slice (some ⟨g,0,none⟩) (c+1) cap) (c+1) (vl++ [u]))(hgrow:(wr.alloc o).grownBy w3 vs.ownBlock):
  KV tv tl pat S hb h n X w1 (w3.setCell ⟨h,f,none⟩ (.slice (some ⟨g,0,none⟩) (c+1) cap)) u k (c+1):=by
 have hw1:=H.fr.size;have hFa:Fr (λb=>vs.ownBlock=some b\/b=h) wr w3:=((Fr.refl (λb=>vs.ownBlock=some b\/b=h) wr).alloc o).grown hgrow λb e _=>Or.inl e;have hF:Fr (λb=>vs.ownBlock=some b\/b=h) wr (w3.setCell ⟨h,f,none⟩ (.slice (some ⟨g,0,none⟩) (c+1) cap)):=Fr.setCell (X:=λb=>vs.ownBlock=some b\/b=h) hFa (Or.inr (Or.inr rfl)) _;have hX:∀g' cur,wr.heap[g']?=some (.cells cur tv)->¬(vs.ownBlock=some g'\/g'=h):=by
  rintro g' cur hg (e|e)
  ·obtain⟨cur',hc⟩:=cZ e2 e;exact t2 (ew hg hc)
  ·rw[e]at hg;exact t1 (ew hg e1)
 have hh3:w3.heap[h]?=some (.cells (hb vs) 110):=by
  have hlt:h<wr.heap.size:=(Array.getElem?_eq_some_iff.1 e1).1;rw[hgrow.block h (by simp;omega) (kG e2 e1 t3),Qx _ _ _ hlt];exact e1
 refine⟨?_,H.row.frame hF hX,H.uI,H.tS,?_⟩
 ·refine Fr.setCell (X:=X) ((H.fr.alloc o).grown hgrow λb e hlt=>?_) (Or.inr hXh) _
  have:=(e2.lt b e).1;omega
 ·refine⟨.slice (some ⟨g,0,none⟩) (c+1) cap,vl++ [u],?_,?_,λv hv=>?_⟩
  ·rw[heap_set hh3,hf]
  ·refine (Fr.setCell (X:=λk=>k=h) (Fr.refl _ _) (Or.inr rfl) _).dq hown λg' cur hg e=>?_;have e':g'=h:=e;rw[e']at hg;exact t3 (ew hg hh3)
  ·rcases List.mem_append.1 hv with hv|hv
   ·obtain⟨ad,l,cp,ev,hl,hm⟩:=e3 v hv;exact⟨ad,l,cp,ev,hl,hm.frame hF λg' cur _ hg=>hX g' cur hg⟩
   ·rw[Q5]at hv;subst hv;obtain⟨ad,cp,ev,_⟩:=H.row.form;exact⟨ad,n+k,cp,ev,AI _,(H.row.frame hF hX).mk hn H.uI⟩
theorem KV.start{n:Nat}(hF:Fr X w1 wr)(aF:dC wr tv pat u n n)(hS:∀b,u.ownBlock=some b->S b)(hX:∀b,u.ownBlock=some b->X b)(hh:wr.heap[h]?=some (.cells (hb (.slice none 0 0)) 110)):KV tv tl pat S hb h n X w1 wr u 0 0:=
 ⟨hF,aF,hS,λb e _=>hX b e,⟨.slice none 0 0,[],hh,QT _ _ _ _,λv hv=>by simp at hv⟩⟩
end Go.Proofs.YtldmcdeibiclkaaGreatQ
