/-
  Toward causal_holds: Contract: the text of a letter with nodes.
-/
import Derived.Test.YtldmcdeibiclkaaGreatDoorC22
import Derived.Test.YtldmcdeibiclkaaGreatDoorC17
set_option linter.unusedVariables false
set_option linter.unusedSimpArgs false
set_option maxRecDepth 100000
set_option maxHeartbeats 20000000
namespace Go.Proofs.YtldmcdeibiclkaaGreatDoorQ
open Go.RowKit
section
open Go.Lib (strCells strCells_length strCells_oneCell)
theorem TS(l:List Nd)(g:Nd):bS (l++ [g])=bS l++(al g.1++dT g.2 4):=by
 induction l with
 |nil=>simp[bS,gI,iY,Ey]
 |cons x l ih=>rw[YX,bS,ih,bS,cq,cq]
theorem T9{l:List Nd}{k:Nat}(h:k< l.length):bS (l.take (k+1))=bS (l.take k)++(al l[k].1++dT l[k].2 4):=by
 rw[Yu h,TS]
theorem EN(l:List Nd):(bS l).size=33*l.length:=by
 induction l with
 |nil=>rfl
 |cons x l ih=>rw[bS,No,No,ih,Ey,sa,cS,Ys];omega
theorem EI(l:List Nd):(dV l).length=l.length*5:=by
 induction l with
 |nil=>rfl
 |cons g gs ih=>simp only[dV,Zd,Yh,Ys,lE,Zc] at*;omega
theorem vQ:∀(l:List Nd) (k:Nat) (h:k< l.length) (j:Nat),j< 5->(dV l)[k*5+j]? =(lE l[k])[j]?
 |g::l,0,_,j,hj=>by
  simp only[dV,Zd,Nat.zero_mul,Nat.zero_add,List.getElem_cons_zero]
  rw[YW (by simpa[lE] using hj)]
 |g::l,k+1,h,j,hj=>by
  have:=vQ l k (by simpa using h) j hj
  simp only[dV,Zd,aab] at*
  rw[Yx (by simp[lE];omega),show (k+1)*5+j - (lE g).length=k*5+j by simp[lE];omega]
  exact this
theorem tQ(W:World)(a b c d:Value):
  (Instr.index 161 (.agg #[a,b,c,d]) (.int .i64 0)).run aa.prog W= .ok a W/\
  (Instr.index 161 (.agg #[a,b,c,d]) (.int .i64 1)).run aa.prog W= .ok b W/\
  (Instr.index 161 (.agg #[a,b,c,d]) (.int .i64 2)).run aa.prog W= .ok c W/\
  (Instr.index 161 (.agg #[a,b,c,d]) (.int .i64 3)).run aa.prog W= .ok d W:=
 ⟨by kernel_rfl,by kernel_rfl,by kernel_rfl,by kernel_rfl⟩
theorem indexAt(d:Nat->Int){j:Nat}(hj:j< 4)(W:World):(Instr.index 161 (.agg #[.int .u64 (d 0),.int .u64 (d 1),.int .u64 (d 2),.int .u64 (d 3)]) (.int .i64 j)).run aa.prog W= .ok (.int .u64 (d j)) W:=by
 rcases fg hj with rfl|rfl|rfl|rfl
 ·exact (tQ W _ _ _ _).1
 ·exact (tQ W _ _ _ _).2.1
 ·exact (tQ W _ _ _ _).2.2.1
 ·exact (tQ W _ _ _ _).2.2.2
theorem Kq(B1 lev:Nat)(lv:Value)(sg:List Nd)(w:World)(h:w.ownsRow B1 163 5 lv sg.length (dV sg))(hk:lev< 256)(hl:sg.length<=64)(hg:∀g∈sg,g.1< 256):
  Calls aa.prog 104 #[.agg #[.int .i64 lev,lv]] w λe w'=>e= .returned (.string (Let.nodes lev sg).bytes)/\Below w.heap.size w w':=by
 obtain⟨i0,hi0,hz0,hz1,hz2⟩:=Yk aa.pd
 obtain⟨ad,cap,rfl,hcap,hlc⟩:=jJ h
 have hl0:(0:Int)<=(sg.length:Int):=by omega
 have hl1:(sg.length:Int)<=255:=by omega
 have e0:(0:Int)<=(lev:Int):=by omega
 have e1:(lev:Int)<=255:=by omega
 have hrow:aO ((w.alloc (.cells #[.int .i64 lev,.slice ad sg.length cap] 128)).alloc (.cells #[.int .u8 78,.int .u8 lev,.int .u8 sg.length] 5)) w.heap.size (.slice (some ⟨w.heap.size+1,0,none⟩) 3 3) (al 78++al lev++al sg.length):=
  ⟨by simp[ot,jW,No,cS],Or.inr ⟨w.heap.size+1,3,#[.int .u8 78,.int .u8 lev,.int .u8 sg.length],rfl,by omega,kF w _ _,AI _,by decide,rfl,by
   rw[ot,ot,jW,jW,jW,ZS (a:=(lev:Int)) (by omega) (by omega),ZS (a:=(sg.length:Int)) (by omega) (by omega)];rfl⟩⟩
 have HRow:Hid (aO ((w.alloc (.cells #[.int .i64 lev,.slice ad sg.length cap] 128)).alloc (.cells #[.int .u8 78,.int .u8 lev,.int .u8 sg.length] 5)) w.heap.size (.slice (some ⟨w.heap.size+1,0,none⟩) 3 3) (al 78++al lev++al sg.length)):=hrow
 have HG:Hid (∀g∈sg,g.1< 256):=hg
 have H:Hid (w.ownsRow B1 163 5 (.slice ad sg.length cap) sg.length (dV sg)):=h
 have dS:(Let.nodes lev sg).bytes=(al 78++al lev++al sg.length)++bS sg:=by rw[Let.bytes,cq,cq]
 rw[dS]
 have HPs:Hid (∀k (h:k< sg.length),(al 78++al lev++al sg.length)++bS (sg.take k)++al sg[k].1++dT sg[k].2 4=(al 78++al lev++al sg.length)++bS (sg.take (k+1))):=(show ∀k (h:k< sg.length),_ by
  intro k h
  rw[T9 h]
  simp only[cq])
 have HPz:Hid (∀k,((al 78++al lev++al sg.length)++bS (sg.take k)).size<=3000):=(show ∀k,_ by
  intro k
  have:=List.length_take_le' k sg
  simp only[No,cS,EN]
  omega)
 clear hrow hg h dS
 go_enter aa.func104,aa.ntmps104
 go_wp2
 have HB0:Hid (Below w.heap.size w ((w.alloc (.cells #[.int .i64 lev,.slice ad sg.length cap] 128)).alloc (.cells #[.int .u8 78,.int .u8 lev,.int .u8 sg.length] 5))):=((By _ _).alloc (AI _) _).alloc (by simp) _
 generalize hP0:al 78++al lev++al sg.length=P0 at*
 have HP0:Hid (al 78++al lev++al sg.length=P0):=hP0
 clear hP0
 go_loopw [3,19] (λo i wr=>∃k:Nat,k<=sg.length/\i= .int .i64 k/\Hid (aO wr w.heap.size o (P0++bS (sg.take k)))/\Hid (Below w.heap.size w wr)) (λ_ i _=>sg.length - (intOf i).toNat)
 case atStart=>exact⟨0,by omega,rfl,by rw[List.take_zero,bS,gI];exact HRow.out,HB0.out⟩
 case round=>
  obtain⟨k,hkl,rfl,HR,HB⟩:=hrel
  have hsw:=HB.out.size
  clear HRow HB0
  by_cases hlt:k< sg.length
  ·obtain⟨g,cap',hv',hgl,_,_,cc⟩:=pj H.out (show 0< sg.length by omega)
   cases hv'
   have cw:∀j,j< 5->wr.cell? ⟨g,k*5+j,none⟩=(lE sg[k])[j]? :=λj hj=>by
    have h1:=vQ sg k hlt j hj
    rw[HB.out.cell (p:=⟨g,k*5+j,none⟩) hgl,←h1]
    rw[Yn (by rw[EI];omega)]
    exact cc _ _ (by omega) (Yn _)
   have c0:wr.cell? ⟨g,k*5,none⟩=some (.int .i64 sg[k].1):=cw 0 (by omega)
   have c1:wr.cell? ⟨g,k*5+1,none⟩=some (.int .u64 (sg[k].2 0)):=cw 1 (by omega)
   have c2:wr.cell? ⟨g,k*5+2,none⟩=some (.int .u64 (sg[k].2 1)):=cw 2 (by omega)
   have c3:wr.cell? ⟨g,k*5+3,none⟩=some (.int .u64 (sg[k].2 2)):=cw 3 (by omega)
   have c4:wr.cell? ⟨g,k*5+4,none⟩=some (.int .u64 (sg[k].2 3)):=cw 4 (by omega)
   have g1:=HG.out sg[k] (X9 hlt)
   have hs0:=HPs.out k hlt
   have hz:=HPz.out k
   clear cc cw
   generalize hPk:P0++bS (sg.take k)=P at*
   generalize sg[k].1=n at*
   generalize sg[k].2=d at*
   have HS0:Hid (P++al n++dT d 4=P0++bS (sg.take (k+1))):=hs0
   clear hs0 hPk
   have a1:(k:Int)< (sg.length:Int):=by omega
   have a0:(0:Int)<=(k:Int):=by omega
   have m1:(0:Int)<=(n:Int):=by omega
   have m2:(n:Int)<=255:=by omega
   obtain⟨W6,hW6⟩: ∃W,W=(wr.alloc (.cells #[.int .i64 n,.int .u64 (d 0),.int .u64 (d 1),.int .u64 (d 2),.int .u64 (d 3)] 163)).alloc (.cells #[.int .u8 n] 5):=⟨_,rfl⟩
   have HW6:Hid (Below w.heap.size w W6):=(by rw[hW6];exact (HB.out.alloc hsw _).alloc (by simp;omega) _)
   have HR6:Hid (aO W6 w.heap.size u3 P):=(by rw[hW6];exact (HR.out.alloc _).alloc _)
   have HS6:Hid (W6.heap[wr.heap.size]? =some (.cells #[.int .i64 n,.int .u64 (d 0),.int .u64 (d 1),.int .u64 (d 2),.int .u64 (d 3)] 163)):=(by rw[hW6,OF _ _ _ (by simp)];exact IS wr _)
   have HN6:Hid (W6.heap[wr.heap.size+1]? =some (.cells #[.int .u8 n] 5)):=(by rw[hW6];exact kF wr _ _)
   go_wp2_with (first
    |(at_builtin;rw[←hW6];refine j6 _ rfl _ _ _ rfl w.heap.size 5 i0 _ 1 1 aa.underlying48 hi0 hz0 hz1 hz2 rfl (by omega) u3 _ _ rfl HR6.out ⟨wr.heap.size+1,0,none⟩ 1 1 _ rfl (by rfl) (Yo HN6.out) (by simp[Value.oneCell']) (by omega) (by unfold maxLen;omega) (by omega) HW6.out.size ?_;intro g7 cap7 w7 hown7 hgr7;have HR7:Hid (aO w7 w.heap.size (.slice (some ⟨g7,0,none⟩) (P.size+1) cap7) (P++al n)):=aO.of hown7 rfl (by rw[jW,ZS (by omega) (by omega)]);have hs7:=hgr7.other HR6.out HS6.out (by decide);obtain⟨c7,f7⟩:=au hs7;have x71:=c7 1;have x72:=c7 2;have x73:=c7 3;have x74:=c7 4;clear c7 f7;have HB7:Hid (Below w.heap.size w w7):=hgr7.toBelow HW6.out HW6.out.size HR6.out;clear hs7 hown7 hgr7))
   clear hW6 HW6 HR6 HS6 HN6 HR HB
   go_loopw [3,31] (λo i wq=>∃j:Nat,j<=4/\i= .int .i64 j/\Hid (aO wq w.heap.size o (P++al n++dT d j))/\Hid (Below w.heap.size w wq)) (λ_ i _=>4 - (intOf i).toNat)
   case atStart=>exact⟨0,by omega,rfl,by rw[dT,gI];exact HR7.out,HB7.out⟩
   case round=>
    obtain⟨j,hj,rfl,HRj,HBj⟩:=hrel
    clear HR7 HB7
    by_cases hj4:j< 4
    ·have j1:(j:Int)< 4:=by omega
     have hix:=indexAt d hj4
     have HSt:Hid (P++al n++dT d j++fG (d j)=P++al n++dT d (j+1)):=(show _=_ by rw[dT,cq])
     have hQz:(P++al n++dT d j).size<=4000:=by simp only[No,cS,sa];omega
     generalize P++al n++dT d j=Q at*
     generalize d j=dj at*
     go_wp2_with (go_at_call 50;refine BY (yG w.heap.size _ Q dj _ HRj.out HBj.out.size (by omega)) ?_;rintro e w8 ⟨v8,rfl,hr8,hg8⟩;have HR8:Hid (aO w8 w.heap.size v8 (Q++fG dj)):=hr8;have HB8:Hid (Below w.heap.size w w8):=hg8.toBelow HBj.out HBj.out.size HRj.out;clear hr8 hg8)
     exact⟨⟨j+1,by omega,by go_num,by rw[←HSt.out];exact HR8.out,HB8.out⟩,by simp[intOf];omega⟩
    ·obtain rfl:j=4:=by omega
     have HRe:Hid (aO ‹World› w.heap.size _ (P0++bS (sg.take (k+1)))):=(by rw[←HS0.out];exact HRj.out)
     clear HRj
     go_wp2
     exact⟨⟨k+1,by omega,by go_num,HRe.out,HBj.out⟩,by simp[intOf];omega⟩
  ·obtain rfl:k=sg.length:=by omega
   have hR:=HR.out
   rw[YD] at hR
   have hcv:=qV hR
   clear hR
   go_wp2
   go_ret
   exact⟨by rw[HP0.out];rfl,HB.out⟩
end
def fR(w:World)(B:Nat)(v:Value)(ns:List Nat):Prop:=w.ownsRow B 3 1 v ns.length (ns.map λ(n:Nat)=>Value.int .i64 (n:Int))
def bp(w:World)(bm:Nat->Nat)(K:aF)(ns:List Nat):List (Nat×List ai):=ns.map λn=>(n,dA K (cp w (bm n)))
structure oc(w:World)(bs kind:Nat)(sg:List (Nat×List ai))(k:Nat)(W:World)(lv:Value)(gs:List Gm):Prop where
 st:W.heap[bs]? =some (.cells #[.int .u8 kind,lv] 132)
 row:W.ownsRow w.heap.size 167 2 lv k (fK gs)
 is:gs.map Gm.is=sg.take k
 k9:∀g∈gs,dc W w.heap.size g.2.1 g.2.2/\∀r∈g.2.2,aC W r.sv r.l
 bP:Below w.heap.size w W
theorem oc.step{w wr w2 w4:World}{kind n k g4 cap4:Nat}{sg:List (Nat×List ai)}{gs:List Gm}{lv v2:Value}{rs:List Rc}{ro:List ai}(h:oc w w.heap.size kind sg k wr lv gs)(hb:Below wr.heap.size wr w2)(hr:dc w2 w.heap.size v2 rs)(hv:∀r∈rs,aC w2 r.sv r.l)(ht:rs.map Rc.bU=ro)(hK:bL (λt=>t≠167) w2 w4)(ho:w4.ownsRow w.heap.size 167 2 (.slice (some ⟨g4,0,none⟩) (k+1) cap4) (k+1) (fK gs++ [.int .i64 n,v2]))(hb4:Below w.heap.size w w4)(hs:sg.take (k+1)=sg.take k++ [(n,ro)]):
  oc w w.heap.size kind sg (k+1) (w4.setCell ⟨w.heap.size,1,none⟩ (.slice (some ⟨g4,0,none⟩) (k+1) cap4)) (.slice (some ⟨g4,0,none⟩) (k+1) cap4) (gs++ [(n,v2,rs)]):=by
 have hs4:=hK _ _ _ _ (aY h.st hb) (by decide)
 have hK2:bL (λt=>t=151\/t=144) w2 (w4.setCell ⟨w.heap.size,1,none⟩ (.slice (some ⟨g4,0,none⟩) (k+1) cap4)):=λq cs t fr hq h=>bL.set hs4 (T:=λt=>t≠132) (λh=>h rfl) _ _ _ _ _ _ (hK _ _ _ _ hq (by rcases h with rfl|rfl<;>decide)) (by rcases h with rfl|rfl<;>decide)
 refine⟨heap_set hs4,?_,?_,λg hg=>?_,hb4.setCell (AI _) _⟩
 ·rw[fK,Ze]
  exact fW ho hs4 (by decide) _ _
 ·rw[hs,Zx,h.is,List.map_singleton,Gm.is,ht]
 ·rcases Zl.1 hg with hg|hg
  ·exact⟨hK2.row (dp (h.k9 g hg).1 hb (AI _)) (.inl rfl),λr hr=>hK2.row (aC.below ((h.k9 g hg).2 r hr) hb) (.inr rfl)⟩
  ·obtain rfl:=Y4.1 hg
   exact⟨hK2.row hr (.inl rfl),λr hr'=>hK2.row (hv r hr') (.inr rfl)⟩
theorem C4(b num kind Bn:Nat)(bm:Nat->Nat)(K:aF)(nv:Value)(ns:List Nat)(w:World)(h:aE w b bm num K)(hK:dX w bm K)(hn:fR w Bn nv ns)(hk:kind< 256)(hl:ns.length<=64)(hns:∀n∈ns,n< 64)(hsz:(Let.aV kind (bp w bm K ns)).bytes.size<=140737488355328):
  Calls aa.prog 80 #[.pointer (some ⟨b,0,none⟩),.int .u8 kind,nv] w λe w'=>e= .returned (.string (Let.aV kind (bp w bm K ns)).bytes)/\Below w.heap.size w w':=by
 have hfew:=hK.2
 obtain⟨i0,hi0,hz0,hz1,hz2⟩:=Yk aa.Dy
 obtain⟨ad,cap,rfl,hcap,hlc⟩:=jJ hn
 have hbl:=h.1.lt
 have hlm:(bp w bm K ns).length=ns.length:=Yr ..
 have HRec:Hid (∀n,n< 64->∀W,Below w.heap.size w W->Calls aa.prog 49 #[.map (some (bm n))] W λe w'=>∃v rs,e= .returned v/\dc w' W.heap.size v rs/\(∀r∈rs,aC w' r.sv r.l)/\rs.map Rc.bU=dA K (cp w (bm n))/\Below W.heap.size W w'):=λn hn W hW=>by
  obtain⟨es,clock,e1,e2,e3,e4,_⟩:=(h.below hW).2.1 n hn
  have e1':w.heap[bm n]? =some (.map es clock):=by rw[←hW.block _ (h.2.1 n hn).lt];exact e1
  have hes:cp w (bm n)=es.toList:=by simp[cp,e1']
  have:=hfew n hn
  rw[hes] at this ⊢
  exact CA (bm n) n K W es clock e1 e2 e3 e4 (by simp at this;omega)
 have HSeg:Hid (∀n,n< 64->∀W,Below w.heap.size w W->W.cell? ⟨b,n+1,none⟩=some (.map (some (bm n)))):=λn hn W hW=>(h.below hW).1.tw hn
 have HN:Hid (fR w Bn (.slice ad ns.length cap) ns):=hn
 have HNs:Hid (∀n∈ns,n< 64):=hns
 have HTx:Hid (∀W lv gs,oc w w.heap.size kind (bp w bm K ns) ns.length W lv gs->Calls aa.prog 105 #[.agg #[.int .u8 kind,lv]] W λe w'=>e= .returned (.string (Let.aV kind (bp w bm K ns)).bytes)/\Below w.heap.size w w'):=by
  intro W lv gs hJ
  have e1:gs.map Gm.is=bp w bm K ns:=by rw[hJ.is,←hlm,YD]
  have e2:gs.length=ns.length:=by have:=congrArg List.length e1;simpa[bp] using this
  have hm:∀g∈gs,∃n,n< 64/\g.1=n/\g.2.2.map Rc.bU=dA K (cp w (bm n)):=λg hg=>by
   have:g.is∈bp w bm K ns:=by rw[←e1];exact ZG hg
   obtain⟨n,hn,e⟩:=Ya.1 this
   exact⟨n,hns n hn,(congrArg Prod.fst e).symm,(congrArg Prod.snd e).symm⟩
  have:=Nz w.heap.size w.heap.size kind lv gs W (by rw[e2];exact hJ.row) hk (by omega) (λg hg=>by
   obtain⟨n,hn,h1,h2⟩:=hm g hg
   have hlen:g.2.2.length=(cp w (bm n)).length:=by have:=congrArg List.length h2;rw[yV] at this;simpa using this
   have hf:=hfew n hn
   refine⟨by omega,by omega,(hJ.k9 g hg).1,λr hr=>⟨(hJ.k9 g hg).2 r hr,?_⟩⟩
   have:r.bU∈dA K (cp w (bm n)):=by rw[←h2];exact ZG hr
   obtain⟨x,_,e⟩:=Ya.1 this
   have e':r.l=(K (dI x)).2:=(congrArg (λt=>t.2.2) e).symm
   have:=(hK.1 (dI x)).2.1
   rw[e']
   omega) (by rw[e1];exact hsz)
  rw[e1] at this
  exact this.mono λe w' ⟨he,hb⟩=>⟨he,bG hJ.bP hb⟩
 have HSg:Hid (∀k (h:k< ns.length),(bp w bm K ns).take (k+1)=(bp w bm K ns).take k++ [(ns[k],dA K (cp w (bm ns[k])))]):=λk h=>by
  rw[Yu (by rw[hlm];exact h)]
  simp[bp]
 have HJ0:Hid (oc w w.heap.size kind (bp w bm K ns) 0 (w.alloc (.cells #[.int .u8 kind,.slice none 0 0] 132)) (.slice none 0 0) []):=⟨IS w _,Y6 _ _ _ _,rfl,(λg hg=>by cases hg),(By _ _).alloc (AI _) _⟩
 clear h hn hns hfew hsz hK
 generalize bp w bm K ns=sg at*
 go_enter aa.func80,aa.ntmps80
 go_wp2
 go_loopw [14] (λiv wr=>∃(k:Nat) (lv:Value) (gs:List Gm),k<=ns.length/\iv= .int .i64 k/\Hid (oc w w.heap.size kind sg k wr lv gs)) (λiv _=>ns.length - (intOf iv).toNat)
 case atStart=>exact⟨0,_,_,by omega,rfl,HJ0.out⟩
 case round=>
  obtain⟨k,lv,gs,hkl,rfl,HJ⟩:=hrel
  clear HJ0
  have hsw:=HJ.out.bP.size
  obtain⟨cs,fs⟩:=au HJ.out.st
  have y0:=cs 0
  have y1:=cs 1
  clear cs fs
  by_cases hlt:k< ns.length
  ·obtain⟨g,cap',hv',hgl,_,_,cc⟩:=pj HN.out (show 0< ns.length by omega)
   cases hv'
   have cn:wr.cell? ⟨g,k,none⟩=some (.int .i64 ns[k]):=(HJ.out.bP.cell (p:=⟨g,k,none⟩) hgl).trans (cc k _ (by omega) (by rw[ZR,Yn hlt];rfl))
   have hn64:=HNs.out _ (X9 hlt)
   have HSk:=HSg.out k hlt
   have cseg:=HSeg.out ns[k] hn64 wr HJ.out.bP
   have HRk:Hid (Calls aa.prog 49 #[.map (some (bm ns[k]))] wr.drew λe w2=>∃ad2 len2 cap2 rs,e= .returned (.slice ad2 len2 cap2)/\dc w2 w.heap.size (.slice ad2 len2 cap2) rs/\(∀r∈rs,aC w2 r.sv r.l)/\rs.map Rc.bU=dA K (cp w (bm ns[k]))/\Below wr.heap.size wr w2):=by
    refine (HRec.out ns[k] hn64 wr.drew (HJ.out.bP.drew)).mono ?_
    rintro e w2 ⟨v,rs,rfl,h1,h2,h3,h4⟩
    obtain⟨ad2,cap2,rfl⟩:=gY h1
    exact⟨ad2,_,cap2,rs,rfl,cY h1 hsw,h2,h3,bG (By _ _).drew h4⟩
   have HSk':Hid (sg.take (k+1)=sg.take k++ [(ns[k],dA K (cp w (bm ns[k])))]):=HSk
   clear HSk cc HRec HSeg HNs HSg
   generalize dA K (cp w (bm ns[k]))=ro at*
   generalize hnk:ns[k]=n at*
   obtain⟨adl,capl,rfl⟩:=gY HJ.out.row
   have a1:(k:Int)< (ns.length:Int):=by omega
   have a0:(0:Int)<=(k:Int):=by omega
   have m0:(0:Int)<=(n:Int):=by omega
   have m1:(n:Int)< 64:=by omega
   have cseg':wr.cell? ⟨b,1+n,none⟩=some (.map (some (bm n))):=by rw[Zw];exact cseg
   clear cseg
   have y1':wr.cell? ⟨w.heap.size,1,none⟩=some (.slice adl k capl):=y1
   clear y1
   go_upto_region 5 with fail
   have hnb:b≠w.heap.size:=by omega
   go_region_law (first
    |(refine Z4 _ rfl _ _ _ rfl w.heap.size 167 i0 _ 2 32 aa.underlying130 hi0 hz0 hz1 hz2 rfl (by omega) (.slice adl k capl) _ _ rfl HO2a.out ⟨w2.heap.size,0,none⟩ 1 1 [.int .i64 n,.slice ad2 len2 cap2] rfl rfl (Yo (IS w2 _)) (by simp[Value.oneCell']) (by omega) (by unfold maxLen;omega) (by omega) (by have:=HB2.out.size;simp<;>omega) (w2.heap.size+1) (by simp) ?_;intro g4 cap4 w4 hown4 hgr4 hat4 hlt4;have HO4:Hid (w4.ownsRow w.heap.size 167 2 (.slice (some ⟨g4,0,none⟩) (k+1) cap4) (k+1) (fK gs++ [.int .i64 n,.slice ad2 len2 cap2])):=hown4;have hK4:bL (λt=>t≠167) w2 w4:=(bL.below ((By _ _).alloc (AI _) _)).trans (bL.grown hgr4 HO2a.out (λh=>h rfl));have HK4:Hid (bL (λt=>t≠167) w2 w4):=hK4;have hc4:=hK4 _ _ _ _ (aY HJ.out.st HB2.out) (by decide);obtain⟨cb4,fb4⟩:=au hc4;have c41:=cb4 1;have f41:=fb4 1;have HB4:Hid (Below w.heap.size w w4):=Below.grown HBw.out hgr4 HBw.out.size (λq hq=>pI HO2a.out hq);have s4:w4.cell? ⟨b,1+n,none⟩=some (.map (some (bm n))):=(HB4.out.cell (p:=⟨b,1+n,none⟩) hbl).trans ((HJ.out.bP.cell (p:=⟨b,1+n,none⟩) hbl).symm.trans cseg');clear cb4 fb4 hc4 hK4 hown4 hgr4)
    |(go_simp;go_at_call 49;refine BY HRk.out ?_;rintro e w2 ⟨ad2,len2,cap2,rs,rfl,hr2,hv2,ht2,hb2⟩;have HRs2:Hid (dc w2 w.heap.size (.slice ad2 len2 cap2) rs):=hr2;have HV2:Hid (∀r∈rs,aC w2 r.sv r.l):=hv2;have HT2:Hid (rs.map Rc.bU=ro):=ht2;have HB2:Hid (Below wr.heap.size wr w2):=hb2;have HO2:Hid (w2.ownsRow w.heap.size 167 2 (.slice adl k capl) k (fK gs)):=dp HJ.out.row hb2 (AI _);have s2:=aX cseg' hb2;have y2:=aX y1' hb2;have hz2':w.heap.size< w2.heap.size:=(IN.1 (aY HJ.out.st hb2)).1;have hb2':b< w2.heap.size:=(by omega);have HO2a:Hid ((w2.alloc (.cells #[.int .i64 n,.slice ad2 len2 cap2] 167)).ownsRow w.heap.size 167 2 (.slice adl k capl) k (fK gs)):=Yc HO2.out _;have HBw:Hid (Below w.heap.size w (w2.alloc (.cells #[.int .i64 n,.slice ad2 len2 cap2] 167))):=(bG HJ.out.bP hb2).alloc (by have:=hb2.size;omega) _;clear hr2 hv2 ht2 hb2))
   all_goals
    go_wp2
    exact⟨⟨k+1,_,gs++ [(n,.slice ad2 len2 cap2,rs)],by omega,by go_num,oc.step HJ.out HB2.out HRs2.out HV2.out HT2.out HK4.out HO4.out HB4.out HSk'.out⟩,by simp[intOf];omega⟩
  ·obtain rfl:k=ns.length:=by omega
   have HTx':Hid (Calls aa.prog 105 #[.agg #[.int .u8 kind,lv]] wr λe w'=>e= .returned (.string (Let.aV kind sg).bytes)/\Below w.heap.size w w'):=HTx.out wr lv gs HJ.out
   go_wp2_with (go_at_call 105;refine BY HTx'.out ?_;rintro e w9 ⟨rfl,hb9⟩)
   go_ret
   exact⟨rfl,hb9⟩
theorem Ef{d d':Nat->Int}:∀k,(∀i,i< k->d i=d' i)->dT d k=dT d' k
 |0,_=>rfl
 |k+1,h=>by rw[dT,dT,Ef k λi hi=>h i (by omega),h k (by omega)]
theorem xe{T T':Nat->ByteArray}(h:∀k,k< 64->T k=T' k):∀j,j<=3->∀n,n< 4 ^ (3 - j)->dg T j n=dg T' j n
 |0,_,n,hn=>by rw[dg,dg,h n (by simpa using hn)]
 |j+1,hj,n,hn=>by
  have h4:4 ^ (3 - j)=4 ^ (3 - (j+1))*4:=by rw[←Y7];congr 1;omega
  rw[dg,dg,iN,iN,Ef 4 λi hi=>xe h j (by omega) _ (by omega)]
theorem KY(T:Nat->ByteArray):∀j n,0<=dg T j n/\dg T j n< 18446744073709551616
 |0,_=>pK _ _
 |_+1,_=>pK _ _
theorem qD{w W:World}{b num:Nat}{bm:Nat->Nat}{K:aF}(h:aE w b bm num K)(hb:Below w.heap.size w W){lv n:Nat}(hl:lv<=3)(hn:n< 4 ^ lv):bH W bm K lv n=bH w bm K lv n:=
 xe (λk hk=>vW (hb.block _ (h.2.1 k hk).lt)) _ (by omega) _ (by rw[show 3 - (3 - lv)=lv by omega];exact hn)
theorem FD(n i:Nat)(w:World)(hn:n<=64)(hi:i< 4):
  Calls aa.prog 103 #[.int .i64 n,.int .i64 i] w λe w'=>e= .returned (.int .i64 ((n*4+i:Nat):Int))/\w'=w:=by
 have e:((n*4+i:Nat):Int)=(n:Int)*4+(i:Int):=by omega
 have h1:(n:Int)*4<=256:=by omega
 have h2:(n:Int)*4+(i:Int)<=260:=by omega
 have h0:(0:Int)<=(n:Int)*4:=by omega
 have h3:(0:Int)<=(n:Int)*4+(i:Int):=by omega
 rw[e]
 go_enter aa.func103,aa.ntmps103
 go_wp2
 go_ret
 exact⟨rfl,rfl⟩
theorem yu{w:World}{b num:Nat}{bm:Nat->Nat}{K:aF}(h:aE w b bm num K)(hK:dX w bm K):∀lv n:Nat,lv<=3->n< 4 ^ lv->∀W,Below w.heap.size w W->Calls aa.prog 27 #[.pointer (some ⟨b,0,none⟩),.int .i64 lv,.int .i64 n] W λe w'=>e= .returned (.int .u64 (bH w bm K lv n))/\Below W.heap.size W w':=λlv n hl hn W hW=>by
 have:=BN b num lv n bm K W (h.below hW) (hK.below h hW) hl hn
 rw[qD h hW hl hn] at this
 exact this
def kids(w:World)(bm:Nat->Nat)(K:aF)(lev n i:Nat):Int:=if i< 4 then bH w bm K (lev+1) (n*4+i) else 0
def gz(w:World)(bm:Nat->Nat)(K:aF)(lev:Nat)(ns:List Nat):List Nd:=ns.map λn=>(n,kids w bm K lev n)
theorem sq{w W:World}{b num:Nat}{bm:Nat->Nat}{K:aF}(h:aE w b bm num K)(hb:Below w.heap.size w W){lev:Nat}(hl:lev< 3){ns:List Nat}(hn:∀n∈ns,n< 4 ^ lev):gz W bm K lev ns=gz w bm K lev ns:=by
 refine Y9 λn hm=>?_
 congr 1
 funext i
 unfold kids
 have:=hn n hm
 split
 ·exact qD h hb (by omega) (by rw[Y7];omega)
 ·rfl
structure nZ(w:World)(lev:Nat)(sg:List Nd)(k:Nat)(W:World)(lv:Value):Prop where
 st:W.heap[w.heap.size]? =some (.cells #[.int .i64 lev,lv] 128)
 row:W.ownsRow w.heap.size 163 5 lv k (dV (sg.take k))
 bP:Below w.heap.size w W
structure qd(w:World)(lev:Nat)(sg:List Nd)(k:Nat)(lv:Value)(bn n i:Nat)(d:Nat->Int)(W:World):Prop where
 j:nZ w lev sg k W lv
 nd:W.heap[bn]? =some (.cells (fS n d i) 163)
 rQ:∀q,lv.ownBlock=some q->q< bn
 high:w.heap.size< bn
theorem nZ.below{w W W':World}{lev k:Nat}{sg:List Nd}{lv:Value}(h:nZ w lev sg k W lv)(hb:Below W.heap.size W W'):nZ w lev sg k W' lv:=
 ⟨aY h.st hb,dp h.row hb (AI _),bG h.bP hb⟩
theorem qd.set{w W W':World}{lev k bn n i:Nat}{sg:List Nd}{lv:Value}{d:Nat->Int}(h:qd w lev sg k lv bn n i d W)(hb:Below W.heap.size W W')(hi:i< 4):W'.heap[bn]? =some (.cells (fS n d i) 163)/\qd w lev sg k lv bn n (i+1) d (W'.setCell ⟨bn,1+i,none⟩ (.int .u64 (d i))):=by
 have hj:=h.j.below hb
 have hn:=aY h.nd hb
 have hs:=heap_set (o:=1+i) (v:= .int .u64 (d i)) hn
 rw[Dp n d hi] at hs
 have hh:=h.high
 refine⟨hn,⟨?_,sN hj.row λq _ hq=>Yj _ _ _ _ (λe=>?_),hj.bP.setCell (Nat.le_of_lt h.high) _⟩,hs,h.rQ,h.high⟩
 ·rw[Yj _ _ _ _ (by show _≠bn;omega)];exact hj.st
 ·have:=h.rQ q hq
  simp only at e
  omega
theorem Aw(b num lev Bn:Nat)(bm:Nat->Nat)(K:aF)(nv:Value)(ns:List Nat)(w:World)(h:aE w b bm num K)(hK:dX w bm K)(hn:fR w Bn nv ns)(hlev:lev< 3)(hl:ns.length<=64)(hns:∀n∈ns,n< 4 ^ lev):
  Calls aa.prog 78 #[.pointer (some ⟨b,0,none⟩),.int .i64 lev,nv] w λe w'=>e= .returned (.string (Let.nodes lev (gz w bm K lev ns)).bytes)/\Below w.heap.size w w':=by
 obtain⟨i0,hi0,hz0,hz1,hz2⟩:=Yk aa.AE
 obtain⟨ad,cap,rfl,hcap,hlc⟩:=jJ hn
 have h4:=(oD (show lev<=3 by omega)).1
 have hlm:(gz w bm K lev ns).length=ns.length:=Yr ..
 have HD:Hid (∀n∈ns,∀i:Nat,i< 4->∀W,Below w.heap.size w W->Calls aa.prog 27 #[.pointer (some ⟨b,0,none⟩),.int .i64 ((lev:Int)+1),.int .i64 ((n*4+i:Nat):Int)] W λe w'=>e= .returned (.int .u64 (bH w bm K (lev+1) (n*4+i)))/\Below W.heap.size W w'):=λn hn i hi W hW=>by
  have h1:=hns n hn
  have:=yu h hK (lev+1) (n*4+i) (by omega) (by rw[Y7];omega) W hW
  rw[show ((lev+1:Nat):Int)=(lev:Int)+1 by omega] at this
  exact this
 have HC:Hid (∀n∈ns,∀i:Nat,i< 4->∀W,Calls aa.prog 103 #[.int .i64 n,.int .i64 i] W λe w'=>e= .returned (.int .i64 ((n*4+i:Nat):Int))/\w'=W):=λn hn i hi W=>by
  have h1:=hns n hn
  exact FD n i W (by omega) hi
 have HN:Hid (fR w Bn (.slice ad ns.length cap) ns):=hn
 have HNs:Hid (∀n∈ns,n< 4 ^ lev):=hns
 have HTx:Hid (∀W lv,nZ w lev (gz w bm K lev ns) ns.length W lv->Calls aa.prog 104 #[.agg #[.int .i64 lev,lv]] W λe w'=>e= .returned (.string (Let.nodes lev (gz w bm K lev ns)).bytes)/\Below w.heap.size w w'):=by
  intro W lv hJ
  have hr:=hJ.row
  rw[←hlm,YD] at hr
  refine (Kq w.heap.size lev lv _ W hr (by omega) (by omega) (λg hg=>?_)).mono λe w' ⟨he,hb⟩=>⟨he,bG hJ.bP hb⟩
  obtain⟨n,hn,rfl⟩:=Ya.1 hg
  have:=hns n hn
  show n< 256
  omega
 have HSg:Hid (∀k (h:k< ns.length),(gz w bm K lev ns).take (k+1)=(gz w bm K lev ns).take k++ [(ns[k],kids w bm K lev ns[k])]):=λk h=>by
  rw[Yu (by rw[hlm];exact h)]
  simp[gz]
 have HJ0:Hid (nZ w lev (gz w bm K lev ns) 0 (w.alloc (.cells #[.int .i64 lev,.slice none 0 0] 128)) (.slice none 0 0)):=⟨IS w _,Y6 _ _ _ _,(By _ _).alloc (AI _) _⟩
 have v1:(lev:Int)+1<=3:=by omega
 clear h hn hns hK
 generalize gz w bm K lev ns=sg at*
 go_enter aa.func78,aa.ntmps78
 go_wp2
 go_loopw [16] (λiv wr=>∃(k:Nat) (lv:Value),k<=ns.length/\iv= .int .i64 k/\Hid (nZ w lev sg k wr lv)) (λiv _=>ns.length - (intOf iv).toNat)
 case atStart=>exact⟨0,_,by omega,rfl,HJ0.out⟩
 case round=>
  obtain⟨k,lv,hkl,rfl,HJ⟩:=hrel
  clear HJ0
  have hsw:=HJ.out.bP.size
  obtain⟨adl,capl,rfl⟩:=gY HJ.out.row
  have hst0:w.heap.size< wr.heap.size:=(IN.1 HJ.out.st).1
  obtain⟨cs,fs⟩:=au HJ.out.st
  have y0:=cs 0
  have y1:=cs 1
  clear cs fs
  by_cases hlt:k< ns.length
  ·obtain⟨g,cap',hv',hgl,_,_,cc⟩:=pj HN.out (show 0< ns.length by omega)
   cases hv'
   have cn:wr.cell? ⟨g,k,none⟩=some (.int .i64 ns[k]):=(HJ.out.bP.cell (p:=⟨g,k,none⟩) hgl).trans (cc k _ (by omega) (by rw[ZR,Yn hlt];rfl))
   have cm:=X9 hlt
   have HSk:Hid _:=HSg.out k hlt
   have HDk:Hid _:=HD.out ns[k] cm
   have HCk:Hid _:=HC.out ns[k] cm
   clear cc HD HC HNs HSg cm
   generalize hnk:ns[k]=n at*
   have HD':Hid (∀i:Nat,i< 4->∀W,Below w.heap.size w W->Calls aa.prog 27 #[.pointer (some ⟨b,0,none⟩),.int .i64 ((lev:Int)+1),.int .i64 ((n*4+i:Nat):Int)] W λe w'=>e= .returned (.int .u64 (bH w bm K (lev+1) (n*4+i)))/\Below W.heap.size W w'):=HDk.out
   have HC':Hid (∀i:Nat,i< 4->∀W,Calls aa.prog 103 #[.int .i64 n,.int .i64 i] W λe w'=>e= .returned (.int .i64 ((n*4+i:Nat):Int))/\w'=W):=HCk.out
   have HSk':Hid (sg.take (k+1)=sg.take k++ [(n,kids w bm K lev n)]):=HSk.out
   clear HDk HCk HSk
   have HD2:Hid (∀i:Nat,i< 4->∀W,Below w.heap.size w W->Calls aa.prog 27 #[.pointer (some ⟨b,0,none⟩),.int .i64 ((lev:Int)+1),.int .i64 ((n*4+i:Nat):Int)] W λe w'=>e= .returned (.int .u64 (kids w bm K lev n i))/\Below W.heap.size W w'):=λi hi W hW=>by
    have:=HD'.out i hi W hW
    rw[show bH w bm K (lev+1) (n*4+i)=kids w bm K lev n i by rw[kids,AT hi]] at this
    exact this
   clear HD'
   generalize kids w bm K lev n=d at*
   have a1:(k:Int)< (ns.length:Int):=by omega
   have a0:(0:Int)<=(k:Int):=by omega
   have HL0:Hid (qd w lev sg k (.slice adl k capl) wr.heap.size n 0 d (wr.alloc (.cells (fS n d 0) 163))):=⟨HJ.out.below ((By _ _).alloc (AI _) _),IS wr _,λq hq=>tI HJ.out.row hq,hst0⟩
   go_wp2
   generalize wr.heap.size=bn at*
   go_loopw [22] (λiv wq=>∃i:Nat,i<=4/\iv= .int .i64 i/\Hid (qd w lev sg k (.slice adl k capl) bn n i d wq)) (λiv _=>4 - (intOf iv).toNat)
   case atStart=>exact⟨0,by omega,rfl,HL0.out⟩
   case round=>
    obtain⟨i,hi,rfl,HL⟩:=hrel
    clear HL0
    by_cases hi4:i< 4
    ·have i1:(i:Int)< 4:=by omega
     have i00:(0:Int)<=(i:Int):=by omega
     have HDi:Hid (∀W,Below w.heap.size w W->Calls aa.prog 27 #[.pointer (some ⟨b,0,none⟩),.int .i64 ((lev:Int)+1),.int .i64 ((n*4+i:Nat):Int)] W λe w'=>e= .returned (.int .u64 (d i))/\Below W.heap.size W w'):=HD2.out i hi4
     have HCi:Hid (∀W,Calls aa.prog 103 #[.int .i64 n,.int .i64 i] W λe w'=>e= .returned (.int .i64 ((n*4+i:Nat):Int))/\w'=W):=HC'.out i hi4
     generalize ((n*4+i:Nat):Int)=ch at*
     go_wp2_with (first
      |(go_at_call 103;refine (HCi.out _).mono ?_;rintro e w' ⟨rfl,hw'⟩;subst w')
      |(go_at_call 27;refine (HDi.out _ HL.out.j.bP).mono ?_;rintro e w2 ⟨rfl,hb2⟩;obtain⟨hn2,hL2⟩:=HL.out.set hb2 hi4;obtain⟨c2,f2⟩:=au hn2;have cI:=(c2 (1+i)).trans (zz n d hi4);have fI:=f2 (1+i);clear c2 f2 hn2 hb2;have HL2:Hid (qd w lev sg k (.slice adl k capl) bn n (i+1) d (w2.setCell ⟨bn,1+i,none⟩ (.int .u64 (d i)))):=hL2;clear hL2))
     exact⟨⟨i+1,by omega,by go_num,HL2.out⟩,by simp[intOf];omega⟩
    ·obtain rfl:i=4:=by omega
     obtain⟨cs,fs⟩:=au HL.out.j.st
     obtain⟨cn4,fn4⟩:=au HL.out.nd
     have y14:=cs 1
     clear cs fs
     have hszq:=HL.out.j.bP.size
     have HRa:Hid ((wr.alloc (.cells (fS n d 4) 163)).ownsRow w.heap.size 163 5 (.slice adl k capl) k (dV (sg.take k))):=Yc HL.out.j.row _
     have HBa:Hid (Below w.heap.size w (wr.alloc (.cells (fS n d 4) 163))):=HL.out.j.bP.alloc hszq _
     go_wp2_with (at_builtin;refine Zq _ rfl _ _ _ rfl w.heap.size 163 i0 _ 5 40 aa.underlying126 hi0 hz0 hz1 hz2 rfl (by omega) (.slice adl k capl) _ _ rfl HRa.out ⟨wr.heap.size,0,none⟩ 1 1 _ rfl (by rfl) (Yo (IS wr _)) (by simp[Value.oneCell']) (by omega) (by unfold maxLen;omega) (by omega) HBa.out.size (wr.heap.size+1) (by simp) ?_;intro g4 cap4 w4 hown4 hgr4 hat4 hlt4;have HO4:Hid (w4.ownsRow w.heap.size 163 5 (.slice (some ⟨g4,0,none⟩) (k+1) cap4) (k+1) (dV (sg.take k)++(fS n d 4).toList)):=hown4;have hK4:bL (λt=>t≠163) wr w4:=(bL.below ((By _ _).alloc (AI _) _)).trans (bL.grown hgr4 HRa.out (λh=>h rfl));have hc4:=hK4 _ _ _ _ HL.out.j.st (by decide);have HC4:Hid (w4.heap[w.heap.size]? =some (.cells #[.int .i64 lev,.slice adl k capl] 128)):=hc4;obtain⟨cb4,fb4⟩:=au hc4;have c41:=cb4 1;have f41:=fb4 1;have HB4:Hid (Below w.heap.size w w4):=Below.grown HBa.out hgr4 HBa.out.size (λq hq=>pI HRa.out hq);clear cb4 fb4 hc4 hK4 hown4 hgr4)
     have hp:∀j,j< 4->gx d 4 j=d j:=λj hj=>by simp[gx,hj]
     refine⟨⟨k+1,_,by omega,by go_num,heap_set HC4.out,?_,HB4.out.setCell (AI _) _⟩,by simp[intOf];omega⟩
     rw[HSk'.out,dV,Ze]
     have:=fW HO4.out HC4.out (by decide) 1 (.slice (some ⟨g4,0,none⟩) (k+1) cap4)
     simp only[fS,hp 0 (by omega),hp 1 (by omega),hp 2 (by omega),hp 3 (by omega)] at this
     exact this
  ·obtain rfl:k=ns.length:=by omega
   have HTx':Hid (Calls aa.prog 104 #[.agg #[.int .i64 lev,.slice adl ns.length capl]] wr λe w'=>e= .returned (.string (Let.nodes lev sg).bytes)/\Below w.heap.size w w'):=HTx.out wr _ HJ.out
   go_wp2_with (go_at_call 104;refine BY HTx'.out ?_;rintro e w9 ⟨rfl,hb9⟩)
   go_ret
   exact⟨rfl,hb9⟩
theorem nj(w:World)(X Y Z:Obj):(((w.alloc X).alloc Y).alloc Z).heap[w.heap.size+1+1]? =some Z:=by
 simpa using IS ((w.alloc X).alloc Y) Z
theorem qa(w:World)(X Y Z:Obj):(((w.alloc X).alloc Y).alloc Z).heap[w.heap.size]? =some X:=by
 rw[OF _ _ _ (by simp;omega),OF _ _ _ (by simp)]
 exact IS w X
theorem jL{w:World}{base:Nat}{e:TypeId}{size:Nat}{v:Value}{n:Nat}{xs:List Value}(h:w.ownsRow base e size v n xs){g:Nat}(hg:v.ownBlock=some g):base<=g/\g< w.heap.size:=by
 rcases h.2 with ⟨h1,_⟩|⟨g',cap,cur,hv,hb,hh,_⟩
 ·rw[h1] at hg;cases hg
 ·rw[hv] at hg
  have:g'=g:=by simpa[Value.ownBlock] using hg
  subst this
  exact⟨hb,(IN.1 hh).1⟩
theorem mK{w w3 w4:World}{v v3:Value}{X:Obj}{b:Nat}(hb:w.heap[b]? =some X)(h3:w.grownBy w3 v.ownBlock)(h4:w3.grownBy w4 v3.ownBlock)(n3:some b≠v.ownBlock)(n4:some b≠v3.ownBlock):w4.heap[b]? =some X:=by
 have hlt:=(IN.1 hb).1
 rw[h4.block b (X4 hlt h3.size) n4,h3.block b hlt n3,hb]
theorem uF{w w1:World}{A B C:Array Value}{ta tb tc:TypeId}(hb:Below (w.heap.size+3) (((w.alloc (.cells A ta)).alloc (.cells B tb)).alloc (.cells C tc)) w1):
  w1.heap[w.heap.size+1+1]? =some (.cells C tc):=by
 rw[hb.block _ (by omega)]
 exact nj w _ _ _
theorem nu{w:World}{b:Nat}{A:Array Value}{t:TypeId}(h:w.heap[b]? =some (.cells A t)):(∀o,w.cell? ⟨b,o,none⟩=A[o]?)/\(∀o,w.frozen? ⟨b,o,none⟩=false):=
 ⟨λo=>by simp[World.cell?,h],λo=>by simp[World.frozen?,h]⟩
theorem LC(c:Ctx)(sv:Value)(l:List aj)(val:ByteArray)(seen:Ctx)(w:World)(h:aC w sv l)(hr:∀v∈l,v.rep< 4)(hlen:l.length<=100000)(hn:(aQ l seen).length< 20)(h0:0<=aL c seen 0)(h1:aL c seen 0< 1000000):
  Calls aa.prog 40 #[bh c sv,.int .i64 (0:Nat),.string val,cA seen] w λe w'=>∃v' l',e= .returned (.tuple #[bh (bump (aL c seen) 0) v',.int .i64 0])/\l'.Perm (aQ l seen++ [(0,aL c seen 0+1,val)])/\l'.Pairwise (λa b=>aR b a=false)/\w'.ownsRow w.heap.size 144 3 v' l'.length (aU l')/\Below w.heap.size w w':=by
 obtain⟨ad,cap,rfl,hcap⟩:=h.len
 have H3:Hid (∀a b d,aC (((w.alloc a).alloc b).alloc d) (.slice ad l.length cap) l):=λa b d=>((Yc h a).alloc b).alloc d
 have HR:Hid _:=hr
 clear h hr
 generalize hun:aQ l seen=U at*
 have HU:Hid _:=hun
 clear hun
 go_enter aa.func40,aa.ntmps40
 obtain⟨i0,hi0,hz0,hz1,hz2⟩:=Yk aa.oa
 go_wp2_with (first
  |(go_at_call 63;refine (mg c _ l seen _ (H3.out _ _ _) HR.out hlen).mono ?_;rintro e w1 ⟨v',rfl,aA,hb⟩;rw[HU.out] at aA;obtain⟨ad',cap',hv'⟩:=kM aA;subst hv';simp at hb;obtain⟨b0,b1,b2,f0,f1,f2⟩:=iP hb;have HO:Hid _:=cY aA (show w.heap.size+3<=_ by simp);have HB:Hid _:=hb;clear aA hb)
  |(go_at_call 64;refine (nM c seen _).mono ?_;rintro e w2 ⟨rfl,hb2⟩;have hb3:=HB.out.trans (hb2.mono (by have:=HB.out.size;simp at this;omega));obtain⟨b0,b1,b2,f0,f1,f2⟩:=iP hb3;have HB3:Hid _:=hb3;have HO2:Hid (w2.ownsRow (w.heap.size+3) 144 3 (.slice ad' U.length cap') U.length (aU U)):=dp HO.out hb2 (AI _);have z2:w.heap.size+1+1< w2.heap.size:=(by have:=hb3.size;simp at this;omega);clear hb3 hb2)
  |(at_builtin;refine Zq _ rfl _ _ _ rfl (w.heap.size+3) 144 i0 _ 3 32 aa.underlying104 hi0 hz0 hz1 hz2 rfl (by omega) (.slice ad' U.length cap') _ _ rfl (((HO2.out.alloc _).alloc _).alloc _) ⟨w2.heap.size+1+1,0,none⟩ 1 1 [.int .i64 0,.int .i64 (aL c seen 0+1),.string val] rfl rfl (Yo (cs:=#[.int .i64 0,.int .i64 (aL c seen 0+1),.string val]) (t:=144) (fr:=(0,0)) (nj w2 _ _ _)) (by simp[Value.oneCell']) (by omega) (by unfold maxLen;omega) (by omega) (by simp;omega) (w2.heap.size+1+1+1) (by simp) ?_;intro g capn w3 hown3 hgrow3 hat3 hlt3;have HW3:Hid _:=hown3;have HG3:Hid _:=hgrow3;have HA3:Hid _:=hat3;clear hown3 hgrow3 hat3)
  |(go_at_call 65;refine (ry (w.heap.size+3) _ (U++ [(0,aL c seen 0+1,val)]) _ (by have:=HW3.out;rw[Yh,mE];exact this) (by simp) (by simp;omega)).mono ?_;rintro e w4 ⟨rfl,l',hperm,hsort,hown4,hgrow4⟩;have aZ:∀b,b<=w2.heap.size->(b< w.heap.size+3\/b=w2.heap.size)->some b≠(Value.slice ad' U.length cap').ownBlock/\some b≠some g:=(λb hb hb'=>by
    have key:∀q,(Value.slice ad' U.length cap').ownBlock=some q->b≠q:=λq hq=>by have:=jL HO2.out hq;omega
    refine⟨λe=>key b e.symm rfl,λe=>?_⟩
    rcases HA3.out with h|h
    ·exact key g h (by simpa using e)
    ·have:b=g:=by simpa using e
     omega);obtain⟨c4,_⟩:=nu (mK (qa w2 _ _ _) HG3.out hgrow4 (aZ _ (AI _) (Or.inr rfl)).1 (aZ _ (AI _) (Or.inr rfl)).2);obtain⟨r4,fr4⟩:=nu (mK (w:=((w2.alloc _).alloc _).alloc _) (b:=w.heap.size+1+1) (by rw[OF _ _ _ (by simp;omega),OF _ _ _ (by simp;omega),OF _ _ _ z2];exact uF HB3.out) HG3.out hgrow4 (aZ _ (by omega) (Or.inl (by omega))).1 (aZ _ (by omega) (Or.inl (by omega))).2);have HN4:Hid _:=hown4;have HG4:Hid _:=hgrow4;have HP:Hid _:=hperm;have HS:Hid _:=hsort;clear hown4 hgrow4 hperm hsort aZ))
 refine YB (v:= .tuple #[bh (bump (aL c seen) 0) (.slice (some ⟨g,0,none⟩) (U.length+1) capn),.int .i64 0]) ?_ rfl ⟨_,l',rfl,HP.out,HS.out,?_,?_⟩
 ·simp[results,aa.results40,go_sem,bump,r4]
 ·exact cY (Yf (Yf (Yf (Yf (Yf HN4.out (by simp) _) (by simp) _) (by simp) _) (by simp) _) (by simp) _) (by omega)
 ·have base:Below w.heap.size w w2:=(((By _ _).alloc (AI _) _).alloc (by simp) _).alloc (by simp;omega) _|>.trans (HB3.out.mono (by omega))
  have base3:Below w.heap.size w w3:=(((base.alloc (by omega) _).alloc (by simp;omega) _).alloc (by simp;omega) _).grown HG3.out (by simp;omega) (λq hq=>by have:=jL HO2.out hq;omega)
  have base4:Below w.heap.size w w4:=base3.grown HG4.out base3.size (λq hq=>by have:=jL HW3.out hq;omega)
  repeat' (with_reducible (first|exact base4|refine Yg ?_ ?_ _|refine XY ?_ ?_ _))
  all_goals (first|omega|(simp;omega))
theorem QN(c:Ctx)(sv:Value)(l:List aj)(val:ByteArray)(seen:Ctx)(w:World)(h:aC w sv l)(hr:∀v∈l,v.rep< 4)(hlen:l.length<=100000)(hn:(aQ l seen).length< 20)(h0:0<=aL c seen 1)(h1:aL c seen 1< 1000000):
  Calls aa.prog 40 #[bh c sv,.int .i64 (1:Nat),.string val,cA seen] w λe w'=>∃v' l',e= .returned (.tuple #[bh (bump (aL c seen) 1) v',.int .i64 0])/\l'.Perm (aQ l seen++ [(1,aL c seen 1+1,val)])/\l'.Pairwise (λa b=>aR b a=false)/\w'.ownsRow w.heap.size 144 3 v' l'.length (aU l')/\Below w.heap.size w w':=by
 obtain⟨ad,cap,rfl,hcap⟩:=h.len
 have H3:Hid (∀a b d,aC (((w.alloc a).alloc b).alloc d) (.slice ad l.length cap) l):=λa b d=>((Yc h a).alloc b).alloc d
 have HR:Hid _:=hr
 clear h hr
 generalize hun:aQ l seen=U at*
 have HU:Hid _:=hun
 clear hun
 go_enter aa.func40,aa.ntmps40
 obtain⟨i0,hi0,hz0,hz1,hz2⟩:=Yk aa.oa
 go_wp2_with (first
  |(go_at_call 63;refine (mg c _ l seen _ (H3.out _ _ _) HR.out hlen).mono ?_;rintro e w1 ⟨v',rfl,aA,hb⟩;rw[HU.out] at aA;obtain⟨ad',cap',hv'⟩:=kM aA;subst hv';simp at hb;obtain⟨b0,b1,b2,f0,f1,f2⟩:=iP hb;have HO:Hid _:=cY aA (show w.heap.size+3<=_ by simp);have HB:Hid _:=hb;clear aA hb)
  |(go_at_call 64;refine (nM c seen _).mono ?_;rintro e w2 ⟨rfl,hb2⟩;have hb3:=HB.out.trans (hb2.mono (by have:=HB.out.size;simp at this;omega));obtain⟨b0,b1,b2,f0,f1,f2⟩:=iP hb3;have HB3:Hid _:=hb3;have HO2:Hid (w2.ownsRow (w.heap.size+3) 144 3 (.slice ad' U.length cap') U.length (aU U)):=dp HO.out hb2 (AI _);have z2:w.heap.size+1+1< w2.heap.size:=(by have:=hb3.size;simp at this;omega);clear hb3 hb2)
  |(at_builtin;refine Zq _ rfl _ _ _ rfl (w.heap.size+3) 144 i0 _ 3 32 aa.underlying104 hi0 hz0 hz1 hz2 rfl (by omega) (.slice ad' U.length cap') _ _ rfl (((HO2.out.alloc _).alloc _).alloc _) ⟨w2.heap.size+1+1,0,none⟩ 1 1 [.int .i64 1,.int .i64 (aL c seen 1+1),.string val] rfl rfl (Yo (cs:=#[.int .i64 1,.int .i64 (aL c seen 1+1),.string val]) (t:=144) (fr:=(0,0)) (nj w2 _ _ _)) (by simp[Value.oneCell']) (by omega) (by unfold maxLen;omega) (by omega) (by simp;omega) (w2.heap.size+1+1+1) (by simp) ?_;intro g capn w3 hown3 hgrow3 hat3 hlt3;have HW3:Hid _:=hown3;have HG3:Hid _:=hgrow3;have HA3:Hid _:=hat3;clear hown3 hgrow3 hat3)
  |(go_at_call 65;refine (ry (w.heap.size+3) _ (U++ [(1,aL c seen 1+1,val)]) _ (by have:=HW3.out;rw[Yh,mE];exact this) (by simp) (by simp;omega)).mono ?_;rintro e w4 ⟨rfl,l',hperm,hsort,hown4,hgrow4⟩;have aZ:∀b,b<=w2.heap.size->(b< w.heap.size+3\/b=w2.heap.size)->some b≠(Value.slice ad' U.length cap').ownBlock/\some b≠some g:=(λb hb hb'=>by
    have key:∀q,(Value.slice ad' U.length cap').ownBlock=some q->b≠q:=λq hq=>by have:=jL HO2.out hq;omega
    refine⟨λe=>key b e.symm rfl,λe=>?_⟩
    rcases HA3.out with h|h
    ·exact key g h (by simpa using e)
    ·have:b=g:=by simpa using e
     omega);obtain⟨c4,_⟩:=nu (mK (qa w2 _ _ _) HG3.out hgrow4 (aZ _ (AI _) (Or.inr rfl)).1 (aZ _ (AI _) (Or.inr rfl)).2);obtain⟨r4,fr4⟩:=nu (mK (w:=((w2.alloc _).alloc _).alloc _) (b:=w.heap.size+1+1) (by rw[OF _ _ _ (by simp;omega),OF _ _ _ (by simp;omega),OF _ _ _ z2];exact uF HB3.out) HG3.out hgrow4 (aZ _ (by omega) (Or.inl (by omega))).1 (aZ _ (by omega) (Or.inl (by omega))).2);have HN4:Hid _:=hown4;have HG4:Hid _:=hgrow4;have HP:Hid _:=hperm;have HS:Hid _:=hsort;clear hown4 hgrow4 hperm hsort aZ))
 refine YB (v:= .tuple #[bh (bump (aL c seen) 1) (.slice (some ⟨g,0,none⟩) (U.length+1) capn),.int .i64 0]) ?_ rfl ⟨_,l',rfl,HP.out,HS.out,?_,?_⟩
 ·simp[results,aa.results40,go_sem,bump,r4]
 ·exact cY (Yf (Yf (Yf (Yf (Yf HN4.out (by simp) _) (by simp) _) (by simp) _) (by simp) _) (by simp) _) (by omega)
 ·have base:Below w.heap.size w w2:=(((By _ _).alloc (AI _) _).alloc (by simp) _).alloc (by simp;omega) _|>.trans (HB3.out.mono (by omega))
  have base3:Below w.heap.size w w3:=(((base.alloc (by omega) _).alloc (by simp;omega) _).alloc (by simp;omega) _).grown HG3.out (by simp;omega) (λq hq=>by have:=jL HO2.out hq;omega)
  have base4:Below w.heap.size w w4:=base3.grown HG4.out base3.size (λq hq=>by have:=jL HW3.out hq;omega)
  repeat' (with_reducible (first|exact base4|refine Yg ?_ ?_ _|refine XY ?_ ?_ _))
  all_goals (first|omega|(simp;omega))
theorem WM(c:Ctx)(sv:Value)(l:List aj)(val:ByteArray)(seen:Ctx)(w:World)(h:aC w sv l)(hr:∀v∈l,v.rep< 4)(hlen:l.length<=100000)(hn:(aQ l seen).length< 20)(h0:0<=aL c seen 2)(h1:aL c seen 2< 1000000):
  Calls aa.prog 40 #[bh c sv,.int .i64 (2:Nat),.string val,cA seen] w λe w'=>∃v' l',e= .returned (.tuple #[bh (bump (aL c seen) 2) v',.int .i64 0])/\l'.Perm (aQ l seen++ [(2,aL c seen 2+1,val)])/\l'.Pairwise (λa b=>aR b a=false)/\w'.ownsRow w.heap.size 144 3 v' l'.length (aU l')/\Below w.heap.size w w':=by
 obtain⟨ad,cap,rfl,hcap⟩:=h.len
 have H3:Hid (∀a b d,aC (((w.alloc a).alloc b).alloc d) (.slice ad l.length cap) l):=λa b d=>((Yc h a).alloc b).alloc d
 have HR:Hid _:=hr
 clear h hr
 generalize hun:aQ l seen=U at*
 have HU:Hid _:=hun
 clear hun
 go_enter aa.func40,aa.ntmps40
 obtain⟨i0,hi0,hz0,hz1,hz2⟩:=Yk aa.oa
 go_wp2_with (first
  |(go_at_call 63;refine (mg c _ l seen _ (H3.out _ _ _) HR.out hlen).mono ?_;rintro e w1 ⟨v',rfl,aA,hb⟩;rw[HU.out] at aA;obtain⟨ad',cap',hv'⟩:=kM aA;subst hv';simp at hb;obtain⟨b0,b1,b2,f0,f1,f2⟩:=iP hb;have HO:Hid _:=cY aA (show w.heap.size+3<=_ by simp);have HB:Hid _:=hb;clear aA hb)
  |(go_at_call 64;refine (nM c seen _).mono ?_;rintro e w2 ⟨rfl,hb2⟩;have hb3:=HB.out.trans (hb2.mono (by have:=HB.out.size;simp at this;omega));obtain⟨b0,b1,b2,f0,f1,f2⟩:=iP hb3;have HB3:Hid _:=hb3;have HO2:Hid (w2.ownsRow (w.heap.size+3) 144 3 (.slice ad' U.length cap') U.length (aU U)):=dp HO.out hb2 (AI _);have z2:w.heap.size+1+1< w2.heap.size:=(by have:=hb3.size;simp at this;omega);clear hb3 hb2)
  |(at_builtin;refine Zq _ rfl _ _ _ rfl (w.heap.size+3) 144 i0 _ 3 32 aa.underlying104 hi0 hz0 hz1 hz2 rfl (by omega) (.slice ad' U.length cap') _ _ rfl (((HO2.out.alloc _).alloc _).alloc _) ⟨w2.heap.size+1+1,0,none⟩ 1 1 [.int .i64 2,.int .i64 (aL c seen 2+1),.string val] rfl rfl (Yo (cs:=#[.int .i64 2,.int .i64 (aL c seen 2+1),.string val]) (t:=144) (fr:=(0,0)) (nj w2 _ _ _)) (by simp[Value.oneCell']) (by omega) (by unfold maxLen;omega) (by omega) (by simp;omega) (w2.heap.size+1+1+1) (by simp) ?_;intro g capn w3 hown3 hgrow3 hat3 hlt3;have HW3:Hid _:=hown3;have HG3:Hid _:=hgrow3;have HA3:Hid _:=hat3;clear hown3 hgrow3 hat3)
  |(go_at_call 65;refine (ry (w.heap.size+3) _ (U++ [(2,aL c seen 2+1,val)]) _ (by have:=HW3.out;rw[Yh,mE];exact this) (by simp) (by simp;omega)).mono ?_;rintro e w4 ⟨rfl,l',hperm,hsort,hown4,hgrow4⟩;have aZ:∀b,b<=w2.heap.size->(b< w.heap.size+3\/b=w2.heap.size)->some b≠(Value.slice ad' U.length cap').ownBlock/\some b≠some g:=(λb hb hb'=>by
    have key:∀q,(Value.slice ad' U.length cap').ownBlock=some q->b≠q:=λq hq=>by have:=jL HO2.out hq;omega
    refine⟨λe=>key b e.symm rfl,λe=>?_⟩
    rcases HA3.out with h|h
    ·exact key g h (by simpa using e)
    ·have:b=g:=by simpa using e
     omega);obtain⟨c4,_⟩:=nu (mK (qa w2 _ _ _) HG3.out hgrow4 (aZ _ (AI _) (Or.inr rfl)).1 (aZ _ (AI _) (Or.inr rfl)).2);obtain⟨r4,fr4⟩:=nu (mK (w:=((w2.alloc _).alloc _).alloc _) (b:=w.heap.size+1+1) (by rw[OF _ _ _ (by simp;omega),OF _ _ _ (by simp;omega),OF _ _ _ z2];exact uF HB3.out) HG3.out hgrow4 (aZ _ (by omega) (Or.inl (by omega))).1 (aZ _ (by omega) (Or.inl (by omega))).2);have HN4:Hid _:=hown4;have HG4:Hid _:=hgrow4;have HP:Hid _:=hperm;have HS:Hid _:=hsort;clear hown4 hgrow4 hperm hsort aZ))
 refine YB (v:= .tuple #[bh (bump (aL c seen) 2) (.slice (some ⟨g,0,none⟩) (U.length+1) capn),.int .i64 0]) ?_ rfl ⟨_,l',rfl,HP.out,HS.out,?_,?_⟩
 ·simp[results,aa.results40,go_sem,bump,r4]
 ·exact cY (Yf (Yf (Yf (Yf (Yf HN4.out (by simp) _) (by simp) _) (by simp) _) (by simp) _) (by simp) _) (by omega)
 ·have base:Below w.heap.size w w2:=(((By _ _).alloc (AI _) _).alloc (by simp) _).alloc (by simp;omega) _|>.trans (HB3.out.mono (by omega))
  have base3:Below w.heap.size w w3:=(((base.alloc (by omega) _).alloc (by simp;omega) _).alloc (by simp;omega) _).grown HG3.out (by simp;omega) (λq hq=>by have:=jL HO2.out hq;omega)
  have base4:Below w.heap.size w w4:=base3.grown HG4.out base3.size (λq hq=>by have:=jL HW3.out hq;omega)
  repeat' (with_reducible (first|exact base4|refine Yg ?_ ?_ _|refine XY ?_ ?_ _))
  all_goals (first|omega|(simp;omega))
theorem QD(c:Ctx)(sv:Value)(l:List aj)(val:ByteArray)(seen:Ctx)(w:World)(h:aC w sv l)(hr:∀v∈l,v.rep< 4)(hlen:l.length<=100000)(hn:(aQ l seen).length< 20)(h0:0<=aL c seen 3)(h1:aL c seen 3< 1000000):
  Calls aa.prog 40 #[bh c sv,.int .i64 (3:Nat),.string val,cA seen] w λe w'=>∃v' l',e= .returned (.tuple #[bh (bump (aL c seen) 3) v',.int .i64 0])/\l'.Perm (aQ l seen++ [(3,aL c seen 3+1,val)])/\l'.Pairwise (λa b=>aR b a=false)/\w'.ownsRow w.heap.size 144 3 v' l'.length (aU l')/\Below w.heap.size w w':=by
 obtain⟨ad,cap,rfl,hcap⟩:=h.len
 have H3:Hid (∀a b d,aC (((w.alloc a).alloc b).alloc d) (.slice ad l.length cap) l):=λa b d=>((Yc h a).alloc b).alloc d
 have HR:Hid _:=hr
 clear h hr
 generalize hun:aQ l seen=U at*
 have HU:Hid _:=hun
 clear hun
 go_enter aa.func40,aa.ntmps40
 obtain⟨i0,hi0,hz0,hz1,hz2⟩:=Yk aa.oa
 go_wp2_with (first
  |(go_at_call 63;refine (mg c _ l seen _ (H3.out _ _ _) HR.out hlen).mono ?_;rintro e w1 ⟨v',rfl,aA,hb⟩;rw[HU.out] at aA;obtain⟨ad',cap',hv'⟩:=kM aA;subst hv';simp at hb;obtain⟨b0,b1,b2,f0,f1,f2⟩:=iP hb;have HO:Hid _:=cY aA (show w.heap.size+3<=_ by simp);have HB:Hid _:=hb;clear aA hb)
  |(go_at_call 64;refine (nM c seen _).mono ?_;rintro e w2 ⟨rfl,hb2⟩;have hb3:=HB.out.trans (hb2.mono (by have:=HB.out.size;simp at this;omega));obtain⟨b0,b1,b2,f0,f1,f2⟩:=iP hb3;have HB3:Hid _:=hb3;have HO2:Hid (w2.ownsRow (w.heap.size+3) 144 3 (.slice ad' U.length cap') U.length (aU U)):=dp HO.out hb2 (AI _);have z2:w.heap.size+1+1< w2.heap.size:=(by have:=hb3.size;simp at this;omega);clear hb3 hb2)
  |(at_builtin;refine Zq _ rfl _ _ _ rfl (w.heap.size+3) 144 i0 _ 3 32 aa.underlying104 hi0 hz0 hz1 hz2 rfl (by omega) (.slice ad' U.length cap') _ _ rfl (((HO2.out.alloc _).alloc _).alloc _) ⟨w2.heap.size+1+1,0,none⟩ 1 1 [.int .i64 3,.int .i64 (aL c seen 3+1),.string val] rfl rfl (Yo (cs:=#[.int .i64 3,.int .i64 (aL c seen 3+1),.string val]) (t:=144) (fr:=(0,0)) (nj w2 _ _ _)) (by simp[Value.oneCell']) (by omega) (by unfold maxLen;omega) (by omega) (by simp;omega) (w2.heap.size+1+1+1) (by simp) ?_;intro g capn w3 hown3 hgrow3 hat3 hlt3;have HW3:Hid _:=hown3;have HG3:Hid _:=hgrow3;have HA3:Hid _:=hat3;clear hown3 hgrow3 hat3)
  |(go_at_call 65;refine (ry (w.heap.size+3) _ (U++ [(3,aL c seen 3+1,val)]) _ (by have:=HW3.out;rw[Yh,mE];exact this) (by simp) (by simp;omega)).mono ?_;rintro e w4 ⟨rfl,l',hperm,hsort,hown4,hgrow4⟩;have aZ:∀b,b<=w2.heap.size->(b< w.heap.size+3\/b=w2.heap.size)->some b≠(Value.slice ad' U.length cap').ownBlock/\some b≠some g:=(λb hb hb'=>by
    have key:∀q,(Value.slice ad' U.length cap').ownBlock=some q->b≠q:=λq hq=>by have:=jL HO2.out hq;omega
    refine⟨λe=>key b e.symm rfl,λe=>?_⟩
    rcases HA3.out with h|h
    ·exact key g h (by simpa using e)
    ·have:b=g:=by simpa using e
     omega);obtain⟨c4,_⟩:=nu (mK (qa w2 _ _ _) HG3.out hgrow4 (aZ _ (AI _) (Or.inr rfl)).1 (aZ _ (AI _) (Or.inr rfl)).2);obtain⟨r4,fr4⟩:=nu (mK (w:=((w2.alloc _).alloc _).alloc _) (b:=w.heap.size+1+1) (by rw[OF _ _ _ (by simp;omega),OF _ _ _ (by simp;omega),OF _ _ _ z2];exact uF HB3.out) HG3.out hgrow4 (aZ _ (by omega) (Or.inl (by omega))).1 (aZ _ (by omega) (Or.inl (by omega))).2);have HN4:Hid _:=hown4;have HG4:Hid _:=hgrow4;have HP:Hid _:=hperm;have HS:Hid _:=hsort;clear hown4 hgrow4 hperm hsort aZ))
 refine YB (v:= .tuple #[bh (bump (aL c seen) 3) (.slice (some ⟨g,0,none⟩) (U.length+1) capn),.int .i64 0]) ?_ rfl ⟨_,l',rfl,HP.out,HS.out,?_,?_⟩
 ·simp[results,aa.results40,go_sem,bump,r4]
 ·exact cY (Yf (Yf (Yf (Yf (Yf HN4.out (by simp) _) (by simp) _) (by simp) _) (by simp) _) (by simp) _) (by omega)
 ·have base:Below w.heap.size w w2:=(((By _ _).alloc (AI _) _).alloc (by simp) _).alloc (by simp;omega) _|>.trans (HB3.out.mono (by omega))
  have base3:Below w.heap.size w w3:=(((base.alloc (by omega) _).alloc (by simp;omega) _).alloc (by simp;omega) _).grown HG3.out (by simp;omega) (λq hq=>by have:=jL HO2.out hq;omega)
  have base4:Below w.heap.size w w4:=base3.grown HG4.out base3.size (λq hq=>by have:=jL HW3.out hq;omega)
  repeat' (with_reducible (first|exact base4|refine Yg ?_ ?_ _|refine XY ?_ ?_ _))
  all_goals (first|omega|(simp;omega))
theorem FX(c:Ctx)(sv:Value)(l:List aj)(rep:Nat)(val:ByteArray)(seen:Ctx)(w:World)(h:aC w sv l)(hr:∀v∈l,v.rep< 4)(hlen:l.length<=100000)(bk:rep< 4)(hn:(aQ l seen).length< 20)(h0:0<=aL c seen rep)(h1:aL c seen rep< 1000000):
  Calls aa.prog 40 #[bh c sv,.int .i64 rep,.string val,cA seen] w λe w'=>∃v' l',e= .returned (.tuple #[bh (bump (aL c seen) rep) v',.int .i64 0])/\l'.Perm (aQ l seen++ [(rep,aL c seen rep+1,val)])/\l'.Pairwise (λa b=>aR b a=false)/\w'.ownsRow w.heap.size 144 3 v' l'.length (aU l')/\Below w.heap.size w w':=by
 rcases fg bk with rfl|rfl|rfl|rfl
 ·exact LC c sv l val seen w h hr hlen hn h0 h1
 ·exact QN c sv l val seen w h hr hlen hn h0 h1
 ·exact WM c sv l val seen w h hr hlen hn h0 h1
 ·exact QD c sv l val seen w h hr hlen hn h0 h1
end Go.Proofs.YtldmcdeibiclkaaGreatDoorQ
