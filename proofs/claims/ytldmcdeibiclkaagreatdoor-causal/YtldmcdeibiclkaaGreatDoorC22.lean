/-
  Toward causal_holds: Contracts: a letter with nodes is read as it was written: the closure, readNodes.
-/
import Derived.Test.YtldmcdeibiclkaaGreatDoorC21
set_option linter.unusedVariables false
set_option linter.unusedSimpArgs false
set_option maxRecDepth 100000
set_option maxHeartbeats 20000000
namespace Go.Proofs.YtldmcdeibiclkaaGreatDoorQ
open Go.RowKit
theorem aa.AE:(aa.prog.info? 163).map (λi=>(i.zero,i.size,i.bytes))=some (some (.agg #[.int .i64 0,.int .u64 0,.int .u64 0,.int .u64 0,.int .u64 0]),5,40):=by kernel_rfl
abbrev Nd:=Nat×(Nat->Int)
def EY(d:Nat->Int):Prop:=∀i,i< 4->0<=d i/\d i< 18446744073709551616
def jQ(d:Nat->Int)(i:Nat):ByteArray:=(List.range' i (4 - i)).foldr (λj s=>fG (d j)++s) ByteArray.empty
theorem Ey(d:Nat->Int):jQ d 0=dT d 4:=by
 simp[jQ,dT,List.range'_succ,gI,cq,iY]
theorem RX(d:Nat->Int){i:Nat}(h:i< 4):jQ d i=fG (d i)++jQ d (i+1):=by
 unfold jQ
 rw[show 4 - i=(4 - (i+1))+1 by omega,List.range'_succ]
 simp
theorem NO(d:Nat->Int):jQ d 4=ByteArray.empty:=rfl
def bS:List Nd->ByteArray
 |[]=>ByteArray.empty
 |g::l=>al g.1++(jQ g.2 0++bS l)
theorem KW{l:List Nd}{k:Nat}(h:k< l.length):bS (l.drop k)=al l[k].1++(jQ l[k].2 0++bS (l.drop (k+1))):=by
 rw[aal h,bS]
def lE(g:Nd):List Value:=[.int .i64 g.1,.int .u64 (g.2 0),.int .u64 (g.2 1),.int .u64 (g.2 2),.int .u64 (g.2 3)]
def dV(l:List Nd):List Value:=l.flatMap lE
abbrev fS(n:Nat)(d:Nat->Int)(i:Nat):Array Value:=#[.int .i64 n,.int .u64 (gx d i 0),.int .u64 (gx d i 1),.int .u64 (gx d i 2),.int .u64 (gx d i 3)]
theorem Dp(n:Nat)(d:Nat->Int){i:Nat}(h:i< 4):(fS n d i).setIfInBounds (1+i) (.int .u64 (d i))=fS n d (i+1):=by
 rcases fg h with rfl|rfl|rfl|rfl<;>simp[fS,gx]
theorem zz(n:Nat)(d:Nat->Int){i:Nat}(h:i< 4):(fS n d i)[1+i]? =some (.int .u64 0):=by
 rcases fg h with rfl|rfl|rfl|rfl<;>simp[fS,gx]
structure pn(w:World)(b bb bs br lev:Nat)(sg:List Nd)(s:ByteArray)(k:Nat)(W:World):Prop where
 box:W.heap[bb]? =some (.cells #[.pointer (some ⟨b,0,none⟩)] 122)
 st: ∃lv,W.heap[bs]? =some (.cells #[.int .i64 lev,lv] 128)/\W.ownsRow w.heap.size 163 5 lv k (dV (sg.take k))
 res:W.heap[br]? =some (.cells #[.int .i64 0,.slice none 0 0] 128)
 rd:Rd w W b (bS (sg.drop k)++s)
theorem pn.zW{w W W':World}{b bb bs br lev k:Nat}{sg:List Nd}{s':ByteArray}{lv:Value}(hbox:W.heap[bb]? =some (.cells #[.pointer (some ⟨b,0,none⟩)] 122))(hst:W.heap[bs]? =some (.cells #[.int .i64 lev,lv] 128))(hrow:W.ownsRow w.heap.size 163 5 lv k (dV (sg.take k)))(hres:W.heap[br]? =some (.cells #[.int .i64 0,.slice none 0 0] 128)){s0:ByteArray}(h0:bl W b s0)(hr:Rd W W' b s'):
  W'.heap[bb]? =some (.cells #[.pointer (some ⟨b,0,none⟩)] 122)/\W'.heap[bs]? =some (.cells #[.int .i64 lev,lv] 128)/\W'.ownsRow w.heap.size 163 5 lv k (dV (sg.take k))/\W'.heap[br]? =some (.cells #[.int .i64 0,.slice none 0 0] 128):=by
 have hK:bL (λt=>t≠158) W W':=bL.rd hr h0 (λh=>h rfl)
 exact⟨hK _ _ _ _ hbox (by decide),hK _ _ _ _ hst (by decide),hK.row hrow (by decide),hK _ _ _ _ hres (by decide)⟩
structure p6(w:World)(b bb bs br lev bn k i:Nat)(lv:Value)(n:Nat)(d:Nat->Int)(sg:List Nd)(s:ByteArray)(W:World):Prop where
 box:W.heap[bb]? =some (.cells #[.pointer (some ⟨b,0,none⟩)] 122)
 st:W.heap[bs]? =some (.cells #[.int .i64 lev,lv] 128)
 row:W.ownsRow w.heap.size 163 5 lv k (dV (sg.take k))
 res:W.heap[br]? =some (.cells #[.int .i64 0,.slice none 0 0] 128)
 nd:W.heap[bn]? =some (.cells (fS n d i) 163)
 rQ:∀q,lv.ownBlock=some q->q< bn
 rd:Rd w W b (jQ d i++s)
theorem Gk(w:World)(b bb bs br lev:Nat)(sg:List Nd)(s:ByteArray)(hne:b< w.heap.size/\w.heap.size<=bb/\w.heap.size<=bs/\w.heap.size<=br/\bb≠bs/\br≠bs)(hlen:sg.length<=64)(k:Nat)(hk:k< sg.length)(hok:EY sg[k].2)(W W':World)(h:pn w b bb bs br lev sg s k W)(hr:Rd W W' b (jQ sg[k].2 0++(bS (sg.drop (k+1))++s))):
  Calls aa.prog 75 #[.int .i64 sg[k].1,.pointer (some ⟨bb,0,none⟩),.pointer (some ⟨bs,0,none⟩)] W' λe w'=>e= .returned (.tuple #[])/\pn w b bb bs br lev sg s (k+1) w':=by
 obtain⟨i0,hi0,hz0,hz1,hz2⟩:=Yk aa.AE
 obtain⟨n1,n2,n3,n4,n5,n6⟩:=hne
 have HTk:Hid (sg.take (k+1)=sg.take k++ [sg[k]]):=Yu hk
 obtain⟨lv,hst,hrow⟩:=h.st
 obtain⟨ad,cap,rfl⟩:=gY hrow
 obtain⟨m1,m2,m3,m4⟩:=pn.zW h.box hst hrow h.res h.rd.1 hr
 have hrd:=h.rd.trans hr
 clear h hr hst hrow
 generalize sg[k]=g at*
 obtain⟨n,d⟩:=g
 simp only at*
 have hbl:∀q,Value.ownBlock (.slice ad k cap)=some q->q< W'.heap.size:=λq hq=>tI m3 hq
 have HL0:Hid (p6 w b bb bs br lev W'.heap.size k 0 (.slice ad k cap) n d sg (bS (sg.drop (k+1))++s) (W'.alloc (.cells (fS n d 0) 163))):=
  have hb:Below W'.heap.size W' (W'.alloc (.cells (fS n d 0) 163)):=(By _ _).alloc (AI _) _
  ⟨aY m1 hb,aY m2 hb,dp m3 hb (AI _),aY m4 hb,IS W' _,hbl,hrd.below hb⟩
 have hbn:w.heap.size<=W'.heap.size:=hrd.2.size
 have HDg:Hid (∀i,i< 4->∀W1,p6 w b bb bs br lev W'.heap.size k i (.slice ad k cap) n d sg (bS (sg.drop (k+1))++s) W1->Calls aa.prog 54 #[.pointer (some ⟨b,0,none⟩)] W1 λe w2=>e= .returned (.int .u64 (d i))/\w2.heap[W'.heap.size]? =some (.cells (fS n d i) 163)/\p6 w b bb bs br lev W'.heap.size k (i+1) (.slice ad k cap) n d sg (bS (sg.drop (k+1))++s) (w2.setCell ⟨W'.heap.size,1+i,none⟩ (.int .u64 (d i)))):=by
  intro i hi W1 hL
  have h3:=hL.rd
  rw[RX d hi,cq] at h3
  refine (CS b (d i) _ W1 h3.1 (hok i hi).1 (hok i hi).2).mono ?_
  rintro e w2 ⟨rfl,hr2⟩
  obtain⟨x1,x2,x3,x4⟩:=pn.zW hL.box hL.st hL.row hL.res h3.1 hr2
  have x5:=hr2.other hL.nd (by omega)
  have hnb:W'.heap.size≠bb:=λe=>by rw[e,x1] at x5;cases x5
  have hns:W'.heap.size≠bs:=λe=>by rw[e,x2] at x5;cases x5
  have aZ:W'.heap.size≠br:=λe=>by rw[e,x4] at x5;cases x5
  have x6:=heap_set (o:=1+i) (v:= .int .u64 (d i)) x5
  rw[Dp n d hi] at x6
  refine⟨rfl,x5,⟨?_,?_,?_,?_,x6,hL.rQ,(h3.trans hr2).setCell ⟨hbn,by omega⟩ _⟩⟩
  ·rw[Yj _ _ _ _ (Ne.symm hnb)];exact x1
  ·rw[Yj _ _ _ _ (Ne.symm hns)];exact x2
  ·refine sN x3 λq hq hv=>Yj _ _ _ _ (λe=>?_)
   have:=hL.rQ q hv
   simp only at e
   omega
  ·rw[Yj _ _ _ _ (Ne.symm aZ)];exact x4
 clear m1 m2 m3 m4 hrd hbl hok
 go_enter aa.func75,aa.ntmps75
 go_wp2
 generalize W'.heap.size=bn at*
 go_loopw [8] (λiv wr=>∃i:Nat,i<=4/\iv= .int .i64 i/\Hid (p6 w b bb bs br lev bn k i (.slice ad k cap) n d sg (bS (sg.drop (k+1))++s) wr)) (λiv _=>4 - (intOf iv).toNat)
 case atStart=>exact⟨0,by omega,rfl,HL0.out⟩
 case round=>
  obtain⟨i,hi,rfl,HL⟩:=hrel
  clear HL0
  by_cases hi4:i< 4
  ·have i1:(i:Int)< 4:=by omega
   have i00:(0:Int)<=(i:Int):=by omega
   have bx:=(au HL.out.box).1 0
   have HD':Hid (Calls aa.prog 54 #[.pointer (some ⟨b,0,none⟩)] wr λe w2=>e= .returned (.int .u64 (d i))/\w2.heap[bn]? =some (.cells (fS n d i) 163)/\p6 w b bb bs br lev bn k (i+1) (.slice ad k cap) n d sg (bS (sg.drop (k+1))++s) (w2.setCell ⟨bn,1+i,none⟩ (.int .u64 (d i)))):=HDg.out i hi4 wr HL.out
   go_wp2_with (go_at_call 54;refine HD'.out.mono ?_;rintro e w2 ⟨rfl,hn2,hL2⟩;obtain⟨c2,f2⟩:=au hn2;have cI:=(c2 (1+i)).trans (zz n d hi4);have fI:=f2 (1+i);clear c2 f2 hn2;have HL2:Hid (p6 w b bb bs br lev bn k (i+1) (.slice ad k cap) n d sg (bS (sg.drop (k+1))++s) (w2.setCell ⟨bn,1+i,none⟩ (.int .u64 (d i)))):=hL2;clear hL2)
   exact⟨⟨i+1,by omega,by go_num,HL2.out⟩,by simp[intOf];omega⟩
  ·obtain rfl:i=4:=by omega
   obtain⟨cs,fs⟩:=au HL.out.st
   obtain⟨cn,fn⟩:=au HL.out.nd
   have y1:=cs 1
   clear cs fs
   go_wp2_with (at_builtin;refine Zq _ rfl _ _ _ rfl w.heap.size 163 i0 _ 5 40 aa.underlying126 hi0 hz0 hz1 hz2 rfl (by omega) (.slice ad k cap) _ _ rfl (Yc HL.out.row _) ⟨wr.heap.size,0,none⟩ 1 1 _ rfl (by rfl) (Yo (IS wr _)) (by simp[Value.oneCell']) (by omega) (by unfold maxLen;omega) (by omega) (by have:=HL.out.rd.2.size;simp;omega) (wr.heap.size+1) (by simp) ?_;intro g4 cap4 w4 hown4 hgr4 hat4 hlt4;have HO4:Hid (w4.ownsRow w.heap.size 163 5 (.slice (some ⟨g4,0,none⟩) (k+1) cap4) (k+1) (dV (sg.take k)++(fS n d 4).toList)):=hown4;have hK4:bL (λt=>t≠163) wr w4:=(bL.below ((By _ _).alloc (AI _) _)).trans (bL.grown hgr4 (Yc HL.out.row _) (λh=>h rfl));have HK4:Hid (bL (λt=>t≠163) wr w4):=hK4;have hc4:=hK4 _ _ _ _ HL.out.st (by decide);obtain⟨cb4,fb4⟩:=au hc4;have c41:=cb4 1;have f41:=fb4 1;have HRd4:Hid (Rd w w4 b (jQ d 4++(bS (sg.drop (k+1))++s))):=(HL.out.rd.below ((By _ _).alloc (AI _) _)).mS (Yc HL.out.row _) hgr4 (by decide);clear cb4 fb4 hc4 hK4 hown4 hgr4)
   go_end0
   have hs4:=HK4.out _ _ _ _ HL.out.st (by decide)
   have hrd4:=HRd4.out
   rw[NO,iY] at hrd4
   have hp:∀j,j< 4->gx d 4 j=d j:=λj hj=>by simp[gx,hj]
   refine⟨rfl,?_,⟨_,heap_set hs4,?_⟩,?_,hrd4.setCell ⟨n3,by omega⟩ _⟩
   ·rw[Yj _ _ _ _ n5];exact HK4.out _ _ _ _ HL.out.box (by decide)
   ·rw[HTk.out,dV,Ze]
    have:=fW HO4.out hs4 (by decide) 1 (.slice (some ⟨g4,0,none⟩) (k+1) cap4)
    simp only[fS,hp 0 (by omega),hp 1 (by omega),hp 2 (by omega),hp 3 (by omega)] at this
    exact this
   ·rw[Yj _ _ _ _ n6];exact HK4.out _ _ _ _ HL.out.res (by decide)
structure kP(lev:Nat)(sg:List Nd):Prop where
 low:lev< 3
 len:1<=sg.length/\sg.length<=64
 num:∀g∈sg,g.1< 4 ^ lev/\EY g.2
 je:(sg.map (·.1)).Pairwise (· < ·)
theorem S8(b lev:Nat)(sg:List Nd)(s:ByteArray)(w:World)(h:bl w b (al lev++(al sg.length++(bS sg++s))))(hok:kP lev sg):
  Calls aa.prog 55 #[.pointer (some ⟨b,0,none⟩)] w λe w'=>∃lv,e= .returned (.agg #[.int .i64 lev,lv])/\w'.ownsRow w.heap.size 163 5 lv sg.length (dV sg)/\Rd w w' b s:=by
 have hbl:=h.lt
 have hl:=hok.len
 have hlev:=hok.low
 have HE:Hid (∀W bs,w.heap.size+2<=bs->W.heap[w.heap.size]? =some (.cells #[.pointer (some ⟨b,0,none⟩)] 122)->W.heap[w.heap.size+1]? =some (.cells #[.int .i64 0,.slice none 0 0] 128)->W.heap[bs]? =some (.cells #[.int .i64 lev,.slice none 0 0] 128)->Rd w W b (al sg.length++(bS sg++s))->
   Calls aa.prog 74 #[.pointer (some ⟨b,0,none⟩),.int .i64 lev,.func (.func 75) #[] #[.pointer (some ⟨w.heap.size,0,none⟩),.pointer (some ⟨bs,0,none⟩)]] W λe w'=>e= .returned (.tuple #[])/\∃lv,w'.heap[bs]? =some (.cells #[.int .i64 lev,lv] 128)/\w'.ownsRow w.heap.size 163 5 lv sg.length (dV sg)/\w'.heap[w.heap.size+1]? =some (.cells #[.int .i64 0,.slice none 0 0] 128)/\Rd w w' b s):=by
  intro W bs h0 h1 h2 h3 h4
  have e1:(sg.map (·.1)).length=sg.length:=Yr ..
  have:=GD b lev (.pointer (some ⟨w.heap.size,0,none⟩)) (.pointer (some ⟨bs,0,none⟩)) (sg.map (·.1)) (λk=>bS (sg.drop k)++s) (λk=>jQ ((sg[k]?.map (·.2)).getD λ_=>0) 0) (pn w b w.heap.size bs (w.heap.size+1) lev sg s) W
   (by rw[e1,List.drop_zero];exact h4.1) (by rw[e1];exact hl) (by omega) (λn hn=>by obtain⟨g,hg,rfl⟩:=Ya.1 hn;exact (hok.num g hg).1) hok.je
   (λk hk=>by rw[e1] at hk;simp only[KW hk,ZX,Yn hk,YO,Zv,cq])
   (λw' hr=>⟨hr.other h1 (by omega),⟨_,hr.other h3 (by omega),Y6 _ _ _ _⟩,hr.other h2 (by omega),h4.trans hr⟩)
   (λk W hJ=>hJ.rd.1)
   (λk hk W W' hJ hr=>by
    rw[e1] at hk
    simp only[Yn hk,YO,Zv] at hr
    have:=Gk w b w.heap.size bs (w.heap.size+1) lev sg s (by omega) hl.2 k hk (hok.num _ (X9 hk)).2 W W' hJ hr
    simpa using this)
  refine this.mono ?_
  rintro e w' ⟨rfl,hJ⟩
  rw[e1] at hJ
  obtain⟨lv,x1,x2⟩:=hJ.st
  rw[YD] at x2
  have x3:=hJ.rd
  rw[List.drop_length,bS,iY] at x3
  exact⟨rfl,lv,x1,x2,hJ.res,x3⟩
 have hmf:∀(fn:Fn) (first cap:Array Value) (w:World),(Instr.makeFunc fn first cap).run aa.prog w= .ok (.func fn first cap) w:=λ_ _ _ _=>rfl
 have HBy:Hid (∀W,Below w.heap.size w W->Calls aa.prog 53 #[.pointer (some ⟨b,0,none⟩)] W λe w'=>e= .returned (.int .i64 lev)/\Rd W w' b (al sg.length++(bS sg++s))):=λW hW=>kA b lev _ W (h.below hW) (by omega) (by omega)
 have HM:Hid _:=rV b
 have l1:(lev:Int)< 3:=by omega
 obtain⟨W0,hW0⟩: ∃W,W=(w.alloc (.cells #[.pointer (some ⟨b,0,none⟩)] 122)).alloc (.cells #[.int .i64 0,.slice none 0 0] 128):=⟨_,rfl⟩
 have HB0:Hid (Below w.heap.size w W0):=(by rw[hW0];exact ((By _ _).alloc (AI _) _).alloc (by simp) _)
 have Hb0:Hid (W0.heap[w.heap.size]? =some (.cells #[.pointer (some ⟨b,0,none⟩)] 122)):=(by rw[hW0,OF _ _ _ (by simp)];exact IS w _)
 have Hr0:Hid (W0.heap[w.heap.size+1]? =some (.cells #[.int .i64 0,.slice none 0 0] 128)):=(by rw[hW0];exact kF w _ _)
 have HBy':Hid (Calls aa.prog 53 #[.pointer (some ⟨b,0,none⟩)] ((w.alloc (.cells #[.pointer (some ⟨b,0,none⟩)] 122)).alloc (.cells #[.int .i64 0,.slice none 0 0] 128)) λe w'=>e= .returned (.int .i64 lev)/\Rd w w' b (al sg.length++(bS sg++s))/\w'.heap[w.heap.size]? =some (.cells #[.pointer (some ⟨b,0,none⟩)] 122)/\w'.heap[w.heap.size+1]? =some (.cells #[.int .i64 0,.slice none 0 0] 128)/\w.heap.size+2<=w'.heap.size):=by
  rw[←hW0]
  refine (HBy.out W0 HB0.out).mono ?_
  rintro e w' ⟨rfl,hr⟩
  have hr':=((Rd.refl h).below HB0.out).trans hr
  have hz:=(IN.1 (hr.other Hr0.out (by omega))).1
  exact⟨rfl,hr',hr.other Hb0.out (by omega),hr.other Hr0.out (by omega),by omega⟩
 clear h HBy hW0 HB0 Hb0 Hr0
 go_enter aa.func55,aa.ntmps55
 go_wp2_with (first
  |(go_at_call 53;refine BY HBy'.out ?_;rintro e w1 ⟨rfl,hr1,hb1,hre1,hz1⟩;have bx1:=(au hb1).1 0;have HR1:Hid (Rd w w1 b (al sg.length++(bS sg++s))):=hr1;have Hb1:Hid (w1.heap[w.heap.size]? =some (.cells #[.pointer (some ⟨b,0,none⟩)] 122)):=hb1;have Hre1:Hid (w1.heap[w.heap.size+1]? =some (.cells #[.int .i64 0,.slice none 0 0] 128)):=hre1;clear hr1 hb1 hre1;have hzz:w.heap.size< w1.heap.size:=by omega)
  |(go_at_call 57;refine (HM.out _).mono ?_;rintro e w' ⟨rfl,hw'⟩;subst w')
  |(go_at_call 74;refine BY (HE.out _ w1.heap.size hz1 (aY Hb1.out ((By _ _).alloc (AI _) _)) (aY Hre1.out ((By _ _).alloc (AI _) _)) (IS w1 _) (HR1.out.below ((By _ _).alloc (AI _) _))) ?_;rintro e w3 ⟨rfl,lv,hs3,hsa3,hre3,hrd3⟩;obtain⟨ad,cap,rfl⟩:=gY hsa3;obtain⟨cs3,fs3⟩:=au hs3;obtain⟨cr3,fr3⟩:=au hre3;have s0:=cs3 0;have s1:=cs3 1;have r0:=cr3 0;have r1:=cr3 1;have t0:=fr3 0;have t1:=fr3 1;clear cs3 fs3 cr3 fr3;have HSA:Hid (w3.ownsRow w.heap.size 163 5 (.slice ad sg.length cap) sg.length (dV sg)):=hsa3;have HRE:Hid (w3.heap[w.heap.size+1]? =some (.cells #[.int .i64 0,.slice none 0 0] 128)):=hre3;have HRD:Hid (Rd w w3 b s):=hrd3;clear hs3 hsa3 hre3 hrd3))
 refine YB (v:= .agg #[.int .i64 lev,.slice ad sg.length cap]) ?_ rfl ⟨_,rfl,?_,?_⟩
 ·simp[results,aa.results55,go_sem,r0,r1]
 ·exact fW (fW HSA.out HRE.out (by decide) 0 (.int .i64 lev)) (heap_set HRE.out) (by decide) _ _
 ·exact (HRD.out.setCell (by omega) _).setCell (by omega) _
section
open Go.Lib (strCells strCells_length strCells_oneCell)
def dg(T:Nat->ByteArray):Nat->Nat->Int
 |0,n=>cO (T n)
 |h+1,n=>iN λj=>dg T h (n*4+j)
@[simp] theorem aa.call68(args:Array Value)(w:World):Sem.run aa.prog (callFunc 68 args) w= .ok (.enter 68 args) w:=aa.aK aa.func68 (by kernel_rfl) rfl args w
def FE:Value->Nat
 | .slice _ n _=>n
 |_=>0
theorem Gc(T:Nat->ByteArray)(k n m:Nat):((List.range m).map λi=>iN λj=>(λi=>dg T k (n*(m*4)+i)) (i*4+j))=(List.range m).map λi=>dg T (k+1) (n*m+i):=by
 apply Y9
 intro i _
 rw[dg]
 congr 1
 funext j
 show dg T k (n*(m*4)+(i*4+j))=dg T k ((n*m+i)*4+j)
 congr 1
 rw[←Nat.mul_assoc]
 omega
theorem Xd(b lv n:Nat)(T:Nat->ByteArray)(w:World)(hT:∀k:Nat,k< 64->∀W,Below w.heap.size w W->Calls aa.prog 28 #[.pointer (some ⟨b,0,none⟩),.int .i64 k] W λe w'=>e= .returned (.string (T k))/\Below W.heap.size W w')(hTs:∀k,k< 64->(T k).size<=maxLen)(hl:lv<=3)(hn:n< 4 ^ lv):
  Calls aa.prog 47 #[.int .i64 lv,.int .i64 n,.func (.func 28) #[.pointer (some ⟨b,0,none⟩)] #[]] w λe w'=>e= .returned (.int .u64 (dg T (3 - lv) n))/\Below w.heap.size w w':=by
 obtain⟨h,hh⟩: ∃h,h=3 - lv:=⟨_,rfl⟩
 have hh3:h<=3:=by omega
 have e1:(3:Int) - (lv:Int)=(h:Int):=by omega
 have hpw:4 ^ lv*4 ^ h=64:=by
  rw[←Nat.pow_add,show lv+h=3 by omega]
 obtain⟨c,hcd⟩: ∃c,c=4 ^ h:=⟨_,rfl⟩
 have hc4:c=1\/c=4\/c=16\/c=64:=by
  rw[hcd];rcases Fc hh3 with rfl|rfl|rfl|rfl<;>decide
 have hf:n*c+c<=64:=by
  rw[←hpw,←hcd,←Nat.succ_mul]
  exact Nat.mul_le_mul_right c hn
 have HW:Hid (∀W,Calls aa.prog 46 #[.int .i64 (h:Int)] W λe w'=>e= .returned (.int .i64 (c:Int))/\w'=W):=λW=>by rw[hcd];exact Cu h hh3 W
 have HS:=OQ b (n*c) c T w hT hTs hc4 hf
 have HSeg:Hid (Calls aa.prog 68 #[.int .i64 ((n:Int)*(c:Int)),.int .i64 c,.func (.func 28) #[.pointer (some ⟨b,0,none⟩)] #[]] w λe w'=>∃v,e= .returned v/\gG w' w.heap.size v ((List.range c).map λi=>cO (T (n*c+i)))/\Below w.heap.size w w'):=(by rw[←Int.natCast_mul];exact HS)
 have hnc:(n:Int)*(c:Int)<=64:=by rw[←Int.natCast_mul];omega
 have hnc0:(0:Int)<=(n:Int)*(c:Int):=by rw[←Int.natCast_mul];omega
 have hcc:c<=64:=by omega
 have HD0:Hid (((List.range c).map λi=>cO (T (n*c+i)))=(List.range (4 ^ (h - 0))).map λi=>dg T 0 (n*4 ^ (h - 0)+i)):=(show _=_ by rw[Nat.sub_zero,←hcd];rfl)
 rw[←hh]
 clear HS hT hTs hpw hf hc4 hcd hh hn
 go_enter aa.func47,aa.ntmps47
 go_wp2_with (first
  |(go_at_call 46;refine BY (HW.out _) ?_;rintro e w0 ⟨rfl,hw0⟩;obtain rfl:=hw0.symm)
  |(go_at_call 68;go_loud (refine BY HSeg.out ?_;rintro e w1 ⟨v1,rfl,hr1,hb1⟩;rw[HD0.out] at hr1;have HR1:Hid (gG w1 w.heap.size v1 ((List.range (4 ^ (h - 0))).map λi=>dg T 0 (n*4 ^ (h - 0)+i))):=hr1;have HB1:Hid (Below w.heap.size w w1):=hb1;clear hr1 hb1)))
 clear HW HSeg HD0 hnc hnc0 e1
 go_loopw [8] (λo wr=>∃k:Nat,k<=h/\Hid (gG wr w.heap.size o ((List.range (4 ^ (h - k))).map λi=>dg T k (n*4 ^ (h - k)+i)))/\Hid (Below w.heap.size w wr)) (λo _=>FE o)
 case atStart=>exact⟨0,by omega,HR1.out,HB1.out⟩
 case round=>
  obtain⟨k,hk,hr,hb⟩:=hrel
  have HR:Hid (gG wr w.heap.size u8 ((List.range (4 ^ (h - k))).map λi=>dg T k (n*4 ^ (h - k)+i))):=hr.out
  have HB:Hid (Below w.heap.size w wr):=hb.out
  have hsz:=hb.out.size
  clear hr hb
  by_cases hlt:k< h
  ·obtain⟨m,hm⟩: ∃m,m=4 ^ (h - (k+1)):=⟨_,rfl⟩
   have hL:4 ^ (h - k)=m*4:=by rw[hm,←Y7];congr 1;omega
   have hm16:1<=m/\m<=16:=by
    have:h - (k+1)=0\/h - (k+1)=1\/h - (k+1)=2:=by omega
    rw[hm]
    rcases this with e|e|e<;>rw[e]<;>decide
   have HRm:gG wr w.heap.size u8 ((List.range (m*4)).map λi=>dg T k (n*(m*4)+i)):=by have:=HR.out;rw[hL] at this;exact this
   obtain⟨ad,cap,rfl,hcap,_⟩:=HRm.len
   have HP:Hid _:=Ku w.heap.size m _ (λi=>dg T k (n*(m*4)+i)) wr hm16 HRm
   have HU:Hid _:=Gc T k n m
   have HMm:Hid (m=4 ^ (h - (k+1))):=hm
   simp only[Yr,List.length_range] at*
   have hg1:(1:Int)< (m:Int)*4:=by omega
   clear HR HRm hL hm
   go_wp2_with (go_at_call 69;refine BY HP.out ?_;rintro e w2 ⟨v2,rfl,hr2,hb2⟩;rw[HU.out] at hr2;have HR2:Hid (gG w2 w.heap.size v2 ((List.range m).map λi=>dg T (k+1) (n*m+i))):=cY hr2 hsz;have HB2:Hid (Below w.heap.size w w2):=HB.out.trans (hb2.mono hsz);clear hr2 hb2)
   refine⟨⟨k+1,by omega,?_,HB2.out⟩,?_⟩
   ·show gG _ _ _ _
    rw[←HMm.out]
    exact HR2.out
   ·obtain⟨ad2,cap2,e2,_⟩:=HR2.out.len
    rw[e2]
    simp[FE]
    omega
  ·obtain rfl:k=h:=by omega
   have HR0:gG wr w.heap.size u8 [dg T k n]:=by
    have:=HR.out
    rw[Nat.sub_self] at this
    simpa using this
   obtain⟨g,cap,rfl,hgl,hc0⟩:=tD HR0 (k:=0) rfl
   have hcp:(cap:Int)<=9223372036854775807:=by
    obtain⟨ad,cap',e,hc,_⟩:=HR0.len
    cases e;exact hc
   simp only[Za] at*
   clear HR HR0
   go_wp2
   go_ret
   exact⟨rfl,HB.out⟩
end
section
open Go.Lib (strCells strCells_length strCells_oneCell)
def bH(w:World)(bm:Nat->Nat)(K:aF)(lv n:Nat):Int:=dg (dy w bm K) (3 - lv) n
theorem Wl{w:World}{b num:Nat}{bm:Nat->Nat}{K:aF}(h:aE w b bm num K)(hK:dX w bm K):∀k:Nat,k< 64->∀W,Below w.heap.size w W->Calls aa.prog 28 #[.pointer (some ⟨b,0,none⟩),.int .i64 k] W λe w'=>e= .returned (.string (dy w bm K k))/\Below W.heap.size W w':=λk hk W hW=>by
 have e:dy W bm K k=dy w bm K k:=vW (hW.block _ (h.2.1 k hk).lt)
 rw[←e]
 exact DC b num k bm K W (h.below hW) (hK.below h hW) hk
theorem Qd{w:World}{b num:Nat}{bm:Nat->Nat}{K:aF}(h:aE w b bm num K)(hK:dX w bm K):∀k,k< 64->(dy w bm K k).size<=maxLen:=λk hk=>by
 have:=vO h hK hk
 unfold maxLen;omega
theorem BN(b num lv n:Nat)(bm:Nat->Nat)(K:aF)(w:World)(h:aE w b bm num K)(hK:dX w bm K)(hl:lv<=3)(hn:n< 4 ^ lv):
  Calls aa.prog 27 #[.pointer (some ⟨b,0,none⟩),.int .i64 lv,.int .i64 n] w λe w'=>e= .returned (.int .u64 (bH w bm K lv n))/\Below w.heap.size w w':=by
 have HD:Hid _:=Xd b lv n (dy w bm K) w (Wl h hK) (Qd h hK) hl hn
 have HE:Hid (dg (dy w bm K) (3 - lv) n=bH w bm K lv n):=rfl
 generalize bH w bm K lv n=D at*
 clear h hK
 go_enter aa.func27,aa.ntmps27
 go_wp2_with (go_at_call 47;refine BY HD.out ?_;rintro e w1 ⟨rfl,hb1⟩;rw[HE.out];have HB:Hid (Below w.heap.size w w1):=hb1;clear hb1)
 go_ret
 exact⟨rfl,HB.out⟩
theorem Up(b num n:Nat)(bm:Nat->Nat)(K:aF)(w:World)(h:aE w b bm num K)(hK:dX w bm K)(hn:n< 64):
  Calls aa.prog 11 #[.pointer (some ⟨b,0,none⟩),.int .i64 n] w λe w'=>e= .returned (.tuple #[.string (dy w bm K n),.int .i64 0])/\Below w.heap.size w w':=by
 have HD:Hid _:=DC b num n bm K w h hK hn
 have HH:Hid (∀W,Calls aa.prog 26 #[.int .i64 3,.int .i64 n] W λe w'=>e= .returned (.bool true)/\w'=W):=λW=>by
  have:=xW 3 n (by omega) W
  rwa [show decide (3<=3/\n< 4 ^ 3)=true by simp;omega] at this
 generalize dy w bm K n=D at*
 clear h hK hn
 go_enter aa.func11,aa.ntmps11
 go_wp2_with (first
  |(go_at_call 26;refine BY (HH.out _) ?_;rintro e w0 ⟨rfl,hw0⟩;obtain rfl:=hw0.symm)
  |(go_at_call 28;refine BY HD.out ?_;rintro e w1 ⟨rfl,hb1⟩;have HB:Hid (Below w.heap.size w w1):=hb1;clear hb1))
 go_ret2
 exact⟨rfl,HB.out⟩
def EE(d:Int):ByteArray:=al 82++fG d
theorem VS(d:Int)(w:World):
  Calls aa.prog 29 #[.agg #[.int .u64 d]] w λe w'=>e= .returned (.string (EE d))/\Below w.heap.size w w':=by
 have hrow:aO ((w.alloc (.cells #[.int .u64 d] 81)).alloc (.cells #[.int .u8 82] 5)) (w.heap.size+1) (.slice (some ⟨w.heap.size+1,0,none⟩) 1 1) (al 82):=
  ⟨rfl,Or.inr ⟨w.heap.size+1,1,#[.int .u8 82],rfl,AI _,kF w _ _,AI _,by decide,rfl,rfl⟩⟩
 have HA:Hid _:=yG (w.heap.size+1) _ _ d _ hrow (by simp) (by decide)
 have HRow:Hid _:=hrow
 clear hrow
 go_enter aa.func29,aa.ntmps29
 go_wp2_with (go_at_call 50;refine BY HA.out ?_;rintro e w1 ⟨v1,rfl,hr1,hg1⟩;have hcv:=qV hr1;have HB:Hid (Below w.heap.size w w1):=(hg1.toBelow (((By (w.heap.size) w).alloc (AI _) _).alloc (by simp) _) (by simp;omega) (cY HRow.out (by omega)));clear hr1 hg1)
 go_ret
 exact⟨rfl,HB.out⟩
theorem IP(b num:Nat)(bm:Nat->Nat)(K:aF)(w:World)(h:aE w b bm num K)(hK:dX w bm K):
  Calls aa.prog 12 #[.pointer (some ⟨b,0,none⟩)] w λe w'=>e= .returned (.string (EE (bH w bm K 0 0)))/\Below w.heap.size w w':=by
 have HD:Hid (Calls aa.prog 27 #[.pointer (some ⟨b,0,none⟩),.int .i64 0,.int .i64 0] w λe w'=>e= .returned (.int .u64 (bH w bm K 0 0))/\Below w.heap.size w w'):=BN b num 0 0 bm K w h hK (by decide) (by decide)
 generalize bH w bm K 0 0=D at*
 clear h hK
 go_enter aa.func12,aa.ntmps12
 go_wp2_with (first
  |(go_at_call 27;refine BY HD.out ?_;rintro e w1 ⟨rfl,hb1⟩;have HB1:Hid (Below w.heap.size w w1):=hb1;clear hb1)
  |(go_at_call 29;refine (VS D _).mono ?_;rintro e w2 ⟨rfl,hb2⟩;have HB2:Hid (Below w.heap.size w w2):=HB1.out.trans (hb2.mono HB1.out.size);clear hb2))
 go_ret
 exact⟨rfl,HB2.out⟩
theorem LY(s:ByteArray)(w:World)(hs:s.size<=maxLen):
  Calls aa.prog 13 #[.string s] w λe w'=>e= .returned (.int .u64 (cO s))/\w'=w:=by
 unfold maxLen at hs
 go_enter aa.func13,aa.ntmps13
 go_wp2
 go_loop [3,4] (λd i=>∃k:Nat,k<=s.size/\i= .int .i64 k/\d= .int .u64 (iq s k)) (λ_ i=>s.size - (intOf i).toNat)
 case atStart=>exact⟨0,by omega,rfl,rfl⟩
 case round=>
  obtain⟨k,hk,rfl,rfl⟩:=hrel
  by_cases hlt:k< s.size
  ·have g1:(k:Int)< (s.size:Int):=by omega
   have g0:(0:Int)<=(k:Int):=by omega
   have hst:Hid (iq s (k+1)=IntKind.u64.wrap (Go.bits .xor .u64 (iq s k) (s[k].toNat:Int)*1099511628211)):=by
    show iq s (k+1)=_
    rw[iq,xw s k hlt]
   go_wp2
   refine⟨⟨k+1,by omega,by go_num,?_⟩,by simp[intOf];omega⟩
   rw[hst.out,xF]
  ·have hke:k=s.size:=by omega
   go_wp2
   go_ret
   exact⟨rfl,rfl⟩
end
inductive Let where
 |root (d:Int)
 |nodes (lev:Nat) (sg:List Nd)
 |aV (kind:Nat) (sg:List (Nat×List ai))
def Let.bytes:Let->ByteArray
 | .root d=>al 82++fG d
 | .nodes lev sg=>al 78++(al lev++(al sg.length++bS sg))
 | .aV kind sg=>al kind++(al sg.length++ba sg)
def Let.Ok:Let->Prop
 | .root d=>0<=d/\d< 18446744073709551616
 | .nodes lev sg=>kP lev sg
 | .aV kind sg=>(kind=83\/kind=84)/\ko sg
def pr(w W:World)(v:Value):Let->Prop
 | .root d=>v= .iface 81 (.agg #[.int .u64 d])
 | .nodes lev sg=>∃lv,v= .iface 128 (.agg #[.int .i64 lev,lv])/\W.ownsRow w.heap.size 163 5 lv sg.length (dV sg)
 | .aV kind sg=>∃lv gs,v= .iface 132 (.agg #[.int .u8 kind,lv])/\iH w W lv gs sg
theorem ux(b:Nat)(w:World)(h:bl w b ByteArray.empty):
  Calls aa.prog 58 #[.pointer (some ⟨b,0,none⟩)] w λe w'=>e= .returned (.bool true)/\w'=w:=by
 obtain⟨c,f⟩:=au h.1
 go_enter aa.func58,aa.ntmps58
 go_wp2
 go_ret
 exact⟨rfl,rfl⟩
theorem uD(T:ByteArray)(w:World):
  Calls aa.prog 52 #[.string T] w λe w'=>e= .returned (.pointer (some ⟨w.heap.size,0,none⟩))/\w'=w.alloc (.cells #[.string T,.bool false] 158):=by
 go_enter aa.func52,aa.ntmps52
 go_wp2
 go_ret
 exact⟨rfl,rfl⟩
theorem Rd.out{w W W':World}{b:Nat}{s:ByteArray}(h:Rd W W' b s)(hb:Below w.heap.size w W)(hl:w.heap.size<=b):Below w.heap.size w W':=
 hb.trans (h.2.toBelow (λk hk=>by omega) hb.size)
theorem GV(d:Int)(w:World)(hok:0<=d/\d< 18446744073709551616):
  Calls aa.prog 34 #[.string (al 82++fG d)] w λe w'=>e= .returned (.tuple #[.iface 81 (.agg #[.int .u64 d]),.int .i64 0])/\Below w.heap.size w w':=by
 generalize hT:al 82++fG d=T
 have hsz:T.size=9:=by rw[←hT];simp[cS,ub]
 have HRd:Hid (bl (w.alloc (.cells #[.string T,.bool false] 158)) w.heap.size (al 82++fG d)):=(show bl _ _ _ from⟨by rw[hT];exact IS w _,by rw[hT];omega⟩)
 have HB0:Hid (Below w.heap.size w (w.alloc (.cells #[.string T,.bool false] 158))):=(By _ _).alloc (AI _) _
 have HBy:Hid (Calls aa.prog 53 #[.pointer (some ⟨w.heap.size,0,none⟩)] (w.alloc (.cells #[.string T,.bool false] 158)) λe w'=>e= .returned (.int .i64 82)/\bl w' w.heap.size (fG d++ByteArray.empty)/\Below w.heap.size w w'):=(kA _ 82 _ _ HRd.out (by omega) (by omega)).mono λe w' ⟨he,hr⟩=>⟨he,by rw[gI];exact hr.1,hr.out HB0.out (AI _)⟩
 have HDg:Hid (∀W,bl W w.heap.size (fG d++ByteArray.empty)->Below w.heap.size w W->Calls aa.prog 54 #[.pointer (some ⟨w.heap.size,0,none⟩)] W λe w'=>e= .returned (.int .u64 d)/\bl w' w.heap.size ByteArray.empty/\Below w.heap.size w w'):=λW hW hb=>(CS _ d _ W hW hok.1 hok.2).mono λe w' ⟨he,hr⟩=>⟨he,hr.1,hr.out hb (AI _)⟩
 have HDn:Hid (∀W,bl W w.heap.size ByteArray.empty->Calls aa.prog 58 #[.pointer (some ⟨w.heap.size,0,none⟩)] W λe w'=>e= .returned (.bool true)/\w'=W):=λW hW=>ux _ W hW
 have HNw:Hid _:=uD T w
 clear hT HRd hsz
 go_enter aa.func34,aa.ntmps34
 go_wp2_with (first
  |(go_at_call 52;refine BY HNw.out ?_;rintro e w' ⟨rfl,hw'⟩;subst w')
  |(go_at_call 53;refine BY HBy.out ?_;rintro e w1 ⟨rfl,hr1,hb1⟩)
  |(go_at_call 54;refine BY (HDg.out _ hr1 hb1) ?_;rintro e w2 ⟨rfl,hr2,hb2⟩)
  |(go_at_call 58;refine BY (HDn.out _ hr2) ?_;rintro e w' ⟨rfl,hw'⟩;subst w'))
 go_ret2
 exact⟨rfl,hb2⟩
theorem R7(lev:Nat)(sg:List Nd)(w:World)(hok:kP lev sg)(hsz:(Let.nodes lev sg).bytes.size<=140737488355328):
  Calls aa.prog 34 #[.string (Let.nodes lev sg).bytes] w λe w'=>∃v,e= .returned (.tuple #[v,.int .i64 0])/\pr w w' v (.nodes lev sg)/\Below w.heap.size w w':=by
 generalize hT:(Let.nodes lev sg).bytes=T at*
 have HRd:Hid (bl (w.alloc (.cells #[.string T,.bool false] 158)) w.heap.size (al 78++(al lev++(al sg.length++bS sg)))):=(show bl _ _ _ from⟨by rw[show al 78++(al lev++(al sg.length++bS sg))=T from hT];exact IS w _,by rw[show al 78++(al lev++(al sg.length++bS sg))=T from hT];exact hsz⟩)
 have HB0:Hid (Below w.heap.size w (w.alloc (.cells #[.string T,.bool false] 158))):=(By _ _).alloc (AI _) _
 have HBy:Hid (Calls aa.prog 53 #[.pointer (some ⟨w.heap.size,0,none⟩)] (w.alloc (.cells #[.string T,.bool false] 158)) λe w'=>e= .returned (.int .i64 78)/\bl w' w.heap.size (al lev++(al sg.length++(bS sg++ByteArray.empty)))/\Below w.heap.size w w'):=(kA _ 78 _ _ HRd.out (by omega) (by omega)).mono λe w' ⟨he,hr⟩=>⟨he,by rw[gI];exact hr.1,hr.out HB0.out (AI _)⟩
 have HNd:Hid (∀W,bl W w.heap.size (al lev++(al sg.length++(bS sg++ByteArray.empty)))->Below w.heap.size w W->Calls aa.prog 55 #[.pointer (some ⟨w.heap.size,0,none⟩)] W λe w'=>∃lv,e= .returned (.agg #[.int .i64 lev,lv])/\w'.ownsRow w.heap.size 163 5 lv sg.length (dV sg)/\bl w' w.heap.size ByteArray.empty/\Below w.heap.size w w'):=λW hW hb=>(S8 _ lev sg _ W hW hok).mono λe w' ⟨lv,he,hrow,hr⟩=>⟨lv,he,cY hrow hb.size,hr.1,hr.out hb (AI _)⟩
 have HDn:Hid (∀W,bl W w.heap.size ByteArray.empty->Calls aa.prog 58 #[.pointer (some ⟨w.heap.size,0,none⟩)] W λe w'=>e= .returned (.bool true)/\w'=W):=λW hW=>ux _ W hW
 have HNw:Hid _:=uD T w
 clear hT HRd hsz hok
 go_enter aa.func34,aa.ntmps34
 go_wp2_with (first
  |(go_at_call 52;refine BY HNw.out ?_;rintro e w' ⟨rfl,hw'⟩;subst w')
  |(go_at_call 53;refine BY HBy.out ?_;rintro e w1 ⟨rfl,hr1,hb1⟩)
  |(go_at_call 55;refine BY (HNd.out _ hr1 hb1) ?_;rintro e w2 ⟨lv,rfl,hrow2,hr2,hb2⟩)
  |(go_at_call 58;refine BY (HDn.out _ hr2) ?_;rintro e w' ⟨rfl,hw'⟩;subst w'))
 go_ret2
 exact⟨_,rfl,⟨lv,rfl,hrow2⟩,hb2⟩
theorem LZ(sg:List (Nat×List ai))(w:World)(hok:ko sg)(hsz:(Let.aV 83 sg).bytes.size<=140737488355328):
  Calls aa.prog 34 #[.string (Let.aV 83 sg).bytes] w λe w'=>∃v,e= .returned (.tuple #[v,.int .i64 0])/\pr w w' v (.aV 83 sg)/\Below w.heap.size w w':=by
 generalize hT:(Let.aV 83 sg).bytes=T at*
 have HRd:Hid (bl (w.alloc (.cells #[.string T,.bool false] 158)) w.heap.size (al 83++(al sg.length++ba sg))):=(show bl _ _ _ from⟨by rw[show al 83++(al sg.length++ba sg)=T from hT];exact IS w _,by rw[show al 83++(al sg.length++ba sg)=T from hT];exact hsz⟩)
 have HB0:Hid (Below w.heap.size w (w.alloc (.cells #[.string T,.bool false] 158))):=(By _ _).alloc (AI _) _
 have HBy:Hid (Calls aa.prog 53 #[.pointer (some ⟨w.heap.size,0,none⟩)] (w.alloc (.cells #[.string T,.bool false] 158)) λe w'=>e= .returned (.int .i64 83)/\bl w' w.heap.size (al sg.length++(ba sg++ByteArray.empty))/\Below w.heap.size w w'):=(kA _ 83 _ _ HRd.out (by omega) (by omega)).mono λe w' ⟨he,hr⟩=>⟨he,by rw[gI];exact hr.1,hr.out HB0.out (AI _)⟩
 have HNd:Hid (∀W,bl W w.heap.size (al sg.length++(ba sg++ByteArray.empty))->Below w.heap.size w W->Calls aa.prog 56 #[.pointer (some ⟨w.heap.size,0,none⟩),.int .u8 83] W λe w'=>∃lv gs,e= .returned (.agg #[.int .u8 83,lv])/\iH w w' lv gs sg/\bl w' w.heap.size ByteArray.empty/\Below w.heap.size w w'):=λW hW hb=>(DK _ 83 sg _ W hW hok).mono λe w' ⟨lv,gs,he,hrow,hr⟩=>⟨lv,gs,he,⟨cY hrow.row hb.size,hrow.is,λg hg=>(hrow.k9 g hg).base hb.size⟩,hr.1,hr.out hb (AI _)⟩
 have HDn:Hid (∀W,bl W w.heap.size ByteArray.empty->Calls aa.prog 58 #[.pointer (some ⟨w.heap.size,0,none⟩)] W λe w'=>e= .returned (.bool true)/\w'=W):=λW hW=>ux _ W hW
 have HNw:Hid _:=uD T w
 clear hT HRd hsz hok
 go_enter aa.func34,aa.ntmps34
 go_wp2_with (first
  |(go_at_call 52;refine BY HNw.out ?_;rintro e w' ⟨rfl,hw'⟩;subst w')
  |(go_at_call 53;refine BY HBy.out ?_;rintro e w1 ⟨rfl,hr1,hb1⟩)
  |(go_at_call 56;refine BY (HNd.out _ hr1 hb1) ?_;rintro e w2 ⟨lv,gs,rfl,hrow2,hr2,hb2⟩)
  |(go_at_call 58;refine BY (HDn.out _ hr2) ?_;rintro e w' ⟨rfl,hw'⟩;subst w'))
 go_ret2
 exact⟨_,rfl,⟨lv,gs,rfl,hrow2⟩,hb2⟩
theorem Xw(sg:List (Nat×List ai))(w:World)(hok:ko sg)(hsz:(Let.aV 84 sg).bytes.size<=140737488355328):
  Calls aa.prog 34 #[.string (Let.aV 84 sg).bytes] w λe w'=>∃v,e= .returned (.tuple #[v,.int .i64 0])/\pr w w' v (.aV 84 sg)/\Below w.heap.size w w':=by
 generalize hT:(Let.aV 84 sg).bytes=T at*
 have HRd:Hid (bl (w.alloc (.cells #[.string T,.bool false] 158)) w.heap.size (al 84++(al sg.length++ba sg))):=(show bl _ _ _ from⟨by rw[show al 84++(al sg.length++ba sg)=T from hT];exact IS w _,by rw[show al 84++(al sg.length++ba sg)=T from hT];exact hsz⟩)
 have HB0:Hid (Below w.heap.size w (w.alloc (.cells #[.string T,.bool false] 158))):=(By _ _).alloc (AI _) _
 have HBy:Hid (Calls aa.prog 53 #[.pointer (some ⟨w.heap.size,0,none⟩)] (w.alloc (.cells #[.string T,.bool false] 158)) λe w'=>e= .returned (.int .i64 84)/\bl w' w.heap.size (al sg.length++(ba sg++ByteArray.empty))/\Below w.heap.size w w'):=(kA _ 84 _ _ HRd.out (by omega) (by omega)).mono λe w' ⟨he,hr⟩=>⟨he,by rw[gI];exact hr.1,hr.out HB0.out (AI _)⟩
 have HNd:Hid (∀W,bl W w.heap.size (al sg.length++(ba sg++ByteArray.empty))->Below w.heap.size w W->Calls aa.prog 56 #[.pointer (some ⟨w.heap.size,0,none⟩),.int .u8 84] W λe w'=>∃lv gs,e= .returned (.agg #[.int .u8 84,lv])/\iH w w' lv gs sg/\bl w' w.heap.size ByteArray.empty/\Below w.heap.size w w'):=λW hW hb=>(DK _ 84 sg _ W hW hok).mono λe w' ⟨lv,gs,he,hrow,hr⟩=>⟨lv,gs,he,⟨cY hrow.row hb.size,hrow.is,λg hg=>(hrow.k9 g hg).base hb.size⟩,hr.1,hr.out hb (AI _)⟩
 have HDn:Hid (∀W,bl W w.heap.size ByteArray.empty->Calls aa.prog 58 #[.pointer (some ⟨w.heap.size,0,none⟩)] W λe w'=>e= .returned (.bool true)/\w'=W):=λW hW=>ux _ W hW
 have HNw:Hid _:=uD T w
 clear hT HRd hsz hok
 go_enter aa.func34,aa.ntmps34
 go_wp2_with (first
  |(go_at_call 52;refine BY HNw.out ?_;rintro e w' ⟨rfl,hw'⟩;subst w')
  |(go_at_call 53;refine BY HBy.out ?_;rintro e w1 ⟨rfl,hr1,hb1⟩)
  |(go_at_call 56;refine BY (HNd.out _ hr1 hb1) ?_;rintro e w2 ⟨lv,gs,rfl,hrow2,hr2,hb2⟩)
  |(go_at_call 58;refine BY (HDn.out _ hr2) ?_;rintro e w' ⟨rfl,hw'⟩;subst w'))
 go_ret2
 exact⟨_,rfl,⟨lv,gs,rfl,hrow2⟩,hb2⟩
theorem Kv(L:Let)(w:World)(hok:L.Ok)(hsz:L.bytes.size<=140737488355328):
  Calls aa.prog 34 #[.string L.bytes] w λe w'=>∃v,e= .returned (.tuple #[v,.int .i64 0])/\pr w w' v L/\Below w.heap.size w w':=by
 cases L with
 |root d=>exact (GV d w hok).mono λe w' ⟨he,hb⟩=>⟨_,he,rfl,hb⟩
 |nodes lev sg=>exact R7 lev sg w hok hsz
 |aV kind sg=>
  obtain⟨rfl|rfl,h⟩:=hok
  ·exact LZ sg w h hsz
  ·exact Xw sg w h hsz
section
open Go.Lib (strCells strCells_length strCells_oneCell)
theorem OJ(B Br:Nat)(v rv:Value)(s:ByteArray)(rs:List Rc)(w:World)(hr:aO w B v s)(hB:B<=w.heap.size)(h:dc w Br rv rs)(hv:∀r∈rs,aC w r.sv r.l/\r.l.length<=100000)(hlen:s.size+(cV rs).size<=140737488355328):
  Calls aa.prog 48 #[v,rv] w λe w'=>∃v',e= .returned v'/\aO w' B v' (s++cV rs)/\bw w w' v v':=by
 obtain⟨ad,cap,rfl,hcap,hlc⟩:=h.len
 unfold maxLen at hcap
 have H:Hid (dc w Br (.slice ad rs.length cap) rs):=h
 have HV:Hid (∀r∈rs,aC w r.sv r.l/\r.l.length<=100000):=hv
 have HR0:Hid (aO w B v s):=hr
 clear h hv hr
 go_enter aa.func48,aa.ntmps48
 go_wp2
 go_loopw [0,9] (λo i wr=>∃k:Nat,k<=rs.length/\i= .int .i64 k/\Hid (aO wr B o (s++cV (rs.take k)))/\Hid (bw w wr v o)) (λ_ i _=>rs.length - (intOf i).toNat)
 case atStart=>exact⟨0,by omega,rfl,by rw[List.take_zero];show Hid (aO w B v (s++ByteArray.empty));rw[gI];exact HR0.out,bw.refl _ _⟩
 case round=>
  obtain⟨k,hk,rfl,HR,HG⟩:=hrel
  have hsz:=HG.out.grown.size
  by_cases hlt:k< rs.length
  ·obtain⟨g,cap',hsv',hgl,_,_,cc⟩:=dc.cells (uS HG.out.grown HR0.out H.out (by decide)) hlt
   cases hsv'
   have c0:=cc 0 (by omega)
   have c1:=cc 1 (by omega)
   have c2:=cc 2 (by omega)
   have c3:=cc 3 (by omega)
   have c4:=cc 4 (by omega)
   have c5:=cc 5 (by omega)
   clear cc
   simp[jU] at c0 c1 c2 c3 c4 c5
   have hvk:=HV.out rs[k] (X9 hlt)
   have HVk:Hid (aC wr rs[k].sv rs[k].l):=aC.mS hvk.1 HR0.out HG.out
   have hvl:=hvk.2
   obtain⟨adv,capv,hsvv⟩:=pc hvk.1
   clear hvk
   have htk:=DF rs (k+1)
   rw[tH hlt,No] at htk
   have HT:Hid (s++cV (rs.take k)++dn rs[k].key rs[k].c rs[k].l=s++cV (rs.take (k+1))):=(show _=_ by rw[tH hlt,cq])
   have hst:(s++cV (rs.take k)).size+(dn rs[k].key rs[k].c rs[k].l).size<=140737488355328:=by rw[No];omega
   generalize s++cV (rs.take k)=st at*
   clear htk
   generalize rs[k].key=key at*
   generalize rs[k].c=c at*
   generalize rs[k].sv=sv at*
   generalize rs[k].l=l at*
   subst hsvv
   have g63:(k:Int)< (rs.length:Int):=by omega
   have k0:(0:Int)<=(k:Int):=by omega
   have HBa:Hid (Below wr.heap.size wr (wr.alloc (.cells #[.string key,.int .i64 (c 0),.int .i64 (c 1),.int .i64 (c 2),.int .i64 (c 3),.slice adv l.length capv] 151))):=(By _ _).alloc (AI _) _
   have HRa:Hid (aO (wr.alloc (.cells #[.string key,.int .i64 (c 0),.int .i64 (c 1),.int .i64 (c 2),.int .i64 (c 3),.slice adv l.length capv] 151)) B u0 st):=HR.out.alloc _
   go_wp2_with (go_at_call 70;refine (Dl B u0 st key c (.slice adv l.length capv) l (wr.alloc (.cells #[.string key,.int .i64 (c 0),.int .i64 (c 1),.int .i64 (c 2),.int .i64 (c 3),.slice adv l.length capv] 151)) HRa.out (by simp;omega) (aC.below HVk.out HBa.out) hvl hst).mono ?_;rintro e w1 ⟨v1,rfl,hr1,hg1⟩;have HR1:Hid (aO w1 B v1 (st++dn key c l)):=hr1;have HG1:Hid (bw w w1 v v1):=(HG.out.alloc _).trans hg1;clear hr1 hg1)
   refine⟨⟨k+1,by omega,by go_num,?_,HG1.out⟩,by simp[intOf];omega⟩
   show aO _ _ _ _
   rw[←HT.out]
   exact HR1.out
  ·obtain rfl:k=rs.length:=by omega
   have HRe:Hid (aO wr B u0 (s++cV rs)):=(by have:=HR.out;rw[YD] at this;exact this)
   clear HR
   go_wp2
   go_ret
   exact⟨_,rfl,HRe.out,HG.out⟩
def Gm.is(g:Gm):Nat×List ai:=(g.1,g.2.2.map Rc.bU)
theorem NQ(l:List (Nat×List ai))(g:Nat×List ai):ba (l++ [g])=ba l++(al g.1++gB g.2):=by
 induction l with
 |nil=>simp[ba,gI,iY]
 |cons x l ih=>rw[YX,ba,ih,ba,cq,cq]
theorem Oq{l:List (Nat×List ai)}{k:Nat}(h:k< l.length):ba (l.take (k+1))=ba (l.take k)++(al l[k].1++gB l[k].2):=by
 rw[Yu h,NQ]
theorem Hd(l:List (Nat×List ai)):∀k,(ba (l.take k)).size<=(ba l).size:=λk=>by
 have key:∀a b:List (Nat×List ai),(ba (a++b)).size=(ba a).size+(ba b).size:=λa b=>by
  induction a with
  |nil=>simp[ba]
  |cons x a ih=>simp only[YX,ba,No,ih];omega
 have:=key (l.take k) (l.drop k)
 rw[aai] at this
 omega
theorem L6(rc:List Rc):cy (rc.map Rc.bU).length++cV rc=gB (rc.map Rc.bU):=by rw[gB,wU,xm]
theorem qA:∀(gs:List Gm) (k:Nat) (h:k< gs.length),(fK gs)[k*2]? =some (.int .i64 gs[k].1)/\(fK gs)[k*2+1]? =some gs[k].2.1
 |g::gs,0,_=>by simp[fK]
 |g::gs,k+1,h=>by
  have:=qA gs k (by simpa using h)
  simp only[fK,Zd,aab] at*
  rw[Yx (by simp;omega),Yx (by simp;omega)]
  simpa[Nat.add_mul,show (k+1)*2 - 2=k*2 by omega,show (k+1)*2+1 - 2=k*2+1 by omega] using this
theorem pj{w:World}{B size n:Nat}{t:TypeId}{v:Value}{xs:List Value}(h:w.ownsRow B t size v n xs)(hn:0< n): ∃g cap,v= .slice (some ⟨g,0,none⟩) n cap/\g< w.heap.size/\n<=cap/\cap<=maxLen/\∀j x,j< n*size->xs[j]? =some x->w.cell? ⟨g,j,none⟩=some x:=by
 obtain⟨h1,h2⟩:=h
 rcases h2 with ⟨_,h2⟩|⟨g,cap,cur,hv,_,hh,hn,hc,hs,ht⟩
 ·omega
 ·refine⟨g,cap,hv,(IN.1 hh).1,hn,hc,λj x hj hx=>?_⟩
  rw[←ht,YJ,AT hj] at hx
  simpa[World.cell?,hh] using hx
theorem Nz(B1 Br kind:Nat)(lv:Value)(gs:List Gm)(w:World)(h:w.ownsRow B1 167 2 lv gs.length (fK gs))(hk:kind< 256)(hl:gs.length<=64)(hg:∀g∈gs,g.1< 64/\g.2.2.length<=1000000/\dc w Br g.2.1 g.2.2/\∀r∈g.2.2,aC w r.sv r.l/\r.l.length<=100000)(hsz:(Let.aV kind (gs.map Gm.is)).bytes.size<=140737488355328):
  Calls aa.prog 105 #[.agg #[.int .u8 kind,lv]] w λe w'=>e= .returned (.string (Let.aV kind (gs.map Gm.is)).bytes)/\Below w.heap.size w w':=by
 obtain⟨i0,hi0,hz0,hz1,hz2⟩:=Yk aa.pd
 obtain⟨ad,cap,rfl,hcap,hlc⟩:=jJ h
 have hlm:(gs.map Gm.is).length=gs.length:=Yr ..
 have hl0:(0:Int)<=(gs.length:Int):=by omega
 have hrow:aO ((w.alloc (.cells #[.int .u8 kind,.slice ad gs.length cap] 132)).alloc (.cells #[.int .u8 kind,.int .u8 gs.length] 5)) w.heap.size (.slice (some ⟨w.heap.size+1,0,none⟩) 2 2) (al kind++al gs.length):=
  ⟨by simp[ot,jW,No,cS],Or.inr ⟨w.heap.size+1,2,#[.int .u8 kind,.int .u8 gs.length],rfl,by omega,kF w _ _,AI _,by decide,rfl,by
   rw[ot,jW,jW,ZS (by omega) (by omega),ZS (by omega) (by omega)];rfl⟩⟩
 have HRow:Hid (aO ((w.alloc (.cells #[.int .u8 kind,.slice ad gs.length cap] 132)).alloc (.cells #[.int .u8 kind,.int .u8 gs.length] 5)) w.heap.size (.slice (some ⟨w.heap.size+1,0,none⟩) 2 2) (al kind++al gs.length)):=hrow
 have HG:Hid (∀g∈gs,g.1< 64/\g.2.2.length<=1000000/\dc w Br g.2.1 g.2.2/\∀r∈g.2.2,aC w r.sv r.l/\r.l.length<=100000):=hg
 have dS:(Let.aV kind (gs.map Gm.is)).bytes=(al kind++al gs.length)++ba (gs.map Gm.is):=by rw[Let.bytes,hlm,cq]
 rw[dS] at hsz ⊢
 have hP:=Hd (gs.map Gm.is)
 have HP:Hid (∀k,((al kind++al gs.length)++ba ((gs.map Gm.is).take k)).size<=140737488355328):=(show ∀k,_ by intro k;have:=hP k;rw[No] at hsz ⊢;omega)
 have HPs:Hid (∀k (h:k< gs.length),((al kind++al gs.length)++ba ((gs.map Gm.is).take k))++al gs[k].1++cy gs[k].2.2.length++cV gs[k].2.2=(al kind++al gs.length)++ba ((gs.map Gm.is).take (k+1))):=(show ∀k (h:k< gs.length),_ by
  intro k h
  rw[Oq (by rw[hlm];exact h)]
  simp only[ZX,Gm.is,cq]
  simp only[←L6,Yr])
 clear hP dS
 have H:Hid (w.ownsRow B1 167 2 (.slice ad gs.length cap) gs.length (fK gs)):=h
 clear hrow hg h
 go_enter aa.func105,aa.ntmps105
 go_wp2
 have HB0:Hid (Below w.heap.size w ((w.alloc (.cells #[.int .u8 kind,.slice ad gs.length cap] 132)).alloc (.cells #[.int .u8 kind,.int .u8 gs.length] 5))):=((By _ _).alloc (AI _) _).alloc (by simp) _
 generalize hP0:al kind++al gs.length=P0 at*
 have HP0:Hid (al kind++al gs.length=P0):=hP0
 clear hP0
 go_loopw [3,16] (λo i wr=>∃k:Nat,k<=gs.length/\i= .int .i64 k/\Hid (aO wr w.heap.size o (P0++ba ((gs.map Gm.is).take k)))/\Hid (Below w.heap.size w wr)) (λ_ i _=>gs.length - (intOf i).toNat)
 case atStart=>exact⟨0,by omega,rfl,by rw[List.take_zero,ba,gI];exact HRow.out,HB0.out⟩
 case round=>
  obtain⟨k,hkl,rfl,HR,HB⟩:=hrel
  have hsw:=HB.out.size
  clear HRow HB0
  by_cases hlt:k< gs.length
  ·obtain⟨g,cap',hv',hgl,_,_,cc⟩:=pj H.out (show 0< gs.length by omega)
   cases hv'
   have c0:=(HB.out.cell (p:=⟨g,k*2,none⟩) hgl).trans (cc (k*2) _ (by omega) (qA gs k hlt).1)
   have c1:=(HB.out.cell (p:=⟨g,k*2+1,none⟩) hgl).trans (cc (k*2+1) _ (by omega) (qA gs k hlt).2)
   obtain⟨g1,g2,g3,g4⟩:=HG.out gs[k] (X9 hlt)
   obtain⟨adr,bQ,hrv,hcapr,_⟩:=jJ g3
   have hs1:=HP.out (k+1)
   have hs0:=HPs.out k hlt
   have HS0:Hid _:=hs0
   rw[←hs0] at hs1
   clear cc hs0
   have HRs:Hid (∀W,Below w.heap.size w W->dc W Br gs[k].2.1 gs[k].2.2/\∀r∈gs[k].2.2,aC W r.sv r.l/\r.l.length<=100000):=λW hW=>⟨dp g3 hW (AI _),λr hr=>⟨aC.below (g4 r hr).1 hW,(g4 r hr).2⟩⟩
   clear g3 g4
   generalize P0++ba ((gs.map Gm.is).take k)=P at*
   rw[hrv] at c1 HRs
   generalize gs[k].1=n at*
   generalize hrc:gs[k].2.2=rc at*
   simp only[No,cS,jR] at hs1
   have a1:(k:Int)< (gs.length:Int):=by omega
   have a0:(0:Int)<=(k:Int):=by omega
   have m1:(0:Int)<=(n:Int):=by omega
   have m2:(n:Int)<=255:=by omega
   have HB5:Hid (Below w.heap.size w (wr.alloc (.cells #[.int .i64 n,.slice adr rc.length bQ] 167))):=HB.out.alloc hsw _
   have HW6:Hid (Below w.heap.size w ((wr.alloc (.cells #[.int .i64 n,.slice adr rc.length bQ] 167)).alloc (.cells #[.int .u8 n] 5))):=HB5.out.alloc (by simp;omega) _
   have HR6:Hid (aO ((wr.alloc (.cells #[.int .i64 n,.slice adr rc.length bQ] 167)).alloc (.cells #[.int .u8 n] 5)) w.heap.size u3 P):=(HR.out.alloc _).alloc _
   have HS6:Hid (((wr.alloc (.cells #[.int .i64 n,.slice adr rc.length bQ] 167)).alloc (.cells #[.int .u8 n] 5)).heap[wr.heap.size]? =some (.cells #[.int .i64 n,.slice adr rc.length bQ] 167)):=(by rw[OF _ _ _ (by simp)];exact IS wr _)
   go_wp2_with (first
    |(at_builtin;refine j6 _ rfl _ _ _ rfl w.heap.size 5 i0 _ 1 1 aa.underlying48 hi0 hz0 hz1 hz2 rfl (by omega) u3 _ _ rfl HR6.out ⟨wr.heap.size+1,0,none⟩ 1 1 _ rfl (by rfl) (Yo (kF wr _ _)) (by simp[Value.oneCell']) (by omega) (by unfold maxLen;omega) (by omega) (by have:=HW6.out.size;omega) ?_;intro g7 cap7 w7 hown7 hgr7;have HR7:Hid (aO w7 w.heap.size (.slice (some ⟨g7,0,none⟩) (P.size+1) cap7) (P++al n)):=aO.of hown7 rfl (by rw[jW,ZS (by omega) (by omega)]);have hs7:=hgr7.other HR6.out HS6.out (by decide);obtain⟨c7,f7⟩:=au hs7;have x70:=c7 0;have x71:=c7 1;clear c7 f7;have HS7:Hid (w7.heap[wr.heap.size]? =some (.cells #[.int .i64 n,.slice adr rc.length bQ] 167)):=hs7;have HB7:Hid (Below w.heap.size w w7):=hgr7.toBelow HW6.out HW6.out.size HR6.out;clear hs7 hown7 hgr7)
    |(go_at_call 94;refine BY (tX w.heap.size _ _ rc.length w7 HR7.out HB7.out.size (by simp[No,cS];omega)) ?_;rintro e w8 ⟨v8,rfl,hr8,hg8⟩;have HR8:Hid (aO w8 w.heap.size v8 (P++al n++cy rc.length)):=hr8;have hs8:=hg8.other HR7.out HS7.out (by decide);obtain⟨c8,f8⟩:=au hs8;have x81:=c8 1;have HB8:Hid (Below w.heap.size w w8):=hg8.toBelow HB7.out HB7.out.size HR7.out;clear c8 f8 hs8 hr8 hg8)
    |(go_at_call 48;refine BY (OJ w.heap.size Br _ _ _ rc w8 HR8.out HB8.out.size (HRs.out w8 HB8.out).1 (HRs.out w8 HB8.out).2 (by simp[No,cS,jR];omega)) ?_;rintro e w9 ⟨v9,rfl,hr9,hg9⟩;have HR9:Hid (aO w9 w.heap.size v9 (P++al n++cy rc.length++cV rc)):=hr9;have HB9:Hid (Below w.heap.size w w9):=hg9.toBelow HB8.out HB8.out.size HR8.out;clear hr9 hg9))
   refine⟨⟨k+1,by omega,by go_num,?_,HB9.out⟩,by simp[intOf];omega⟩
   rw[←HS0.out]
   exact HR9.out
  ·obtain rfl:k=gs.length:=by omega
   have hR:=HR.out
   rw[←hlm,YD] at hR
   have hcv:=qV hR
   clear hR
   go_wp2
   go_ret
   exact⟨by rw[HP0.out];rfl,HB.out⟩
end
end Go.Proofs.YtldmcdeibiclkaaGreatDoorQ
