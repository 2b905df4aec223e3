/-
  Toward settled_holds: Contracts: a letter with segments is read as it was written: the closure, readSegments.
-/
import Derived.Test.YtldmcdeibiclkaaGreatDoorC20
set_option linter.unusedVariables false
set_option linter.unusedSimpArgs false
set_option maxRecDepth 100000
set_option maxHeartbeats 20000000
namespace Go.Proofs.YtldmcdeibiclkaaGreatDoorQ
variable {w W w1 W':World}{T:TypeId->Prop}{b k i B:Nat}{v:Value}{t:TypeId}{xs:List Value}{s s0:ByteArray}{rc:List Rc}{rs:List ai}{bm:Nat->Nat}{K:aw}
open Go.RowKit
theorem aa.F7:(aa.prog.info? 167).map (λi=>(i.zero,i.size,i.bytes))=some (some (.agg #[.int .i64 0,.slice none 0 0]),2,32):=by kernel_rfl
def bX(T:TypeId->Prop)(w w':World):Prop:=∀(k:Nat) (cs:Array Value) (t:TypeId) (fr:Nat×Nat),w.heap[k]?=some (.cells cs t fr)->T t->w'.heap[k]?=some (.cells cs t fr)
theorem bX.row{w':World}(h:bX T w w'){size n:Nat}(hr:w.ownsRow B t size v n xs)(ht:T t):w'.ownsRow B t size v n xs:=by
 obtain⟨h1,h2⟩:=hr;refine⟨h1,?_⟩;rcases h2 with h2|⟨g,cap,cur,hv,hg,hh,r⟩
 ·exact Or.inl h2
 ·exact Or.inr ⟨g,cap,cur,hv,hg,h _ _ _ _ hh ht,r⟩
theorem bX.trans{w2:World}(h:bX T w w1)(h':bX T w1 w2):bX T w w2:=λk cs t fr hk ht=>h' _ _ _ _ (h _ _ _ _ hk ht) ht
theorem bX.below(h:Below w.heap.size w w1):bX T w w1:=λ_ _ _ _ hk _=>aQ hk h
theorem bX.rd(h:Rd w w1 b s)(h0:bP w b s0)(hT: ¬T 158):bX T w w1:=λk cs t fr hk ht=>h.other hk λe=>by
 subst e;rw[h0.1]at hk;cases hk;exact hT ht
theorem bX.grown(h:w.grownBy w1 v.ownBlock){size n:Nat}{e:TypeId}(hr:w.ownsRow B e size v n xs)(hT: ¬T e):bX T w w1:=λk cs t fr hk ht=>lO h hr hk λe'=>hT (e' ▸ ht)
theorem bX.set{A:Array Value}{fr:Nat×Nat}(hb:w.heap[b]?=some (.cells A t fr))(hT: ¬T t)(o:Nat)(v:Value):bX T w (w.setCell ⟨b,o,none⟩ v):=λk cs t' fr' hk ht=>by
 rw[Xg _ _ _ _ (λe=>by subst e;rw[hb]at hk;cases hk;exact hT ht)];exact hk
theorem iX.dO(h:iX w W v rc rs)(hk:bX T W W')(h1:T 151)(h2:T 144):iX w W' v rc rs:=
 ⟨hk.row h.row h1,h.cg,λr hr=>hk.row (h.rM r hr) h2⟩
theorem iX.base{w0:World}(h:iX w W v rc rs)(hb:w0.heap.size<=w.heap.size):iX w0 W v rc rs:=
 ⟨ej h.row hb,h.cg,λr hr=>ej (h.rM r hr) hb⟩
abbrev Gm:=Nat×Value×List Rc
def fN(gs:List Gm):List Value:=gs.flatMap λg=>[.int .i64 g.1,g.2.1]
structure jb(w W:World)(v:Value)(gs:List Gm)(sg:List (Nat×List ai)):Prop where
 row:W.ownsRow w.heap.size 167 2 v gs.length (fN gs)
 is:gs.map (λg=>(g.1,g.2.2.map Rc.cg))=sg
 lI:∀g∈gs,iX w W g.2.1 g.2.2 (g.2.2.map Rc.cg)
theorem jb.dO{gs:List Gm}{sg:List (Nat×List ai)}(h:jb w W v gs sg)(hk:bX T W W')(h1:T 151)(h2:T 144)(h3:T 167):jb w W' v gs sg:=
 ⟨hk.row h.row h3,h.is,λg hg=>(h.lI g hg).dO hk h1 h2⟩
def gB(rs:List ai):ByteArray:=cz rs.length++dS rs
def bp:List (Nat×List ai)->ByteArray
 |[]=>ByteArray.empty
 |g::l=>ax g.1++(gB g.2++bp l)
structure pA(w:World)(b bb bs br kind:Nat)(sg:List (Nat×List ai))(s:ByteArray)(k:Nat)(W:World):Prop where
 box:W.heap[bb]?=some (.cells #[.pointer (some ⟨b,0,none⟩)] 122)
 st: ∃lv gs,W.heap[bs]?=some (.cells #[.int .u8 kind,lv] 132)/\jb w W lv gs (sg.take k)
 res:W.heap[br]?=some (.cells #[.int .u8 0,.slice none 0 0] 132)
 rd:Rd w W b (bp (sg.drop k)++s)
theorem pA.step{w w2 w4:World}{b bb bs br kind n k g4 cap4:Nat}{sg:List (Nat×List ai)}{s:ByteArray}{gs:List Gm}{lv v2:Value}{rc:List Rc}{rs:List ai}(hb:w2.heap[bb]?=some (.cells #[.pointer (some ⟨b,0,none⟩)] 122))(hs:w2.heap[bs]?=some (.cells #[.int .u8 kind,lv] 132))(hr:w2.heap[br]?=some (.cells #[.int .u8 0,.slice none 0 0] 132))(ha:jb w w2 lv gs (sg.take k))(hrc:iX w w2 v2 rc rs)(hK:bX (λt=>t≠167) w2 w4)(ho:w4.ownsRow w.heap.size 167 2 (.slice (some ⟨g4,0,none⟩) (k+1) cap4) (k+1) (fN gs++ [.int .i64 n,v2]))(hrd:Rd w w4 b (bp (sg.drop (k+1))++s))(hne:b<w.heap.size/\w.heap.size<=bs/\bb≠bs/\br≠bs)(ht:sg.take (k+1)=sg.take k++ [(n,rs)])(hl:gs.length=k):pA w b bb bs br kind sg s (k+1) (w4.setCell ⟨bs,1,none⟩ (.slice (some ⟨g4,0,none⟩) (k+1) cap4)):=by
 obtain⟨n1,n2,n3,n4⟩:=hne;have hs4:=hK _ _ _ _ hs (by decide);have hK2:bX (λt=>t=151\/t=144) w2 (w4.setCell ⟨bs,1,none⟩ (.slice (some ⟨g4,0,none⟩) (k+1) cap4)):=λq cs t fr hq h=>bX.set hs4 (T:=λt=>t≠132) (λh=>h rfl) _ _ _ _ _ _ (hK _ _ _ _ hq (by rcases h with rfl|rfl<;>decide)) (by rcases h with rfl|rfl<;>decide);refine⟨?_,⟨_,gs++ [(n,v2,rc)],heap_set hs4,?_,?_,λg hg=>?_⟩,?_,hrd.setCell ⟨n2,by omega⟩ _⟩
 ·rw[Xg _ _ _ _ n3];exact hK _ _ _ _ hb (by decide)
 ·rw[Xk,hl,fN,XU];exact gE ho hs4 (by decide) _ _
 ·rw[ht,Yi,ha.is,List.map_singleton,hrc.cg]
 ·rcases List.mem_append.1 hg with hg|hg
  ·exact (ha.lI g hg).dO hK2 (.inl rfl) (.inr rfl)
  ·obtain rfl:=List.mem_singleton.1 hg
   have:=hrc.dO hK2 (.inl rfl) (.inr rfl);rw[<-hrc.cg]at this;exact this
 ·rw[Xg _ _ _ _ n4];exact hK _ _ _ _ hr (by decide)
theorem WH(w:World)(b bb bs br kind:Nat)(sg:List (Nat×List ai))(s:ByteArray)(hne:b<w.heap.size/\w.heap.size<=bb/\w.heap.size<=bs/\w.heap.size<=br/\bb≠bs/\br≠bs)(hlen:sg.length<=64)(k:Nat)(hk:k<sg.length)(hok:j6 sg[k].1 sg[k].2)(W W':World)(h:pA w b bb bs br kind sg s k W)(hr:Rd W W' b (gB sg[k].2++(bp (sg.drop (k+1))++s))):
  Calls aa.prog 76 #[.int .i64 sg[k].1,.pointer (some ⟨bs,0,none⟩),.pointer (some ⟨bb,0,none⟩)] W' λe w'=>e=.returned (.tuple #[])/\pA w b bb bs br kind sg s (k+1) w':=by
 obtain⟨i0,hi0,hz0,hz1,hz2⟩:=Xm aa.F7;obtain⟨n1,n2,n3,n4,n5,n6⟩:=hne;have HTk:Hid (sg.take (k+1)=sg.take k++ [sg[k]]):=Xq hk;obtain⟨lv,gs,hst,hsa⟩:=h.st;have hgl:gs.length=k:=by have:=congrArg List.length hsa.is;simpa[Nat.min_eq_left (Nat.le_of_lt hk)] using this
 have hbx:=hr.other h.box (show bb≠b by omega);have hst':=hr.other hst (show bs≠b by omega);have hre:=hr.other h.res (show br≠b by omega);have hKT:bX (λt=>t≠158) W W':=bX.rd hr h.rd.1 (λh=>h rfl);have hsa':=hsa.dO hKT (by decide) (by decide) (by decide);have hrd:Rd w W' b (gB sg[k].2++(bp (sg.drop (k+1))++s)):=h.rd.trans hr;have hrow:W'.ownsRow w.heap.size 167 2 lv k (fN gs):=by have:=hsa'.row;rw[hgl]at this;exact this
 clear h hr hst hsa hKT;generalize sg[k]=g at*;obtain⟨n,rs⟩:=g;simp only[gB] at*;rw[bY]at hrd;obtain⟨ad,cap,rfl⟩:=gP hrow;obtain⟨cb,fb⟩:=al hbx;obtain⟨cs,fs⟩:=al hst';have x0:=cb 0;have y1:=cs 1;have g1:=fs 1;clear cb fb cs fs;have HRr:Hid (Calls aa.prog 77 #[.pointer (some ⟨b,0,none⟩),.int .i64 n] W'.drew λe w2=>∃ad2 len2 cap2 rc,e=.returned (.slice ad2 len2 cap2)/\iX w w2 (.slice ad2 len2 cap2) rc rs/\Rd w w2 b (bp (sg.drop (k+1))++s)/\w2.heap[bb]?=some (.cells #[.pointer (some ⟨b,0,none⟩)] 122)/\w2.heap[bs]?=some (.cells #[.int .u8 kind,.slice ad k cap] 132)/\w2.heap[br]?=some (.cells #[.int .u8 0,.slice none 0 0] 132)/\w2.ownsRow w.heap.size 167 2 (.slice ad k cap) k (fN gs)/\jb w w2 (.slice ad k cap) gs (sg.take k)):=by
  refine (TJ b n rs _ W'.drew (hrd.1.below (AT _ _).drew) hok).mono ?_;rintro e w2 ⟨v2,rc,rfl,hrc,hr2⟩;obtain⟨ad2,cap2,rfl⟩:=gP hrc.row;have hr2':Rd W' w2 b (bp (sg.drop (k+1))++s):=⟨hr2.1,(Fr.refl _ _).drew.trans hr2.2⟩
  have hKT:bX (λt=>t≠158) W' w2:=bX.rd hr2' hrd.1 (λh=>h rfl);exact⟨ad2,_,cap2,rc,rfl,hrc.base hrd.2.size,hrd.trans hr2',hr2'.other hbx (by omega),hr2'.other hst' (by omega),hr2'.other hre (by omega),hKT.row hrow (by decide),hsa'.dO hKT (by decide) (by decide) (by decide)⟩
 clear hbx hst' hre hsa' hrd hrow hok;go_enter aa.func76,aa.ntmps76;go_region_law (first
  |(refine step_append_lies _ rfl _ _ _ rfl w.heap.size 167 i0 _ 2 32 aa.underlying130 hi0 hz0 hz1 hz2 rfl (by omega) (.slice ad k cap) _ _ rfl (Xh HO2.out _) ⟨w2.heap.size,0,none⟩ 1 1 [.int .i64 n,.slice ad2 len2 cap2] rfl rfl (Xr (BY w2 _)) (by simp[Value.oneCell']) (by omega) (by unfold maxLen;omega) (by omega) (by have:=HRd2.out.2.size;simp;omega) (w2.heap.size+1) (by simp) ?_;intro g4 cap4 w4 hown4 hgr4 hat4 hlt4;have HO4:Hid (w4.ownsRow w.heap.size 167 2 (.slice (some ⟨g4,0,none⟩) (k+1) cap4) (k+1) (fN gs++ [.int .i64 n,.slice ad2 len2 cap2])):=hown4;have hK4:bX (λt=>t≠167) w2 w4:=(bX.below ((AT _ _).alloc (iR _) _)).trans (bX.grown hgr4 (Xh HO2.out _) (λh=>h rfl));have HK4:Hid (bX (λt=>t≠167) w2 w4):=hK4;have hc4:=hK4 _ _ _ _ HS2.out (by decide);obtain⟨cb4,fb4⟩:=al hc4;have c41:=cb4 1;have f41:=fb4 1;have HRd4:Hid (Rd w w4 b (bp (sg.drop (k+1))++s)):=(HRd2.out.below ((AT _ _).alloc (iR _) _)).mW (Xh HO2.out _) hgr4 (by decide);clear cb4 fb4 hc4 hK4 hown4 hgr4)
  |(go_simp;go_at_call 77;refine By HRr.out ?_;rintro e w2 ⟨ad2,len2,cap2,rc,rfl,hrc2,hrd2,hb2,hs2,hre2,ho2,hsa2⟩;obtain⟨cs2,fs2⟩:=al hs2;have y2:=cs2 1;have hbs2:=(Array.getElem?_eq_some_iff.1 hs2).1;have HRc2:Hid (iX w w2 (.slice ad2 len2 cap2) rc rs):=hrc2;have HRd2:Hid (Rd w w2 b (bp (sg.drop (k+1))++s)):=hrd2;have HB2:Hid (w2.heap[bb]?=some (.cells #[.pointer (some ⟨b,0,none⟩)] 122)):=hb2;have HS2:Hid (w2.heap[bs]?=some (.cells #[.int .u8 kind,.slice ad k cap] 132)):=hs2;have HRe2:Hid (w2.heap[br]?=some (.cells #[.int .u8 0,.slice none 0 0] 132)):=hre2;have HO2:Hid (w2.ownsRow w.heap.size 167 2 (.slice ad k cap) k (fN gs)):=ho2;have HSA2:Hid (jb w w2 (.slice ad k cap) gs (sg.take k)):=hsa2;clear hrc2 hrd2 hb2 hs2 hre2 ho2 hsa2 cs2 fs2))
 all_goals
  go_wp2;go_end0;exact⟨rfl,pA.step HB2.out HS2.out HRe2.out HSA2.out HRc2.out HK4.out HO4.out HRd4.out (by omega) HTk.out hgl⟩
theorem FY{l:List (Nat×List ai)}(h:k<l.length):bp (l.drop k)=ax l[k].1++(gB l[k].2++bp (l.drop (k+1))):=by
 rw[List.drop_eq_getElem_cons h,bp]
structure ky(sg:List (Nat×List ai)):Prop where
 len:1<=sg.length/\sg.length<=64
 num:∀g∈sg,g.1<64/\j6 g.1 g.2
 jh:(sg.map (·.1)).Pairwise (· < ·)
theorem MZ(b kind:Nat)(sg:List (Nat×List ai))(s:ByteArray)(w:World)(h:bP w b (ax sg.length++(bp sg++s)))(hok:ky sg):
  Calls aa.prog 56 #[.pointer (some ⟨b,0,none⟩),.int .u8 kind] w λe w'=>∃lv gs,e=.returned (.agg #[.int .u8 kind,lv])/\jb w w' lv gs sg/\Rd w w' b s:=by
 have hbl:=h.lt;have hl:=hok.len;have HE:Hid (∀W,W.heap[w.heap.size]?=some (.cells #[.pointer (some ⟨b,0,none⟩)] 122)->W.heap[w.heap.size+1]?=some (.cells #[.int .u8 0,.slice none 0 0] 132)->W.heap[w.heap.size+2]?=some (.cells #[.int .u8 kind,.slice none 0 0] 132)->Rd w W b (ax sg.length++(bp sg++s))->
   Calls aa.prog 74 #[.pointer (some ⟨b,0,none⟩),.int .i64 3,.func (.func 76) #[] #[.pointer (some ⟨w.heap.size+2,0,none⟩),.pointer (some ⟨w.heap.size,0,none⟩)]] W λe w'=>e=.returned (.tuple #[])/\∃lv gs,w'.heap[w.heap.size+2]?=some (.cells #[.int .u8 kind,lv] 132)/\jb w w' lv gs sg/\w'.heap[w.heap.size+1]?=some (.cells #[.int .u8 0,.slice none 0 0] 132)/\Rd w w' b s):=by
  intro W h1 h2 h3 h4;have e1:(sg.map (·.1)).length=sg.length:=Xn ..
  have:=CX _ (.inr rfl) b 3 (.pointer (some ⟨w.heap.size+2,0,none⟩)) (.pointer (some ⟨w.heap.size,0,none⟩)) (sg.map (·.1)) (λk=>bp (sg.drop k)++s) (λk=>gB ((sg[k]?.map (·.2)).getD [])) (pA w b w.heap.size (w.heap.size+2) (w.heap.size+1) kind sg s) W
   (by rw[e1,List.drop_zero];exact h4.1) (by rw[e1];exact hl) (by omega) (λn hn=>by obtain⟨g,hg,rfl⟩:=XP.1 hn;exact (hok.num g hg).1) hok.jh
   (λk hk=>by rw[e1]at hk;simp only[FY hk,YJ,List.getElem?_eq_getElem hk,XL,Yj,bY])
   (λw' hr=>⟨hr.other h1 (by omega),⟨_,[],hr.other h3 (by omega),⟨XZ _ _ _ _,rfl,λg hg=>by cases hg⟩⟩,hr.other h2 (by omega),h4.trans hr⟩)
   (λk W hJ=>hJ.rd.1)
   (λk hk W W' hJ hr=>by
    rw[e1]at hk;simp only[List.getElem?_eq_getElem hk,XL,Yj]at hr
    have:=WH w b w.heap.size (w.heap.size+2) (w.heap.size+1) kind sg s (by omega) hl.2 k hk (hok.num _ (Xe hk)).2 W W' hJ hr;simpa using this)
  refine this.mono ?_;rintro e w' ⟨rfl,hJ⟩;rw[e1]at hJ;obtain⟨lv,gs,x1,x2⟩:=hJ.st;rw[Xx]at x2;have x3:=hJ.rd;rw[List.drop_length,bp,iZ]at x3;exact⟨rfl,lv,gs,x1,x2,hJ.res,x3⟩
 have hmf:∀(fn:Fn) (first cap:Array Value) (w:World),(Instr.makeFunc fn first cap).run aa.prog w=.ok (.func fn first cap) w:=λ_ _ _ _=>rfl;obtain⟨W0,hW0⟩: ∃W,W=(((w.alloc (.cells #[.pointer (some ⟨b,0,none⟩)] 122)).alloc (.cells #[.int .u8 0,.slice none 0 0] 132)).alloc (.cells #[.int .u8 kind,.slice none 0 0] 132)):=⟨_,rfl⟩
 have hB0:Below w.heap.size w W0:=by rw[hW0];exact (((AT _ _).alloc (iR _) _).alloc (by simp) _).alloc (by simp;omega) _
 have HE':Hid _:=HE.out W0 (by rw[hW0,OF _ _ _ (by simp;omega),OF _ _ _ (by simp)];exact BY w _) (by rw[hW0,OF _ _ _ (by simp)];exact kA w _ _) (by rw[hW0];have:=BY ((w.alloc (.cells #[.pointer (some ⟨b,0,none⟩)] 122)).alloc (.cells #[.int .u8 0,.slice none 0 0] 132)) (.cells #[.int .u8 kind,.slice none 0 0] 132);simpa using this) ((Rd.refl h).below hB0);clear h HE;go_enter aa.func56,aa.ntmps56;go_wp2_with (go_at_call 74;rw[<-hW0];refine By HE'.out ?_;rintro e w3 ⟨rfl,lv,gs,hs3,hsa3,hre3,hrd3⟩;obtain⟨ad,cap,rfl⟩:=gP hsa3.row;obtain⟨cs3,fs3⟩:=al hs3;obtain⟨cr3,fr3⟩:=al hre3;have s0:=cs3 0;have s1:=cs3 1;have r0:=cr3 0;have r1:=cr3 1;have t0:=fr3 0;have t1:=fr3 1;clear cs3 fs3 cr3 fr3;have HSA:Hid (jb w w3 (.slice ad gs.length cap) gs sg):=hsa3;have HRE:Hid (w3.heap[w.heap.size+1]?=some (.cells #[.int .u8 0,.slice none 0 0] 132)):=hre3;have HRD:Hid (Rd w w3 b s):=hrd3;clear hs3 hsa3 hre3 hrd3)
 refine XF (v:=.agg #[.int .u8 kind,.slice ad gs.length cap]) ?_ rfl ⟨_,gs,rfl,?_,?_⟩
 ·simp[results,aa.results56,go_sem,r0,r1]
 ·have k1:=bX.set (T:=λt=>t≠132) HRE.out (λh=>h rfl) 0 (.int .u8 kind);have k2:=bX.set (T:=λt=>t≠132) (heap_set (o:=0) (v:=.int .u8 kind) HRE.out) (λh=>h rfl) 1 (.slice ad gs.length cap);exact HSA.out.dO (k1.trans k2) (by decide) (by decide) (by decide)
 ·exact (HRD.out.setCell (by omega) _).setCell (by omega) _
theorem aa.D4:(aa.prog.info? 163).map (λi=>(i.zero,i.size,i.bytes))=some (some (.agg #[.int .i64 0,.int .u64 0,.int .u64 0,.int .u64 0,.int .u64 0]),5,40):=by kernel_rfl
abbrev Nd:=Nat×(Nat->Int)
def Gf(d:Nat->Int):Prop:=∀i,i<4->0<=d i/\d i<18446744073709551616
def km(d:Nat->Int)(i:Nat):ByteArray:=(List.range' i (4-i)).foldr (λj s=>fW (d j)++s) ByteArray.empty
theorem FM(d:Nat->Int):km d 0=cP d 4:=by
 simp[km,cP,List.range'_succ,gN,bY,iZ]
theorem P4(d:Nat->Int)(h:i<4):km d i=fW (d i)++km d (i+1):=by
 unfold km;rw[show 4-i=(4-(i+1))+1 by omega,List.range'_succ];simp
theorem MV(d:Nat->Int):km d 4=ByteArray.empty:=rfl
def b9:List Nd->ByteArray
 |[]=>ByteArray.empty
 |g::l=>ax g.1++(km g.2 0++b9 l)
theorem LU{l:List Nd}(h:k<l.length):b9 (l.drop k)=ax l[k].1++(km l[k].2 0++b9 (l.drop (k+1))):=by
 rw[List.drop_eq_getElem_cons h,b9]
def mh(g:Nd):List Value:=[.int .i64 g.1,.int .u64 (g.2 0),.int .u64 (g.2 1),.int .u64 (g.2 2),.int .u64 (g.2 3)]
def ez(l:List Nd):List Value:=l.flatMap mh
abbrev fZ(n:Nat)(d:Nat->Int)(i:Nat):Array Value:=#[.int .i64 n,.int .u64 (gG d i 0),.int .u64 (gG d i 1),.int .u64 (gG d i 2),.int .u64 (gG d i 3)]
theorem BB(n:Nat)(d:Nat->Int)(h:i<4):(fZ n d i).setIfInBounds (1+i) (.int .u64 (d i))=fZ n d (i+1):=by
 rcases fp h with rfl|rfl|rfl|rfl<;>simp[fZ,gG]
theorem EB(n:Nat)(d:Nat->Int)(h:i<4):(fZ n d i)[1+i]?=some (.int .u64 0):=by
 rcases fp h with rfl|rfl|rfl|rfl<;>simp[fZ,gG]
structure pN(w:World)(b bb bs br lev:Nat)(sg:List Nd)(s:ByteArray)(k:Nat)(W:World):Prop where
 box:W.heap[bb]?=some (.cells #[.pointer (some ⟨b,0,none⟩)] 122)
 st: ∃lv,W.heap[bs]?=some (.cells #[.int .i64 lev,lv] 128)/\W.ownsRow w.heap.size 163 5 lv k (ez (sg.take k))
 res:W.heap[br]?=some (.cells #[.int .i64 0,.slice none 0 0] 128)
 rd:Rd w W b (b9 (sg.drop k)++s)
theorem pN.DK{bb bs br lev:Nat}{sg:List Nd}{s':ByteArray}{lv:Value}(hbox:W.heap[bb]?=some (.cells #[.pointer (some ⟨b,0,none⟩)] 122))(hst:W.heap[bs]?=some (.cells #[.int .i64 lev,lv] 128))(hrow:W.ownsRow w.heap.size 163 5 lv k (ez (sg.take k)))(hres:W.heap[br]?=some (.cells #[.int .i64 0,.slice none 0 0] 128))(h0:bP W b s0)(hr:Rd W W' b s'):
  W'.heap[bb]?=some (.cells #[.pointer (some ⟨b,0,none⟩)] 122)/\W'.heap[bs]?=some (.cells #[.int .i64 lev,lv] 128)/\W'.ownsRow w.heap.size 163 5 lv k (ez (sg.take k))/\W'.heap[br]?=some (.cells #[.int .i64 0,.slice none 0 0] 128):=by
 have hK:bX (λt=>t≠158) W W':=bX.rd hr h0 (λh=>h rfl);exact⟨hK _ _ _ _ hbox (by decide),hK _ _ _ _ hst (by decide),hK.row hrow (by decide),hK _ _ _ _ hres (by decide)⟩
structure pO(w:World)(b bb bs br lev bn k i:Nat)(lv:Value)(n:Nat)(d:Nat->Int)(sg:List Nd)(s:ByteArray)(W:World):Prop where
 box:W.heap[bb]?=some (.cells #[.pointer (some ⟨b,0,none⟩)] 122)
 st:W.heap[bs]?=some (.cells #[.int .i64 lev,lv] 128)
 row:W.ownsRow w.heap.size 163 5 lv k (ez (sg.take k))
 res:W.heap[br]?=some (.cells #[.int .i64 0,.slice none 0 0] 128)
 nd:W.heap[bn]?=some (.cells (fZ n d i) 163)
 q8:∀q,lv.ownBlock=some q->q<bn
 rd:Rd w W b (km d i++s)
theorem Kl(w:World)(b bb bs br lev:Nat)(sg:List Nd)(s:ByteArray)(hne:b<w.heap.size/\w.heap.size<=bb/\w.heap.size<=bs/\w.heap.size<=br/\bb≠bs/\br≠bs)(hlen:sg.length<=64)(k:Nat)(hk:k<sg.length)(hok:Gf sg[k].2)(W W':World)(h:pN w b bb bs br lev sg s k W)(hr:Rd W W' b (km sg[k].2 0++(b9 (sg.drop (k+1))++s))):
  Calls aa.prog 75 #[.int .i64 sg[k].1,.pointer (some ⟨bb,0,none⟩),.pointer (some ⟨bs,0,none⟩)] W' λe w'=>e=.returned (.tuple #[])/\pN w b bb bs br lev sg s (k+1) w':=by
 obtain⟨i0,hi0,hz0,hz1,hz2⟩:=Xm aa.D4;obtain⟨n1,n2,n3,n4,n5,n6⟩:=hne;have HTk:Hid (sg.take (k+1)=sg.take k++ [sg[k]]):=Xq hk;obtain⟨lv,hst,hrow⟩:=h.st;obtain⟨ad,cap,rfl⟩:=gP hrow;obtain⟨m1,m2,m3,m4⟩:=pN.DK h.box hst hrow h.res h.rd.1 hr;have hrd:=h.rd.trans hr;clear h hr hst hrow;generalize sg[k]=g at*;obtain⟨n,d⟩:=g;simp only at*;have hbl:∀q,Value.ownBlock (.slice ad k cap)=some q->q<W'.heap.size:=λq hq=>uR m3 hq;have HL0:Hid (pO w b bb bs br lev W'.heap.size k 0 (.slice ad k cap) n d sg (b9 (sg.drop (k+1))++s) (W'.alloc (.cells (fZ n d 0) 163))):=
  have hb:Below W'.heap.size W' (W'.alloc (.cells (fZ n d 0) 163)):=(AT _ _).alloc (iR _) _
  ⟨aQ m1 hb,aQ m2 hb,ec m3 hb (iR _),aQ m4 hb,BY W' _,hbl,hrd.below hb⟩
 have hbn:w.heap.size<=W'.heap.size:=hrd.2.size;have HDg:Hid (∀i,i<4->∀W1,pO w b bb bs br lev W'.heap.size k i (.slice ad k cap) n d sg (b9 (sg.drop (k+1))++s) W1->Calls aa.prog 54 #[.pointer (some ⟨b,0,none⟩)] W1 λe w2=>e=.returned (.int .u64 (d i))/\w2.heap[W'.heap.size]?=some (.cells (fZ n d i) 163)/\pO w b bb bs br lev W'.heap.size k (i+1) (.slice ad k cap) n d sg (b9 (sg.drop (k+1))++s) (w2.setCell ⟨W'.heap.size,1+i,none⟩ (.int .u64 (d i)))):=by
  intro i hi W1 hL;have h3:=hL.rd;rw[P4 d hi,bY]at h3;refine (Cj b (d i) _ W1 h3.1 (hok i hi).1 (hok i hi).2).mono ?_;rintro e w2 ⟨rfl,hr2⟩;obtain⟨x1,x2,x3,x4⟩:=pN.DK hL.box hL.st hL.row hL.res h3.1 hr2;have x5:=hr2.other hL.nd (by omega);have hnb:W'.heap.size≠bb:=λe=>by rw[e,x1]at x5;cases x5
  have hns:W'.heap.size≠bs:=λe=>by rw[e,x2]at x5;cases x5
  have bA:W'.heap.size≠br:=λe=>by rw[e,x4]at x5;cases x5
  have x6:=heap_set (o:=1+i) (v:=.int .u64 (d i)) x5;rw[BB n d hi]at x6;refine⟨rfl,x5,⟨?_,?_,?_,?_,x6,hL.q8,(h3.trans hr2).setCell ⟨hbn,by omega⟩ _⟩⟩
  ·rw[Xg _ _ _ _ (Xl hnb)];exact x1
  ·rw[Xg _ _ _ _ (Xl hns)];exact x2
  ·refine tQ x3 λq hq hv=>Xg _ _ _ _ (λe=>?_)
   have:=hL.q8 q hv;simp only at e;omega
  ·rw[Xg _ _ _ _ (Xl bA)];exact x4
 clear m1 m2 m3 m4 hrd hbl hok;go_enter aa.func75,aa.ntmps75;go_wp2;generalize W'.heap.size=bn at*;go_loopw [8] (λiv wr=>∃i:Nat,i<=4/\iv=.int .i64 i/\Hid (pO w b bb bs br lev bn k i (.slice ad k cap) n d sg (b9 (sg.drop (k+1))++s) wr)) (λiv _=>4-(intOf iv).toNat)
 case atStart=>exact⟨0,by omega,rfl,HL0.out⟩
 case round=>
  obtain⟨i,hi,rfl,HL⟩:=hrel;clear HL0;by_cases hi4:i<4
  ·have i1:(i:Int)<4:=by omega
   have i00:(0:Int)<=(i:Int):=by omega
   have bx:=(al HL.out.box).1 0;have HD':Hid (Calls aa.prog 54 #[.pointer (some ⟨b,0,none⟩)] wr λe w2=>e=.returned (.int .u64 (d i))/\w2.heap[bn]?=some (.cells (fZ n d i) 163)/\pO w b bb bs br lev bn k (i+1) (.slice ad k cap) n d sg (b9 (sg.drop (k+1))++s) (w2.setCell ⟨bn,1+i,none⟩ (.int .u64 (d i)))):=HDg.out i hi4 wr HL.out;go_wp2_with (go_at_call 54;refine HD'.out.mono ?_;rintro e w2 ⟨rfl,hn2,hL2⟩;obtain⟨c2,f2⟩:=al hn2;have cI:=(c2 (1+i)).trans (EB n d hi4);have fI:=f2 (1+i);clear c2 f2 hn2;have HL2:Hid (pO w b bb bs br lev bn k (i+1) (.slice ad k cap) n d sg (b9 (sg.drop (k+1))++s) (w2.setCell ⟨bn,1+i,none⟩ (.int .u64 (d i)))):=hL2;clear hL2)
   exact⟨⟨i+1,by omega,by go_num,HL2.out⟩,by simp[intOf];omega⟩
  ·obtain rfl:i=4:=by omega
   obtain⟨cs,fs⟩:=al HL.out.st;obtain⟨cn,fn⟩:=al HL.out.nd;have y1:=cs 1;clear cs fs;go_wp2_with (at_builtin;refine YP _ rfl _ _ _ rfl w.heap.size 163 i0 _ 5 40 aa.underlying126 hi0 hz0 hz1 hz2 rfl (by omega) (.slice ad k cap) _ _ rfl (Xh HL.out.row _) ⟨wr.heap.size,0,none⟩ 1 1 _ rfl (by rfl) (Xr (BY wr _)) (by simp[Value.oneCell']) (by omega) (by unfold maxLen;omega) (by omega) (by have:=HL.out.rd.2.size;simp;omega) (wr.heap.size+1) (by simp) ?_;intro g4 cap4 w4 hown4 hgr4 hat4 hlt4;have HO4:Hid (w4.ownsRow w.heap.size 163 5 (.slice (some ⟨g4,0,none⟩) (k+1) cap4) (k+1) (ez (sg.take k)++(fZ n d 4).toList)):=hown4;have hK4:bX (λt=>t≠163) wr w4:=(bX.below ((AT _ _).alloc (iR _) _)).trans (bX.grown hgr4 (Xh HL.out.row _) (λh=>h rfl));have HK4:Hid (bX (λt=>t≠163) wr w4):=hK4;have hc4:=hK4 _ _ _ _ HL.out.st (by decide);obtain⟨cb4,fb4⟩:=al hc4;have c41:=cb4 1;have f41:=fb4 1;have HRd4:Hid (Rd w w4 b (km d 4++(b9 (sg.drop (k+1))++s))):=(HL.out.rd.below ((AT _ _).alloc (iR _) _)).mW (Xh HL.out.row _) hgr4 (by decide);clear cb4 fb4 hc4 hK4 hown4 hgr4)
   go_end0;have hs4:=HK4.out _ _ _ _ HL.out.st (by decide);have hrd4:=HRd4.out;rw[MV,iZ]at hrd4;have hp:∀j,j<4->gG d 4 j=d j:=λj hj=>by simp[gG,hj]
   refine⟨rfl,?_,⟨_,heap_set hs4,?_⟩,?_,hrd4.setCell ⟨n3,by omega⟩ _⟩
   ·rw[Xg _ _ _ _ n5];exact HK4.out _ _ _ _ HL.out.box (by decide)
   ·rw[HTk.out,ez,XU]
    have:=gE HO4.out hs4 (by decide) 1 (.slice (some ⟨g4,0,none⟩) (k+1) cap4);simp only[fZ,hp 0 (by omega),hp 1 (by omega),hp 2 (by omega),hp 3 (by omega)]at this;exact this
   ·rw[Xg _ _ _ _ n6];exact HK4.out _ _ _ _ HL.out.res (by decide)
structure kV(lev:Nat)(sg:List Nd):Prop where
 low:lev<3
 len:1<=sg.length/\sg.length<=64
 num:∀g∈sg,g.1<4 ^ lev/\Gf g.2
 jh:(sg.map (·.1)).Pairwise (· < ·)
theorem JB(b lev:Nat)(sg:List Nd)(s:ByteArray)(w:World)(h:bP w b (ax lev++(ax sg.length++(b9 sg++s))))(hok:kV lev sg):
  Calls aa.prog 55 #[.pointer (some ⟨b,0,none⟩)] w λe w'=>∃lv,e=.returned (.agg #[.int .i64 lev,lv])/\w'.ownsRow w.heap.size 163 5 lv sg.length (ez sg)/\Rd w w' b s:=by
 have hbl:=h.lt;have hl:=hok.len;have hlev:=hok.low;have HE:Hid (∀W bs,w.heap.size+2<=bs->W.heap[w.heap.size]?=some (.cells #[.pointer (some ⟨b,0,none⟩)] 122)->W.heap[w.heap.size+1]?=some (.cells #[.int .i64 0,.slice none 0 0] 128)->W.heap[bs]?=some (.cells #[.int .i64 lev,.slice none 0 0] 128)->Rd w W b (ax sg.length++(b9 sg++s))->
   Calls aa.prog 74 #[.pointer (some ⟨b,0,none⟩),.int .i64 lev,.func (.func 75) #[] #[.pointer (some ⟨w.heap.size,0,none⟩),.pointer (some ⟨bs,0,none⟩)]] W λe w'=>e=.returned (.tuple #[])/\∃lv,w'.heap[bs]?=some (.cells #[.int .i64 lev,lv] 128)/\w'.ownsRow w.heap.size 163 5 lv sg.length (ez sg)/\w'.heap[w.heap.size+1]?=some (.cells #[.int .i64 0,.slice none 0 0] 128)/\Rd w w' b s):=by
  intro W bs h0 h1 h2 h3 h4;have e1:(sg.map (·.1)).length=sg.length:=Xn ..
  have:=CX _ (.inl rfl) b lev (.pointer (some ⟨w.heap.size,0,none⟩)) (.pointer (some ⟨bs,0,none⟩)) (sg.map (·.1)) (λk=>b9 (sg.drop k)++s) (λk=>km ((sg[k]?.map (·.2)).getD λ_=>0) 0) (pN w b w.heap.size bs (w.heap.size+1) lev sg s) W
   (by rw[e1,List.drop_zero];exact h4.1) (by rw[e1];exact hl) (by omega) (λn hn=>by obtain⟨g,hg,rfl⟩:=XP.1 hn;exact (hok.num g hg).1) hok.jh
   (λk hk=>by rw[e1]at hk;simp only[LU hk,YJ,List.getElem?_eq_getElem hk,XL,Yj,bY])
   (λw' hr=>⟨hr.other h1 (by omega),⟨_,hr.other h3 (by omega),XZ _ _ _ _⟩,hr.other h2 (by omega),h4.trans hr⟩)
   (λk W hJ=>hJ.rd.1)
   (λk hk W W' hJ hr=>by
    rw[e1]at hk;simp only[List.getElem?_eq_getElem hk,XL,Yj]at hr
    have:=Kl w b w.heap.size bs (w.heap.size+1) lev sg s (by omega) hl.2 k hk (hok.num _ (Xe hk)).2 W W' hJ hr;simpa using this)
  refine this.mono ?_;rintro e w' ⟨rfl,hJ⟩;rw[e1]at hJ;obtain⟨lv,x1,x2⟩:=hJ.st;rw[Xx]at x2;have x3:=hJ.rd;rw[List.drop_length,b9,iZ]at x3;exact⟨rfl,lv,x1,x2,hJ.res,x3⟩
 have hmf:∀(fn:Fn) (first cap:Array Value) (w:World),(Instr.makeFunc fn first cap).run aa.prog w=.ok (.func fn first cap) w:=λ_ _ _ _=>rfl;have HBy:Hid (∀W,Below w.heap.size w W->Calls aa.prog 53 #[.pointer (some ⟨b,0,none⟩)] W λe w'=>e=.returned (.int .i64 lev)/\Rd W w' b (ax sg.length++(b9 sg++s))):=λW hW=>nc b lev _ W (h.below hW) (by omega) (by omega);have HM:Hid _:=ui b;have l1:(lev:Int)<3:=by omega
 obtain⟨W0,hW0⟩: ∃W,W=(w.alloc (.cells #[.pointer (some ⟨b,0,none⟩)] 122)).alloc (.cells #[.int .i64 0,.slice none 0 0] 128):=⟨_,rfl⟩
 have HB0:Hid (Below w.heap.size w W0):=(by rw[hW0];exact ((AT _ _).alloc (iR _) _).alloc (by simp) _)
 have Hb0:Hid (W0.heap[w.heap.size]?=some (.cells #[.pointer (some ⟨b,0,none⟩)] 122)):=(by rw[hW0,OF _ _ _ (by simp)];exact BY w _)
 have Hr0:Hid (W0.heap[w.heap.size+1]?=some (.cells #[.int .i64 0,.slice none 0 0] 128)):=(by rw[hW0];exact kA w _ _)
 have HBy':Hid (Calls aa.prog 53 #[.pointer (some ⟨b,0,none⟩)] ((w.alloc (.cells #[.pointer (some ⟨b,0,none⟩)] 122)).alloc (.cells #[.int .i64 0,.slice none 0 0] 128)) λe w'=>e=.returned (.int .i64 lev)/\Rd w w' b (ax sg.length++(b9 sg++s))/\w'.heap[w.heap.size]?=some (.cells #[.pointer (some ⟨b,0,none⟩)] 122)/\w'.heap[w.heap.size+1]?=some (.cells #[.int .i64 0,.slice none 0 0] 128)/\w.heap.size+2<=w'.heap.size):=by
  rw[<-hW0];refine (HBy.out W0 HB0.out).mono ?_;rintro e w' ⟨rfl,hr⟩;have hr':=((Rd.refl h).below HB0.out).trans hr;have hz:=(Array.getElem?_eq_some_iff.1 (hr.other Hr0.out (by omega))).1;exact⟨rfl,hr',hr.other Hb0.out (by omega),hr.other Hr0.out (by omega),by omega⟩
 clear h HBy hW0 HB0 Hb0 Hr0;go_enter aa.func55,aa.ntmps55;go_wp2_with (first
  |(go_at_call 53;refine By HBy'.out ?_;rintro e w1 ⟨rfl,hr1,hb1,hre1,hz1⟩;have bx1:=(al hb1).1 0;have HR1:Hid (Rd w w1 b (ax sg.length++(b9 sg++s))):=hr1;have Hb1:Hid (w1.heap[w.heap.size]?=some (.cells #[.pointer (some ⟨b,0,none⟩)] 122)):=hb1;have Hre1:Hid (w1.heap[w.heap.size+1]?=some (.cells #[.int .i64 0,.slice none 0 0] 128)):=hre1;clear hr1 hb1 hre1;have hzz:w.heap.size<w1.heap.size:=by omega)
  |(go_at_call 57;refine (HM.out _).mono ?_;rintro e w' ⟨rfl,hw'⟩;subst w')
  |(go_at_call 74;refine By (HE.out _ w1.heap.size hz1 (aQ Hb1.out ((AT _ _).alloc (iR _) _)) (aQ Hre1.out ((AT _ _).alloc (iR _) _)) (BY w1 _) (HR1.out.below ((AT _ _).alloc (iR _) _))) ?_;rintro e w3 ⟨rfl,lv,hs3,hsa3,hre3,hrd3⟩;obtain⟨ad,cap,rfl⟩:=gP hsa3;obtain⟨cs3,fs3⟩:=al hs3;obtain⟨cr3,fr3⟩:=al hre3;have s0:=cs3 0;have s1:=cs3 1;have r0:=cr3 0;have r1:=cr3 1;have t0:=fr3 0;have t1:=fr3 1;clear cs3 fs3 cr3 fr3;have HSA:Hid (w3.ownsRow w.heap.size 163 5 (.slice ad sg.length cap) sg.length (ez sg)):=hsa3;have HRE:Hid (w3.heap[w.heap.size+1]?=some (.cells #[.int .i64 0,.slice none 0 0] 128)):=hre3;have HRD:Hid (Rd w w3 b s):=hrd3;clear hs3 hsa3 hre3 hrd3))
 refine XF (v:=.agg #[.int .i64 lev,.slice ad sg.length cap]) ?_ rfl ⟨_,rfl,?_,?_⟩
 ·simp[results,aa.results55,go_sem,r0,r1]
 ·exact gE (gE HSA.out HRE.out (by decide) 0 (.int .i64 lev)) (heap_set HRE.out) (by decide) _ _
 ·exact (HRD.out.setCell (by omega) _).setCell (by omega) _
section
open Go.Lib (strCells strCells_length strCells_oneCell)
def dg(T:Nat->ByteArray):Nat->Nat->Int
 |0,n=>cS (T n)
 |h+1,n=>gJ λj=>dg T h (n*4+j)
@[simp] theorem aa.call68(args:Array Value)(w:World):Sem.run aa.prog (callFunc 68 args) w=.ok (.enter 68 args) w:=aa.aG aa.func68 (by kernel_rfl) rfl args w
def Ee:Value->Nat
 |.slice _ n _=>n
 |_=>0
theorem Tf(T:Nat->ByteArray)(k n m:Nat):((List.range m).map λi=>gJ λj=>(λi=>dg T k (n*(m*4)+i)) (i*4+j))=(List.range m).map λi=>dg T (k+1) (n*m+i):=by
 apply XI;intro i _;rw[dg];congr 1;funext j;show dg T k (n*(m*4)+(i*4+j))=dg T k ((n*m+i)*4+j);congr 1;rw[<-Nat.mul_assoc];omega
theorem Sd(b lv n:Nat)(T:Nat->ByteArray)(w:World)(hT:∀k:Nat,k<64->∀W,Below w.heap.size w W->Calls aa.prog 28 #[.pointer (some ⟨b,0,none⟩),.int .i64 k] W λe w'=>e=.returned (.string (T k))/\Below W.heap.size W w')(hTs:∀k,k<64->(T k).size<=maxLen)(hl:lv<=3)(hn:n<4 ^ lv):
  Calls aa.prog 47 #[.int .i64 lv,.int .i64 n,.func (.func 28) #[.pointer (some ⟨b,0,none⟩)] #[]] w λe w'=>e=.returned (.int .u64 (dg T (3-lv) n))/\Below w.heap.size w w':=by
 obtain⟨h,hh⟩: ∃h,h=3-lv:=⟨_,rfl⟩
 have hh3:h<=3:=by omega
 have e1:(3:Int)-(lv:Int)=(h:Int):=by omega
 have hpw:4 ^ lv*4 ^ h=64:=by
  rw[<-Nat.pow_add,show lv+h=3 by omega]
 obtain⟨c,hcd⟩: ∃c,c=4 ^ h:=⟨_,rfl⟩
 have hc4:c=1\/c=4\/c=16\/c=64:=by
  rw[hcd];rcases E5 hh3 with rfl|rfl|rfl|rfl<;>decide
 have hf:n*c+c<=64:=by
  rw[<-hpw,<-hcd,<-Nat.succ_mul];exact Nat.mul_le_mul_right c hn
 have HW:Hid (∀W,Calls aa.prog 46 #[.int .i64 (h:Int)] W λe w'=>e=.returned (.int .i64 (c:Int))/\w'=W):=λW=>by rw[hcd];exact Di h hh3 W
 have HS:=QB b (n*c) c T w hT hTs hc4 hf;have HSeg:Hid (Calls aa.prog 68 #[.int .i64 ((n:Int)*(c:Int)),.int .i64 c,.func (.func 28) #[.pointer (some ⟨b,0,none⟩)] #[]] w λe w'=>∃v,e=.returned v/\gv w' w.heap.size v ((List.range c).map λi=>cS (T (n*c+i)))/\Below w.heap.size w w'):=(by rw[<-Int.natCast_mul];exact HS)
 have hnc:(n:Int)*(c:Int)<=64:=by rw[<-Int.natCast_mul];omega
 have hnc0:(0:Int)<=(n:Int)*(c:Int):=by rw[<-Int.natCast_mul];omega
 have hcc:c<=64:=by omega
 have HD0:Hid (((List.range c).map λi=>cS (T (n*c+i)))=(List.range (4 ^ (h-0))).map λi=>dg T 0 (n*4 ^ (h-0)+i)):=(show _=_ by rw[Nat.sub_zero,<-hcd];rfl)
 rw[<-hh];clear HS hT hTs hpw hf hc4 hcd hh hn;go_enter aa.func47,aa.ntmps47;go_wp2_with (first
  |(go_at_call 46;refine By (HW.out _) ?_;rintro e w0 ⟨rfl,hw0⟩;obtain rfl:=hw0.symm)
  |(go_at_call 68;go_loud (refine By HSeg.out ?_;rintro e w1 ⟨v1,rfl,hr1,hb1⟩;rw[HD0.out]at hr1;have HR1:Hid (gv w1 w.heap.size v1 ((List.range (4 ^ (h-0))).map λi=>dg T 0 (n*4 ^ (h-0)+i))):=hr1;have HB1:Hid (Below w.heap.size w w1):=hb1;clear hr1 hb1)))
 clear HW HSeg HD0 hnc hnc0 e1;go_loopw [8] (λo wr=>∃k:Nat,k<=h/\Hid (gv wr w.heap.size o ((List.range (4 ^ (h-k))).map λi=>dg T k (n*4 ^ (h-k)+i)))/\Hid (Below w.heap.size w wr)) (λo _=>Ee o)
 case atStart=>exact⟨0,by omega,HR1.out,HB1.out⟩
 case round=>
  obtain⟨k,hk,hr,hb⟩:=hrel;have HR:Hid (gv wr w.heap.size u8 ((List.range (4 ^ (h-k))).map λi=>dg T k (n*4 ^ (h-k)+i))):=hr.out;have HB:Hid (Below w.heap.size w wr):=hb.out;have hsz:=hb.out.size;clear hr hb;by_cases hlt:k<h
  ·obtain⟨m,hm⟩: ∃m,m=4 ^ (h-(k+1)):=⟨_,rfl⟩
   have hL:4 ^ (h-k)=m*4:=by rw[hm,<-XH];congr 1;omega
   have hm16:1<=m/\m<=16:=by
    have:h-(k+1)=0\/h-(k+1)=1\/h-(k+1)=2:=by omega
    rw[hm];rcases this with e|e|e<;>rw[e]<;>decide
   have HRm:gv wr w.heap.size u8 ((List.range (m*4)).map λi=>dg T k (n*(m*4)+i)):=by have:=HR.out;rw[hL]at this;exact this
   obtain⟨ad,cap,rfl,hcap,_⟩:=HRm.len;have HP:Hid _:=SI w.heap.size m _ (λi=>dg T k (n*(m*4)+i)) wr hm16 HRm;have HU:Hid _:=Tf T k n m;have HMm:Hid (m=4 ^ (h-(k+1))):=hm;simp only[Xn,List.length_range] at*;have hg1:(1:Int)<(m:Int)*4:=by omega
   clear HR HRm hL hm;go_wp2_with (go_at_call 69;refine By HP.out ?_;rintro e w2 ⟨v2,rfl,hr2,hb2⟩;rw[HU.out]at hr2;have HR2:Hid (gv w2 w.heap.size v2 ((List.range m).map λi=>dg T (k+1) (n*m+i))):=ej hr2 hsz;have HB2:Hid (Below w.heap.size w w2):=HB.out.trans (hb2.mono hsz);clear hr2 hb2)
   refine⟨⟨k+1,by omega,?_,HB2.out⟩,?_⟩
   ·show gv _ _ _ _;rw[<-HMm.out];exact HR2.out
   ·obtain⟨ad2,cap2,e2,_⟩:=HR2.out.len;rw[e2];simp[Ee];omega
  ·obtain rfl:k=h:=by omega
   have HR0:gv wr w.heap.size u8 [dg T k n]:=by
    have:=HR.out;rw[Nat.sub_self]at this;simpa using this
   obtain⟨g,cap,rfl,hgl,hc0⟩:=vH HR0 (k:=0) rfl;have hcp:(cap:Int)<=9223372036854775807:=by
    obtain⟨ad,cap',e,hc,_⟩:=HR0.len;cases e;exact hc
   simp only[XX] at*;clear HR HR0;go_wp2;go_ret;exact⟨rfl,HB.out⟩
end
section
open Go.Lib (strCells strCells_length strCells_oneCell)
def bR(w:World)(bm:Nat->Nat)(K:aw)(lv n:Nat):Int:=dg (dE w bm K) (3-lv) n
theorem Jl{num:Nat}(h:aB w b bm num K)(hK:dK w bm K):∀k:Nat,k<64->∀W,Below w.heap.size w W->Calls aa.prog 28 #[.pointer (some ⟨b,0,none⟩),.int .i64 k] W λe w'=>e=.returned (.string (dE w bm K k))/\Below W.heap.size W w':=λk hk W hW=>by
 have e:dE W bm K k=dE w bm K k:=vT (hW.block _ (h.2.1 k hk).lt);rw[<-e];exact Bx b num k bm K W (h.below hW) (hK.below h hW) hk
theorem GJ{num:Nat}(h:aB w b bm num K)(hK:dK w bm K):∀k,k<64->(dE w bm K k).size<=maxLen:=λk hk=>by
 have:=yX h hK hk;unfold maxLen;omega
theorem CE(b num lv n:Nat)(bm:Nat->Nat)(K:aw)(w:World)(h:aB w b bm num K)(hK:dK w bm K)(hl:lv<=3)(hn:n<4 ^ lv):
  Calls aa.prog 27 #[.pointer (some ⟨b,0,none⟩),.int .i64 lv,.int .i64 n] w λe w'=>e=.returned (.int .u64 (bR w bm K lv n))/\Below w.heap.size w w':=by
 have HD:Hid _:=Sd b lv n (dE w bm K) w (Jl h hK) (GJ h hK) hl hn;have HE:Hid (dg (dE w bm K) (3-lv) n=bR w bm K lv n):=rfl;generalize bR w bm K lv n=D at*;clear h hK;go_enter aa.func27,aa.ntmps27;go_wp2_with (go_at_call 47;refine By HD.out ?_;rintro e w1 ⟨rfl,hb1⟩;rw[HE.out];have HB:Hid (Below w.heap.size w w1):=hb1;clear hb1)
 go_ret;exact⟨rfl,HB.out⟩
theorem zY(b num n:Nat)(bm:Nat->Nat)(K:aw)(w:World)(h:aB w b bm num K)(hK:dK w bm K)(hn:n<64):
  Calls aa.prog 11 #[.pointer (some ⟨b,0,none⟩),.int .i64 n] w λe w'=>e=.returned (.tuple #[.string (dE w bm K n),.int .i64 0])/\Below w.heap.size w w':=by
 have HD:Hid _:=Bx b num n bm K w h hK hn;have HH:Hid (∀W,Calls aa.prog 26 #[.int .i64 3,.int .i64 n] W λe w'=>e=.returned (.bool true)/\w'=W):=λW=>by
  have:=Ed 3 n (by omega) W;rwa [show decide (3<=3/\n<4 ^ 3)=true by simp;omega]at this
 generalize dE w bm K n=D at*;clear h hK hn;go_enter aa.func11,aa.ntmps11;go_wp2_with (first
  |(go_at_call 26;refine By (HH.out _) ?_;rintro e w0 ⟨rfl,hw0⟩;obtain rfl:=hw0.symm)
  |(go_at_call 28;refine By HD.out ?_;rintro e w1 ⟨rfl,hb1⟩;have HB:Hid (Below w.heap.size w w1):=hb1;clear hb1))
 go_ret2;exact⟨rfl,HB.out⟩
def FE(d:Int):ByteArray:=ax 82++fW d
theorem I2(d:Int)(w:World):
  Calls aa.prog 29 #[.agg #[.int .u64 d]] w λe w'=>e=.returned (.string (FE d))/\Below w.heap.size w w':=by
 have hrow:aH ((w.alloc (.cells #[.int .u64 d] 81)).alloc (.cells #[.int .u8 82] 5)) (w.heap.size+1) (.slice (some ⟨w.heap.size+1,0,none⟩) 1 1) (ax 82):=
  ⟨rfl,Or.inr ⟨w.heap.size+1,1,#[.int .u8 82],rfl,iR _,kA w _ _,iR _,by decide,rfl,rfl⟩⟩
 have HA:Hid _:=wL (w.heap.size+1) _ _ d _ hrow (by simp) (by decide);have HRow:Hid _:=hrow;clear hrow;go_enter aa.func29,aa.ntmps29;go_wp2_with (go_at_call 50;refine By HA.out ?_;rintro e w1 ⟨v1,rfl,hr1,hg1⟩;have hcv:=oU hr1;have HB:Hid (Below w.heap.size w w1):=(hg1.toBelow (((AT (w.heap.size) w).alloc (iR _) _).alloc (by simp) _) (by simp;omega) (ej HRow.out (by omega)));clear hr1 hg1)
 go_ret;exact⟨rfl,HB.out⟩
theorem Q9(b num:Nat)(bm:Nat->Nat)(K:aw)(w:World)(h:aB w b bm num K)(hK:dK w bm K):
  Calls aa.prog 12 #[.pointer (some ⟨b,0,none⟩)] w λe w'=>e=.returned (.string (FE (bR w bm K 0 0)))/\Below w.heap.size w w':=by
 have HD:Hid (Calls aa.prog 27 #[.pointer (some ⟨b,0,none⟩),.int .i64 0,.int .i64 0] w λe w'=>e=.returned (.int .u64 (bR w bm K 0 0))/\Below w.heap.size w w'):=CE b num 0 0 bm K w h hK (by decide) (by decide);generalize bR w bm K 0 0=D at*;clear h hK;go_enter aa.func12,aa.ntmps12;go_wp2_with (first
  |(go_at_call 27;refine By HD.out ?_;rintro e w1 ⟨rfl,hb1⟩;have HB1:Hid (Below w.heap.size w w1):=hb1;clear hb1)
  |(go_at_call 29;refine (I2 D _).mono ?_;rintro e w2 ⟨rfl,hb2⟩;have HB2:Hid (Below w.heap.size w w2):=HB1.out.trans (hb2.mono HB1.out.size);clear hb2))
 go_ret;exact⟨rfl,HB2.out⟩
theorem wP(s:ByteArray)(w:World)(hs:s.size<=maxLen):
  Calls aa.prog 13 #[.string s] w λe w'=>e=.returned (.int .u64 (cS s))/\w'=w:=by
 unfold maxLen at hs;go_enter aa.func13,aa.ntmps13;go_wp2;go_loop [3,4] (λd i=>∃k:Nat,k<=s.size/\i=.int .i64 k/\d=.int .u64 (iw s k)) (λ_ i=>s.size-(intOf i).toNat)
 case atStart=>exact⟨0,by omega,rfl,rfl⟩
 case round=>
  obtain⟨k,hk,rfl,rfl⟩:=hrel;by_cases hlt:k<s.size
  ·have g1:(k:Int)<(s.size:Int):=by omega
   have g0:(0:Int)<=(k:Int):=by omega
   have hst:Hid (iw s (k+1)=IntKind.u64.wrap (Go.bits .xor .u64 (iw s k) (s[k].toNat:Int)*1099511628211)):=by
    show iw s (k+1)=_;rw[iw,xA s k hlt]
   go_wp2;refine⟨⟨k+1,by omega,by go_num,?_⟩,by simp[intOf];omega⟩;rw[hst.out,yd]
  ·have hke:k=s.size:=by omega
   go_wp2;go_ret;exact⟨rfl,rfl⟩
end
inductive Let where
 |root (d:Int)
 |nodes (lev:Nat) (sg:List Nd)
 |aK (kind:Nat) (sg:List (Nat×List ai))
def Let.bytes:Let->ByteArray
 |.root d=>ax 82++fW d
 |.nodes lev sg=>ax 78++(ax lev++(ax sg.length++b9 sg))
 |.aK kind sg=>ax kind++(ax sg.length++bp sg)
def Let.Ok:Let->Prop
 |.root d=>0<=d/\d<18446744073709551616
 |.nodes lev sg=>kV lev sg
 |.aK kind sg=>(kind=83\/kind=84)/\ky sg
def sj(w W:World)(v:Value):Let->Prop
 |.root d=>v=.iface 81 (.agg #[.int .u64 d])
 |.nodes lev sg=>∃lv,v=.iface 128 (.agg #[.int .i64 lev,lv])/\W.ownsRow w.heap.size 163 5 lv sg.length (ez sg)
 |.aK kind sg=>∃lv gs,v=.iface 132 (.agg #[.int .u8 kind,lv])/\jb w W lv gs sg
theorem zX(b:Nat)(w:World)(h:bP w b ByteArray.empty):
  Calls aa.prog 58 #[.pointer (some ⟨b,0,none⟩)] w λe w'=>e=.returned (.bool true)/\w'=w:=by
 obtain⟨c,f⟩:=al h.1;go_enter aa.func58,aa.ntmps58;go_wp2;go_ret;exact⟨rfl,rfl⟩
theorem vM(T:ByteArray)(w:World):
  Calls aa.prog 52 #[.string T] w λe w'=>e=.returned (.pointer (some ⟨w.heap.size,0,none⟩))/\w'=w.alloc (.cells #[.string T,.bool false] 158):=by
 go_enter aa.func52,aa.ntmps52;go_wp2;go_ret;exact⟨rfl,rfl⟩
theorem Rd.out(h:Rd W W' b s)(hb:Below w.heap.size w W)(hl:w.heap.size<=b):Below w.heap.size w W':=
 hb.trans (h.2.toBelow (λk hk=>by omega) hb.size)
theorem NQ(d:Int)(w:World)(hok:0<=d/\d<18446744073709551616):
  Calls aa.prog 34 #[.string (ax 82++fW d)] w λe w'=>e=.returned (.tuple #[.iface 81 (.agg #[.int .u64 d]),.int .i64 0])/\Below w.heap.size w w':=by
 generalize hT:ax 82++fW d=T;have hsz:T.size=9:=by rw[<-hT];simp[da,uG]
 have HRd:Hid (bP (w.alloc (.cells #[.string T,.bool false] 158)) w.heap.size (ax 82++fW d)):=(show bP _ _ _ from⟨by rw[hT];exact BY w _,by rw[hT];omega⟩)
 have HB0:Hid (Below w.heap.size w (w.alloc (.cells #[.string T,.bool false] 158))):=(AT _ _).alloc (iR _) _;have HBy:Hid (Calls aa.prog 53 #[.pointer (some ⟨w.heap.size,0,none⟩)] (w.alloc (.cells #[.string T,.bool false] 158)) λe w'=>e=.returned (.int .i64 82)/\bP w' w.heap.size (fW d++ByteArray.empty)/\Below w.heap.size w w'):=(nc _ 82 _ _ HRd.out (by omega) (by omega)).mono λe w' ⟨he,hr⟩=>⟨he,by rw[gN];exact hr.1,hr.out HB0.out (iR _)⟩
 have HDg:Hid (∀W,bP W w.heap.size (fW d++ByteArray.empty)->Below w.heap.size w W->Calls aa.prog 54 #[.pointer (some ⟨w.heap.size,0,none⟩)] W λe w'=>e=.returned (.int .u64 d)/\bP w' w.heap.size ByteArray.empty/\Below w.heap.size w w'):=λW hW hb=>(Cj _ d _ W hW hok.1 hok.2).mono λe w' ⟨he,hr⟩=>⟨he,hr.1,hr.out hb (iR _)⟩
 have HDn:Hid (∀W,bP W w.heap.size ByteArray.empty->Calls aa.prog 58 #[.pointer (some ⟨w.heap.size,0,none⟩)] W λe w'=>e=.returned (.bool true)/\w'=W):=λW hW=>zX _ W hW;have HNw:Hid _:=vM T w;clear hT HRd hsz;go_enter aa.func34,aa.ntmps34;go_wp2_with (first
  |(go_at_call 52;refine By HNw.out ?_;rintro e w' ⟨rfl,hw'⟩;subst w')
  |(go_at_call 53;refine By HBy.out ?_;rintro e w1 ⟨rfl,hr1,hb1⟩)
  |(go_at_call 54;refine By (HDg.out _ hr1 hb1) ?_;rintro e w2 ⟨rfl,hr2,hb2⟩)
  |(go_at_call 58;refine By (HDn.out _ hr2) ?_;rintro e w' ⟨rfl,hw'⟩;subst w'))
 go_ret2;exact⟨rfl,hb2⟩
theorem JD(lev:Nat)(sg:List Nd)(w:World)(hok:kV lev sg)(hsz:(Let.nodes lev sg).bytes.size<=140737488355328):
  Calls aa.prog 34 #[.string (Let.nodes lev sg).bytes] w λe w'=>∃v,e=.returned (.tuple #[v,.int .i64 0])/\sj w w' v (.nodes lev sg)/\Below w.heap.size w w':=by
 generalize hT:(Let.nodes lev sg).bytes=T at*;have HRd:Hid (bP (w.alloc (.cells #[.string T,.bool false] 158)) w.heap.size (ax 78++(ax lev++(ax sg.length++b9 sg)))):=(show bP _ _ _ from⟨by rw[show ax 78++(ax lev++(ax sg.length++b9 sg))=T from hT];exact BY w _,by rw[show ax 78++(ax lev++(ax sg.length++b9 sg))=T from hT];exact hsz⟩)
 have HB0:Hid (Below w.heap.size w (w.alloc (.cells #[.string T,.bool false] 158))):=(AT _ _).alloc (iR _) _;have HBy:Hid (Calls aa.prog 53 #[.pointer (some ⟨w.heap.size,0,none⟩)] (w.alloc (.cells #[.string T,.bool false] 158)) λe w'=>e=.returned (.int .i64 78)/\bP w' w.heap.size (ax lev++(ax sg.length++(b9 sg++ByteArray.empty)))/\Below w.heap.size w w'):=(nc _ 78 _ _ HRd.out (by omega) (by omega)).mono λe w' ⟨he,hr⟩=>⟨he,by rw[gN];exact hr.1,hr.out HB0.out (iR _)⟩
 have HNd:Hid (∀W,bP W w.heap.size (ax lev++(ax sg.length++(b9 sg++ByteArray.empty)))->Below w.heap.size w W->Calls aa.prog 55 #[.pointer (some ⟨w.heap.size,0,none⟩)] W λe w'=>∃lv,e=.returned (.agg #[.int .i64 lev,lv])/\w'.ownsRow w.heap.size 163 5 lv sg.length (ez sg)/\bP w' w.heap.size ByteArray.empty/\Below w.heap.size w w'):=λW hW hb=>(JB _ lev sg _ W hW hok).mono λe w' ⟨lv,he,hrow,hr⟩=>⟨lv,he,ej hrow hb.size,hr.1,hr.out hb (iR _)⟩
 have HDn:Hid (∀W,bP W w.heap.size ByteArray.empty->Calls aa.prog 58 #[.pointer (some ⟨w.heap.size,0,none⟩)] W λe w'=>e=.returned (.bool true)/\w'=W):=λW hW=>zX _ W hW;have HNw:Hid _:=vM T w;clear hT HRd hsz hok;go_enter aa.func34,aa.ntmps34;go_wp2_with (first
  |(go_at_call 52;refine By HNw.out ?_;rintro e w' ⟨rfl,hw'⟩;subst w')
  |(go_at_call 53;refine By HBy.out ?_;rintro e w1 ⟨rfl,hr1,hb1⟩)
  |(go_at_call 55;refine By (HNd.out _ hr1 hb1) ?_;rintro e w2 ⟨lv,rfl,hrow2,hr2,hb2⟩)
  |(go_at_call 58;refine By (HDn.out _ hr2) ?_;rintro e w' ⟨rfl,hw'⟩;subst w'))
 go_ret2;exact⟨_,rfl,⟨lv,rfl,hrow2⟩,hb2⟩
theorem Mo{kind:Nat}(hq:kind=83\/kind=84)(sg:List (Nat×List ai))(w:World)(hok:ky sg)(hsz:(Let.aK kind sg).bytes.size<=140737488355328):
  Calls aa.prog 34 #[.string (Let.aK kind sg).bytes] w λe w'=>∃v,e=.returned (.tuple #[v,.int .i64 0])/\sj w w' v (.aK kind sg)/\Below w.heap.size w w':=by
 generalize hT:(Let.aK kind sg).bytes=T at*;have HRd:Hid (bP (w.alloc (.cells #[.string T,.bool false] 158)) w.heap.size (ax kind++(ax sg.length++bp sg))):=(show bP _ _ _ from⟨by rw[show ax kind++(ax sg.length++bp sg)=T from hT];exact BY w _,by rw[show ax kind++(ax sg.length++bp sg)=T from hT];exact hsz⟩)
 have HB0:Hid (Below w.heap.size w (w.alloc (.cells #[.string T,.bool false] 158))):=(AT _ _).alloc (iR _) _;have HBy:Hid (Calls aa.prog 53 #[.pointer (some ⟨w.heap.size,0,none⟩)] (w.alloc (.cells #[.string T,.bool false] 158)) λe w'=>e=.returned (.int .i64 kind)/\bP w' w.heap.size (ax sg.length++(bp sg++ByteArray.empty))/\Below w.heap.size w w'):=(nc _ kind _ _ HRd.out (by omega) (by omega)).mono λe w' ⟨he,hr⟩=>⟨he,by rw[gN];exact hr.1,hr.out HB0.out (iR _)⟩
 have HNd:Hid (∀W,bP W w.heap.size (ax sg.length++(bp sg++ByteArray.empty))->Below w.heap.size w W->Calls aa.prog 56 #[.pointer (some ⟨w.heap.size,0,none⟩),.int .u8 kind] W λe w'=>∃lv gs,e=.returned (.agg #[.int .u8 kind,lv])/\jb w w' lv gs sg/\bP w' w.heap.size ByteArray.empty/\Below w.heap.size w w'):=λW hW hb=>(MZ _ kind sg _ W hW hok).mono λe w' ⟨lv,gs,he,hrow,hr⟩=>⟨lv,gs,he,⟨ej hrow.row hb.size,hrow.is,λg hg=>(hrow.lI g hg).base hb.size⟩,hr.1,hr.out hb (iR _)⟩
 have HDn:Hid (∀W,bP W w.heap.size ByteArray.empty->Calls aa.prog 58 #[.pointer (some ⟨w.heap.size,0,none⟩)] W λe w'=>e=.returned (.bool true)/\w'=W):=λW hW=>zX _ W hW;have HNw:Hid _:=vM T w;clear hT HRd hsz hok;obtain⟨z,hz⟩: ∃z:Int,(kind:Int)=z:=⟨_,rfl⟩
 rw[hz]at HBy HNd;have hkz:kind=83/\z=83\/kind=84/\z=84:=by omega
 clear hz hq;go_enter aa.func34,aa.ntmps34;rcases hkz with⟨rfl,rfl⟩|⟨rfl,rfl⟩
 all_goals
  go_wp2_with (first
   |(go_at_call 52;refine By HNw.out ?_;rintro e w' ⟨rfl,hw'⟩;subst w')
   |(go_at_call 53;refine By HBy.out ?_;rintro e w1 ⟨rfl,hr1,hb1⟩)
   |(go_at_call 56;refine By (HNd.out _ hr1 hb1) ?_;rintro e w2 ⟨lv,gs,rfl,hrow2,hr2,hb2⟩)
   |(go_at_call 58;refine By (HDn.out _ hr2) ?_;rintro e w' ⟨rfl,hw'⟩;subst w'))
  go_ret2;exact⟨_,rfl,⟨lv,gs,rfl,hrow2⟩,hb2⟩
theorem OO(L:Let)(w:World)(hok:L.Ok)(hsz:L.bytes.size<=140737488355328):
  Calls aa.prog 34 #[.string L.bytes] w λe w'=>∃v,e=.returned (.tuple #[v,.int .i64 0])/\sj w w' v L/\Below w.heap.size w w':=by
 cases L with
 |root d=>exact (NQ d w hok).mono λe w' ⟨he,hb⟩=>⟨_,he,rfl,hb⟩
 |nodes lev sg=>exact JD lev sg w hok hsz
 |aK kind sg=>
  exact Mo hok.1 sg w hok.2 hsz
end Go.Proofs.YtldmcdeibiclkaaGreatDoorQ
