/-
  Toward settled_holds: Contracts: AppendRecords behind any bytes; the text of a letter with segments.
-/
import Derived.Test.YtldmcdeibiclkaaGreatDoorC21
import Derived.Test.YtldmcdeibiclkaaGreatDoorC17
set_option linter.unusedVariables false
set_option linter.unusedSimpArgs false
set_option maxRecDepth 100000
set_option maxHeartbeats 20000000
namespace Go.Proofs.YtldmcdeibiclkaaGreatDoorQ
variable {w W W':World}{b k lev:Nat}{v lv:Value}{bm:Nat->Nat}{K:aw}{t:TypeId}{xs:List Value}{d:Nat->Int}{sg:List Nd}{A:Array Value}
open Go.RowKit
section
open Go.Lib (strCells strCells_length strCells_oneCell)
theorem SV(B Br:Nat)(v rv:Value)(s:ByteArray)(rs:List Rc)(w:World)(hr:aH w B v s)(hB:B<=w.heap.size)(h:dp w Br rv rs)(hv:∀r∈rs,aC w r.sv r.l/\r.l.length<=100000)(hlen:s.size+(dk rs).size<=140737488355328):
  Calls aa.prog 48 #[v,rv] w λe w'=>∃v',e=.returned v'/\aH w' B v' (s++dk rs)/\bE w w' v v':=by
 obtain⟨ad,cap,rfl,hcap,hlc⟩:=h.len;unfold maxLen at hcap;have H:Hid (dp w Br (.slice ad rs.length cap) rs):=h;have HV:Hid (∀r∈rs,aC w r.sv r.l/\r.l.length<=100000):=hv;have HR0:Hid (aH w B v s):=hr;clear h hv hr;go_enter aa.func48,aa.ntmps48;go_wp2;go_loopw [0,9] (λo i wr=>∃k:Nat,k<=rs.length/\i=.int .i64 k/\Hid (aH wr B o (s++dk (rs.take k)))/\Hid (bE w wr v o)) (λ_ i _=>rs.length-(intOf i).toNat)
 case atStart=>exact⟨0,by omega,rfl,by rw[List.take_zero];show Hid (aH w B v (s++ByteArray.empty));rw[gN];exact HR0.out,bE.refl _ _⟩
 case round=>
  obtain⟨k,hk,rfl,HR,HG⟩:=hrel;have hsz:=HG.out.grown.size;by_cases hlt:k<rs.length
  ·obtain⟨g,cap',hsv',hgl,_,_,cc⟩:=dp.cells (vN HG.out.grown HR0.out H.out (by decide)) hlt;cases hsv';have c0:=cc 0 (by omega);have c1:=cc 1 (by omega);have c2:=cc 2 (by omega);have c3:=cc 3 (by omega);have c4:=cc 4 (by omega);have c5:=cc 5 (by omega);clear cc;simp[jU]at c0 c1 c2 c3 c4 c5;have hvk:=HV.out rs[k] (Xe hlt);have HVk:Hid (aC wr rs[k].sv rs[k].l):=aC.mW hvk.1 HR0.out HG.out;have hvl:=hvk.2;obtain⟨adv,capv,hsvv⟩:=pw hvk.1;clear hvk;have htk:=EX rs (k+1);rw[uE hlt,IS]at htk;have HT:Hid (s++dk (rs.take k)++dc rs[k].key rs[k].c rs[k].l=s++dk (rs.take (k+1))):=(show _=_ by rw[uE hlt,bY])
   have hst:(s++dk (rs.take k)).size+(dc rs[k].key rs[k].c rs[k].l).size<=140737488355328:=by rw[IS];omega
   generalize s++dk (rs.take k)=st at*;clear htk;generalize rs[k].key=key at*;generalize rs[k].c=c at*;generalize rs[k].sv=sv at*;generalize rs[k].l=l at*;subst hsvv;have g63:(k:Int)<(rs.length:Int):=by omega
   have k0:(0:Int)<=(k:Int):=by omega
   have HBa:Hid (Below wr.heap.size wr (wr.alloc (.cells #[.string key,.int .i64 (c 0),.int .i64 (c 1),.int .i64 (c 2),.int .i64 (c 3),.slice adv l.length capv] 151))):=(AT _ _).alloc (iR _) _;have HRa:Hid (aH (wr.alloc (.cells #[.string key,.int .i64 (c 0),.int .i64 (c 1),.int .i64 (c 2),.int .i64 (c 3),.slice adv l.length capv] 151)) B u0 st):=HR.out.alloc _;go_wp2_with (go_at_call 70;refine (De B u0 st key c (.slice adv l.length capv) l (wr.alloc (.cells #[.string key,.int .i64 (c 0),.int .i64 (c 1),.int .i64 (c 2),.int .i64 (c 3),.slice adv l.length capv] 151)) HRa.out (by simp;omega) (aC.below HVk.out HBa.out) hvl hst).mono ?_;rintro e w1 ⟨v1,rfl,hr1,hg1⟩;have HR1:Hid (aH w1 B v1 (st++dc key c l)):=hr1;have HG1:Hid (bE w w1 v v1):=(HG.out.alloc _).trans hg1;clear hr1 hg1)
   refine⟨⟨k+1,by omega,by go_num,?_,HG1.out⟩,by simp[intOf];omega⟩;show aH _ _ _ _;rw[<-HT.out];exact HR1.out
  ·obtain rfl:k=rs.length:=by omega
   have HRe:Hid (aH wr B u0 (s++dk rs)):=(by have:=HR.out;rw[Xx]at this;exact this)
   clear HR;go_wp2;go_ret;exact⟨_,rfl,HRe.out,HG.out⟩
def Gm.is(g:Gm):Nat×List ai:=(g.1,g.2.2.map Rc.cg)
theorem Tg(l:List (Nat×List ai))(g:Nat×List ai):bp (l++ [g])=bp l++(ax g.1++gB g.2):=by
 induction l with
 |nil=>simp[bp,gN,iZ]
 |cons x l ih=>rw[XS,bp,ih,bp,bY,bY]
theorem O9{l:List (Nat×List ai)}(h:k<l.length):bp (l.take (k+1))=bp (l.take k)++(ax l[k].1++gB l[k].2):=by
 rw[Xq h,Tg]
theorem Ll(l:List (Nat×List ai)):∀k,(bp (l.take k)).size<=(bp l).size:=λk=>by
 have key:∀a b:List (Nat×List ai),(bp (a++b)).size=(bp a).size+(bp b).size:=λa b=>by
  induction a with
  |nil=>simp[bp]
  |cons x a ih=>simp only[XS,bp,IS,ih];omega
 have:=key (l.take k) (l.drop k);rw[List.take_append_drop]at this;omega
theorem VB(rc:List Rc):cz (rc.map Rc.cg).length++dk rc=gB (rc.map Rc.cg):=by rw[gB,zz,rQ]
theorem sE:∀(gs:List Gm) (k:Nat) (h:k<gs.length),(fN gs)[k*2]?=some (.int .i64 gs[k].1)/\(fN gs)[k*2+1]?=some gs[k].2.1
 |g::gs,0,_=>by simp[fN]
 |g::gs,k+1,h=>by
  have:=sE gs k (by simpa using h);simp only[fN,XM,List.getElem_cons_succ] at*;rw[List.getElem?_append_right (by simp;omega),List.getElem?_append_right (by simp;omega)];simpa[Nat.add_mul,show (k+1)*2-2=k*2 by omega,show (k+1)*2+1-2=k*2+1 by omega] using this
theorem qL{B size n:Nat}(h:w.ownsRow B t size v n xs)(hn:0<n): ∃g cap,v=.slice (some ⟨g,0,none⟩) n cap/\g<w.heap.size/\n<=cap/\cap<=maxLen/\∀j x,j<n*size->xs[j]?=some x->w.cell? ⟨g,j,none⟩=some x:=by
 obtain⟨h1,h2⟩:=h;rcases h2 with⟨_,h2⟩|⟨g,cap,cur,hv,_,hh,hn,hc,hs,ht⟩
 ·omega
 ·refine⟨g,cap,hv,(Array.getElem?_eq_some_iff.1 hh).1,hn,hc,λj x hj hx=>?_⟩;rw[<-ht,List.getElem?_take,AS hj]at hx;simpa[World.cell?,hh] using hx
theorem Tb(B1 Br kind:Nat)(lv:Value)(gs:List Gm)(w:World)(h:w.ownsRow B1 167 2 lv gs.length (fN gs))(hk:kind<256)(hl:gs.length<=64)(hg:∀g∈gs,g.1<64/\g.2.2.length<=1000000/\dp w Br g.2.1 g.2.2/\∀r∈g.2.2,aC w r.sv r.l/\r.l.length<=100000)(hsz:(Let.aK kind (gs.map Gm.is)).bytes.size<=140737488355328):
  Calls aa.prog 105 #[.agg #[.int .u8 kind,lv]] w λe w'=>e=.returned (.string (Let.aK kind (gs.map Gm.is)).bytes)/\Below w.heap.size w w':=by
 obtain⟨i0,hi0,hz0,hz1,hz2⟩:=Xm aa.oP;obtain⟨ad,cap,rfl,hcap,hlc⟩:=jS h;have hlm:(gs.map Gm.is).length=gs.length:=Xn ..;have hl0:(0:Int)<=(gs.length:Int):=by omega
 have hrow:aH ((w.alloc (.cells #[.int .u8 kind,.slice ad gs.length cap] 132)).alloc (.cells #[.int .u8 kind,.int .u8 gs.length] 5)) w.heap.size (.slice (some ⟨w.heap.size+1,0,none⟩) 2 2) (ax kind++ax gs.length):=
  ⟨by simp[oW,jA,IS,da],Or.inr ⟨w.heap.size+1,2,#[.int .u8 kind,.int .u8 gs.length],rfl,by omega,kA w _ _,iR _,by decide,rfl,by
   rw[oW,jA,jA,YB (by omega) (by omega),YB (by omega) (by omega)];rfl⟩⟩
 have HRow:Hid (aH ((w.alloc (.cells #[.int .u8 kind,.slice ad gs.length cap] 132)).alloc (.cells #[.int .u8 kind,.int .u8 gs.length] 5)) w.heap.size (.slice (some ⟨w.heap.size+1,0,none⟩) 2 2) (ax kind++ax gs.length)):=hrow;have HG:Hid (∀g∈gs,g.1<64/\g.2.2.length<=1000000/\dp w Br g.2.1 g.2.2/\∀r∈g.2.2,aC w r.sv r.l/\r.l.length<=100000):=hg;have dq:(Let.aK kind (gs.map Gm.is)).bytes=(ax kind++ax gs.length)++bp (gs.map Gm.is):=by rw[Let.bytes,hlm,bY]
 rw[dq]at hsz ⊢;have hP:=Ll (gs.map Gm.is);have HP:Hid (∀k,((ax kind++ax gs.length)++bp ((gs.map Gm.is).take k)).size<=140737488355328):=(show ∀k,_ by intro k;have:=hP k;rw[IS]at hsz ⊢;omega)
 have HPs:Hid (∀k (h:k<gs.length),((ax kind++ax gs.length)++bp ((gs.map Gm.is).take k))++ax gs[k].1++cz gs[k].2.2.length++dk gs[k].2.2=(ax kind++ax gs.length)++bp ((gs.map Gm.is).take (k+1))):=(show ∀k (h:k<gs.length),_ by
  intro k h;rw[O9 (by rw[hlm];exact h)];simp only[YJ,Gm.is,bY];simp only[<-VB,Xn])
 clear hP dq;have H:Hid (w.ownsRow B1 167 2 (.slice ad gs.length cap) gs.length (fN gs)):=h;clear hrow hg h;go_enter aa.func105,aa.ntmps105;go_wp2;have HB0:Hid (Below w.heap.size w ((w.alloc (.cells #[.int .u8 kind,.slice ad gs.length cap] 132)).alloc (.cells #[.int .u8 kind,.int .u8 gs.length] 5))):=((AT _ _).alloc (iR _) _).alloc (by simp) _;generalize hP0:ax kind++ax gs.length=P0 at*;have HP0:Hid (ax kind++ax gs.length=P0):=hP0;clear hP0;go_loopw [3,16] (λo i wr=>∃k:Nat,k<=gs.length/\i=.int .i64 k/\Hid (aH wr w.heap.size o (P0++bp ((gs.map Gm.is).take k)))/\Hid (Below w.heap.size w wr)) (λ_ i _=>gs.length-(intOf i).toNat)
 case atStart=>exact⟨0,by omega,rfl,by rw[List.take_zero,bp,gN];exact HRow.out,HB0.out⟩
 case round=>
  obtain⟨k,hkl,rfl,HR,HB⟩:=hrel;have hsw:=HB.out.size;clear HRow HB0;by_cases hlt:k<gs.length
  ·obtain⟨g,cap',hv',hgl,_,_,cc⟩:=qL H.out (show 0<gs.length by omega);cases hv';have c0:=(HB.out.cell (p:=⟨g,k*2,none⟩) hgl).trans (cc (k*2) _ (by omega) (sE gs k hlt).1);have c1:=(HB.out.cell (p:=⟨g,k*2+1,none⟩) hgl).trans (cc (k*2+1) _ (by omega) (sE gs k hlt).2);obtain⟨g1,g2,g3,g4⟩:=HG.out gs[k] (Xe hlt);obtain⟨adr,bS,hrv,hcapr,_⟩:=jS g3;have hs1:=HP.out (k+1);have hs0:=HPs.out k hlt;have HS0:Hid _:=hs0;rw[<-hs0]at hs1;clear cc hs0;have HRs:Hid (∀W,Below w.heap.size w W->dp W Br gs[k].2.1 gs[k].2.2/\∀r∈gs[k].2.2,aC W r.sv r.l/\r.l.length<=100000):=λW hW=>⟨ec g3 hW (iR _),λr hr=>⟨aC.below (g4 r hr).1 hW,(g4 r hr).2⟩⟩
   clear g3 g4;generalize P0++bp ((gs.map Gm.is).take k)=P at*;rw[hrv]at c1 HRs;generalize gs[k].1=n at*;generalize hrc:gs[k].2.2=rc at*;simp only[IS,da,jP]at hs1;have a1:(k:Int)<(gs.length:Int):=by omega
   have a0:(0:Int)<=(k:Int):=by omega
   have m1:(0:Int)<=(n:Int):=by omega
   have m2:(n:Int)<=255:=by omega
   have HB5:Hid (Below w.heap.size w (wr.alloc (.cells #[.int .i64 n,.slice adr rc.length bS] 167))):=HB.out.alloc hsw _;have HW6:Hid (Below w.heap.size w ((wr.alloc (.cells #[.int .i64 n,.slice adr rc.length bS] 167)).alloc (.cells #[.int .u8 n] 5))):=HB5.out.alloc (by simp;omega) _;have HR6:Hid (aH ((wr.alloc (.cells #[.int .i64 n,.slice adr rc.length bS] 167)).alloc (.cells #[.int .u8 n] 5)) w.heap.size u3 P):=(HR.out.alloc _).alloc _;have HS6:Hid (((wr.alloc (.cells #[.int .i64 n,.slice adr rc.length bS] 167)).alloc (.cells #[.int .u8 n] 5)).heap[wr.heap.size]?=some (.cells #[.int .i64 n,.slice adr rc.length bS] 167)):=(by rw[OF _ _ _ (by simp)];exact BY wr _)
   go_wp2_with (first
    |(at_builtin;refine jm _ rfl _ _ _ rfl w.heap.size 5 i0 _ 1 1 aa.underlying48 hi0 hz0 hz1 hz2 rfl (by omega) u3 _ _ rfl HR6.out ⟨wr.heap.size+1,0,none⟩ 1 1 _ rfl (by rfl) (Xr (kA wr _ _)) (by simp[Value.oneCell']) (by omega) (by unfold maxLen;omega) (by omega) (by have:=HW6.out.size;omega) ?_;intro g7 cap7 w7 hown7 hgr7;have HR7:Hid (aH w7 w.heap.size (.slice (some ⟨g7,0,none⟩) (P.size+1) cap7) (P++ax n)):=aH.of hown7 rfl (by rw[jA,YB (by omega) (by omega)]);have hs7:=hgr7.other HR6.out HS6.out (by decide);obtain⟨c7,f7⟩:=al hs7;have x70:=c7 0;have x71:=c7 1;clear c7 f7;have HS7:Hid (w7.heap[wr.heap.size]?=some (.cells #[.int .i64 n,.slice adr rc.length bS] 167)):=hs7;have HB7:Hid (Below w.heap.size w w7):=hgr7.toBelow HW6.out HW6.out.size HR6.out;clear hs7 hown7 hgr7)
    |(go_at_call 94;refine By (tn w.heap.size _ _ rc.length w7 HR7.out HB7.out.size (by simp[IS,da];omega)) ?_;rintro e w8 ⟨v8,rfl,hr8,hg8⟩;have HR8:Hid (aH w8 w.heap.size v8 (P++ax n++cz rc.length)):=hr8;have hs8:=hg8.other HR7.out HS7.out (by decide);obtain⟨c8,f8⟩:=al hs8;have x81:=c8 1;have HB8:Hid (Below w.heap.size w w8):=hg8.toBelow HB7.out HB7.out.size HR7.out;clear c8 f8 hs8 hr8 hg8)
    |(go_at_call 48;refine By (SV w.heap.size Br _ _ _ rc w8 HR8.out HB8.out.size (HRs.out w8 HB8.out).1 (HRs.out w8 HB8.out).2 (by simp[IS,da,jP];omega)) ?_;rintro e w9 ⟨v9,rfl,hr9,hg9⟩;have HR9:Hid (aH w9 w.heap.size v9 (P++ax n++cz rc.length++dk rc)):=hr9;have HB9:Hid (Below w.heap.size w w9):=hg9.toBelow HB8.out HB8.out.size HR8.out;clear hr9 hg9))
   refine⟨⟨k+1,by omega,by go_num,?_,HB9.out⟩,by simp[intOf];omega⟩;rw[<-HS0.out];exact HR9.out
  ·obtain rfl:k=gs.length:=by omega
   have hR:=HR.out;rw[<-hlm,Xx]at hR;have hcv:=oU hR;clear hR;go_wp2;go_ret;exact⟨by rw[HP0.out];rfl,HB.out⟩
end
section
open Go.Lib (strCells strCells_length strCells_oneCell)
theorem UE(l:List Nd)(g:Nd):b9 (l++ [g])=b9 l++(ax g.1++cP g.2 4):=by
 induction l with
 |nil=>simp[b9,gN,iZ,FM]
 |cons x l ih=>rw[XS,b9,ih,b9,bY,bY]
theorem RB{l:List Nd}(h:k<l.length):b9 (l.take (k+1))=b9 (l.take k)++(ax l[k].1++cP l[k].2 4):=by
 rw[Xq h,UE]
theorem Ek(l:List Nd):(b9 l).size=33*l.length:=by
 induction l with
 |nil=>rfl
 |cons x l ih=>rw[b9,IS,IS,ih,FM,oh,da,Xp];omega
theorem DF(l:List Nd):(ez l).length=l.length*5:=by
 induction l with
 |nil=>rfl
 |cons g gs ih=>simp only[ez,XM,Xk,Xp,mh,XW] at*;omega
theorem vQ:∀(l:List Nd) (k:Nat) (h:k<l.length) (j:Nat),j<5->(ez l)[k*5+j]?=(mh l[k])[j]?
 |g::l,0,_,j,hj=>by
  simp only[ez,XM,Nat.zero_mul,Nat.zero_add,List.getElem_cons_zero];rw[List.getElem?_append_left (by simpa[mh] using hj)]
 |g::l,k+1,h,j,hj=>by
  have:=vQ l k (by simpa using h) j hj;simp only[ez,XM,List.getElem_cons_succ] at*;rw[List.getElem?_append_right (by simp[mh];omega),show (k+1)*5+j-(mh g).length=k*5+j by simp[mh];omega];exact this
theorem tN(W:World)(a b c d:Value):
  (Instr.index 161 (.agg #[a,b,c,d]) (.int .i64 0)).run aa.prog W=.ok a W/\
  (Instr.index 161 (.agg #[a,b,c,d]) (.int .i64 1)).run aa.prog W=.ok b W/\
  (Instr.index 161 (.agg #[a,b,c,d]) (.int .i64 2)).run aa.prog W=.ok c W/\
  (Instr.index 161 (.agg #[a,b,c,d]) (.int .i64 3)).run aa.prog W=.ok d W:=
 ⟨by kernel_rfl,by kernel_rfl,by kernel_rfl,by kernel_rfl⟩
theorem indexAt(d:Nat->Int){j:Nat}(hj:j<4)(W:World):(Instr.index 161 (.agg #[.int .u64 (d 0),.int .u64 (d 1),.int .u64 (d 2),.int .u64 (d 3)]) (.int .i64 j)).run aa.prog W=.ok (.int .u64 (d j)) W:=by
 rcases fp hj with rfl|rfl|rfl|rfl
 ·exact (tN W _ _ _ _).1
 ·exact (tN W _ _ _ _).2.1
 ·exact (tN W _ _ _ _).2.2.1
 ·exact (tN W _ _ _ _).2.2.2
theorem I5(B1 lev:Nat)(lv:Value)(sg:List Nd)(w:World)(h:w.ownsRow B1 163 5 lv sg.length (ez sg))(hk:lev<256)(hl:sg.length<=64)(hg:∀g∈sg,g.1<256):
  Calls aa.prog 104 #[.agg #[.int .i64 lev,lv]] w λe w'=>e=.returned (.string (Let.nodes lev sg).bytes)/\Below w.heap.size w w':=by
 obtain⟨i0,hi0,hz0,hz1,hz2⟩:=Xm aa.oP;obtain⟨ad,cap,rfl,hcap,hlc⟩:=jS h;have hl0:(0:Int)<=(sg.length:Int):=by omega
 have hl1:(sg.length:Int)<=255:=by omega
 have e0:(0:Int)<=(lev:Int):=by omega
 have e1:(lev:Int)<=255:=by omega
 have hrow:aH ((w.alloc (.cells #[.int .i64 lev,.slice ad sg.length cap] 128)).alloc (.cells #[.int .u8 78,.int .u8 lev,.int .u8 sg.length] 5)) w.heap.size (.slice (some ⟨w.heap.size+1,0,none⟩) 3 3) (ax 78++ax lev++ax sg.length):=
  ⟨by simp[oW,jA,IS,da],Or.inr ⟨w.heap.size+1,3,#[.int .u8 78,.int .u8 lev,.int .u8 sg.length],rfl,by omega,kA w _ _,iR _,by decide,rfl,by
   rw[oW,oW,jA,jA,jA,YB (a:=(lev:Int)) (by omega) (by omega),YB (a:=(sg.length:Int)) (by omega) (by omega)];rfl⟩⟩
 have HRow:Hid (aH ((w.alloc (.cells #[.int .i64 lev,.slice ad sg.length cap] 128)).alloc (.cells #[.int .u8 78,.int .u8 lev,.int .u8 sg.length] 5)) w.heap.size (.slice (some ⟨w.heap.size+1,0,none⟩) 3 3) (ax 78++ax lev++ax sg.length)):=hrow;have HG:Hid (∀g∈sg,g.1<256):=hg;have H:Hid (w.ownsRow B1 163 5 (.slice ad sg.length cap) sg.length (ez sg)):=h;have dq:(Let.nodes lev sg).bytes=(ax 78++ax lev++ax sg.length)++b9 sg:=by rw[Let.bytes,bY,bY]
 rw[dq];have HPs:Hid (∀k (h:k<sg.length),(ax 78++ax lev++ax sg.length)++b9 (sg.take k)++ax sg[k].1++cP sg[k].2 4=(ax 78++ax lev++ax sg.length)++b9 (sg.take (k+1))):=(show ∀k (h:k<sg.length),_ by
  intro k h;rw[RB h];simp only[bY])
 have HPz:Hid (∀k,((ax 78++ax lev++ax sg.length)++b9 (sg.take k)).size<=3000):=(show ∀k,_ by
  intro k
  have:=List.length_take_le' k sg;simp only[IS,da,Ek];omega)
 clear hrow hg h dq;go_enter aa.func104,aa.ntmps104;go_wp2;have HB0:Hid (Below w.heap.size w ((w.alloc (.cells #[.int .i64 lev,.slice ad sg.length cap] 128)).alloc (.cells #[.int .u8 78,.int .u8 lev,.int .u8 sg.length] 5))):=((AT _ _).alloc (iR _) _).alloc (by simp) _;generalize hP0:ax 78++ax lev++ax sg.length=P0 at*;have HP0:Hid (ax 78++ax lev++ax sg.length=P0):=hP0;clear hP0;go_loopw [3,19] (λo i wr=>∃k:Nat,k<=sg.length/\i=.int .i64 k/\Hid (aH wr w.heap.size o (P0++b9 (sg.take k)))/\Hid (Below w.heap.size w wr)) (λ_ i _=>sg.length-(intOf i).toNat)
 case atStart=>exact⟨0,by omega,rfl,by rw[List.take_zero,b9,gN];exact HRow.out,HB0.out⟩
 case round=>
  obtain⟨k,hkl,rfl,HR,HB⟩:=hrel;have hsw:=HB.out.size;clear HRow HB0;by_cases hlt:k<sg.length
  ·obtain⟨g,cap',hv',hgl,_,_,cc⟩:=qL H.out (show 0<sg.length by omega);cases hv';have cw:∀j,j<5->wr.cell? ⟨g,k*5+j,none⟩=(mh sg[k])[j]? :=λj hj=>by
    have h1:=vQ sg k hlt j hj;rw[HB.out.cell (p:=⟨g,k*5+j,none⟩) hgl,<-h1];rw[List.getElem?_eq_getElem (by rw[DF];omega)];exact cc _ _ (by omega) (List.getElem?_eq_getElem _)
   have c0:wr.cell? ⟨g,k*5,none⟩=some (.int .i64 sg[k].1):=cw 0 (by omega);have c1:wr.cell? ⟨g,k*5+1,none⟩=some (.int .u64 (sg[k].2 0)):=cw 1 (by omega);have c2:wr.cell? ⟨g,k*5+2,none⟩=some (.int .u64 (sg[k].2 1)):=cw 2 (by omega);have c3:wr.cell? ⟨g,k*5+3,none⟩=some (.int .u64 (sg[k].2 2)):=cw 3 (by omega);have c4:wr.cell? ⟨g,k*5+4,none⟩=some (.int .u64 (sg[k].2 3)):=cw 4 (by omega);have g1:=HG.out sg[k] (Xe hlt);have hs0:=HPs.out k hlt;have hz:=HPz.out k;clear cc cw;generalize hPk:P0++b9 (sg.take k)=P at*;generalize sg[k].1=n at*;generalize sg[k].2=d at*;have HS0:Hid (P++ax n++cP d 4=P0++b9 (sg.take (k+1))):=hs0;clear hs0 hPk;have a1:(k:Int)<(sg.length:Int):=by omega
   have a0:(0:Int)<=(k:Int):=by omega
   have m1:(0:Int)<=(n:Int):=by omega
   have m2:(n:Int)<=255:=by omega
   obtain⟨W6,hW6⟩: ∃W,W=(wr.alloc (.cells #[.int .i64 n,.int .u64 (d 0),.int .u64 (d 1),.int .u64 (d 2),.int .u64 (d 3)] 163)).alloc (.cells #[.int .u8 n] 5):=⟨_,rfl⟩
   have HW6:Hid (Below w.heap.size w W6):=(by rw[hW6];exact (HB.out.alloc hsw _).alloc (by simp;omega) _)
   have HR6:Hid (aH W6 w.heap.size u3 P):=(by rw[hW6];exact (HR.out.alloc _).alloc _)
   have HS6:Hid (W6.heap[wr.heap.size]?=some (.cells #[.int .i64 n,.int .u64 (d 0),.int .u64 (d 1),.int .u64 (d 2),.int .u64 (d 3)] 163)):=(by rw[hW6,OF _ _ _ (by simp)];exact BY wr _)
   have HN6:Hid (W6.heap[wr.heap.size+1]?=some (.cells #[.int .u8 n] 5)):=(by rw[hW6];exact kA wr _ _)
   go_wp2_with (first
    |(at_builtin;rw[<-hW6];refine jm _ rfl _ _ _ rfl w.heap.size 5 i0 _ 1 1 aa.underlying48 hi0 hz0 hz1 hz2 rfl (by omega) u3 _ _ rfl HR6.out ⟨wr.heap.size+1,0,none⟩ 1 1 _ rfl (by rfl) (Xr HN6.out) (by simp[Value.oneCell']) (by omega) (by unfold maxLen;omega) (by omega) HW6.out.size ?_;intro g7 cap7 w7 hown7 hgr7;have HR7:Hid (aH w7 w.heap.size (.slice (some ⟨g7,0,none⟩) (P.size+1) cap7) (P++ax n)):=aH.of hown7 rfl (by rw[jA,YB (by omega) (by omega)]);have hs7:=hgr7.other HR6.out HS6.out (by decide);obtain⟨c7,f7⟩:=al hs7;have x71:=c7 1;have x72:=c7 2;have x73:=c7 3;have x74:=c7 4;clear c7 f7;have HB7:Hid (Below w.heap.size w w7):=hgr7.toBelow HW6.out HW6.out.size HR6.out;clear hs7 hown7 hgr7))
   clear hW6 HW6 HR6 HS6 HN6 HR HB;go_loopw [3,31] (λo i wq=>∃j:Nat,j<=4/\i=.int .i64 j/\Hid (aH wq w.heap.size o (P++ax n++cP d j))/\Hid (Below w.heap.size w wq)) (λ_ i _=>4-(intOf i).toNat)
   case atStart=>exact⟨0,by omega,rfl,by rw[cP,gN];exact HR7.out,HB7.out⟩
   case round=>
    obtain⟨j,hj,rfl,HRj,HBj⟩:=hrel;clear HR7 HB7;by_cases hj4:j<4
    ·have j1:(j:Int)<4:=by omega
     have hix:=indexAt d hj4;have HSt:Hid (P++ax n++cP d j++fW (d j)=P++ax n++cP d (j+1)):=(show _=_ by rw[cP,bY])
     have hQz:(P++ax n++cP d j).size<=4000:=by simp only[IS,da,oh];omega
     generalize P++ax n++cP d j=Q at*;generalize d j=dj at*;go_wp2_with (go_at_call 50;refine By (wL w.heap.size _ Q dj _ HRj.out HBj.out.size (by omega)) ?_;rintro e w8 ⟨v8,rfl,hr8,hg8⟩;have HR8:Hid (aH w8 w.heap.size v8 (Q++fW dj)):=hr8;have HB8:Hid (Below w.heap.size w w8):=hg8.toBelow HBj.out HBj.out.size HRj.out;clear hr8 hg8)
     exact⟨⟨j+1,by omega,by go_num,by rw[<-HSt.out];exact HR8.out,HB8.out⟩,by simp[intOf];omega⟩
    ·obtain rfl:j=4:=by omega
     have HRe:Hid (aH ‹World› w.heap.size _ (P0++b9 (sg.take (k+1)))):=(by rw[<-HS0.out];exact HRj.out)
     clear HRj;go_wp2;exact⟨⟨k+1,by omega,by go_num,HRe.out,HBj.out⟩,by simp[intOf];omega⟩
  ·obtain rfl:k=sg.length:=by omega
   have hR:=HR.out;rw[Xx]at hR;have hcv:=oU hR;clear hR;go_wp2;go_ret;exact⟨by rw[HP0.out];rfl,HB.out⟩
end
def fO(w:World)(B:Nat)(v:Value)(ns:List Nat):Prop:=w.ownsRow B 3 1 v ns.length (ns.map λ(n:Nat)=>Value.int .i64 (n:Int))
def bC(w:World)(bm:Nat->Nat)(K:aw)(ns:List Nat):List (Nat×List ai):=ns.map λn=>(n,dF K (cM w (bm n)))
structure oi(w:World)(bs kind:Nat)(sg:List (Nat×List ai))(k:Nat)(W:World)(lv:Value)(gs:List Gm):Prop where
 st:W.heap[bs]?=some (.cells #[.int .u8 kind,lv] 132)
 row:W.ownsRow w.heap.size 167 2 lv k (fN gs)
 is:gs.map Gm.is=sg.take k
 lI:∀g∈gs,dp W w.heap.size g.2.1 g.2.2/\∀r∈g.2.2,aC W r.sv r.l
 ba:Below w.heap.size w W
theorem oi.step{w wr w2 w4:World}{kind n k g4 cap4:Nat}{sg:List (Nat×List ai)}{gs:List Gm}{lv v2:Value}{rs:List Rc}{ro:List ai}(h:oi w w.heap.size kind sg k wr lv gs)(hb:Below wr.heap.size wr w2)(hr:dp w2 w.heap.size v2 rs)(hv:∀r∈rs,aC w2 r.sv r.l)(ht:rs.map Rc.cg=ro)(hK:bX (λt=>t≠167) w2 w4)(ho:w4.ownsRow w.heap.size 167 2 (.slice (some ⟨g4,0,none⟩) (k+1) cap4) (k+1) (fN gs++ [.int .i64 n,v2]))(hb4:Below w.heap.size w w4)(hs:sg.take (k+1)=sg.take k++ [(n,ro)]):
  oi w w.heap.size kind sg (k+1) (w4.setCell ⟨w.heap.size,1,none⟩ (.slice (some ⟨g4,0,none⟩) (k+1) cap4)) (.slice (some ⟨g4,0,none⟩) (k+1) cap4) (gs++ [(n,v2,rs)]):=by
 have hs4:=hK _ _ _ _ (aQ h.st hb) (by decide);have hK2:bX (λt=>t=151\/t=144) w2 (w4.setCell ⟨w.heap.size,1,none⟩ (.slice (some ⟨g4,0,none⟩) (k+1) cap4)):=λq cs t fr hq h=>bX.set hs4 (T:=λt=>t≠132) (λh=>h rfl) _ _ _ _ _ _ (hK _ _ _ _ hq (by rcases h with rfl|rfl<;>decide)) (by rcases h with rfl|rfl<;>decide);refine⟨heap_set hs4,?_,?_,λg hg=>?_,hb4.setCell (iR _) _⟩
 ·rw[fN,XU];exact gE ho hs4 (by decide) _ _
 ·rw[hs,Yi,h.is,List.map_singleton,Gm.is,ht]
 ·rcases List.mem_append.1 hg with hg|hg
  ·exact⟨hK2.row (ec (h.lI g hg).1 hb (iR _)) (.inl rfl),λr hr=>hK2.row (aC.below ((h.lI g hg).2 r hr) hb) (.inr rfl)⟩
  ·obtain rfl:=List.mem_singleton.1 hg;exact⟨hK2.row hr (.inl rfl),λr hr'=>hK2.row (hv r hr') (.inr rfl)⟩
theorem Ax(b num kind Bn:Nat)(bm:Nat->Nat)(K:aw)(nv:Value)(ns:List Nat)(w:World)(h:aB w b bm num K)(hK:dK w bm K)(hn:fO w Bn nv ns)(hk:kind<256)(hl:ns.length<=64)(hns:∀n∈ns,n<64)(hsz:(Let.aK kind (bC w bm K ns)).bytes.size<=140737488355328):
  Calls aa.prog 80 #[.pointer (some ⟨b,0,none⟩),.int .u8 kind,nv] w λe w'=>e=.returned (.string (Let.aK kind (bC w bm K ns)).bytes)/\Below w.heap.size w w':=by
 have hfew:=hK.2;obtain⟨i0,hi0,hz0,hz1,hz2⟩:=Xm aa.F7;obtain⟨ad,cap,rfl,hcap,hlc⟩:=jS hn;have hbl:=h.1.lt;have hlm:(bC w bm K ns).length=ns.length:=Xn ..;have HRec:Hid (∀n,n<64->∀W,Below w.heap.size w W->Calls aa.prog 49 #[.map (some (bm n))] W λe w'=>∃v rs,e=.returned v/\dp w' W.heap.size v rs/\(∀r∈rs,aC w' r.sv r.l)/\rs.map Rc.cg=dF K (cM w (bm n))/\Below W.heap.size W w'):=λn hn W hW=>by
  obtain⟨es,clock,e1,e2,e3,e4,_⟩:=(h.below hW).2.1 n hn;have e1':w.heap[bm n]?=some (.map es clock):=by rw[<-hW.block _ (h.2.1 n hn).lt];exact e1
  have hes:cM w (bm n)=es.toList:=by simp[cM,e1']
  have:=hfew n hn;rw[hes]at this ⊢;exact GS (bm n) n K W es clock e1 e2 e3 e4 (by simp at this;omega)
 have HSeg:Hid (∀n,n<64->∀W,Below w.heap.size w W->W.cell? ⟨b,n+1,none⟩=some (.map (some (bm n)))):=λn hn W hW=>(h.below hW).1.tS hn;have HN:Hid (fO w Bn (.slice ad ns.length cap) ns):=hn;have HNs:Hid (∀n∈ns,n<64):=hns;have HTx:Hid (∀W lv gs,oi w w.heap.size kind (bC w bm K ns) ns.length W lv gs->Calls aa.prog 105 #[.agg #[.int .u8 kind,lv]] W λe w'=>e=.returned (.string (Let.aK kind (bC w bm K ns)).bytes)/\Below w.heap.size w w'):=by
  intro W lv gs hJ;have e1:gs.map Gm.is=bC w bm K ns:=by rw[hJ.is,<-hlm,Xx]
  have e2:gs.length=ns.length:=by have:=congrArg List.length e1;simpa[bC] using this
  have hm:∀g∈gs,∃n,n<64/\g.1=n/\g.2.2.map Rc.cg=dF K (cM w (bm n)):=λg hg=>by
   have:g.is∈bC w bm K ns:=by rw[<-e1];exact Ys hg
   obtain⟨n,hn,e⟩:=XP.1 this;exact⟨n,hns n hn,(congrArg Prod.fst e).symm,(congrArg Prod.snd e).symm⟩
  have:=Tb w.heap.size w.heap.size kind lv gs W (by rw[e2];exact hJ.row) hk (by omega) (λg hg=>by
   obtain⟨n,hn,h1,h2⟩:=hm g hg;have hlen:g.2.2.length=(cM w (bm n)).length:=by have:=congrArg List.length h2;rw[Ae]at this;simpa using this
   have hf:=hfew n hn;refine⟨by omega,by omega,(hJ.lI g hg).1,λr hr=>⟨(hJ.lI g hg).2 r hr,?_⟩⟩;have:r.cg∈dF K (cM w (bm n)):=by rw[<-h2];exact Ys hr
   obtain⟨x,_,e⟩:=XP.1 this;have e':r.l=(K (dR x)).2:=(congrArg (λt=>t.2.2) e).symm
   have:=(hK.1 (dR x)).2.1;rw[e'];omega) (by rw[e1];exact hsz)
  rw[e1]at this;exact this.mono λe w' ⟨he,hb⟩=>⟨he,bc hJ.ba hb⟩
 have HSg:Hid (∀k (h:k<ns.length),(bC w bm K ns).take (k+1)=(bC w bm K ns).take k++ [(ns[k],dF K (cM w (bm ns[k])))]):=λk h=>by
  rw[Xq (by rw[hlm];exact h)];simp[bC]
 have HJ0:Hid (oi w w.heap.size kind (bC w bm K ns) 0 (w.alloc (.cells #[.int .u8 kind,.slice none 0 0] 132)) (.slice none 0 0) []):=⟨BY w _,XZ _ _ _ _,rfl,(λg hg=>by cases hg),(AT _ _).alloc (iR _) _⟩
 clear h hn hns hfew hsz hK;generalize bC w bm K ns=sg at*;go_enter aa.func80,aa.ntmps80;go_wp2;go_loopw [14] (λiv wr=>∃(k:Nat) (lv:Value) (gs:List Gm),k<=ns.length/\iv=.int .i64 k/\Hid (oi w w.heap.size kind sg k wr lv gs)) (λiv _=>ns.length-(intOf iv).toNat)
 case atStart=>exact⟨0,_,_,by omega,rfl,HJ0.out⟩
 case round=>
  obtain⟨k,lv,gs,hkl,rfl,HJ⟩:=hrel;clear HJ0;have hsw:=HJ.out.ba.size;obtain⟨cs,fs⟩:=al HJ.out.st;have y0:=cs 0;have y1:=cs 1;clear cs fs;by_cases hlt:k<ns.length
  ·obtain⟨g,cap',hv',hgl,_,_,cc⟩:=qL HN.out (show 0<ns.length by omega);cases hv';have cn:wr.cell? ⟨g,k,none⟩=some (.int .i64 ns[k]):=(HJ.out.ba.cell (p:=⟨g,k,none⟩) hgl).trans (cc k _ (by omega) (by rw[List.getElem?_map,List.getElem?_eq_getElem hlt];rfl));have hn64:=HNs.out _ (Xe hlt);have HSk:=HSg.out k hlt;have cseg:=HSeg.out ns[k] hn64 wr HJ.out.ba;have HRk:Hid (Calls aa.prog 49 #[.map (some (bm ns[k]))] wr.drew λe w2=>∃ad2 len2 cap2 rs,e=.returned (.slice ad2 len2 cap2)/\dp w2 w.heap.size (.slice ad2 len2 cap2) rs/\(∀r∈rs,aC w2 r.sv r.l)/\rs.map Rc.cg=dF K (cM w (bm ns[k]))/\Below wr.heap.size wr w2):=by
    refine (HRec.out ns[k] hn64 wr.drew (HJ.out.ba.drew)).mono ?_;rintro e w2 ⟨v,rs,rfl,h1,h2,h3,h4⟩;obtain⟨ad2,cap2,rfl⟩:=gP h1;exact⟨ad2,_,cap2,rs,rfl,ej h1 hsw,h2,h3,bc (AT _ _).drew h4⟩
   have HSk':Hid (sg.take (k+1)=sg.take k++ [(ns[k],dF K (cM w (bm ns[k])))]):=HSk;clear HSk cc HRec HSeg HNs HSg;generalize dF K (cM w (bm ns[k]))=ro at*;generalize hnk:ns[k]=n at*;obtain⟨adl,capl,rfl⟩:=gP HJ.out.row;have a1:(k:Int)<(ns.length:Int):=by omega
   have a0:(0:Int)<=(k:Int):=by omega
   have m0:(0:Int)<=(n:Int):=by omega
   have m1:(n:Int)<64:=by omega
   have cseg':wr.cell? ⟨b,1+n,none⟩=some (.map (some (bm n))):=by rw[Yk];exact cseg
   clear cseg;have y1':wr.cell? ⟨w.heap.size,1,none⟩=some (.slice adl k capl):=y1;clear y1;go_upto_region 5 with fail;have hnb:b≠w.heap.size:=by omega
   go_region_law (first
    |(refine step_append_lies _ rfl _ _ _ rfl w.heap.size 167 i0 _ 2 32 aa.underlying130 hi0 hz0 hz1 hz2 rfl (by omega) (.slice adl k capl) _ _ rfl HO2a.out ⟨w2.heap.size,0,none⟩ 1 1 [.int .i64 n,.slice ad2 len2 cap2] rfl rfl (Xr (BY w2 _)) (by simp[Value.oneCell']) (by omega) (by unfold maxLen;omega) (by omega) (by have:=HB2.out.size;simp<;>omega) (w2.heap.size+1) (by simp) ?_;intro g4 cap4 w4 hown4 hgr4 hat4 hlt4;have HO4:Hid (w4.ownsRow w.heap.size 167 2 (.slice (some ⟨g4,0,none⟩) (k+1) cap4) (k+1) (fN gs++ [.int .i64 n,.slice ad2 len2 cap2])):=hown4;have hK4:bX (λt=>t≠167) w2 w4:=(bX.below ((AT _ _).alloc (iR _) _)).trans (bX.grown hgr4 HO2a.out (λh=>h rfl));have HK4:Hid (bX (λt=>t≠167) w2 w4):=hK4;have hc4:=hK4 _ _ _ _ (aQ HJ.out.st HB2.out) (by decide);obtain⟨cb4,fb4⟩:=al hc4;have c41:=cb4 1;have f41:=fb4 1;have HB4:Hid (Below w.heap.size w w4):=Below.grown HBw.out hgr4 HBw.out.size (λq hq=>ql HO2a.out hq);have s4:w4.cell? ⟨b,1+n,none⟩=some (.map (some (bm n))):=(HB4.out.cell (p:=⟨b,1+n,none⟩) hbl).trans ((HJ.out.ba.cell (p:=⟨b,1+n,none⟩) hbl).symm.trans cseg');clear cb4 fb4 hc4 hK4 hown4 hgr4)
    |(go_simp;go_at_call 49;refine By HRk.out ?_;rintro e w2 ⟨ad2,len2,cap2,rs,rfl,hr2,hv2,ht2,hb2⟩;have HRs2:Hid (dp w2 w.heap.size (.slice ad2 len2 cap2) rs):=hr2;have HV2:Hid (∀r∈rs,aC w2 r.sv r.l):=hv2;have HT2:Hid (rs.map Rc.cg=ro):=ht2;have HB2:Hid (Below wr.heap.size wr w2):=hb2;have HO2:Hid (w2.ownsRow w.heap.size 167 2 (.slice adl k capl) k (fN gs)):=ec HJ.out.row hb2 (iR _);have s2:=aU cseg' hb2;have y2:=aU y1' hb2;have hz2':w.heap.size<w2.heap.size:=(Array.getElem?_eq_some_iff.1 (aQ HJ.out.st hb2)).1;have hb2':b<w2.heap.size:=(by omega);have HO2a:Hid ((w2.alloc (.cells #[.int .i64 n,.slice ad2 len2 cap2] 167)).ownsRow w.heap.size 167 2 (.slice adl k capl) k (fN gs)):=Xh HO2.out _;have HBw:Hid (Below w.heap.size w (w2.alloc (.cells #[.int .i64 n,.slice ad2 len2 cap2] 167))):=(bc HJ.out.ba hb2).alloc (by have:=hb2.size;omega) _;clear hr2 hv2 ht2 hb2))
   all_goals
    go_wp2;exact⟨⟨k+1,_,gs++ [(n,.slice ad2 len2 cap2,rs)],by omega,by go_num,oi.step HJ.out HB2.out HRs2.out HV2.out HT2.out HK4.out HO4.out HB4.out HSk'.out⟩,by simp[intOf];omega⟩
  ·obtain rfl:k=ns.length:=by omega
   have HTx':Hid (Calls aa.prog 105 #[.agg #[.int .u8 kind,lv]] wr λe w'=>e=.returned (.string (Let.aK kind sg).bytes)/\Below w.heap.size w w'):=HTx.out wr lv gs HJ.out;go_wp2_with (go_at_call 105;refine By HTx'.out ?_;rintro e w9 ⟨rfl,hb9⟩)
   go_ret;exact⟨rfl,hb9⟩
theorem wB{d':Nat->Int}:∀k,(∀i,i<k->d i=d' i)->cP d k=cP d' k
 |0,_=>rfl
 |k+1,h=>by rw[cP,cP,wB k λi hi=>h i (by omega),h k (by omega)]
theorem xY{T T':Nat->ByteArray}(h:∀k,k<64->T k=T' k):∀j,j<=3->∀n,n<4 ^ (3-j)->dg T j n=dg T' j n
 |0,_,n,hn=>by rw[dg,dg,h n (by simpa using hn)]
 |j+1,hj,n,hn=>by
  have h4:4 ^ (3-j)=4 ^ (3-(j+1))*4:=by rw[<-XH];congr 1;omega
  rw[dg,dg,gJ,gJ,wB 4 λi hi=>xY h j (by omega) _ (by omega)]
theorem UW(T:Nat->ByteArray):∀j n,0<=dg T j n/\dg T j n<18446744073709551616
 |0,_=>pL _ _
 |_+1,_=>pL _ _
theorem rR{num:Nat}(h:aB w b bm num K)(hb:Below w.heap.size w W){lv n:Nat}(hl:lv<=3)(hn:n<4 ^ lv):bR W bm K lv n=bR w bm K lv n:=
 xY (λk hk=>vT (hb.block _ (h.2.1 k hk).lt)) _ (by omega) _ (by rw[show 3-(3-lv)=lv by omega];exact hn)
theorem BQ(n i:Nat)(w:World)(hn:n<=64)(hi:i<4):
  Calls aa.prog 103 #[.int .i64 n,.int .i64 i] w λe w'=>e=.returned (.int .i64 ((n*4+i:Nat):Int))/\w'=w:=by
 have e:((n*4+i:Nat):Int)=(n:Int)*4+(i:Int):=by omega
 have h1:(n:Int)*4<=256:=by omega
 have h2:(n:Int)*4+(i:Int)<=260:=by omega
 have h0:(0:Int)<=(n:Int)*4:=by omega
 have h3:(0:Int)<=(n:Int)*4+(i:Int):=by omega
 rw[e];go_enter aa.func103,aa.ntmps103;go_wp2;go_ret;exact⟨rfl,rfl⟩
theorem wX{num:Nat}(h:aB w b bm num K)(hK:dK w bm K):∀lv n:Nat,lv<=3->n<4 ^ lv->∀W,Below w.heap.size w W->Calls aa.prog 27 #[.pointer (some ⟨b,0,none⟩),.int .i64 lv,.int .i64 n] W λe w'=>e=.returned (.int .u64 (bR w bm K lv n))/\Below W.heap.size W w':=λlv n hl hn W hW=>by
 have:=CE b num lv n bm K W (h.below hW) (hK.below h hW) hl hn;rw[rR h hW hl hn]at this;exact this
def kids(w:World)(bm:Nat->Nat)(K:aw)(lev n i:Nat):Int:=if i<4 then bR w bm K (lev+1) (n*4+i) else 0
def gq(w:World)(bm:Nat->Nat)(K:aw)(lev:Nat)(ns:List Nat):List Nd:=ns.map λn=>(n,kids w bm K lev n)
theorem uX{num:Nat}(h:aB w b bm num K)(hb:Below w.heap.size w W)(hl:lev<3){ns:List Nat}(hn:∀n∈ns,n<4 ^ lev):gq W bm K lev ns=gq w bm K lev ns:=by
 refine XI λn hm=>?_;congr 1;funext i;unfold kids
 have:=hn n hm;split
 ·exact rR h hb (by omega) (by rw[XH];omega)
 ·rfl
structure om(w:World)(lev:Nat)(sg:List Nd)(k:Nat)(W:World)(lv:Value):Prop where
 st:W.heap[w.heap.size]?=some (.cells #[.int .i64 lev,lv] 128)
 row:W.ownsRow w.heap.size 163 5 lv k (ez (sg.take k))
 ba:Below w.heap.size w W
structure qy(w:World)(lev:Nat)(sg:List Nd)(k:Nat)(lv:Value)(bn n i:Nat)(d:Nat->Int)(W:World):Prop where
 j:om w lev sg k W lv
 nd:W.heap[bn]?=some (.cells (fZ n d i) 163)
 q8:∀q,lv.ownBlock=some q->q<bn
 high:w.heap.size<bn
theorem om.below(h:om w lev sg k W lv)(hb:Below W.heap.size W W'):om w lev sg k W' lv:=
 ⟨aQ h.st hb,ec h.row hb (iR _),bc h.ba hb⟩
theorem qy.set{bn n i:Nat}(h:qy w lev sg k lv bn n i d W)(hb:Below W.heap.size W W')(hi:i<4):W'.heap[bn]?=some (.cells (fZ n d i) 163)/\qy w lev sg k lv bn n (i+1) d (W'.setCell ⟨bn,1+i,none⟩ (.int .u64 (d i))):=by
 have hj:=h.j.below hb;have hn:=aQ h.nd hb;have hs:=heap_set (o:=1+i) (v:=.int .u64 (d i)) hn;rw[BB n d hi]at hs;have hh:=h.high;refine⟨hn,⟨?_,tQ hj.row λq _ hq=>Xg _ _ _ _ (λe=>?_),hj.ba.setCell (Nat.le_of_lt h.high) _⟩,hs,h.q8,h.high⟩
 ·rw[Xg _ _ _ _ (by show _≠bn;omega)];exact hj.st
 ·have:=h.q8 q hq;simp only at e;omega
theorem Hv(b num lev Bn:Nat)(bm:Nat->Nat)(K:aw)(nv:Value)(ns:List Nat)(w:World)(h:aB w b bm num K)(hK:dK w bm K)(hn:fO w Bn nv ns)(hlev:lev<3)(hl:ns.length<=64)(hns:∀n∈ns,n<4 ^ lev):
  Calls aa.prog 78 #[.pointer (some ⟨b,0,none⟩),.int .i64 lev,nv] w λe w'=>e=.returned (.string (Let.nodes lev (gq w bm K lev ns)).bytes)/\Below w.heap.size w w':=by
 obtain⟨i0,hi0,hz0,hz1,hz2⟩:=Xm aa.D4;obtain⟨ad,cap,rfl,hcap,hlc⟩:=jS hn;have h4:=(ly (show lev<=3 by omega)).1;have hlm:(gq w bm K lev ns).length=ns.length:=Xn ..;have HD:Hid (∀n∈ns,∀i:Nat,i<4->∀W,Below w.heap.size w W->Calls aa.prog 27 #[.pointer (some ⟨b,0,none⟩),.int .i64 ((lev:Int)+1),.int .i64 ((n*4+i:Nat):Int)] W λe w'=>e=.returned (.int .u64 (bR w bm K (lev+1) (n*4+i)))/\Below W.heap.size W w'):=λn hn i hi W hW=>by
  have h1:=hns n hn
  have:=wX h hK (lev+1) (n*4+i) (by omega) (by rw[XH];omega) W hW;rw[show ((lev+1:Nat):Int)=(lev:Int)+1 by omega]at this;exact this
 have HC:Hid (∀n∈ns,∀i:Nat,i<4->∀W,Calls aa.prog 103 #[.int .i64 n,.int .i64 i] W λe w'=>e=.returned (.int .i64 ((n*4+i:Nat):Int))/\w'=W):=λn hn i hi W=>by
  have h1:=hns n hn;exact BQ n i W (by omega) hi
 have HN:Hid (fO w Bn (.slice ad ns.length cap) ns):=hn;have HNs:Hid (∀n∈ns,n<4 ^ lev):=hns;have HTx:Hid (∀W lv,om w lev (gq w bm K lev ns) ns.length W lv->Calls aa.prog 104 #[.agg #[.int .i64 lev,lv]] W λe w'=>e=.returned (.string (Let.nodes lev (gq w bm K lev ns)).bytes)/\Below w.heap.size w w'):=by
  intro W lv hJ;have hr:=hJ.row;rw[<-hlm,Xx]at hr;refine (I5 w.heap.size lev lv _ W hr (by omega) (by omega) (λg hg=>?_)).mono λe w' ⟨he,hb⟩=>⟨he,bc hJ.ba hb⟩
  obtain⟨n,hn,rfl⟩:=XP.1 hg
  have:=hns n hn;show n<256;omega
 have HSg:Hid (∀k (h:k<ns.length),(gq w bm K lev ns).take (k+1)=(gq w bm K lev ns).take k++ [(ns[k],kids w bm K lev ns[k])]):=λk h=>by
  rw[Xq (by rw[hlm];exact h)];simp[gq]
 have HJ0:Hid (om w lev (gq w bm K lev ns) 0 (w.alloc (.cells #[.int .i64 lev,.slice none 0 0] 128)) (.slice none 0 0)):=⟨BY w _,XZ _ _ _ _,(AT _ _).alloc (iR _) _⟩
 have v1:(lev:Int)+1<=3:=by omega
 clear h hn hns hK;generalize gq w bm K lev ns=sg at*;go_enter aa.func78,aa.ntmps78;go_wp2;go_loopw [16] (λiv wr=>∃(k:Nat) (lv:Value),k<=ns.length/\iv=.int .i64 k/\Hid (om w lev sg k wr lv)) (λiv _=>ns.length-(intOf iv).toNat)
 case atStart=>exact⟨0,_,by omega,rfl,HJ0.out⟩
 case round=>
  obtain⟨k,lv,hkl,rfl,HJ⟩:=hrel;clear HJ0;have hsw:=HJ.out.ba.size;obtain⟨adl,capl,rfl⟩:=gP HJ.out.row;have hst0:w.heap.size<wr.heap.size:=(Array.getElem?_eq_some_iff.1 HJ.out.st).1;obtain⟨cs,fs⟩:=al HJ.out.st;have y0:=cs 0;have y1:=cs 1;clear cs fs;by_cases hlt:k<ns.length
  ·obtain⟨g,cap',hv',hgl,_,_,cc⟩:=qL HN.out (show 0<ns.length by omega);cases hv';have cn:wr.cell? ⟨g,k,none⟩=some (.int .i64 ns[k]):=(HJ.out.ba.cell (p:=⟨g,k,none⟩) hgl).trans (cc k _ (by omega) (by rw[List.getElem?_map,List.getElem?_eq_getElem hlt];rfl));have cL:=Xe hlt;have HSk:Hid _:=HSg.out k hlt;have HDk:Hid _:=HD.out ns[k] cL;have HCk:Hid _:=HC.out ns[k] cL;clear cc HD HC HNs HSg cL;generalize hnk:ns[k]=n at*;have HD':Hid (∀i:Nat,i<4->∀W,Below w.heap.size w W->Calls aa.prog 27 #[.pointer (some ⟨b,0,none⟩),.int .i64 ((lev:Int)+1),.int .i64 ((n*4+i:Nat):Int)] W λe w'=>e=.returned (.int .u64 (bR w bm K (lev+1) (n*4+i)))/\Below W.heap.size W w'):=HDk.out;have HC':Hid (∀i:Nat,i<4->∀W,Calls aa.prog 103 #[.int .i64 n,.int .i64 i] W λe w'=>e=.returned (.int .i64 ((n*4+i:Nat):Int))/\w'=W):=HCk.out;have HSk':Hid (sg.take (k+1)=sg.take k++ [(n,kids w bm K lev n)]):=HSk.out;clear HDk HCk HSk;have HD2:Hid (∀i:Nat,i<4->∀W,Below w.heap.size w W->Calls aa.prog 27 #[.pointer (some ⟨b,0,none⟩),.int .i64 ((lev:Int)+1),.int .i64 ((n*4+i:Nat):Int)] W λe w'=>e=.returned (.int .u64 (kids w bm K lev n i))/\Below W.heap.size W w'):=λi hi W hW=>by
    have:=HD'.out i hi W hW;rw[show bR w bm K (lev+1) (n*4+i)=kids w bm K lev n i by rw[kids,AS hi]]at this;exact this
   clear HD';generalize kids w bm K lev n=d at*;have a1:(k:Int)<(ns.length:Int):=by omega
   have a0:(0:Int)<=(k:Int):=by omega
   have HL0:Hid (qy w lev sg k (.slice adl k capl) wr.heap.size n 0 d (wr.alloc (.cells (fZ n d 0) 163))):=⟨HJ.out.below ((AT _ _).alloc (iR _) _),BY wr _,λq hq=>uR HJ.out.row hq,hst0⟩
   go_wp2;generalize wr.heap.size=bn at*;go_loopw [22] (λiv wq=>∃i:Nat,i<=4/\iv=.int .i64 i/\Hid (qy w lev sg k (.slice adl k capl) bn n i d wq)) (λiv _=>4-(intOf iv).toNat)
   case atStart=>exact⟨0,by omega,rfl,HL0.out⟩
   case round=>
    obtain⟨i,hi,rfl,HL⟩:=hrel;clear HL0;by_cases hi4:i<4
    ·have i1:(i:Int)<4:=by omega
     have i00:(0:Int)<=(i:Int):=by omega
     have HDi:Hid (∀W,Below w.heap.size w W->Calls aa.prog 27 #[.pointer (some ⟨b,0,none⟩),.int .i64 ((lev:Int)+1),.int .i64 ((n*4+i:Nat):Int)] W λe w'=>e=.returned (.int .u64 (d i))/\Below W.heap.size W w'):=HD2.out i hi4;have HCi:Hid (∀W,Calls aa.prog 103 #[.int .i64 n,.int .i64 i] W λe w'=>e=.returned (.int .i64 ((n*4+i:Nat):Int))/\w'=W):=HC'.out i hi4;generalize ((n*4+i:Nat):Int)=ch at*;go_wp2_with (first
      |(go_at_call 103;refine (HCi.out _).mono ?_;rintro e w' ⟨rfl,hw'⟩;subst w')
      |(go_at_call 27;refine (HDi.out _ HL.out.j.ba).mono ?_;rintro e w2 ⟨rfl,hb2⟩;obtain⟨hn2,hL2⟩:=HL.out.set hb2 hi4;obtain⟨c2,f2⟩:=al hn2;have cI:=(c2 (1+i)).trans (EB n d hi4);have fI:=f2 (1+i);clear c2 f2 hn2 hb2;have HL2:Hid (qy w lev sg k (.slice adl k capl) bn n (i+1) d (w2.setCell ⟨bn,1+i,none⟩ (.int .u64 (d i)))):=hL2;clear hL2))
     exact⟨⟨i+1,by omega,by go_num,HL2.out⟩,by simp[intOf];omega⟩
    ·obtain rfl:i=4:=by omega
     obtain⟨cs,fs⟩:=al HL.out.j.st;obtain⟨cn4,fn4⟩:=al HL.out.nd;have y14:=cs 1;clear cs fs;have hszq:=HL.out.j.ba.size;have HRa:Hid ((wr.alloc (.cells (fZ n d 4) 163)).ownsRow w.heap.size 163 5 (.slice adl k capl) k (ez (sg.take k))):=Xh HL.out.j.row _;have HBa:Hid (Below w.heap.size w (wr.alloc (.cells (fZ n d 4) 163))):=HL.out.j.ba.alloc hszq _;go_wp2_with (at_builtin;refine YP _ rfl _ _ _ rfl w.heap.size 163 i0 _ 5 40 aa.underlying126 hi0 hz0 hz1 hz2 rfl (by omega) (.slice adl k capl) _ _ rfl HRa.out ⟨wr.heap.size,0,none⟩ 1 1 _ rfl (by rfl) (Xr (BY wr _)) (by simp[Value.oneCell']) (by omega) (by unfold maxLen;omega) (by omega) HBa.out.size (wr.heap.size+1) (by simp) ?_;intro g4 cap4 w4 hown4 hgr4 hat4 hlt4;have HO4:Hid (w4.ownsRow w.heap.size 163 5 (.slice (some ⟨g4,0,none⟩) (k+1) cap4) (k+1) (ez (sg.take k)++(fZ n d 4).toList)):=hown4;have hK4:bX (λt=>t≠163) wr w4:=(bX.below ((AT _ _).alloc (iR _) _)).trans (bX.grown hgr4 HRa.out (λh=>h rfl));have hc4:=hK4 _ _ _ _ HL.out.j.st (by decide);have HC4:Hid (w4.heap[w.heap.size]?=some (.cells #[.int .i64 lev,.slice adl k capl] 128)):=hc4;obtain⟨cb4,fb4⟩:=al hc4;have c41:=cb4 1;have f41:=fb4 1;have HB4:Hid (Below w.heap.size w w4):=Below.grown HBa.out hgr4 HBa.out.size (λq hq=>ql HRa.out hq);clear cb4 fb4 hc4 hK4 hown4 hgr4)
     have hp:∀j,j<4->gG d 4 j=d j:=λj hj=>by simp[gG,hj]
     refine⟨⟨k+1,_,by omega,by go_num,heap_set HC4.out,?_,HB4.out.setCell (iR _) _⟩,by simp[intOf];omega⟩;rw[HSk'.out,ez,XU]
     have:=gE HO4.out HC4.out (by decide) 1 (.slice (some ⟨g4,0,none⟩) (k+1) cap4);simp only[fZ,hp 0 (by omega),hp 1 (by omega),hp 2 (by omega),hp 3 (by omega)]at this;exact this
  ·obtain rfl:k=ns.length:=by omega
   have HTx':Hid (Calls aa.prog 104 #[.agg #[.int .i64 lev,.slice adl ns.length capl]] wr λe w'=>e=.returned (.string (Let.nodes lev sg).bytes)/\Below w.heap.size w w'):=HTx.out wr _ HJ.out;go_wp2_with (go_at_call 104;refine By HTx'.out ?_;rintro e w9 ⟨rfl,hb9⟩)
   go_ret;exact⟨rfl,hb9⟩
theorem qe(w:World)(X Y Z:Obj):(((w.alloc X).alloc Y).alloc Z).heap[w.heap.size+1+1]?=some Z:=by
 simpa using BY ((w.alloc X).alloc Y) Z
theorem um(w:World)(X Y Z:Obj):(((w.alloc X).alloc Y).alloc Z).heap[w.heap.size]?=some X:=by
 rw[OF _ _ _ (by simp;omega),OF _ _ _ (by simp)];exact BY w X
theorem wj{base:Nat}{e:TypeId}{size:Nat}{n:Nat}(h:w.ownsRow base e size v n xs){g:Nat}(hg:v.ownBlock=some g):base<=g/\g<w.heap.size:=by
 rcases h.2 with⟨h1,_⟩|⟨g',cap,cur,hv,hb,hh,_⟩
 ·rw[h1]at hg;cases hg
 ·rw[hv]at hg;have:g'=g:=by simpa[Value.ownBlock] using hg
  subst this;exact⟨hb,(Array.getElem?_eq_some_iff.1 hh).1⟩
theorem EV{w3 w4:World}{v3:Value}{X:Obj}(hb:w.heap[b]?=some X)(h3:w.grownBy w3 v.ownBlock)(h4:w3.grownBy w4 v3.ownBlock)(n3:some b≠v.ownBlock)(n4:some b≠v3.ownBlock):w4.heap[b]?=some X:=by
 have hlt:=(Array.getElem?_eq_some_iff.1 hb).1;rw[h4.block b (Xc hlt h3.size) n4,h3.block b hlt n3,hb]
theorem RS{w1:World}{B C:Array Value}{ta tb tc:TypeId}(hb:Below (w.heap.size+3) (((w.alloc (.cells A ta)).alloc (.cells B tb)).alloc (.cells C tc)) w1):
  w1.heap[w.heap.size+1+1]?=some (.cells C tc):=by
 rw[hb.block _ (by omega)];exact qe w _ _ _
theorem F4(h:w.heap[b]?=some (.cells A t)):(∀o,w.cell? ⟨b,o,none⟩=A[o]?)/\(∀o,w.frozen? ⟨b,o,none⟩=false):=
 ⟨λo=>by simp[World.cell?,h],λo=>by simp[World.frozen?,h]⟩
theorem Sv(c:Ctx)(sv:Value)(l:List aj)(rep:Nat)(val:ByteArray)(seen:Ctx)(w:World)(h:aC w sv l)(hr:∀v∈l,v.rep<4)(hlen:l.length<=100000)(bj:rep<4)(hn:(aW l seen).length<20)(h0:0<=aZ c seen rep)(h1:aZ c seen rep<1000000):
  Calls aa.prog 40 #[bL c sv,.int .i64 rep,.string val,c9 seen] w λe w'=>∃v' l',e=.returned (.tuple #[bL (bump (aZ c seen) rep) v',.int .i64 0])/\l'.Perm (aW l seen++ [(rep,aZ c seen rep+1,val)])/\l'.Pairwise (λa b=>aR b a=false)/\w'.ownsRow w.heap.size 144 3 v' l'.length (aX l')/\Below w.heap.size w w':=by
 obtain⟨ad,cap,rfl,hcap⟩:=h.len;have H3:Hid (∀a b d,aC (((w.alloc a).alloc b).alloc d) (.slice ad l.length cap) l):=λa b d=>((Xh h a).alloc b).alloc d;have HR:Hid _:=hr;clear h hr;generalize hun:aW l seen=U at*;have HU:Hid _:=hun;clear hun;go_enter aa.func40,aa.ntmps40;obtain⟨i0,hi0,hz0,hz1,hz2⟩:=Xm aa.vJ;rcases fp bj with rfl|rfl|rfl|rfl
 all_goals
  go_wp2_with (first
   |(go_at_call 63;refine (pn c _ l seen _ (H3.out _ _ _) HR.out hlen).mono ?_;rintro e w1 ⟨v',rfl,aD,hb⟩;rw[HU.out]at aD;obtain⟨ad',cap',hv'⟩:=oz aD;subst hv';simp at hb;obtain⟨b0,b1,b2,f0,f1,f2⟩:=lX hb;have HO:Hid _:=ej aD (show w.heap.size+3<=_ by simp);have HB:Hid _:=hb;clear aD hb)
   |(go_at_call 64;refine (sC c seen _).mono ?_;rintro e w2 ⟨rfl,hb2⟩;have hb3:=HB.out.trans (hb2.mono (by have:=HB.out.size;simp at this;omega));obtain⟨b0,b1,b2,f0,f1,f2⟩:=lX hb3;have HB3:Hid _:=hb3;have HO2:Hid (w2.ownsRow (w.heap.size+3) 144 3 (.slice ad' U.length cap') U.length (aX U)):=ec HO.out hb2 (iR _);have z2:w.heap.size+1+1<w2.heap.size:=(by have:=hb3.size;simp at this;omega);clear hb3 hb2)
   |(at_builtin;refine YP _ rfl _ _ _ rfl (w.heap.size+3) 144 i0 _ 3 32 aa.underlying104 hi0 hz0 hz1 hz2 rfl (by omega) (.slice ad' U.length cap') _ _ rfl (((HO2.out.alloc _).alloc _).alloc _) ⟨w2.heap.size+1+1,0,none⟩ 1 1 [.int .i64 _,.int .i64 (aZ c seen _+1),.string val] rfl rfl (Xr (cs:=#[.int .i64 _,.int .i64 (aZ c seen _+1),.string val]) (t:=144) (fr:=(0,0)) (qe w2 _ _ _)) (by simp[Value.oneCell']) (by omega) (by unfold maxLen;omega) (by omega) (by simp;omega) (w2.heap.size+1+1+1) (by simp) ?_;intro g capn w3 hown3 hgrow3 hat3 hlt3;have HW3:Hid _:=hown3;have HG3:Hid _:=hgrow3;have HA3:Hid _:=hat3;clear hown3 hgrow3 hat3)
   |(go_at_call 65;refine (BH (w.heap.size+3) _ (U++ [(_,aZ c seen _+1,val)]) _ (by have:=HW3.out;rw[Xk,rL];exact this) (by simp) (by simp;omega)).mono ?_;rintro e w4 ⟨rfl,l',hperm,hsort,hown4,hgrow4⟩;have bA:∀b,b<=w2.heap.size->(b<w.heap.size+3\/b=w2.heap.size)->some b≠(Value.slice ad' U.length cap').ownBlock/\some b≠some g:=(λb hb hb'=>by
     have key:∀q,(Value.slice ad' U.length cap').ownBlock=some q->b≠q:=λq hq=>by have:=wj HO2.out hq;omega
     refine⟨λe=>key b e.symm rfl,λe=>?_⟩;rcases HA3.out with h|h
     ·exact key g h (by simpa using e)
     ·have:b=g:=by simpa using e
      omega);obtain⟨c4,_⟩:=F4 (EV (um w2 _ _ _) HG3.out hgrow4 (bA _ (iR _) (Or.inr rfl)).1 (bA _ (iR _) (Or.inr rfl)).2);obtain⟨r4,fr4⟩:=F4 (EV (w:=((w2.alloc _).alloc _).alloc _) (b:=w.heap.size+1+1) (by rw[OF _ _ _ (by simp;omega),OF _ _ _ (by simp;omega),OF _ _ _ z2];exact RS HB3.out) HG3.out hgrow4 (bA _ (by omega) (Or.inl (by omega))).1 (bA _ (by omega) (Or.inl (by omega))).2);have HN4:Hid _:=hown4;have HG4:Hid _:=hgrow4;have HP:Hid _:=hperm;have HS:Hid _:=hsort;clear hown4 hgrow4 hperm hsort bA))
  refine XF (v:=.tuple #[bL (bump (aZ c seen) _) (.slice (some ⟨g,0,none⟩) (U.length+1) capn),.int .i64 0]) ?_ rfl ⟨_,l',rfl,HP.out,HS.out,?_,?_⟩
  ·simp[results,aa.results40,go_sem,bump,r4]
  ·exact ej (XK (XK (XK (XK (XK HN4.out (by simp) _) (by simp) _) (by simp) _) (by simp) _) (by simp) _) (by omega)
  ·have base:Below w.heap.size w w2:=(((AT _ _).alloc (iR _) _).alloc (by simp) _).alloc (by simp;omega) _|>.trans (HB3.out.mono (by omega));have base3:Below w.heap.size w w3:=(((base.alloc (by omega) _).alloc (by simp;omega) _).alloc (by simp;omega) _).grown HG3.out (by simp;omega) (λq hq=>by have:=wj HO2.out hq;omega);have base4:Below w.heap.size w w4:=base3.grown HG4.out base3.size (λq hq=>by have:=wj HW3.out hq;omega);repeat' (with_reducible (first|exact base4|refine Xj ?_ ?_ _|refine W9 ?_ ?_ _))
   all_goals (first|omega|(simp;omega))
end Go.Proofs.YtldmcdeibiclkaaGreatDoorQ
