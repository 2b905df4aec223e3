/-
  Toward causal_holds: ONE GOROUTINE BESIDE ITSELF (by the relation of two programs, both of them this one): on a
-/
import Derived.Test.YtldmcdeibiclkaaGreatDoorC05
import Derived.Test.YtldmcdeibiclkaaGreatDoorC14
set_option linter.unusedVariables false
set_option linter.unusedSimpArgs false
set_option maxRecDepth 100000
set_option maxHeartbeats 20000000
namespace Go.Proofs.YtldmcdeibiclkaaGreatDoor.U
section
open Go.Conc
def Dg(τ:ai):Prop:=∀r s,τ.un r s->r=s
section
variable {P:Program} {L:aB} {T:aT} {τ:ai}
theorem AR.dg{π:Nat->Nat->Prop}(hp:∀r s,π r s->r=s){a b:Addr}(h:AR π a b):a=b:=by
 obtain⟨ab,ao,XW⟩:=a
 obtain⟨bb,bo,bs⟩:=b
 obtain⟨h1,h2,h3⟩:=h
 have h1:=hp _ _ h1
 simp only at h1 h2 h3
 subst h1 h2 h3
 rfl
theorem VR.dg(hj:L.bg=jl){π:Nat->Nat->Prop}(hp:∀r s,π r s->r=s){v w:Value}(h:VR L π v w):v=w:=by
 have arr:∀(zs:Array (Value×Value)),(∀z∈zs,z.1=z.2)->zs.map (·.1)=zs.map (·.2):=λzs hz=>aap λz h=>hz z h
 induction h with
 |bg s=>rw[hj];rfl
 |ptr h=>rw[h.dg hp]
 |slice n c h=>rw[h.dg hp]
 |map h=>rw[hp _ _ h]
 |func xs ys hf _ _ ihx ihy=>rw[arr xs ihx,arr ys ihy]
 |iface t _ ih=>rw[ih]
 |agg xs _ ih=>rw[arr xs ih]
 |tuple xs _ ih=>rw[arr xs ih]
 |_=>rfl
theorem XR.dg{α:Type}{R:α->α->Prop}(hR:∀a b,R a b->a=b){xs ys:Array α}(h:XR R xs ys):xs=ys:=by
 obtain⟨zs,rfl,rfl,hz⟩:=h
 exact aap λz h=>hR _ _ (hz z h)
theorem L2.dg{α:Type}{R:α->α->Prop}(hR:∀a b,R a b->a=b){xs ys:List α}(h:L2 R xs ys):xs=ys:=by
 induction h with
 |nil=>rfl
 |cons h _ ih=>rw[hR _ _ h,ih]
theorem NR.dg{π:Nat->Nat->Prop}(hp:∀r s,π r s->r=s):∀{a b:Option Nat},NR π a b->a=b
 |none,none,_=>rfl
 |some _,some _,h=>by rw[hp _ _ h]
theorem oG.dg(hj:L.bg=jl)(hd:Dg τ){p:FuncId->Prop}{n:Nat}{v w:Value}(h:oG L p n τ v w):v=w:=by
 rcases h with ⟨rfl,rfl⟩|⟨rfl,rfl⟩|⟨f,xs,ys,rfl,rfl,_,hx,_⟩
 ·rfl
 ·rfl
 ·rw[hx.dg λ_ _ h=>VR.dg hj (λr s x=>hd r s (.inl x)) h]
theorem CR.dg(hj:L.bg=jl)(hb:fy τ)(hd:Dg τ){c:bE}{v w:Value}(h:CR L τ c v w):v=w:=by
 cases c with
 |any=>exact VR.dg hj (λr s x=>hd r s (.inl x)) h
 |own=>exact VR.dg hj (λr s x=>hd r s (.inl (hb.own r s x))) h
 |box=>exact VR.dg hj (λr s x=>hd r s (.inr (.inl x))) h
 |jF=>
  rcases h with ⟨rfl,rfl⟩|⟨l,m,rfl,rfl,h⟩
  ·rfl
  ·rw[hd _ _ (.inr (.inr h))]
 |dM=>exact oG.dg hj hd h
 |loc=>exact oG.dg hj hd h
theorem TR.dg(hj:L.bg=jl)(hb:fy τ)(hd:Dg τ){f:FuncId}{xs ys:Array Value}(h:TR L τ f xs ys):xs=ys:=by
 apply ZA h.1.symm
 intro i h1 h2
 exact CR.dg hj hb hd (h.2 i _ _ (Ym h1) (Ym h2))
theorem OR.dg(hj:L.bg=jl)(hd:Dg τ){o q:Obj}(h:OR L τ o q):o=q:=by
 have va:∀a b,VR L τ.all a b->a=b:=λa b h=>VR.dg hj (λr s x=>hd r s (.inl x)) h
 cases h with
 |cells e f h=>rw[h.dg va]
 |map c h=>rw[h.dg λa b hab=>by cases a;cases b;obtain⟨h1,h2,h3⟩:=hab;simp only at h1 h2 h3;rw[va _ _ h1,va _ _ h2,h3]]
 |stringIter=>rfl
 |mapIter a b c h=>rw[h.dg λr s x=>hd r s (.inl x)]
 |number l h=>rw[h.dg λr s x=>hd r s (.inl x)]
theorem fu.dg(hj:L.bg=jl)(hb:fy τ)(hd:Dg τ){C:FuncId->Code->Prop}{o q:Obj}(h:fu L C τ o q):o=q:=by
 cases h with
 |@loop k l h1 h2 h3 h4 h5 h6 h7 h8=>
  obtain⟨a1,a2,a3,a4,a5,a6,a7,a8⟩:=k
  obtain⟨b1,b2,b3,b4,b5,b6,b7,b8⟩:=l
  simp only at h1 h2 h3 h4 h5 h6 h7 h8
  have h4':=TR.dg hj hb hd h4
  have h8':=hd _ _ (.inr (.inr h8))
  subst h1 h2 h3 h4' h5 h6 h7 h8'
  rfl
 |deferred=>rfl
theorem KR.dg(hj:L.bg=jl)(hb:fy τ)(hd:Dg τ){C:FuncId->Code->Prop}{r s:Nat}{o q:Obj}(h:KR L C τ r s o q)(hu:τ.un r s):o=q:=by
 rcases hu with hu|hu|hu
 ·exact OR.dg hj hd (h.all hu)
 ·obtain⟨xs,ys,e,f,rfl,rfl,hx⟩:=h.box hu
  rw[hx.dg λa b h=>VR.dg hj (λr s x=>hd r s (.inl (hb.own r s x))) h]
 ·exact fu.dg hj hb hd (h.lp hu)
theorem fe.dg(hd:Dg τ){f:FuncId}{a b:Item}(h:fe P L T τ f a b):a=b:=by
 cases h with
 |inRangeFunc h=>rw[hd _ _ (.inr (.inr h))]
 |endRangeFunc h=>rw[hd _ _ (.inr (.inr h))]
 |_=>rfl
theorem jj.dg(hd:Dg τ){a b:Deferred}(h:jj τ a b):a=b:=by
 cases h with
 |collected h=>rw[hd _ _ (.inr (.inr h))]
theorem bM.dg(hj:L.bg=jl)(hb:fy τ)(hd:Dg τ){fr gr:Frame}(h:bM P L T τ fr gr):fr=gr:=by
 obtain⟨a1,a2,a3,a4,a5,a6,a7⟩:=fr
 obtain⟨b1,b2,b3,b4,b5,b6,b7⟩:=gr
 obtain⟨h1,_,_,h3,h4,h5,h6,_,h8,h9⟩:=h
 simp only at h1 h3 h4 h5 h6 h8 h9
 have e3:=TR.dg hj hb hd h3
 have e4:=h4.dg λ_ _ h=>fe.dg hd h
 have e5:=h5.dg λ_ _ h=>jj.dg hd h
 have e9:=h9.dg λr s x=>hd r s (.inr (.inr x))
 have e8:=h8.1.trans h8.2.symm
 subst h1 e3 e4 e5 h6 e9 e8
 rfl
theorem gX.dg(hj:L.bg=jl)(hb:fy τ)(hd:Dg τ){c:bE}{cs ds:List Frame}(h:gX P L T τ c cs ds):cs=ds:=by
 induction h with
 |nil=>rfl
 |cons h _ _ ih=>rw[bM.dg hj hb hd h,ih]
end
end
section
open Go.Conc
section
variable {P:Program} {L:aB} {T:aT} {τ:ai}
structure kX(P:Program)(L:aB)(T:aT):Prop where
 stat:Stat P P.funcs L T
 bg:L.bg=jl
 np: ¬ L.fn T.bI
structure ez(P:Program)(L:aB)(T:aT)(τ:ai)(fr:Frame)(cs:List Frame)(w:World):Prop where
 dg:Dg τ
 frame:bM P L T τ fr fr
 callers:gX P L T τ (ir L fr) cs cs
 bot:jE fr cs
 fit:Fit τ
 flat:Flat T τ
 cf:∀r s,τ.un r s->r< w.heap.size
 obj:∀r s,τ.un r s->∃o q,w.heap[r]? =some o/\w.heap[s]? =some q/\KR L (CC P L T) τ r s o q
 xM:ig w
def kh(P:Program)(L:aB)(T:aT)(fr:Frame)(cs:List Frame)(w:World):Prop:=∃τ,ez P L T τ fr cs w
variable {fr:Frame} {cs B:List Frame} {w:World}
abbrev eW(τ:ai)(w:World)(N:Nat)(k:Kd):ai:=τ.ext w.heap.size w.heap.size (N - w.heap.size) k
theorem ez.KO(h:ez P L T τ fr cs w):∀r s,τ.un r s->r< w.heap.size/\s< w.heap.size:=λr s x=>⟨h.cf r s x,by rw[←h.dg r s x];exact h.cf r s x⟩
theorem ez.yi(h:ez P L T τ fr cs w)(N:Nat)(k:Kd):Dg (eW τ w N k):=λr s x=>by
 rcases ai.iM.1 x with x|⟨i,_,rfl,rfl⟩
 ·exact h.dg r s x
 ·rfl
theorem ez.js(h:ez P L T τ fr cs w)(N:Nat)(k:Kd):Fit (eW τ w N k):=ai.uE h.fit h.KO
theorem ez.nR(h:ez P L T τ fr cs w){N:Nat}(hN:w.heap.size<=N)(k:Kd):∀r s,(eW τ w N k).un r s->r< N:=λr s x=>by
 rcases ai.iM.1 x with x|⟨i,hi,rfl,rfl⟩
 ·exact X4 (h.cf r s x) hN
 ·omega
theorem ez.sync(h:ez P L T τ fr cs w)(t:Nat->Question->Nat){N:Nat}(hN:w.heap.size<=N)(k:Kd):Sync L (CC P L T) (eW τ w N k) k N w {w with tape:=t}:=by
 refine⟨λr s hr hl=>?_,λi hi=>ai.Bh (by omega)⟩
 rcases ai.iM.1 hr with hr|⟨i,hi,rfl,rfl⟩
 ·obtain⟨o,q,h1,h2,h3⟩:=h.obj r s hr
  exact⟨o,q,h1,h2,h3.xT (ai.gF ..) (h.js N k) hr⟩
 ·omega
theorem fu.xf{C:FuncId->Code->Prop}{d:Option (List Deferred)}{q:Obj}(h:fu L C τ (.deferred d) q):d=none\/d=some []:=by
 cases h with
 |deferred h=>exact h
theorem KR.xf{C:FuncId->Code->Prop}{r s:Nat}{d:Option (List Deferred)}{q:Obj}(h:KR L C τ r s (.deferred d) q)(hu:τ.un r s):d=none\/d=some []:=by
 rcases hu with hu|hu|hu
 ·have:=h.all hu
  cases this
 ·obtain⟨xs,ys,e,f,e1,_⟩:=h.box hu
  cases e1
 ·exact (h.lp hu).xf
theorem ez.behind(h:ez P L T τ fr cs w){k:Kd}{v w1 v1:World}{es fs es1 fs1:Array Event}(hg:w.heap.size<=w1.heap.size)(hB:cH L (CC P L T) (eW τ w w1.heap.size k) k w1.heap.size w v w1 v1 es fs es1 fs1):ig w1:=by
 intro r d hd
 have hr:=(IN.1 hd).1
 by_cases hu: ∃s,(eW τ w w1.heap.size k).un r s
 ·obtain⟨s,hu⟩:=hu
  obtain⟨o,q,h1,h2,h3⟩:=hB.sync.held r s hu hr
  rw[hd] at h1
  cases h1
  exact h3.xf hu
 ·have hlt:r< w.heap.size:=Nat.lt_of_not_le λhle=>hu ⟨r,ai.iM.2 (.inr ⟨r - w.heap.size,by omega,by omega,by omega⟩)⟩
  have ha:=hB.mL r hlt λs hx=>hu ⟨s,by
   rcases hx with hx|hx|hx
   ·exact .inl ((h.js w1.heap.size k).own _ _ hx)
   ·exact .inr (.inl hx)
   ·exact .inr (.inr hx)⟩
  rw[ha] at hd
  exact h.xM r d hd
theorem ez.step(A:kX P L T)(h:ez P L T τ fr cs w)(hlast:fr.mode= .returning->fr.defers= []->cs≠[]){m:Bool}{g1:Goroutine}{w1:World}{es:Array Event}(e:stepG P m {frame:=fr,callers:=cs++B,status:= .running,dying:=none} w= .go g1 w1 es)(hf:gZ g1):
  ∃fr1 cs1,g1= {frame:=fr1,callers:=cs1++B,status:= .running,dying:=none}/\kh P L T fr1 cs1 w1/\w1.tape=w.tape/\w.drawn<=w1.drawn/\
   ∀t:Nat->Question->Nat,(∀i q,w.drawn<=i->i< w1.drawn->t i q=w.tape i q)->
    stepG P m {frame:=fr,callers:=cs++B,status:= .running,dying:=none} {w with tape:=t}= .go g1 {w1 with tape:=t} es:=by
 have jS:∀(t:Nat->Question->Nat) N,w.heap.size<=N->w1.heap.size<=N->(∀j q,w.drawn+j< w1.drawn->t (w.drawn+j) q=w.tape (w.drawn+j) q)->_:=λt N hN hN2 ht=>
  zM (P:=P) (G:=P.funcs) (B:=B) (D:=B) (A.stat.env (h.js N (gJ L fr)) (ai.jm h.flat)) A.stat.bW (ai.jm h.flat) (h.nR hN _) rfl (h.sync t hN _) m m (h.frame.mono (ai.gF ..)) (h.callers.mono (ai.gF ..)) h.bot
   hlast g1 w1 es e hf hN2 ht
 have hsz:w.heap.size<=w1.heap.size:=by
  obtain⟨_,_,_,_,_,hB⟩:=jS w.tape (max w.heap.size w1.heap.size) (by omega) (by omega) (λ_ _ _=>rfl)
  exact hB.grow
 obtain⟨h1,v1,fs,e2,hG,hB⟩:=jS w.tape w1.heap.size hsz (AI _) (λ_ _ _=>rfl)
 have e2':stepG P m {frame:=fr,callers:=cs++B,status:= .running,dying:=none} w= .go h1 v1 fs:=e2
 rw[e] at e2'
 cases e2'
 obtain⟨cs1,ds1,c1,c2,c3,c4⟩:=hG.callers
 have hcs:cs1=ds1:=ZJ (c1.symm.trans c2)
 subst hcs
 have run1:∀{τ:ai} {a b:Frame},iJ P P.funcs L T τ a b->bM P L T τ a b:=λh=>by
  cases h with
  |run h=>exact h
  |bI h=>exact absurd h A.np
 refine⟨g1.frame,cs1,?_,⟨eW τ w w1.heap.size (gJ L fr),h.yi _ _,run1 hG.frame,c3,c4,h.js _ _,ai.jm h.flat,h.nR hsz _,λr s hx=>hB.sync.held r s hx (h.nR hsz _ r s hx),h.behind hsz hB⟩,hB.sF,hB.draw,λt ht=>?_⟩
 ·obtain⟨a1,a2,a3,a4,a5⟩:=g1
  have s1:=hG.status.1
  have s2:=hG.dying.1
  have s3:=hG.offers.1
  simp only at s1 s2 s3 c1
  subst s1 s2 s3 c1
  rfl
 ·obtain⟨h2,v2,fs2,e3,hG2,hB2⟩:=jS t w1.heap.size hsz (AI _) (λj q hj=>ht _ q (Nat.le_add_right _ _) hj)
  obtain⟨cs2,ds2,d1,d2,d3,d4⟩:=hG2.callers
  have hbx:=(h.js w1.heap.size (gJ L fr)).tofy
  have hdx:=h.yi w1.heap.size (gJ L fr)
  have hg:h2=g1:=by
   have k1:=bM.dg A.bg hbx hdx (run1 hG2.frame)
   have k2:=gX.dg A.bg hbx hdx d3
   have s1:=hG2.status
   have s2:=hG2.dying
   have s3:=hG2.offers
   clear hG2 hG hf e e2 hB hB2 jS
   obtain⟨a1,a2,a3,a4,a5⟩:=g1
   obtain⟨b1,b2,b3,b4,b5⟩:=h2
   simp only at s1 s2 s3 d1 d2 k1
   rw[d1,d2,k1,k2,s1.1,s1.2,s2.1,s2.2,s3.1,s3.2]
  have hw:v2= {w1 with tape:=t}:=by
   have z1:=hB2.size
   have z2:=hB2.drawn
   have z3:=hB2.tape
   have z4:=hB2.os
   have z5:=hB2.output
   have z6:=hB2.vo
   have z7:=hB2.vF
   have hheap:v2.heap=w1.heap:=by
    apply ZU
    intro r
    by_cases hr:r< w1.heap.size
    ·by_cases hu: ∃s,(eW τ w w1.heap.size (gJ L fr)).un r s
     ·obtain⟨s,hu⟩:=hu
      obtain⟨o,q,y1,y2,y3⟩:=hB2.sync.held r s hu hr
      have ers:=hdx r s hu
      subst ers
      rw[y1,y2,KR.dg A.bg hbx hdx y3 hu]
     ·have hlt:r< w.heap.size:=Nat.lt_of_not_le λhle=>hu ⟨r,ai.iM.2 (.inr ⟨r - w.heap.size,by omega,by omega,by omega⟩)⟩
      have un:∀{r s},(eW τ w w1.heap.size (gJ L fr)).mine r s->(eW τ w w1.heap.size (gJ L fr)).un r s:=λhx=>by
       rcases hx with hx|hx|hx
       ·exact .inl (hbx.own _ _ hx)
       ·exact .inr (.inl hx)
       ·exact .inr (.inr hx)
      have y:=hB2.gh r hlt λr' hx=>hu ⟨r,by have:=hdx _ _ (un hx);subst this;exact un hx⟩
      have y':=hB2.mL r hlt λs hx=>hu ⟨s,un hx⟩
      rw[y,y']
    ·have z1':v2.heap.size=w1.heap.size:=by simpa[Zw] using z1
     rw[YA (by omega),YA (by omega)]
   have z2':v2.drawn=w1.drawn:=by simpa[Zw] using z2
   obtain⟨q1,q2,q3,q4,q5⟩:=v2
   obtain⟨p1,p2,p3,p4,p5⟩:=w1
   simp only at hheap z2' z3 z4 z5 z6 z7 ⊢
   rw[hheap,z2',z3,z4,z5,←z6,←z7]
  have hes:fs2=es:=by
   obtain⟨zs,y1,y2,y3⟩:=hB2.events
   rw[y1,y2]
   congr 1
   refine aap λz hz=>?_
   obtain⟨z1,z2⟩:=z
   have un:∀{r s},(eW τ w w1.heap.size (gJ L fr)).mine r s->r=s:=λhx=>hdx _ _ (by
    rcases hx with hx|hx|hx
    ·exact .inl (hbx.own _ _ hx)
    ·exact .inr (.inl hx)
    ·exact .inr (.inr hx))
   have hx:jV (eW τ w w1.heap.size (gJ L fr)) z1 z2:=y3 _ hz
   cases hx with
   |cell h=>rw[AR.dg hdx h]
   |write h=>rw[AR.dg (λ_ _ x=>un x) h]
   |obj h=>rw[hdx _ _ h]
   |set h=>rw[un h]
   |noRoom=>rfl
  rw[←hg,←hw,←hes]
  exact e3
end
end
section
open Go.Conc
section
variable {P:Program} {L:aB} {T:aT} {τ:ai} {F:FuncId->Prop} {fr:Frame} {cs B:List Frame} {w:World}
def Marks(ds:List Deferred):Prop:=∀d∈ds,∃r,d= {target:= .collected r,args:=#[]}
def kO(F:FuncId->Prop)(fr:Frame):Prop:=F fr.fn/\Marks fr.defers
def DE(F:FuncId->Prop)(B:List Frame)(g:Goroutine)(w:World):Prop:=
 ∃fr cs ch,g= {frame:=fr,callers:=cs++B,status:= .running,dying:=none}/\fr.mode= .panicking ch/\kO F fr/\(∀c∈cs,kO F c)/\ig w
def fH(F:FuncId->Prop)(B:List Frame)(s:GStep):Prop:=
 (∃g1 w1 es,s= .go g1 w1 es/\gZ g1)\/(∃o w1 es,s= .ended o w1 es)\/(∃g1 w1 es,s= .go g1 w1 es/\DE F B g1 w1)
theorem fH.after{s:GStep}(h:fH F B s)(es:Array Event):fH F B (GStep.after es s):=by
 rcases h with ⟨g,w,es',rfl,h⟩|⟨o,w,es',rfl⟩|⟨g,w,es',rfl,h⟩
 ·exact .inl ⟨g,w,_,rfl,h⟩
 ·exact .inr (.inl ⟨o,w,_,rfl⟩)
 ·exact .inr (.inr ⟨g,w,_,rfl,h⟩)
theorem Va{xs ys:List Deferred}(h:L2 (jj τ) xs ys):Marks xs:=by
 induction h with
 |nil=>intro d hd;cases hd
 |cons h _ ih=>
  intro d hd
  cases hd with
  |head=>cases h;exact⟨_,rfl⟩
  |tail _ hd=>exact ih d hd
theorem bM.yb{gr:Frame}(h:bM P L T τ fr gr):kO L.fn fr:=⟨h.bW,Va h.defers⟩
theorem Dv{c:bE}{ds:List Frame}(h:gX P L T τ c cs ds):∀c∈cs,kO L.fn c:=by
 induction h with
 |nil=>intro c hc;cases hc
 |cons h _ _ ih=>
  intro c hc
  cases hc with
  |head=>exact h.yb
  |tail _ hc=>exact ih c hc
theorem tT(fr:Frame)(v:Value):(fr.finish v).kind=fr.kind:=by
 unfold Frame.finish
 split<;>rfl
theorem raise_mode(fr:Frame)(vs:List PanicEntry): ∃ch,(fr.raise vs).mode= .panicking ch:=by
 unfold Frame.raise
 split
 ·exact⟨_,rfl⟩
 ·exact⟨_,rfl⟩
theorem BR{fr:Frame}(h:kO F fr)(vs:List PanicEntry):kO F (fr.raise vs):=by
 unfold Frame.raise
 split<;>exact h
theorem BG{fr:Frame}(h:kO F fr)(hc:∀c∈cs,kO F c)(hd:ig w)(vs:List PanicEntry):DE F B {frame:=fr.raise vs,callers:=cs++B,status:= .running,dying:=none} w:=by
 obtain⟨ch,hm⟩:=raise_mode fr vs
 exact⟨fr.raise vs,cs,ch,rfl,hm,BR h vs,hc,hd⟩
theorem bM.rj{gr:Frame}(h:bM P L T τ fr gr):∀c,fr.mode≠.panicking c:=by
 intro c e
 rcases h.run with h|h
 ·rw[h] at e;cases e
 ·rw[h.1] at e;cases e
theorem ez.dW(h:ez P L T τ fr cs w){α:Type}(k:Kd){R:ai->α->α->Prop}{p:Sem α}(hp:∀N,w.heap.size<=N->ae P P.funcs L (CC P L T) (eW τ w N k) k (R (eW τ w N k)) p p):
  (∃a b w1 es,p.runT P w #[]=(.ok a w1,es)/\w.heap.size<=w1.heap.size/\R (eW τ w w1.heap.size k) a b/\(∀r s,(eW τ w w1.heap.size k).un r s->∃o q,w1.heap[r]? =some o/\w1.heap[s]? =some q/\KR L (CC P L T) (eW τ w w1.heap.size k) r s o q)/\ig w1)\/(∃hh w1 es,p.runT P w #[]=(.halt hh w1,es)/\l8 hh/\ig w1):=by
 cases hr:p.runT P w #[] with
 |mk r es=>
  cases r with
  |ok a w1=>
   have hg:=(Sem.qm P _ _ _ hr).1
   obtain⟨b,v1,fs,e1,hR,hB⟩:=(hp w1.heap.size hg).qP (h.js _ _) w {w with tape:=w.tape} #[] #[] a w1 es (h.sync w.tape hg k) hr (AI _) (λ_ _ _=>rfl) (h.nR hg k)
   have e1':p.runT P w #[]=(.ok b v1,fs):=e1
   rw[hr] at e1'
   cases e1'
   exact .inl ⟨a,a,w1,es,rfl,hg,hR,λr s hx=>hB.sync.held r s hx (h.nR hg k r s hx),h.behind hg hB⟩
  |halt hh w1=>
   have hg:=Sem.tn P _ _ _ hr
   obtain⟨h1,h2⟩:=(hp w1.heap.size hg).UX (h.js _ _) w {w with tape:=w.tape} #[] hh w1 es (h.sync w.tape hg k) h.xM hr (AI _) (h.nR hg k)
   exact .inr ⟨hh,w1,es,rfl,h1,h2⟩
theorem G9(A:kX P L T)(fr:Frame)(cs:List Frame)(g:Nat)(w:World): ∃o w1 es,early P fr cs none g w= .ended o w1 es:=by
 have hn:∀g,P.stepOf g=none:=A.stat.bW.te
 unfold early
 simp only[A.stat.bW.ahead,hn]
 exact⟨_,_,_,rfl⟩
theorem ez.vu(A:kX P L T)(h:ez P L T τ fr cs w){k:Kd}{c:bE}{p:Sem Next}(hp:∀N,w.heap.size<=N->ae P P.funcs L (CC P L T) (eW τ w N k) k (da L (CC P L T) (eW τ w N k) T.fl c) p p):
  fH L.fn B (stepG.apply P true fr (cs++B) none p w):=by
 have hke:(fr.kind==CallKind.early)=false:=by rw[h.frame.kind.1];rfl
 have bd:=(AX h.frame.todo).1
 have hmode:=h.frame.rj
 rcases h.dW k (R:=λσ=>da L (CC P L T) σ T.fl c) hp with ⟨a,b,w1,es,hr,_,hR,_,_⟩|⟨hh,w1,es,hr,ht,hd⟩
 ·simp only[stepG.apply,XZ,hr,hke,Yd,Yb]
  refine fH.after ?_ _
  cases hR with
  |value hv=>exact .inl ⟨_,_,_,rfl,rfl,rfl,λc e=>hmode c ((sw _ _).symm.trans e),(tT _ _).trans h.frame.kind.1⟩
  |skip=>exact .inl ⟨_,_,_,rfl,rfl,rfl,λc e=>hmode c ((sw _ _).symm.trans e),(tT _ _).trans h.frame.kind.1⟩
  |enter hf hx=>exact .inl ⟨_,_,_,rfl,rfl,rfl,λc e=>(by cases e),bd⟩
  |round=>exact .inl ⟨_,_,_,rfl,rfl,rfl,λc e=>(by cases e),rfl⟩
 ·cases hh with
  |panic v=>
   simp only[stepG.apply,XZ,hr,hke,Yd,Yb]
   exact fH.after (.inr (.inr ⟨_,_,_,rfl,BG h.frame.yb (Dv h.callers) hd _⟩)) _
  |stuck s=>
   simp only[stepG.apply,XZ,hr,hke,Yd,Yb]
   exact fH.after (.inr (.inl ⟨_,_,_,rfl⟩)) _
  |unsupported u=>
   cases u with
   |initOrder g=>
    obtain⟨o,w2,es2,he⟩:=G9 A fr (cs++B) g w1
    simp only[stepG.apply,XZ,hr,hke,Yd,Yb,he]
    exact fH.after (.inr (.inl ⟨_,_,_,rfl⟩)) _
   |_=>
    simp only[stepG.apply,XZ,hr,hke,Yd,Yb]
    exact fH.after (.inr (.inl ⟨_,_,_,rfl⟩)) _
  |_=>exact ht.elim
theorem ez.D1(h:ez P L T τ fr cs w)(hne:cs≠[]){m:Bool}(v:Value)(w1:World):fH L.fn B (doReturn P m fr (cs++B) none v w1):=by
 have hc:=h.callers
 cases hc with
 |nil=>exact absurd rfl hne
 |cons hc _ _=>
  simp only[YX,doReturn,h.frame.kind.1]
  exact .inl ⟨_,_,_,rfl,rfl,rfl,λx e=>hc.rj x ((sw _ _).symm.trans e),(tT _ _).trans hc.kind.1⟩
end
end
section
open Go.Conc
section
variable {P:Program} {L:aB} {T:aT} {τ:ai} {F:FuncId->Prop} {fr:Frame} {cs B:List Frame} {w:World}
theorem L2.eq{α:Type}{R:α->α->Prop}(hR:∀a b,R a b->a=b){xs ys:List α}(h:L2 R xs ys):xs=ys:=by
 induction h with
 |nil=>rfl
 |cons h _ ih=>rw[hR _ _ h,ih]
theorem ez.x8(A:kX P L T)(h:ez P L T τ fr cs w)(hlast:fr.mode= .returning->fr.defers= []->cs≠[])(m:Bool):
  fH L.fn B (stepG P m {frame:=fr,callers:=cs++B,status:= .running,dying:=none} w):=by
 have hfr:=h.frame
 have K:=A.stat.bW
 have go:∀(k:List Item) (w1:World),fH L.fn B (.go {frame:={fr with todo:=k},callers:=cs++B,status:= .running,dying:=none} w1):=λk w1=>
  .inl ⟨_,_,_,rfl,rfl,rfl,hfr.rj,hfr.kind.1⟩
 rcases hfr.run with hrun|⟨hret,_⟩
 ·have e1:stepG P m {frame:=fr,callers:=cs++B,status:= .running,dying:=none} w=stepG.exec P m true fr (cs++B) none w:=by simp only[stepG,hrun]
  rw[e1]
  have leave:∀(jump:Option Code),(∀c,jump=some c->Jump c)->fH L.fn B (kZ P m fr (cs++B) w jump fr.roundOf):=by
   intro jump hj
   have hr:=hfr.round
   rcases h1:fr.roundOf with _|l
   ·unfold kZ
    by_cases hjm:vg jump=true
    ·simp only[hjm,XZ]
     exact .inl ⟨_,_,_,rfl,rfl,rfl,λc e=>(by cases e),hfr.kind.1⟩
    ·simp only[hjm,Yd,Yb]
     exact .inr (.inl ⟨_,_,_,rfl⟩)
   ·unfold kZ
    rw[h1] at hr
    refine fH.after ?_ _
    rcases h.dW .own (R:=λσ=>CR L σ .any) (p:=Instr.endRound l jump) (λN hN=>DX ((ai.gF ..).lp _ _ hr) hj) with ⟨a,b,w1,es,e,_⟩|⟨hh,w1,es,e,_⟩
    ·rw[e];exact h.D1 (uY h.bot h1) a w1
    ·rw[e];exact .inr (.inl ⟨_,_,_,rfl⟩)
  have ht:=hfr.todo
  generalize ek:fr.todo=k at ht
  cases k with
  |nil=>rw[vn ek];exact leave none (λc hc=>by cases hc)
  |cons it k=>
   cases ht with
   |cons hi hk=>
    cases hi with
    |inBlock id=>simp only[stepG.exec,ek];exact go _ _
    |inLoop hc=>simp only[stepG.exec,ek];exact go _ _
    |beginRound=>
     simp only[stepG.exec,ek]
     refine h.vu A (k:= .own) (c:= .any) λN hN=>?_
     have hr:=hfr.round
     cases h1:fr.roundOf with
     |none=>exact .af _ (ak.bind' (.stuck _))
     |some l=>
      rw[h1] at hr
      exact ae.bind' (AU ((ai.gF ..).lp _ _ hr)) λ_ _ _=> .pure .skip
    |inRangeFunc hl=>simp only[stepG.exec,ek];exact .inr (.inl ⟨_,_,_,rfl⟩)
    |@endRangeFunc lp _ hl=>
     rw[wT ek]
     refine fH.after ?_ _
     rcases h.dW .own (R:=λ_ a b=>a=b/\∀c,a=some c->Jump c) (p:=Instr.endLoop lp) (λN hN=>Ew ((ai.gF ..).lp _ _ hl)) with ⟨a,b,w1,es,e,_⟩|⟨hh,w1,es,e,ht,hd⟩
     ·rw[e];exact go _ _
     ·rw[e]
      cases hh with
      |panic v=>exact .inr (.inr ⟨_,_,_,rfl,BG hfr.yb (Dv h.callers) hd _⟩)
      |_=>exact .inr (.inl ⟨_,_,_,rfl⟩)
    |@inRegion ops todo hops=>
     cases todo with
     |nil=>simp only[stepG.exec,ek];exact go _ _
     |cons i rest=>
      rw[wR ek]
      split
      ·rename_i hw
       have o1:fr.oper? =ops[i]? :=by unfold Frame.oper?;rw[ek]
       cases ho:ops[i]? with
       |none=>rw[ho] at hw;simp at hw
       |some o=>
        have hok:cZ P L T fr.fn (nS L fr.fn o) o.op=true:=ZB.1 hops o (Y0 ho)
        rw[wm (o1.trans ho) hok]
        exact h.vu A λN hN=>BW (A.stat.env (h.js N _) (ai.jm h.flat)) K.pH K.oU (ai.jm h.flat) ⟨λ_=>rfl,λ_=>rfl⟩ (λc x hx=>(hfr.mono (ai.gF ..)).eval K (h.js N _).tofy (ai.jm h.flat) c x hx) o hok
      ·exact .inl ⟨_,_,_,rfl,rfl,rfl,λc e=>hfr.rj c ((sw _ _).symm.trans e),(tT _ _).trans hfr.kind.1⟩
    |@code c hc=>
     cases c with
     |skip=>simp only[stepG.exec,ek];exact go _ _
     |ret=>rw[vX ek];exact leave (some .ret) (λc hc=>by cases hc;exact .inl rfl)
     |seq x y=>simp only[stepG.exec,ek];exact go _ _
     |cond c x y=>
      simp only[stepG.exec,ek]
      split
      ·exact go _ _
      ·exact .inr (.inl ⟨_,_,_,rfl⟩)
     |block id c=>simp only[stepG.exec,ek];exact go _ _
     |loop c=>simp only[stepG.exec,ek];exact go _ _
     |exit id=>
      cases he:exitTo id k with
      |none=>rw[xH ek he];exact leave (some (.exit id)) (λc hc=>by cases hc;exact .inr ⟨_,rfl⟩)
      |some k'=>simp only[stepG.exec,ek,he,Option.elim];exact go _ _
     |region id ops draw=>
      cases draw with
      |false=>rw[vB ek];exact go _ _
      |true=>rw[yg ek];exact go _ _
     |rangeFunc f ps x y=>
      simp only[dN,IT] at hc
      rw[yD ek]
      refine fH.after ?_ _
      rcases h.dW .lp (R:=λσ a b=>σ.lp a.1 b.1/\L2 (jj σ) a.2 b.2) (p:=Instr.enterLoop fr.fn fr.tmps ps x y fr.roundOf) (λN hN=>EA (hfr.mono (ai.gF ..)) ps (λp hp=>by simpa using ZB.1 hc.1.1.2 p hp) hc.1.2 hc.2) with ⟨a,b,w1,es,e,hg,⟨hl,hm⟩,hsy,hrest⟩|⟨hh,w1,es,e,_⟩
      ·rw[e]
       obtain⟨lp,mark⟩:=a
       obtain⟨lq,mark'⟩:=b
       simp only at hl hm
       have hdx:=h.yi w1.heap.size .lp
       have e1:lp=lq:=hdx _ _ (.inr (.inr hl))
       have e2:mark=mark':=hm.eq λa b hx=>by
        cases hx with
        |collected hx=>rw[hdx _ _ (.inr (.inr hx))]
       subst e1 e2
       have h2:ez P L T (eW τ w w1.heap.size .lp) {fr with todo:= .inRangeFunc lp::k,defers:=mark++fr.defers} cs w1:=by
        have hf2:=hfr.mono (ai.gF w.heap.size w.heap.size (w1.heap.size - w.heap.size) .lp)
        have hk2:L2 (fe P L T (eW τ w w1.heap.size .lp) fr.fn) k k:=by
         have:=hf2.todo
         rw[ek] at this
         cases this with
         |cons _ hk=>exact hk
        exact⟨hdx,⟨hf2.fn,hf2.bW,hf2.np,hf2.tmps,.cons (.inRangeFunc hl) hk2,hm.append hf2.defers,hf2.mode,hf2.run,hf2.kind,hf2.round⟩,h.callers.mono (ai.gF ..),h.bot.same rfl,h.js _ _,ai.jm h.flat,h.nR hg _,hsy,hrest⟩
       refine h2.vu A (k:= .own) (c:= .any) λN hN=>?_
       have hf3:=h2.frame.mono (ai.gF w1.heap.size w1.heap.size (N - w1.heap.size) .own)
       have:=FK (P:=P) (G:=P.funcs) (C:=CC P L T) (k₀:= .own) (h2.js N .own).tofy (ai.jm h2.flat) K.pH K.oU (fl:=T.fl) (c:= .any) (yQ _ _) (hf3.eval K (h2.js N .own).tofy (ai.jm h2.flat) .dM f hc.1.1.1) ((ai.gF ..).lp _ _ hl)
       show ae P P.funcs L (CC P L T) _ .own (da L (CC P L T) _ T.fl .any)
        (do let d ←Deferred.ofValue (({fr with todo:= .inRangeFunc lp::k,defers:=mark++fr.defers}:Frame).eval f) ((#[.const (.func (.yield lp) #[] #[])]:Array Operand).map ({fr with todo:= .inRangeFunc lp::k,defers:=mark++fr.defers}:Frame).eval);invoke d.target d.args)
        (do let d ←Deferred.ofValue (({fr with todo:= .inRangeFunc lp::k,defers:=mark++fr.defers}:Frame).eval f) ((#[.const (.func (.yield lp) #[] #[])]:Array Operand).map ({fr with todo:= .inRangeFunc lp::k,defers:=mark++fr.defers}:Frame).eval);invoke d.target d.args)
       rw[rM]
       exact this
      ·rw[e];exact .inr (.inl ⟨_,_,_,rfl⟩)
     |refuse y=>simp only[stepG.exec,ek];exact .inr (.inl ⟨_,_,_,rfl⟩)
     |_=>cases hc
 ·have e1:stepG P m {frame:=fr,callers:=cs++B,status:= .running,dying:=none} w=unwind P m fr (cs++B) none w:=by simp only[stepG,hret]
  rw[e1]
  have hdf:=hfr.defers
  generalize ek:fr.defers=k at hdf
  cases k with
  |nil=>
   obtain⟨fn,c,h1,_,h2,_,hres⟩:=K.body fr.fn hfr.bW hfr.np
   rw[oV ek hret h1]
   refine fH.after ?_ _
   rcases h.dW .own (R:=λσ=>CR L σ (L.res fr.fn)) (p:=results fn fr.tmps) (λN hN=>yA (h.js N _).tofy (ai.jm h.flat) fn hres (hfr.mono (ai.gF ..)).tmps) with ⟨a,b,w1,es,e,_⟩|⟨hh,w1,es,e,_⟩
   ·rw[e];exact h.D1 (hlast hret ek) a w1
   ·rw[e];cases hh<;>exact .inr (.inl ⟨_,_,_,rfl⟩)
  |cons d ks=>
   cases hdf with
   |cons hi _=>
    cases hi with
    |@collected r s hrs=>
     rw[unwind_mark ek]
     refine fH.after ?_ _
     rcases h.dW .own (R:=λ_ a b=>a= []/\b= []) (p:=Instr.takeDeferred r) (λN hN=>BU ((ai.gF ..).lp _ _ hrs)) with ⟨a,b,w1,es,e,_⟩|⟨hh,w1,es,e,_⟩
     ·rw[e];exact .inl ⟨_,_,_,rfl,rfl,rfl,hfr.rj,hfr.kind.1⟩
     ·rw[e];exact .inr (.inl ⟨_,_,_,rfl⟩)
theorem Gq(r:Nat)(w:World)(hd:ig w):(∃w1 es,(Instr.takeDeferred r).runT P w #[]=(.ok [] w1,es)/\ig w1)\/(∃hh w1 es,(Instr.takeDeferred r).runT P w #[]=(.halt hh w1,es)):=by
 have e:∀o,w.heap[r]? =some o->(∀c el f,o≠.cells c el f)->(Instr.takeDeferred r).runT P w #[]=
   ((match o with| .deferred (some ds)=>(do setObj r (.deferred none);pure ds:Sem (List Deferred))|_=>stuck "range over a function: the deferred calls have been taken")).runT P w (#[].push ⟨.obj r,false,o.isChan⟩):=by
  intro o ho hne
  unfold Instr.takeDeferred
  show (Sem.getObj r _).runT P w #[]=_
  rw[Sem.runT,ho]
  cases o with
  |cells c el f=>exact absurd rfl (hne _ _ _)
  |deferred d=>cases d<;>rfl
  |_=>rfl
 cases ho:w.heap[r]? with
 |none=>
  refine .inr ⟨.stuck "getObj: no such block",w,#[],?_⟩
  unfold Instr.takeDeferred
  show (Sem.getObj r _).runT P w #[]=_
  rw[Sem.runT,ho]
 |some o=>
  cases o with
  |cells c el f=>
   refine .inr ⟨.stuck "getObj: a row of cells",w,#[],?_⟩
   unfold Instr.takeDeferred
   show (Sem.getObj r _).runT P w #[]=_
   rw[Sem.runT,ho]
  |deferred d=>
   rw[e _ ho (by simp)]
   rcases hd r d ho with rfl|rfl
   ·exact .inr ⟨_,_,_,rfl⟩
   ·refine .inl ⟨{w with heap:=w.heap.setIfInBounds r (.deferred none)},(#[].push ⟨.obj r,false,false⟩).push ⟨.obj r,true,false⟩,?_,?_⟩
    ·show (Sem.setObj r (.deferred none) _).runT P w _=_
     rw[Sem.runT,ho]
     rfl
    ·intro r' d' hd'
     rw[nY] at hd'
     exact hd.modify (r:=r) (f:=λ_=> .deferred none) (λ_ _ _ e=>by cases e;exact .inl rfl) r' d' hd'
  |_=>rw[e _ ho (by simp)];exact .inr ⟨_,_,_,rfl⟩
theorem panics(A:kX P L T):∀(n:Nat) (fr:Frame) (cs:List Frame) (w:World) (ch:List PanicEntry),fr.mode= .panicking ch->kO L.fn fr->(∀c∈cs,kO L.fn c)->ig w->
  ∀mm,runN P n (lone fr (cs++ [wall]) w)= .next mm->∃g,mm.gs[0]? =some g/\∃ch,g.frame.mode= .panicking ch
 |0,fr,cs,w,ch,hm,_,_,_,mm,e=>by
  simp only[runN,Stepped.next.injEq] at e
  subst e
  exact⟨_,rfl,ch,hm⟩
 |n+1,fr,cs,w,ch,hm,hf,hc,hd,mm,e=>by
  have e1:stepG P true {frame:=fr,callers:=cs++ [wall],status:= .running,dying:=none} w=unwind P true fr (cs++ [wall]) none w:=by simp only[stepG,hm]
  obtain⟨fn,c,h1,_⟩:=A.stat.bW.body fr.fn hf.1 (λe=>A.np (e ▸ hf.1))
  have hcat:fr.catches P=false:=by simp only[Frame.catches,h1]
  cases hdf:fr.defers with
  |cons d ks=>
   obtain⟨r,rfl⟩:=hf.2 d (by rw[hdf];simp)
   rw[unwind_mark hdf] at e1
   rcases Gq (P:=P) r w hd with ⟨w1,es,ht,hd1⟩|⟨hh,w1,es,ht⟩
   ·rw[ht] at e1
    have hst:step P (lone fr (cs++ [wall]) w)= .next (lone {fr with defers:=ks} (cs++ [wall]) w1):=step_lone_go (by rw[e1];rfl)
    simp only[runN,hst] at e
    exact panics A n {fr with defers:=ks} cs w1 ch hm ⟨hf.1,λd hd=>hf.2 d (by rw[hdf];exact aak _ hd)⟩ hc hd1 mm e
   ·rw[ht] at e1
    have hst: ∃o,step P (lone fr (cs++ [wall]) w)= .ended o w1:=⟨_,step_lone_ended (by rw[e1];rfl)⟩
    obtain⟨o,hst⟩:=hst
    simp only[runN,hst] at e
    cases e
  |nil=>
   cases cs with
   |cons c cs=>
    have e2:unwind P true fr ((c::cs)++ [wall]) none w= .go {frame:=c.raise ch,callers:=cs++ [wall],status:= .running,dying:=none} w:=by
     simp only[unwind,hdf,hm,hcat,Yd,Yb,YX]
    have hst:step P (lone fr ((c::cs)++ [wall]) w)= .next (lone (c.raise ch) (cs++ [wall]) w):=step_lone_go (by rw[e1,e2];rfl)
    simp only[runN,hst] at e
    obtain⟨ch',hm'⟩:=raise_mode c ch
    exact panics A n (c.raise ch) cs w ch' hm' (BR (hc c (by simp)) _) (λx hx=>hc x (aak _ hx)) hd mm e
   |nil=>
    have e2:unwind P true fr ([]++ [wall]) none w= .go {frame:=wall.raise ch,callers:=[],status:= .running,dying:=none} w:=by
     simp only[unwind,hdf,hm,hcat,Yd,Yb,Z9]
    have hst:step P (lone fr ([]++ [wall]) w)= .next (lone (wall.raise ch) [] w):=step_lone_go (by rw[e1,e2];rfl)
    simp only[runN,hst] at e
    obtain⟨ch',hm'⟩:=raise_mode wall ch
    cases n with
    |zero=>
     simp only[runN,Stepped.next.injEq] at e
     subst e
     exact⟨_,rfl,ch',hm'⟩
    |succ n=>
     have hst2: ∃o,step P (lone (wall.raise ch) [] w)= .ended o w:=by
      have hdw:(wall.raise ch).defers= [{target:= .nil,args:=#[]}]:=rfl
      refine⟨.unsupported (.noEntry "machine/Return: a deferred call of a nil function value, made while the frame is unwinding") ((wall.raise ch).pos P),step_lone_ended ?_⟩
      simp only[stepG,hm',unwind,hdw,callDeferred]
      rfl
     obtain⟨o,hst2⟩:=hst2
     simp only[runN,hst2] at e
     cases e
end
end
section
open Go.Conc
section
variable {P:Program} {L:aB} {T:aT}
theorem kh.tape{fr:Frame}{cs:List Frame}{w:World}(h:kh P L T fr cs w)(t:Nat->Question->Nat):kh P L T fr cs {w with tape:=t}:=by
 obtain⟨τ,h⟩:=h
 exact⟨τ,h.dg,h.frame,h.callers,h.bot,h.fit,h.flat,h.cf,h.obj,h.xM⟩
theorem kh.step(A:kX P L T){fr:Frame}{cs B:List Frame}{w:World}(h:kh P L T fr cs w)(hlast:fr.mode= .returning->fr.defers= []->cs≠[]){m:Bool}{g1:Goroutine}{w1:World}{es:Array Event}(e:stepG P m {frame:=fr,callers:=cs++B,status:= .running,dying:=none} w= .go g1 w1 es)(hf:gZ g1):
  ∃fr1 cs1,g1= {frame:=fr1,callers:=cs1++B,status:= .running,dying:=none}/\kh P L T fr1 cs1 w1/\w1.tape=w.tape/\w.drawn<=w1.drawn/\
   ∀t:Nat->Question->Nat,(∀i q,w.drawn<=i->i< w1.drawn->t i q=w.tape i q)->
    stepG P m {frame:=fr,callers:=cs++B,status:= .running,dying:=none} {w with tape:=t}= .go g1 {w1 with tape:=t} es:=by
 obtain⟨τ,h⟩:=h
 exact h.step A hlast e hf
theorem kh.x8(A:kX P L T){fr:Frame}{cs B:List Frame}{w:World}(h:kh P L T fr cs w)(hlast:fr.mode= .returning->fr.defers= []->cs≠[])(m:Bool):
  fH L.fn B (stepG P m {frame:=fr,callers:=cs++B,status:= .running,dying:=none} w):=by
 obtain⟨τ,h⟩:=h
 exact h.x8 A hlast m
theorem pA(P:Program)(k:Nat)(m:Machine):runN P (k+1) m=match runN P k m with| .next m'=>step P m'|e=>e:=by
 rw[runN_add]
 cases runN P k m with
 |next m'=>
  simp only[runN]
  cases step P m'<;>rfl
 |ended o w=>rfl
theorem vI{P:Program}{a b:Nat}{m:Machine}{o:Outcome}{w:World}(h:runN P a m= .ended o w)(hab:a<=b):runN P b m= .ended o w:=by
 rw[show b=a+(b - a) by omega,runN_add,h]
structure St where
 fr:Frame
 cs:List Frame
 w:World
theorem VU(A:kX P L T){Goal:Frame->List Frame->World->Prop}(hgt:∀fr cs w t,Goal fr cs w->Goal fr cs {w with tape:=t}){fr0:Frame}{cs0:List Frame}{wb:World}(h0:kh P L T fr0 cs0 wb)(hrun:∀t:Nat->Question->Nat,∃n fr cs w,runN P n (lone fr0 (cs0++ [wall]) {wb with tape:=t})= .next (lone fr (cs++ [wall]) w)/\fr.mode= .returning/\Goal fr cs w):Safe P Goal fr0 cs0 wb:=by
 classical
 refine Zn λhno=>?_
 let Bad:St->Prop:=λs=>kh P L T s.fr s.cs s.w/\¬ Safe P Goal s.fr s.cs s.w
 have hng:∀s,Bad s->¬ Goal s.fr s.cs s.w:=λs hs hg=>hs.2 (.goal hg)
 let Last:St->Prop:=λs=>s.fr.mode= .returning/\s.fr.defers= []/\s.cs= []
 have htape:∀s,Bad s->∃t:Nat->Question->Nat,Last s\/¬ ∃fr1 cs1 w1 es,stepG P true {frame:=s.fr,callers:=s.cs++ [wall],status:= .running,dying:=none} {s.w with tape:=t}= .go {frame:=fr1,callers:=cs1++ [wall],status:= .running,dying:=none} w1 es/\gZ {frame:=fr1,callers:=cs1++ [wall],status:= .running,dying:=none}/\Safe P Goal fr1 cs1 w1:=λs hs=>by
  by_cases hl:Last s
  ·exact⟨λ_ _=>0,.inl hl⟩
  ·refine Zn λhx=>hs.2 ?_
   have hall:∀t:Nat->Question->Nat,∃fr1 cs1 w1 es,stepG P true {frame:=s.fr,callers:=s.cs++ [wall],status:= .running,dying:=none} {s.w with tape:=t}= .go {frame:=fr1,callers:=cs1++ [wall],status:= .running,dying:=none} w1 es/\gZ {frame:=fr1,callers:=cs1++ [wall],status:= .running,dying:=none}/\Safe P Goal fr1 cs1 w1:=λt=>Zn λhy=>hx ⟨t,.inr hy⟩
   exact .step (λt=>(hall t).choose) (λt=>(hall t).choose_spec.choose) (λt=>(hall t).choose_spec.choose_spec.choose) (λt=>(hall t).choose_spec.choose_spec.choose_spec.choose) (hng s hs) hl
    (λt=>(hall t).choose_spec.choose_spec.choose_spec.choose_spec.1) (λt=>(hall t).choose_spec.choose_spec.choose_spec.choose_spec.2.1) (λt=>(hall t).choose_spec.choose_spec.choose_spec.choose_spec.2.2)
 let tp:St->Nat->Question->Nat:=λs=>if h:Bad s then (htape s h).choose else λ_ _=>0
 have htp:∀s,Bad s->Last s\/¬ ∃fr1 cs1 w1 es,stepG P true {frame:=s.fr,callers:=s.cs++ [wall],status:= .running,dying:=none} {s.w with tape:=tp s}= .go {frame:=fr1,callers:=cs1++ [wall],status:= .running,dying:=none} w1 es/\gZ {frame:=fr1,callers:=cs1++ [wall],status:= .running,dying:=none}/\Safe P Goal fr1 cs1 w1:=λs hs=>by
  have:=(htape s hs).choose_spec
  simp only[tp,hs,dif_pos]
  exact this
 let Nx:St->St->Prop:=λs s1=>¬ Last s/\∃es,stepG P true {frame:=s.fr,callers:=s.cs++ [wall],status:= .running,dying:=none} {s.w with tape:=tp s}= .go {frame:=s1.fr,callers:=s1.cs++ [wall],status:= .running,dying:=none} s1.w es/\gZ {frame:=s1.fr,callers:=s1.cs++ [wall],status:= .running,dying:=none}
 have hlast:∀s,¬ Last s->(s.fr.mode= .returning->s.fr.defers= []->s.cs≠[]):=λs hs h1 h2 h3=>hs ⟨h1,h2,h3⟩
 have hnx:∀s s1,Bad s->Nx s s1->Bad s1/\s.w.drawn<=s1.w.drawn:=λs s1 hs hn=>by
  obtain⟨hnl,es,e,hf⟩:=hn
  obtain⟨fr1,cs1,g1,hok,_,hdr,_⟩:=(hs.1.tape (tp s)).step A (hlast s hnl) e hf
  simp only[Goroutine.mk.injEq] at g1
  obtain⟨g2,g3,_⟩:=g1
  have g4:=ZJ g3
  subst g2 g4
  exact⟨⟨hok,λhsafe=>(htp s hs).elim hnl λhx=>hx ⟨_,_,_,es,e,hf,hsafe⟩⟩,hdr⟩
 let nxt:Option St->Option St:=λo=>o.bind λs=>if h: ∃s1,Nx s s1 then some h.choose else none
 let ch:Nat->Option St:=λk=>Nat.rec (some ⟨fr0,cs0,wb⟩) (λ_ o=>nxt o) k
 have ch0:ch 0=some ⟨fr0,cs0,wb⟩:=rfl
 have chS:∀k,ch (k+1)=nxt (ch k):=λ_=>rfl
 have hbad:∀k s,ch k=some s->Bad s:=by
  intro k
  induction k with
  |zero=>intro s hs;rw[ch0] at hs;cases hs;exact⟨h0,hno⟩
  |succ k ih=>
   intro s hs
   rw[chS] at hs
   simp only[nxt] at hs
   cases hk:ch k with
   |none=>rw[hk] at hs;cases hs
   |some s'=>
    rw[hk] at hs
    simp only[ZV] at hs
    split at hs
    ·rename_i hx
     cases hs
     exact (hnx s' _ (ih s' hk) hx.choose_spec).1
    ·cases hs
 have hstep:∀k s s1,ch k=some s->ch (k+1)=some s1->Nx s s1:=by
  intro k s s1 hs hs1
  rw[chS,hs] at hs1
  simp only[nxt,ZV] at hs1
  split at hs1
  ·rename_i hx
   cases hs1
   exact hx.choose_spec
  ·cases hs1
 have hstop:∀k s,ch k=some s->ch (k+1)=none->¬ ∃s1,Nx s s1:=by
  intro k s hs hs1 hx
  rw[chS,hs] at hs1
  simp only[nxt,ZV,hx,dif_pos] at hs1
  cases hs1
 have hmono:∀k d s s1,ch k=some s->ch (k+d)=some s1->s.w.drawn<=s1.w.drawn:=by
  intro k d
  induction d with
  |zero=>intro s s1 hs hs1;rw[Nat.add_zero,hs] at hs1;cases hs1;exact AI _
  |succ d ih=>
   intro s s1 hs hs1
   cases hd:ch (k+d) with
   |none=>
    have e:ch (k+(d+1))=nxt (ch (k+d)):=chS (k+d)
    rw[e,hd] at hs1
    cases hs1
   |some s'=>exact X0 (ih s s' hs hd) (hnx s' s1 (hbad _ _ hd) (hstep _ _ _ hd hs1)).2
 let On:Nat->St->Nat->Prop:=λi s k=>ch k=some s/\s.w.drawn<=i/\∀s1,ch (k+1)=some s1->i< s1.w.drawn
 let Tp:Nat->Question->Nat:=λi q=>if h: ∃s k,On i s k then tp h.choose i q else 0
 have hT:∀i q s k,On i s k->Tp i q=tp s i q:=by
  intro i q s k hon
  have hx: ∃s k,On i s k:=⟨s,k,hon⟩
  simp only[Tp,hx,dif_pos]
  have hsp:=hx.choose_spec
  obtain⟨k',hon'⟩:=hsp
  have heq:hx.choose=s:=by
   rcases Nat.lt_trichotomy k k' with hlt|heq|hgt'
   ·exfalso
    cases hs1:ch (k+1) with
    |none=>
     have hall:∀d,ch (k+1+d)=none:=by
      intro d
      induction d with
      |zero=>exact hs1
      |succ d ih=>show nxt (ch (k+1+d))=none;rw[ih];rfl
     have:=hall (k' - (k+1))
     rw[show k+1+(k' - (k+1))=k' by omega,hon'.1] at this
     cases this
    |some s1=>
     have h1:=hon.2.2 s1 hs1
     have h2:=hmono (k+1) (k' - (k+1)) s1 hx.choose hs1 (by rw[show k+1+(k' - (k+1))=k' by omega];exact hon'.1)
     have h3:=hon'.2.1
     omega
   ·subst heq
    have:=hon'.1
    rw[hon.1] at this
    exact (YG this).symm
   ·exfalso
    cases hs1:ch (k'+1) with
    |none=>
     have hall:∀d,ch (k'+1+d)=none:=by
      intro d
      induction d with
      |zero=>exact hs1
      |succ d ih=>show nxt (ch (k'+1+d))=none;rw[ih];rfl
     have:=hall (k - (k'+1))
     rw[show k'+1+(k - (k'+1))=k by omega,hon.1] at this
     cases this
    |some s1=>
     have h1:=hon'.2.2 s1 hs1
     have h2:=hmono (k'+1) (k - (k'+1)) s1 s hs1 (by rw[show k'+1+(k - (k'+1))=k by omega];exact hon.1)
     have h3:=hon.2.1
     omega
  rw[heq]
 have hfollow:∀k s,ch k=some s->runN P k (lone fr0 (cs0++ [wall]) {wb with tape:=Tp})= .next (lone s.fr (s.cs++ [wall]) {s.w with tape:=Tp}):=by
  intro k
  induction k with
  |zero=>intro s hs;rw[ch0] at hs;cases hs;rfl
  |succ k ih=>
   intro s1 hs1
   cases hk:ch k with
   |none=>rw[chS,hk] at hs1;cases hs1
   |some s=>
    have hn:=hstep k s s1 hk hs1
    obtain⟨hnl,es,e,hf⟩:=hn
    have hb:=hbad k s hk
    obtain⟨fr1,cs1,g1,hok,htp',hdr,hcong⟩:=(hb.1.tape (tp s)).step A (hlast s hnl) e hf
    have hc:=hcong Tp (λi q hi1 hi2=>hT i q s k ⟨hk,hi1,λs2 hs2=>by rw[hs1] at hs2;cases hs2;exact hi2⟩)
    have hst:step P (lone s.fr (s.cs++ [wall]) {s.w with tape:=Tp})= .next (lone s1.fr (s1.cs++ [wall]) {s1.w with tape:=Tp}):=step_lone_go (by
     have hc':stepG P true {frame:=s.fr,callers:=s.cs++ [wall],status:= .running,dying:=none} {s.w with tape:=Tp}=_:=hc
     rw[hc'];rfl)
    rw[pA,ih s hk]
    exact hst
 obtain⟨n,fr,cs,w,hn,hmode,hg⟩:=hrun Tp
 cases hcn:ch n with
 |some s=>
  have:=hfollow n s hcn
  rw[hn] at this
  simp only[lone,Stepped.next.injEq,Machine.mk.injEq,Array.mk.injEq,Zm,Goroutine.mk.injEq,Y1] at this
  obtain⟨hw,hfr,hcs⟩:=this
  have hcs':=ZJ hcs
  subst hfr hcs' hw
  have:=hgt _ _ _ s.w.tape hg
  exact hng s (hbad n s hcn) this
 |none=>
  have hex: ∃k s,k< n/\ch k=some s/\ch (k+1)=none:=by
   have:∀m,ch m=none->∃k s,k< m/\ch k=some s/\ch (k+1)=none:=by
    intro m
    induction m with
    |zero=>intro h;rw[ch0] at h;cases h
    |succ m ih=>
     intro h
     cases hm:ch m with
     |none=>obtain⟨k,s,h1,h2⟩:=ih hm;exact⟨k,s,by omega,h2⟩
     |some s=>exact⟨m,s,by omega,hm,h⟩
   exact this n hcn
  obtain⟨k,s,bd,hk,hk1⟩:=hex
  have hb:=hbad k s hk
  have hstp:=hstop k s hk hk1
  have hfk:=hfollow k s hk
  have hTs:∀i q,s.w.drawn<=i->Tp i q=tp s i q:=λi q hi=>hT i q s k ⟨hk,hi,λs2 hs2=>by rw[hk1] at hs2;cases hs2⟩
  have hokT:=hb.1.tape Tp
  by_cases hL:Last s
  case neg=>
   have hlst:=hlast s hL
   rcases hokT.x8 A (B:=[wall]) hlst true with ⟨g1,w1,es,e,hf⟩|⟨o,w1,es,e⟩|⟨g1,w1,es,e,hp⟩
   ·
    obtain⟨fr1,cs1,rfl,hok1,htt,hdr,hcong⟩:=hokT.step A hlst e hf
    have hc:=hcong (tp s) (λi q hi1 _=>(hTs i q hi1).symm)
    exact hstp ⟨⟨fr1,cs1,{w1 with tape:=tp s}⟩,hL,es,hc,hf⟩
   ·have hst:step P (lone s.fr (s.cs++ [wall]) {s.w with tape:=Tp})= .ended o w1:=step_lone_ended (by rw[e];rfl)
    have hend:runN P (k+1) (lone fr0 (cs0++ [wall]) {wb with tape:=Tp})= .ended o w1:=by rw[pA,hfk];exact hst
    have:=vI hend (show k+1<=n by omega)
    rw[hn] at this
    cases this
   ·obtain⟨fr1,cs1,ch1,rfl,hm1,hf1,hc1,hd1⟩:=hp
    have hst:step P (lone s.fr (s.cs++ [wall]) {s.w with tape:=Tp})= .next (lone fr1 (cs1++ [wall]) w1):=step_lone_go (by rw[e];rfl)
    have hrun2:runN P (k+1) (lone fr0 (cs0++ [wall]) {wb with tape:=Tp})= .next (lone fr1 (cs1++ [wall]) w1):=by rw[pA,hfk];exact hst
    have hn':=hn
    rw[show n=(k+1)+(n - (k+1)) by omega,runN_add,hrun2] at hn'
    obtain⟨g,hg1,ch2,hg2⟩:=panics A _ fr1 cs1 w1 ch1 hm1 hf1 hc1 hd1 _ hn'
    simp only[lone] at hg1
    cases hg1
    have hg3:fr.mode= .panicking ch2:=hg2
    rw[hmode] at hg3
    cases hg3
  case pos=>
   obtain⟨l1,l2,l3⟩:=hL
   obtain⟨τ,hbt⟩:=hb.1
   obtain⟨fn,c,f1,f2,_⟩:=A.stat.bW.body s.fr.fn hbt.frame.bW hbt.frame.np
   have e1:stepG P true {frame:=s.fr,callers:=s.cs++ [wall],status:= .running,dying:=none} {s.w with tape:=Tp}=unwind P true s.fr (s.cs++ [wall]) none {s.w with tape:=Tp}:=by simp only[stepG,l1]
   rw[oV l2 l1 f1] at e1
   have hwall:∀(o:Outcome) (x:World),runN P (k+1) (lone fr0 (cs0++ [wall]) {wb with tape:=Tp})= .ended o x->False:=λo x hx=>by
    have:=vI hx (show k+1<=n by omega)
    rw[hn] at this
    cases this
   cases hr:(results fn s.fr.tmps).runT P {s.w with tape:=Tp} #[] with
   |mk r es=>
    rw[hr] at e1
    cases r with
    |halt hh w1=>
     have hst: ∃o,step P (lone s.fr (s.cs++ [wall]) {s.w with tape:=Tp})= .ended o w1:=by
      cases hh<;>exact⟨_,step_lone_ended (by rw[e1];rfl)⟩
     obtain⟨o,hst⟩:=hst
     exact hwall o w1 (by rw[pA,hfk];exact hst)
    |ok v w1=>
     have hdr:doReturn P true s.fr (s.cs++ [wall]) none v w1= .go {frame:=wall,callers:=[],status:= .running,dying:=none} w1:=by
      rw[l3]
      simp only[Z9,doReturn,hbt.frame.kind.1]
      rfl
     have hst:step P (lone s.fr (s.cs++ [wall]) {s.w with tape:=Tp})= .next (lone wall [] w1):=step_lone_go (by
      rw[e1]
      simp only[oK,hdr]
      rfl)
     have h1:runN P (k+1) (lone fr0 (cs0++ [wall]) {wb with tape:=Tp})= .next (lone wall [] w1):=by rw[pA,hfk];exact hst
     have hst2: ∃o,step P (lone wall [] w1)= .ended o w1:=⟨_,step_lone_ended (by simp only[stepG,wall,stepG.exec];rfl)⟩
     obtain⟨o,hst2⟩:=hst2
     by_cases hnk:n=k+1
     ·rw[hnk,h1] at hn
      simp only[lone,Stepped.next.injEq,Machine.mk.injEq,Array.mk.injEq,Zm,Goroutine.mk.injEq,Y1] at hn
      obtain⟨_,_,hcs⟩:=hn
      simp at hcs
     ·have h2:runN P (k+2) (lone fr0 (cs0++ [wall]) {wb with tape:=Tp})= .ended o w1:=by rw[pA,h1];exact hst2
      have:=vI h2 (show k+2<=n by omega)
      rw[hn] at this
      cases this
theorem US(A:kX P L T){f:FuncId}{args:Array Value}{w0:World}(h0:kh P L T (Frame.enter P f args .normal) [] w0){Φ:Value->World->Prop}(hΦ:∀v w (t:Nat->Question->Nat),Φ v w->Φ v {w with tape:=t})(hc:∀t:Nat->Question->Nat,Calls P f args {w0 with tape:=t} λe w'=>∃v,e= .returned v/\Φ v w'):
  Safe P (vc P f Φ) (Frame.enter P f args .normal) [] w0:=by
 refine VU A (cs0:=[]) ?_ h0 ?_
 ·rintro fr cs w t ⟨h1,h2,h3,h4,fn,v,h5,⟨t',h6⟩,h7⟩
  exact⟨h1,h2,h3,h4,fn,v,h5,⟨t',h6⟩,hΦ v w t h7⟩
 ·intro t
  obtain⟨e,w',fr,⟨v,rfl,hφ⟩,⟨n,hn⟩,hfn,hm,hd,hk,fn,hfn2,hres⟩:=hc t [wall]
  refine⟨n,fr,[],w',hn,hm,rfl,hfn,hm,hd,fn,v,hfn ▸ hfn2,⟨w'.tape,hres⟩,hφ⟩
end
end
set_option maxRecDepth 100000
def nz:aT:={dR with bI:=0}
abbrev iE:aB:=cG jl
def tC(Q:Program)(f:Nat)(fn:Func):Bool:=match fn.body with|some c=>dN Q iE nz f c && ll iE nz f fn|none=>false
theorem SH:(pE.all λf=>f==fQ||(Tryz.prog.funcs[f]?).all (tC Qg f))=true:=by kernel_rfl
theorem Vr:tC Qg fQ nJ=true:=by kernel_rfl
theorem Ke(f:Nat)(hf:iE.fn f): ∃fn c,Gg[f]? =some fn/\fn.body=some c/\dN Qg iE nz f c=true/\ll iE nz f fn=true:=by
 have un:∀fn,tC Qg f fn=true->∃c,fn.body=some c/\dN Qg iE nz f c=true/\ll iE nz f fn=true:=λfn h=>by
  unfold tC at h
  split at h
  ·rename_i c hc
   simp only[IT] at h
   exact⟨c,hc,h⟩
  ·cases h
 by_cases hn:f=fQ
 ·subst hn
  obtain⟨c,h⟩:=un _ Vr
  exact⟨nJ,c,Dx,h⟩
 ·have hm:f∈pE:=by simpa[cG,dR] using hf
  have:=YY.1 SH f hm
  simp only[YF,ZC] at this
  have:=this.resolve_left hn
  obtain⟨fn,_,h1,h2,_⟩:=vH (J:=jl) f hf hn
  rw[h1] at this
  obtain⟨c,h⟩:=un fn this
  exact⟨fn,c,h2,h⟩
theorem Fj:Let Qg Qg.funcs iE nz:=by
 refine⟨λf hf _=>?_,λf hf=>?_,⟨lF.fb,lF.cb,lF.ib,lF.lb,lF.fB,lF.loc,lF.ar,lF.dM⟩,vE,vf⟩
 ·obtain⟨fn,c,h1,h2,h3,h4⟩:=Ke f hf
  exact⟨fn,c,h1,h1,h2,h3,h4⟩
 ·have:=(wX.plain f hf).2
  exact⟨this,this⟩
theorem FH:kX Qg iE nz:=⟨⟨tS,(p8 iE).1,(p8 iE).2,Fj⟩,rfl,λh=>by
 have:pE.contains 0=true:=h
 exact absurd this (by decide)⟩
def bare(K:List Nat)(W:World):World:={W with heap:=W.heap.mapIdx λi o=>if K.contains i then o else .cells #[] 0}
theorem uy(K:List Nat)(W:World):(bare K W).heap.size=W.heap.size:=by simp[bare]
theorem nO{K:List Nat}{W:World}{b:Nat}(h:b∈K):(bare K W).heap[b]? =W.heap[b]? :=by
 unfold bare
 simp only[Array.getElem?_mapIdx]
 cases hx:W.heap[b]? with
 |none=>rfl
 |some o=>simp[h]
theorem Nr{K:List Nat}{W:World}{b:Nat}(h:b∉K){o:Obj}(ho:(bare K W).heap[b]? =some o):o= .cells #[] 0:=by
 unfold bare at ho
 simp only[Array.getElem?_mapIdx] at ho
 cases hx:W.heap[b]? with
 |none=>rw[hx] at ho;cases ho
 |some q=>rw[hx] at ho;simpa[h] using ho.symm
def Fa(W:World)(b:Nat):Prop:=∃c e f,W.heap[b]? =some (.cells c e f)/\∀x∈c,∀π,VR iE π x x
def oZ(K:List Nat)(W:World)(v:Value):Prop:=qR 8 v=true\/∃a n c,v= .slice (some a) n c/\a.block∈K/\a.block< W.heap.size
def kr(K:List Nat)(W:World):ai:=⟨λr s=>r=s/\r∈K/\r< W.heap.size,λr s=>r=s/\r∈K/\r< W.heap.size,λ_ _=>False,λ_ _=>False⟩
theorem kS{K:List Nat}{W:World}{r s:Nat}:(kr K W).un r s↔r=s/\r∈K/\r< W.heap.size:=by simp[ai.un,kr]
theorem ze(K:List Nat)(W:World):Fit (kr K W):=
 {own:=λ_ _ h=>h
  two:=λ_ _ _ _ h=>h.elim
  mU:=λ_ _ _ _ h=>h.elim
  mw:=λ_ _ _ h=>h.elim
  fn:=λr s t h k=>by rw[←(kS.1 h).1,←(kS.1 k).1]
  inj:=λr s t h k=>by rw[(kS.1 h).1,(kS.1 k).1]}
theorem E4{K:List Nat}{W:World}(h0:0∈K)(hs:0< W.heap.size){T:aT}(hn:T.ng=1):Flat T (kr K W):=by
 refine⟨λ_ _ _ h=>h,λg hg=>?_⟩
 rw[hn] at hg
 obtain rfl:g=0:=by omega
 exact⟨rfl,h0,hs⟩
theorem Uv{L:aB}{K:List Nat}{W:World}{v:Value}(h:oZ K W v):VR L (kr K W).all v v:=by
 rcases h with h|⟨a,n,c,rfl,h1,h2⟩
 ·exact tj 8 v h
 ·exact .slice n c ⟨⟨rfl,h1,h2⟩,rfl,rfl⟩
theorem AH{L:aB}{K:List Nat}{W:World}{f:FuncId}(hcol:∀i,L.cM f i= .any){args:Array Value}(ha:∀v∈args,oZ K W v):TR L (kr K W) f args args:=
 ⟨rfl,λi x y hx hy=>by
  rw[hx] at hy
  cases hy
  rw[hcol i]
  exact Uv (ha x (Y0 hx))⟩
theorem Nu(P:Program)(f:FuncId)(xs:Array Value):(Frame.enter P f xs .normal).roundOf=none:=by
 unfold Frame.enter
 rfl
theorem Ko{K:List Nat}{W:World}(h0:0∈K)(hs:0< W.heap.size)(hfl:∀b∈K,Fa W b){f:FuncId}(hf:iE.fn f)(hcol:∀i,iE.cM f i= .any){args:Array Value}(ha:∀v∈args,oZ K W v){Φ:Value->World->Prop}(hΦ:∀v w (t:Nat->Question->Nat),Φ v w->Φ v {w with tape:=t})(hc:∀t:Nat->Question->Nat,Calls Qg f args {bare K W with tape:=t} λe w'=>∃v,e= .returned v/\Φ v w'):
  Safe Qg (vc Qg f Φ) (Frame.enter Qg f args .normal) [] (bare K W):=by
 refine US FH ⟨kr K W,λr s h=>(kS.1 h).1,bM.enter Fj hf (λe=>FH.np (e ▸ hf)) (AH hcol ha),.nil _,Nu _ _ _,ze K W,E4 h0 hs rfl,λr s h=>?_,λr s h=>?_,λr d h=>?_⟩ hΦ hc
 ·rw[uy]
  exact (kS.1 h).2.2
 ·obtain⟨rfl,hk,hlt⟩:=kS.1 h
  obtain⟨c,e,g,h1,h2⟩:=hfl r hk
  refine⟨_,_,by rw[nO hk];exact h1,by rw[nO hk];exact h1,λ_=>?_,λh=>h.elim,λh=>h.elim⟩
  have:=OR.cells (L:=iE) (τ:=kr K W) e g (xs:=c) (ys:=c) ⟨c.map λx=>(x,x),by simp[Zh],by simp[Zh],λz hz=>by
   obtain⟨x,hx,rfl⟩:=YQ.1 hz
   exact h2 x hx _⟩
  exact this
 ·by_cases hr:r∈K
  ·rw[nO hr] at h
   obtain⟨c,e,f,h1,_⟩:=hfl r hr
   rw[h1] at h
   cases h
  ·have:=Nr hr h
   cases this
end Go.Proofs.YtldmcdeibiclkaaGreatDoor.U
