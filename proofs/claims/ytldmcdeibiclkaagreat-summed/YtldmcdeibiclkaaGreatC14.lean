/-
  Toward summed_holds: THE COLOURS OF THIS SEAT (wip/tools/col.lean.txt works them out): the starter's table, the
-/
import Derived.Test.YtldmcdeibiclkaaGreatC13
import Derived.Test.YtldmcdeibiclkaaGreatC01
import Derived.Test.YtldmcdeibiclkaaGreatC05
set_option linter.unusedVariables false
set_option linter.unusedSimpArgs false
set_option maxRecDepth 100000
set_option maxHeartbeats 20000000
namespace Go.Proofs.YtldmcdeibiclkaaGreat.U
variable {α:Type}{q o:Obj}{π:Nat->Nat->Prop}{r f s:Nat}{a:Addr}{v:Value}{gr:Frame}{d:Option (List Deferred)}{k:Kd}
section
set_option maxRecDepth 100000
def nv:List Nat:=[3,4,5,6,7,8,9,10,11,12,13,14,15,16,17,18,19,20,21,22,23,24,25,26,27,28,29,30,31,32,33,34,35,36,37,38,39,40,41,42,43,44,45,46,47,48,49,50,51,52,53,54,55,56,57,58,59,60,61,62,63,64,65,66,67,68,69,70,71,72,73,74,75,76,77,78,79,80,81,82,83,84,85,86,87,88,89,90,91,92,93,94,95,96,97,98,99,100,101,102,103,104,105,106,107,108,109,110,111,112,113,114,115,116,117,118,119,120,121,122,123,124,125,126,131,132,133,134,135,136,137,138,139,140,141,142,143,144,145,146,147,148,149,150,151,152,153,154,155,174,175,176,177,178,179,180,181,182,183,184,185,186,187,193,194,195,196,197,198]
def rq:List Nat:=[49,62,71,72,84,87,88,89,91,92,93,94,119,120,121,122,123,124,125,126,142,143,146,147,148,149,150,151,152,153,154,155,184,185,186,187,197]
def Ov(f t:Nat):bh:=if (f==72&&t==7)||(f==93&&t==0)||(f==93&&t==4)||(f==94&&t==2)||(f==94&&t==3)||(f==125&&t==0)||(f==125&&t==3)||(f==155&&t==1)||(f==155&&t==6) then .cO else if (f==126&&t==0)||(f==126&&t==10) then .gL else if (f==100&&t==15)||(f==101&&t==9)||(f==133&&t==2)||(f==133&&t==42) then .loc else .any
def Fu(f:Nat):bh:=if f==94 then .cO else .any
def Lo:List (Nat×Nat):=[(71,180349),(72,11555102),(84,2),(87,2),(88,139290),(89,28),(91,43),(92,24625626428766142),(93,366),(94,2),(119,2),(120,2),(121,2),(122,170307336999878687074388026878641307889),(123,11837),(124,393277),(125,22),(126,36),(142,2),(143,3815880923),(146,468709937250361),(147,8629559964467385),(148,30706245946853818553),(149,20100446945977),(150,223690809),(151,9066177787099598164671015674677074854009),(152,12),(153,503706889378935270451441),(154,155890296660192168261890238920840095753930246804209),(155,7449),(184,30882309152275437715697),(185,8381),(186,2425394161),(187,2),(197,10048761)]
def NJ(f t:Nat):Bool:=match Lo.find? λp=>p.1==f with|some p=>p.2.testBit t|none=>false
def Gf(f t:Nat):bh:=if (f==72&&t==7)||(f==93&&t==0)||(f==93&&t==4)||(f==94&&t==2)||(f==94&&t==3)||(f==125&&t==0)||(f==125&&t==3)||(f==155&&t==1)||(f==155&&t==6) then .cO else if (f==126&&t==0)||(f==126&&t==10) then .gL else if (f==155&&t==2) then .box else if NJ f t then .own else .any
def CU(f:Nat):bh:=if f==94 then .cO else if f==71||f==72||f==89||f==92||f==93||f==123||f==124||f==125||f==151||f==155 then .own else .any
def cu:aO:=⟨true,λf=>nv.contains f,λf=>f==49||f==62,λf=>f==126,λf=>f==134||f==135,fQ,0⟩
def fG:aO:=⟨false,λf=>rq.contains f,λf=>f==49||f==62,λf=>f==126,λ_=>false,fQ,0⟩
def bG(J:String->Value):au:=⟨λf=>cu.fb f=true,λf=>cu.cb f=true,λf=>cu.ib f=true,λf=>cu.lb f=true,J,Ov,Fu,λf=>if f==fQ then some 3 else none⟩
def fY(J:String->Value):au:=⟨λf=>fG.fb f=true,λf=>fG.cb f=true,λf=>fG.ib f=true,λf=>fG.lb f=true,J,Gf,CU,λ_=>none⟩
section
variable {J:String->Value}
def ql(P:Program)(L:au)(T:aO)(f:Nat):Bool:=
 match P.funcs[f]? with
 |some fn=>(match fn.body with|some c=>cL P L T f c&&iH L T f fn|none=>false)&&!fn.norace&&!(fn.name== "runtime.NumGoroutine")
 |none=>false
def nS(fn:Func):Bool:=fn.body.isSome&&!fn.norace&&!(fn.name== "runtime.NumGoroutine")
theorem Hj:(nv.all λf=>f==fQ||ql Tryz.prog (bG J) cu f)=true:=by kernel_rfl
theorem ND:(rq.all λf=>f !=fQ&&ql Tryz.prog (fY J) fG f)=true:=by kernel_rfl
theorem Jy:(Tryz.prog.funcs[(fQ:Nat)]?).any nS=true/\nS ki=true:=⟨by kernel_rfl,by kernel_rfl⟩
theorem Pb:fQ<Tryz.prog.funcs.size:=of_decide_eq_true (by kernel_rfl)
theorem sH(h:f≠fQ):Gg[f]?=Tryz.prog.funcs[f]? :=by
 unfold Gg;rw[Array.getElem?_setIfInBounds_ne (λe=>h e.symm)]
theorem xa:Gg[(fQ:Nat)]?=some ki:=by
 unfold Gg;rw[Array.getElem?_setIfInBounds_self_of_lt Pb]
section
variable {L:au}{T:aO}
theorem zJ(h:ql Tryz.prog L T f=true): ∃fn c,Tryz.prog.funcs[f]?=some fn/\fn.body=some c/\cL Tryz.prog L T f c=true/\iH L T f fn=true/\fn.norace=false/\(fn.name== "runtime.NumGoroutine")=false:=by
 unfold ql at h;split at h
 ·rename_i fn hf;simp only[No,Bool.not_eq_true']at h;obtain⟨⟨h1,h2⟩,h3⟩:=h;split at h1
  ·rename_i c hc;simp only[No]at h1;exact⟨fn,c,hf,hc,h1.1,h1.2,h2,h3⟩
  ·cases h1
 ·cases h
end
theorem rP:∀f,(bG J).fn f->f≠cu.bj->∃fn c,Tryz.prog.funcs[f]?=some fn/\Gg[f]?=some fn/\fn.body=some c/\cL Tryz.prog (bG J) cu f c=true/\iH (bG J) cu f fn=true/\fn.norace=false/\(fn.name== "runtime.NumGoroutine")=false:=by
 intro f hf hn;have hm:f∈nv:=by simpa[bG,cu] using hf
 have:=List.all_eq_true.1 (Hj (J:=J)) f hm;simp only[Q8,Rw]at this;obtain⟨fn,c,h1,h2,h3,h4,h5,h6⟩:=zJ (this.resolve_left hn);exact⟨fn,c,h1,by rw[sH hn];exact h1,h2,h3,h4,h5,h6⟩
theorem sj:∀f,(fY J).fn f->f≠fQ/\∃fn c,Tryz.prog.funcs[f]?=some fn/\Gg[f]?=some fn/\fn.body=some c/\cL Tryz.prog (fY J) fG f c=true/\iH (fY J) fG f fn=true/\fn.norace=false/\(fn.name== "runtime.NumGoroutine")=false:=by
 intro f hf;have hm:f∈rq:=by simpa[fY,fG] using hf
 have:=List.all_eq_true.1 (ND (J:=J)) f hm;simp only[No,bne_iff_ne]at this;obtain⟨fn,c,h1,h2,h3,h4,h5,h6⟩:=zJ this.2;exact⟨this.1,fn,c,h1,by rw[sH this.1];exact h1,h2,h3,h4,h5,h6⟩
def pT(c:Code):Bool:=(readies c).isEmpty
theorem sq:((Tryz.prog.funcs.toList.all λf=>(f.body.map pT).getD true)&&pT nc)=true:=by kernel_rfl
theorem sQ(g:Nat):Qg.stepOf g=none:=by
 unfold Program.stepOf;rw[Array.findIdx?_eq_none_iff];intro fn hfn;have key:∀c,fn.body=some c->readies c= []:=by
  have h:=sq;simp only[No]at h;intro c hc;have hm:fn∈Gg:=hfn;unfold Gg at hm;rcases Array.mem_or_eq_of_mem_setIfInBounds hm with hm|rfl
  ·have:=List.all_eq_true.1 h.1 fn (by simpa using hm);rw[hc]at this;simpa[pT] using this
  ·have:c=nc:=by
    have e:ki.body=some nc:=rfl;rw[e]at hc;exact (Q0 hc).symm
   subst this;simpa[pT] using h.2
 cases hb:fn.body with
 |none=>simp
 |some c=>simp[key c hb]
def ov:Nat->Value->Bool
 |0,_=>false
 |_+1,.bool _=>true
 |_+1,.int _ _=>true
 |_+1,.string _=>true
 |_+1,.pointer none=>true
 |_+1,.slice none _ _=>true
 |_+1,.map none=>true
 |_+1,.chan none=>true
 |_+1,.nilFunc=>true
 |_+1,.nilIface=>true
 |d+1,.agg c=>c.toList.all (ov d)
 |d+1,.tuple c=>c.toList.all (ov d)
 |_,_=>false
theorem qf{L:au}:∀(d:Nat) (v:Value),ov d v=true->VR L π v v
 |0,v,h=>by cases v<;>cases h
 |d+1,v,h=>by
  cases v with
  |bool b=>exact .bool b
  |int k n=>exact .int k n
  |string s=>exact .string s
  |pointer p=>cases p with
   |none=>exact .bc
   |some a=>cases h
  |slice p n c=>cases p with
   |none=>exact .fX n c
   |some a=>cases h
  |map m=>cases m with
   |none=>exact .iV
   |some a=>cases h
  |chan m=>cases m with
   |none=>exact .mj
   |some a=>cases h
  |nilFunc=>exact .nilFunc
  |nilIface=>exact .nilIface
  |agg c=>
   have:=VR.agg (L:=L) (π:=π) (c.map λx=>(x,x)) (λz hz=>by
    obtain⟨x,hx,rfl⟩:=Array.mem_map.1 hz;exact qf d x (List.all_eq_true.1 h x (by simpa using hx)))
   simpa[Rl] using this
  |tuple c=>
   have:=VR.tuple (L:=L) (π:=π) (c.map λx=>(x,x)) (λz hz=>by
    obtain⟨x,hx,rfl⟩:=Array.mem_map.1 hz;exact qf d x (List.all_eq_true.1 h x (by simpa using hx)))
   simpa[Rl] using this
  |_=>cases h
def yH(i:TypeInfo):Bool:=(match i.desc with|.named n _=>n != "sync.copyChecker" |_=>true)&&(match i.zero with|some v=>ov 8 v|none=>true)
theorem Jg:(Tryz.prog.types.toList.all yH)=true:=by kernel_rfl
theorem xX(L:au)(t:Nat)(i:TypeInfo)(h:Tryz.prog.types[t]?=some i):iQ L i:=by
 have:=List.all_eq_true.1 Jg i ((Array.mem_toList_iff).2 (Array.mem_of_getElem? h));unfold yH at this;refine⟨λv e π=>?_,λn u e=>?_⟩
 ·rw[e]at this;simp only[No]at this;exact qf 8 v this.2
 ·rw[e]at this;simp only[No,bne_iff_ne]at this;exact this.1
theorem nH(L:au):(∀t i n u,Tryz.prog.info? t=some i->i.desc=.named n u->n≠ "sync.copyChecker")/\∀t i v,Tryz.prog.info? t=some i->i.zero=some v->∀π,VR L π v v:=
 ⟨λ_ _ n u h e=>(xP (xX L) h).2 n u e,λ_ _ v h e π=>(xP (xX L) h).1 v e π⟩
theorem jO:lZ (bG J) cu:=by
 refine⟨λf h=>h,λf h=>h,λf h=>h,λf h=>h,λf h=>?_,λf h=>?_,λf h=>?_,λf h=>?_⟩
 ·have:f=49\/f=62:=by simpa[bG,cu] using h
  rcases this with rfl|rfl<;>exact⟨rfl,λi=>rfl,rfl⟩
 ·have:f=134\/f=135:=by simpa[bG,cu] using h
  rcases this with rfl|rfl<;>exact⟨rfl,λi=>rfl,rfl⟩
 ·rcases h with h|h|h
  ·have:f=49\/f=62:=by simpa[bG,cu] using h
   rcases this with rfl|rfl<;>rfl
  ·have:f=126:=by simpa[bG,cu] using h
   subst this;rfl
  ·have:f=134\/f=135:=by simpa[bG,cu] using h
   rcases this with rfl|rfl<;>rfl
 ·have:f=126:=by simpa[bG,cu] using h
  subst this;refine⟨rfl,rfl,λi hi=>?_,rfl⟩;rcases (show i=1\/2<=i by omega) with rfl|h
  ·exact .inl rfl
  ·exact .inr h
theorem OK:lZ (fY J) fG:=by
 refine⟨λf h=>h,λf h=>h,λf h=>h,λf h=>h,λf h=>?_,λf h=>?_,λf h=>rfl,λf h=>?_⟩
 ·have:f=49\/f=62:=by simpa[fY,fG] using h
  rcases this with rfl|rfl<;>exact⟨rfl,λi=>rfl,rfl⟩
 ·simp[fY,fG]at h
 ·have:f=126:=by simpa[fY,fG] using h
  subst this;refine⟨rfl,rfl,λi hi=>?_,rfl⟩;rcases (show i=1\/2<=i by omega) with rfl|h
  ·exact .inl rfl
  ·exact .inr h
theorem ry:Tryz.prog.follows .staticDataAhead=true:=by kernel_rfl
theorem sD:Let Tryz.prog Gg (bG J) cu:=by
 refine⟨λf hf hn=>?_,λf hf=>?_,jO,ry,sQ⟩
 ·obtain⟨fn,c,h1,h2,h3,h4,h5,_⟩:=rP f hf hn;exact⟨fn,c,h1,h2,h3,h4,h5⟩
 ·by_cases hn:f=fQ
  ·subst hn;obtain⟨p1,p2⟩:=Jy;have g: ∃fn,Tryz.prog.funcs[(fQ:Nat)]?=some fn/\nS fn=true:=by simpa[Option.any_eq_true] using p1
   obtain⟨fn,h1,h2⟩:=g;have un:∀fn:Func,nS fn=true->(fn.name== "runtime.NumGoroutine")=false/\fn.body.isNone=false/\fn.norace=false:=λfn h=>by
    unfold nS at h;simp only[No,Bool.not_eq_true']at h;exact⟨h.2,by cases hb:fn.body<;>simp_all,h.1.2⟩
   exact⟨⟨fn,h1,un fn h2⟩,⟨ki,xa,un _ p2⟩⟩
  ·obtain⟨fn,c,h1,h2,h3,_,_,h6,h7⟩:=rP f hf hn;exact⟨⟨fn,h1,h7,by rw[h3];rfl,h6⟩,⟨fn,h2,h7,by rw[h3];rfl,h6⟩⟩
theorem CV:Let Tryz.prog Gg (fY J) fG:=by
 refine⟨λf hf hn=>?_,λf hf=>?_,OK,ry,sQ⟩
 ·obtain⟨_,fn,c,h1,h2,h3,h4,h5,_⟩:=sj f hf;exact⟨fn,c,h1,h2,h3,h4,h5⟩
 ·obtain⟨_,fn,c,h1,h2,h3,_,_,h6,h7⟩:=sj f hf;exact⟨⟨fn,h1,h7,by rw[h3];rfl,h6⟩,⟨fn,h2,h7,by rw[h3];rfl,h6⟩⟩
theorem qz:Tryz.prog.globals.size=0:=by kernel_rfl
theorem BB:Stat Tryz.prog Gg (bG J) cu:=⟨qz,(nH (bG J)).1,(nH (bG J)).2,sD⟩
theorem Lx:Stat Tryz.prog Gg (fY J) fG:=⟨qz,(nH (fY J)).1,(nH (fY J)).2,CV⟩
theorem MP{Goal:Frame->List Frame->World->Prop}(hg:∀fr cs w,Goal fr cs w->cs= []/\fr.fn≠fQ)(D:List Frame):sG Pg Gg (bG J) cu D Goal:=by
 refine Nl (L1:=(bG J)) (T1:=cu) (L2:=(fY J)) (T2:=fG) ⟨Lx,rfl,rfl,?_,hg,?_,rfl⟩ ⟨rfl,rfl,rfl,?_,rfl,λf h=>h,λs=>rfl,qz.symm⟩ D
 ·intro h;exact (sj _ h).1 rfl
 ·exact (by decide:fG.fb 84=true)
 ·intro i hi;rcases (show i=0\/i=1\/i=2 by omega) with rfl|rfl|rfl<;>rfl
end
end
section
def fx(w:World):Prop:=∀(r:Nat) d,w.heap[r]?=some (.deferred d)->d=none\/d=some []
theorem _root_.Go.Sem.qN(P:Program):∀(p:Sem α) (w:World) (es:Array Event) {h:Halt} {w1:World} {es1:Array Event},p.runT P w es=(.halt h w1,es1)->w.heap.size<=w1.heap.size:=by
 intro p;induction p with
 |pure a=>intro w es h w1 es1 hr;cases hr
 |load m a k ih=>
  intro w es h w1 es1 hr;rw[Sem.runT]at hr;split at hr
  ·exact ih _ _ _ hr
  ·split at hr
   ·exact ih _ _ _ hr
   ·cases hr;exact AI _
 |store m a x k ih=>
  intro w es h w1 es1 hr;by_cases h1: ∃c,x=.agg c
  ·obtain⟨c,rfl⟩:=h1;simp only[Sem.runT]at hr;cases hr;exact AI _
  by_cases h2: ∃c,x=.tuple c
  ·obtain⟨c,rfl⟩:=h2;simp only[Sem.runT]at hr;cases hr;exact AI _
  rw[Sem.runT.eq_5 _ _ _ _ _ _ _ (λc e=>h1 ⟨c,e⟩) (λc e=>h2 ⟨c,e⟩)]at hr;split at hr
  ·split at hr
   ·cases hr;exact AI _
   ·have:=ih _ _ hr;simpa[World.setCell] using this
  ·split at hr
   ·rename_i w' l he;unfold World.farStore at he;split at he
    ·split at he
     ·rename_i r hh;cases he;have h3:=yG hh
      have:=ih _ _ hr;rw[h3.1]at this;exact this
     ·cases he
    ·cases he
   ·cases hr;exact AI _
 |new o k ih=>
  intro w es h w1 es1 hr
  have:=ih _ _ _ hr;simp only[Rr]at this;omega
 |shape r k ih=>intro w es h w1 es1 hr;exact ih _ _ _ hr
 |freeze a n k ih=>
  intro w es h w1 es1 hr
  have:=ih _ _ hr;have h2:(w.freeze a n).heap.size=w.heap.size:=by unfold World.freeze;split<;>simp
  rw[h2]at this;exact this
 |frozen a k ih=>intro w es h w1 es1 hr;exact ih _ _ _ hr
 |getObj r k ih=>
  intro w es h w1 es1 hr;rw[Sem.runT]at hr;split at hr
  ·cases hr;exact AI _
  ·exact ih _ _ _ hr
  ·cases hr;exact AI _
 |setObj r o k ih=>
  intro w es h w1 es1 hr;rw[Sem.runT]at hr;split at hr
  ·cases hr;exact AI _
  ·have:=ih _ _ hr;simpa using this
  ·cases hr;exact AI _
 |choose q k ih=>
  intro w es h w1 es1 hr;rw[Sem.runT]at hr;split at hr
  ·exact ih _ _ _ hr
  ·have:=ih _ _ _ hr;exact this
 |sys c k ih=>
  intro w es h w1 es1 hr
  have:=ih _ _ _ hr;rw[(sS w c).1]at this;exact this
 |program k ih=>intro w es h w1 es1 hr;exact ih _ _ _ hr
 |mark m k ih=>intro w es h w1 es1 hr;exact ih _ _ hr
 |halt h=>intro w es h w1 es1 hr;cases hr;exact AI _
section
variable {P:Program}{G:Array Func}{L:au}{C:FuncId->Code->Prop}{τ:ah}{k₀:Kd}{N:Nat}
theorem fx.modify{w:World}(h:fx w){f:Obj->Obj}(hf:∀o d,w.heap[r]?=some o->f o=.deferred d->d=none\/d=some []):fx {w with heap:=w.heap.modify r f}:=by
 intro r' d hd;simp only[Array.getElem?_modify]at hd;split at hd
 ·rename_i e;subst e;obtain⟨o,ho,he⟩:=Rp.1 hd;exact hf o d ho he
 ·exact h r' d hd
theorem Bj(w:World)(a:Addr)(s:String):jN (w.noCell a s):=by
 unfold World.noCell;split<;>trivial
theorem BW{w:World}(ho:∀o,w.heap[a.block]?=some o->eE L τ o)(b:Bool): ∃h,w.farLoad P a b=.error h/\jN h:=by
 unfold World.farLoad;split
 ·rename_i he;rcases ho _ he with⟨q,hq⟩|⟨_,_,_,hq⟩<;>cases hq
 ·exact⟨_,rfl,Bj _ _ _⟩
theorem AL{w:World}{x:Value}(ho:∀o,w.heap[a.block]?=some o->eE L τ o)(b:Bool): ∃h,w.farStore P a x b=.error h/\jN h:=by
 unfold World.farStore;split
 ·rename_i he;rcases ho _ he with⟨q,hq⟩|⟨_,_,_,hq⟩<;>cases hq
 ·exact⟨_,rfl,Bj _ _ _⟩
theorem ae.NC(hb:Fit τ){β:Type}{R:α->β->Prop}{p:Sem α}{q:Sem β}(h:ae P G L C τ k₀ R p q):
  ∀(w v:World) (es:Array Event) (hh:Halt) (w1:World) (es1:Array Event),Sync L C τ k₀ N w v->fx w->p.runT (gp P G) w es=(.halt hh w1,es1)->w1.heap.size<=N->(∀r s,τ.un r s->r<N)->jN hh/\fx w1:=by
 induction h with
 |pure hR=>intro w v es hh w1 es1 _ _ hr _ _;cases hr
 |@load a b k l hab _ ih=>
  intro w v es hh w1 es1 hs hd hr hN hpn;rw[Sem.runT]at hr;cases hc:w.cell? a with
  |none=>
   obtain⟨hx,he,ht⟩:=BW (P:=gp P G) (L:=L) (τ:=τ) (hs.known (.inl hab.1)) (Mode.plain==.atomic);rw[hc]at hr;simp only[he]at hr;cases hr;exact⟨ht,hd⟩
  |some y=>
   rw[hc]at hr;obtain⟨z,hz,hyz⟩:=hs.cell hab hc;exact ih y z hyz w v _ hh w1 es1 hs hd hr hN hpn
 |@l7 a b k l hab _ ih=>
  intro w v es hh w1 es1 hs hd hr hN hpn;rw[Sem.runT]at hr;cases hc:w.cell? a with
  |none=>
   obtain⟨hx,he,ht⟩:=BW (P:=gp P G) (L:=L) (τ:=τ) (hs.known (.inr hab.1)) (Mode.plain==.atomic);rw[hc]at hr;simp only[he]at hr;cases hr;exact⟨ht,hd⟩
  |some y=>
   rw[hc]at hr;obtain⟨z,hz,hyz⟩:=hs.rJ hab hc;exact ih y z hyz w v _ hh w1 es1 hs hd hr hN hpn
 |@store a b x y k l hab hxy _ ih=>
  intro w v es hh w1 es1 hs hd hr hN hpn;by_cases h1: ∃c,x=.agg c
  ·obtain⟨c,rfl⟩:=h1;simp only[Sem.runT]at hr;cases hr;exact⟨trivial,hd⟩
  by_cases h2: ∃c,x=.tuple c
  ·obtain⟨c,rfl⟩:=h2;simp only[Sem.runT]at hr;cases hr;exact⟨trivial,hd⟩
  rw[Sem.runT.eq_5 _ _ _ _ _ _ _ (λc e=>h1 ⟨c,e⟩) (λc e=>h2 ⟨c,e⟩)]at hr;cases hc:w.cell? a with
  |none=>
   obtain⟨hx,he,ht⟩:=AL (P:=gp P G) (L:=L) (τ:=τ) (x:=x) (hs.known (.inl (hb.own _ _ hab.1))) (Mode.plain==.atomic);rw[hc]at hr;simp only[he]at hr;cases hr;exact⟨ht,hd⟩
  |some y0=>
   rw[hc]at hr;obtain⟨hsp,_⟩:=oM hc;by_cases hfz:w.frozen? a=true
   ·simp only[hfz,QD]at hr;cases hr;exact⟨trivial,hd⟩
   ·simp only[hfz,QF,QC]at hr;refine ih _ _ _ hh w1 es1 (hs.stored hb hab hsp hxy) ?_ hr hN hpn;refine hd.modify λo d ho he=>?_;cases o<;>simp only at he<;>first|cases he|skip
    exact hd _ d ho
 |@lS a b x y k l hab hxy _ ih=>
  intro w v es hh w1 es1 hs hd hr hN hpn;by_cases h1: ∃c,x=.agg c
  ·obtain⟨c,rfl⟩:=h1;simp only[Sem.runT]at hr;cases hr;exact⟨trivial,hd⟩
  by_cases h2: ∃c,x=.tuple c
  ·obtain⟨c,rfl⟩:=h2;simp only[Sem.runT]at hr;cases hr;exact⟨trivial,hd⟩
  rw[Sem.runT.eq_5 _ _ _ _ _ _ _ (λc e=>h1 ⟨c,e⟩) (λc e=>h2 ⟨c,e⟩)]at hr;cases hc:w.cell? a with
  |none=>
   obtain⟨hx,he,ht⟩:=AL (P:=gp P G) (L:=L) (τ:=τ) (x:=x) (hs.known (.inr hab.1)) (Mode.plain==.atomic);rw[hc]at hr;simp only[he]at hr;cases hr;exact⟨ht,hd⟩
  |some y0=>
   rw[hc]at hr;obtain⟨hsp,_⟩:=oM hc;by_cases hfz:w.frozen? a=true
   ·simp only[hfz,QD]at hr;cases hr;exact⟨trivial,hd⟩
   ·simp only[hfz,QF,QC]at hr;refine ih _ _ _ hh w1 es1 (hs.boxed hb hab hsp hxy) ?_ hr hN hpn;refine hd.modify λo d ho he=>?_;cases o<;>simp only at he<;>first|cases he|skip
    exact hd _ d ho
 |@new o q k l hk ho _ ih=>
  intro w v es hh w1 es1 hs hd hr hN hpn;rw[Sem.runT]at hr;have hg:=Sem.qN (gp P G) _ _ _ hr;simp only[Rr]at hg;have hp:τ.own w.heap.size v.heap.size:=by have:=hs.next (by omega);rw[hk]at this;exact this
  refine ih _ _ hp _ _ _ hh w1 es1 (hs.push hb (by omega) (KR.kB hb (hb.own _ _ hp) ho)) ?_ hr hN hpn;intro r d hx;simp only[Array.getElem?_push]at hx;split at hx
  ·cases hx;cases ho
  ·exact hd r d hx
 |@lR xs ys e f k l hk ho _ ih=>
  intro w v es hh w1 es1 hs hd hr hN hpn;rw[Sem.runT]at hr;have hg:=Sem.qN (gp P G) _ _ _ hr;simp only[Rr]at hg;have hp:τ.box w.heap.size v.heap.size:=by have:=hs.next (by omega);rw[hk]at this;exact this
  refine ih _ _ hp _ _ _ hh w1 es1 (hs.push hb (by omega) (KR.pX (e:=e) (f:=f) hb hp ho)) ?_ hr hN hpn;intro r d hx;simp only[Array.getElem?_push]at hx;split at hx
  ·cases hx
  ·exact hd r d hx
 |@lN o q k l hk ho _ ih=>
  intro w v es hh w1 es1 hs hd hr hN hpn;rw[Sem.runT]at hr;have hg:=Sem.qN (gp P G) _ _ _ hr;simp only[Rr]at hg;have hp:τ.lp w.heap.size v.heap.size:=by have:=hs.next (by omega);rw[hk]at this;exact this
  refine ih _ _ hp _ _ _ hh w1 es1 (hs.push hb (by omega) (KR.pf hb hp ho)) ?_ hr hN hpn;intro r d hx;simp only[Array.getElem?_push]at hx;split at hx
  ·cases hx;cases ho with
   |deferred hdd=>exact hdd
  ·exact hd r d hx
 |@lz r s k l hrs _ ih=>
  intro w v es hh w1 es1 hs hd hr hN hpn;rw[Sem.runT]at hr;cases hc:w.heap[r]? with
  |none=>rw[hc]at hr;cases hr;exact⟨trivial,hd⟩
  |some o=>
   obtain⟨o',q,h1,h2,h3⟩:=hs.loops r s hrs (Array.getElem?_eq_some_iff.1 hc).1;rw[hc]at h1;cases h1;rw[hc]at hr;have h3':=h3;cases h3 with
   |_=>exact ih _ _ h3' w v _ hh w1 es1 hs hd hr hN hpn
 |@lh r s o q k l hrs ho _ ih=>
  intro w v es hh w1 es1 hs hd hr hN hpn;rw[Sem.runT]at hr;cases hc:w.heap[r]? with
  |none=>rw[hc]at hr;cases hr;exact⟨trivial,hd⟩
  |some o0=>
   obtain⟨o',q0,h1,h2,h3⟩:=hs.loops r s hrs (Array.getElem?_eq_some_iff.1 hc).1;rw[hc]at h1;cases h1;rw[hc]at hr;rw[ly]at hr;have hd1:fx {w with heap:=w.heap.modify r λ_=>o}:=hd.modify λ_ d _ he=>by
    subst he;cases ho with
    |deferred hdd=>exact hdd
   have hs1:Sync L C τ k₀ N {w with heap:=w.heap.modify r λ_=>o} {v with heap:=v.heap.modify s λ_=>q}:=hs.turn hb (ah.nE hrs) λ_ _ _=>KR.pf hb hrs ho;cases h3 with
   |_=>exact ih _ _ _ hh w1 es1 hs1 hd1 hr hN hpn
 |@shape r s k l hrs _ ih=>intro w v es hh w1 es1 hs hd hr hN hpn;exact ih _ w v es hh w1 es1 hs hd hr hN hpn
 |@freeze a b n k l hab _ ih=>
  intro w v es hh w1 es1 hs hd hr hN hpn;refine ih _ _ _ hh w1 es1 (hs.froze hb hab n) ?_ hr hN hpn;unfold World.freeze;split
  ·exact hd
  ·refine hd.modify λo d ho he=>?_;cases o<;>simp only at he<;>first|cases he|skip
   exact hd _ d ho
 |@frozen a b k l hab _ ih=>intro w v es hh w1 es1 hs hd hr hN hpn;exact ih _ w v es hh w1 es1 hs hd hr hN hpn
 |@getObj r s k l hrs _ ih=>
  intro w v es hh w1 es1 hs hd hr hN hpn;rw[Sem.runT]at hr;cases hc:w.heap[r]? with
  |none=>rw[hc]at hr;cases hr;exact⟨trivial,hd⟩
  |some o=>
   obtain⟨o',q,h1,h2,h3⟩:=hs.obj r s hrs (Array.getElem?_eq_some_iff.1 hc).1;rw[hc]at h1;cases h1;rw[hc]at hr;have h3':=h3;cases h3 with
   |cells e f hx=>cases hr;exact⟨trivial,hd⟩
   |_=>exact ih _ _ h3' w v _ hh w1 es1 hs hd hr hN hpn
 |@setObj r s o q k l hrs ho hnc _ ih=>
  intro w v es hh w1 es1 hs hd hr hN hpn;rw[Sem.runT]at hr;cases hc:w.heap[r]? with
  |none=>rw[hc]at hr;cases hr;exact⟨trivial,hd⟩
  |some o0=>
   obtain⟨o',q0,h1,h2,h3⟩:=hs.obj r s (hb.own _ _ hrs) (Array.getElem?_eq_some_iff.1 hc).1;rw[hc]at h1;cases h1;rw[hc]at hr;rw[ly]at hr;have hd1:fx {w with heap:=w.heap.modify r λ_=>o}:=hd.modify λ_ d _ he=>by
    subst he;cases ho
   have hs1:Sync L C τ k₀ N {w with heap:=w.heap.modify r λ_=>o} {v with heap:=v.heap.modify s λ_=>q}:=hs.turn hb (.inl (hb.own _ _ hrs)) λ_ _ _=>KR.kB hb (hb.own _ _ hrs) ho;cases h3 with
   |cells e f hx=>cases hr;exact⟨trivial,hd⟩
   |_=>exact ih _ _ _ hh w1 es1 hs1 hd1 hr hN hpn
 |@choose qq k l _ ih=>
  intro w v es hh w1 es1 hs hd hr hN hpn;rw[Sem.runT]at hr;by_cases hf:qq.forced=true
  ·simp only[hf,QD]at hr;exact ih 0 w v es hh w1 es1 hs hd hr hN hpn
  ·simp only[hf,QF,QC]at hr;exact ih _ {w with drawn:=w.drawn+1} v _ hh w1 es1 ⟨hs.held,hs.jU⟩ hd hr hN hpn
 |program _ ih=>intro w v es hh w1 es1 hs hd hr hN hpn;exact ih w v es hh w1 es1 hs hd hr hN hpn
 |l5 _ ih=>intro w v es hh w1 es1 hs hd hr hN hpn;exact ih w v es hh w1 es1 hs hd hr hN hpn
 |noRoom _ ih=>intro w v es hh w1 es1 hs hd hr hN hpn;exact ih w v _ hh w1 es1 hs hd hr hN hpn
 |af qq hx=>
  intro w v es hh w1 es1 hs hd hr hN hpn;obtain⟨h2,w2,es2,e,ht,hk⟩:=hx w es;rw[e]at hr;cases hr;exact⟨ht,λr d hx=>hd r d (hk r d hx)⟩
end
end
section
open Go.Conc
def Dg(τ:ah):Prop:=∀r s,τ.un r s->r=s
section
variable {P:Program}{L:au}{T:aO}{τ:ah}
theorem AR.dg(hp:∀r s,π r s->r=s){b:Addr}(h:AR π a b):a=b:=by
 obtain⟨ab,ao,Qw⟩:=a;obtain⟨bb,bo,bs⟩:=b;obtain⟨h1,h2,h3⟩:=h;have h1:=hp _ _ h1;simp only at h1 h2 h3;subst h1 h2 h3;rfl
theorem VR.dg(hj:L.aW=gN)(hp:∀r s,π r s->r=s){w:Value}(h:VR L π v w):v=w:=by
 have arr:∀(zs:Array (Value×Value)),(∀z∈zs,z.1=z.2)->zs.map (·.1)=zs.map (·.2):=λzs hz=>Array.map_congr_left λz h=>hz z h;induction h with
 |aW s=>rw[hj];rfl
 |ptr h=>rw[h.dg hp]
 |slice n c h=>rw[h.dg hp]
 |map h=>rw[hp _ _ h]
 |func xs ys hf _ _ ihx ihy=>rw[arr xs ihx,arr ys ihy]
 |iface t _ ih=>rw[ih]
 |agg xs _ ih=>rw[arr xs ih]
 |tuple xs _ ih=>rw[arr xs ih]
 |_=>rfl
theorem XR.dg{R:α->α->Prop}(hR:∀a b,R a b->a=b){xs ys:Array α}(h:XR R xs ys):xs=ys:=by
 obtain⟨zs,rfl,rfl,hz⟩:=h;exact Array.map_congr_left λz h=>hR _ _ (hz z h)
theorem L2.dg{R:α->α->Prop}(hR:∀a b,R a b->a=b){xs ys:List α}(h:L2 R xs ys):xs=ys:=by
 induction h with
 |nil=>rfl
 |cons h _ ih=>rw[hR _ _ h,ih]
theorem NR.dg(hp:∀r s,π r s->r=s):∀{a b:Option Nat},NR π a b->a=b
 |none,none,_=>rfl
 |some _,some _,h=>by rw[hp _ _ h]
theorem la.dg(hj:L.aW=gN)(hd:Dg τ){p:FuncId->Prop}{n:Nat}{w:Value}(h:la L p n τ v w):v=w:=by
 rcases h with⟨rfl,rfl⟩|⟨rfl,rfl⟩|⟨f,xs,ys,rfl,rfl,_,hx,_⟩
 ·rfl
 ·rfl
 ·rw[hx.dg λ_ _ h=>VR.dg hj (λr s x=>hd r s (.inl x)) h]
theorem CR.dg(hj:L.aW=gN)(hb:eh τ)(hd:Dg τ){c:bh}{w:Value}(h:CR L τ c v w):v=w:=by
 cases c with
 |any=>exact VR.dg hj (λr s x=>hd r s (.inl x)) h
 |own=>exact VR.dg hj (λr s x=>hd r s (.inl (hb.own r s x))) h
 |box=>exact VR.dg hj (λr s x=>hd r s (.inr (.inl x))) h
 |gL=>
  rcases h with⟨rfl,rfl⟩|⟨l,m,rfl,rfl,h⟩
  ·rfl
  ·rw[hd _ _ (.inr (.inr h))]
 |cO=>exact la.dg hj hd h
 |loc=>exact la.dg hj hd h
theorem TR.dg(hj:L.aW=gN)(hb:eh τ)(hd:Dg τ){f:FuncId}{xs ys:Array Value}(h:TR L τ f xs ys):xs=ys:=by
 apply QX h.1.symm;intro i h1 h2;exact CR.dg hj hb hd (h.2 i _ _ (Array.getElem?_eq_getElem h1) (Array.getElem?_eq_getElem h2))
theorem OR.dg(hj:L.aW=gN)(hd:Dg τ)(h:OR L τ o q):o=q:=by
 have va:∀a b,VR L τ.all a b->a=b:=λa b h=>VR.dg hj (λr s x=>hd r s (.inl x)) h;cases h with
 |cells e f h=>rw[h.dg va]
 |map c h=>rw[h.dg λa b hab=>by cases a;cases b;obtain⟨h1,h2,h3⟩:=hab;simp only at h1 h2 h3;rw[va _ _ h1,va _ _ h2,h3]]
 |stringIter=>rfl
 |mapIter a b c h=>rw[h.dg λr s x=>hd r s (.inl x)]
 |number l h=>rw[h.dg λr s x=>hd r s (.inl x)]
theorem ed.dg(hj:L.aW=gN)(hb:eh τ)(hd:Dg τ){C:FuncId->Code->Prop}(h:ed L C τ o q):o=q:=by
 cases h with
 |@loop k l h1 h2 h3 h4 h5 h6 h7 h8=>
  obtain⟨a1,a2,a3,a4,a5,a6,a7,a8⟩:=k;obtain⟨b1,b2,b3,b4,b5,b6,b7,b8⟩:=l;simp only at h1 h2 h3 h4 h5 h6 h7 h8;have h4':=TR.dg hj hb hd h4;have h8':=hd _ _ (.inr (.inr h8));subst h1 h2 h3 h4' h5 h6 h7 h8';rfl
 |deferred=>rfl
theorem KR.dg(hj:L.aW=gN)(hb:eh τ)(hd:Dg τ){C:FuncId->Code->Prop}(h:KR L C τ r s o q)(hu:τ.un r s):o=q:=by
 rcases hu with hu|hu|hu
 ·exact OR.dg hj hd (h.all hu)
 ·obtain⟨xs,ys,e,f,rfl,rfl,hx⟩:=h.box hu;rw[hx.dg λa b h=>VR.dg hj (λr s x=>hd r s (.inl (hb.own r s x))) h]
 ·exact ed.dg hj hb hd (h.lp hu)
theorem dO.dg(hd:Dg τ){f:FuncId}{a b:Item}(h:dO P L T τ f a b):a=b:=by
 cases h with
 |inRangeFunc h=>rw[hd _ _ (.inr (.inr h))]
 |endRangeFunc h=>rw[hd _ _ (.inr (.inr h))]
 |_=>rfl
theorem gm.dg(hd:Dg τ){a b:Deferred}(h:gm τ a b):a=b:=by
 cases h with
 |collected h=>rw[hd _ _ (.inr (.inr h))]
theorem bl.dg(hj:L.aW=gN)(hb:eh τ)(hd:Dg τ){fr:Frame}(h:bl P L T τ fr gr):fr=gr:=by
 obtain⟨a1,a2,a3,a4,a5,a6,a7⟩:=fr;obtain⟨b1,b2,b3,b4,b5,b6,b7⟩:=gr;obtain⟨h1,_,_,h3,h4,h5,h6,_,h8,h9⟩:=h;simp only at h1 h3 h4 h5 h6 h8 h9;have e3:=TR.dg hj hb hd h3;have e4:=h4.dg λ_ _ h=>dO.dg hd h;have e5:=h5.dg λ_ _ h=>gm.dg hd h;have e9:=h9.dg λr s x=>hd r s (.inr (.inr x));have e8:=h8.1.trans h8.2.symm;subst h1 e3 e4 e5 h6 e9 e8;rfl
theorem fe.dg(hj:L.aW=gN)(hb:eh τ)(hd:Dg τ){c:bh}{cs ds:List Frame}(h:fe P L T τ c cs ds):cs=ds:=by
 induction h with
 |nil=>rfl
 |cons h _ _ ih=>rw[bl.dg hj hb hd h,ih]
end
end
section
open Go.Conc
section
variable {P:Program}{L:au}{T:aO}{τ:ah}
structure iL(P:Program)(L:au)(T:aO):Prop where
 stat:Stat P P.funcs L T
 aW:L.aW=gN
 np: ¬L.fn T.bj
structure dx(P:Program)(L:au)(T:aO)(τ:ah)(fr:Frame)(cs:List Frame)(w:World):Prop where
 dg:Dg τ
 frame:bl P L T τ fr fr
 callers:fe P L T τ (fw L fr) cs cs
 bot:gJ fr cs
 fit:Fit τ
 flat:Flat T τ
 bC:∀r s,τ.un r s->r<w.heap.size
 obj:∀r s,τ.un r s->∃o q,w.heap[r]?=some o/\w.heap[s]?=some q/\KR L (CC P L T) τ r s o q
 tL:fx w
def ik(P:Program)(L:au)(T:aO)(fr:Frame)(cs:List Frame)(w:World):Prop:=∃τ,dx P L T τ fr cs w
variable {fr:Frame}{cs B:List Frame}{w:World}
abbrev dJ(τ:ah)(w:World)(N:Nat)(k:Kd):ah:=τ.ext w.heap.size w.heap.size (N-w.heap.size) k
theorem dx.Ob(h:dx P L T τ fr cs w):∀r s,τ.un r s->r<w.heap.size/\s<w.heap.size:=λr s x=>⟨h.bC r s x,by rw[<-h.dg r s x];exact h.bC r s x⟩
theorem dx.uK(h:dx P L T τ fr cs w)(N:Nat)(k:Kd):Dg (dJ τ w N k):=λr s x=>by
 rcases ah.fS.1 x with x|⟨i,_,rfl,rfl⟩
 ·exact h.dg r s x
 ·rfl
theorem dx.gC(h:dx P L T τ fr cs w)(N:Nat)(k:Kd):Fit (dJ τ w N k):=ah.qx h.fit h.Ob
theorem dx.lD(h:dx P L T τ fr cs w){N:Nat}(hN:w.heap.size<=N)(k:Kd):∀r s,(dJ τ w N k).un r s->r<N:=λr s x=>by
 rcases ah.fS.1 x with x|⟨i,hi,rfl,rfl⟩
 ·exact QL (h.bC r s x) hN
 ·omega
theorem dx.sync(h:dx P L T τ fr cs w)(t:Nat->Question->Nat){N:Nat}(hN:w.heap.size<=N)(k:Kd):Sync L (CC P L T) (dJ τ w N k) k N w {w with tape:=t}:=by
 refine⟨λr s hr hl=>?_,λi hi=>ah.vL (by omega)⟩;rcases ah.fS.1 hr with hr|⟨i,hi,rfl,rfl⟩
 ·obtain⟨o,q,h1,h2,h3⟩:=h.obj r s hr;exact⟨o,q,h1,h2,h3.tk (ah.eU ..) (h.gC N k) hr⟩
 ·omega
theorem ed.rS{C:FuncId->Code->Prop}(h:ed L C τ (.deferred d) q):d=none\/d=some []:=by
 cases h with
 |deferred h=>exact h
theorem KR.rS{C:FuncId->Code->Prop}(h:KR L C τ r s (.deferred d) q)(hu:τ.un r s):d=none\/d=some []:=by
 rcases hu with hu|hu|hu
 ·have:=h.all hu;cases this
 ·obtain⟨xs,ys,e,f,e1,_⟩:=h.box hu;cases e1
 ·exact (h.lp hu).rS
theorem dx.behind(h:dx P L T τ fr cs w){v w1 v1:World}{es fs es1 fs1:Array Event}(hg:w.heap.size<=w1.heap.size)(hB:bV L (CC P L T) (dJ τ w w1.heap.size k) k w1.heap.size w v w1 v1 es fs es1 fs1):fx w1:=by
 intro r d hd;have hr:=(Array.getElem?_eq_some_iff.1 hd).1;by_cases hu: ∃s,(dJ τ w w1.heap.size k).un r s
 ·obtain⟨s,hu⟩:=hu;obtain⟨o,q,h1,h2,h3⟩:=hB.sync.held r s hu hr;rw[hd]at h1;cases h1;exact h3.rS hu
 ·have hlt:r<w.heap.size:=Nat.lt_of_not_le λhle=>hu ⟨r,ah.fS.2 (.inr ⟨r-w.heap.size,by omega,by omega,by omega⟩)⟩;have ha:=hB.kL r hlt λs hx=>hu ⟨s,by
   rcases hx with hx|hx|hx
   ·exact .inl ((h.gC w1.heap.size k).own _ _ hx)
   ·exact .inr (.inl hx)
   ·exact .inr (.inr hx)⟩
  rw[ha]at hd;exact h.tL r d hd
theorem dx.step(A:iL P L T)(h:dx P L T τ fr cs w)(hlast:fr.mode=.returning->fr.defers= []->cs≠[]){m:Bool}{g1:Goroutine}{w1:World}{es:Array Event}(e:stepG P m {frame:=fr,callers:=cs++B,status:=.running,dying:=none} w=.go g1 w1 es)(hf:fF g1):
  ∃fr1 cs1,g1= {frame:=fr1,callers:=cs1++B,status:=.running,dying:=none}/\ik P L T fr1 cs1 w1/\w1.tape=w.tape/\w.drawn<=w1.drawn/\
   ∀t:Nat->Question->Nat,(∀i q,w.drawn<=i->i<w1.drawn->t i q=w.tape i q)->
    stepG P m {frame:=fr,callers:=cs++B,status:=.running,dying:=none} {w with tape:=t}=.go g1 {w1 with tape:=t} es:=by
 have gV:∀(t:Nat->Question->Nat) N,w.heap.size<=N->w1.heap.size<=N->(∀j q,w.drawn+j<w1.drawn->t (w.drawn+j) q=w.tape (w.drawn+j) q)->_:=λt N hN hN2 ht=>
  vT (P:=P) (G:=P.funcs) (B:=B) (D:=B) (A.stat.env (h.gC N (fo L fr)) (ah.gz h.flat)) A.stat.br (ah.gz h.flat) (h.lD hN _) rfl (h.sync t hN _) m m (h.frame.mono (ah.eU ..)) (h.callers.mono (ah.eU ..)) h.bot
   hlast g1 w1 es e hf hN2 ht
 have hsz:w.heap.size<=w1.heap.size:=by
  obtain⟨_,_,_,_,_,hB⟩:=gV w.tape (max w.heap.size w1.heap.size) (by omega) (by omega) (λ_ _ _=>rfl);exact hB.grow
 obtain⟨h1,v1,fs,e2,hG,hB⟩:=gV w.tape w1.heap.size hsz (AI _) (λ_ _ _=>rfl);have e2':stepG P m {frame:=fr,callers:=cs++B,status:=.running,dying:=none} w=.go h1 v1 fs:=e2;rw[e]at e2';cases e2';obtain⟨cs1,ds1,c1,c2,c3,c4⟩:=hG.callers;have hcs:cs1=ds1:=Rx (c1.symm.trans c2);subst hcs;have run1:∀{τ:ah} {a b:Frame},fM P P.funcs L T τ a b->bl P L T τ a b:=λh=>by
  cases h with
  |run h=>exact h
  |bj h=>exact absurd h A.np
 refine⟨g1.frame,cs1,?_,⟨dJ τ w w1.heap.size (fo L fr),h.uK _ _,run1 hG.frame,c3,c4,h.gC _ _,ah.gz h.flat,h.lD hsz _,λr s hx=>hB.sync.held r s hx (h.lD hsz _ r s hx),h.behind hsz hB⟩,hB.p6,hB.draw,λt ht=>?_⟩
 ·obtain⟨a1,a2,a3,a4,a5⟩:=g1;have s1:=hG.status.1;have s2:=hG.dying.1;have s3:=hG.offers.1;simp only at s1 s2 s3 c1;subst s1 s2 s3 c1;rfl
 ·obtain⟨h2,v2,fs2,e3,hG2,hB2⟩:=gV t w1.heap.size hsz (AI _) (λj q hj=>ht _ q (Nat.le_add_right _ _) hj);obtain⟨cs2,ds2,d1,d2,d3,d4⟩:=hG2.callers;have hbx:=(h.gC w1.heap.size (fo L fr)).toeh;have hdx:=h.uK w1.heap.size (fo L fr);have hg:h2=g1:=by
   have k1:=bl.dg A.aW hbx hdx (run1 hG2.frame);have k2:=fe.dg A.aW hbx hdx d3;have s1:=hG2.status;have s2:=hG2.dying;have s3:=hG2.offers;clear hG2 hG hf e e2 hB hB2 gV;obtain⟨a1,a2,a3,a4,a5⟩:=g1;obtain⟨b1,b2,b3,b4,b5⟩:=h2;simp only at s1 s2 s3 d1 d2 k1;rw[d1,d2,k1,k2,s1.1,s1.2,s2.1,s2.2,s3.1,s3.2]
  have hw:v2= {w1 with tape:=t}:=by
   have z1:=hB2.size;have z2:=hB2.drawn;have z3:=hB2.tape;have z4:=hB2.os;have z5:=hB2.output;have z6:=hB2.sR;have z7:=hB2.q6;have hheap:v2.heap=w1.heap:=by
    apply Array.ext_getElem?;intro r;by_cases hr:r<w1.heap.size
    ·by_cases hu: ∃s,(dJ τ w w1.heap.size (fo L fr)).un r s
     ·obtain⟨s,hu⟩:=hu;obtain⟨o,q,y1,y2,y3⟩:=hB2.sync.held r s hu hr;have ers:=hdx r s hu;subst ers;rw[y1,y2,KR.dg A.aW hbx hdx y3 hu]
     ·have hlt:r<w.heap.size:=Nat.lt_of_not_le λhle=>hu ⟨r,ah.fS.2 (.inr ⟨r-w.heap.size,by omega,by omega,by omega⟩)⟩;have un:∀{r s},(dJ τ w w1.heap.size (fo L fr)).mine r s->(dJ τ w w1.heap.size (fo L fr)).un r s:=λhx=>by
       rcases hx with hx|hx|hx
       ·exact .inl (hbx.own _ _ hx)
       ·exact .inr (.inl hx)
       ·exact .inr (.inr hx)
      have y:=hB2.eX r hlt λr' hx=>hu ⟨r,by have:=hdx _ _ (un hx);subst this;exact un hx⟩;have y':=hB2.kL r hlt λs hx=>hu ⟨s,un hx⟩;rw[y,y']
    ·have z1':v2.heap.size=w1.heap.size:=by simpa[Ry] using z1
     rw[Array.getElem?_eq_none (by omega),Array.getElem?_eq_none (by omega)]
   have z2':v2.drawn=w1.drawn:=by simpa[Ry] using z2
   obtain⟨q1,q2,q3,q4,q5⟩:=v2;obtain⟨p1,p2,p3,p4,p5⟩:=w1;simp only at hheap z2' z3 z4 z5 z6 z7 ⊢;rw[hheap,z2',z3,z4,z5,<-z6,<-z7]
  have hes:fs2=es:=by
   obtain⟨zs,y1,y2,y3⟩:=hB2.events;rw[y1,y2];congr 1;refine Array.map_congr_left λz hz=>?_;obtain⟨z1,z2⟩:=z;have un:∀{r s},(dJ τ w w1.heap.size (fo L fr)).mine r s->r=s:=λhx=>hdx _ _ (by
    rcases hx with hx|hx|hx
    ·exact .inl (hbx.own _ _ hx)
    ·exact .inr (.inl hx)
    ·exact .inr (.inr hx))
   have hx:gQ (dJ τ w w1.heap.size (fo L fr)) z1 z2:=y3 _ hz;cases hx with
   |cell h=>rw[AR.dg hdx h]
   |write h=>rw[AR.dg (λ_ _ x=>un x) h]
   |obj h=>rw[hdx _ _ h]
   |set h=>rw[un h]
   |noRoom=>rfl
  rw[<-hg,<-hw,<-hes];exact e3
end
end
section
open Go.Conc
section
variable {P:Program}{L:au}{T:aO}{τ:ah}{F:FuncId->Prop}{fr:Frame}{cs B:List Frame}{w:World}
def Marks(ds:List Deferred):Prop:=∀d∈ds,∃r,d= {target:=.collected r,args:=#[]}
def iN(F:FuncId->Prop)(fr:Frame):Prop:=F fr.fn/\Marks fr.defers
def Bz(F:FuncId->Prop)(B:List Frame)(g:Goroutine)(w:World):Prop:=
 ∃fr cs ch,g= {frame:=fr,callers:=cs++B,status:=.running,dying:=none}/\fr.mode=.panicking ch/\iN F fr/\(∀c∈cs,iN F c)/\fx w
def eF(F:FuncId->Prop)(B:List Frame)(s:GStep):Prop:=
 (∃g1 w1 es,s=.go g1 w1 es/\fF g1)\/(∃o w1 es,s=.ended o w1 es)\/(∃g1 w1 es,s=.go g1 w1 es/\Bz F B g1 w1)
theorem eF.after{s:GStep}(h:eF F B s)(es:Array Event):eF F B (GStep.after es s):=by
 rcases h with⟨g,w,es',rfl,h⟩|⟨o,w,es',rfl⟩|⟨g,w,es',rfl,h⟩
 ·exact .inl ⟨g,w,_,rfl,h⟩
 ·exact .inr (.inl ⟨o,w,_,rfl⟩)
 ·exact .inr (.inr ⟨g,w,_,rfl,h⟩)
theorem Cn{xs ys:List Deferred}(h:L2 (gm τ) xs ys):Marks xs:=by
 induction h with
 |nil=>intro d hd;cases hd
 |cons h _ ih=>
  intro d hd;cases hd with
  |head=>cases h;exact⟨_,rfl⟩
  |tail _ hd=>exact ih d hd
theorem bl.rM(h:bl P L T τ fr gr):iN L.fn fr:=⟨h.br,Cn h.defers⟩
theorem xG{c:bh}{ds:List Frame}(h:fe P L T τ c cs ds):∀c∈cs,iN L.fn c:=by
 induction h with
 |nil=>intro c hc;cases hc
 |cons h _ _ ih=>
  intro c hc;cases hc with
  |head=>exact h.rM
  |tail _ hc=>exact ih c hc
theorem pO(fr:Frame)(v:Value):(fr.finish v).kind=fr.kind:=by
 unfold Frame.finish;split<;>rfl
theorem raise_mode(fr:Frame)(vs:List PanicEntry): ∃ch,(fr.raise vs).mode=.panicking ch:=by
 unfold Frame.raise;split
 ·exact⟨_,rfl⟩
 ·exact⟨_,rfl⟩
theorem Be{fr:Frame}(h:iN F fr)(vs:List PanicEntry):iN F (fr.raise vs):=by
 unfold Frame.raise;split<;>exact h
theorem ym{fr:Frame}(h:iN F fr)(hc:∀c∈cs,iN F c)(hd:fx w)(vs:List PanicEntry):Bz F B {frame:=fr.raise vs,callers:=cs++B,status:=.running,dying:=none} w:=by
 obtain⟨ch,hm⟩:=raise_mode fr vs;exact⟨fr.raise vs,cs,ch,rfl,hm,Be h vs,hc,hd⟩
theorem bl.oW(h:bl P L T τ fr gr):∀c,fr.mode≠.panicking c:=by
 intro c e;rcases h.run with h|h
 ·rw[h]at e;cases e
 ·rw[h.1]at e;cases e
theorem dx.dh(h:dx P L T τ fr cs w)(k:Kd){R:ah->α->α->Prop}{p:Sem α}(hp:∀N,w.heap.size<=N->ae P P.funcs L (CC P L T) (dJ τ w N k) k (R (dJ τ w N k)) p p):
  (∃a b w1 es,p.runT P w #[]=(.ok a w1,es)/\w.heap.size<=w1.heap.size/\R (dJ τ w w1.heap.size k) a b/\(∀r s,(dJ τ w w1.heap.size k).un r s->∃o q,w1.heap[r]?=some o/\w1.heap[s]?=some q/\KR L (CC P L T) (dJ τ w w1.heap.size k) r s o q)/\fx w1)\/(∃hh w1 es,p.runT P w #[]=(.halt hh w1,es)/\jN hh/\fx w1):=by
 cases hr:p.runT P w #[] with
 |mk r es=>
  cases r with
  |ok a w1=>
   have hg:=(Sem.mh P _ _ _ hr).1;obtain⟨b,v1,fs,e1,hR,hB⟩:=(hp w1.heap.size hg).oJ (h.gC _ _) w {w with tape:=w.tape} #[] #[] a w1 es (h.sync w.tape hg k) hr (AI _) (λ_ _ _=>rfl) (h.lD hg k);have e1':p.runT P w #[]=(.ok b v1,fs):=e1;rw[hr]at e1';cases e1';exact .inl ⟨a,a,w1,es,rfl,hg,hR,λr s hx=>hB.sync.held r s hx (h.lD hg k r s hx),h.behind hg hB⟩
  |halt hh w1=>
   have hg:=Sem.qN P _ _ _ hr;obtain⟨h1,h2⟩:=(hp w1.heap.size hg).NC (h.gC _ _) w {w with tape:=w.tape} #[] hh w1 es (h.sync w.tape hg k) h.tL hr (AI _) (h.lD hg k);exact .inr ⟨hh,w1,es,rfl,h1,h2⟩
theorem OL(A:iL P L T)(fr:Frame)(cs:List Frame)(g:Nat)(w:World): ∃o w1 es,early P fr cs none g w=.ended o w1 es:=by
 have hn:∀g,P.stepOf g=none:=A.stat.br.qy;unfold early;simp only[A.stat.br.ahead,hn];exact⟨_,_,_,rfl⟩
theorem dx.tE(A:iL P L T)(h:dx P L T τ fr cs w){c:bh}{p:Sem Next}(hp:∀N,w.heap.size<=N->ae P P.funcs L (CC P L T) (dJ τ w N k) k (cf L (CC P L T) (dJ τ w N k) T.fl c) p p):
  eF L.fn B (stepG.apply P true fr (cs++B) none p w):=by
 have hke:(fr.kind==CallKind.early)=false:=by rw[h.frame.kind.1];rfl
 have hkn:=(zl h.frame.todo).1;have hmode:=h.frame.oW;rcases h.dh k (R:=λσ=>cf L (CC P L T) σ T.fl c) hp with⟨a,b,w1,es,hr,_,hR,_,_⟩|⟨hh,w1,es,hr,ht,hd⟩
 ·simp only[stepG.apply,QD,hr,hke,QF,QC];refine eF.after ?_ _;cases hR with
  |value hv=>exact .inl ⟨_,_,_,rfl,rfl,rfl,λc e=>hmode c ((qp _ _).symm.trans e),(pO _ _).trans h.frame.kind.1⟩
  |skip=>exact .inl ⟨_,_,_,rfl,rfl,rfl,λc e=>hmode c ((qp _ _).symm.trans e),(pO _ _).trans h.frame.kind.1⟩
  |enter hf hx=>exact .inl ⟨_,_,_,rfl,rfl,rfl,λc e=>(by cases e),hkn⟩
  |round=>exact .inl ⟨_,_,_,rfl,rfl,rfl,λc e=>(by cases e),rfl⟩
 ·cases hh with
  |panic v=>
   simp only[stepG.apply,QD,hr,hke,QF,QC];exact eF.after (.inr (.inr ⟨_,_,_,rfl,ym h.frame.rM (xG h.callers) hd _⟩)) _
  |stuck s=>
   simp only[stepG.apply,QD,hr,hke,QF,QC];exact eF.after (.inr (.inl ⟨_,_,_,rfl⟩)) _
  |unsupported u=>
   cases u with
   |initOrder g=>
    obtain⟨o,w2,es2,he⟩:=OL A fr (cs++B) g w1;simp only[stepG.apply,QD,hr,hke,QF,QC,he];exact eF.after (.inr (.inl ⟨_,_,_,rfl⟩)) _
   |_=>
    simp only[stepG.apply,QD,hr,hke,QF,QC];exact eF.after (.inr (.inl ⟨_,_,_,rfl⟩)) _
  |_=>exact ht.elim
theorem dx.yY(h:dx P L T τ fr cs w)(hne:cs≠[]){m:Bool}(v:Value)(w1:World):eF L.fn B (doReturn P m fr (cs++B) none v w1):=by
 have hc:=h.callers;cases hc with
 |nil=>exact absurd rfl hne
 |cons hc _ _=>
  simp only[Rz,doReturn,h.frame.kind.1];exact .inl ⟨_,_,_,rfl,rfl,rfl,λx e=>hc.oW x ((qp _ _).symm.trans e),(pO _ _).trans hc.kind.1⟩
end
end
section
open Go.Conc
section
variable {P:Program}{L:au}{T:aO}{τ:ah}{F:FuncId->Prop}{fr:Frame}{cs B:List Frame}{w:World}
theorem L2.eq{R:α->α->Prop}(hR:∀a b,R a b->a=b){xs ys:List α}(h:L2 R xs ys):xs=ys:=by
 induction h with
 |nil=>rfl
 |cons h _ ih=>rw[hR _ _ h,ih]
theorem dx.rW(A:iL P L T)(h:dx P L T τ fr cs w)(hlast:fr.mode=.returning->fr.defers= []->cs≠[])(m:Bool):
  eF L.fn B (stepG P m {frame:=fr,callers:=cs++B,status:=.running,dying:=none} w):=by
 have hfr:=h.frame;have K:=A.stat.br;have go:∀(k:List Item) (w1:World),eF L.fn B (.go {frame:={fr with todo:=k},callers:=cs++B,status:=.running,dying:=none} w1):=λk w1=>
  .inl ⟨_,_,_,rfl,rfl,rfl,hfr.oW,hfr.kind.1⟩
 rcases hfr.run with hrun|⟨hret,_⟩
 ·have e1:stepG P m {frame:=fr,callers:=cs++B,status:=.running,dying:=none} w=stepG.exec P m true fr (cs++B) none w:=by simp only[stepG,hrun]
  rw[e1];have leave:∀(jump:Option Code),(∀c,jump=some c->Jump c)->eF L.fn B (iI P m fr (cs++B) w jump fr.roundOf):=by
   intro jump hj;have hr:=hfr.round;rcases h1:fr.roundOf with _|l
   ·unfold iI;by_cases hjm:rh jump=true
    ·simp only[hjm,QD];exact .inl ⟨_,_,_,rfl,rfl,rfl,λc e=>(by cases e),hfr.kind.1⟩
    ·simp only[hjm,QF,QC];exact .inr (.inl ⟨_,_,_,rfl⟩)
   ·unfold iI;rw[h1]at hr;refine eF.after ?_ _;rcases h.dh .own (R:=λσ=>CR L σ .any) (p:=Instr.endRound l jump) (λN hN=>zB ((ah.eU ..).lp _ _ hr) hj) with⟨a,b,w1,es,e,_⟩|⟨hh,w1,es,e,_⟩
    ·rw[e];exact h.yY (tO h.bot h1) a w1
    ·rw[e];exact .inr (.inl ⟨_,_,_,rfl⟩)
  have ht:=hfr.todo;generalize ek:fr.todo=k at ht;cases k with
  |nil=>rw[tB ek];exact leave none (λc hc=>by cases hc)
  |cons it k=>
   cases ht with
   |cons hi hk=>
    cases hi with
    |inBlock id=>simp only[stepG.exec,ek];exact go _ _
    |inLoop hc=>simp only[stepG.exec,ek];exact go _ _
    |beginRound=>
     simp only[stepG.exec,ek];refine h.tE A (k:=.own) (c:=.any) λN hN=>?_;have hr:=hfr.round;cases h1:fr.roundOf with
     |none=>exact .af _ (ai.bind' (.stuck _))
     |some l=>
      rw[h1]at hr;exact ae.bind' (yB ((ah.eU ..).lp _ _ hr)) λ_ _ _=>.pure .skip
    |inRangeFunc hl=>simp only[stepG.exec,ek];exact .inr (.inl ⟨_,_,_,rfl⟩)
    |@endRangeFunc lp _ hl=>
     rw[sP ek];refine eF.after ?_ _;rcases h.dh .own (R:=λ_ a b=>a=b/\∀c,a=some c->Jump c) (p:=Instr.endLoop lp) (λN hN=>BS ((ah.eU ..).lp _ _ hl)) with⟨a,b,w1,es,e,_⟩|⟨hh,w1,es,e,ht,hd⟩
     ·rw[e];exact go _ _
     ·rw[e];cases hh with
      |panic v=>exact .inr (.inr ⟨_,_,_,rfl,ym hfr.rM (xG h.callers) hd _⟩)
      |_=>exact .inr (.inl ⟨_,_,_,rfl⟩)
    |@inRegion ops todo hops=>
     cases todo with
     |nil=>simp only[stepG.exec,ek];exact go _ _
     |cons i rest=>
      rw[sU ek];split
      ·rename_i hw;have o1:fr.oper?=ops[i]? :=by unfold Frame.oper?;rw[ek]
       cases ho:ops[i]? with
       |none=>rw[ho]at hw;simp at hw
       |some o=>
        have hok:cj P L T fr.fn (l6 L fr.fn o) o.op=true:=Array.all_eq_true'.1 hops o (Array.mem_of_getElem? ho);rw[uf (o1.trans ho) hok];exact h.tE A λN hN=>yM (A.stat.env (h.gC N _) (ah.gz h.flat)) K.nj K.mW (ah.gz h.flat) ⟨λ_=>rfl,λ_=>rfl⟩ (λc x hx=>(hfr.mono (ah.eU ..)).eval K (h.gC N _).toeh (ah.gz h.flat) c x hx) o hok
      ·exact .inl ⟨_,_,_,rfl,rfl,rfl,λc e=>hfr.oW c ((qp _ _).symm.trans e),(pO _ _).trans hfr.kind.1⟩
    |@code c hc=>
     cases c with
     |skip=>simp only[stepG.exec,ek];exact go _ _
     |ret=>rw[uk ek];exact leave (some .ret) (λc hc=>by cases hc;exact .inl rfl)
     |seq x y=>simp only[stepG.exec,ek];exact go _ _
     |cond c x y=>
      simp only[stepG.exec,ek];split
      ·exact go _ _
      ·exact .inr (.inl ⟨_,_,_,rfl⟩)
     |block id c=>simp only[stepG.exec,ek];exact go _ _
     |loop c=>simp only[stepG.exec,ek];exact go _ _
     |exit id=>
      cases he:exitTo id k with
      |none=>rw[tW ek he];exact leave (some (.exit id)) (λc hc=>by cases hc;exact .inr ⟨_,rfl⟩)
      |some k'=>simp only[stepG.exec,ek,he,Option.elim];exact go _ _
     |region id ops draw=>
      cases draw with
      |false=>rw[sx ek];exact go _ _
      |true=>rw[tJ ek];exact go _ _
     |rangeFunc f ps x y=>
      simp only[cL,No]at hc;rw[sK ek];refine eF.after ?_ _;rcases h.dh .lp (R:=λσ a b=>σ.lp a.1 b.1/\L2 (gm σ) a.2 b.2) (p:=Instr.enterLoop fr.fn fr.tmps ps x y fr.roundOf) (λN hN=>An (hfr.mono (ah.eU ..)) ps (λp hp=>by simpa using Array.all_eq_true'.1 hc.1.1.2 p hp) hc.1.2 hc.2) with⟨a,b,w1,es,e,hg,⟨hl,hm⟩,hsy,hrest⟩|⟨hh,w1,es,e,_⟩
      ·rw[e];obtain⟨lp,mark⟩:=a;obtain⟨lq,mark'⟩:=b;simp only at hl hm;have hdx:=h.uK w1.heap.size .lp;have e1:lp=lq:=hdx _ _ (.inr (.inr hl));have e2:mark=mark':=hm.eq λa b hx=>by
        cases hx with
        |collected hx=>rw[hdx _ _ (.inr (.inr hx))]
       subst e1 e2;have h2:dx P L T (dJ τ w w1.heap.size .lp) {fr with todo:=.inRangeFunc lp::k,defers:=mark++fr.defers} cs w1:=by
        have hf2:=hfr.mono (ah.eU w.heap.size w.heap.size (w1.heap.size-w.heap.size) .lp);have hk2:L2 (dO P L T (dJ τ w w1.heap.size .lp) fr.fn) k k:=by
         have:=hf2.todo;rw[ek]at this;cases this with
         |cons _ hk=>exact hk
        exact⟨hdx,⟨hf2.fn,hf2.br,hf2.np,hf2.tmps,.cons (.inRangeFunc hl) hk2,hm.append hf2.defers,hf2.mode,hf2.run,hf2.kind,hf2.round⟩,h.callers.mono (ah.eU ..),h.bot.same rfl,h.gC _ _,ah.gz h.flat,h.lD hg _,hsy,hrest⟩
       refine h2.tE A (k:=.own) (c:=.any) λN hN=>?_;have hf3:=h2.frame.mono (ah.eU w1.heap.size w1.heap.size (N-w1.heap.size) .own)
       have:=yy (P:=P) (G:=P.funcs) (C:=CC P L T) (k₀:=.own) (h2.gC N .own).toeh (ah.gz h2.flat) K.nj K.mW (fl:=T.fl) (c:=.any) (uh _ _) (hf3.eval K (h2.gC N .own).toeh (ah.gz h2.flat) .cO f hc.1.1.1) ((ah.eU ..).lp _ _ hl);show ae P P.funcs L (CC P L T) _ .own (cf L (CC P L T) _ T.fl .any)
        (do let d ←Deferred.ofValue (({fr with todo:=.inRangeFunc lp::k,defers:=mark++fr.defers}:Frame).eval f) ((#[.const (.func (.yield lp) #[] #[])]:Array Operand).map ({fr with todo:=.inRangeFunc lp::k,defers:=mark++fr.defers}:Frame).eval);invoke d.target d.args)
        (do let d ←Deferred.ofValue (({fr with todo:=.inRangeFunc lp::k,defers:=mark++fr.defers}:Frame).eval f) ((#[.const (.func (.yield lp) #[] #[])]:Array Operand).map ({fr with todo:=.inRangeFunc lp::k,defers:=mark++fr.defers}:Frame).eval);invoke d.target d.args)
       rw[og];exact this
      ·rw[e];exact .inr (.inl ⟨_,_,_,rfl⟩)
     |refuse y=>simp only[stepG.exec,ek];exact .inr (.inl ⟨_,_,_,rfl⟩)
     |_=>cases hc
 ·have e1:stepG P m {frame:=fr,callers:=cs++B,status:=.running,dying:=none} w=unwind P m fr (cs++B) none w:=by simp only[stepG,hret]
  rw[e1];have hdf:=hfr.defers;generalize ek:fr.defers=k at hdf;cases k with
  |nil=>
   obtain⟨fn,c,h1,_,h2,_,hres⟩:=K.body fr.fn hfr.br hfr.np;rw[nk ek hret h1];refine eF.after ?_ _;rcases h.dh .own (R:=λσ=>CR L σ (L.res fr.fn)) (p:=results fn fr.tmps) (λN hN=>uF (h.gC N _).toeh (ah.gz h.flat) fn hres (hfr.mono (ah.eU ..)).tmps) with⟨a,b,w1,es,e,_⟩|⟨hh,w1,es,e,_⟩
   ·rw[e];exact h.yY (hlast hret ek) a w1
   ·rw[e];cases hh<;>exact .inr (.inl ⟨_,_,_,rfl⟩)
  |cons d ks=>
   cases hdf with
   |cons hi _=>
    cases hi with
    |@collected r s hrs=>
     rw[unwind_mark ek];refine eF.after ?_ _;rcases h.dh .own (R:=λ_ a b=>a= []/\b= []) (p:=Instr.takeDeferred r) (λN hN=>yO ((ah.eU ..).lp _ _ hrs)) with⟨a,b,w1,es,e,_⟩|⟨hh,w1,es,e,_⟩
     ·rw[e];exact .inl ⟨_,_,_,rfl,rfl,rfl,hfr.oW,hfr.kind.1⟩
     ·rw[e];exact .inr (.inl ⟨_,_,_,rfl⟩)
theorem Ck(r:Nat)(w:World)(hd:fx w):(∃w1 es,(Instr.takeDeferred r).runT P w #[]=(.ok [] w1,es)/\fx w1)\/(∃hh w1 es,(Instr.takeDeferred r).runT P w #[]=(.halt hh w1,es)):=by
 have e:∀o,w.heap[r]?=some o->(∀c el f,o≠.cells c el f)->(Instr.takeDeferred r).runT P w #[]=
   ((match o with|.deferred (some ds)=>(do setObj r (.deferred none);pure ds:Sem (List Deferred))|_=>stuck "range over a function: the deferred calls have been taken")).runT P w (#[].push ⟨.obj r,false,o.isChan⟩):=by
  intro o ho hne;unfold Instr.takeDeferred;show (Sem.getObj r _).runT P w #[]=_;rw[Sem.runT,ho];cases o with
  |cells c el f=>exact absurd rfl (hne _ _ _)
  |deferred d=>cases d<;>rfl
  |_=>rfl
 cases ho:w.heap[r]? with
 |none=>
  refine .inr ⟨.stuck "getObj: no such block",w,#[],?_⟩;unfold Instr.takeDeferred;show (Sem.getObj r _).runT P w #[]=_;rw[Sem.runT,ho]
 |some o=>
  cases o with
  |cells c el f=>
   refine .inr ⟨.stuck "getObj: a row of cells",w,#[],?_⟩;unfold Instr.takeDeferred;show (Sem.getObj r _).runT P w #[]=_;rw[Sem.runT,ho]
  |deferred d=>
   rw[e _ ho (by simp)];rcases hd r d ho with rfl|rfl
   ·exact .inr ⟨_,_,_,rfl⟩
   ·refine .inl ⟨{w with heap:=w.heap.setIfInBounds r (.deferred none)},(#[].push ⟨.obj r,false,false⟩).push ⟨.obj r,true,false⟩,?_,?_⟩
    ·show (Sem.setObj r (.deferred none) _).runT P w _=_;rw[Sem.runT,ho];rfl
    ·intro r' d' hd';rw[ly]at hd';exact hd.modify (r:=r) (f:=λ_=>.deferred none) (λ_ _ _ e=>by cases e;exact .inl rfl) r' d' hd'
  |_=>rw[e _ ho (by simp)];exact .inr ⟨_,_,_,rfl⟩
theorem panics(A:iL P L T):∀(n:Nat) (fr:Frame) (cs:List Frame) (w:World) (ch:List PanicEntry),fr.mode=.panicking ch->iN L.fn fr->(∀c∈cs,iN L.fn c)->fx w->
  ∀mm,runN P n (lone fr (cs++ [wall]) w)=.next mm->∃g,mm.gs[0]?=some g/\∃ch,g.frame.mode=.panicking ch
 |0,fr,cs,w,ch,hm,_,_,_,mm,e=>by
  simp only[runN,Stepped.next.injEq]at e;subst e;exact⟨_,rfl,ch,hm⟩
 |n+1,fr,cs,w,ch,hm,hf,hc,hd,mm,e=>by
  have e1:stepG P true {frame:=fr,callers:=cs++ [wall],status:=.running,dying:=none} w=unwind P true fr (cs++ [wall]) none w:=by simp only[stepG,hm]
  obtain⟨fn,c,h1,_⟩:=A.stat.br.body fr.fn hf.1 (λe=>A.np (e▸hf.1));have hcat:fr.catches P=false:=by simp only[Frame.catches,h1]
  cases hdf:fr.defers with
  |cons d ks=>
   obtain⟨r,rfl⟩:=hf.2 d (by rw[hdf];simp);rw[unwind_mark hdf]at e1;rcases Ck (P:=P) r w hd with⟨w1,es,ht,hd1⟩|⟨hh,w1,es,ht⟩
   ·rw[ht]at e1;have hst:step P (lone fr (cs++ [wall]) w)=.next (lone {fr with defers:=ks} (cs++ [wall]) w1):=step_lone_go (by rw[e1];rfl);simp only[runN,hst]at e;exact panics A n {fr with defers:=ks} cs w1 ch hm ⟨hf.1,λd hd=>hf.2 d (by rw[hdf];exact List.mem_cons_of_mem _ hd)⟩ hc hd1 mm e
   ·rw[ht]at e1;have hst: ∃o,step P (lone fr (cs++ [wall]) w)=.ended o w1:=⟨_,step_lone_ended (by rw[e1];rfl)⟩
    obtain⟨o,hst⟩:=hst;simp only[runN,hst]at e;cases e
  |nil=>
   cases cs with
   |cons c cs=>
    have e2:unwind P true fr ((c::cs)++ [wall]) none w=.go {frame:=c.raise ch,callers:=cs++ [wall],status:=.running,dying:=none} w:=by
     simp only[unwind,hdf,hm,hcat,QF,QC,Rz]
    have hst:step P (lone fr ((c::cs)++ [wall]) w)=.next (lone (c.raise ch) (cs++ [wall]) w):=step_lone_go (by rw[e1,e2];rfl);simp only[runN,hst]at e;obtain⟨ch',hm'⟩:=raise_mode c ch;exact panics A n (c.raise ch) cs w ch' hm' (Be (hc c (by simp)) _) (λx hx=>hc x (List.mem_cons_of_mem _ hx)) hd mm e
   |nil=>
    have e2:unwind P true fr ([]++ [wall]) none w=.go {frame:=wall.raise ch,callers:=[],status:=.running,dying:=none} w:=by
     simp only[unwind,hdf,hm,hcat,QF,QC,List.nil_append]
    have hst:step P (lone fr ([]++ [wall]) w)=.next (lone (wall.raise ch) [] w):=step_lone_go (by rw[e1,e2];rfl);simp only[runN,hst]at e;obtain⟨ch',hm'⟩:=raise_mode wall ch;cases n with
    |zero=>
     simp only[runN,Stepped.next.injEq]at e;subst e;exact⟨_,rfl,ch',hm'⟩
    |succ n=>
     have hst2: ∃o,step P (lone (wall.raise ch) [] w)=.ended o w:=by
      have hdw:(wall.raise ch).defers= [{target:=.nil,args:=#[]}]:=rfl;refine⟨.unsupported (.noEntry "machine/Return: a deferred call of a nil function value, made while the frame is unwinding") ((wall.raise ch).pos P),step_lone_ended ?_⟩;simp only[stepG,hm',unwind,hdw,callDeferred];rfl
     obtain⟨o,hst2⟩:=hst2;simp only[runN,hst2]at e;cases e
end
end
end Go.Proofs.YtldmcdeibiclkaaGreat.U
