/-
  Toward converged_holds: THE COLOURS OF THIS SEAT (wip/tools/col.lean.txt works them out): the starter's table, the
-/
import Derived.Test.YtldmcdeibiclkaaGreatDoorC13
import Derived.Test.YtldmcdeibiclkaaGreatDoorC01
import Derived.Test.YtldmcdeibiclkaaGreatDoorC05
set_option linter.unusedVariables false
set_option linter.unusedSimpArgs false
set_option maxRecDepth 100000
set_option maxHeartbeats 20000000
namespace Go.Proofs.YtldmcdeibiclkaaGreatDoor.U
variable {α:Type}{q o:Obj}{π:Nat->Nat->Prop}{r f s:Nat}{a:Addr}{v:Value}{gr:Frame}{d:Option (List Deferred)}{k:Kd}
section
set_option maxRecDepth 100000
def qa:List Nat:=[3,4,5,6,7,8,9,10,11,12,13,14,15,16,17,18,19,20,21,22,23,24,25,26,27,28,29,30,31,32,33,34,35,36,37,38,39,40,41,42,43,44,45,46,47,48,49,50,51,52,53,54,55,56,57,58,59,60,61,62,63,64,65,66,67,68,69,70,71,72,73,74,75,76,77,78,79,80,81,82,83,84,85,86,87,92,93,94,95,96,97,98,99,100,101,102,103,104,105,106,107,108,109,110,111,112,113,114,115,116,117,136,137,138,139,140,141,142,143,144,145,146,152,153,154,155,156,157,158,159,160,161,162,163,164,165,166,167]
def vU:List Nat:=[28,48,49,66,70,71,72,82,85,86,87,93,94,95,96,97,115,116,117,136,137,143,144,152,153,154,155,156,157,158,159,160,163,164,165,166,167]
def Sq(f t:Nat):bI:=if (f==49&&t==7)||(f==71&&t==0)||(f==71&&t==4)||(f==72&&t==2)||(f==72&&t==3)||(f==95&&t==0)||(f==95&&t==3)||(f==136&&t==1)||(f==136&&t==6) then .dM else if (f==97&&t==0)||(f==97&&t==10) then .iT else if (f==55&&t==15)||(f==56&&t==9)||(f==74&&t==2)||(f==74&&t==42) then .loc else .any
def Kz(f:Nat):bI:=if f==72 then .dM else .any
def TF:List (Nat×Nat):=[(48,180349),(49,11555102),(70,24625626428766142),(71,366),(72,2),(82,2),(85,2),(86,139290),(87,28),(93,11837),(94,393277),(95,22),(96,43),(97,36),(115,2),(116,2),(117,2),(136,7449),(137,170307336999878687074388026878641307889),(143,2),(144,3815880923),(152,468709937250361),(153,8629559964467385),(154,30706245946853818553),(155,20100446945977),(156,223690809),(157,9066177787099598164671015674677074854009),(158,12),(159,503706889378935270451441),(160,155890296660192168261890238920840095753930246804209),(163,30882309152275437715697),(164,8381),(165,2425394161),(166,2),(167,10048761)]
def H8(f t:Nat):Bool:=match TF.find? λp=>p.1==f with|some p=>p.2.testBit t|none=>false
def QH(f t:Nat):bI:=if (f==49&&t==7)||(f==71&&t==0)||(f==71&&t==4)||(f==72&&t==2)||(f==72&&t==3)||(f==95&&t==0)||(f==95&&t==3)||(f==136&&t==1)||(f==136&&t==6) then .dM else if (f==97&&t==0)||(f==97&&t==10) then .iT else if (f==136&&t==2) then .box else if H8 f t then .own else .any
def Nf(f:Nat):bI:=if f==72 then .dM else if f==48||f==49||f==70||f==71||f==87||f==93||f==94||f==95||f==136||f==157 then .own else .any
def dR:aN:=⟨true,λf=>qa.contains f,λf=>f==28||f==66,λf=>f==97,λf=>f==75||f==76,fQ,1⟩
def im:aN:=⟨false,λf=>vU.contains f,λf=>f==28||f==66,λf=>f==97,λ_=>false,fQ,1⟩
def cL(J:String->Value):ax:=⟨λf=>dR.fb f=true,λf=>dR.cb f=true,λf=>dR.ib f=true,λf=>dR.lb f=true,J,Sq,Kz,λf=>if f==fQ then some 3 else none⟩
def iG(J:String->Value):ax:=⟨λf=>im.fb f=true,λf=>im.cb f=true,λf=>im.ib f=true,λf=>im.lb f=true,J,QH,Nf,λ_=>none⟩
section
variable {J:String->Value}
def tV(P:Program)(L:ax)(T:aN)(f:Nat):Bool:=
 match P.funcs[f]? with
 |some fn=>(match fn.body with|some c=>dL P L T f c&&kO L T f fn|none=>false)&&!fn.norace&&!(fn.name== "runtime.NumGoroutine")
 |none=>false
def qJ(fn:Func):Bool:=fn.body.isSome&&!fn.norace&&!(fn.name== "runtime.NumGoroutine")
theorem Py:(qa.all λf=>f==fQ||tV Tryz.prog (cL J) dR f)=true:=by kernel_rfl
theorem LH:(vU.all λf=>f !=fQ&&tV Tryz.prog (iG J) im f)=true:=by kernel_rfl
theorem QZ:(Tryz.prog.funcs[(fQ:Nat)]?).any qJ=true/\qJ mz=true:=⟨by kernel_rfl,by kernel_rfl⟩
theorem Pu:fQ<Tryz.prog.funcs.size:=of_decide_eq_true (by kernel_rfl)
theorem yE(h:f≠fQ):Gg[f]?=Tryz.prog.funcs[f]? :=by
 unfold Gg;rw[Array.getElem?_setIfInBounds_ne (λe=>h e.symm)]
theorem A0:Gg[(fQ:Nat)]?=some mz:=by
 unfold Gg;rw[Array.getElem?_setIfInBounds_self_of_lt Pu]
section
variable {L:ax}{T:aN}
theorem Cd(h:tV Tryz.prog L T f=true): ∃fn c,Tryz.prog.funcs[f]?=some fn/\fn.body=some c/\dL Tryz.prog L T f c=true/\kO L T f fn=true/\fn.norace=false/\(fn.name== "runtime.NumGoroutine")=false:=by
 unfold tV at h;split at h
 ·rename_i fn hf;simp only[IN,Bool.not_eq_true']at h;obtain⟨⟨h1,h2⟩,h3⟩:=h;split at h1
  ·rename_i c hc;simp only[IN]at h1;exact⟨fn,c,hf,hc,h1.1,h1.2,h2,h3⟩
  ·cases h1
 ·cases h
end
theorem xr:∀f,(cL J).fn f->f≠dR.bJ->∃fn c,Tryz.prog.funcs[f]?=some fn/\Gg[f]?=some fn/\fn.body=some c/\dL Tryz.prog (cL J) dR f c=true/\kO (cL J) dR f fn=true/\fn.norace=false/\(fn.name== "runtime.NumGoroutine")=false:=by
 intro f hf hn;have hm:f∈qa:=by simpa[cL,dR] using hf
 have:=List.all_eq_true.1 (Py (J:=J)) f hm;simp only[VU,beq_iff_eq]at this;obtain⟨fn,c,h1,h2,h3,h4,h5,h6⟩:=Cd (this.resolve_left hn);exact⟨fn,c,h1,by rw[yE hn];exact h1,h2,h3,h4,h5,h6⟩
theorem wF:∀f,(iG J).fn f->f≠fQ/\∃fn c,Tryz.prog.funcs[f]?=some fn/\Gg[f]?=some fn/\fn.body=some c/\dL Tryz.prog (iG J) im f c=true/\kO (iG J) im f fn=true/\fn.norace=false/\(fn.name== "runtime.NumGoroutine")=false:=by
 intro f hf;have hm:f∈vU:=by simpa[iG,im] using hf
 have:=List.all_eq_true.1 (LH (J:=J)) f hm;simp only[IN,bne_iff_ne]at this;obtain⟨fn,c,h1,h2,h3,h4,h5,h6⟩:=Cd this.2;exact⟨this.1,fn,c,h1,by rw[yE this.1];exact h1,h2,h3,h4,h5,h6⟩
def tC(c:Code):Bool:=(readies c).isEmpty
theorem Lj:((Tryz.prog.funcs.toList.all λf=>(f.body.map tC).getD true)&&tC oN)=true:=by kernel_rfl
theorem yx(g:Nat):Qg.stepOf g=none:=by
 unfold Program.stepOf;rw[Array.findIdx?_eq_none_iff];intro fn hfn;have key:∀c,fn.body=some c->readies c= []:=by
  have h:=Lj;simp only[IN]at h;intro c hc;have hm:fn∈Gg:=hfn;unfold Gg at hm;rcases Array.mem_or_eq_of_mem_setIfInBounds hm with hm|rfl
  ·have:=List.all_eq_true.1 h.1 fn (by simpa using hm);rw[hc]at this;simpa[tC] using this
  ·have:c=oN:=by
    have e:mz.body=some oN:=rfl;rw[e]at hc;exact (VV hc).symm
   subst this;simpa[tC] using h.2
 cases hb:fn.body with
 |none=>simp
 |some c=>simp[key c hb]
def rz:Nat->Value->Bool
 |0,_=>false
 |_+1,.bool _=>true
 |_+1,.int _ _=>true
 |_+1,.string _=>true
 |_+1,.pointer none=>true
 |_+1,.slice none _ _=>true
 |_+1,.map none=>true
 |_+1,.chan none=>true
 |_+1,.nilFunc=>true
 |_+1,.nilIface=>true
 |d+1,.agg c=>c.toList.all (rz d)
 |d+1,.tuple c=>c.toList.all (rz d)
 |_,_=>false
theorem uS{L:ax}:∀(d:Nat) (v:Value),rz d v=true->VR L π v v
 |0,v,h=>by cases v<;>cases h
 |d+1,v,h=>by
  cases v with
  |bool b=>exact .bool b
  |int k n=>exact .int k n
  |string s=>exact .string s
  |pointer p=>cases p with
   |none=>exact .bw
   |some a=>cases h
  |slice p n c=>cases p with
   |none=>exact .iw n c
   |some a=>cases h
  |map m=>cases m with
   |none=>exact .kH
   |some a=>cases h
  |chan m=>cases m with
   |none=>exact .pr
   |some a=>cases h
  |nilFunc=>exact .nilFunc
  |nilIface=>exact .nilIface
  |agg c=>
   have:=VR.agg (L:=L) (π:=π) (c.map λx=>(x,x)) (λz hz=>by
    obtain⟨x,hx,rfl⟩:=Array.mem_map.1 hz;exact uS d x (List.all_eq_true.1 h x (by simpa using hx)))
   simpa[Wv] using this
  |tuple c=>
   have:=VR.tuple (L:=L) (π:=π) (c.map λx=>(x,x)) (λz hz=>by
    obtain⟨x,hx,rfl⟩:=Array.mem_map.1 hz;exact uS d x (List.all_eq_true.1 h x (by simpa using hx)))
   simpa[Wv] using this
  |_=>cases h
def BF(i:TypeInfo):Bool:=(match i.desc with|.named n _=>n != "sync.copyChecker" |_=>true)&&(match i.zero with|some v=>rz 8 v|none=>true)
theorem Vg:(Tryz.prog.types.toList.all BF)=true:=by kernel_rfl
theorem EF(L:ax)(t:Nat)(i:TypeInfo)(h:Tryz.prog.types[t]?=some i):km L i:=by
 have:=List.all_eq_true.1 Vg i ((Array.mem_toList_iff).2 (Array.mem_of_getElem? h));unfold BF at this;refine⟨λv e π=>?_,λn u e=>?_⟩
 ·rw[e]at this;simp only[IN]at this;exact uS 8 v this.2
 ·rw[e]at this;simp only[IN,bne_iff_ne]at this;exact this.1
theorem p9(L:ax):(∀t i n u,Tryz.prog.info? t=some i->i.desc=.named n u->n≠ "sync.copyChecker")/\∀t i v,Tryz.prog.info? t=some i->i.zero=some v->∀π,VR L π v v:=
 ⟨λ_ _ n u h e=>(D1 (EF L) h).2 n u e,λ_ _ v h e π=>(D1 (EF L) h).1 v e π⟩
theorem kY:oh (cL J) dR:=by
 refine⟨λf h=>h,λf h=>h,λf h=>h,λf h=>h,λf h=>?_,λf h=>?_,λf h=>?_,λf h=>?_⟩
 ·have:f=28\/f=66:=by simpa[cL,dR] using h
  rcases this with rfl|rfl<;>exact⟨rfl,λi=>rfl,rfl⟩
 ·have:f=75\/f=76:=by simpa[cL,dR] using h
  rcases this with rfl|rfl<;>exact⟨rfl,λi=>rfl,rfl⟩
 ·rcases h with h|h|h
  ·have:f=28\/f=66:=by simpa[cL,dR] using h
   rcases this with rfl|rfl<;>rfl
  ·have:f=97:=by simpa[cL,dR] using h
   subst this;rfl
  ·have:f=75\/f=76:=by simpa[cL,dR] using h
   rcases this with rfl|rfl<;>rfl
 ·have:f=97:=by simpa[cL,dR] using h
  subst this;refine⟨rfl,rfl,λi hi=>?_,rfl⟩;rcases (show i=1\/2<=i by omega) with rfl|h
  ·exact .inl rfl
  ·exact .inr h
theorem JK:oh (iG J) im:=by
 refine⟨λf h=>h,λf h=>h,λf h=>h,λf h=>h,λf h=>?_,λf h=>?_,λf h=>rfl,λf h=>?_⟩
 ·have:f=28\/f=66:=by simpa[iG,im] using h
  rcases this with rfl|rfl<;>exact⟨rfl,λi=>rfl,rfl⟩
 ·simp[iG,im]at h
 ·have:f=97:=by simpa[iG,im] using h
  subst this;refine⟨rfl,rfl,λi hi=>?_,rfl⟩;rcases (show i=1\/2<=i by omega) with rfl|h
  ·exact .inl rfl
  ·exact .inr h
theorem xG:Tryz.prog.follows .staticDataAhead=true:=by kernel_rfl
theorem xf:Let Tryz.prog Gg (cL J) dR:=by
 refine⟨λf hf hn=>?_,λf hf=>?_,kY,xG,yx⟩
 ·obtain⟨fn,c,h1,h2,h3,h4,h5,_⟩:=xr f hf hn;exact⟨fn,c,h1,h2,h3,h4,h5⟩
 ·by_cases hn:f=fQ
  ·subst hn;obtain⟨p1,p2⟩:=QZ;have g: ∃fn,Tryz.prog.funcs[(fQ:Nat)]?=some fn/\qJ fn=true:=by simpa[Option.any_eq_true] using p1
   obtain⟨fn,h1,h2⟩:=g;have un:∀fn:Func,qJ fn=true->(fn.name== "runtime.NumGoroutine")=false/\fn.body.isNone=false/\fn.norace=false:=λfn h=>by
    unfold qJ at h;simp only[IN,Bool.not_eq_true']at h;exact⟨h.2,by cases hb:fn.body<;>simp_all,h.1.2⟩
   exact⟨⟨fn,h1,un fn h2⟩,⟨mz,A0,un _ p2⟩⟩
  ·obtain⟨fn,c,h1,h2,h3,_,_,h6,h7⟩:=xr f hf hn;exact⟨⟨fn,h1,h7,by rw[h3];rfl,h6⟩,⟨fn,h2,h7,by rw[h3];rfl,h6⟩⟩
theorem SY:Let Tryz.prog Gg (iG J) im:=by
 refine⟨λf hf hn=>?_,λf hf=>?_,JK,xG,yx⟩
 ·obtain⟨_,fn,c,h1,h2,h3,h4,h5,_⟩:=wF f hf;exact⟨fn,c,h1,h2,h3,h4,h5⟩
 ·obtain⟨_,fn,c,h1,h2,h3,_,_,h6,h7⟩:=wF f hf;exact⟨⟨fn,h1,h7,by rw[h3];rfl,h6⟩,⟨fn,h2,h7,by rw[h3];rfl,h6⟩⟩
theorem uy:Tryz.prog.globals.size=1:=by kernel_rfl
theorem Bd:Stat Tryz.prog Gg (cL J) dR:=⟨uy,(p9 (cL J)).1,(p9 (cL J)).2,xf⟩
theorem L9:Stat Tryz.prog Gg (iG J) im:=⟨uy,(p9 (iG J)).1,(p9 (iG J)).2,SY⟩
theorem GD{Goal:Frame->List Frame->World->Prop}(hg:∀fr cs w,Goal fr cs w->cs= []/\fr.fn≠fQ)(D:List Frame):vA Pg Gg (cL J) dR D Goal:=by
 refine M6 (L1:=(cL J)) (T1:=dR) (L2:=(iG J)) (T2:=im) ⟨L9,rfl,rfl,?_,hg,?_,rfl⟩ ⟨rfl,rfl,rfl,?_,rfl,λf h=>h,λs=>rfl,uy.symm⟩ D
 ·intro h;exact (wF _ h).1 rfl
 ·exact (by decide:im.fb 82=true)
 ·intro i hi;rcases (show i=0\/i=1\/i=2 by omega) with rfl|rfl|rfl<;>rfl
end
end
section
def ie(w:World):Prop:=∀(r:Nat) d,w.heap[r]?=some (.deferred d)->d=none\/d=some []
theorem _root_.Go.Sem.tT(P:Program):∀(p:Sem α) (w:World) (es:Array Event) {h:Halt} {w1:World} {es1:Array Event},p.runT P w es=(.halt h w1,es1)->w.heap.size<=w1.heap.size:=by
 intro p;induction p with
 |pure a=>intro w es h w1 es1 hr;cases hr
 |load m a k ih=>
  intro w es h w1 es1 hr;rw[Sem.runT]at hr;split at hr
  ·exact ih _ _ _ hr
  ·split at hr
   ·exact ih _ _ _ hr
   ·cases hr;exact eR _
 |store m a x k ih=>
  intro w es h w1 es1 hr;by_cases h1: ∃c,x=.agg c
  ·obtain⟨c,rfl⟩:=h1;simp only[Sem.runT]at hr;cases hr;exact eR _
  by_cases h2: ∃c,x=.tuple c
  ·obtain⟨c,rfl⟩:=h2;simp only[Sem.runT]at hr;cases hr;exact eR _
  rw[Sem.runT.eq_5 _ _ _ _ _ _ _ (λc e=>h1 ⟨c,e⟩) (λc e=>h2 ⟨c,e⟩)]at hr;split at hr
  ·split at hr
   ·cases hr;exact eR _
   ·have:=ih _ _ hr;simpa[World.setCell] using this
  ·split at hr
   ·rename_i w' l he;unfold World.farStore at he;split at he
    ·split at he
     ·rename_i r hh;cases he;have h3:=FN hh
      have:=ih _ _ hr;rw[h3.1]at this;exact this
     ·cases he
    ·cases he
   ·cases hr;exact eR _
 |new o k ih=>
  intro w es h w1 es1 hr
  have:=ih _ _ _ hr;simp only[WJ]at this;omega
 |shape r k ih=>intro w es h w1 es1 hr;exact ih _ _ _ hr
 |freeze a n k ih=>
  intro w es h w1 es1 hr
  have:=ih _ _ hr;have h2:(w.freeze a n).heap.size=w.heap.size:=by unfold World.freeze;split<;>simp
  rw[h2]at this;exact this
 |frozen a k ih=>intro w es h w1 es1 hr;exact ih _ _ _ hr
 |getObj r k ih=>
  intro w es h w1 es1 hr;rw[Sem.runT]at hr;split at hr
  ·cases hr;exact eR _
  ·exact ih _ _ _ hr
  ·cases hr;exact eR _
 |setObj r o k ih=>
  intro w es h w1 es1 hr;rw[Sem.runT]at hr;split at hr
  ·cases hr;exact eR _
  ·have:=ih _ _ hr;simpa using this
  ·cases hr;exact eR _
 |choose q k ih=>
  intro w es h w1 es1 hr;rw[Sem.runT]at hr;split at hr
  ·exact ih _ _ _ hr
  ·have:=ih _ _ _ hr;exact this
 |sys c k ih=>
  intro w es h w1 es1 hr
  have:=ih _ _ _ hr;rw[(v7 w c).1]at this;exact this
 |program k ih=>intro w es h w1 es1 hr;exact ih _ _ _ hr
 |mark m k ih=>intro w es h w1 es1 hr;exact ih _ _ hr
 |halt h=>intro w es h w1 es1 hr;cases hr;exact eR _
section
variable {P:Program}{G:Array Func}{L:ax}{C:FuncId->Code->Prop}{τ:ai}{k₀:Kd}{N:Nat}
theorem ie.modify{w:World}(h:ie w){f:Obj->Obj}(hf:∀o d,w.heap[r]?=some o->f o=.deferred d->d=none\/d=some []):ie {w with heap:=w.heap.modify r f}:=by
 intro r' d hd;simp only[Array.getElem?_modify]at hd;split at hd
 ·rename_i e;subst e;obtain⟨o,ho,he⟩:=WH.1 hd;exact hf o d ho he
 ·exact h r' d hd
theorem BW(w:World)(a:Addr)(s:String):lG (w.noCell a s):=by
 unfold World.noCell;split<;>trivial
theorem DW{w:World}(ho:∀o,w.heap[a.block]?=some o->cH L τ o)(b:Bool): ∃h,w.farLoad P a b=.error h/\lG h:=by
 unfold World.farLoad;split
 ·rename_i he;rcases ho _ he with⟨q,hq⟩|⟨_,_,_,hq⟩<;>cases hq
 ·exact⟨_,rfl,BW _ _ _⟩
theorem Bo{w:World}{x:Value}(ho:∀o,w.heap[a.block]?=some o->cH L τ o)(b:Bool): ∃h,w.farStore P a x b=.error h/\lG h:=by
 unfold World.farStore;split
 ·rename_i he;rcases ho _ he with⟨q,hq⟩|⟨_,_,_,hq⟩<;>cases hq
 ·exact⟨_,rfl,BW _ _ _⟩
theorem ae.S4(hb:Fit τ){β:Type}{R:α->β->Prop}{p:Sem α}{q:Sem β}(h:ae P G L C τ k₀ R p q):
  ∀(w v:World) (es:Array Event) (hh:Halt) (w1:World) (es1:Array Event),Sync L C τ k₀ N w v->ie w->p.runT (gp P G) w es=(.halt hh w1,es1)->w1.heap.size<=N->(∀r s,τ.un r s->r<N)->lG hh/\ie w1:=by
 induction h with
 |pure hR=>intro w v es hh w1 es1 _ _ hr _ _;cases hr
 |@load a b k l hab _ ih=>
  intro w v es hh w1 es1 hs hd hr hN hpn;rw[Sem.runT]at hr;cases hc:w.cell? a with
  |none=>
   obtain⟨hx,he,ht⟩:=DW (P:=gp P G) (L:=L) (τ:=τ) (hs.known (.inl hab.1)) (Mode.plain==.atomic);rw[hc]at hr;simp only[he]at hr;cases hr;exact⟨ht,hd⟩
  |some y=>
   rw[hc]at hr;obtain⟨z,hz,hyz⟩:=hs.cell hab hc;exact ih y z hyz w v _ hh w1 es1 hs hd hr hN hpn
 |@nK a b k l hab _ ih=>
  intro w v es hh w1 es1 hs hd hr hN hpn;rw[Sem.runT]at hr;cases hc:w.cell? a with
  |none=>
   obtain⟨hx,he,ht⟩:=DW (P:=gp P G) (L:=L) (τ:=τ) (hs.known (.inr hab.1)) (Mode.plain==.atomic);rw[hc]at hr;simp only[he]at hr;cases hr;exact⟨ht,hd⟩
  |some y=>
   rw[hc]at hr;obtain⟨z,hz,hyz⟩:=hs.yR hab hc;exact ih y z hyz w v _ hh w1 es1 hs hd hr hN hpn
 |@store a b x y k l hab hxy _ ih=>
  intro w v es hh w1 es1 hs hd hr hN hpn;by_cases h1: ∃c,x=.agg c
  ·obtain⟨c,rfl⟩:=h1;simp only[Sem.runT]at hr;cases hr;exact⟨trivial,hd⟩
  by_cases h2: ∃c,x=.tuple c
  ·obtain⟨c,rfl⟩:=h2;simp only[Sem.runT]at hr;cases hr;exact⟨trivial,hd⟩
  rw[Sem.runT.eq_5 _ _ _ _ _ _ _ (λc e=>h1 ⟨c,e⟩) (λc e=>h2 ⟨c,e⟩)]at hr;cases hc:w.cell? a with
  |none=>
   obtain⟨hx,he,ht⟩:=Bo (P:=gp P G) (L:=L) (τ:=τ) (x:=x) (hs.known (.inl (hb.own _ _ hab.1))) (Mode.plain==.atomic);rw[hc]at hr;simp only[he]at hr;cases hr;exact⟨ht,hd⟩
  |some y0=>
   rw[hc]at hr;obtain⟨hsp,_⟩:=qp hc;by_cases hfz:w.frozen? a=true
   ·simp only[hfz,IS]at hr;cases hr;exact⟨trivial,hd⟩
   ·simp only[hfz,Vz,Vy]at hr;refine ih _ _ _ hh w1 es1 (hs.stored hb hab hsp hxy) ?_ hr hN hpn;refine hd.modify λo d ho he=>?_;cases o<;>simp only at he<;>first|cases he|skip
    exact hd _ d ho
 |@nV a b x y k l hab hxy _ ih=>
  intro w v es hh w1 es1 hs hd hr hN hpn;by_cases h1: ∃c,x=.agg c
  ·obtain⟨c,rfl⟩:=h1;simp only[Sem.runT]at hr;cases hr;exact⟨trivial,hd⟩
  by_cases h2: ∃c,x=.tuple c
  ·obtain⟨c,rfl⟩:=h2;simp only[Sem.runT]at hr;cases hr;exact⟨trivial,hd⟩
  rw[Sem.runT.eq_5 _ _ _ _ _ _ _ (λc e=>h1 ⟨c,e⟩) (λc e=>h2 ⟨c,e⟩)]at hr;cases hc:w.cell? a with
  |none=>
   obtain⟨hx,he,ht⟩:=Bo (P:=gp P G) (L:=L) (τ:=τ) (x:=x) (hs.known (.inr hab.1)) (Mode.plain==.atomic);rw[hc]at hr;simp only[he]at hr;cases hr;exact⟨ht,hd⟩
  |some y0=>
   rw[hc]at hr;obtain⟨hsp,_⟩:=qp hc;by_cases hfz:w.frozen? a=true
   ·simp only[hfz,IS]at hr;cases hr;exact⟨trivial,hd⟩
   ·simp only[hfz,Vz,Vy]at hr;refine ih _ _ _ hh w1 es1 (hs.boxed hb hab hsp hxy) ?_ hr hN hpn;refine hd.modify λo d ho he=>?_;cases o<;>simp only at he<;>first|cases he|skip
    exact hd _ d ho
 |@new o q k l hk ho _ ih=>
  intro w v es hh w1 es1 hs hd hr hN hpn;rw[Sem.runT]at hr;have hg:=Sem.tT (gp P G) _ _ _ hr;simp only[WJ]at hg;have hp:τ.own w.heap.size v.heap.size:=by have:=hs.next (by omega);rw[hk]at this;exact this
  refine ih _ _ hp _ _ _ hh w1 es1 (hs.push hb (by omega) (KR.nt hb (hb.own _ _ hp) ho)) ?_ hr hN hpn;intro r d hx;simp only[Array.getElem?_push]at hx;split at hx
  ·cases hx;cases ho
  ·exact hd r d hx
 |@nQ xs ys e f k l hk ho _ ih=>
  intro w v es hh w1 es1 hs hd hr hN hpn;rw[Sem.runT]at hr;have hg:=Sem.tT (gp P G) _ _ _ hr;simp only[WJ]at hg;have hp:τ.box w.heap.size v.heap.size:=by have:=hs.next (by omega);rw[hk]at this;exact this
  refine ih _ _ hp _ _ _ hh w1 es1 (hs.push hb (by omega) (KR.tD (e:=e) (f:=f) hb hp ho)) ?_ hr hN hpn;intro r d hx;simp only[Array.getElem?_push]at hx;split at hx
  ·cases hx
  ·exact hd r d hx
 |@nY o q k l hk ho _ ih=>
  intro w v es hh w1 es1 hs hd hr hN hpn;rw[Sem.runT]at hr;have hg:=Sem.tT (gp P G) _ _ _ hr;simp only[WJ]at hg;have hp:τ.lp w.heap.size v.heap.size:=by have:=hs.next (by omega);rw[hk]at this;exact this
  refine ih _ _ hp _ _ _ hh w1 es1 (hs.push hb (by omega) (KR.rj hb hp ho)) ?_ hr hN hpn;intro r d hx;simp only[Array.getElem?_push]at hx;split at hx
  ·cases hx;cases ho with
   |deferred hdd=>exact hdd
  ·exact hd r d hx
 |@oG r s k l hrs _ ih=>
  intro w v es hh w1 es1 hs hd hr hN hpn;rw[Sem.runT]at hr;cases hc:w.heap[r]? with
  |none=>rw[hc]at hr;cases hr;exact⟨trivial,hd⟩
  |some o=>
   obtain⟨o',q,h1,h2,h3⟩:=hs.loops r s hrs (Array.getElem?_eq_some_iff.1 hc).1;rw[hc]at h1;cases h1;rw[hc]at hr;have h3':=h3;cases h3 with
   |_=>exact ih _ _ h3' w v _ hh w1 es1 hs hd hr hN hpn
 |@nB r s o q k l hrs ho _ ih=>
  intro w v es hh w1 es1 hs hd hr hN hpn;rw[Sem.runT]at hr;cases hc:w.heap[r]? with
  |none=>rw[hc]at hr;cases hr;exact⟨trivial,hd⟩
  |some o0=>
   obtain⟨o',q0,h1,h2,h3⟩:=hs.loops r s hrs (Array.getElem?_eq_some_iff.1 hc).1;rw[hc]at h1;cases h1;rw[hc]at hr;rw[nD]at hr;have hd1:ie {w with heap:=w.heap.modify r λ_=>o}:=hd.modify λ_ d _ he=>by
    subst he;cases ho with
    |deferred hdd=>exact hdd
   have hs1:Sync L C τ k₀ N {w with heap:=w.heap.modify r λ_=>o} {v with heap:=v.heap.modify s λ_=>q}:=hs.turn hb (ai.pJ hrs) λ_ _ _=>KR.rj hb hrs ho;cases h3 with
   |_=>exact ih _ _ _ hh w1 es1 hs1 hd1 hr hN hpn
 |@shape r s k l hrs _ ih=>intro w v es hh w1 es1 hs hd hr hN hpn;exact ih _ w v es hh w1 es1 hs hd hr hN hpn
 |@freeze a b n k l hab _ ih=>
  intro w v es hh w1 es1 hs hd hr hN hpn;refine ih _ _ _ hh w1 es1 (hs.froze hb hab n) ?_ hr hN hpn;unfold World.freeze;split
  ·exact hd
  ·refine hd.modify λo d ho he=>?_;cases o<;>simp only at he<;>first|cases he|skip
   exact hd _ d ho
 |@frozen a b k l hab _ ih=>intro w v es hh w1 es1 hs hd hr hN hpn;exact ih _ w v es hh w1 es1 hs hd hr hN hpn
 |@getObj r s k l hrs _ ih=>
  intro w v es hh w1 es1 hs hd hr hN hpn;rw[Sem.runT]at hr;cases hc:w.heap[r]? with
  |none=>rw[hc]at hr;cases hr;exact⟨trivial,hd⟩
  |some o=>
   obtain⟨o',q,h1,h2,h3⟩:=hs.obj r s hrs (Array.getElem?_eq_some_iff.1 hc).1;rw[hc]at h1;cases h1;rw[hc]at hr;have h3':=h3;cases h3 with
   |cells e f hx=>cases hr;exact⟨trivial,hd⟩
   |_=>exact ih _ _ h3' w v _ hh w1 es1 hs hd hr hN hpn
 |@setObj r s o q k l hrs ho hnc _ ih=>
  intro w v es hh w1 es1 hs hd hr hN hpn;rw[Sem.runT]at hr;cases hc:w.heap[r]? with
  |none=>rw[hc]at hr;cases hr;exact⟨trivial,hd⟩
  |some o0=>
   obtain⟨o',q0,h1,h2,h3⟩:=hs.obj r s (hb.own _ _ hrs) (Array.getElem?_eq_some_iff.1 hc).1;rw[hc]at h1;cases h1;rw[hc]at hr;rw[nD]at hr;have hd1:ie {w with heap:=w.heap.modify r λ_=>o}:=hd.modify λ_ d _ he=>by
    subst he;cases ho
   have hs1:Sync L C τ k₀ N {w with heap:=w.heap.modify r λ_=>o} {v with heap:=v.heap.modify s λ_=>q}:=hs.turn hb (.inl (hb.own _ _ hrs)) λ_ _ _=>KR.nt hb (hb.own _ _ hrs) ho;cases h3 with
   |cells e f hx=>cases hr;exact⟨trivial,hd⟩
   |_=>exact ih _ _ _ hh w1 es1 hs1 hd1 hr hN hpn
 |@choose qq k l _ ih=>
  intro w v es hh w1 es1 hs hd hr hN hpn;rw[Sem.runT]at hr;by_cases hf:qq.forced=true
  ·simp only[hf,IS]at hr;exact ih 0 w v es hh w1 es1 hs hd hr hN hpn
  ·simp only[hf,Vz,Vy]at hr;exact ih _ {w with drawn:=w.drawn+1} v _ hh w1 es1 ⟨hs.held,hs.mr⟩ hd hr hN hpn
 |program _ ih=>intro w v es hh w1 es1 hs hd hr hN hpn;exact ih w v es hh w1 es1 hs hd hr hN hpn
 |oj _ ih=>intro w v es hh w1 es1 hs hd hr hN hpn;exact ih w v es hh w1 es1 hs hd hr hN hpn
 |noRoom _ ih=>intro w v es hh w1 es1 hs hd hr hN hpn;exact ih w v _ hh w1 es1 hs hd hr hN hpn
 |af qq hx=>
  intro w v es hh w1 es1 hs hd hr hN hpn;obtain⟨h2,w2,es2,e,ht,hk⟩:=hx w es;rw[e]at hr;cases hr;exact⟨ht,λr d hx=>hd r d (hk r d hx)⟩
end
end
section
open Go.Conc
def Dg(τ:ai):Prop:=∀r s,τ.un r s->r=s
section
variable {P:Program}{L:ax}{T:aN}{τ:ai}
theorem AR.dg(hp:∀r s,π r s->r=s){b:Addr}(h:AR π a b):a=b:=by
 obtain⟨ab,ao,Vu⟩:=a;obtain⟨bb,bo,bs⟩:=b;obtain⟨h1,h2,h3⟩:=h;have h1:=hp _ _ h1;simp only at h1 h2 h3;subst h1 h2 h3;rfl
theorem VR.dg(hj:L.bc=ju)(hp:∀r s,π r s->r=s){w:Value}(h:VR L π v w):v=w:=by
 have arr:∀(zs:Array (Value×Value)),(∀z∈zs,z.1=z.2)->zs.map (·.1)=zs.map (·.2):=λzs hz=>Array.map_congr_left λz h=>hz z h;induction h with
 |bc s=>rw[hj];rfl
 |ptr h=>rw[h.dg hp]
 |slice n c h=>rw[h.dg hp]
 |map h=>rw[hp _ _ h]
 |func xs ys hf _ _ ihx ihy=>rw[arr xs ihx,arr ys ihy]
 |iface t _ ih=>rw[ih]
 |agg xs _ ih=>rw[arr xs ih]
 |tuple xs _ ih=>rw[arr xs ih]
 |_=>rfl
theorem XR.dg{R:α->α->Prop}(hR:∀a b,R a b->a=b){xs ys:Array α}(h:XR R xs ys):xs=ys:=by
 obtain⟨zs,rfl,rfl,hz⟩:=h;exact Array.map_congr_left λz h=>hR _ _ (hz z h)
theorem L2.dg{R:α->α->Prop}(hR:∀a b,R a b->a=b){xs ys:List α}(h:L2 R xs ys):xs=ys:=by
 induction h with
 |nil=>rfl
 |cons h _ ih=>rw[hR _ _ h,ih]
theorem NR.dg(hp:∀r s,π r s->r=s):∀{a b:Option Nat},NR π a b->a=b
 |none,none,_=>rfl
 |some _,some _,h=>by rw[hp _ _ h]
theorem nT.dg(hj:L.bc=ju)(hd:Dg τ){p:FuncId->Prop}{n:Nat}{w:Value}(h:nT L p n τ v w):v=w:=by
 rcases h with⟨rfl,rfl⟩|⟨rfl,rfl⟩|⟨f,xs,ys,rfl,rfl,_,hx,_⟩
 ·rfl
 ·rfl
 ·rw[hx.dg λ_ _ h=>VR.dg hj (λr s x=>hd r s (.inl x)) h]
theorem CR.dg(hj:L.bc=ju)(hb:fo τ)(hd:Dg τ){c:bI}{w:Value}(h:CR L τ c v w):v=w:=by
 cases c with
 |any=>exact VR.dg hj (λr s x=>hd r s (.inl x)) h
 |own=>exact VR.dg hj (λr s x=>hd r s (.inl (hb.own r s x))) h
 |box=>exact VR.dg hj (λr s x=>hd r s (.inr (.inl x))) h
 |iT=>
  rcases h with⟨rfl,rfl⟩|⟨l,m,rfl,rfl,h⟩
  ·rfl
  ·rw[hd _ _ (.inr (.inr h))]
 |dM=>exact nT.dg hj hd h
 |loc=>exact nT.dg hj hd h
theorem TR.dg(hj:L.bc=ju)(hb:fo τ)(hd:Dg τ){f:FuncId}{xs ys:Array Value}(h:TR L τ f xs ys):xs=ys:=by
 apply VT h.1.symm;intro i h1 h2;exact CR.dg hj hb hd (h.2 i _ _ (Array.getElem?_eq_getElem h1) (Array.getElem?_eq_getElem h2))
theorem OR.dg(hj:L.bc=ju)(hd:Dg τ)(h:OR L τ o q):o=q:=by
 have va:∀a b,VR L τ.all a b->a=b:=λa b h=>VR.dg hj (λr s x=>hd r s (.inl x)) h;cases h with
 |cells e f h=>rw[h.dg va]
 |map c h=>rw[h.dg λa b hab=>by cases a;cases b;obtain⟨h1,h2,h3⟩:=hab;simp only at h1 h2 h3;rw[va _ _ h1,va _ _ h2,h3]]
 |stringIter=>rfl
 |mapIter a b c h=>rw[h.dg λr s x=>hd r s (.inl x)]
 |number l h=>rw[h.dg λr s x=>hd r s (.inl x)]
theorem fh.dg(hj:L.bc=ju)(hb:fo τ)(hd:Dg τ){C:FuncId->Code->Prop}(h:fh L C τ o q):o=q:=by
 cases h with
 |@loop k l h1 h2 h3 h4 h5 h6 h7 h8=>
  obtain⟨a1,a2,a3,a4,a5,a6,a7,a8⟩:=k;obtain⟨b1,b2,b3,b4,b5,b6,b7,b8⟩:=l;simp only at h1 h2 h3 h4 h5 h6 h7 h8;have h4':=TR.dg hj hb hd h4;have h8':=hd _ _ (.inr (.inr h8));subst h1 h2 h3 h4' h5 h6 h7 h8';rfl
 |deferred=>rfl
theorem KR.dg(hj:L.bc=ju)(hb:fo τ)(hd:Dg τ){C:FuncId->Code->Prop}(h:KR L C τ r s o q)(hu:τ.un r s):o=q:=by
 rcases hu with hu|hu|hu
 ·exact OR.dg hj hd (h.all hu)
 ·obtain⟨xs,ys,e,f,rfl,rfl,hx⟩:=h.box hu;rw[hx.dg λa b h=>VR.dg hj (λr s x=>hd r s (.inl (hb.own r s x))) h]
 ·exact fh.dg hj hb hd (h.lp hu)
theorem eW.dg(hd:Dg τ){f:FuncId}{a b:Item}(h:eW P L T τ f a b):a=b:=by
 cases h with
 |inRangeFunc h=>rw[hd _ _ (.inr (.inr h))]
 |endRangeFunc h=>rw[hd _ _ (.inr (.inr h))]
 |_=>rfl
theorem iH.dg(hd:Dg τ){a b:Deferred}(h:iH τ a b):a=b:=by
 cases h with
 |collected h=>rw[hd _ _ (.inr (.inr h))]
theorem bP.dg(hj:L.bc=ju)(hb:fo τ)(hd:Dg τ){fr:Frame}(h:bP P L T τ fr gr):fr=gr:=by
 obtain⟨a1,a2,a3,a4,a5,a6,a7⟩:=fr;obtain⟨b1,b2,b3,b4,b5,b6,b7⟩:=gr;obtain⟨h1,_,_,h3,h4,h5,h6,_,h8,h9⟩:=h;simp only at h1 h3 h4 h5 h6 h8 h9;have e3:=TR.dg hj hb hd h3;have e4:=h4.dg λ_ _ h=>eW.dg hd h;have e5:=h5.dg λ_ _ h=>iH.dg hd h;have e9:=h9.dg λr s x=>hd r s (.inr (.inr x));have e8:=h8.1.trans h8.2.symm;subst h1 e3 e4 e5 h6 e9 e8;rfl
theorem gG.dg(hj:L.bc=ju)(hb:fo τ)(hd:Dg τ){c:bI}{cs ds:List Frame}(h:gG P L T τ c cs ds):cs=ds:=by
 induction h with
 |nil=>rfl
 |cons h _ _ ih=>rw[bP.dg hj hb hd h,ih]
end
end
section
open Go.Conc
section
variable {P:Program}{L:ax}{T:aN}{τ:ai}
structure kD(P:Program)(L:ax)(T:aN):Prop where
 stat:Stat P P.funcs L T
 bc:L.bc=ju
 np: ¬L.fn T.bJ
structure eh(P:Program)(L:ax)(T:aN)(τ:ai)(fr:Frame)(cs:List Frame)(w:World):Prop where
 dg:Dg τ
 frame:bP P L T τ fr fr
 callers:gG P L T τ (gZ L fr) cs cs
 bot:iW fr cs
 fit:Fit τ
 flat:Flat T τ
 cq:∀r s,τ.un r s->r<w.heap.size
 obj:∀r s,τ.un r s->∃o q,w.heap[r]?=some o/\w.heap[s]?=some q/\KR L (CC P L T) τ r s o q
 vk:ie w
def jA(P:Program)(L:ax)(T:aN)(fr:Frame)(cs:List Frame)(w:World):Prop:=∃τ,eh P L T τ fr cs w
variable {fr:Frame}{cs B:List Frame}{w:World}
abbrev eZ(τ:ai)(w:World)(N:Nat)(k:Kd):ai:=τ.ext w.heap.size w.heap.size (N-w.heap.size) k
theorem eh.Kg(h:eh P L T τ fr cs w):∀r s,τ.un r s->r<w.heap.size/\s<w.heap.size:=λr s x=>⟨h.cq r s x,by rw[<-h.dg r s x];exact h.cq r s x⟩
theorem eh.wP(h:eh P L T τ fr cs w)(N:Nat)(k:Kd):Dg (eZ τ w N k):=λr s x=>by
 rcases ai.iB.1 x with x|⟨i,_,rfl,rfl⟩
 ·exact h.dg r s x
 ·rfl
theorem eh.iX(h:eh P L T τ fr cs w)(N:Nat)(k:Kd):Fit (eZ τ w N k):=ai.tK h.fit h.Kg
theorem eh.nZ(h:eh P L T τ fr cs w){N:Nat}(hN:w.heap.size<=N)(k:Kd):∀r s,(eZ τ w N k).un r s->r<N:=λr s x=>by
 rcases ai.iB.1 x with x|⟨i,hi,rfl,rfl⟩
 ·exact VA (h.cq r s x) hN
 ·omega
theorem eh.sync(h:eh P L T τ fr cs w)(t:Nat->Question->Nat){N:Nat}(hN:w.heap.size<=N)(k:Kd):Sync L (CC P L T) (eZ τ w N k) k N w {w with tape:=t}:=by
 refine⟨λr s hr hl=>?_,λi hi=>ai.As (by omega)⟩;rcases ai.iB.1 hr with hr|⟨i,hi,rfl,rfl⟩
 ·obtain⟨o,q,h1,h2,h3⟩:=h.obj r s hr;exact⟨o,q,h1,h2,h3.wO (ai.fW ..) (h.iX N k) hr⟩
 ·omega
theorem fh.wD{C:FuncId->Code->Prop}(h:fh L C τ (.deferred d) q):d=none\/d=some []:=by
 cases h with
 |deferred h=>exact h
theorem KR.wD{C:FuncId->Code->Prop}(h:KR L C τ r s (.deferred d) q)(hu:τ.un r s):d=none\/d=some []:=by
 rcases hu with hu|hu|hu
 ·have:=h.all hu;cases this
 ·obtain⟨xs,ys,e,f,e1,_⟩:=h.box hu;cases e1
 ·exact (h.lp hu).wD
theorem eh.behind(h:eh P L T τ fr cs w){v w1 v1:World}{es fs es1 fs1:Array Event}(hg:w.heap.size<=w1.heap.size)(hB:cP L (CC P L T) (eZ τ w w1.heap.size k) k w1.heap.size w v w1 v1 es fs es1 fs1):ie w1:=by
 intro r d hd;have hr:=(Array.getElem?_eq_some_iff.1 hd).1;by_cases hu: ∃s,(eZ τ w w1.heap.size k).un r s
 ·obtain⟨s,hu⟩:=hu;obtain⟨o,q,h1,h2,h3⟩:=hB.sync.held r s hu hr;rw[hd]at h1;cases h1;exact h3.wD hu
 ·have hlt:r<w.heap.size:=Nat.lt_of_not_le λhle=>hu ⟨r,ai.iB.2 (.inr ⟨r-w.heap.size,by omega,by omega,by omega⟩)⟩;have ha:=hB.nc r hlt λs hx=>hu ⟨s,by
   rcases hx with hx|hx|hx
   ·exact .inl ((h.iX w1.heap.size k).own _ _ hx)
   ·exact .inr (.inl hx)
   ·exact .inr (.inr hx)⟩
  rw[ha]at hd;exact h.vk r d hd
theorem eh.step(A:kD P L T)(h:eh P L T τ fr cs w)(hlast:fr.mode=.returning->fr.defers= []->cs≠[]){m:Bool}{g1:Goroutine}{w1:World}{es:Array Event}(e:stepG P m {frame:=fr,callers:=cs++B,status:=.running,dying:=none} w=.go g1 w1 es)(hf:hZ g1):
  ∃fr1 cs1,g1= {frame:=fr1,callers:=cs1++B,status:=.running,dying:=none}/\jA P L T fr1 cs1 w1/\w1.tape=w.tape/\w.drawn<=w1.drawn/\
   ∀t:Nat->Question->Nat,(∀i q,w.drawn<=i->i<w1.drawn->t i q=w.tape i q)->
    stepG P m {frame:=fr,callers:=cs++B,status:=.running,dying:=none} {w with tape:=t}=.go g1 {w1 with tape:=t} es:=by
 have jQ:∀(t:Nat->Question->Nat) N,w.heap.size<=N->w1.heap.size<=N->(∀j q,w.drawn+j<w1.drawn->t (w.drawn+j) q=w.tape (w.drawn+j) q)->_:=λt N hN hN2 ht=>
  De (P:=P) (G:=P.funcs) (B:=B) (D:=B) (A.stat.env (h.iX N (gC L fr)) (ai.iU h.flat)) A.stat.bX (ai.iU h.flat) (h.nZ hN _) rfl (h.sync t hN _) m m (h.frame.mono (ai.fW ..)) (h.callers.mono (ai.fW ..)) h.bot
   hlast g1 w1 es e hf hN2 ht
 have hsz:w.heap.size<=w1.heap.size:=by
  obtain⟨_,_,_,_,_,hB⟩:=jQ w.tape (max w.heap.size w1.heap.size) (by omega) (by omega) (λ_ _ _=>rfl);exact hB.grow
 obtain⟨h1,v1,fs,e2,hG,hB⟩:=jQ w.tape w1.heap.size hsz (eR _) (λ_ _ _=>rfl);have e2':stepG P m {frame:=fr,callers:=cs++B,status:=.running,dying:=none} w=.go h1 v1 fs:=e2;rw[e]at e2';cases e2';obtain⟨cs1,ds1,c1,c2,c3,c4⟩:=hG.callers;have hcs:cs1=ds1:=WU (c1.symm.trans c2);subst hcs;have run1:∀{τ:ai} {a b:Frame},iy P P.funcs L T τ a b->bP P L T τ a b:=λh=>by
  cases h with
  |run h=>exact h
  |bJ h=>exact absurd h A.np
 refine⟨g1.frame,cs1,?_,⟨eZ τ w w1.heap.size (gC L fr),h.wP _ _,run1 hG.frame,c3,c4,h.iX _ _,ai.iU h.flat,h.nZ hsz _,λr s hx=>hB.sync.held r s hx (h.nZ hsz _ r s hx),h.behind hsz hB⟩,hB.sw,hB.draw,λt ht=>?_⟩
 ·obtain⟨a1,a2,a3,a4,a5⟩:=g1;have s1:=hG.status.1;have s2:=hG.dying.1;have s3:=hG.offers.1;simp only at s1 s2 s3 c1;subst s1 s2 s3 c1;rfl
 ·obtain⟨h2,v2,fs2,e3,hG2,hB2⟩:=jQ t w1.heap.size hsz (eR _) (λj q hj=>ht _ q (Nat.le_add_right _ _) hj);obtain⟨cs2,ds2,d1,d2,d3,d4⟩:=hG2.callers;have hbx:=(h.iX w1.heap.size (gC L fr)).tofo;have hdx:=h.wP w1.heap.size (gC L fr);have hg:h2=g1:=by
   have k1:=bP.dg A.bc hbx hdx (run1 hG2.frame);have k2:=gG.dg A.bc hbx hdx d3;have s1:=hG2.status;have s2:=hG2.dying;have s3:=hG2.offers;clear hG2 hG hf e e2 hB hB2 jQ;obtain⟨a1,a2,a3,a4,a5⟩:=g1;obtain⟨b1,b2,b3,b4,b5⟩:=h2;simp only at s1 s2 s3 d1 d2 k1;rw[d1,d2,k1,k2,s1.1,s1.2,s2.1,s2.2,s3.1,s3.2]
  have hw:v2= {w1 with tape:=t}:=by
   have z1:=hB2.size;have z2:=hB2.drawn;have z3:=hB2.tape;have z4:=hB2.os;have z5:=hB2.output;have z6:=hB2.wj;have z7:=hB2.vG;have hheap:v2.heap=w1.heap:=by
    apply Array.ext_getElem?;intro r;by_cases hr:r<w1.heap.size
    ·by_cases hu: ∃s,(eZ τ w w1.heap.size (gC L fr)).un r s
     ·obtain⟨s,hu⟩:=hu;obtain⟨o,q,y1,y2,y3⟩:=hB2.sync.held r s hu hr;have ers:=hdx r s hu;subst ers;rw[y1,y2,KR.dg A.bc hbx hdx y3 hu]
     ·have hlt:r<w.heap.size:=Nat.lt_of_not_le λhle=>hu ⟨r,ai.iB.2 (.inr ⟨r-w.heap.size,by omega,by omega,by omega⟩)⟩;have un:∀{r s},(eZ τ w w1.heap.size (gC L fr)).mine r s->(eZ τ w w1.heap.size (gC L fr)).un r s:=λhx=>by
       rcases hx with hx|hx|hx
       ·exact .inl (hbx.own _ _ hx)
       ·exact .inr (.inl hx)
       ·exact .inr (.inr hx)
      have y:=hB2.gq r hlt λr' hx=>hu ⟨r,by have:=hdx _ _ (un hx);subst this;exact un hx⟩;have y':=hB2.nc r hlt λs hx=>hu ⟨s,un hx⟩;rw[y,y']
    ·have z1':v2.heap.size=w1.heap.size:=by simpa[WS] using z1
     rw[Array.getElem?_eq_none (by omega),Array.getElem?_eq_none (by omega)]
   have z2':v2.drawn=w1.drawn:=by simpa[WS] using z2
   obtain⟨q1,q2,q3,q4,q5⟩:=v2;obtain⟨p1,p2,p3,p4,p5⟩:=w1;simp only at hheap z2' z3 z4 z5 z6 z7 ⊢;rw[hheap,z2',z3,z4,z5,<-z6,<-z7]
  have hes:fs2=es:=by
   obtain⟨zs,y1,y2,y3⟩:=hB2.events;rw[y1,y2];congr 1;refine Array.map_congr_left λz hz=>?_;obtain⟨z1,z2⟩:=z;have un:∀{r s},(eZ τ w w1.heap.size (gC L fr)).mine r s->r=s:=λhx=>hdx _ _ (by
    rcases hx with hx|hx|hx
    ·exact .inl (hbx.own _ _ hx)
    ·exact .inr (.inl hx)
    ·exact .inr (.inr hx))
   have hx:jR (eZ τ w w1.heap.size (gC L fr)) z1 z2:=y3 _ hz;cases hx with
   |cell h=>rw[AR.dg hdx h]
   |write h=>rw[AR.dg (λ_ _ x=>un x) h]
   |obj h=>rw[hdx _ _ h]
   |set h=>rw[un h]
   |noRoom=>rfl
  rw[<-hg,<-hw,<-hes];exact e3
end
end
section
open Go.Conc
section
variable {P:Program}{L:ax}{T:aN}{τ:ai}{F:FuncId->Prop}{fr:Frame}{cs B:List Frame}{w:World}
def Marks(ds:List Deferred):Prop:=∀d∈ds,∃r,d= {target:=.collected r,args:=#[]}
def kE(F:FuncId->Prop)(fr:Frame):Prop:=F fr.fn/\Marks fr.defers
def Ak(F:FuncId->Prop)(B:List Frame)(g:Goroutine)(w:World):Prop:=
 ∃fr cs ch,g= {frame:=fr,callers:=cs++B,status:=.running,dying:=none}/\fr.mode=.panicking ch/\kE F fr/\(∀c∈cs,kE F c)/\ie w
def fC(F:FuncId->Prop)(B:List Frame)(s:GStep):Prop:=
 (∃g1 w1 es,s=.go g1 w1 es/\hZ g1)\/(∃o w1 es,s=.ended o w1 es)\/(∃g1 w1 es,s=.go g1 w1 es/\Ak F B g1 w1)
theorem fC.after{s:GStep}(h:fC F B s)(es:Array Event):fC F B (GStep.after es s):=by
 rcases h with⟨g,w,es',rfl,h⟩|⟨o,w,es',rfl⟩|⟨g,w,es',rfl,h⟩
 ·exact .inl ⟨g,w,_,rfl,h⟩
 ·exact .inr (.inl ⟨o,w,_,rfl⟩)
 ·exact .inr (.inr ⟨g,w,_,rfl,h⟩)
theorem S7{xs ys:List Deferred}(h:L2 (iH τ) xs ys):Marks xs:=by
 induction h with
 |nil=>intro d hd;cases hd
 |cons h _ ih=>
  intro d hd;cases hd with
  |head=>cases h;exact⟨_,rfl⟩
  |tail _ hd=>exact ih d hd
theorem bP.yA(h:bP P L T τ fr gr):kE L.fn fr:=⟨h.bX,S7 h.defers⟩
theorem Ea{c:bI}{ds:List Frame}(h:gG P L T τ c cs ds):∀c∈cs,kE L.fn c:=by
 induction h with
 |nil=>intro c hc;cases hc
 |cons h _ _ ih=>
  intro c hc;cases hc with
  |head=>exact h.yA
  |tail _ hc=>exact ih c hc
theorem ud(fr:Frame)(v:Value):(fr.finish v).kind=fr.kind:=by
 unfold Frame.finish;split<;>rfl
theorem raise_mode(fr:Frame)(vs:List PanicEntry): ∃ch,(fr.raise vs).mode=.panicking ch:=by
 unfold Frame.raise;split
 ·exact⟨_,rfl⟩
 ·exact⟨_,rfl⟩
theorem Bu{fr:Frame}(h:kE F fr)(vs:List PanicEntry):kE F (fr.raise vs):=by
 unfold Frame.raise;split<;>exact h
theorem AE{fr:Frame}(h:kE F fr)(hc:∀c∈cs,kE F c)(hd:ie w)(vs:List PanicEntry):Ak F B {frame:=fr.raise vs,callers:=cs++B,status:=.running,dying:=none} w:=by
 obtain⟨ch,hm⟩:=raise_mode fr vs;exact⟨fr.raise vs,cs,ch,rfl,hm,Bu h vs,hc,hd⟩
theorem bP.qG(h:bP P L T τ fr gr):∀c,fr.mode≠.panicking c:=by
 intro c e;rcases h.run with h|h
 ·rw[h]at e;cases e
 ·rw[h.1]at e;cases e
theorem eh.dW(h:eh P L T τ fr cs w)(k:Kd){R:ai->α->α->Prop}{p:Sem α}(hp:∀N,w.heap.size<=N->ae P P.funcs L (CC P L T) (eZ τ w N k) k (R (eZ τ w N k)) p p):
  (∃a b w1 es,p.runT P w #[]=(.ok a w1,es)/\w.heap.size<=w1.heap.size/\R (eZ τ w w1.heap.size k) a b/\(∀r s,(eZ τ w w1.heap.size k).un r s->∃o q,w1.heap[r]?=some o/\w1.heap[s]?=some q/\KR L (CC P L T) (eZ τ w w1.heap.size k) r s o q)/\ie w1)\/(∃hh w1 es,p.runT P w #[]=(.halt hh w1,es)/\lG hh/\ie w1):=by
 cases hr:p.runT P w #[] with
 |mk r es=>
  cases r with
  |ok a w1=>
   have hg:=(Sem.o9 P _ _ _ hr).1;obtain⟨b,v1,fs,e1,hR,hB⟩:=(hp w1.heap.size hg).qB (h.iX _ _) w {w with tape:=w.tape} #[] #[] a w1 es (h.sync w.tape hg k) hr (eR _) (λ_ _ _=>rfl) (h.nZ hg k);have e1':p.runT P w #[]=(.ok b v1,fs):=e1;rw[hr]at e1';cases e1';exact .inl ⟨a,a,w1,es,rfl,hg,hR,λr s hx=>hB.sync.held r s hx (h.nZ hg k r s hx),h.behind hg hB⟩
  |halt hh w1=>
   have hg:=Sem.tT P _ _ _ hr;obtain⟨h1,h2⟩:=(hp w1.heap.size hg).S4 (h.iX _ _) w {w with tape:=w.tape} #[] hh w1 es (h.sync w.tape hg k) h.vk hr (eR _) (h.nZ hg k);exact .inr ⟨hh,w1,es,rfl,h1,h2⟩
theorem H7(A:kD P L T)(fr:Frame)(cs:List Frame)(g:Nat)(w:World): ∃o w1 es,early P fr cs none g w=.ended o w1 es:=by
 have hn:∀g,P.stepOf g=none:=A.stat.bX.tN;unfold early;simp only[A.stat.bX.ahead,hn];exact⟨_,_,_,rfl⟩
theorem eh.yz(A:kD P L T)(h:eh P L T τ fr cs w){c:bI}{p:Sem Next}(hp:∀N,w.heap.size<=N->ae P P.funcs L (CC P L T) (eZ τ w N k) k (c9 L (CC P L T) (eZ τ w N k) T.fl c) p p):
  fC L.fn B (stepG.apply P true fr (cs++B) none p w):=by
 have hke:(fr.kind==CallKind.early)=false:=by rw[h.frame.kind.1];rfl
 have bz:=(AW h.frame.todo).1;have hmode:=h.frame.qG;rcases h.dW k (R:=λσ=>c9 L (CC P L T) σ T.fl c) hp with⟨a,b,w1,es,hr,_,hR,_,_⟩|⟨hh,w1,es,hr,ht,hd⟩
 ·simp only[stepG.apply,IS,hr,hke,Vz,Vy];refine fC.after ?_ _;cases hR with
  |value hv=>exact .inl ⟨_,_,_,rfl,rfl,rfl,λc e=>hmode c ((uh _ _).symm.trans e),(ud _ _).trans h.frame.kind.1⟩
  |skip=>exact .inl ⟨_,_,_,rfl,rfl,rfl,λc e=>hmode c ((uh _ _).symm.trans e),(ud _ _).trans h.frame.kind.1⟩
  |enter hf hx=>exact .inl ⟨_,_,_,rfl,rfl,rfl,λc e=>(by cases e),bz⟩
  |round=>exact .inl ⟨_,_,_,rfl,rfl,rfl,λc e=>(by cases e),rfl⟩
 ·cases hh with
  |panic v=>
   simp only[stepG.apply,IS,hr,hke,Vz,Vy];exact fC.after (.inr (.inr ⟨_,_,_,rfl,AE h.frame.yA (Ea h.callers) hd _⟩)) _
  |stuck s=>
   simp only[stepG.apply,IS,hr,hke,Vz,Vy];exact fC.after (.inr (.inl ⟨_,_,_,rfl⟩)) _
  |unsupported u=>
   cases u with
   |initOrder g=>
    obtain⟨o,w2,es2,he⟩:=H7 A fr (cs++B) g w1;simp only[stepG.apply,IS,hr,hke,Vz,Vy,he];exact fC.after (.inr (.inl ⟨_,_,_,rfl⟩)) _
   |_=>
    simp only[stepG.apply,IS,hr,hke,Vz,Vy];exact fC.after (.inr (.inl ⟨_,_,_,rfl⟩)) _
  |_=>exact ht.elim
theorem eh.Fc(h:eh P L T τ fr cs w)(hne:cs≠[]){m:Bool}(v:Value)(w1:World):fC L.fn B (doReturn P m fr (cs++B) none v w1):=by
 have hc:=h.callers;cases hc with
 |nil=>exact absurd rfl hne
 |cons hc _ _=>
  simp only[Ws,doReturn,h.frame.kind.1];exact .inl ⟨_,_,_,rfl,rfl,rfl,λx e=>hc.qG x ((uh _ _).symm.trans e),(ud _ _).trans hc.kind.1⟩
end
end
section
open Go.Conc
section
variable {P:Program}{L:ax}{T:aN}{τ:ai}{F:FuncId->Prop}{fr:Frame}{cs B:List Frame}{w:World}
theorem L2.eq{R:α->α->Prop}(hR:∀a b,R a b->a=b){xs ys:List α}(h:L2 R xs ys):xs=ys:=by
 induction h with
 |nil=>rfl
 |cons h _ ih=>rw[hR _ _ h,ih]
theorem eh.zh(A:kD P L T)(h:eh P L T τ fr cs w)(hlast:fr.mode=.returning->fr.defers= []->cs≠[])(m:Bool):
  fC L.fn B (stepG P m {frame:=fr,callers:=cs++B,status:=.running,dying:=none} w):=by
 have hfr:=h.frame;have K:=A.stat.bX;have go:∀(k:List Item) (w1:World),fC L.fn B (.go {frame:={fr with todo:=k},callers:=cs++B,status:=.running,dying:=none} w1):=λk w1=>
  .inl ⟨_,_,_,rfl,rfl,rfl,hfr.qG,hfr.kind.1⟩
 rcases hfr.run with hrun|⟨hret,_⟩
 ·have e1:stepG P m {frame:=fr,callers:=cs++B,status:=.running,dying:=none} w=stepG.exec P m true fr (cs++B) none w:=by simp only[stepG,hrun]
  rw[e1];have leave:∀(jump:Option Code),(∀c,jump=some c->Jump c)->fC L.fn B (kj P m fr (cs++B) w jump fr.roundOf):=by
   intro jump hj;have hr:=hfr.round;rcases h1:fr.roundOf with _|l
   ·unfold kj;by_cases hjm:wA jump=true
    ·simp only[hjm,IS];exact .inl ⟨_,_,_,rfl,rfl,rfl,λc e=>(by cases e),hfr.kind.1⟩
    ·simp only[hjm,Vz,Vy];exact .inr (.inl ⟨_,_,_,rfl⟩)
   ·unfold kj;rw[h1]at hr;refine fC.after ?_ _;rcases h.dW .own (R:=λσ=>CR L σ .any) (p:=Instr.endRound l jump) (λN hN=>Co ((ai.fW ..).lp _ _ hr) hj) with⟨a,b,w1,es,e,_⟩|⟨hh,w1,es,e,_⟩
    ·rw[e];exact h.Fc (xi h.bot h1) a w1
    ·rw[e];exact .inr (.inl ⟨_,_,_,rfl⟩)
  have ht:=hfr.todo;generalize ek:fr.todo=k at ht;cases k with
  |nil=>rw[ze ek];exact leave none (λc hc=>by cases hc)
  |cons it k=>
   cases ht with
   |cons hi hk=>
    cases hi with
    |inBlock id=>simp only[stepG.exec,ek];exact go _ _
    |inLoop hc=>simp only[stepG.exec,ek];exact go _ _
    |beginRound=>
     simp only[stepG.exec,ek];refine h.yz A (k:=.own) (c:=.any) λN hN=>?_;have hr:=hfr.round;cases h1:fr.roundOf with
     |none=>exact .af _ (ak.bind' (.stuck _))
     |some l=>
      rw[h1]at hr;exact ae.bind' (Fj ((ai.fW ..).lp _ _ hr)) λ_ _ _=>.pure .skip
    |inRangeFunc hl=>simp only[stepG.exec,ek];exact .inr (.inl ⟨_,_,_,rfl⟩)
    |@endRangeFunc lp _ hl=>
     rw[yh ek];refine fC.after ?_ _;rcases h.dW .own (R:=λ_ a b=>a=b/\∀c,a=some c->Jump c) (p:=Instr.endLoop lp) (λN hN=>Cs ((ai.fW ..).lp _ _ hl)) with⟨a,b,w1,es,e,_⟩|⟨hh,w1,es,e,ht,hd⟩
     ·rw[e];exact go _ _
     ·rw[e];cases hh with
      |panic v=>exact .inr (.inr ⟨_,_,_,rfl,AE hfr.yA (Ea h.callers) hd _⟩)
      |_=>exact .inr (.inl ⟨_,_,_,rfl⟩)
    |@inRegion ops todo hops=>
     cases todo with
     |nil=>simp only[stepG.exec,ek];exact go _ _
     |cons i rest=>
      rw[yl ek];split
      ·rename_i hw;have o1:fr.oper?=ops[i]? :=by unfold Frame.oper?;rw[ek]
       cases ho:ops[i]? with
       |none=>rw[ho]at hw;simp at hw
       |some o=>
        have hok:de P L T fr.fn (oq L fr.fn o) o.op=true:=Array.all_eq_true'.1 hops o (Array.mem_of_getElem? ho);rw[xJ (o1.trans ho) hok];exact h.yz A λN hN=>Eh (A.stat.env (h.iX N _) (ai.iU h.flat)) K.pR K.o5 (ai.iU h.flat) ⟨λ_=>rfl,λ_=>rfl⟩ (λc x hx=>(hfr.mono (ai.fW ..)).eval K (h.iX N _).tofo (ai.iU h.flat) c x hx) o hok
      ·exact .inl ⟨_,_,_,rfl,rfl,rfl,λc e=>hfr.qG c ((uh _ _).symm.trans e),(ud _ _).trans hfr.kind.1⟩
    |@code c hc=>
     cases c with
     |skip=>simp only[stepG.exec,ek];exact go _ _
     |ret=>rw[xq ek];exact leave (some .ret) (λc hc=>by cases hc;exact .inl rfl)
     |seq x y=>simp only[stepG.exec,ek];exact go _ _
     |cond c x y=>
      simp only[stepG.exec,ek];split
      ·exact go _ _
      ·exact .inr (.inl ⟨_,_,_,rfl⟩)
     |block id c=>simp only[stepG.exec,ek];exact go _ _
     |loop c=>simp only[stepG.exec,ek];exact go _ _
     |exit id=>
      cases he:exitTo id k with
      |none=>rw[vJ ek he];exact leave (some (.exit id)) (λc hc=>by cases hc;exact .inr ⟨_,rfl⟩)
      |some k'=>simp only[stepG.exec,ek,he,Option.elim];exact go _ _
     |region id ops draw=>
      cases draw with
      |false=>rw[zo ek];exact go _ _
      |true=>rw[wo ek];exact go _ _
     |rangeFunc f ps x y=>
      simp only[dL,IN]at hc;rw[vM ek];refine fC.after ?_ _;rcases h.dW .lp (R:=λσ a b=>σ.lp a.1 b.1/\L2 (iH σ) a.2 b.2) (p:=Instr.enterLoop fr.fn fr.tmps ps x y fr.roundOf) (λN hN=>Ah (hfr.mono (ai.fW ..)) ps (λp hp=>by simpa using Array.all_eq_true'.1 hc.1.1.2 p hp) hc.1.2 hc.2) with⟨a,b,w1,es,e,hg,⟨hl,hm⟩,hsy,hrest⟩|⟨hh,w1,es,e,_⟩
      ·rw[e];obtain⟨lp,mark⟩:=a;obtain⟨lq,mark'⟩:=b;simp only at hl hm;have hdx:=h.wP w1.heap.size .lp;have e1:lp=lq:=hdx _ _ (.inr (.inr hl));have e2:mark=mark':=hm.eq λa b hx=>by
        cases hx with
        |collected hx=>rw[hdx _ _ (.inr (.inr hx))]
       subst e1 e2;have h2:eh P L T (eZ τ w w1.heap.size .lp) {fr with todo:=.inRangeFunc lp::k,defers:=mark++fr.defers} cs w1:=by
        have hf2:=hfr.mono (ai.fW w.heap.size w.heap.size (w1.heap.size-w.heap.size) .lp);have hk2:L2 (eW P L T (eZ τ w w1.heap.size .lp) fr.fn) k k:=by
         have:=hf2.todo;rw[ek]at this;cases this with
         |cons _ hk=>exact hk
        exact⟨hdx,⟨hf2.fn,hf2.bX,hf2.np,hf2.tmps,.cons (.inRangeFunc hl) hk2,hm.append hf2.defers,hf2.mode,hf2.run,hf2.kind,hf2.round⟩,h.callers.mono (ai.fW ..),h.bot.same rfl,h.iX _ _,ai.iU h.flat,h.nZ hg _,hsy,hrest⟩
       refine h2.yz A (k:=.own) (c:=.any) λN hN=>?_;have hf3:=h2.frame.mono (ai.fW w1.heap.size w1.heap.size (N-w1.heap.size) .own)
       have:=Gf (P:=P) (G:=P.funcs) (C:=CC P L T) (k₀:=.own) (h2.iX N .own).tofo (ai.iU h2.flat) K.pR K.o5 (fl:=T.fl) (c:=.any) (xO _ _) (hf3.eval K (h2.iX N .own).tofo (ai.iU h2.flat) .dM f hc.1.1.1) ((ai.fW ..).lp _ _ hl);show ae P P.funcs L (CC P L T) _ .own (c9 L (CC P L T) _ T.fl .any)
        (do let d ←Deferred.ofValue (({fr with todo:=.inRangeFunc lp::k,defers:=mark++fr.defers}:Frame).eval f) ((#[.const (.func (.yield lp) #[] #[])]:Array Operand).map ({fr with todo:=.inRangeFunc lp::k,defers:=mark++fr.defers}:Frame).eval);invoke d.target d.args)
        (do let d ←Deferred.ofValue (({fr with todo:=.inRangeFunc lp::k,defers:=mark++fr.defers}:Frame).eval f) ((#[.const (.func (.yield lp) #[] #[])]:Array Operand).map ({fr with todo:=.inRangeFunc lp::k,defers:=mark++fr.defers}:Frame).eval);invoke d.target d.args)
       rw[qw];exact this
      ·rw[e];exact .inr (.inl ⟨_,_,_,rfl⟩)
     |refuse y=>simp only[stepG.exec,ek];exact .inr (.inl ⟨_,_,_,rfl⟩)
     |_=>cases hc
 ·have e1:stepG P m {frame:=fr,callers:=cs++B,status:=.running,dying:=none} w=unwind P m fr (cs++B) none w:=by simp only[stepG,hret]
  rw[e1];have hdf:=hfr.defers;generalize ek:fr.defers=k at hdf;cases k with
  |nil=>
   obtain⟨fn,c,h1,_,h2,_,hres⟩:=K.body fr.fn hfr.bX hfr.np;rw[o7 ek hret h1];refine fC.after ?_ _;rcases h.dW .own (R:=λσ=>CR L σ (L.res fr.fn)) (p:=results fn fr.tmps) (λN hN=>yY (h.iX N _).tofo (ai.iU h.flat) fn hres (hfr.mono (ai.fW ..)).tmps) with⟨a,b,w1,es,e,_⟩|⟨hh,w1,es,e,_⟩
   ·rw[e];exact h.Fc (hlast hret ek) a w1
   ·rw[e];cases hh<;>exact .inr (.inl ⟨_,_,_,rfl⟩)
  |cons d ks=>
   cases hdf with
   |cons hi _=>
    cases hi with
    |@collected r s hrs=>
     rw[unwind_mark ek];refine fC.after ?_ _;rcases h.dW .own (R:=λ_ a b=>a= []/\b= []) (p:=Instr.takeDeferred r) (λN hN=>FM ((ai.fW ..).lp _ _ hrs)) with⟨a,b,w1,es,e,_⟩|⟨hh,w1,es,e,_⟩
     ·rw[e];exact .inl ⟨_,_,_,rfl,rfl,rfl,hfr.qG,hfr.kind.1⟩
     ·rw[e];exact .inr (.inl ⟨_,_,_,rfl⟩)
theorem U8(r:Nat)(w:World)(hd:ie w):(∃w1 es,(Instr.takeDeferred r).runT P w #[]=(.ok [] w1,es)/\ie w1)\/(∃hh w1 es,(Instr.takeDeferred r).runT P w #[]=(.halt hh w1,es)):=by
 have e:∀o,w.heap[r]?=some o->(∀c el f,o≠.cells c el f)->(Instr.takeDeferred r).runT P w #[]=
   ((match o with|.deferred (some ds)=>(do setObj r (.deferred none);pure ds:Sem (List Deferred))|_=>stuck "range over a function: the deferred calls have been taken")).runT P w (#[].push ⟨.obj r,false,o.isChan⟩):=by
  intro o ho hne;unfold Instr.takeDeferred;show (Sem.getObj r _).runT P w #[]=_;rw[Sem.runT,ho];cases o with
  |cells c el f=>exact absurd rfl (hne _ _ _)
  |deferred d=>cases d<;>rfl
  |_=>rfl
 cases ho:w.heap[r]? with
 |none=>
  refine .inr ⟨.stuck "getObj: no such block",w,#[],?_⟩;unfold Instr.takeDeferred;show (Sem.getObj r _).runT P w #[]=_;rw[Sem.runT,ho]
 |some o=>
  cases o with
  |cells c el f=>
   refine .inr ⟨.stuck "getObj: a row of cells",w,#[],?_⟩;unfold Instr.takeDeferred;show (Sem.getObj r _).runT P w #[]=_;rw[Sem.runT,ho]
  |deferred d=>
   rw[e _ ho (by simp)];rcases hd r d ho with rfl|rfl
   ·exact .inr ⟨_,_,_,rfl⟩
   ·refine .inl ⟨{w with heap:=w.heap.setIfInBounds r (.deferred none)},(#[].push ⟨.obj r,false,false⟩).push ⟨.obj r,true,false⟩,?_,?_⟩
    ·show (Sem.setObj r (.deferred none) _).runT P w _=_;rw[Sem.runT,ho];rfl
    ·intro r' d' hd';rw[nD]at hd';exact hd.modify (r:=r) (f:=λ_=>.deferred none) (λ_ _ _ e=>by cases e;exact .inl rfl) r' d' hd'
  |_=>rw[e _ ho (by simp)];exact .inr ⟨_,_,_,rfl⟩
theorem panics(A:kD P L T):∀(n:Nat) (fr:Frame) (cs:List Frame) (w:World) (ch:List PanicEntry),fr.mode=.panicking ch->kE L.fn fr->(∀c∈cs,kE L.fn c)->ie w->
  ∀mm,runN P n (lone fr (cs++ [wall]) w)=.next mm->∃g,mm.gs[0]?=some g/\∃ch,g.frame.mode=.panicking ch
 |0,fr,cs,w,ch,hm,_,_,_,mm,e=>by
  simp only[runN,Stepped.next.injEq]at e;subst e;exact⟨_,rfl,ch,hm⟩
 |n+1,fr,cs,w,ch,hm,hf,hc,hd,mm,e=>by
  have e1:stepG P true {frame:=fr,callers:=cs++ [wall],status:=.running,dying:=none} w=unwind P true fr (cs++ [wall]) none w:=by simp only[stepG,hm]
  obtain⟨fn,c,h1,_⟩:=A.stat.bX.body fr.fn hf.1 (λe=>A.np (e▸hf.1));have hcat:fr.catches P=false:=by simp only[Frame.catches,h1]
  cases hdf:fr.defers with
  |cons d ks=>
   obtain⟨r,rfl⟩:=hf.2 d (by rw[hdf];simp);rw[unwind_mark hdf]at e1;rcases U8 (P:=P) r w hd with⟨w1,es,ht,hd1⟩|⟨hh,w1,es,ht⟩
   ·rw[ht]at e1;have hst:step P (lone fr (cs++ [wall]) w)=.next (lone {fr with defers:=ks} (cs++ [wall]) w1):=step_lone_go (by rw[e1];rfl);simp only[runN,hst]at e;exact panics A n {fr with defers:=ks} cs w1 ch hm ⟨hf.1,λd hd=>hf.2 d (by rw[hdf];exact List.mem_cons_of_mem _ hd)⟩ hc hd1 mm e
   ·rw[ht]at e1;have hst: ∃o,step P (lone fr (cs++ [wall]) w)=.ended o w1:=⟨_,step_lone_ended (by rw[e1];rfl)⟩
    obtain⟨o,hst⟩:=hst;simp only[runN,hst]at e;cases e
  |nil=>
   cases cs with
   |cons c cs=>
    have e2:unwind P true fr ((c::cs)++ [wall]) none w=.go {frame:=c.raise ch,callers:=cs++ [wall],status:=.running,dying:=none} w:=by
     simp only[unwind,hdf,hm,hcat,Vz,Vy,Ws]
    have hst:step P (lone fr ((c::cs)++ [wall]) w)=.next (lone (c.raise ch) (cs++ [wall]) w):=step_lone_go (by rw[e1,e2];rfl);simp only[runN,hst]at e;obtain⟨ch',hm'⟩:=raise_mode c ch;exact panics A n (c.raise ch) cs w ch' hm' (Bu (hc c (by simp)) _) (λx hx=>hc x (List.mem_cons_of_mem _ hx)) hd mm e
   |nil=>
    have e2:unwind P true fr ([]++ [wall]) none w=.go {frame:=wall.raise ch,callers:=[],status:=.running,dying:=none} w:=by
     simp only[unwind,hdf,hm,hcat,Vz,Vy,List.nil_append]
    have hst:step P (lone fr ([]++ [wall]) w)=.next (lone (wall.raise ch) [] w):=step_lone_go (by rw[e1,e2];rfl);simp only[runN,hst]at e;obtain⟨ch',hm'⟩:=raise_mode wall ch;cases n with
    |zero=>
     simp only[runN,Stepped.next.injEq]at e;subst e;exact⟨_,rfl,ch',hm'⟩
    |succ n=>
     have hst2: ∃o,step P (lone (wall.raise ch) [] w)=.ended o w:=by
      have hdw:(wall.raise ch).defers= [{target:=.nil,args:=#[]}]:=rfl;refine⟨.unsupported (.noEntry "machine/Return: a deferred call of a nil function value, made while the frame is unwinding") ((wall.raise ch).pos P),step_lone_ended ?_⟩;simp only[stepG,hm',unwind,hdw,callDeferred];rfl
     obtain⟨o,hst2⟩:=hst2;simp only[runN,hst2]at e;cases e
end
end
end Go.Proofs.YtldmcdeibiclkaaGreatDoor.U
