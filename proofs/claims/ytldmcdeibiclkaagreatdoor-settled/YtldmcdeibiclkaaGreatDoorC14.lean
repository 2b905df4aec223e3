/-
  Toward settled_holds: THE COLOURS OF THIS SEAT (wip/tools/col.lean.txt works them out): the starter's table, the
-/
import Derived.Test.YtldmcdeibiclkaaGreatDoorC13
import Derived.Test.YtldmcdeibiclkaaGreatDoorC01
import Derived.Test.YtldmcdeibiclkaaGreatDoorC05
set_option linter.unusedVariables false
set_option linter.unusedSimpArgs false
set_option maxRecDepth 100000
set_option maxHeartbeats 20000000
namespace Go.Proofs.YtldmcdeibiclkaaGreatDoor.U
variable {α:Type}{q o:Obj}{π:Nat->Nat->Prop}{r f s:Nat}{a:Addr}{v:Value}{gr:Frame}{d:Option (List Deferred)}{k:Kd}
section
set_option maxRecDepth 100000
def pj:List Nat:=[3,4,5,6,7,8,9,10,11,12,13,14,15,16,17,18,19,20,21,22,23,24,25,26,27,28,29,30,31,32,33,34,35,36,37,38,39,40,41,42,43,44,45,46,47,48,49,50,51,52,53,54,55,56,57,58,59,60,61,62,63,64,65,66,67,68,69,70,71,72,73,74,75,76,77,78,79,80,81,82,83,84,85,86,87,92,93,94,95,96,97,98,99,100,101,102,103,104,105,106,107,108,109,110,111,112,113,114,115,116,117,136,137,138,139,140,141,142,143,144,145,146,152,153,154,155,156,157,158,159,160,161,162,163,164,165,166,167]
def zw:List Nat:=[28,48,49,66,70,71,72,82,85,86,87,93,94,95,96,97,115,116,117,136,137,143,144,152,153,154,155,156,157,158,159,160,163,164,165,166,167]
def Sy(f t:Nat):bO:=if (f==49&&t==7)||(f==71&&t==0)||(f==71&&t==4)||(f==72&&t==2)||(f==72&&t==3)||(f==95&&t==0)||(f==95&&t==3)||(f==136&&t==1)||(f==136&&t==6) then .dV else if (f==97&&t==0)||(f==97&&t==10) then .jo else if (f==55&&t==15)||(f==56&&t==9)||(f==74&&t==2)||(f==74&&t==42) then .loc else .any
def RG(f:Nat):bO:=if f==72 then .dV else .any
def KJ:List (Nat×Nat):=[(48,180349),(49,11555102),(70,24625626428766142),(71,366),(72,2),(82,2),(85,2),(86,139290),(87,28),(93,11837),(94,393277),(95,22),(96,43),(97,36),(115,2),(116,2),(117,2),(136,7449),(137,170307336999878687074388026878641307889),(143,2),(144,3815880923),(152,468709937250361),(153,8629559964467385),(154,30706245946853818553),(155,20100446945977),(156,223690809),(157,9066177787099598164671015674677074854009),(158,12),(159,503706889378935270451441),(160,155890296660192168261890238920840095753930246804209),(163,30882309152275437715697),(164,8381),(165,2425394161),(166,2),(167,10048761)]
def K0(f t:Nat):Bool:=match KJ.find? λp=>p.1==f with|some p=>p.2.testBit t|none=>false
def L8(f t:Nat):bO:=if (f==49&&t==7)||(f==71&&t==0)||(f==71&&t==4)||(f==72&&t==2)||(f==72&&t==3)||(f==95&&t==0)||(f==95&&t==3)||(f==136&&t==1)||(f==136&&t==6) then .dV else if (f==97&&t==0)||(f==97&&t==10) then .jo else if (f==136&&t==2) then .box else if K0 f t then .own else .any
def M4(f:Nat):bO:=if f==72 then .dV else if f==48||f==49||f==70||f==71||f==87||f==93||f==94||f==95||f==136||f==157 then .own else .any
def ef:aN:=⟨true,λf=>pj.contains f,λf=>f==28||f==66,λf=>f==97,λf=>f==75||f==76,fQ,1⟩
def ic:aN:=⟨false,λf=>zw.contains f,λf=>f==28||f==66,λf=>f==97,λ_=>false,fQ,1⟩
def cR(J:String->Value):aA:=⟨λf=>ef.fb f=true,λf=>ef.cb f=true,λf=>ef.ib f=true,λf=>ef.lb f=true,J,Sy,RG,λf=>if f==fQ then some 3 else none⟩
def jd(J:String->Value):aA:=⟨λf=>ic.fb f=true,λf=>ic.cb f=true,λf=>ic.ib f=true,λf=>ic.lb f=true,J,L8,M4,λ_=>none⟩
section
variable {J:String->Value}
def uN(P:Program)(L:aA)(T:aN)(f:Nat):Bool:=
 match P.funcs[f]? with
 |some fn=>(match fn.body with|some c=>dU P L T f c&&lC L T f fn|none=>false)&&!fn.norace&&!(fn.name== "runtime.NumGoroutine")
 |none=>false
def qS(fn:Func):Bool:=fn.body.isSome&&!fn.norace&&!(fn.name== "runtime.NumGoroutine")
theorem R5:(pj.all λf=>f==fQ||uN Tryz.prog (cR J) ef f)=true:=by kernel_rfl
theorem TG:(zw.all λf=>f !=fQ&&uN Tryz.prog (jd J) ic f)=true:=by kernel_rfl
theorem Sp:(Tryz.prog.funcs[(fQ:Nat)]?).any qS=true/\qS mM=true:=⟨by kernel_rfl,by kernel_rfl⟩
theorem PT:fQ<Tryz.prog.funcs.size:=of_decide_eq_true (by kernel_rfl)
theorem yL(h:f≠fQ):Gg[f]?=Tryz.prog.funcs[f]? :=by
 unfold Gg;rw[Array.getElem?_setIfInBounds_ne (λe=>h e.symm)]
theorem Cb:Gg[(fQ:Nat)]?=some mM:=by
 unfold Gg;rw[Array.getElem?_setIfInBounds_self_of_lt PT]
section
variable {L:aA}{T:aN}
theorem Cs(h:uN Tryz.prog L T f=true): ∃fn c,Tryz.prog.funcs[f]?=some fn/\fn.body=some c/\dU Tryz.prog L T f c=true/\lC L T f fn=true/\fn.norace=false/\(fn.name== "runtime.NumGoroutine")=false:=by
 unfold uN at h;split at h
 ·rename_i fn hf;simp only[IN,Bool.not_eq_true']at h;obtain⟨⟨h1,h2⟩,h3⟩:=h;split at h1
  ·rename_i c hc;simp only[IN]at h1;exact⟨fn,c,hf,hc,h1.1,h1.2,h2,h3⟩
  ·cases h1
 ·cases h
end
theorem yn:∀f,(cR J).fn f->f≠ef.bU->∃fn c,Tryz.prog.funcs[f]?=some fn/\Gg[f]?=some fn/\fn.body=some c/\dU Tryz.prog (cR J) ef f c=true/\lC (cR J) ef f fn=true/\fn.norace=false/\(fn.name== "runtime.NumGoroutine")=false:=by
 intro f hf hn;have hm:f∈pj:=by simpa[cR,ef] using hf
 have:=List.all_eq_true.1 (R5 (J:=J)) f hm;simp only[Xw,beq_iff_eq]at this;obtain⟨fn,c,h1,h2,h3,h4,h5,h6⟩:=Cs (this.resolve_left hn);exact⟨fn,c,h1,by rw[yL hn];exact h1,h2,h3,h4,h5,h6⟩
theorem zT:∀f,(jd J).fn f->f≠fQ/\∃fn c,Tryz.prog.funcs[f]?=some fn/\Gg[f]?=some fn/\fn.body=some c/\dU Tryz.prog (jd J) ic f c=true/\lC (jd J) ic f fn=true/\fn.norace=false/\(fn.name== "runtime.NumGoroutine")=false:=by
 intro f hf;have hm:f∈zw:=by simpa[jd,ic] using hf
 have:=List.all_eq_true.1 (TG (J:=J)) f hm;simp only[IN,bne_iff_ne]at this;obtain⟨fn,c,h1,h2,h3,h4,h5,h6⟩:=Cs this.2;exact⟨this.1,fn,c,h1,by rw[yL this.1];exact h1,h2,h3,h4,h5,h6⟩
def tw(c:Code):Bool:=(readies c).isEmpty
theorem KZ:((Tryz.prog.funcs.toList.all λf=>(f.body.map tw).getD true)&&tw qf)=true:=by kernel_rfl
theorem xc(g:Nat):Qg.stepOf g=none:=by
 unfold Program.stepOf;rw[Array.findIdx?_eq_none_iff];intro fn hfn;have key:∀c,fn.body=some c->readies c= []:=by
  have h:=KZ;simp only[IN]at h;intro c hc;have hm:fn∈Gg:=hfn;unfold Gg at hm;rcases Array.mem_or_eq_of_mem_setIfInBounds hm with hm|rfl
  ·have:=List.all_eq_true.1 h.1 fn (by simpa using hm);rw[hc]at this;simpa[tw] using this
  ·have:c=qf:=by
    have e:mM.body=some qf:=rfl;rw[e]at hc;exact (XA hc).symm
   subst this;simpa[tw] using h.2
 cases hb:fn.body with
 |none=>simp
 |some c=>simp[key c hb]
def sq:Nat->Value->Bool
 |0,_=>false
 |_+1,.bool _=>true
 |_+1,.int _ _=>true
 |_+1,.string _=>true
 |_+1,.pointer none=>true
 |_+1,.slice none _ _=>true
 |_+1,.map none=>true
 |_+1,.chan none=>true
 |_+1,.nilFunc=>true
 |_+1,.nilIface=>true
 |d+1,.agg c=>c.toList.all (sq d)
 |d+1,.tuple c=>c.toList.all (sq d)
 |_,_=>false
theorem uj{L:aA}:∀(d:Nat) (v:Value),sq d v=true->VR L π v v
 |0,v,h=>by cases v<;>cases h
 |d+1,v,h=>by
  cases v with
  |bool b=>exact .bool b
  |int k n=>exact .int k n
  |string s=>exact .string s
  |pointer p=>cases p with
   |none=>exact .bG
   |some a=>cases h
  |slice p n c=>cases p with
   |none=>exact .iE n c
   |some a=>cases h
  |map m=>cases m with
   |none=>exact .kQ
   |some a=>cases h
  |chan m=>cases m with
   |none=>exact .pG
   |some a=>cases h
  |nilFunc=>exact .nilFunc
  |nilIface=>exact .nilIface
  |agg c=>
   have:=VR.agg (L:=L) (π:=π) (c.map λx=>(x,x)) (λz hz=>by
    obtain⟨x,hx,rfl⟩:=Array.mem_map.1 hz;exact uj d x (List.all_eq_true.1 h x (by simpa using hx)))
   simpa[XY] using this
  |tuple c=>
   have:=VR.tuple (L:=L) (π:=π) (c.map λx=>(x,x)) (λz hz=>by
    obtain⟨x,hx,rfl⟩:=Array.mem_map.1 hz;exact uj d x (List.all_eq_true.1 h x (by simpa using hx)))
   simpa[XY] using this
  |_=>cases h
def Hd(i:TypeInfo):Bool:=(match i.desc with|.named n _=>n != "sync.copyChecker" |_=>true)&&(match i.zero with|some v=>sq 8 v|none=>true)
theorem Ur:(Tryz.prog.types.toList.all Hd)=true:=by kernel_rfl
theorem An(L:aA)(t:Nat)(i:TypeInfo)(h:Tryz.prog.types[t]?=some i):kN L i:=by
 have:=List.all_eq_true.1 Ur i ((Array.mem_toList_iff).2 (Array.mem_of_getElem? h));unfold Hd at this;refine⟨λv e π=>?_,λn u e=>?_⟩
 ·rw[e]at this;simp only[IN]at this;exact uj 8 v this.2
 ·rw[e]at this;simp only[IN,bne_iff_ne]at this;exact this.1
theorem pz(L:aA):(∀t i n u,Tryz.prog.info? t=some i->i.desc=.named n u->n≠ "sync.copyChecker")/\∀t i v,Tryz.prog.info? t=some i->i.zero=some v->∀π,VR L π v v:=
 ⟨λ_ _ n u h e=>(Ff (An L) h).2 n u e,λ_ _ v h e π=>(Ff (An L) h).1 v e π⟩
theorem lF:nX (cR J) ef:=by
 refine⟨λf h=>h,λf h=>h,λf h=>h,λf h=>h,λf h=>?_,λf h=>?_,λf h=>?_,λf h=>?_⟩
 ·have:f=28\/f=66:=by simpa[cR,ef] using h
  rcases this with rfl|rfl<;>exact⟨rfl,λi=>rfl,rfl⟩
 ·have:f=75\/f=76:=by simpa[cR,ef] using h
  rcases this with rfl|rfl<;>exact⟨rfl,λi=>rfl,rfl⟩
 ·rcases h with h|h|h
  ·have:f=28\/f=66:=by simpa[cR,ef] using h
   rcases this with rfl|rfl<;>rfl
  ·have:f=97:=by simpa[cR,ef] using h
   subst this;rfl
  ·have:f=75\/f=76:=by simpa[cR,ef] using h
   rcases this with rfl|rfl<;>rfl
 ·have:f=97:=by simpa[cR,ef] using h
  subst this;refine⟨rfl,rfl,λi hi=>?_,rfl⟩;rcases (show i=1\/2<=i by omega) with rfl|h
  ·exact .inl rfl
  ·exact .inr h
theorem SD:nX (jd J) ic:=by
 refine⟨λf h=>h,λf h=>h,λf h=>h,λf h=>h,λf h=>?_,λf h=>?_,λf h=>rfl,λf h=>?_⟩
 ·have:f=28\/f=66:=by simpa[jd,ic] using h
  rcases this with rfl|rfl<;>exact⟨rfl,λi=>rfl,rfl⟩
 ·simp[jd,ic]at h
 ·have:f=97:=by simpa[jd,ic] using h
  subst this;refine⟨rfl,rfl,λi hi=>?_,rfl⟩;rcases (show i=1\/2<=i by omega) with rfl|h
  ·exact .inl rfl
  ·exact .inr h
theorem xT:Tryz.prog.follows .staticDataAhead=true:=by kernel_rfl
theorem xi:Let Tryz.prog Gg (cR J) ef:=by
 refine⟨λf hf hn=>?_,λf hf=>?_,lF,xT,xc⟩
 ·obtain⟨fn,c,h1,h2,h3,h4,h5,_⟩:=yn f hf hn;exact⟨fn,c,h1,h2,h3,h4,h5⟩
 ·by_cases hn:f=fQ
  ·subst hn;obtain⟨p1,p2⟩:=Sp;have g: ∃fn,Tryz.prog.funcs[(fQ:Nat)]?=some fn/\qS fn=true:=by simpa[Option.any_eq_true] using p1
   obtain⟨fn,h1,h2⟩:=g;have un:∀fn:Func,qS fn=true->(fn.name== "runtime.NumGoroutine")=false/\fn.body.isNone=false/\fn.norace=false:=λfn h=>by
    unfold qS at h;simp only[IN,Bool.not_eq_true']at h;exact⟨h.2,by cases hb:fn.body<;>simp_all,h.1.2⟩
   exact⟨⟨fn,h1,un fn h2⟩,⟨mM,Cb,un _ p2⟩⟩
  ·obtain⟨fn,c,h1,h2,h3,_,_,h6,h7⟩:=yn f hf hn;exact⟨⟨fn,h1,h7,by rw[h3];rfl,h6⟩,⟨fn,h2,h7,by rw[h3];rfl,h6⟩⟩
theorem M3:Let Tryz.prog Gg (jd J) ic:=by
 refine⟨λf hf hn=>?_,λf hf=>?_,SD,xT,xc⟩
 ·obtain⟨_,fn,c,h1,h2,h3,h4,h5,_⟩:=zT f hf;exact⟨fn,c,h1,h2,h3,h4,h5⟩
 ·obtain⟨_,fn,c,h1,h2,h3,_,_,h6,h7⟩:=zT f hf;exact⟨⟨fn,h1,h7,by rw[h3];rfl,h6⟩,⟨fn,h2,h7,by rw[h3];rfl,h6⟩⟩
theorem tX:Tryz.prog.globals.size=1:=by kernel_rfl
theorem Bs:Stat Tryz.prog Gg (cR J) ef:=⟨tX,(pz (cR J)).1,(pz (cR J)).2,xi⟩
theorem MC:Stat Tryz.prog Gg (jd J) ic:=⟨tX,(pz (jd J)).1,(pz (jd J)).2,M3⟩
theorem U5{Goal:Frame->List Frame->World->Prop}(hg:∀fr cs w,Goal fr cs w->cs= []/\fr.fn≠fQ)(D:List Frame):xj Pg Gg (cR J) ef D Goal:=by
 refine Mq (L1:=(cR J)) (T1:=ef) (L2:=(jd J)) (T2:=ic) ⟨MC,rfl,rfl,?_,hg,?_,rfl⟩ ⟨rfl,rfl,rfl,?_,rfl,λf h=>h,λs=>rfl,tX.symm⟩ D
 ·intro h;exact (zT _ h).1 rfl
 ·exact (by decide:ic.fb 82=true)
 ·intro i hi;rcases (show i=0\/i=1\/i=2 by omega) with rfl|rfl|rfl<;>rfl
end
end
section
def ie(w:World):Prop:=∀(r:Nat) d,w.heap[r]?=some (.deferred d)->d=none\/d=some []
theorem _root_.Go.Sem.uB(P:Program):∀(p:Sem α) (w:World) (es:Array Event) {h:Halt} {w1:World} {es1:Array Event},p.runT P w es=(.halt h w1,es1)->w.heap.size<=w1.heap.size:=by
 intro p;induction p with
 |pure a=>intro w es h w1 es1 hr;cases hr
 |load m a k ih=>
  intro w es h w1 es1 hr;rw[Sem.runT]at hr;split at hr
  ·exact ih _ _ _ hr
  ·split at hr
   ·exact ih _ _ _ hr
   ·cases hr;exact iR _
 |store m a x k ih=>
  intro w es h w1 es1 hr;by_cases h1: ∃c,x=.agg c
  ·obtain⟨c,rfl⟩:=h1;simp only[Sem.runT]at hr;cases hr;exact iR _
  by_cases h2: ∃c,x=.tuple c
  ·obtain⟨c,rfl⟩:=h2;simp only[Sem.runT]at hr;cases hr;exact iR _
  rw[Sem.runT.eq_5 _ _ _ _ _ _ _ (λc e=>h1 ⟨c,e⟩) (λc e=>h2 ⟨c,e⟩)]at hr;split at hr
  ·split at hr
   ·cases hr;exact iR _
   ·have:=ih _ _ hr;simpa[World.setCell] using this
  ·split at hr
   ·rename_i w' l he;unfold World.farStore at he;split at he
    ·split at he
     ·rename_i r hh;cases he;have h3:=Bb hh
      have:=ih _ _ hr;rw[h3.1]at this;exact this
     ·cases he
    ·cases he
   ·cases hr;exact iR _
 |new o k ih=>
  intro w es h w1 es1 hr
  have:=ih _ _ _ hr;simp only[Yh]at this;omega
 |shape r k ih=>intro w es h w1 es1 hr;exact ih _ _ _ hr
 |freeze a n k ih=>
  intro w es h w1 es1 hr
  have:=ih _ _ hr;have h2:(w.freeze a n).heap.size=w.heap.size:=by unfold World.freeze;split<;>simp
  rw[h2]at this;exact this
 |frozen a k ih=>intro w es h w1 es1 hr;exact ih _ _ _ hr
 |getObj r k ih=>
  intro w es h w1 es1 hr;rw[Sem.runT]at hr;split at hr
  ·cases hr;exact iR _
  ·exact ih _ _ _ hr
  ·cases hr;exact iR _
 |setObj r o k ih=>
  intro w es h w1 es1 hr;rw[Sem.runT]at hr;split at hr
  ·cases hr;exact iR _
  ·have:=ih _ _ hr;simpa using this
  ·cases hr;exact iR _
 |choose q k ih=>
  intro w es h w1 es1 hr;rw[Sem.runT]at hr;split at hr
  ·exact ih _ _ _ hr
  ·have:=ih _ _ _ hr;exact this
 |sys c k ih=>
  intro w es h w1 es1 hr
  have:=ih _ _ _ hr;rw[(wE w c).1]at this;exact this
 |program k ih=>intro w es h w1 es1 hr;exact ih _ _ _ hr
 |mark m k ih=>intro w es h w1 es1 hr;exact ih _ _ hr
 |halt h=>intro w es h w1 es1 hr;cases hr;exact iR _
section
variable {P:Program}{G:Array Func}{L:aA}{C:FuncId->Code->Prop}{τ:ai}{k₀:Kd}{N:Nat}
theorem ie.modify{w:World}(h:ie w){f:Obj->Obj}(hf:∀o d,w.heap[r]?=some o->f o=.deferred d->d=none\/d=some []):ie {w with heap:=w.heap.modify r f}:=by
 intro r' d hd;simp only[Array.getElem?_modify]at hd;split at hd
 ·rename_i e;subst e;obtain⟨o,ho,he⟩:=Yf.1 hd;exact hf o d ho he
 ·exact h r' d hd
theorem FP(w:World)(a:Addr)(s:String):lY (w.noCell a s):=by
 unfold World.noCell;split<;>trivial
theorem AL{w:World}(ho:∀o,w.heap[a.block]?=some o->cF L τ o)(b:Bool): ∃h,w.farLoad P a b=.error h/\lY h:=by
 unfold World.farLoad;split
 ·rename_i he;rcases ho _ he with⟨q,hq⟩|⟨_,_,_,hq⟩<;>cases hq
 ·exact⟨_,rfl,FP _ _ _⟩
theorem A0{w:World}{x:Value}(ho:∀o,w.heap[a.block]?=some o->cF L τ o)(b:Bool): ∃h,w.farStore P a x b=.error h/\lY h:=by
 unfold World.farStore;split
 ·rename_i he;rcases ho _ he with⟨q,hq⟩|⟨_,_,_,hq⟩<;>cases hq
 ·exact⟨_,rfl,FP _ _ _⟩
theorem ae.Uw(hb:Fit τ){β:Type}{R:α->β->Prop}{p:Sem α}{q:Sem β}(h:ae P G L C τ k₀ R p q):
  ∀(w v:World) (es:Array Event) (hh:Halt) (w1:World) (es1:Array Event),Sync L C τ k₀ N w v->ie w->p.runT (gp P G) w es=(.halt hh w1,es1)->w1.heap.size<=N->(∀r s,τ.un r s->r<N)->lY hh/\ie w1:=by
 induction h with
 |pure hR=>intro w v es hh w1 es1 _ _ hr _ _;cases hr
 |@load a b k l hab _ ih=>
  intro w v es hh w1 es1 hs hd hr hN hpn;rw[Sem.runT]at hr;cases hc:w.cell? a with
  |none=>
   obtain⟨hx,he,ht⟩:=AL (P:=gp P G) (L:=L) (τ:=τ) (hs.known (.inl hab.1)) (Mode.plain==.atomic);rw[hc]at hr;simp only[he]at hr;cases hr;exact⟨ht,hd⟩
  |some y=>
   rw[hc]at hr;obtain⟨z,hz,hyz⟩:=hs.cell hab hc;exact ih y z hyz w v _ hh w1 es1 hs hd hr hN hpn
 |@oE a b k l hab _ ih=>
  intro w v es hh w1 es1 hs hd hr hN hpn;rw[Sem.runT]at hr;cases hc:w.cell? a with
  |none=>
   obtain⟨hx,he,ht⟩:=AL (P:=gp P G) (L:=L) (τ:=τ) (hs.known (.inr hab.1)) (Mode.plain==.atomic);rw[hc]at hr;simp only[he]at hr;cases hr;exact⟨ht,hd⟩
  |some y=>
   rw[hc]at hr;obtain⟨z,hz,hyz⟩:=hs.y8 hab hc;exact ih y z hyz w v _ hh w1 es1 hs hd hr hN hpn
 |@store a b x y k l hab hxy _ ih=>
  intro w v es hh w1 es1 hs hd hr hN hpn;by_cases h1: ∃c,x=.agg c
  ·obtain⟨c,rfl⟩:=h1;simp only[Sem.runT]at hr;cases hr;exact⟨trivial,hd⟩
  by_cases h2: ∃c,x=.tuple c
  ·obtain⟨c,rfl⟩:=h2;simp only[Sem.runT]at hr;cases hr;exact⟨trivial,hd⟩
  rw[Sem.runT.eq_5 _ _ _ _ _ _ _ (λc e=>h1 ⟨c,e⟩) (λc e=>h2 ⟨c,e⟩)]at hr;cases hc:w.cell? a with
  |none=>
   obtain⟨hx,he,ht⟩:=A0 (P:=gp P G) (L:=L) (τ:=τ) (x:=x) (hs.known (.inl (hb.own _ _ hab.1))) (Mode.plain==.atomic);rw[hc]at hr;simp only[he]at hr;cases hr;exact⟨ht,hd⟩
  |some y0=>
   rw[hc]at hr;obtain⟨hsp,_⟩:=sH hc;by_cases hfz:w.frozen? a=true
   ·simp only[hfz,No]at hr;cases hr;exact⟨trivial,hd⟩
   ·simp only[hfz,Xf,Xd]at hr;refine ih _ _ _ hh w1 es1 (hs.stored hb hab hsp hxy) ?_ hr hN hpn;refine hd.modify λo d ho he=>?_;cases o<;>simp only at he<;>first|cases he|skip
    exact hd _ d ho
 |@oG a b x y k l hab hxy _ ih=>
  intro w v es hh w1 es1 hs hd hr hN hpn;by_cases h1: ∃c,x=.agg c
  ·obtain⟨c,rfl⟩:=h1;simp only[Sem.runT]at hr;cases hr;exact⟨trivial,hd⟩
  by_cases h2: ∃c,x=.tuple c
  ·obtain⟨c,rfl⟩:=h2;simp only[Sem.runT]at hr;cases hr;exact⟨trivial,hd⟩
  rw[Sem.runT.eq_5 _ _ _ _ _ _ _ (λc e=>h1 ⟨c,e⟩) (λc e=>h2 ⟨c,e⟩)]at hr;cases hc:w.cell? a with
  |none=>
   obtain⟨hx,he,ht⟩:=A0 (P:=gp P G) (L:=L) (τ:=τ) (x:=x) (hs.known (.inr hab.1)) (Mode.plain==.atomic);rw[hc]at hr;simp only[he]at hr;cases hr;exact⟨ht,hd⟩
  |some y0=>
   rw[hc]at hr;obtain⟨hsp,_⟩:=sH hc;by_cases hfz:w.frozen? a=true
   ·simp only[hfz,No]at hr;cases hr;exact⟨trivial,hd⟩
   ·simp only[hfz,Xf,Xd]at hr;refine ih _ _ _ hh w1 es1 (hs.boxed hb hab hsp hxy) ?_ hr hN hpn;refine hd.modify λo d ho he=>?_;cases o<;>simp only at he<;>first|cases he|skip
    exact hd _ d ho
 |@new o q k l hk ho _ ih=>
  intro w v es hh w1 es1 hs hd hr hN hpn;rw[Sem.runT]at hr;have hg:=Sem.uB (gp P G) _ _ _ hr;simp only[Yh]at hg;have hp:τ.own w.heap.size v.heap.size:=by have:=hs.next (by omega);rw[hk]at this;exact this
  refine ih _ _ hp _ _ _ hh w1 es1 (hs.push hb (by omega) (KR.nH hb (hb.own _ _ hp) ho)) ?_ hr hN hpn;intro r d hx;simp only[Array.getElem?_push]at hx;split at hx
  ·cases hx;cases ho
  ·exact hd r d hx
 |@oV xs ys e f k l hk ho _ ih=>
  intro w v es hh w1 es1 hs hd hr hN hpn;rw[Sem.runT]at hr;have hg:=Sem.uB (gp P G) _ _ _ hr;simp only[Yh]at hg;have hp:τ.box w.heap.size v.heap.size:=by have:=hs.next (by omega);rw[hk]at this;exact this
  refine ih _ _ hp _ _ _ hh w1 es1 (hs.push hb (by omega) (KR.tf (e:=e) (f:=f) hb hp ho)) ?_ hr hN hpn;intro r d hx;simp only[Array.getElem?_push]at hx;split at hx
  ·cases hx
  ·exact hd r d hx
 |@ou o q k l hk ho _ ih=>
  intro w v es hh w1 es1 hs hd hr hN hpn;rw[Sem.runT]at hr;have hg:=Sem.uB (gp P G) _ _ _ hr;simp only[Yh]at hg;have hp:τ.lp w.heap.size v.heap.size:=by have:=hs.next (by omega);rw[hk]at this;exact this
  refine ih _ _ hp _ _ _ hh w1 es1 (hs.push hb (by omega) (KR.se hb hp ho)) ?_ hr hN hpn;intro r d hx;simp only[Array.getElem?_push]at hx;split at hx
  ·cases hx;cases ho with
   |deferred hdd=>exact hdd
  ·exact hd r d hx
 |@oN r s k l hrs _ ih=>
  intro w v es hh w1 es1 hs hd hr hN hpn;rw[Sem.runT]at hr;cases hc:w.heap[r]? with
  |none=>rw[hc]at hr;cases hr;exact⟨trivial,hd⟩
  |some o=>
   obtain⟨o',q,h1,h2,h3⟩:=hs.loops r s hrs (Array.getElem?_eq_some_iff.1 hc).1;rw[hc]at h1;cases h1;rw[hc]at hr;have h3':=h3;cases h3 with
   |_=>exact ih _ _ h3' w v _ hh w1 es1 hs hd hr hN hpn
 |@og r s o q k l hrs ho _ ih=>
  intro w v es hh w1 es1 hs hd hr hN hpn;rw[Sem.runT]at hr;cases hc:w.heap[r]? with
  |none=>rw[hc]at hr;cases hr;exact⟨trivial,hd⟩
  |some o0=>
   obtain⟨o',q0,h1,h2,h3⟩:=hs.loops r s hrs (Array.getElem?_eq_some_iff.1 hc).1;rw[hc]at h1;cases h1;rw[hc]at hr;rw[nY]at hr;have hd1:ie {w with heap:=w.heap.modify r λ_=>o}:=hd.modify λ_ d _ he=>by
    subst he;cases ho with
    |deferred hdd=>exact hdd
   have hs1:Sync L C τ k₀ N {w with heap:=w.heap.modify r λ_=>o} {v with heap:=v.heap.modify s λ_=>q}:=hs.turn hb (ai.pR hrs) λ_ _ _=>KR.se hb hrs ho;cases h3 with
   |_=>exact ih _ _ _ hh w1 es1 hs1 hd1 hr hN hpn
 |@shape r s k l hrs _ ih=>intro w v es hh w1 es1 hs hd hr hN hpn;exact ih _ w v es hh w1 es1 hs hd hr hN hpn
 |@freeze a b n k l hab _ ih=>
  intro w v es hh w1 es1 hs hd hr hN hpn;refine ih _ _ _ hh w1 es1 (hs.froze hb hab n) ?_ hr hN hpn;unfold World.freeze;split
  ·exact hd
  ·refine hd.modify λo d ho he=>?_;cases o<;>simp only at he<;>first|cases he|skip
   exact hd _ d ho
 |@frozen a b k l hab _ ih=>intro w v es hh w1 es1 hs hd hr hN hpn;exact ih _ w v es hh w1 es1 hs hd hr hN hpn
 |@getObj r s k l hrs _ ih=>
  intro w v es hh w1 es1 hs hd hr hN hpn;rw[Sem.runT]at hr;cases hc:w.heap[r]? with
  |none=>rw[hc]at hr;cases hr;exact⟨trivial,hd⟩
  |some o=>
   obtain⟨o',q,h1,h2,h3⟩:=hs.obj r s hrs (Array.getElem?_eq_some_iff.1 hc).1;rw[hc]at h1;cases h1;rw[hc]at hr;have h3':=h3;cases h3 with
   |cells e f hx=>cases hr;exact⟨trivial,hd⟩
   |_=>exact ih _ _ h3' w v _ hh w1 es1 hs hd hr hN hpn
 |@setObj r s o q k l hrs ho hnc _ ih=>
  intro w v es hh w1 es1 hs hd hr hN hpn;rw[Sem.runT]at hr;cases hc:w.heap[r]? with
  |none=>rw[hc]at hr;cases hr;exact⟨trivial,hd⟩
  |some o0=>
   obtain⟨o',q0,h1,h2,h3⟩:=hs.obj r s (hb.own _ _ hrs) (Array.getElem?_eq_some_iff.1 hc).1;rw[hc]at h1;cases h1;rw[hc]at hr;rw[nY]at hr;have hd1:ie {w with heap:=w.heap.modify r λ_=>o}:=hd.modify λ_ d _ he=>by
    subst he;cases ho
   have hs1:Sync L C τ k₀ N {w with heap:=w.heap.modify r λ_=>o} {v with heap:=v.heap.modify s λ_=>q}:=hs.turn hb (.inl (hb.own _ _ hrs)) λ_ _ _=>KR.nH hb (hb.own _ _ hrs) ho;cases h3 with
   |cells e f hx=>cases hr;exact⟨trivial,hd⟩
   |_=>exact ih _ _ _ hh w1 es1 hs1 hd1 hr hN hpn
 |@choose qq k l _ ih=>
  intro w v es hh w1 es1 hs hd hr hN hpn;rw[Sem.runT]at hr;by_cases hf:qq.forced=true
  ·simp only[hf,No]at hr;exact ih 0 w v es hh w1 es1 hs hd hr hN hpn
  ·simp only[hf,Xf,Xd]at hr;exact ih _ {w with drawn:=w.drawn+1} v _ hh w1 es1 ⟨hs.held,hs.mN⟩ hd hr hN hpn
 |program _ ih=>intro w v es hh w1 es1 hs hd hr hN hpn;exact ih w v es hh w1 es1 hs hd hr hN hpn
 |oH _ ih=>intro w v es hh w1 es1 hs hd hr hN hpn;exact ih w v es hh w1 es1 hs hd hr hN hpn
 |noRoom _ ih=>intro w v es hh w1 es1 hs hd hr hN hpn;exact ih w v _ hh w1 es1 hs hd hr hN hpn
 |af qq hx=>
  intro w v es hh w1 es1 hs hd hr hN hpn;obtain⟨h2,w2,es2,e,ht,hk⟩:=hx w es;rw[e]at hr;cases hr;exact⟨ht,λr d hx=>hd r d (hk r d hx)⟩
end
end
section
open Go.Conc
def Dg(τ:ai):Prop:=∀r s,τ.un r s->r=s
section
variable {P:Program}{L:aA}{T:aN}{τ:ai}
theorem AR.dg(hp:∀r s,π r s->r=s){b:Addr}(h:AR π a b):a=b:=by
 obtain⟨ab,ao,W8⟩:=a;obtain⟨bb,bo,bs⟩:=b;obtain⟨h1,h2,h3⟩:=h;have h1:=hp _ _ h1;simp only at h1 h2 h3;subst h1 h2 h3;rfl
theorem VR.dg(hj:L.bl=jG)(hp:∀r s,π r s->r=s){w:Value}(h:VR L π v w):v=w:=by
 have arr:∀(zs:Array (Value×Value)),(∀z∈zs,z.1=z.2)->zs.map (·.1)=zs.map (·.2):=λzs hz=>Array.map_congr_left λz h=>hz z h;induction h with
 |bl s=>rw[hj];rfl
 |ptr h=>rw[h.dg hp]
 |slice n c h=>rw[h.dg hp]
 |map h=>rw[hp _ _ h]
 |func xs ys hf _ _ ihx ihy=>rw[arr xs ihx,arr ys ihy]
 |iface t _ ih=>rw[ih]
 |agg xs _ ih=>rw[arr xs ih]
 |tuple xs _ ih=>rw[arr xs ih]
 |_=>rfl
theorem XR.dg{R:α->α->Prop}(hR:∀a b,R a b->a=b){xs ys:Array α}(h:XR R xs ys):xs=ys:=by
 obtain⟨zs,rfl,rfl,hz⟩:=h;exact Array.map_congr_left λz h=>hR _ _ (hz z h)
theorem L2.dg{R:α->α->Prop}(hR:∀a b,R a b->a=b){xs ys:List α}(h:L2 R xs ys):xs=ys:=by
 induction h with
 |nil=>rfl
 |cons h _ ih=>rw[hR _ _ h,ih]
theorem NR.dg(hp:∀r s,π r s->r=s):∀{a b:Option Nat},NR π a b->a=b
 |none,none,_=>rfl
 |some _,some _,h=>by rw[hp _ _ h]
theorem oX.dg(hj:L.bl=jG)(hd:Dg τ){p:FuncId->Prop}{n:Nat}{w:Value}(h:oX L p n τ v w):v=w:=by
 rcases h with⟨rfl,rfl⟩|⟨rfl,rfl⟩|⟨f,xs,ys,rfl,rfl,_,hx,_⟩
 ·rfl
 ·rfl
 ·rw[hx.dg λ_ _ h=>VR.dg hj (λr s x=>hd r s (.inl x)) h]
theorem CR.dg(hj:L.bl=jG)(hb:fC τ)(hd:Dg τ){c:bO}{w:Value}(h:CR L τ c v w):v=w:=by
 cases c with
 |any=>exact VR.dg hj (λr s x=>hd r s (.inl x)) h
 |own=>exact VR.dg hj (λr s x=>hd r s (.inl (hb.own r s x))) h
 |box=>exact VR.dg hj (λr s x=>hd r s (.inr (.inl x))) h
 |jo=>
  rcases h with⟨rfl,rfl⟩|⟨l,m,rfl,rfl,h⟩
  ·rfl
  ·rw[hd _ _ (.inr (.inr h))]
 |dV=>exact oX.dg hj hd h
 |loc=>exact oX.dg hj hd h
theorem TR.dg(hj:L.bl=jG)(hb:fC τ)(hd:Dg τ){f:FuncId}{xs ys:Array Value}(h:TR L τ f xs ys):xs=ys:=by
 apply Xv h.1.symm;intro i h1 h2;exact CR.dg hj hb hd (h.2 i _ _ (Array.getElem?_eq_getElem h1) (Array.getElem?_eq_getElem h2))
theorem OR.dg(hj:L.bl=jG)(hd:Dg τ)(h:OR L τ o q):o=q:=by
 have va:∀a b,VR L τ.all a b->a=b:=λa b h=>VR.dg hj (λr s x=>hd r s (.inl x)) h;cases h with
 |cells e f h=>rw[h.dg va]
 |map c h=>rw[h.dg λa b hab=>by cases a;cases b;obtain⟨h1,h2,h3⟩:=hab;simp only at h1 h2 h3;rw[va _ _ h1,va _ _ h2,h3]]
 |stringIter=>rfl
 |mapIter a b c h=>rw[h.dg λr s x=>hd r s (.inl x)]
 |number l h=>rw[h.dg λr s x=>hd r s (.inl x)]
theorem fD.dg(hj:L.bl=jG)(hb:fC τ)(hd:Dg τ){C:FuncId->Code->Prop}(h:fD L C τ o q):o=q:=by
 cases h with
 |@loop k l h1 h2 h3 h4 h5 h6 h7 h8=>
  obtain⟨a1,a2,a3,a4,a5,a6,a7,a8⟩:=k;obtain⟨b1,b2,b3,b4,b5,b6,b7,b8⟩:=l;simp only at h1 h2 h3 h4 h5 h6 h7 h8;have h4':=TR.dg hj hb hd h4;have h8':=hd _ _ (.inr (.inr h8));subst h1 h2 h3 h4' h5 h6 h7 h8';rfl
 |deferred=>rfl
theorem KR.dg(hj:L.bl=jG)(hb:fC τ)(hd:Dg τ){C:FuncId->Code->Prop}(h:KR L C τ r s o q)(hu:τ.un r s):o=q:=by
 rcases hu with hu|hu|hu
 ·exact OR.dg hj hd (h.all hu)
 ·obtain⟨xs,ys,e,f,rfl,rfl,hx⟩:=h.box hu;rw[hx.dg λa b h=>VR.dg hj (λr s x=>hd r s (.inl (hb.own r s x))) h]
 ·exact fD.dg hj hb hd (h.lp hu)
theorem fu.dg(hd:Dg τ){f:FuncId}{a b:Item}(h:fu P L T τ f a b):a=b:=by
 cases h with
 |inRangeFunc h=>rw[hd _ _ (.inr (.inr h))]
 |endRangeFunc h=>rw[hd _ _ (.inr (.inr h))]
 |_=>rfl
theorem jj.dg(hd:Dg τ){a b:Deferred}(h:jj τ a b):a=b:=by
 cases h with
 |collected h=>rw[hd _ _ (.inr (.inr h))]
theorem bV.dg(hj:L.bl=jG)(hb:fC τ)(hd:Dg τ){fr:Frame}(h:bV P L T τ fr gr):fr=gr:=by
 obtain⟨a1,a2,a3,a4,a5,a6,a7⟩:=fr;obtain⟨b1,b2,b3,b4,b5,b6,b7⟩:=gr;obtain⟨h1,_,_,h3,h4,h5,h6,_,h8,h9⟩:=h;simp only at h1 h3 h4 h5 h6 h8 h9;have e3:=TR.dg hj hb hd h3;have e4:=h4.dg λ_ _ h=>fu.dg hd h;have e5:=h5.dg λ_ _ h=>jj.dg hd h;have e9:=h9.dg λr s x=>hd r s (.inr (.inr x));have e8:=h8.1.trans h8.2.symm;subst h1 e3 e4 e5 h6 e9 e8;rfl
theorem gZ.dg(hj:L.bl=jG)(hb:fC τ)(hd:Dg τ){c:bO}{cs ds:List Frame}(h:gZ P L T τ c cs ds):cs=ds:=by
 induction h with
 |nil=>rfl
 |cons h _ _ ih=>rw[bV.dg hj hb hd h,ih]
end
end
section
open Go.Conc
section
variable {P:Program}{L:aA}{T:aN}{τ:ai}
structure lj(P:Program)(L:aA)(T:aN):Prop where
 stat:Stat P P.funcs L T
 bl:L.bl=jG
 np: ¬L.fn T.bU
structure eM(P:Program)(L:aA)(T:aN)(τ:ai)(fr:Frame)(cs:List Frame)(w:World):Prop where
 dg:Dg τ
 frame:bV P L T τ fr fr
 callers:gZ P L T τ (iA L fr) cs cs
 bot:jq fr cs
 fit:Fit τ
 flat:Flat T τ
 cy:∀r s,τ.un r s->r<w.heap.size
 obj:∀r s,τ.un r s->∃o q,w.heap[r]?=some o/\w.heap[s]?=some q/\KR L (CC P L T) τ r s o q
 yg:ie w
def j9(P:Program)(L:aA)(T:aN)(fr:Frame)(cs:List Frame)(w:World):Prop:=∃τ,eM P L T τ fr cs w
variable {fr:Frame}{cs B:List Frame}{w:World}
abbrev fA(τ:ai)(w:World)(N:Nat)(k:Kd):ai:=τ.ext w.heap.size w.heap.size (N-w.heap.size) k
theorem eM.KW(h:eM P L T τ fr cs w):∀r s,τ.un r s->r<w.heap.size/\s<w.heap.size:=λr s x=>⟨h.cy r s x,by rw[<-h.dg r s x];exact h.cy r s x⟩
theorem eM.yS(h:eM P L T τ fr cs w)(N:Nat)(k:Kd):Dg (fA τ w N k):=λr s x=>by
 rcases ai.iF.1 x with x|⟨i,_,rfl,rfl⟩
 ·exact h.dg r s x
 ·rfl
theorem eM.jz(h:eM P L T τ fr cs w)(N:Nat)(k:Kd):Fit (fA τ w N k):=ai.vI h.fit h.KW
theorem eM.oR(h:eM P L T τ fr cs w){N:Nat}(hN:w.heap.size<=N)(k:Kd):∀r s,(fA τ w N k).un r s->r<N:=λr s x=>by
 rcases ai.iF.1 x with x|⟨i,hi,rfl,rfl⟩
 ·exact Xc (h.cy r s x) hN
 ·omega
theorem eM.sync(h:eM P L T τ fr cs w)(t:Nat->Question->Nat){N:Nat}(hN:w.heap.size<=N)(k:Kd):Sync L (CC P L T) (fA τ w N k) k N w {w with tape:=t}:=by
 refine⟨λr s hr hl=>?_,λi hi=>ai.BC (by omega)⟩;rcases ai.iF.1 hr with hr|⟨i,hi,rfl,rfl⟩
 ·obtain⟨o,q,h1,h2,h3⟩:=h.obj r s hr;exact⟨o,q,h1,h2,h3.zK (ai.gi ..) (h.jz N k) hr⟩
 ·omega
theorem fD.wi{C:FuncId->Code->Prop}(h:fD L C τ (.deferred d) q):d=none\/d=some []:=by
 cases h with
 |deferred h=>exact h
theorem KR.wi{C:FuncId->Code->Prop}(h:KR L C τ r s (.deferred d) q)(hu:τ.un r s):d=none\/d=some []:=by
 rcases hu with hu|hu|hu
 ·have:=h.all hu;cases this
 ·obtain⟨xs,ys,e,f,e1,_⟩:=h.box hu;cases e1
 ·exact (h.lp hu).wi
theorem eM.behind(h:eM P L T τ fr cs w){v w1 v1:World}{es fs es1 fs1:Array Event}(hg:w.heap.size<=w1.heap.size)(hB:cZ L (CC P L T) (fA τ w w1.heap.size k) k w1.heap.size w v w1 v1 es fs es1 fs1):ie w1:=by
 intro r d hd;have hr:=(Array.getElem?_eq_some_iff.1 hd).1;by_cases hu: ∃s,(fA τ w w1.heap.size k).un r s
 ·obtain⟨s,hu⟩:=hu;obtain⟨o,q,h1,h2,h3⟩:=hB.sync.held r s hu hr;rw[hd]at h1;cases h1;exact h3.wi hu
 ·have hlt:r<w.heap.size:=Nat.lt_of_not_le λhle=>hu ⟨r,ai.iF.2 (.inr ⟨r-w.heap.size,by omega,by omega,by omega⟩)⟩;have ha:=hB.nD r hlt λs hx=>hu ⟨s,by
   rcases hx with hx|hx|hx
   ·exact .inl ((h.jz w1.heap.size k).own _ _ hx)
   ·exact .inr (.inl hx)
   ·exact .inr (.inr hx)⟩
  rw[ha]at hd;exact h.yg r d hd
theorem eM.step(A:lj P L T)(h:eM P L T τ fr cs w)(hlast:fr.mode=.returning->fr.defers= []->cs≠[]){m:Bool}{g1:Goroutine}{w1:World}{es:Array Event}(e:stepG P m {frame:=fr,callers:=cs++B,status:=.running,dying:=none} w=.go g1 w1 es)(hf:il g1):
  ∃fr1 cs1,g1= {frame:=fr1,callers:=cs1++B,status:=.running,dying:=none}/\j9 P L T fr1 cs1 w1/\w1.tape=w.tape/\w.drawn<=w1.drawn/\
   ∀t:Nat->Question->Nat,(∀i q,w.drawn<=i->i<w1.drawn->t i q=w.tape i q)->
    stepG P m {frame:=fr,callers:=cs++B,status:=.running,dying:=none} {w with tape:=t}=.go g1 {w1 with tape:=t} es:=by
 have ko:∀(t:Nat->Question->Nat) N,w.heap.size<=N->w1.heap.size<=N->(∀j q,w.drawn+j<w1.drawn->t (w.drawn+j) q=w.tape (w.drawn+j) q)->_:=λt N hN hN2 ht=>
  D3 (P:=P) (G:=P.funcs) (B:=B) (D:=B) (A.stat.env (h.jz N (gU L fr)) (ai.jI h.flat)) A.stat.cp (ai.jI h.flat) (h.oR hN _) rfl (h.sync t hN _) m m (h.frame.mono (ai.gi ..)) (h.callers.mono (ai.gi ..)) h.bot
   hlast g1 w1 es e hf hN2 ht
 have hsz:w.heap.size<=w1.heap.size:=by
  obtain⟨_,_,_,_,_,hB⟩:=ko w.tape (max w.heap.size w1.heap.size) (by omega) (by omega) (λ_ _ _=>rfl);exact hB.grow
 obtain⟨h1,v1,fs,e2,hG,hB⟩:=ko w.tape w1.heap.size hsz (iR _) (λ_ _ _=>rfl);have e2':stepG P m {frame:=fr,callers:=cs++B,status:=.running,dying:=none} w=.go h1 v1 fs:=e2;rw[e]at e2';cases e2';obtain⟨cs1,ds1,c1,c2,c3,c4⟩:=hG.callers;have hcs:cs1=ds1:=Yr (c1.symm.trans c2);subst hcs;have run1:∀{τ:ai} {a b:Frame},iK P P.funcs L T τ a b->bV P L T τ a b:=λh=>by
  cases h with
  |run h=>exact h
  |bU h=>exact absurd h A.np
 refine⟨g1.frame,cs1,?_,⟨fA τ w w1.heap.size (gU L fr),h.yS _ _,run1 hG.frame,c3,c4,h.jz _ _,ai.jI h.flat,h.oR hsz _,λr s hx=>hB.sync.held r s hx (h.oR hsz _ r s hx),h.behind hsz hB⟩,hB.tB,hB.draw,λt ht=>?_⟩
 ·obtain⟨a1,a2,a3,a4,a5⟩:=g1;have s1:=hG.status.1;have s2:=hG.dying.1;have s3:=hG.offers.1;simp only at s1 s2 s3 c1;subst s1 s2 s3 c1;rfl
 ·obtain⟨h2,v2,fs2,e3,hG2,hB2⟩:=ko t w1.heap.size hsz (iR _) (λj q hj=>ht _ q (Nat.le_add_right _ _) hj);obtain⟨cs2,ds2,d1,d2,d3,d4⟩:=hG2.callers;have hbx:=(h.jz w1.heap.size (gU L fr)).tofC;have hdx:=h.yS w1.heap.size (gU L fr);have hg:h2=g1:=by
   have k1:=bV.dg A.bl hbx hdx (run1 hG2.frame);have k2:=gZ.dg A.bl hbx hdx d3;have s1:=hG2.status;have s2:=hG2.dying;have s3:=hG2.offers;clear hG2 hG hf e e2 hB hB2 ko;obtain⟨a1,a2,a3,a4,a5⟩:=g1;obtain⟨b1,b2,b3,b4,b5⟩:=h2;simp only at s1 s2 s3 d1 d2 k1;rw[d1,d2,k1,k2,s1.1,s1.2,s2.1,s2.2,s3.1,s3.2]
  have hw:v2= {w1 with tape:=t}:=by
   have z1:=hB2.size;have z2:=hB2.drawn;have z3:=hB2.tape;have z4:=hB2.os;have z5:=hB2.output;have z6:=hB2.xo;have z7:=hB2.yr;have hheap:v2.heap=w1.heap:=by
    apply Array.ext_getElem?;intro r;by_cases hr:r<w1.heap.size
    ·by_cases hu: ∃s,(fA τ w w1.heap.size (gU L fr)).un r s
     ·obtain⟨s,hu⟩:=hu;obtain⟨o,q,y1,y2,y3⟩:=hB2.sync.held r s hu hr;have ers:=hdx r s hu;subst ers;rw[y1,y2,KR.dg A.bl hbx hdx y3 hu]
     ·have hlt:r<w.heap.size:=Nat.lt_of_not_le λhle=>hu ⟨r,ai.iF.2 (.inr ⟨r-w.heap.size,by omega,by omega,by omega⟩)⟩;have un:∀{r s},(fA τ w w1.heap.size (gU L fr)).mine r s->(fA τ w w1.heap.size (gU L fr)).un r s:=λhx=>by
       rcases hx with hx|hx|hx
       ·exact .inl (hbx.own _ _ hx)
       ·exact .inr (.inl hx)
       ·exact .inr (.inr hx)
      have y:=hB2.gf r hlt λr' hx=>hu ⟨r,by have:=hdx _ _ (un hx);subst this;exact un hx⟩;have y':=hB2.nD r hlt λs hx=>hu ⟨s,un hx⟩;rw[y,y']
    ·have z1':v2.heap.size=w1.heap.size:=by simpa[Yk] using z1
     rw[Array.getElem?_eq_none (by omega),Array.getElem?_eq_none (by omega)]
   have z2':v2.drawn=w1.drawn:=by simpa[Yk] using z2
   obtain⟨q1,q2,q3,q4,q5⟩:=v2;obtain⟨p1,p2,p3,p4,p5⟩:=w1;simp only at hheap z2' z3 z4 z5 z6 z7 ⊢;rw[hheap,z2',z3,z4,z5,<-z6,<-z7]
  have hes:fs2=es:=by
   obtain⟨zs,y1,y2,y3⟩:=hB2.events;rw[y1,y2];congr 1;refine Array.map_congr_left λz hz=>?_;obtain⟨z1,z2⟩:=z;have un:∀{r s},(fA τ w w1.heap.size (gU L fr)).mine r s->r=s:=λhx=>hdx _ _ (by
    rcases hx with hx|hx|hx
    ·exact .inl (hbx.own _ _ hx)
    ·exact .inr (.inl hx)
    ·exact .inr (.inr hx))
   have hx:jO (fA τ w w1.heap.size (gU L fr)) z1 z2:=y3 _ hz;cases hx with
   |cell h=>rw[AR.dg hdx h]
   |write h=>rw[AR.dg (λ_ _ x=>un x) h]
   |obj h=>rw[hdx _ _ h]
   |set h=>rw[un h]
   |noRoom=>rfl
  rw[<-hg,<-hw,<-hes];exact e3
end
end
section
open Go.Conc
section
variable {P:Program}{L:aA}{T:aN}{τ:ai}{F:FuncId->Prop}{fr:Frame}{cs B:List Frame}{w:World}
def Marks(ds:List Deferred):Prop:=∀d∈ds,∃r,d= {target:=.collected r,args:=#[]}
def kT(F:FuncId->Prop)(fr:Frame):Prop:=F fr.fn/\Marks fr.defers
def AD(F:FuncId->Prop)(B:List Frame)(g:Goroutine)(w:World):Prop:=
 ∃fr cs ch,g= {frame:=fr,callers:=cs++B,status:=.running,dying:=none}/\fr.mode=.panicking ch/\kT F fr/\(∀c∈cs,kT F c)/\ie w
def fV(F:FuncId->Prop)(B:List Frame)(s:GStep):Prop:=
 (∃g1 w1 es,s=.go g1 w1 es/\il g1)\/(∃o w1 es,s=.ended o w1 es)\/(∃g1 w1 es,s=.go g1 w1 es/\AD F B g1 w1)
theorem fV.after{s:GStep}(h:fV F B s)(es:Array Event):fV F B (GStep.after es s):=by
 rcases h with⟨g,w,es',rfl,h⟩|⟨o,w,es',rfl⟩|⟨g,w,es',rfl,h⟩
 ·exact .inl ⟨g,w,_,rfl,h⟩
 ·exact .inr (.inl ⟨o,w,_,rfl⟩)
 ·exact .inr (.inr ⟨g,w,_,rfl,h⟩)
theorem Tj{xs ys:List Deferred}(h:L2 (jj τ) xs ys):Marks xs:=by
 induction h with
 |nil=>intro d hd;cases hd
 |cons h _ ih=>
  intro d hd;cases hd with
  |head=>cases h;exact⟨_,rfl⟩
  |tail _ hd=>exact ih d hd
theorem bV.yz(h:bV P L T τ fr gr):kT L.fn fr:=⟨h.cp,Tj h.defers⟩
theorem Bo{c:bO}{ds:List Frame}(h:gZ P L T τ c cs ds):∀c∈cs,kT L.fn c:=by
 induction h with
 |nil=>intro c hc;cases hc
 |cons h _ _ ih=>
  intro c hc;cases hc with
  |head=>exact h.yz
  |tail _ hc=>exact ih c hc
theorem sX(fr:Frame)(v:Value):(fr.finish v).kind=fr.kind:=by
 unfold Frame.finish;split<;>rfl
theorem raise_mode(fr:Frame)(vs:List PanicEntry): ∃ch,(fr.raise vs).mode=.panicking ch:=by
 unfold Frame.raise;split
 ·exact⟨_,rfl⟩
 ·exact⟨_,rfl⟩
theorem F3{fr:Frame}(h:kT F fr)(vs:List PanicEntry):kT F (fr.raise vs):=by
 unfold Frame.raise;split<;>exact h
theorem GD{fr:Frame}(h:kT F fr)(hc:∀c∈cs,kT F c)(hd:ie w)(vs:List PanicEntry):AD F B {frame:=fr.raise vs,callers:=cs++B,status:=.running,dying:=none} w:=by
 obtain⟨ch,hm⟩:=raise_mode fr vs;exact⟨fr.raise vs,cs,ch,rfl,hm,F3 h vs,hc,hd⟩
theorem bV.ri(h:bV P L T τ fr gr):∀c,fr.mode≠.panicking c:=by
 intro c e;rcases h.run with h|h
 ·rw[h]at e;cases e
 ·rw[h.1]at e;cases e
theorem eM.eC(h:eM P L T τ fr cs w)(k:Kd){R:ai->α->α->Prop}{p:Sem α}(hp:∀N,w.heap.size<=N->ae P P.funcs L (CC P L T) (fA τ w N k) k (R (fA τ w N k)) p p):
  (∃a b w1 es,p.runT P w #[]=(.ok a w1,es)/\w.heap.size<=w1.heap.size/\R (fA τ w w1.heap.size k) a b/\(∀r s,(fA τ w w1.heap.size k).un r s->∃o q,w1.heap[r]?=some o/\w1.heap[s]?=some q/\KR L (CC P L T) (fA τ w w1.heap.size k) r s o q)/\ie w1)\/(∃hh w1 es,p.runT P w #[]=(.halt hh w1,es)/\lY hh/\ie w1):=by
 cases hr:p.runT P w #[] with
 |mk r es=>
  cases r with
  |ok a w1=>
   have hg:=(Sem.o7 P _ _ _ hr).1;obtain⟨b,v1,fs,e1,hR,hB⟩:=(hp w1.heap.size hg).sn (h.jz _ _) w {w with tape:=w.tape} #[] #[] a w1 es (h.sync w.tape hg k) hr (iR _) (λ_ _ _=>rfl) (h.oR hg k);have e1':p.runT P w #[]=(.ok b v1,fs):=e1;rw[hr]at e1';cases e1';exact .inl ⟨a,a,w1,es,rfl,hg,hR,λr s hx=>hB.sync.held r s hx (h.oR hg k r s hx),h.behind hg hB⟩
  |halt hh w1=>
   have hg:=Sem.uB P _ _ _ hr;obtain⟨h1,h2⟩:=(hp w1.heap.size hg).Uw (h.jz _ _) w {w with tape:=w.tape} #[] hh w1 es (h.sync w.tape hg k) h.yg hr (iR _) (h.oR hg k);exact .inr ⟨hh,w1,es,rfl,h1,h2⟩
theorem KP(A:lj P L T)(fr:Frame)(cs:List Frame)(g:Nat)(w:World): ∃o w1 es,early P fr cs none g w=.ended o w1 es:=by
 have hn:∀g,P.stepOf g=none:=A.stat.cp.tJ;unfold early;simp only[A.stat.cp.ahead,hn];exact⟨_,_,_,rfl⟩
theorem eM.zv(A:lj P L T)(h:eM P L T τ fr cs w){c:bO}{p:Sem Next}(hp:∀N,w.heap.size<=N->ae P P.funcs L (CC P L T) (fA τ w N k) k (dr L (CC P L T) (fA τ w N k) T.fl c) p p):
  fV L.fn B (stepG.apply P true fr (cs++B) none p w):=by
 have hke:(fr.kind==CallKind.early)=false:=by rw[h.frame.kind.1];rfl
 have aV:=(DD h.frame.todo).1;have hmode:=h.frame.ri;rcases h.eC k (R:=λσ=>dr L (CC P L T) σ T.fl c) hp with⟨a,b,w1,es,hr,_,hR,_,_⟩|⟨hh,w1,es,hr,ht,hd⟩
 ·simp only[stepG.apply,No,hr,hke,Xf,Xd];refine fV.after ?_ _;cases hR with
  |value hv=>exact .inl ⟨_,_,_,rfl,rfl,rfl,λc e=>hmode c ((uI _ _).symm.trans e),(sX _ _).trans h.frame.kind.1⟩
  |skip=>exact .inl ⟨_,_,_,rfl,rfl,rfl,λc e=>hmode c ((uI _ _).symm.trans e),(sX _ _).trans h.frame.kind.1⟩
  |enter hf hx=>exact .inl ⟨_,_,_,rfl,rfl,rfl,λc e=>(by cases e),aV⟩
  |round=>exact .inl ⟨_,_,_,rfl,rfl,rfl,λc e=>(by cases e),rfl⟩
 ·cases hh with
  |panic v=>
   simp only[stepG.apply,No,hr,hke,Xf,Xd];exact fV.after (.inr (.inr ⟨_,_,_,rfl,GD h.frame.yz (Bo h.callers) hd _⟩)) _
  |stuck s=>
   simp only[stepG.apply,No,hr,hke,Xf,Xd];exact fV.after (.inr (.inl ⟨_,_,_,rfl⟩)) _
  |unsupported u=>
   cases u with
   |initOrder g=>
    obtain⟨o,w2,es2,he⟩:=KP A fr (cs++B) g w1;simp only[stepG.apply,No,hr,hke,Xf,Xd,he];exact fV.after (.inr (.inl ⟨_,_,_,rfl⟩)) _
   |_=>
    simp only[stepG.apply,No,hr,hke,Xf,Xd];exact fV.after (.inr (.inl ⟨_,_,_,rfl⟩)) _
  |_=>exact ht.elim
theorem eM.Bd(h:eM P L T τ fr cs w)(hne:cs≠[]){m:Bool}(v:Value)(w1:World):fV L.fn B (doReturn P m fr (cs++B) none v w1):=by
 have hc:=h.callers;cases hc with
 |nil=>exact absurd rfl hne
 |cons hc _ _=>
  simp only[XS,doReturn,h.frame.kind.1];exact .inl ⟨_,_,_,rfl,rfl,rfl,λx e=>hc.ri x ((uI _ _).symm.trans e),(sX _ _).trans hc.kind.1⟩
end
end
section
open Go.Conc
section
variable {P:Program}{L:aA}{T:aN}{τ:ai}{F:FuncId->Prop}{fr:Frame}{cs B:List Frame}{w:World}
theorem L2.eq{R:α->α->Prop}(hR:∀a b,R a b->a=b){xs ys:List α}(h:L2 R xs ys):xs=ys:=by
 induction h with
 |nil=>rfl
 |cons h _ ih=>rw[hR _ _ h,ih]
theorem eM.yU(A:lj P L T)(h:eM P L T τ fr cs w)(hlast:fr.mode=.returning->fr.defers= []->cs≠[])(m:Bool):
  fV L.fn B (stepG P m {frame:=fr,callers:=cs++B,status:=.running,dying:=none} w):=by
 have hfr:=h.frame;have K:=A.stat.cp;have go:∀(k:List Item) (w1:World),fV L.fn B (.go {frame:={fr with todo:=k},callers:=cs++B,status:=.running,dying:=none} w1):=λk w1=>
  .inl ⟨_,_,_,rfl,rfl,rfl,hfr.ri,hfr.kind.1⟩
 rcases hfr.run with hrun|⟨hret,_⟩
 ·have e1:stepG P m {frame:=fr,callers:=cs++B,status:=.running,dying:=none} w=stepG.exec P m true fr (cs++B) none w:=by simp only[stepG,hrun]
  rw[e1];have leave:∀(jump:Option Code),(∀c,jump=some c->Jump c)->fV L.fn B (ll P m fr (cs++B) w jump fr.roundOf):=by
   intro jump hj;have hr:=hfr.round;rcases h1:fr.roundOf with _|l
   ·unfold ll;by_cases hjm:zl jump=true
    ·simp only[hjm,No];exact .inl ⟨_,_,_,rfl,rfl,rfl,λc e=>(by cases e),hfr.kind.1⟩
    ·simp only[hjm,Xf,Xd];exact .inr (.inl ⟨_,_,_,rfl⟩)
   ·unfold ll;rw[h1]at hr;refine fV.after ?_ _;rcases h.eC .own (R:=λσ=>CR L σ .any) (p:=Instr.endRound l jump) (λN hN=>BK ((ai.gi ..).lp _ _ hr) hj) with⟨a,b,w1,es,e,_⟩|⟨hh,w1,es,e,_⟩
    ·rw[e];exact h.Bd (xr h.bot h1) a w1
    ·rw[e];exact .inr (.inl ⟨_,_,_,rfl⟩)
  have ht:=hfr.todo;generalize ek:fr.todo=k at ht;cases k with
  |nil=>rw[yc ek];exact leave none (λc hc=>by cases hc)
  |cons it k=>
   cases ht with
   |cons hi hk=>
    cases hi with
    |inBlock id=>simp only[stepG.exec,ek];exact go _ _
    |inLoop hc=>simp only[stepG.exec,ek];exact go _ _
    |beginRound=>
     simp only[stepG.exec,ek];refine h.zv A (k:=.own) (c:=.any) λN hN=>?_;have hr:=hfr.round;cases h1:fr.roundOf with
     |none=>exact .af _ (ak.bind' (.stuck _))
     |some l=>
      rw[h1]at hr;exact ae.bind' (BT ((ai.gi ..).lp _ _ hr)) λ_ _ _=>.pure .skip
    |inRangeFunc hl=>simp only[stepG.exec,ek];exact .inr (.inl ⟨_,_,_,rfl⟩)
    |@endRangeFunc lp _ hl=>
     rw[wS ek];refine fV.after ?_ _;rcases h.eC .own (R:=λ_ a b=>a=b/\∀c,a=some c->Jump c) (p:=Instr.endLoop lp) (λN hN=>Ca ((ai.gi ..).lp _ _ hl)) with⟨a,b,w1,es,e,_⟩|⟨hh,w1,es,e,ht,hd⟩
     ·rw[e];exact go _ _
     ·rw[e];cases hh with
      |panic v=>exact .inr (.inr ⟨_,_,_,rfl,GD hfr.yz (Bo h.callers) hd _⟩)
      |_=>exact .inr (.inl ⟨_,_,_,rfl⟩)
    |@inRegion ops todo hops=>
     cases todo with
     |nil=>simp only[stepG.exec,ek];exact go _ _
     |cons i rest=>
      rw[zD ek];split
      ·rename_i hw;have o1:fr.oper?=ops[i]? :=by unfold Frame.oper?;rw[ek]
       cases ho:ops[i]? with
       |none=>rw[ho]at hw;simp at hw
       |some o=>
        have hok:dw P L T fr.fn (oS L fr.fn o) o.op=true:=Array.all_eq_true'.1 hops o (Array.mem_of_getElem? ho);rw[yF (o1.trans ho) hok];exact h.zv A λN hN=>DN (A.stat.env (h.jz N _) (ai.jI h.flat)) K.qg K.qm (ai.jI h.flat) ⟨λ_=>rfl,λ_=>rfl⟩ (λc x hx=>(hfr.mono (ai.gi ..)).eval K (h.jz N _).tofC (ai.jI h.flat) c x hx) o hok
      ·exact .inl ⟨_,_,_,rfl,rfl,rfl,λc e=>hfr.ri c ((uI _ _).symm.trans e),(sX _ _).trans hfr.kind.1⟩
    |@code c hc=>
     cases c with
     |skip=>simp only[stepG.exec,ek];exact go _ _
     |ret=>rw[vU ek];exact leave (some .ret) (λc hc=>by cases hc;exact .inl rfl)
     |seq x y=>simp only[stepG.exec,ek];exact go _ _
     |cond c x y=>
      simp only[stepG.exec,ek];split
      ·exact go _ _
      ·exact .inr (.inl ⟨_,_,_,rfl⟩)
     |block id c=>simp only[stepG.exec,ek];exact go _ _
     |loop c=>simp only[stepG.exec,ek];exact go _ _
     |exit id=>
      cases he:exitTo id k with
      |none=>rw[yT ek he];exact leave (some (.exit id)) (λc hc=>by cases hc;exact .inr ⟨_,rfl⟩)
      |some k'=>simp only[stepG.exec,ek,he,Option.elim];exact go _ _
     |region id ops draw=>
      cases draw with
      |false=>rw[zx ek];exact go _ _
      |true=>rw[wQ ek];exact go _ _
     |rangeFunc f ps x y=>
      simp only[dU,IN]at hc;rw[yM ek];refine fV.after ?_ _;rcases h.eC .lp (R:=λσ a b=>σ.lp a.1 b.1/\L2 (jj σ) a.2 b.2) (p:=Instr.enterLoop fr.fn fr.tmps ps x y fr.roundOf) (λN hN=>Gu (hfr.mono (ai.gi ..)) ps (λp hp=>by simpa using Array.all_eq_true'.1 hc.1.1.2 p hp) hc.1.2 hc.2) with⟨a,b,w1,es,e,hg,⟨hl,hm⟩,hsy,hrest⟩|⟨hh,w1,es,e,_⟩
      ·rw[e];obtain⟨lp,mark⟩:=a;obtain⟨lq,mark'⟩:=b;simp only at hl hm;have hdx:=h.yS w1.heap.size .lp;have e1:lp=lq:=hdx _ _ (.inr (.inr hl));have e2:mark=mark':=hm.eq λa b hx=>by
        cases hx with
        |collected hx=>rw[hdx _ _ (.inr (.inr hx))]
       subst e1 e2;have h2:eM P L T (fA τ w w1.heap.size .lp) {fr with todo:=.inRangeFunc lp::k,defers:=mark++fr.defers} cs w1:=by
        have hf2:=hfr.mono (ai.gi w.heap.size w.heap.size (w1.heap.size-w.heap.size) .lp);have hk2:L2 (fu P L T (fA τ w w1.heap.size .lp) fr.fn) k k:=by
         have:=hf2.todo;rw[ek]at this;cases this with
         |cons _ hk=>exact hk
        exact⟨hdx,⟨hf2.fn,hf2.cp,hf2.np,hf2.tmps,.cons (.inRangeFunc hl) hk2,hm.append hf2.defers,hf2.mode,hf2.run,hf2.kind,hf2.round⟩,h.callers.mono (ai.gi ..),h.bot.same rfl,h.jz _ _,ai.jI h.flat,h.oR hg _,hsy,hrest⟩
       refine h2.zv A (k:=.own) (c:=.any) λN hN=>?_;have hf3:=h2.frame.mono (ai.gi w1.heap.size w1.heap.size (N-w1.heap.size) .own)
       have:=AE (P:=P) (G:=P.funcs) (C:=CC P L T) (k₀:=.own) (h2.jz N .own).tofC (ai.jI h2.flat) K.qg K.qm (fl:=T.fl) (c:=.any) (zk _ _) (hf3.eval K (h2.jz N .own).tofC (ai.jI h2.flat) .dV f hc.1.1.1) ((ai.gi ..).lp _ _ hl);show ae P P.funcs L (CC P L T) _ .own (dr L (CC P L T) _ T.fl .any)
        (do let d ←Deferred.ofValue (({fr with todo:=.inRangeFunc lp::k,defers:=mark++fr.defers}:Frame).eval f) ((#[.const (.func (.yield lp) #[] #[])]:Array Operand).map ({fr with todo:=.inRangeFunc lp::k,defers:=mark++fr.defers}:Frame).eval);invoke d.target d.args)
        (do let d ←Deferred.ofValue (({fr with todo:=.inRangeFunc lp::k,defers:=mark++fr.defers}:Frame).eval f) ((#[.const (.func (.yield lp) #[] #[])]:Array Operand).map ({fr with todo:=.inRangeFunc lp::k,defers:=mark++fr.defers}:Frame).eval);invoke d.target d.args)
       rw[q7];exact this
      ·rw[e];exact .inr (.inl ⟨_,_,_,rfl⟩)
     |refuse y=>simp only[stepG.exec,ek];exact .inr (.inl ⟨_,_,_,rfl⟩)
     |_=>cases hc
 ·have e1:stepG P m {frame:=fr,callers:=cs++B,status:=.running,dying:=none} w=unwind P m fr (cs++B) none w:=by simp only[stepG,hret]
  rw[e1];have hdf:=hfr.defers;generalize ek:fr.defers=k at hdf;cases k with
  |nil=>
   obtain⟨fn,c,h1,_,h2,_,hres⟩:=K.body fr.fn hfr.cp hfr.np;rw[pB ek hret h1];refine fV.after ?_ _;rcases h.eC .own (R:=λσ=>CR L σ (L.res fr.fn)) (p:=results fn fr.tmps) (λN hN=>xV (h.jz N _).tofC (ai.jI h.flat) fn hres (hfr.mono (ai.gi ..)).tmps) with⟨a,b,w1,es,e,_⟩|⟨hh,w1,es,e,_⟩
   ·rw[e];exact h.Bd (hlast hret ek) a w1
   ·rw[e];cases hh<;>exact .inr (.inl ⟨_,_,_,rfl⟩)
  |cons d ks=>
   cases hdf with
   |cons hi _=>
    cases hi with
    |@collected r s hrs=>
     rw[unwind_mark ek];refine fV.after ?_ _;rcases h.eC .own (R:=λ_ a b=>a= []/\b= []) (p:=Instr.takeDeferred r) (λN hN=>Bj ((ai.gi ..).lp _ _ hrs)) with⟨a,b,w1,es,e,_⟩|⟨hh,w1,es,e,_⟩
     ·rw[e];exact .inl ⟨_,_,_,rfl,rfl,rfl,hfr.ri,hfr.kind.1⟩
     ·rw[e];exact .inr (.inl ⟨_,_,_,rfl⟩)
theorem SZ(r:Nat)(w:World)(hd:ie w):(∃w1 es,(Instr.takeDeferred r).runT P w #[]=(.ok [] w1,es)/\ie w1)\/(∃hh w1 es,(Instr.takeDeferred r).runT P w #[]=(.halt hh w1,es)):=by
 have e:∀o,w.heap[r]?=some o->(∀c el f,o≠.cells c el f)->(Instr.takeDeferred r).runT P w #[]=
   ((match o with|.deferred (some ds)=>(do setObj r (.deferred none);pure ds:Sem (List Deferred))|_=>stuck "range over a function: the deferred calls have been taken")).runT P w (#[].push ⟨.obj r,false,o.isChan⟩):=by
  intro o ho hne;unfold Instr.takeDeferred;show (Sem.getObj r _).runT P w #[]=_;rw[Sem.runT,ho];cases o with
  |cells c el f=>exact absurd rfl (hne _ _ _)
  |deferred d=>cases d<;>rfl
  |_=>rfl
 cases ho:w.heap[r]? with
 |none=>
  refine .inr ⟨.stuck "getObj: no such block",w,#[],?_⟩;unfold Instr.takeDeferred;show (Sem.getObj r _).runT P w #[]=_;rw[Sem.runT,ho]
 |some o=>
  cases o with
  |cells c el f=>
   refine .inr ⟨.stuck "getObj: a row of cells",w,#[],?_⟩;unfold Instr.takeDeferred;show (Sem.getObj r _).runT P w #[]=_;rw[Sem.runT,ho]
  |deferred d=>
   rw[e _ ho (by simp)];rcases hd r d ho with rfl|rfl
   ·exact .inr ⟨_,_,_,rfl⟩
   ·refine .inl ⟨{w with heap:=w.heap.setIfInBounds r (.deferred none)},(#[].push ⟨.obj r,false,false⟩).push ⟨.obj r,true,false⟩,?_,?_⟩
    ·show (Sem.setObj r (.deferred none) _).runT P w _=_;rw[Sem.runT,ho];rfl
    ·intro r' d' hd';rw[nY]at hd';exact hd.modify (r:=r) (f:=λ_=>.deferred none) (λ_ _ _ e=>by cases e;exact .inl rfl) r' d' hd'
  |_=>rw[e _ ho (by simp)];exact .inr ⟨_,_,_,rfl⟩
theorem panics(A:lj P L T):∀(n:Nat) (fr:Frame) (cs:List Frame) (w:World) (ch:List PanicEntry),fr.mode=.panicking ch->kT L.fn fr->(∀c∈cs,kT L.fn c)->ie w->
  ∀mm,runN P n (lone fr (cs++ [wall]) w)=.next mm->∃g,mm.gs[0]?=some g/\∃ch,g.frame.mode=.panicking ch
 |0,fr,cs,w,ch,hm,_,_,_,mm,e=>by
  simp only[runN,Stepped.next.injEq]at e;subst e;exact⟨_,rfl,ch,hm⟩
 |n+1,fr,cs,w,ch,hm,hf,hc,hd,mm,e=>by
  have e1:stepG P true {frame:=fr,callers:=cs++ [wall],status:=.running,dying:=none} w=unwind P true fr (cs++ [wall]) none w:=by simp only[stepG,hm]
  obtain⟨fn,c,h1,_⟩:=A.stat.cp.body fr.fn hf.1 (λe=>A.np (e▸hf.1));have hcat:fr.catches P=false:=by simp only[Frame.catches,h1]
  cases hdf:fr.defers with
  |cons d ks=>
   obtain⟨r,rfl⟩:=hf.2 d (by rw[hdf];simp);rw[unwind_mark hdf]at e1;rcases SZ (P:=P) r w hd with⟨w1,es,ht,hd1⟩|⟨hh,w1,es,ht⟩
   ·rw[ht]at e1;have hst:step P (lone fr (cs++ [wall]) w)=.next (lone {fr with defers:=ks} (cs++ [wall]) w1):=step_lone_go (by rw[e1];rfl);simp only[runN,hst]at e;exact panics A n {fr with defers:=ks} cs w1 ch hm ⟨hf.1,λd hd=>hf.2 d (by rw[hdf];exact List.mem_cons_of_mem _ hd)⟩ hc hd1 mm e
   ·rw[ht]at e1;have hst: ∃o,step P (lone fr (cs++ [wall]) w)=.ended o w1:=⟨_,step_lone_ended (by rw[e1];rfl)⟩
    obtain⟨o,hst⟩:=hst;simp only[runN,hst]at e;cases e
  |nil=>
   cases cs with
   |cons c cs=>
    have e2:unwind P true fr ((c::cs)++ [wall]) none w=.go {frame:=c.raise ch,callers:=cs++ [wall],status:=.running,dying:=none} w:=by
     simp only[unwind,hdf,hm,hcat,Xf,Xd,XS]
    have hst:step P (lone fr ((c::cs)++ [wall]) w)=.next (lone (c.raise ch) (cs++ [wall]) w):=step_lone_go (by rw[e1,e2];rfl);simp only[runN,hst]at e;obtain⟨ch',hm'⟩:=raise_mode c ch;exact panics A n (c.raise ch) cs w ch' hm' (F3 (hc c (by simp)) _) (λx hx=>hc x (List.mem_cons_of_mem _ hx)) hd mm e
   |nil=>
    have e2:unwind P true fr ([]++ [wall]) none w=.go {frame:=wall.raise ch,callers:=[],status:=.running,dying:=none} w:=by
     simp only[unwind,hdf,hm,hcat,Xf,Xd,YH]
    have hst:step P (lone fr ([]++ [wall]) w)=.next (lone (wall.raise ch) [] w):=step_lone_go (by rw[e1,e2];rfl);simp only[runN,hst]at e;obtain⟨ch',hm'⟩:=raise_mode wall ch;cases n with
    |zero=>
     simp only[runN,Stepped.next.injEq]at e;subst e;exact⟨_,rfl,ch',hm'⟩
    |succ n=>
     have hst2: ∃o,step P (lone (wall.raise ch) [] w)=.ended o w:=by
      have hdw:(wall.raise ch).defers= [{target:=.nil,args:=#[]}]:=rfl;refine⟨.unsupported (.noEntry "machine/Return: a deferred call of a nil function value, made while the frame is unwinding") ((wall.raise ch).pos P),step_lone_ended ?_⟩;simp only[stepG,hm',unwind,hdw,callDeferred];rfl
     obtain⟨o,hst2⟩:=hst2;simp only[runN,hst2]at e;cases e
end
end
end Go.Proofs.YtldmcdeibiclkaaGreatDoor.U
