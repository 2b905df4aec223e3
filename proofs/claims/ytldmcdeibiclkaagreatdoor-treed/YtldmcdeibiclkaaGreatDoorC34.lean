/-
  Toward: treed_holds, each node's digest is that of its children's, for every argument of Treed. THE LONE ONE's PROGRAM (Q), UNDER A NAME OF ITS OWN, with the facts that walks want: what looks at types alone is as in the program itself; each function but one is.
-/
import Derived.Test.YtldmcdeibiclkaaGreatDoorC13
set_option linter.unusedVariables false
set_option linter.unusedSimpArgs false
set_option maxRecDepth 4000
section
namespace Go.Proofs
noncomputable def Qry.prog:Program:=Go.Proofs.YtldmcdeibiclkaaGreatDoor.U.Qg
theorem Qry.is:Qry.prog=Go.Proofs.YtldmcdeibiclkaaGreatDoor.U.gp Tryz.prog Go.Proofs.YtldmcdeibiclkaaGreatDoor.U.Gg:=rfl
section
variable (P:Program) (G:Array Func) (t:TypeId) (w:World)
theorem Qry.h_depth:(Go.Proofs.YtldmcdeibiclkaaGreatDoor.U.gp P G).depth=P.depth:=rfl
theorem Qry.h_underlying:(Go.Proofs.YtldmcdeibiclkaaGreatDoor.U.gp P G).underlying t=P.underlying t:=rfl
theorem Qry.h_funcs:(Go.Proofs.YtldmcdeibiclkaaGreatDoor.U.gp P G).funcs=G:=rfl
theorem Qry.h_prog:Sem.run P Go.program w= .ok P w:=rfl
theorem Qry.h_typeInfo:Sem.run (Go.Proofs.YtldmcdeibiclkaaGreatDoor.U.gp P G) (typeInfo t) w=Sem.run P (typeInfo t) w:=by
 simp only [typeInfo,Sem.run_bind,Qry.h_prog,Result.andThen_ok,Go.Proofs.YtldmcdeibiclkaaGreatDoor.U.gp_info]
 cases P.info? t<;> rfl
theorem Qry.h_run:Sem.run (Go.Proofs.YtldmcdeibiclkaaGreatDoor.U.gp P G) (underlying t) w=Sem.run P (underlying t) w:=by
 simp only [underlying,Sem.run_bind,Qry.h_prog,Result.andThen_ok,Go.Proofs.YtldmcdeibiclkaaGreatDoor.U.gp_underlying]
 cases P.underlying t<;> rfl
theorem Qry.h_sizeOf:Sem.run (Go.Proofs.YtldmcdeibiclkaaGreatDoor.U.gp P G) (sizeOf t) w=Sem.run P (sizeOf t) w:=by
 simp only [sizeOf,Sem.run_bind,Qry.h_typeInfo]
 cases Sem.run P (typeInfo t) w<;> rfl
theorem Qry.h_uns (P Q:Program) (w:World) (x:Unsupported):Sem.run P (unsupported x:Sem Value) w=Sem.run Q (unsupported x:Sem Value) w:=by unfold unsupported;rfl
theorem Qry.h_zero:Sem.run (Go.Proofs.YtldmcdeibiclkaaGreatDoor.U.gp P G) (zeroValue t) w=Sem.run P (zeroValue t) w:=by
 unfold zeroValue
 rw [Sem.run_bind,Sem.run_bind,Qry.h_typeInfo]
 congr 1
 funext i w
 cases i.zero with
 |some v=>simp only [Sem.run_pure]
 |none=>exact Qry.h_uns _ _ _ _
theorem Qry.h_isAgg:Sem.run (Go.Proofs.YtldmcdeibiclkaaGreatDoor.U.gp P G) (isAgg t) w=Sem.run P (isAgg t) w:=by
 unfold isAgg
 rw [Sem.run_bind,Sem.run_bind,Qry.h_run]
 congr 1
 funext i w
 cases i<;> simp only [Sem.run_pure]
end
section
variable (t:TypeId) (w:World)
@[simp] theorem Qry.g_sizeOf:Sem.run Qry.prog (sizeOf t) w=Sem.run Tryz.prog (sizeOf t) w:=by rw [Qry.is];exact Qry.h_sizeOf _ _ t w
@[simp] theorem Qry.g_run:Sem.run Qry.prog (underlying t) w=Sem.run Tryz.prog (underlying t) w:=by rw [Qry.is];exact Qry.h_run _ _ t w
@[simp] theorem Qry.g_isAgg:Sem.run Qry.prog (isAgg t) w=Sem.run Tryz.prog (isAgg t) w:=by rw [Qry.is];exact Qry.h_isAgg _ _ t w
theorem Qry.g_zero:Sem.run Qry.prog (zeroValue t) w=Sem.run Tryz.prog (zeroValue t) w:=by rw [Qry.is];exact Qry.h_zero _ _ t w
@[simp] theorem Qry.g_underlying:Qry.prog.underlying t=Tryz.prog.underlying t:=by rw [Qry.is];exact Qry.h_underlying _ _ t
@[simp] theorem Qry.g_guard (d:Nat):Qry.prog.eqGuardType d t=Tryz.prog.eqGuardType d t:=by rw [Qry.is];exact Go.Proofs.YtldmcdeibiclkaaGreatDoor.U.gp_eqGuardType _ _ d t
@[simp] theorem Qry.g_depth:Qry.prog.depth=Tryz.prog.depth:=by rw [Qry.is];exact Qry.h_depth _ _
end
theorem Qry.g_func {f:Nat} (h:f≠68):Qry.prog.funcs[f]? =Tryz.prog.funcs[f]? :=by
 rw [Qry.is,Qry.h_funcs,Go.Proofs.YtldmcdeibiclkaaGreatDoor.U.Gg]
 rw [Array.getElem?_setIfInBounds_ne (Ne.symm h)]
theorem Qry.h_call {P:Program} {f:FuncId} {fn:Func} (h1:P.funcs[f]? =some fn) (h2:(fn.name== "runtime.NumGoroutine")=false) (h3:fn.body.isNone=false) (args:Array Value) (w:World):Sem.run P (callFunc f args) w= .ok (.enter f args) w:=by
 rw [← Sem.runT_fst _ _ _ #[]]
 unfold callFunc
 show (((Go.program).bind _).runT P w #[]).1=_
 rw [Sem.runT_bind']
 simp only [Go.program,Sem.runT,h1,h2,h3,Bool.false_eq_true,if_false]
 rfl
theorem Qry.g_call {f:Nat} {fn:Func} (h:Qry.prog.funcs[f]? =some fn) (h1:(fn.name== "runtime.NumGoroutine")=false) (h2:fn.body.isNone=false) (args:Array Value) (w:World):Sem.run Qry.prog (callFunc f args) w= .ok (.enter f args) w:=
 Qry.h_call h h1 h2 args w
theorem Qry.g_some {n:Nat} {x:Func} (h:Tryz.prog.funcs[n]? =some x) (hn:n≠68):Qry.prog.funcs[n]? =some x:=(Qry.g_func hn).trans h
abbrev Qry.underlying0:=(Qry.g_underlying 0).trans Tryz.underlying0
abbrev Qry.sizeOf0 (w:World):=(Qry.g_sizeOf 0 w).trans (Tryz.sizeOf0 w)
abbrev Qry.isAgg0 (w:World):=(Qry.g_isAgg 0 w).trans (Tryz.isAgg0 w)
abbrev Qry.underlying3:=(Qry.g_underlying 3).trans Tryz.underlying3
abbrev Qry.sizeOf3 (w:World):=(Qry.g_sizeOf 3 w).trans (Tryz.sizeOf3 w)
abbrev Qry.isAgg3 (w:World):=(Qry.g_isAgg 3 w).trans (Tryz.isAgg3 w)
abbrev Qry.underlying4:=(Qry.g_underlying 4).trans Tryz.underlying4
abbrev Qry.sizeOf4 (w:World):=(Qry.g_sizeOf 4 w).trans (Tryz.sizeOf4 w)
abbrev Qry.isAgg4 (w:World):=(Qry.g_isAgg 4 w).trans (Tryz.isAgg4 w)
abbrev Qry.underlying5:=(Qry.g_underlying 5).trans Tryz.underlying5
abbrev Qry.sizeOf5 (w:World):=(Qry.g_sizeOf 5 w).trans (Tryz.sizeOf5 w)
abbrev Qry.isAgg5 (w:World):=(Qry.g_isAgg 5 w).trans (Tryz.isAgg5 w)
abbrev Qry.underlying9:=(Qry.g_underlying 9).trans Tryz.underlying9
abbrev Qry.sizeOf9 (w:World):=(Qry.g_sizeOf 9 w).trans (Tryz.sizeOf9 w)
abbrev Qry.isAgg9 (w:World):=(Qry.g_isAgg 9 w).trans (Tryz.isAgg9 w)
abbrev Qry.underlying22:=(Qry.g_underlying 22).trans Tryz.underlying22
abbrev Qry.underlying30:=(Qry.g_underlying 30).trans Tryz.underlying30
abbrev Qry.underlying31:=(Qry.g_underlying 31).trans Tryz.underlying31
abbrev Qry.underlying33:=(Qry.g_underlying 33).trans Tryz.underlying33
abbrev Qry.underlying36:=(Qry.g_underlying 36).trans Tryz.underlying36
abbrev Qry.underlying38:=(Qry.g_underlying 38).trans Tryz.underlying38
abbrev Qry.sizeOf38 (w:World):=(Qry.g_sizeOf 38 w).trans (Tryz.sizeOf38 w)
abbrev Qry.isAgg38 (w:World):=(Qry.g_isAgg 38 w).trans (Tryz.isAgg38 w)
abbrev Qry.underlying44:=(Qry.g_underlying 44).trans Tryz.underlying44
abbrev Qry.sizeOf44 (w:World):=(Qry.g_sizeOf 44 w).trans (Tryz.sizeOf44 w)
abbrev Qry.isAgg44 (w:World):=(Qry.g_isAgg 44 w).trans (Tryz.isAgg44 w)
abbrev Qry.underlying48:=(Qry.g_underlying 48).trans Tryz.underlying48
abbrev Qry.sizeOf48 (w:World):=(Qry.g_sizeOf 48 w).trans (Tryz.sizeOf48 w)
abbrev Qry.isAgg48 (w:World):=(Qry.g_isAgg 48 w).trans (Tryz.isAgg48 w)
abbrev Qry.underlying55:=(Qry.g_underlying 55).trans Tryz.underlying55
abbrev Qry.sizeOf55 (w:World):=(Qry.g_sizeOf 55 w).trans (Tryz.sizeOf55 w)
abbrev Qry.isAgg55 (w:World):=(Qry.g_isAgg 55 w).trans (Tryz.isAgg55 w)
abbrev Qry.underlying67:=(Qry.g_underlying 67).trans Tryz.underlying67
abbrev Qry.underlying71:=(Qry.g_underlying 71).trans Tryz.underlying71
abbrev Qry.underlying74:=(Qry.g_underlying 74).trans Tryz.underlying74
abbrev Qry.underlying76:=(Qry.g_underlying 76).trans Tryz.underlying76
abbrev Qry.underlying98:=(Qry.g_underlying 98).trans Tryz.underlying98
abbrev Qry.sizeOf98 (w:World):=(Qry.g_sizeOf 98 w).trans (Tryz.sizeOf98 w)
abbrev Qry.isAgg98 (w:World):=(Qry.g_isAgg 98 w).trans (Tryz.isAgg98 w)
abbrev Qry.underlying103:=(Qry.g_underlying 103).trans Tryz.underlying103
abbrev Qry.sizeOf103 (w:World):=(Qry.g_sizeOf 103 w).trans (Tryz.sizeOf103 w)
abbrev Qry.isAgg103 (w:World):=(Qry.g_isAgg 103 w).trans (Tryz.isAgg103 w)
abbrev Qry.underlying104:=(Qry.g_underlying 104).trans Tryz.underlying104
abbrev Qry.sizeOf104 (w:World):=(Qry.g_sizeOf 104 w).trans (Tryz.sizeOf104 w)
abbrev Qry.isAgg104 (w:World):=(Qry.g_isAgg 104 w).trans (Tryz.isAgg104 w)
abbrev Qry.underlying119:=(Qry.g_underlying 119).trans Tryz.underlying119
abbrev Qry.sizeOf144 (w:World):=(Qry.g_sizeOf 144 w).trans (Tryz.sizeOf144 w)
abbrev Qry.isAgg144 (w:World):=(Qry.g_isAgg 144 w).trans (Tryz.isAgg144 w)
abbrev Qry.underlying146:=(Qry.g_underlying 146).trans Tryz.underlying146
abbrev Qry.sizeOf146 (w:World):=(Qry.g_sizeOf 146 w).trans (Tryz.sizeOf146 w)
abbrev Qry.isAgg146 (w:World):=(Qry.g_isAgg 146 w).trans (Tryz.isAgg146 w)
abbrev Qry.underlying147:=(Qry.g_underlying 147).trans Tryz.underlying147
abbrev Qry.underlying154:=(Qry.g_underlying 154).trans Tryz.underlying154
abbrev Qry.sizeOf154 (w:World):=(Qry.g_sizeOf 154 w).trans (Tryz.sizeOf154 w)
abbrev Qry.isAgg154 (w:World):=(Qry.g_isAgg 154 w).trans (Tryz.isAgg154 w)
abbrev Qry.underlying155:=(Qry.g_underlying 155).trans Tryz.underlying155
abbrev Qry.sizeOf155 (w:World):=(Qry.g_sizeOf 155 w).trans (Tryz.sizeOf155 w)
abbrev Qry.isAgg155 (w:World):=(Qry.g_isAgg 155 w).trans (Tryz.isAgg155 w)
abbrev Qry.underlying175:=(Qry.g_underlying 175).trans Tryz.underlying175
abbrev Qry.sizeOf175 (w:World):=(Qry.g_sizeOf 175 w).trans (Tryz.sizeOf175 w)
abbrev Qry.isAgg175 (w:World):=(Qry.g_isAgg 175 w).trans (Tryz.isAgg175 w)
abbrev Qry.underlying177:=(Qry.g_underlying 177).trans Tryz.underlying177
abbrev Qry.sizeOf177 (w:World):=(Qry.g_sizeOf 177 w).trans (Tryz.sizeOf177 w)
abbrev Qry.isAgg177 (w:World):=(Qry.g_isAgg 177 w).trans (Tryz.isAgg177 w)
abbrev Qry.underlying186:=(Qry.g_underlying 186).trans Tryz.underlying186
abbrev Qry.sizeOf186 (w:World):=(Qry.g_sizeOf 186 w).trans (Tryz.sizeOf186 w)
abbrev Qry.isAgg186 (w:World):=(Qry.g_isAgg 186 w).trans (Tryz.isAgg186 w)
abbrev Qry.underlying199:=(Qry.g_underlying 199).trans Tryz.underlying199
abbrev Qry.sizeOf199 (w:World):=(Qry.g_sizeOf 199 w).trans (Tryz.sizeOf199 w)
abbrev Qry.isAgg199 (w:World):=(Qry.g_isAgg 199 w).trans (Tryz.isAgg199 w)
abbrev Qry.underlying200:=(Qry.g_underlying 200).trans Tryz.underlying200
abbrev Qry.sizeOf200 (w:World):=(Qry.g_sizeOf 200 w).trans (Tryz.sizeOf200 w)
abbrev Qry.isAgg200 (w:World):=(Qry.g_isAgg 200 w).trans (Tryz.isAgg200 w)
abbrev Qry.underlying225:=(Qry.g_underlying 225).trans Tryz.underlying225
abbrev Qry.sizeOf225 (w:World):=(Qry.g_sizeOf 225 w).trans (Tryz.sizeOf225 w)
abbrev Qry.isAgg225 (w:World):=(Qry.g_isAgg 225 w).trans (Tryz.isAgg225 w)
abbrev Qry.underlying228:=(Qry.g_underlying 228).trans Tryz.underlying228
abbrev Qry.sizeOf228 (w:World):=(Qry.g_sizeOf 228 w).trans (Tryz.sizeOf228 w)
abbrev Qry.isAgg228 (w:World):=(Qry.g_isAgg 228 w).trans (Tryz.isAgg228 w)
abbrev Qry.underlying242:=(Qry.g_underlying 242).trans Tryz.underlying242
abbrev Qry.sizeOf242 (w:World):=(Qry.g_sizeOf 242 w).trans (Tryz.sizeOf242 w)
abbrev Qry.isAgg242 (w:World):=(Qry.g_isAgg 242 w).trans (Tryz.isAgg242 w)
abbrev Qry.underlying243:=(Qry.g_underlying 243).trans Tryz.underlying243
abbrev Qry.sizeOf243 (w:World):=(Qry.g_sizeOf 243 w).trans (Tryz.sizeOf243 w)
abbrev Qry.isAgg243 (w:World):=(Qry.g_isAgg 243 w).trans (Tryz.isAgg243 w)
@[simp] abbrev Qry.zeroValue0 (w:World):=(Qry.g_zero 0 w).trans (Tryz.zeroValue0 w)
@[simp] abbrev Qry.zeroValue3 (w:World):=(Qry.g_zero 3 w).trans (Tryz.zeroValue3 w)
@[simp] abbrev Qry.zeroValue4 (w:World):=(Qry.g_zero 4 w).trans (Tryz.zeroValue4 w)
@[simp] abbrev Qry.zeroValue5 (w:World):=(Qry.g_zero 5 w).trans (Tryz.zeroValue5 w)
@[simp] abbrev Qry.zeroValue9 (w:World):=(Qry.g_zero 9 w).trans (Tryz.zeroValue9 w)
@[simp] abbrev Qry.zeroValue25 (w:World):=(Qry.g_zero 25 w).trans (Tryz.zeroValue25 w)
@[simp] abbrev Qry.zeroValue29 (w:World):=(Qry.g_zero 29 w).trans (Tryz.zeroValue29 w)
@[simp] abbrev Qry.zeroValue38 (w:World):=(Qry.g_zero 38 w).trans (Tryz.zeroValue38 w)
@[simp] abbrev Qry.zeroValue44 (w:World):=(Qry.g_zero 44 w).trans (Tryz.zeroValue44 w)
@[simp] abbrev Qry.zeroValue48 (w:World):=(Qry.g_zero 48 w).trans (Tryz.zeroValue48 w)
@[simp] abbrev Qry.zeroValue55 (w:World):=(Qry.g_zero 55 w).trans (Tryz.zeroValue55 w)
@[simp] abbrev Qry.zeroValue66 (w:World):=(Qry.g_zero 66 w).trans (Tryz.zeroValue66 w)
@[simp] abbrev Qry.zeroValue71 (w:World):=(Qry.g_zero 71 w).trans (Tryz.zeroValue71 w)
@[simp] abbrev Qry.zeroValue81 (w:World):=(Qry.g_zero 81 w).trans (Tryz.zeroValue81 w)
@[simp] abbrev Qry.zeroValue98 (w:World):=(Qry.g_zero 98 w).trans (Tryz.zeroValue98 w)
@[simp] abbrev Qry.zeroValue102 (w:World):=(Qry.g_zero 102 w).trans (Tryz.zeroValue102 w)
@[simp] abbrev Qry.zeroValue103 (w:World):=(Qry.g_zero 103 w).trans (Tryz.zeroValue103 w)
@[simp] abbrev Qry.zeroValue104 (w:World):=(Qry.g_zero 104 w).trans (Tryz.zeroValue104 w)
@[simp] abbrev Qry.zeroValue106 (w:World):=(Qry.g_zero 106 w).trans (Tryz.zeroValue106 w)
@[simp] abbrev Qry.zeroValue115 (w:World):=(Qry.g_zero 115 w).trans (Tryz.zeroValue115 w)
@[simp] abbrev Qry.zeroValue142 (w:World):=(Qry.g_zero 142 w).trans (Tryz.zeroValue142 w)
@[simp] abbrev Qry.zeroValue144 (w:World):=(Qry.g_zero 144 w).trans (Tryz.zeroValue144 w)
@[simp] abbrev Qry.zeroValue146 (w:World):=(Qry.g_zero 146 w).trans (Tryz.zeroValue146 w)
@[simp] abbrev Qry.zeroValue151 (w:World):=(Qry.g_zero 151 w).trans (Tryz.zeroValue151 w)
@[simp] abbrev Qry.zeroValue154 (w:World):=(Qry.g_zero 154 w).trans (Tryz.zeroValue154 w)
@[simp] abbrev Qry.zeroValue155 (w:World):=(Qry.g_zero 155 w).trans (Tryz.zeroValue155 w)
@[simp] abbrev Qry.zeroValue175 (w:World):=(Qry.g_zero 175 w).trans (Tryz.zeroValue175 w)
@[simp] abbrev Qry.zeroValue177 (w:World):=(Qry.g_zero 177 w).trans (Tryz.zeroValue177 w)
@[simp] abbrev Qry.zeroValue186 (w:World):=(Qry.g_zero 186 w).trans (Tryz.zeroValue186 w)
@[simp] abbrev Qry.zeroValue199 (w:World):=(Qry.g_zero 199 w).trans (Tryz.zeroValue199 w)
@[simp] abbrev Qry.zeroValue200 (w:World):=(Qry.g_zero 200 w).trans (Tryz.zeroValue200 w)
@[simp] abbrev Qry.zeroValue225 (w:World):=(Qry.g_zero 225 w).trans (Tryz.zeroValue225 w)
@[simp] abbrev Qry.zeroValue228 (w:World):=(Qry.g_zero 228 w).trans (Tryz.zeroValue228 w)
@[simp] abbrev Qry.zeroValue242 (w:World):=(Qry.g_zero 242 w).trans (Tryz.zeroValue242 w)
@[simp] abbrev Qry.zeroValue243 (w:World):=(Qry.g_zero 243 w).trans (Tryz.zeroValue243 w)
noncomputable abbrev Qry.f0:Func:=Tryz.f0
noncomputable abbrev Qry.f1:Func:=Tryz.f1
noncomputable abbrev Qry.f2:Func:=Tryz.f2
noncomputable abbrev Qry.f3:Func:=Tryz.f3
@[simp] theorem Qry.func3:Qry.prog.funcs[3]? =some Tryz.f3:=Qry.g_some Tryz.func3 (by decide)
abbrev Qry.ntmps3:=Tryz.ntmps3
abbrev Qry.params3:=Tryz.params3
noncomputable abbrev Qry.f4:Func:=Tryz.f4
noncomputable abbrev Qry.f5:Func:=Tryz.f5
noncomputable abbrev Qry.f6:Func:=Tryz.f6
noncomputable abbrev Qry.f7:Func:=Tryz.f7
@[simp] theorem Qry.func7:Qry.prog.funcs[7]? =some Tryz.f7:=Qry.g_some Tryz.func7 (by decide)
abbrev Qry.ntmps7:=Tryz.ntmps7
noncomputable abbrev Qry.f8:Func:=Tryz.f8
@[simp] theorem Qry.func8:Qry.prog.funcs[8]? =some Tryz.f8:=Qry.g_some Tryz.func8 (by decide)
abbrev Qry.ntmps8:=Tryz.ntmps8
noncomputable abbrev Qry.f9:Func:=Tryz.f9
@[simp] theorem Qry.func9:Qry.prog.funcs[9]? =some Tryz.f9:=Qry.g_some Tryz.func9 (by decide)
abbrev Qry.ntmps9:=Tryz.ntmps9
noncomputable abbrev Qry.f10:Func:=Tryz.f10
@[simp] theorem Qry.func10:Qry.prog.funcs[10]? =some Tryz.f10:=Qry.g_some Tryz.func10 (by decide)
abbrev Qry.ntmps10:=Tryz.ntmps10
noncomputable abbrev Qry.f11:Func:=Tryz.f11
@[simp] theorem Qry.func11:Qry.prog.funcs[11]? =some Tryz.f11:=Qry.g_some Tryz.func11 (by decide)
abbrev Qry.ntmps11:=Tryz.ntmps11
noncomputable abbrev Qry.f12:Func:=Tryz.f12
@[simp] theorem Qry.func12:Qry.prog.funcs[12]? =some Tryz.f12:=Qry.g_some Tryz.func12 (by decide)
abbrev Qry.ntmps12:=Tryz.ntmps12
noncomputable abbrev Qry.f13:Func:=Tryz.f13
@[simp] theorem Qry.func13:Qry.prog.funcs[13]? =some Tryz.f13:=Qry.g_some Tryz.func13 (by decide)
abbrev Qry.ntmps13:=Tryz.ntmps13
noncomputable abbrev Qry.f14:Func:=Tryz.f14
@[simp] theorem Qry.func14:Qry.prog.funcs[14]? =some Tryz.f14:=Qry.g_some Tryz.func14 (by decide)
abbrev Qry.ntmps14:=Tryz.ntmps14
noncomputable abbrev Qry.f15:Func:=Tryz.f15
noncomputable abbrev Qry.f16:Func:=Tryz.f16
noncomputable abbrev Qry.f19:Func:=Tryz.f19
noncomputable abbrev Qry.f20:Func:=Tryz.f20
@[simp] theorem Qry.func20:Qry.prog.funcs[20]? =some Tryz.f20:=Qry.g_some Tryz.func20 (by decide)
abbrev Qry.ntmps20:=Tryz.ntmps20
noncomputable abbrev Qry.f21:Func:=Tryz.f21
@[simp] theorem Qry.func21:Qry.prog.funcs[21]? =some Tryz.f21:=Qry.g_some Tryz.func21 (by decide)
abbrev Qry.ntmps21:=Tryz.ntmps21
noncomputable abbrev Qry.f22:Func:=Tryz.f22
@[simp] theorem Qry.func22:Qry.prog.funcs[22]? =some Tryz.f22:=Qry.g_some Tryz.func22 (by decide)
abbrev Qry.ntmps22:=Tryz.ntmps22
abbrev Qry.results22:=Tryz.results22
noncomputable abbrev Qry.f23:Func:=Tryz.f23
@[simp] theorem Qry.func23:Qry.prog.funcs[23]? =some Tryz.f23:=Qry.g_some Tryz.func23 (by decide)
abbrev Qry.ntmps23:=Tryz.ntmps23
noncomputable abbrev Qry.f24:Func:=Tryz.f24
@[simp] theorem Qry.func24:Qry.prog.funcs[24]? =some Tryz.f24:=Qry.g_some Tryz.func24 (by decide)
abbrev Qry.ntmps24:=Tryz.ntmps24
noncomputable abbrev Qry.f25:Func:=Tryz.f25
@[simp] theorem Qry.func25:Qry.prog.funcs[25]? =some Tryz.f25:=Qry.g_some Tryz.func25 (by decide)
abbrev Qry.ntmps25:=Tryz.ntmps25
noncomputable abbrev Qry.f26:Func:=Tryz.f26
@[simp] theorem Qry.func26:Qry.prog.funcs[26]? =some Tryz.f26:=Qry.g_some Tryz.func26 (by decide)
abbrev Qry.ntmps26:=Tryz.ntmps26
noncomputable abbrev Qry.f27:Func:=Tryz.f27
@[simp] theorem Qry.func27:Qry.prog.funcs[27]? =some Tryz.f27:=Qry.g_some Tryz.func27 (by decide)
abbrev Qry.ntmps27:=Tryz.ntmps27
noncomputable abbrev Qry.f28:Func:=Tryz.f28
@[simp] theorem Qry.func28:Qry.prog.funcs[28]? =some Tryz.f28:=Qry.g_some Tryz.func28 (by decide)
abbrev Qry.ntmps28:=Tryz.ntmps28
noncomputable abbrev Qry.f29:Func:=Tryz.f29
@[simp] theorem Qry.func29:Qry.prog.funcs[29]? =some Tryz.f29:=Qry.g_some Tryz.func29 (by decide)
abbrev Qry.ntmps29:=Tryz.ntmps29
noncomputable abbrev Qry.f31:Func:=Tryz.f31
noncomputable abbrev Qry.f32:Func:=Tryz.f32
noncomputable abbrev Qry.f33:Func:=Tryz.f33
noncomputable abbrev Qry.f34:Func:=Tryz.f34
noncomputable abbrev Qry.f36:Func:=Tryz.f36
@[simp] theorem Qry.func36:Qry.prog.funcs[36]? =some Tryz.f36:=Qry.g_some Tryz.func36 (by decide)
abbrev Qry.ntmps36:=Tryz.ntmps36
noncomputable abbrev Qry.f37:Func:=Tryz.f37
@[simp] theorem Qry.func37:Qry.prog.funcs[37]? =some Tryz.f37:=Qry.g_some Tryz.func37 (by decide)
abbrev Qry.ntmps37:=Tryz.ntmps37
noncomputable abbrev Qry.f38:Func:=Tryz.f38
@[simp] theorem Qry.func38:Qry.prog.funcs[38]? =some Tryz.f38:=Qry.g_some Tryz.func38 (by decide)
abbrev Qry.ntmps38:=Tryz.ntmps38
noncomputable abbrev Qry.f39:Func:=Tryz.f39
@[simp] theorem Qry.func39:Qry.prog.funcs[39]? =some Tryz.f39:=Qry.g_some Tryz.func39 (by decide)
abbrev Qry.ntmps39:=Tryz.ntmps39
noncomputable abbrev Qry.f40:Func:=Tryz.f40
@[simp] theorem Qry.func40:Qry.prog.funcs[40]? =some Tryz.f40:=Qry.g_some Tryz.func40 (by decide)
abbrev Qry.ntmps40:=Tryz.ntmps40
abbrev Qry.results40:=Tryz.results40
noncomputable abbrev Qry.f41:Func:=Tryz.f41
@[simp] theorem Qry.func41:Qry.prog.funcs[41]? =some Tryz.f41:=Qry.g_some Tryz.func41 (by decide)
abbrev Qry.ntmps41:=Tryz.ntmps41
noncomputable abbrev Qry.f42:Func:=Tryz.f42
@[simp] theorem Qry.func42:Qry.prog.funcs[42]? =some Tryz.f42:=Qry.g_some Tryz.func42 (by decide)
abbrev Qry.ntmps42:=Tryz.ntmps42
noncomputable abbrev Qry.f43:Func:=Tryz.f43
@[simp] theorem Qry.func43:Qry.prog.funcs[43]? =some Tryz.f43:=Qry.g_some Tryz.func43 (by decide)
abbrev Qry.ntmps43:=Tryz.ntmps43
noncomputable abbrev Qry.f44:Func:=Tryz.f44
@[simp] theorem Qry.func44:Qry.prog.funcs[44]? =some Tryz.f44:=Qry.g_some Tryz.func44 (by decide)
abbrev Qry.ntmps44:=Tryz.ntmps44
abbrev Qry.results44:=Tryz.results44
noncomputable abbrev Qry.f45:Func:=Tryz.f45
@[simp] theorem Qry.func45:Qry.prog.funcs[45]? =some Tryz.f45:=Qry.g_some Tryz.func45 (by decide)
abbrev Qry.ntmps45:=Tryz.ntmps45
abbrev Qry.results45:=Tryz.results45
noncomputable abbrev Qry.f46:Func:=Tryz.f46
@[simp] theorem Qry.func46:Qry.prog.funcs[46]? =some Tryz.f46:=Qry.g_some Tryz.func46 (by decide)
abbrev Qry.ntmps46:=Tryz.ntmps46
noncomputable abbrev Qry.f47:Func:=Tryz.f47
@[simp] theorem Qry.func47:Qry.prog.funcs[47]? =some Tryz.f47:=Qry.g_some Tryz.func47 (by decide)
abbrev Qry.ntmps47:=Tryz.ntmps47
noncomputable abbrev Qry.f48:Func:=Tryz.f48
@[simp] theorem Qry.func48:Qry.prog.funcs[48]? =some Tryz.f48:=Qry.g_some Tryz.func48 (by decide)
abbrev Qry.ntmps48:=Tryz.ntmps48
noncomputable abbrev Qry.f49:Func:=Tryz.f49
@[simp] theorem Qry.func49:Qry.prog.funcs[49]? =some Tryz.f49:=Qry.g_some Tryz.func49 (by decide)
abbrev Qry.ntmps49:=Tryz.ntmps49
noncomputable abbrev Qry.f50:Func:=Tryz.f50
@[simp] theorem Qry.func50:Qry.prog.funcs[50]? =some Tryz.f50:=Qry.g_some Tryz.func50 (by decide)
abbrev Qry.ntmps50:=Tryz.ntmps50
noncomputable abbrev Qry.f53:Func:=Tryz.f53
noncomputable abbrev Qry.f56:Func:=Tryz.f56
noncomputable abbrev Qry.f57:Func:=Tryz.f57
noncomputable abbrev Qry.f59:Func:=Tryz.f59
noncomputable abbrev Qry.f62:Func:=Tryz.f62
@[simp] theorem Qry.func62:Qry.prog.funcs[62]? =some Tryz.f62:=Qry.g_some Tryz.func62 (by decide)
abbrev Qry.ntmps62:=Tryz.ntmps62
noncomputable abbrev Qry.f63:Func:=Tryz.f63
@[simp] theorem Qry.func63:Qry.prog.funcs[63]? =some Tryz.f63:=Qry.g_some Tryz.func63 (by decide)
abbrev Qry.ntmps63:=Tryz.ntmps63
noncomputable abbrev Qry.f64:Func:=Tryz.f64
@[simp] theorem Qry.func64:Qry.prog.funcs[64]? =some Tryz.f64:=Qry.g_some Tryz.func64 (by decide)
abbrev Qry.ntmps64:=Tryz.ntmps64
abbrev Qry.results64:=Tryz.results64
noncomputable abbrev Qry.f65:Func:=Tryz.f65
@[simp] theorem Qry.func65:Qry.prog.funcs[65]? =some Tryz.f65:=Qry.g_some Tryz.func65 (by decide)
noncomputable abbrev Qry.f66:Func:=Tryz.f66
@[simp] theorem Qry.func66:Qry.prog.funcs[66]? =some Tryz.f66:=Qry.g_some Tryz.func66 (by decide)
abbrev Qry.ntmps66:=Tryz.ntmps66
noncomputable abbrev Qry.f67:Func:=Tryz.f67
@[simp] theorem Qry.func67:Qry.prog.funcs[67]? =some Tryz.f67:=Qry.g_some Tryz.func67 (by decide)
noncomputable abbrev Qry.f69:Func:=Tryz.f69
@[simp] theorem Qry.func69:Qry.prog.funcs[69]? =some Tryz.f69:=Qry.g_some Tryz.func69 (by decide)
abbrev Qry.ntmps69:=Tryz.ntmps69
noncomputable abbrev Qry.f70:Func:=Tryz.f70
@[simp] theorem Qry.func70:Qry.prog.funcs[70]? =some Tryz.f70:=Qry.g_some Tryz.func70 (by decide)
abbrev Qry.ntmps70:=Tryz.ntmps70
noncomputable abbrev Qry.f71:Func:=Tryz.f71
@[simp] theorem Qry.func71:Qry.prog.funcs[71]? =some Tryz.f71:=Qry.g_some Tryz.func71 (by decide)
noncomputable abbrev Qry.f72:Func:=Tryz.f72
@[simp] theorem Qry.func72:Qry.prog.funcs[72]? =some Tryz.f72:=Qry.g_some Tryz.func72 (by decide)
noncomputable abbrev Qry.f73:Func:=Tryz.f73
noncomputable abbrev Qry.f76:Func:=Tryz.f76
noncomputable abbrev Qry.f79:Func:=Tryz.f79
noncomputable abbrev Qry.f82:Func:=Tryz.f82
@[simp] theorem Qry.func82:Qry.prog.funcs[82]? =some Tryz.f82:=Qry.g_some Tryz.func82 (by decide)
abbrev Qry.ntmps82:=Tryz.ntmps82
noncomputable abbrev Qry.f83:Func:=Tryz.f83
@[simp] theorem Qry.func83:Qry.prog.funcs[83]? =some Tryz.f83:=Qry.g_some Tryz.func83 (by decide)
abbrev Qry.ntmps83:=Tryz.ntmps83
noncomputable abbrev Qry.f84:Func:=Tryz.f84
@[simp] theorem Qry.func84:Qry.prog.funcs[84]? =some Tryz.f84:=Qry.g_some Tryz.func84 (by decide)
noncomputable abbrev Qry.f85:Func:=Tryz.f85
@[simp] theorem Qry.func85:Qry.prog.funcs[85]? =some Tryz.f85:=Qry.g_some Tryz.func85 (by decide)
noncomputable abbrev Qry.f86:Func:=Tryz.f86
@[simp] theorem Qry.func86:Qry.prog.funcs[86]? =some Tryz.f86:=Qry.g_some Tryz.func86 (by decide)
abbrev Qry.ntmps86:=Tryz.ntmps86
noncomputable abbrev Qry.f87:Func:=Tryz.f87
@[simp] theorem Qry.func87:Qry.prog.funcs[87]? =some Tryz.f87:=Qry.g_some Tryz.func87 (by decide)
abbrev Qry.ntmps87:=Tryz.ntmps87
noncomputable abbrev Qry.f92:Func:=Tryz.f92
@[simp] theorem Qry.func92:Qry.prog.funcs[92]? =some Tryz.f92:=Qry.g_some Tryz.func92 (by decide)
abbrev Qry.ntmps92:=Tryz.ntmps92
noncomputable abbrev Qry.f93:Func:=Tryz.f93
@[simp] theorem Qry.func93:Qry.prog.funcs[93]? =some Tryz.f93:=Qry.g_some Tryz.func93 (by decide)
abbrev Qry.ntmps93:=Tryz.ntmps93
noncomputable abbrev Qry.f94:Func:=Tryz.f94
@[simp] theorem Qry.func94:Qry.prog.funcs[94]? =some Tryz.f94:=Qry.g_some Tryz.func94 (by decide)
abbrev Qry.ntmps94:=Tryz.ntmps94
noncomputable abbrev Qry.f95:Func:=Tryz.f95
@[simp] theorem Qry.func95:Qry.prog.funcs[95]? =some Tryz.f95:=Qry.g_some Tryz.func95 (by decide)
noncomputable abbrev Qry.f96:Func:=Tryz.f96
@[simp] theorem Qry.func96:Qry.prog.funcs[96]? =some Tryz.f96:=Qry.g_some Tryz.func96 (by decide)
noncomputable abbrev Qry.f97:Func:=Tryz.f97
@[simp] theorem Qry.func97:Qry.prog.funcs[97]? =some Tryz.f97:=Qry.g_some Tryz.func97 (by decide)
noncomputable abbrev Qry.f107:Func:=Tryz.f107
@[simp] theorem Qry.func107:Qry.prog.funcs[107]? =some Tryz.f107:=Qry.g_some Tryz.func107 (by decide)
noncomputable abbrev Qry.f108:Func:=Tryz.f108
@[simp] theorem Qry.func108:Qry.prog.funcs[108]? =some Tryz.f108:=Qry.g_some Tryz.func108 (by decide)
noncomputable abbrev Qry.f109:Func:=Tryz.f109
@[simp] theorem Qry.func109:Qry.prog.funcs[109]? =some Tryz.f109:=Qry.g_some Tryz.func109 (by decide)
noncomputable abbrev Qry.f110:Func:=Tryz.f110
@[simp] theorem Qry.func110:Qry.prog.funcs[110]? =some Tryz.f110:=Qry.g_some Tryz.func110 (by decide)
noncomputable abbrev Qry.f111:Func:=Tryz.f111
@[simp] theorem Qry.func111:Qry.prog.funcs[111]? =some Tryz.f111:=Qry.g_some Tryz.func111 (by decide)
noncomputable abbrev Qry.f112:Func:=Tryz.f112
@[simp] theorem Qry.func112:Qry.prog.funcs[112]? =some Tryz.f112:=Qry.g_some Tryz.func112 (by decide)
noncomputable abbrev Qry.f113:Func:=Tryz.f113
@[simp] theorem Qry.func113:Qry.prog.funcs[113]? =some Tryz.f113:=Qry.g_some Tryz.func113 (by decide)
noncomputable abbrev Qry.f114:Func:=Tryz.f114
@[simp] theorem Qry.func114:Qry.prog.funcs[114]? =some Tryz.f114:=Qry.g_some Tryz.func114 (by decide)
noncomputable abbrev Qry.f115:Func:=Tryz.f115
@[simp] theorem Qry.func115:Qry.prog.funcs[115]? =some Tryz.f115:=Qry.g_some Tryz.func115 (by decide)
noncomputable abbrev Qry.f116:Func:=Tryz.f116
@[simp] theorem Qry.func116:Qry.prog.funcs[116]? =some Tryz.f116:=Qry.g_some Tryz.func116 (by decide)
noncomputable abbrev Qry.f117:Func:=Tryz.f117
@[simp] theorem Qry.func117:Qry.prog.funcs[117]? =some Tryz.f117:=Qry.g_some Tryz.func117 (by decide)
abbrev Qry.ntmps117:=Tryz.ntmps117
noncomputable abbrev Qry.f136:Func:=Tryz.f136
@[simp] theorem Qry.func136:Qry.prog.funcs[136]? =some Tryz.f136:=Qry.g_some Tryz.func136 (by decide)
noncomputable abbrev Qry.f137:Func:=Tryz.f137
@[simp] theorem Qry.func137:Qry.prog.funcs[137]? =some Tryz.f137:=Qry.g_some Tryz.func137 (by decide)
noncomputable abbrev Qry.f142:Func:=Tryz.f142
@[simp] theorem Qry.func142:Qry.prog.funcs[142]? =some Tryz.f142:=Qry.g_some Tryz.func142 (by decide)
noncomputable abbrev Qry.f143:Func:=Tryz.f143
@[simp] theorem Qry.func143:Qry.prog.funcs[143]? =some Tryz.f143:=Qry.g_some Tryz.func143 (by decide)
noncomputable abbrev Qry.f144:Func:=Tryz.f144
@[simp] theorem Qry.func144:Qry.prog.funcs[144]? =some Tryz.f144:=Qry.g_some Tryz.func144 (by decide)
noncomputable abbrev Qry.f145:Func:=Tryz.f145
@[simp] theorem Qry.func145:Qry.prog.funcs[145]? =some Tryz.f145:=Qry.g_some Tryz.func145 (by decide)
noncomputable abbrev Qry.f146:Func:=Tryz.f146
@[simp] theorem Qry.func146:Qry.prog.funcs[146]? =some Tryz.f146:=Qry.g_some Tryz.func146 (by decide)
noncomputable abbrev Qry.f152:Func:=Tryz.f152
@[simp] theorem Qry.func152:Qry.prog.funcs[152]? =some Tryz.f152:=Qry.g_some Tryz.func152 (by decide)
noncomputable abbrev Qry.f153:Func:=Tryz.f153
@[simp] theorem Qry.func153:Qry.prog.funcs[153]? =some Tryz.f153:=Qry.g_some Tryz.func153 (by decide)
noncomputable abbrev Qry.f154:Func:=Tryz.f154
@[simp] theorem Qry.func154:Qry.prog.funcs[154]? =some Tryz.f154:=Qry.g_some Tryz.func154 (by decide)
noncomputable abbrev Qry.f155:Func:=Tryz.f155
@[simp] theorem Qry.func155:Qry.prog.funcs[155]? =some Tryz.f155:=Qry.g_some Tryz.func155 (by decide)
noncomputable abbrev Qry.f156:Func:=Tryz.f156
@[simp] theorem Qry.func156:Qry.prog.funcs[156]? =some Tryz.f156:=Qry.g_some Tryz.func156 (by decide)
noncomputable abbrev Qry.f157:Func:=Tryz.f157
@[simp] theorem Qry.func157:Qry.prog.funcs[157]? =some Tryz.f157:=Qry.g_some Tryz.func157 (by decide)
noncomputable abbrev Qry.f158:Func:=Tryz.f158
@[simp] theorem Qry.func158:Qry.prog.funcs[158]? =some Tryz.f158:=Qry.g_some Tryz.func158 (by decide)
noncomputable abbrev Qry.f159:Func:=Tryz.f159
@[simp] theorem Qry.func159:Qry.prog.funcs[159]? =some Tryz.f159:=Qry.g_some Tryz.func159 (by decide)
noncomputable abbrev Qry.f160:Func:=Tryz.f160
@[simp] theorem Qry.func160:Qry.prog.funcs[160]? =some Tryz.f160:=Qry.g_some Tryz.func160 (by decide)
noncomputable abbrev Qry.f162:Func:=Tryz.f162
@[simp] theorem Qry.func162:Qry.prog.funcs[162]? =some Tryz.f162:=Qry.g_some Tryz.func162 (by decide)
noncomputable abbrev Qry.f163:Func:=Tryz.f163
@[simp] theorem Qry.func163:Qry.prog.funcs[163]? =some Tryz.f163:=Qry.g_some Tryz.func163 (by decide)
noncomputable abbrev Qry.f164:Func:=Tryz.f164
@[simp] theorem Qry.func164:Qry.prog.funcs[164]? =some Tryz.f164:=Qry.g_some Tryz.func164 (by decide)
noncomputable abbrev Qry.f165:Func:=Tryz.f165
@[simp] theorem Qry.func165:Qry.prog.funcs[165]? =some Tryz.f165:=Qry.g_some Tryz.func165 (by decide)
noncomputable abbrev Qry.f166:Func:=Tryz.f166
@[simp] theorem Qry.func166:Qry.prog.funcs[166]? =some Tryz.f166:=Qry.g_some Tryz.func166 (by decide)
noncomputable abbrev Qry.f167:Func:=Tryz.f167
@[simp] theorem Qry.func167:Qry.prog.funcs[167]? =some Tryz.f167:=Qry.g_some Tryz.func167 (by decide)
@[simp] theorem Qry.call7 (args:Array Value) (w:World):Sem.run Qry.prog (callFunc 7 args) w= .ok (.enter 7 args) w:=Qry.g_call Qry.func7 rfl rfl args w
@[simp] theorem Qry.call8 (args:Array Value) (w:World):Sem.run Qry.prog (callFunc 8 args) w= .ok (.enter 8 args) w:=Qry.g_call Qry.func8 rfl rfl args w
@[simp] theorem Qry.call9 (args:Array Value) (w:World):Sem.run Qry.prog (callFunc 9 args) w= .ok (.enter 9 args) w:=Qry.g_call Qry.func9 rfl rfl args w
@[simp] theorem Qry.call10 (args:Array Value) (w:World):Sem.run Qry.prog (callFunc 10 args) w= .ok (.enter 10 args) w:=Qry.g_call Qry.func10 rfl rfl args w
@[simp] theorem Qry.call11 (args:Array Value) (w:World):Sem.run Qry.prog (callFunc 11 args) w= .ok (.enter 11 args) w:=Qry.g_call Qry.func11 rfl rfl args w
@[simp] theorem Qry.call12 (args:Array Value) (w:World):Sem.run Qry.prog (callFunc 12 args) w= .ok (.enter 12 args) w:=Qry.g_call Qry.func12 rfl rfl args w
@[simp] theorem Qry.call13 (args:Array Value) (w:World):Sem.run Qry.prog (callFunc 13 args) w= .ok (.enter 13 args) w:=Qry.g_call Qry.func13 rfl rfl args w
@[simp] theorem Qry.call14 (args:Array Value) (w:World):Sem.run Qry.prog (callFunc 14 args) w= .ok (.enter 14 args) w:=Qry.g_call Qry.func14 rfl rfl args w
@[simp] theorem Qry.call20 (args:Array Value) (w:World):Sem.run Qry.prog (callFunc 20 args) w= .ok (.enter 20 args) w:=Qry.g_call Qry.func20 rfl rfl args w
@[simp] theorem Qry.call21 (args:Array Value) (w:World):Sem.run Qry.prog (callFunc 21 args) w= .ok (.enter 21 args) w:=Qry.g_call Qry.func21 rfl rfl args w
@[simp] theorem Qry.call22 (args:Array Value) (w:World):Sem.run Qry.prog (callFunc 22 args) w= .ok (.enter 22 args) w:=Qry.g_call Qry.func22 rfl rfl args w
@[simp] theorem Qry.call23 (args:Array Value) (w:World):Sem.run Qry.prog (callFunc 23 args) w= .ok (.enter 23 args) w:=Qry.g_call Qry.func23 rfl rfl args w
@[simp] theorem Qry.call24 (args:Array Value) (w:World):Sem.run Qry.prog (callFunc 24 args) w= .ok (.enter 24 args) w:=Qry.g_call Qry.func24 rfl rfl args w
@[simp] theorem Qry.call25 (args:Array Value) (w:World):Sem.run Qry.prog (callFunc 25 args) w= .ok (.enter 25 args) w:=Qry.g_call Qry.func25 rfl rfl args w
@[simp] theorem Qry.call26 (args:Array Value) (w:World):Sem.run Qry.prog (callFunc 26 args) w= .ok (.enter 26 args) w:=Qry.g_call Qry.func26 rfl rfl args w
@[simp] theorem Qry.call27 (args:Array Value) (w:World):Sem.run Qry.prog (callFunc 27 args) w= .ok (.enter 27 args) w:=Qry.g_call Qry.func27 rfl rfl args w
@[simp] theorem Qry.call28 (args:Array Value) (w:World):Sem.run Qry.prog (callFunc 28 args) w= .ok (.enter 28 args) w:=Qry.g_call Qry.func28 rfl rfl args w
@[simp] theorem Qry.call29 (args:Array Value) (w:World):Sem.run Qry.prog (callFunc 29 args) w= .ok (.enter 29 args) w:=Qry.g_call Qry.func29 rfl rfl args w
@[simp] theorem Qry.call36 (args:Array Value) (w:World):Sem.run Qry.prog (callFunc 36 args) w= .ok (.enter 36 args) w:=Qry.g_call Qry.func36 rfl rfl args w
@[simp] theorem Qry.call37 (args:Array Value) (w:World):Sem.run Qry.prog (callFunc 37 args) w= .ok (.enter 37 args) w:=Qry.g_call Qry.func37 rfl rfl args w
@[simp] theorem Qry.call38 (args:Array Value) (w:World):Sem.run Qry.prog (callFunc 38 args) w= .ok (.enter 38 args) w:=Qry.g_call Qry.func38 rfl rfl args w
@[simp] theorem Qry.call39 (args:Array Value) (w:World):Sem.run Qry.prog (callFunc 39 args) w= .ok (.enter 39 args) w:=Qry.g_call Qry.func39 rfl rfl args w
@[simp] theorem Qry.call40 (args:Array Value) (w:World):Sem.run Qry.prog (callFunc 40 args) w= .ok (.enter 40 args) w:=Qry.g_call Qry.func40 rfl rfl args w
@[simp] theorem Qry.call41 (args:Array Value) (w:World):Sem.run Qry.prog (callFunc 41 args) w= .ok (.enter 41 args) w:=Qry.g_call Qry.func41 rfl rfl args w
@[simp] theorem Qry.call42 (args:Array Value) (w:World):Sem.run Qry.prog (callFunc 42 args) w= .ok (.enter 42 args) w:=Qry.g_call Qry.func42 rfl rfl args w
@[simp] theorem Qry.call43 (args:Array Value) (w:World):Sem.run Qry.prog (callFunc 43 args) w= .ok (.enter 43 args) w:=Qry.g_call Qry.func43 rfl rfl args w
@[simp] theorem Qry.call44 (args:Array Value) (w:World):Sem.run Qry.prog (callFunc 44 args) w= .ok (.enter 44 args) w:=Qry.g_call Qry.func44 rfl rfl args w
@[simp] theorem Qry.call45 (args:Array Value) (w:World):Sem.run Qry.prog (callFunc 45 args) w= .ok (.enter 45 args) w:=Qry.g_call Qry.func45 rfl rfl args w
@[simp] theorem Qry.call46 (args:Array Value) (w:World):Sem.run Qry.prog (callFunc 46 args) w= .ok (.enter 46 args) w:=Qry.g_call Qry.func46 rfl rfl args w
@[simp] theorem Qry.call47 (args:Array Value) (w:World):Sem.run Qry.prog (callFunc 47 args) w= .ok (.enter 47 args) w:=Qry.g_call Qry.func47 rfl rfl args w
@[simp] theorem Qry.call48 (args:Array Value) (w:World):Sem.run Qry.prog (callFunc 48 args) w= .ok (.enter 48 args) w:=Qry.g_call Qry.func48 rfl rfl args w
@[simp] theorem Qry.call49 (args:Array Value) (w:World):Sem.run Qry.prog (callFunc 49 args) w= .ok (.enter 49 args) w:=Qry.g_call Qry.func49 rfl rfl args w
@[simp] theorem Qry.call50 (args:Array Value) (w:World):Sem.run Qry.prog (callFunc 50 args) w= .ok (.enter 50 args) w:=Qry.g_call Qry.func50 rfl rfl args w
@[simp] theorem Qry.call62 (args:Array Value) (w:World):Sem.run Qry.prog (callFunc 62 args) w= .ok (.enter 62 args) w:=Qry.g_call Qry.func62 rfl rfl args w
@[simp] theorem Qry.call63 (args:Array Value) (w:World):Sem.run Qry.prog (callFunc 63 args) w= .ok (.enter 63 args) w:=Qry.g_call Qry.func63 rfl rfl args w
@[simp] theorem Qry.call64 (args:Array Value) (w:World):Sem.run Qry.prog (callFunc 64 args) w= .ok (.enter 64 args) w:=Qry.g_call Qry.func64 rfl rfl args w
@[simp] theorem Qry.call65 (args:Array Value) (w:World):Sem.run Qry.prog (callFunc 65 args) w= .ok (.enter 65 args) w:=Qry.g_call Qry.func65 rfl rfl args w
@[simp] theorem Qry.call67 (args:Array Value) (w:World):Sem.run Qry.prog (callFunc 67 args) w= .ok (.enter 67 args) w:=Qry.g_call Qry.func67 rfl rfl args w
@[simp] theorem Qry.call69 (args:Array Value) (w:World):Sem.run Qry.prog (callFunc 69 args) w= .ok (.enter 69 args) w:=Qry.g_call Qry.func69 rfl rfl args w
@[simp] theorem Qry.call70 (args:Array Value) (w:World):Sem.run Qry.prog (callFunc 70 args) w= .ok (.enter 70 args) w:=Qry.g_call Qry.func70 rfl rfl args w
@[simp] theorem Qry.call71 (args:Array Value) (w:World):Sem.run Qry.prog (callFunc 71 args) w= .ok (.enter 71 args) w:=Qry.g_call Qry.func71 rfl rfl args w
@[simp] theorem Qry.call72 (args:Array Value) (w:World):Sem.run Qry.prog (callFunc 72 args) w= .ok (.enter 72 args) w:=Qry.g_call Qry.func72 rfl rfl args w
@[simp] theorem Qry.call82 (args:Array Value) (w:World):Sem.run Qry.prog (callFunc 82 args) w= .ok (.enter 82 args) w:=Qry.g_call Qry.func82 rfl rfl args w
@[simp] theorem Qry.call83 (args:Array Value) (w:World):Sem.run Qry.prog (callFunc 83 args) w= .ok (.enter 83 args) w:=Qry.g_call Qry.func83 rfl rfl args w
@[simp] theorem Qry.call86 (args:Array Value) (w:World):Sem.run Qry.prog (callFunc 86 args) w= .ok (.enter 86 args) w:=Qry.g_call Qry.func86 rfl rfl args w
@[simp] theorem Qry.call87 (args:Array Value) (w:World):Sem.run Qry.prog (callFunc 87 args) w= .ok (.enter 87 args) w:=Qry.g_call Qry.func87 rfl rfl args w
@[simp] theorem Qry.call92 (args:Array Value) (w:World):Sem.run Qry.prog (callFunc 92 args) w= .ok (.enter 92 args) w:=Qry.g_call Qry.func92 rfl rfl args w
@[simp] theorem Qry.call93 (args:Array Value) (w:World):Sem.run Qry.prog (callFunc 93 args) w= .ok (.enter 93 args) w:=Qry.g_call Qry.func93 rfl rfl args w
@[simp] theorem Qry.call94 (args:Array Value) (w:World):Sem.run Qry.prog (callFunc 94 args) w= .ok (.enter 94 args) w:=Qry.g_call Qry.func94 rfl rfl args w
@[simp] theorem Qry.call117 (args:Array Value) (w:World):Sem.run Qry.prog (callFunc 117 args) w= .ok (.enter 117 args) w:=Qry.g_call Qry.func117 rfl rfl args w
end Go.Proofs
end
