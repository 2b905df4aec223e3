/-
  Toward settled_holds: THE LONE ONE's PROGRAM (Q), UNDER A NAME OF ITS OWN, with the facts that walks want: what
-/
import Derived.Test.YtldmcdeibiclkaaGreatDoorC06
import Derived.Calls
import Derived.WalkKit
import Derived.WalkSpells
import Derived.WalkLawsBesides
import Derived.Deep.QuietTactic
import Derived.BigQuiet
import Derived.Deep.RegionHeld3
import Derived.Sort.Grow
import Derived.Deep.AppendLies
import Derived.WalkSmall
import Derived.Below
import Derived.Conc.Beside
import Derived.Deep.DrawnRows
import Derived.Deep.MidRow
import Derived.LaidByTextLater
import Derived.Laws.AppendOwn
import Derived.Laws.Entries
import Derived.Laws.Rows
import Derived.Laws.Sem
import Derived.Laws.World
import Derived.OwnWalk
import Derived.RunT
import Derived.Tactics
import GoSem.Core.Machine
import GoSem.Machine.Report
set_option linter.unusedVariables false
set_option linter.unusedSimpArgs false
set_option maxRecDepth 100000
set_option maxHeartbeats 20000000
namespace Go.Proofs
abbrev AT:=@Go.RowKit.Below.refl
abbrev By:=@Go.Calls.mono
abbrev BY:=@Go.heap_alloc_new
abbrev IT:=@Go.RowKit.Below.drew
abbrev OF:=@Go.RowKit.Below.heap_alloc
abbrev W9:=@Go.RowKit.Below.alloc
abbrev Xg:=@Go.RowKit.Below.heap_setCell
abbrev Xh:=@Go.World.ownsRow.alloc
abbrev Xi:=@Go.GStep.go.injEq
abbrev Xj:=@Go.RowKit.Below.setCell
abbrev Xm:=@Go.info_parts
abbrev Xr:=@Go.World.news_of_block
abbrev Xt:=@Go.Sem.run_bind
abbrev Xu:=@Go.Conc.mem_ofEvents
abbrev Xz:=@Go.below_drewN
abbrev XF:=@Go.bodyPost_ret
abbrev XJ:=@Go.Result.andThen_ok
abbrev XK:=@Go.RowKit.ownsRow_setCell_below
abbrev XZ:=@Go.World.ownsRow_nil
abbrev X2:=@Go.Sem.run_pure
abbrev Yb:=@Go.run_underlying
abbrev Yg:=@Go.World.size_drew
abbrev Yn:=@Go.wp_at_zero
abbrev Yo:=@Go.wp_at_succ
abbrev Yq:=@Go.Goroutine.mk.injEq
abbrev Yv:=@Go.run_loadVar_mid
abbrev Yx:=@Go.OpenClaim.laidByTextAt_later
abbrev YE:=@Go.Sem.runT.eq_5
abbrev YP:=@Go.wpList_append_lies
end Go.Proofs
namespace Go.Proofs
variable {f:Nat}{fn:Func}
section
noncomputable def aa.prog:Program:=Go.Proofs.YtldmcdeibiclkaaGreatDoor.U.Qg
theorem aa.is:aa.prog=Go.Proofs.YtldmcdeibiclkaaGreatDoor.U.gp Tryz.prog Go.Proofs.YtldmcdeibiclkaaGreatDoor.U.Gg:=rfl
section
variable (P:Program) (G:Array Func) (t:TypeId) (w:World)
theorem aa.Ui:(Go.Proofs.YtldmcdeibiclkaaGreatDoor.U.gp P G).depth=P.depth:=rfl
theorem aa.SA:(Go.Proofs.YtldmcdeibiclkaaGreatDoor.U.gp P G).underlying t=P.underlying t:=rfl
theorem aa.A6:(Go.Proofs.YtldmcdeibiclkaaGreatDoor.U.gp P G).funcs=G:=rfl
theorem aa.A7:Sem.run P Go.program w=.ok P w:=rfl
theorem aa.E4:Sem.run (Go.Proofs.YtldmcdeibiclkaaGreatDoor.U.gp P G) (typeInfo t) w=Sem.run P (typeInfo t) w:=by
 simp only[typeInfo,Xt,aa.A7,XJ,Go.Proofs.YtldmcdeibiclkaaGreatDoor.U.Dh];cases P.info? t<;>rfl
theorem aa.D2:Sem.run (Go.Proofs.YtldmcdeibiclkaaGreatDoor.U.gp P G) (underlying t) w=Sem.run P (underlying t) w:=by
 simp only[underlying,Xt,aa.A7,XJ,Go.Proofs.YtldmcdeibiclkaaGreatDoor.U.As];cases P.underlying t<;>rfl
theorem aa.Mm:Sem.run (Go.Proofs.YtldmcdeibiclkaaGreatDoor.U.gp P G) (sizeOf t) w=Sem.run P (sizeOf t) w:=by
 simp only[sizeOf,Xt,aa.E4];cases Sem.run P (typeInfo t) w<;>rfl
theorem aa.QN(P Q:Program)(w:World)(x:Unsupported):Sem.run P (unsupported x:Sem Value) w=Sem.run Q (unsupported x:Sem Value) w:=by unfold unsupported;rfl
theorem aa.Uy:Sem.run (Go.Proofs.YtldmcdeibiclkaaGreatDoor.U.gp P G) (zeroValue t) w=Sem.run P (zeroValue t) w:=by
 unfold zeroValue;rw[Xt,Xt,aa.E4];congr 1;funext i w;cases i.zero with
 |some v=>simp only[X2]
 |none=>exact aa.QN _ _ _ _
theorem aa.WA:Sem.run (Go.Proofs.YtldmcdeibiclkaaGreatDoor.U.gp P G) (isAgg t) w=Sem.run P (isAgg t) w:=by
 unfold isAgg;rw[Xt,Xt,aa.D2];congr 1;funext i w;cases i<;>simp only[X2]
end
section
variable (t:TypeId) (w:World)
@[simp] theorem aa.eG:Sem.run aa.prog (sizeOf t) w=Sem.run Tryz.prog (sizeOf t) w:=by rw[aa.is];exact aa.Mm _ _ t w
@[simp] theorem aa.W7:Sem.run aa.prog (underlying t) w=Sem.run Tryz.prog (underlying t) w:=by rw[aa.is];exact aa.D2 _ _ t w
@[simp] theorem aa.eH:Sem.run aa.prog (isAgg t) w=Sem.run Tryz.prog (isAgg t) w:=by rw[aa.is];exact aa.WA _ _ t w
theorem aa.cA:Sem.run aa.prog (zeroValue t) w=Sem.run Tryz.prog (zeroValue t) w:=by rw[aa.is];exact aa.Uy _ _ t w
@[simp] theorem aa.cJ:aa.prog.underlying t=Tryz.prog.underlying t:=by rw[aa.is];exact aa.SA _ _ t
@[simp] theorem aa.WY(d:Nat):aa.prog.eqGuardType d t=Tryz.prog.eqGuardType d t:=by rw[aa.is];exact Go.Proofs.YtldmcdeibiclkaaGreatDoor.U.tY _ _ d t
@[simp] theorem aa.WZ:aa.prog.depth=Tryz.prog.depth:=by rw[aa.is];exact aa.Ui _ _
end
theorem aa.N7(h:f≠68):aa.prog.funcs[f]?=Tryz.prog.funcs[f]? :=by
 rw[aa.is,aa.A6,Go.Proofs.YtldmcdeibiclkaaGreatDoor.U.Gg];rw[Array.getElem?_setIfInBounds_ne (Xl h)]
theorem aa.TB{P:Program}{f:FuncId}(h1:P.funcs[f]?=some fn)(h2:(fn.name== "runtime.NumGoroutine")=false)(h3:fn.body.isNone=false)(args:Array Value)(w:World):Sem.run P (callFunc f args) w=.ok (.enter f args) w:=by
 rw[<-Sem.runT_fst _ _ _ #[]];unfold callFunc;show (((Go.program).bind _).runT P w #[]).1=_;rw[Sem.runT_bind'];simp only[Go.program,Sem.runT,h1,h2,h3,Xf,Xd];rfl
theorem aa.aG(h:aa.prog.funcs[f]?=some fn)(h1:(fn.name== "runtime.NumGoroutine")=false)(h2:fn.body.isNone=false)(args:Array Value)(w:World):Sem.run aa.prog (callFunc f args) w=.ok (.enter f args) w:=
 aa.TB h h1 h2 args w
theorem aa.az{n:Nat}{x:Func}(h:Tryz.prog.funcs[n]?=some x)(hn:n≠68):aa.prog.funcs[n]?=some x:=(aa.N7 hn).trans h
abbrev aa.underlying0:=(aa.cJ 0).trans Tryz.underlying0
abbrev aa.sizeOf0(w:World):=(aa.eG 0 w).trans (Tryz.sizeOf0 w)
abbrev aa.isAgg0(w:World):=(aa.eH 0 w).trans (Tryz.isAgg0 w)
abbrev aa.underlying3:=(aa.cJ 3).trans Tryz.underlying3
abbrev aa.sizeOf3(w:World):=(aa.eG 3 w).trans (Tryz.sizeOf3 w)
abbrev aa.isAgg3(w:World):=(aa.eH 3 w).trans (Tryz.isAgg3 w)
abbrev aa.underlying4:=(aa.cJ 4).trans Tryz.underlying4
abbrev aa.sizeOf4(w:World):=(aa.eG 4 w).trans (Tryz.sizeOf4 w)
abbrev aa.isAgg4(w:World):=(aa.eH 4 w).trans (Tryz.isAgg4 w)
abbrev aa.underlying5:=(aa.cJ 5).trans Tryz.underlying5
abbrev aa.sizeOf5(w:World):=(aa.eG 5 w).trans (Tryz.sizeOf5 w)
abbrev aa.isAgg5(w:World):=(aa.eH 5 w).trans (Tryz.isAgg5 w)
abbrev aa.underlying9:=(aa.cJ 9).trans Tryz.underlying9
abbrev aa.sizeOf9(w:World):=(aa.eG 9 w).trans (Tryz.sizeOf9 w)
abbrev aa.isAgg9(w:World):=(aa.eH 9 w).trans (Tryz.isAgg9 w)
abbrev aa.underlying22:=(aa.cJ 22).trans Tryz.underlying22
abbrev aa.underlying30:=(aa.cJ 30).trans Tryz.underlying30
abbrev aa.underlying31:=(aa.cJ 31).trans Tryz.underlying31
abbrev aa.underlying33:=(aa.cJ 33).trans Tryz.underlying33
abbrev aa.underlying34:=(aa.cJ 34).trans Tryz.underlying34
abbrev aa.underlying36:=(aa.cJ 36).trans Tryz.underlying36
abbrev aa.underlying38:=(aa.cJ 38).trans Tryz.underlying38
abbrev aa.sizeOf38(w:World):=(aa.eG 38 w).trans (Tryz.sizeOf38 w)
abbrev aa.isAgg38(w:World):=(aa.eH 38 w).trans (Tryz.isAgg38 w)
abbrev aa.underlying44:=(aa.cJ 44).trans Tryz.underlying44
abbrev aa.sizeOf44(w:World):=(aa.eG 44 w).trans (Tryz.sizeOf44 w)
abbrev aa.isAgg44(w:World):=(aa.eH 44 w).trans (Tryz.isAgg44 w)
abbrev aa.underlying48:=(aa.cJ 48).trans Tryz.underlying48
abbrev aa.sizeOf48(w:World):=(aa.eG 48 w).trans (Tryz.sizeOf48 w)
abbrev aa.isAgg48(w:World):=(aa.eH 48 w).trans (Tryz.isAgg48 w)
abbrev aa.underlying55:=(aa.cJ 55).trans Tryz.underlying55
abbrev aa.sizeOf55(w:World):=(aa.eG 55 w).trans (Tryz.sizeOf55 w)
abbrev aa.isAgg55(w:World):=(aa.eH 55 w).trans (Tryz.isAgg55 w)
abbrev aa.underlying67:=(aa.cJ 67).trans Tryz.underlying67
abbrev aa.underlying71:=(aa.cJ 71).trans Tryz.underlying71
abbrev aa.underlying74:=(aa.cJ 74).trans Tryz.underlying74
abbrev aa.underlying88:=(aa.cJ 88).trans Tryz.underlying88
abbrev aa.underlying89:=(aa.cJ 89).trans Tryz.underlying89
abbrev aa.underlying98:=(aa.cJ 98).trans Tryz.underlying98
abbrev aa.sizeOf98(w:World):=(aa.eG 98 w).trans (Tryz.sizeOf98 w)
abbrev aa.isAgg98(w:World):=(aa.eH 98 w).trans (Tryz.isAgg98 w)
abbrev aa.underlying102:=(aa.cJ 102).trans Tryz.underlying102
abbrev aa.underlying103:=(aa.cJ 103).trans Tryz.underlying103
abbrev aa.sizeOf103(w:World):=(aa.eG 103 w).trans (Tryz.sizeOf103 w)
abbrev aa.isAgg103(w:World):=(aa.eH 103 w).trans (Tryz.isAgg103 w)
abbrev aa.underlying104:=(aa.cJ 104).trans Tryz.underlying104
abbrev aa.sizeOf104(w:World):=(aa.eG 104 w).trans (Tryz.sizeOf104 w)
abbrev aa.isAgg104(w:World):=(aa.eH 104 w).trans (Tryz.isAgg104 w)
abbrev aa.underlying119:=(aa.cJ 119).trans Tryz.underlying119
abbrev aa.underlying126:=(aa.cJ 126).trans Tryz.underlying126
abbrev aa.underlying130:=(aa.cJ 130).trans Tryz.underlying130
abbrev aa.sizeOf144(w:World):=(aa.eG 144 w).trans (Tryz.sizeOf144 w)
abbrev aa.isAgg144(w:World):=(aa.eH 144 w).trans (Tryz.isAgg144 w)
abbrev aa.underlying146:=(aa.cJ 146).trans Tryz.underlying146
abbrev aa.sizeOf146(w:World):=(aa.eG 146 w).trans (Tryz.sizeOf146 w)
abbrev aa.isAgg146(w:World):=(aa.eH 146 w).trans (Tryz.isAgg146 w)
abbrev aa.underlying147:=(aa.cJ 147).trans Tryz.underlying147
abbrev aa.underlying154:=(aa.cJ 154).trans Tryz.underlying154
abbrev aa.sizeOf154(w:World):=(aa.eG 154 w).trans (Tryz.sizeOf154 w)
abbrev aa.isAgg154(w:World):=(aa.eH 154 w).trans (Tryz.isAgg154 w)
abbrev aa.underlying155:=(aa.cJ 155).trans Tryz.underlying155
abbrev aa.sizeOf155(w:World):=(aa.eG 155 w).trans (Tryz.sizeOf155 w)
abbrev aa.isAgg155(w:World):=(aa.eH 155 w).trans (Tryz.isAgg155 w)
abbrev aa.underlying175:=(aa.cJ 175).trans Tryz.underlying175
abbrev aa.sizeOf175(w:World):=(aa.eG 175 w).trans (Tryz.sizeOf175 w)
abbrev aa.isAgg175(w:World):=(aa.eH 175 w).trans (Tryz.isAgg175 w)
abbrev aa.underlying177:=(aa.cJ 177).trans Tryz.underlying177
abbrev aa.sizeOf177(w:World):=(aa.eG 177 w).trans (Tryz.sizeOf177 w)
abbrev aa.isAgg177(w:World):=(aa.eH 177 w).trans (Tryz.isAgg177 w)
abbrev aa.underlying186:=(aa.cJ 186).trans Tryz.underlying186
abbrev aa.sizeOf186(w:World):=(aa.eG 186 w).trans (Tryz.sizeOf186 w)
abbrev aa.isAgg186(w:World):=(aa.eH 186 w).trans (Tryz.isAgg186 w)
abbrev aa.underlying199:=(aa.cJ 199).trans Tryz.underlying199
abbrev aa.sizeOf199(w:World):=(aa.eG 199 w).trans (Tryz.sizeOf199 w)
abbrev aa.isAgg199(w:World):=(aa.eH 199 w).trans (Tryz.isAgg199 w)
abbrev aa.underlying200:=(aa.cJ 200).trans Tryz.underlying200
abbrev aa.sizeOf200(w:World):=(aa.eG 200 w).trans (Tryz.sizeOf200 w)
abbrev aa.isAgg200(w:World):=(aa.eH 200 w).trans (Tryz.isAgg200 w)
abbrev aa.underlying225:=(aa.cJ 225).trans Tryz.underlying225
abbrev aa.sizeOf225(w:World):=(aa.eG 225 w).trans (Tryz.sizeOf225 w)
abbrev aa.isAgg225(w:World):=(aa.eH 225 w).trans (Tryz.isAgg225 w)
abbrev aa.underlying228:=(aa.cJ 228).trans Tryz.underlying228
abbrev aa.sizeOf228(w:World):=(aa.eG 228 w).trans (Tryz.sizeOf228 w)
abbrev aa.isAgg228(w:World):=(aa.eH 228 w).trans (Tryz.isAgg228 w)
abbrev aa.underlying242:=(aa.cJ 242).trans Tryz.underlying242
abbrev aa.sizeOf242(w:World):=(aa.eG 242 w).trans (Tryz.sizeOf242 w)
abbrev aa.isAgg242(w:World):=(aa.eH 242 w).trans (Tryz.isAgg242 w)
abbrev aa.underlying243:=(aa.cJ 243).trans Tryz.underlying243
abbrev aa.sizeOf243(w:World):=(aa.eG 243 w).trans (Tryz.sizeOf243 w)
abbrev aa.isAgg243(w:World):=(aa.eH 243 w).trans (Tryz.isAgg243 w)
@[simp] abbrev aa.zeroValue0(w:World):=(aa.cA 0 w).trans (Tryz.zeroValue0 w)
@[simp] abbrev aa.zeroValue3(w:World):=(aa.cA 3 w).trans (Tryz.zeroValue3 w)
@[simp] abbrev aa.zeroValue4(w:World):=(aa.cA 4 w).trans (Tryz.zeroValue4 w)
@[simp] abbrev aa.zeroValue5(w:World):=(aa.cA 5 w).trans (Tryz.zeroValue5 w)
@[simp] abbrev aa.zeroValue9(w:World):=(aa.cA 9 w).trans (Tryz.zeroValue9 w)
@[simp] abbrev aa.zeroValue25(w:World):=(aa.cA 25 w).trans (Tryz.zeroValue25 w)
@[simp] abbrev aa.zeroValue29(w:World):=(aa.cA 29 w).trans (Tryz.zeroValue29 w)
@[simp] abbrev aa.zeroValue38(w:World):=(aa.cA 38 w).trans (Tryz.zeroValue38 w)
@[simp] abbrev aa.zeroValue44(w:World):=(aa.cA 44 w).trans (Tryz.zeroValue44 w)
@[simp] abbrev aa.zeroValue48(w:World):=(aa.cA 48 w).trans (Tryz.zeroValue48 w)
@[simp] abbrev aa.zeroValue55(w:World):=(aa.cA 55 w).trans (Tryz.zeroValue55 w)
@[simp] abbrev aa.zeroValue66(w:World):=(aa.cA 66 w).trans (Tryz.zeroValue66 w)
@[simp] abbrev aa.zeroValue71(w:World):=(aa.cA 71 w).trans (Tryz.zeroValue71 w)
@[simp] abbrev aa.zeroValue81(w:World):=(aa.cA 81 w).trans (Tryz.zeroValue81 w)
@[simp] abbrev aa.zeroValue82(w:World):=(aa.cA 82 w).trans (Tryz.zeroValue82 w)
@[simp] abbrev aa.zeroValue98(w:World):=(aa.cA 98 w).trans (Tryz.zeroValue98 w)
@[simp] abbrev aa.zeroValue102(w:World):=(aa.cA 102 w).trans (Tryz.zeroValue102 w)
@[simp] abbrev aa.zeroValue103(w:World):=(aa.cA 103 w).trans (Tryz.zeroValue103 w)
@[simp] abbrev aa.zeroValue104(w:World):=(aa.cA 104 w).trans (Tryz.zeroValue104 w)
@[simp] abbrev aa.zeroValue106(w:World):=(aa.cA 106 w).trans (Tryz.zeroValue106 w)
@[simp] abbrev aa.zeroValue115(w:World):=(aa.cA 115 w).trans (Tryz.zeroValue115 w)
@[simp] abbrev aa.zeroValue128(w:World):=(aa.cA 128 w).trans (Tryz.zeroValue128 w)
@[simp] abbrev aa.zeroValue132(w:World):=(aa.cA 132 w).trans (Tryz.zeroValue132 w)
@[simp] abbrev aa.zeroValue142(w:World):=(aa.cA 142 w).trans (Tryz.zeroValue142 w)
@[simp] abbrev aa.zeroValue144(w:World):=(aa.cA 144 w).trans (Tryz.zeroValue144 w)
@[simp] abbrev aa.zeroValue146(w:World):=(aa.cA 146 w).trans (Tryz.zeroValue146 w)
@[simp] abbrev aa.zeroValue151(w:World):=(aa.cA 151 w).trans (Tryz.zeroValue151 w)
@[simp] abbrev aa.zeroValue154(w:World):=(aa.cA 154 w).trans (Tryz.zeroValue154 w)
@[simp] abbrev aa.zeroValue155(w:World):=(aa.cA 155 w).trans (Tryz.zeroValue155 w)
@[simp] abbrev aa.zeroValue158(w:World):=(aa.cA 158 w).trans (Tryz.zeroValue158 w)
@[simp] abbrev aa.zeroValue163(w:World):=(aa.cA 163 w).trans (Tryz.zeroValue163 w)
@[simp] abbrev aa.zeroValue167(w:World):=(aa.cA 167 w).trans (Tryz.zeroValue167 w)
@[simp] abbrev aa.zeroValue175(w:World):=(aa.cA 175 w).trans (Tryz.zeroValue175 w)
@[simp] abbrev aa.zeroValue177(w:World):=(aa.cA 177 w).trans (Tryz.zeroValue177 w)
@[simp] abbrev aa.zeroValue186(w:World):=(aa.cA 186 w).trans (Tryz.zeroValue186 w)
@[simp] abbrev aa.zeroValue199(w:World):=(aa.cA 199 w).trans (Tryz.zeroValue199 w)
@[simp] abbrev aa.zeroValue200(w:World):=(aa.cA 200 w).trans (Tryz.zeroValue200 w)
@[simp] abbrev aa.zeroValue225(w:World):=(aa.cA 225 w).trans (Tryz.zeroValue225 w)
@[simp] abbrev aa.zeroValue228(w:World):=(aa.cA 228 w).trans (Tryz.zeroValue228 w)
@[simp] abbrev aa.zeroValue242(w:World):=(aa.cA 242 w).trans (Tryz.zeroValue242 w)
@[simp] abbrev aa.zeroValue243(w:World):=(aa.cA 243 w).trans (Tryz.zeroValue243 w)
@[simp] abbrev aa.func6:=aa.az Tryz.func6 (by decide)
abbrev aa.ntmps6:=Tryz.ntmps6
@[simp] abbrev aa.func7:=aa.az Tryz.func7 (by decide)
abbrev aa.ntmps7:=Tryz.ntmps7
@[simp] abbrev aa.func8:=aa.az Tryz.func8 (by decide)
abbrev aa.ntmps8:=Tryz.ntmps8
@[simp] abbrev aa.func9:=aa.az Tryz.func9 (by decide)
abbrev aa.ntmps9:=Tryz.ntmps9
@[simp] abbrev aa.func11:=aa.az Tryz.func11 (by decide)
abbrev aa.ntmps11:=Tryz.ntmps11
@[simp] abbrev aa.func12:=aa.az Tryz.func12 (by decide)
abbrev aa.ntmps12:=Tryz.ntmps12
@[simp] abbrev aa.func13:=aa.az Tryz.func13 (by decide)
abbrev aa.ntmps13:=Tryz.ntmps13
@[simp] abbrev aa.func14:=aa.az Tryz.func14 (by decide)
abbrev aa.ntmps14:=Tryz.ntmps14
@[simp] abbrev aa.func15:=aa.az Tryz.func15 (by decide)
abbrev aa.ntmps15:=Tryz.ntmps15
@[simp] abbrev aa.func16:=aa.az Tryz.func16 (by decide)
abbrev aa.ntmps16:=Tryz.ntmps16
@[simp] abbrev aa.func17:=aa.az Tryz.func17 (by decide)
abbrev aa.ntmps17:=Tryz.ntmps17
@[simp] abbrev aa.func18:=aa.az Tryz.func18 (by decide)
abbrev aa.ntmps18:=Tryz.ntmps18
@[simp] abbrev aa.func19:=aa.az Tryz.func19 (by decide)
abbrev aa.ntmps19:=Tryz.ntmps19
@[simp] abbrev aa.func20:=aa.az Tryz.func20 (by decide)
abbrev aa.ntmps20:=Tryz.ntmps20
@[simp] abbrev aa.func21:=aa.az Tryz.func21 (by decide)
abbrev aa.ntmps21:=Tryz.ntmps21
@[simp] abbrev aa.func22:=aa.az Tryz.func22 (by decide)
abbrev aa.ntmps22:=Tryz.ntmps22
abbrev aa.results22:=Tryz.results22
@[simp] abbrev aa.func23:=aa.az Tryz.func23 (by decide)
abbrev aa.ntmps23:=Tryz.ntmps23
@[simp] abbrev aa.func24:=aa.az Tryz.func24 (by decide)
abbrev aa.ntmps24:=Tryz.ntmps24
@[simp] abbrev aa.func25:=aa.az Tryz.func25 (by decide)
abbrev aa.ntmps25:=Tryz.ntmps25
@[simp] abbrev aa.func26:=aa.az Tryz.func26 (by decide)
abbrev aa.ntmps26:=Tryz.ntmps26
@[simp] abbrev aa.func27:=aa.az Tryz.func27 (by decide)
abbrev aa.ntmps27:=Tryz.ntmps27
@[simp] abbrev aa.func28:=aa.az Tryz.func28 (by decide)
abbrev aa.ntmps28:=Tryz.ntmps28
@[simp] abbrev aa.func29:=aa.az Tryz.func29 (by decide)
abbrev aa.ntmps29:=Tryz.ntmps29
@[simp] abbrev aa.func30:=aa.az Tryz.func30 (by decide)
abbrev aa.ntmps30:=Tryz.ntmps30
@[simp] abbrev aa.func31:=aa.az Tryz.func31 (by decide)
abbrev aa.ntmps31:=Tryz.ntmps31
@[simp] abbrev aa.func32:=aa.az Tryz.func32 (by decide)
abbrev aa.ntmps32:=Tryz.ntmps32
@[simp] abbrev aa.func33:=aa.az Tryz.func33 (by decide)
abbrev aa.ntmps33:=Tryz.ntmps33
abbrev aa.results33:=Tryz.results33
@[simp] abbrev aa.func34:=aa.az Tryz.func34 (by decide)
abbrev aa.ntmps34:=Tryz.ntmps34
@[simp] abbrev aa.func35:=aa.az Tryz.func35 (by decide)
abbrev aa.ntmps35:=Tryz.ntmps35
@[simp] abbrev aa.func36:=aa.az Tryz.func36 (by decide)
abbrev aa.ntmps36:=Tryz.ntmps36
@[simp] abbrev aa.func37:=aa.az Tryz.func37 (by decide)
abbrev aa.ntmps37:=Tryz.ntmps37
@[simp] abbrev aa.func38:=aa.az Tryz.func38 (by decide)
abbrev aa.ntmps38:=Tryz.ntmps38
@[simp] abbrev aa.func39:=aa.az Tryz.func39 (by decide)
abbrev aa.ntmps39:=Tryz.ntmps39
@[simp] abbrev aa.func40:=aa.az Tryz.func40 (by decide)
abbrev aa.ntmps40:=Tryz.ntmps40
abbrev aa.results40:=Tryz.results40
@[simp] abbrev aa.func41:=aa.az Tryz.func41 (by decide)
abbrev aa.ntmps41:=Tryz.ntmps41
@[simp] abbrev aa.func42:=aa.az Tryz.func42 (by decide)
abbrev aa.ntmps42:=Tryz.ntmps42
@[simp] abbrev aa.func43:=aa.az Tryz.func43 (by decide)
abbrev aa.ntmps43:=Tryz.ntmps43
@[simp] abbrev aa.func44:=aa.az Tryz.func44 (by decide)
abbrev aa.ntmps44:=Tryz.ntmps44
abbrev aa.results44:=Tryz.results44
@[simp] abbrev aa.func45:=aa.az Tryz.func45 (by decide)
abbrev aa.ntmps45:=Tryz.ntmps45
abbrev aa.results45:=Tryz.results45
@[simp] abbrev aa.func46:=aa.az Tryz.func46 (by decide)
abbrev aa.ntmps46:=Tryz.ntmps46
@[simp] abbrev aa.func47:=aa.az Tryz.func47 (by decide)
abbrev aa.ntmps47:=Tryz.ntmps47
@[simp] abbrev aa.func48:=aa.az Tryz.func48 (by decide)
abbrev aa.ntmps48:=Tryz.ntmps48
@[simp] abbrev aa.func49:=aa.az Tryz.func49 (by decide)
abbrev aa.ntmps49:=Tryz.ntmps49
@[simp] abbrev aa.func50:=aa.az Tryz.func50 (by decide)
abbrev aa.ntmps50:=Tryz.ntmps50
@[simp] abbrev aa.func51:=aa.az Tryz.func51 (by decide)
abbrev aa.ntmps51:=Tryz.ntmps51
@[simp] abbrev aa.func52:=aa.az Tryz.func52 (by decide)
abbrev aa.ntmps52:=Tryz.ntmps52
@[simp] abbrev aa.func53:=aa.az Tryz.func53 (by decide)
abbrev aa.ntmps53:=Tryz.ntmps53
@[simp] abbrev aa.func54:=aa.az Tryz.func54 (by decide)
abbrev aa.ntmps54:=Tryz.ntmps54
@[simp] abbrev aa.func55:=aa.az Tryz.func55 (by decide)
abbrev aa.ntmps55:=Tryz.ntmps55
abbrev aa.results55:=Tryz.results55
@[simp] abbrev aa.func56:=aa.az Tryz.func56 (by decide)
abbrev aa.ntmps56:=Tryz.ntmps56
abbrev aa.results56:=Tryz.results56
@[simp] abbrev aa.func57:=aa.az Tryz.func57 (by decide)
abbrev aa.ntmps57:=Tryz.ntmps57
@[simp] abbrev aa.func58:=aa.az Tryz.func58 (by decide)
abbrev aa.ntmps58:=Tryz.ntmps58
@[simp] abbrev aa.func59:=aa.az Tryz.func59 (by decide)
abbrev aa.ntmps59:=Tryz.ntmps59
@[simp] abbrev aa.func60:=aa.az Tryz.func60 (by decide)
abbrev aa.ntmps60:=Tryz.ntmps60
@[simp] abbrev aa.func61:=aa.az Tryz.func61 (by decide)
abbrev aa.ntmps61:=Tryz.ntmps61
@[simp] abbrev aa.func62:=aa.az Tryz.func62 (by decide)
abbrev aa.ntmps62:=Tryz.ntmps62
@[simp] abbrev aa.func63:=aa.az Tryz.func63 (by decide)
abbrev aa.ntmps63:=Tryz.ntmps63
@[simp] abbrev aa.func64:=aa.az Tryz.func64 (by decide)
abbrev aa.ntmps64:=Tryz.ntmps64
abbrev aa.results64:=Tryz.results64
noncomputable abbrev aa.f65:=Tryz.f65
@[simp] abbrev aa.func65:=aa.az Tryz.func65 (by decide)
abbrev aa.ntmps65:=Tryz.ntmps65
@[simp] abbrev aa.func66:=aa.az Tryz.func66 (by decide)
abbrev aa.ntmps66:=Tryz.ntmps66
@[simp] abbrev aa.func67:=aa.az Tryz.func67 (by decide)
@[simp] abbrev aa.func69:=aa.az Tryz.func69 (by decide)
abbrev aa.ntmps69:=Tryz.ntmps69
@[simp] abbrev aa.func70:=aa.az Tryz.func70 (by decide)
abbrev aa.ntmps70:=Tryz.ntmps70
noncomputable abbrev aa.f71:=Tryz.f71
@[simp] abbrev aa.func71:=aa.az Tryz.func71 (by decide)
noncomputable abbrev aa.f72:=Tryz.f72
@[simp] abbrev aa.func72:=aa.az Tryz.func72 (by decide)
@[simp] abbrev aa.func73:=aa.az Tryz.func73 (by decide)
abbrev aa.ntmps73:=Tryz.ntmps73
@[simp] abbrev aa.func74:=aa.az Tryz.func74 (by decide)
abbrev aa.ntmps74:=Tryz.ntmps74
@[simp] abbrev aa.func75:=aa.az Tryz.func75 (by decide)
abbrev aa.ntmps75:=Tryz.ntmps75
@[simp] abbrev aa.func76:=aa.az Tryz.func76 (by decide)
abbrev aa.ntmps76:=Tryz.ntmps76
@[simp] abbrev aa.func77:=aa.az Tryz.func77 (by decide)
abbrev aa.ntmps77:=Tryz.ntmps77
@[simp] abbrev aa.func78:=aa.az Tryz.func78 (by decide)
abbrev aa.ntmps78:=Tryz.ntmps78
@[simp] abbrev aa.func79:=aa.az Tryz.func79 (by decide)
abbrev aa.ntmps79:=Tryz.ntmps79
@[simp] abbrev aa.func80:=aa.az Tryz.func80 (by decide)
abbrev aa.ntmps80:=Tryz.ntmps80
@[simp] abbrev aa.func81:=aa.az Tryz.func81 (by decide)
abbrev aa.ntmps81:=Tryz.ntmps81
@[simp] abbrev aa.func82:=aa.az Tryz.func82 (by decide)
abbrev aa.ntmps82:=Tryz.ntmps82
@[simp] abbrev aa.func83:=aa.az Tryz.func83 (by decide)
abbrev aa.ntmps83:=Tryz.ntmps83
noncomputable abbrev aa.f84:=Tryz.f84
@[simp] abbrev aa.func84:=aa.az Tryz.func84 (by decide)
abbrev aa.ntmps84:=Tryz.ntmps84
@[simp] abbrev aa.func85:=aa.az Tryz.func85 (by decide)
abbrev aa.ntmps85:=Tryz.ntmps85
@[simp] abbrev aa.func86:=aa.az Tryz.func86 (by decide)
abbrev aa.ntmps86:=Tryz.ntmps86
@[simp] abbrev aa.func87:=aa.az Tryz.func87 (by decide)
abbrev aa.ntmps87:=Tryz.ntmps87
@[simp] abbrev aa.func92:=aa.az Tryz.func92 (by decide)
abbrev aa.ntmps92:=Tryz.ntmps92
@[simp] abbrev aa.func93:=aa.az Tryz.func93 (by decide)
abbrev aa.ntmps93:=Tryz.ntmps93
@[simp] abbrev aa.func94:=aa.az Tryz.func94 (by decide)
abbrev aa.ntmps94:=Tryz.ntmps94
noncomputable abbrev aa.f95:=Tryz.f95
@[simp] abbrev aa.func95:=aa.az Tryz.func95 (by decide)
noncomputable abbrev aa.f96:=Tryz.f96
@[simp] abbrev aa.func96:=aa.az Tryz.func96 (by decide)
noncomputable abbrev aa.f97:=Tryz.f97
@[simp] abbrev aa.func97:=aa.az Tryz.func97 (by decide)
@[simp] abbrev aa.func98:=aa.az Tryz.func98 (by decide)
abbrev aa.ntmps98:=Tryz.ntmps98
@[simp] abbrev aa.func99:=aa.az Tryz.func99 (by decide)
abbrev aa.ntmps99:=Tryz.ntmps99
@[simp] abbrev aa.func100:=aa.az Tryz.func100 (by decide)
abbrev aa.ntmps100:=Tryz.ntmps100
@[simp] abbrev aa.func101:=aa.az Tryz.func101 (by decide)
abbrev aa.ntmps101:=Tryz.ntmps101
abbrev aa.results101:=Tryz.results101
@[simp] abbrev aa.func102:=aa.az Tryz.func102 (by decide)
abbrev aa.ntmps102:=Tryz.ntmps102
@[simp] abbrev aa.func103:=aa.az Tryz.func103 (by decide)
abbrev aa.ntmps103:=Tryz.ntmps103
@[simp] abbrev aa.func104:=aa.az Tryz.func104 (by decide)
abbrev aa.ntmps104:=Tryz.ntmps104
@[simp] abbrev aa.func105:=aa.az Tryz.func105 (by decide)
abbrev aa.ntmps105:=Tryz.ntmps105
@[simp] abbrev aa.func106:=aa.az Tryz.func106 (by decide)
abbrev aa.ntmps106:=Tryz.ntmps106
abbrev aa.results106:=Tryz.results106
noncomputable abbrev aa.f107:=Tryz.f107
@[simp] abbrev aa.func107:=aa.az Tryz.func107 (by decide)
abbrev aa.ntmps107:=Tryz.ntmps107
noncomputable abbrev aa.f108:=Tryz.f108
@[simp] abbrev aa.func108:=aa.az Tryz.func108 (by decide)
noncomputable abbrev aa.f109:=Tryz.f109
@[simp] abbrev aa.func109:=aa.az Tryz.func109 (by decide)
noncomputable abbrev aa.f110:=Tryz.f110
@[simp] abbrev aa.func110:=aa.az Tryz.func110 (by decide)
noncomputable abbrev aa.f111:=Tryz.f111
@[simp] abbrev aa.func111:=aa.az Tryz.func111 (by decide)
noncomputable abbrev aa.f112:=Tryz.f112
@[simp] abbrev aa.func112:=aa.az Tryz.func112 (by decide)
noncomputable abbrev aa.f113:=Tryz.f113
@[simp] abbrev aa.func113:=aa.az Tryz.func113 (by decide)
noncomputable abbrev aa.f114:=Tryz.f114
@[simp] abbrev aa.func114:=aa.az Tryz.func114 (by decide)
@[simp] abbrev aa.func115:=aa.az Tryz.func115 (by decide)
@[simp] abbrev aa.func116:=aa.az Tryz.func116 (by decide)
abbrev aa.ntmps116:=Tryz.ntmps116
@[simp] abbrev aa.func117:=aa.az Tryz.func117 (by decide)
abbrev aa.ntmps117:=Tryz.ntmps117
noncomputable abbrev aa.f136:=Tryz.f136
@[simp] abbrev aa.func136:=aa.az Tryz.func136 (by decide)
noncomputable abbrev aa.f137:=Tryz.f137
@[simp] abbrev aa.func137:=aa.az Tryz.func137 (by decide)
@[simp] abbrev aa.func138:=aa.az Tryz.func138 (by decide)
abbrev aa.ntmps138:=Tryz.ntmps138
@[simp] abbrev aa.func139:=aa.az Tryz.func139 (by decide)
abbrev aa.ntmps139:=Tryz.ntmps139
abbrev aa.results139:=Tryz.results139
@[simp] abbrev aa.func140:=aa.az Tryz.func140 (by decide)
abbrev aa.ntmps140:=Tryz.ntmps140
@[simp] abbrev aa.func141:=aa.az Tryz.func141 (by decide)
abbrev aa.ntmps141:=Tryz.ntmps141
noncomputable abbrev aa.f142:=Tryz.f142
@[simp] abbrev aa.func142:=aa.az Tryz.func142 (by decide)
@[simp] abbrev aa.func143:=aa.az Tryz.func143 (by decide)
@[simp] abbrev aa.func144:=aa.az Tryz.func144 (by decide)
noncomputable abbrev aa.f145:=Tryz.f145
@[simp] abbrev aa.func145:=aa.az Tryz.func145 (by decide)
noncomputable abbrev aa.f146:=Tryz.f146
@[simp] abbrev aa.func146:=aa.az Tryz.func146 (by decide)
noncomputable abbrev aa.f152:=Tryz.f152
@[simp] abbrev aa.func152:=aa.az Tryz.func152 (by decide)
noncomputable abbrev aa.f153:=Tryz.f153
@[simp] abbrev aa.func153:=aa.az Tryz.func153 (by decide)
noncomputable abbrev aa.f154:=Tryz.f154
@[simp] abbrev aa.func154:=aa.az Tryz.func154 (by decide)
noncomputable abbrev aa.f155:=Tryz.f155
@[simp] abbrev aa.func155:=aa.az Tryz.func155 (by decide)
noncomputable abbrev aa.f156:=Tryz.f156
@[simp] abbrev aa.func156:=aa.az Tryz.func156 (by decide)
noncomputable abbrev aa.f157:=Tryz.f157
@[simp] abbrev aa.func157:=aa.az Tryz.func157 (by decide)
noncomputable abbrev aa.f158:=Tryz.f158
@[simp] abbrev aa.func158:=aa.az Tryz.func158 (by decide)
noncomputable abbrev aa.f159:=Tryz.f159
@[simp] abbrev aa.func159:=aa.az Tryz.func159 (by decide)
noncomputable abbrev aa.f160:=Tryz.f160
@[simp] abbrev aa.func160:=aa.az Tryz.func160 (by decide)
@[simp] abbrev aa.func161:=aa.az Tryz.func161 (by decide)
abbrev aa.ntmps161:=Tryz.ntmps161
noncomputable abbrev aa.f162:=Tryz.f162
@[simp] abbrev aa.func162:=aa.az Tryz.func162 (by decide)
noncomputable abbrev aa.f163:=Tryz.f163
@[simp] abbrev aa.func163:=aa.az Tryz.func163 (by decide)
noncomputable abbrev aa.f164:=Tryz.f164
@[simp] abbrev aa.func164:=aa.az Tryz.func164 (by decide)
noncomputable abbrev aa.f165:=Tryz.f165
@[simp] abbrev aa.func165:=aa.az Tryz.func165 (by decide)
noncomputable abbrev aa.f166:=Tryz.f166
@[simp] abbrev aa.func166:=aa.az Tryz.func166 (by decide)
noncomputable abbrev aa.f167:=Tryz.f167
@[simp] abbrev aa.func167:=aa.az Tryz.func167 (by decide)
@[simp] abbrev aa.call7:=aa.aG aa.func7 rfl rfl
@[simp] abbrev aa.call8:=aa.aG aa.func8 rfl rfl
@[simp] abbrev aa.call9:=aa.aG aa.func9 rfl rfl
@[simp] abbrev aa.call11:=aa.aG aa.func11 rfl rfl
@[simp] abbrev aa.call12:=aa.aG aa.func12 rfl rfl
@[simp] abbrev aa.call13:=aa.aG aa.func13 rfl rfl
@[simp] abbrev aa.call14:=aa.aG aa.func14 rfl rfl
@[simp] abbrev aa.call15:=aa.aG aa.func15 rfl rfl
@[simp] abbrev aa.call16:=aa.aG aa.func16 rfl rfl
@[simp] abbrev aa.call17:=aa.aG aa.func17 rfl rfl
@[simp] abbrev aa.call18:=aa.aG aa.func18 rfl rfl
@[simp] abbrev aa.call19:=aa.aG aa.func19 rfl rfl
@[simp] abbrev aa.call20:=aa.aG aa.func20 rfl rfl
@[simp] abbrev aa.call21:=aa.aG aa.func21 rfl rfl
@[simp] abbrev aa.call22:=aa.aG aa.func22 rfl rfl
@[simp] abbrev aa.call23:=aa.aG aa.func23 rfl rfl
@[simp] abbrev aa.call24:=aa.aG aa.func24 rfl rfl
@[simp] abbrev aa.call25:=aa.aG aa.func25 rfl rfl
@[simp] abbrev aa.call26:=aa.aG aa.func26 rfl rfl
@[simp] abbrev aa.call27:=aa.aG aa.func27 rfl rfl
@[simp] abbrev aa.call28:=aa.aG aa.func28 rfl rfl
@[simp] abbrev aa.call29:=aa.aG aa.func29 rfl rfl
@[simp] abbrev aa.call30:=aa.aG aa.func30 rfl rfl
@[simp] abbrev aa.call31:=aa.aG aa.func31 rfl rfl
@[simp] abbrev aa.call32:=aa.aG aa.func32 rfl rfl
@[simp] abbrev aa.call33:=aa.aG aa.func33 rfl rfl
@[simp] abbrev aa.call34:=aa.aG aa.func34 rfl rfl
@[simp] abbrev aa.call35:=aa.aG aa.func35 rfl rfl
@[simp] abbrev aa.call36:=aa.aG aa.func36 rfl rfl
@[simp] abbrev aa.call37:=aa.aG aa.func37 rfl rfl
@[simp] abbrev aa.call38:=aa.aG aa.func38 rfl rfl
@[simp] abbrev aa.call39:=aa.aG aa.func39 rfl rfl
@[simp] abbrev aa.call40:=aa.aG aa.func40 rfl rfl
@[simp] abbrev aa.call41:=aa.aG aa.func41 rfl rfl
@[simp] abbrev aa.call42:=aa.aG aa.func42 rfl rfl
@[simp] abbrev aa.call43:=aa.aG aa.func43 rfl rfl
@[simp] abbrev aa.call44:=aa.aG aa.func44 rfl rfl
@[simp] abbrev aa.call45:=aa.aG aa.func45 rfl rfl
@[simp] abbrev aa.call46:=aa.aG aa.func46 rfl rfl
@[simp] abbrev aa.call47:=aa.aG aa.func47 rfl rfl
@[simp] abbrev aa.call48:=aa.aG aa.func48 rfl rfl
@[simp] abbrev aa.call49:=aa.aG aa.func49 rfl rfl
@[simp] abbrev aa.call50:=aa.aG aa.func50 rfl rfl
@[simp] abbrev aa.call51:=aa.aG aa.func51 rfl rfl
@[simp] abbrev aa.call52:=aa.aG aa.func52 rfl rfl
@[simp] abbrev aa.call53:=aa.aG aa.func53 rfl rfl
@[simp] abbrev aa.call54:=aa.aG aa.func54 rfl rfl
@[simp] abbrev aa.call55:=aa.aG aa.func55 rfl rfl
@[simp] abbrev aa.call56:=aa.aG aa.func56 rfl rfl
@[simp] abbrev aa.call57:=aa.aG aa.func57 rfl rfl
@[simp] abbrev aa.call58:=aa.aG aa.func58 rfl rfl
@[simp] abbrev aa.call59:=aa.aG aa.func59 rfl rfl
@[simp] abbrev aa.call60:=aa.aG aa.func60 rfl rfl
@[simp] abbrev aa.call61:=aa.aG aa.func61 rfl rfl
@[simp] abbrev aa.call62:=aa.aG aa.func62 rfl rfl
@[simp] abbrev aa.call63:=aa.aG aa.func63 rfl rfl
@[simp] abbrev aa.call64:=aa.aG aa.func64 rfl rfl
@[simp] abbrev aa.call65:=aa.aG aa.func65 rfl rfl
@[simp] abbrev aa.call66:=aa.aG aa.func66 rfl rfl
@[simp] abbrev aa.call67:=aa.aG aa.func67 rfl rfl
@[simp] abbrev aa.call69:=aa.aG aa.func69 rfl rfl
@[simp] abbrev aa.call70:=aa.aG aa.func70 rfl rfl
@[simp] abbrev aa.call71:=aa.aG aa.func71 rfl rfl
@[simp] abbrev aa.call72:=aa.aG aa.func72 rfl rfl
@[simp] abbrev aa.call73:=aa.aG aa.func73 rfl rfl
@[simp] abbrev aa.call74:=aa.aG aa.func74 rfl rfl
@[simp] abbrev aa.call75:=aa.aG aa.func75 rfl rfl
@[simp] abbrev aa.call76:=aa.aG aa.func76 rfl rfl
@[simp] abbrev aa.call77:=aa.aG aa.func77 rfl rfl
@[simp] abbrev aa.call78:=aa.aG aa.func78 rfl rfl
@[simp] abbrev aa.call79:=aa.aG aa.func79 rfl rfl
@[simp] abbrev aa.call80:=aa.aG aa.func80 rfl rfl
@[simp] abbrev aa.call81:=aa.aG aa.func81 rfl rfl
@[simp] abbrev aa.call82:=aa.aG aa.func82 rfl rfl
@[simp] abbrev aa.call83:=aa.aG aa.func83 rfl rfl
@[simp] abbrev aa.call84:=aa.aG aa.func84 rfl rfl
@[simp] abbrev aa.call85:=aa.aG aa.func85 rfl rfl
@[simp] abbrev aa.call86:=aa.aG aa.func86 rfl rfl
@[simp] abbrev aa.call87:=aa.aG aa.func87 rfl rfl
@[simp] abbrev aa.call92:=aa.aG aa.func92 rfl rfl
@[simp] abbrev aa.call93:=aa.aG aa.func93 rfl rfl
@[simp] abbrev aa.call94:=aa.aG aa.func94 rfl rfl
@[simp] abbrev aa.call98:=aa.aG aa.func98 rfl rfl
@[simp] abbrev aa.call99:=aa.aG aa.func99 rfl rfl
@[simp] abbrev aa.call100:=aa.aG aa.func100 rfl rfl
@[simp] abbrev aa.call101:=aa.aG aa.func101 rfl rfl
@[simp] abbrev aa.call102:=aa.aG aa.func102 rfl rfl
@[simp] abbrev aa.call103:=aa.aG aa.func103 rfl rfl
@[simp] abbrev aa.call104:=aa.aG aa.func104 rfl rfl
@[simp] abbrev aa.call105:=aa.aG aa.func105 rfl rfl
@[simp] abbrev aa.call106:=aa.aG aa.func106 rfl rfl
@[simp] abbrev aa.call107:=aa.aG aa.func107 rfl rfl
@[simp] abbrev aa.call116:=aa.aG aa.func116 rfl rfl
@[simp] abbrev aa.call117:=aa.aG aa.func117 rfl rfl
@[simp] abbrev aa.call138:=aa.aG aa.func138 rfl rfl
@[simp] abbrev aa.call139:=aa.aG aa.func139 rfl rfl
@[simp] abbrev aa.call140:=aa.aG aa.func140 rfl rfl
@[simp] abbrev aa.call141:=aa.aG aa.func141 rfl rfl
@[simp] abbrev aa.call161:=aa.aG aa.func161 rfl rfl
end
end Go.Proofs
namespace Go.Proofs.YtldmcdeibiclkaaGreatDoorQ
abbrev Ctx:=Nat->Int
abbrev aj:=Nat×Int×ByteArray
abbrev aj.rep(v:aj):Nat:=v.1
abbrev aj.n(v:aj):Int:=v.2.1
abbrev aj.val(v:aj):ByteArray:=v.2.2
abbrev c9(c:Ctx):Value:=.agg #[.int .i64 (c 0),.int .i64 (c 1),.int .i64 (c 2),.int .i64 (c 3)]
def dG(v:aj):List Value:=[.int .i64 v.rep,.int .i64 v.n,.string v.val]
def gQ(c:Ctx)(v:aj):Bool:=decide (v.n<=c v.rep)
def aZ(a b:Ctx):Ctx:=λi=>max (a i) (b i)
def eJ(n:Int):Bool:=decide (0<=n/\n<=1000000)
def gD(c:Ctx):Bool:=eJ (c 0)&&(eJ (c 1)&&(eJ (c 2)&&eJ (c 3)))
def lz(c n:Int):Int:=(if c<0 then -(c+1) else c)%n
theorem PU(c n:Int)(hn:1<=n):0<=lz c n/\lz c n<n:=
 ⟨YL _ (by omega),Int.emod_lt_of_pos _ (by omega)⟩
theorem fp{r:Nat}(h:r<4):r=0\/r=1\/r=2\/r=3:=by omega
theorem qt{k:IntKind}{a b:Int}(h:a=b):Ending.returned (.int k a)=.returned (.int k b):=by rw[h]
theorem mY{a b:Bool}(h:a=b):Ending.returned (.bool a)=.returned (.bool b):=by rw[h]
end Go.Proofs.YtldmcdeibiclkaaGreatDoorQ
namespace Go.Proofs.YtldmcdeibiclkaaGreatDoorQ
variable {w w':World}{s:ByteArray}{e:TypeId}{v:Value}{xs:List Value}{k B:Nat}
open Go.RowKit
def pD(b:UInt8):Bool:=decide (97<=b.toNat/\b.toNat<=122)
def cV(s:ByteArray):Bool:=decide (1<=s.size/\s.size<=8)&&s.data.toList.all pD
theorem wU(s:ByteArray)(w:World)(hs:s.size<=maxLen):
  Calls aa.prog 37 #[.string s] w λe w'=>e=.returned (.bool (decide (s.size<=12)))/\w'=w:=by
 unfold maxLen at hs;go_enter aa.func37,aa.ntmps37;go_wp2;go_ret;exact⟨mY (by simp;omega),rfl⟩
theorem FO(x y:Int)(w:World):
  Calls aa.prog 87 #[.int .i64 x,.int .i64 y] w λe w'=>e=.returned (.int .i64 (if x<y then -1 else if y<x then 1 else 0))/\w'=w:=by
 by_cases h1:x<y
 ·go_enter aa.func87,aa.ntmps87;go_wp2;go_ret;exact⟨rfl,rfl⟩
 ·by_cases h2:y<x
  ·go_enter aa.func87,aa.ntmps87;go_wp2;go_ret;exact⟨rfl,rfl⟩
  ·go_enter aa.func87,aa.ntmps87;go_wp2;go_ret;exact⟨rfl,rfl⟩
theorem UR(h1:1<=s.size)(h2:s.size<=8)(h:∀j (h:j<s.size),pD s[j]=true):cV s=true:=by
 simp only[cV,IN,Xs,List.all_eq_true];refine⟨⟨h1,h2⟩,λx hx=>?_⟩;obtain⟨j,hj,rfl⟩:=List.mem_iff_getElem.1 hx;exact h j (by simpa using hj)
theorem Js{j:Nat}(hj:j<s.size)(h: ¬(97<=s[j].toNat/\s[j].toNat<=122)):cV s=false:=by
 simp only[cV,Bool.and_eq_false_iff];right;rw[List.all_eq_false];exact⟨s[j],by simp[ByteArray.getElem_eq_getElem_data],by simpa[pD] using h⟩
theorem Ry(h: ¬(1<=s.size/\s.size<=8)):cV s=false:=by
 simp only[cV,Bool.and_eq_false_iff];exact Or.inl (YN h)
theorem oj(s:ByteArray)(w:World)(hs:s.size<=maxLen):
  Calls aa.prog 36 #[.string s] w λe w'=>e=.returned (.bool (cV s))/\w'=w:=by
 unfold maxLen at hs;by_cases hl:1<=s.size/\s.size<=8
 ·obtain⟨hl1,hl2⟩:=hl;go_enter aa.func36,aa.ntmps36;go_wp2;go_loop [14] (λi=>∃k:Nat,k<=s.size/\i=.int .i64 k/\Hid (∀j (h:j<s.size),j<k->pD s[j]=true)) (λi=>s.size-(intOf i).toNat)
  case atStart=>exact⟨0,by omega,rfl,λj hj=>by omega⟩
  case round=>
   obtain⟨k,hk,rfl,hall⟩:=hrel;by_cases hlt:k<s.size
   ·by_cases hb:97<=s[k].toNat/\s[k].toNat<=122
    ·obtain⟨hb1,hb2⟩:=hb;have hall':Hid (∀j (h:j<s.size),j<k+1->pD s[j]=true):=λj h hj=>by
      by_cases e:j=k
      ·subst e;exact YD ⟨hb1,hb2⟩
      ·exact hall.out j h (by omega)
     go_wp2;exact⟨⟨k+1,by omega,by go_num,hall'⟩,by simp[intOf];omega⟩
    ·have hs':Hid (cV s=false):=Js hlt hb;have hb':s[k].toNat<97\/122<s[k].toNat:=by omega
     clear hb hall;rcases hb' with hb'|hb'
     ·go_wp2;go_ret;exact⟨mY hs'.out.symm,rfl⟩
     ·go_wp2;go_ret;exact⟨mY hs'.out.symm,rfl⟩
   ·have hs':Hid (cV s=true):=UR hl1 hl2 λj h=>hall.out j h (by omega);clear hall;go_wp2;go_ret;exact⟨mY hs'.out.symm,rfl⟩
 ·have hs':Hid (cV s=false):=Ry hl;have hl':s.size<1\/8<s.size:=by omega
  clear hl;rcases hl' with hl'|hl'
  ·go_enter aa.func36,aa.ntmps36;go_wp2;go_ret;exact⟨mY hs'.out.symm,rfl⟩
  ·go_enter aa.func36,aa.ntmps36;go_wp2;go_ret;exact⟨mY hs'.out.symm,rfl⟩
def kD(x y:Int):Int:=if x=0 then y else x
theorem KD(b off cap:Nat)(x y:Int)(w:World)(h0:w.cell? ⟨b,off,none⟩=some (.int .i64 x))(h1:w.cell? ⟨b,off+1,none⟩=some (.int .i64 y)):
  Calls aa.prog 86 #[.slice (some ⟨b,off,none⟩) 2 cap] w λe w'=>e=.returned (.int .i64 (kD x y))/\w'=w:=by
 go_enter aa.func86,aa.ntmps86;go_wp2;go_loop [8] (λi=>∃k:Nat,k<=2/\i=.int .i64 k/\Hid ((0<k->x=0)/\(1<k->y=0))) (λi=>2-(intOf i).toNat)
 case atStart=>exact⟨0,by omega,rfl,λh=>by omega,λh=>by omega⟩
 case round=>
  obtain⟨k,hk,rfl,hall⟩:=hrel;by_cases hlt:k<2
  ·have hk':k=0\/k=1:=by omega
   rcases hk' with rfl|rfl
   ·by_cases hx:x=0
    ·subst hx;go_wp2;exact⟨⟨1,by omega,rfl,λ_=>by trivial,λh=>by omega⟩,by simp[intOf]⟩
    ·have hx':(x==0)=false:=by simp[hx]
     have hx2:(x !=0)=true:=by simp[hx]
     go_wp2;go_ret;exact⟨qt (by simp[kD,hx]),rfl⟩
   ·have hx:=hall.out.1 (by omega);subst hx;by_cases hy:y=0
    ·subst hy;go_wp2;exact⟨⟨2,by omega,rfl,λ_=>by trivial,λ_=>by trivial⟩,by simp[intOf]⟩
    ·have hy':(y==0)=false:=by simp[hy]
     have hy2:(y !=0)=true:=by simp[hy]
     go_wp2;go_ret;exact⟨qt (by simp[kD]),rfl⟩
  ·obtain rfl:k=2:=by omega
   have hx:=hall.out.1 (by omega);have hy:=hall.out.2 (by omega);subst hx hy;go_wp2;go_ret;exact⟨qt (by simp[kD]),rfl⟩
def gI(x y:Int):Int:=if x<y then -1 else if y<x then 1 else 0
def gC(a b:aj):Int:=kD (gI a.rep b.rep) (gI a.n b.n)
theorem wN(ra na rb nb:Int)(va vb:ByteArray)(w:World):
  Calls aa.prog 66 #[.agg #[.int .i64 ra,.int .i64 na,.string va],.agg #[.int .i64 rb,.int .i64 nb,.string vb]] w λe w'=>e=.returned (.int .i64 (kD (gI ra rb) (gI na nb)))/\∃q os',w'=Go.Sort.grow (w.drewN q) os':=by
 have hc1:∀W,Calls aa.prog 87 #[.int .i64 ra,.int .i64 rb] W λe w'=>e=.returned (.int .i64 (gI ra rb))/\w'=W:=λW=>FO ra rb W;have hc2:∀W,Calls aa.prog 87 #[.int .i64 na,.int .i64 nb] W λe w'=>e=.returned (.int .i64 (gI na nb))/\w'=W:=λW=>FO na nb W;have H1:Hid _:=hc1;have H2:Hid _:=hc2;clear hc1 hc2;generalize gI ra rb=r1 at*;generalize gI na nb=r2 at*;go_enter aa.func66,aa.ntmps66;go_wp2;go_region_held3 (λw'=>w'.cell? ⟨w.heap.size,0,none⟩=some (.int .i64 ra)/\w'.cell? ⟨w.heap.size,1,none⟩=some (.int .i64 na)/\w'.cell? ⟨w.heap.size+1,0,none⟩=some (.int .i64 rb)/\w'.cell? ⟨w.heap.size+1,1,none⟩=some (.int .i64 nb)) (go_keep) (first
  |(go_at_call_of 87 (Value.int .i64 ra);refine (H1.out _).mono ?_;rintro e w' ⟨rfl,rfl⟩)
  |(go_at_call_of 87 (Value.int .i64 na);refine (H2.out _).mono ?_;rintro e w' ⟨rfl,rfl⟩)
  |(go_at_call 86;refine (KD _ _ _ r1 r2 _ (by go_simp) (by go_simp)).mono ?_;rintro e w' ⟨rfl,rfl⟩))
 go_wp2;go_ret;exact⟨rfl,1,_,by rw[Go.Sort.alloc_eq_grow,Go.Sort.alloc_eq_grow,Go.Sort.alloc_eq_grow,Go.Sort.grow_grow,Go.Sort.grow_grow];rfl⟩
theorem sU(W:World)(a b c d:Value):
  (Instr.index 102 (.agg #[a,b,c,d]) (.int .i64 0)).run aa.prog W=.ok a W/\
  (Instr.index 102 (.agg #[a,b,c,d]) (.int .i64 1)).run aa.prog W=.ok b W/\
  (Instr.index 102 (.agg #[a,b,c,d]) (.int .i64 2)).run aa.prog W=.ok c W/\
  (Instr.index 102 (.agg #[a,b,c,d]) (.int .i64 3)).run aa.prog W=.ok d W:=
 ⟨by kernel_rfl,by kernel_rfl,by kernel_rfl,by kernel_rfl⟩
theorem Uq{c:Ctx}(h:∀j,j<4->0<=c j/\c j<=1000000):gD c=true:=by
 simp only[gD,eJ,IN,Xs];exact⟨h 0 (by omega),h 1 (by omega),h 2 (by omega),h 3 (by omega)⟩
theorem Rw{c:Ctx}(hk:k<4)(h: ¬(0<=c k/\c k<=1000000)):gD c=false:=by
 cases hs:gD c with
 |false=>rfl
 |true=>
  simp only[gD,eJ,IN,Xs]at hs;rcases fp hk with rfl|rfl|rfl|rfl
  ·exact absurd hs.1 h
  ·exact absurd hs.2.1 h
  ·exact absurd hs.2.2.1 h
  ·exact absurd hs.2.2.2 h
theorem sA(c:Ctx)(w:World):
  Calls aa.prog 38 #[c9 c] w λe w'=>e=.returned (.bool (gD c))/\Below w.heap.size w w':=by
 go_enter aa.func38,aa.ntmps38;go_wp2;go_loop [6] (λi=>∃k:Nat,k<=4/\i=.int .i64 k/\∀j,j<k->0<=c j/\c j<=1000000) (λi=>4-(intOf i).toNat)
 case atStart=>exact⟨0,by omega,rfl,λj hj=>by omega⟩
 case round=>
  obtain⟨k,hk,rfl,hall⟩:=hrel;have Hall:=(show Hid _ from hall)
  clear hall;by_cases hlt:k<4
  ·by_cases hb:0<=c k/\c k<=1000000
   ·obtain⟨hb1,hb2⟩:=hb;have hall':Hid (∀j,j<k+1->0<=c j/\c j<=1000000):=λj hj=>by
     by_cases e:j=k
     ·subst e;exact⟨hb1,hb2⟩
     ·exact Hall.out j (by omega)
    clear Hall;rcases fp hlt with rfl|rfl|rfl|rfl
    all_goals
     have hix:=sU;go_wp2;exact⟨⟨_,by omega,by go_num,hall'.out⟩,by simp[intOf]⟩
   ·have hs:Hid (gD c=false):=Rw hlt hb;clear Hall;have hb':c k<0\/1000000<c k:=by omega
    clear hb;rcases hb' with hb'|hb'
    all_goals
     try (have hb0:0<=c k:=by omega)
     rcases fp hlt with rfl|rfl|rfl|rfl
     all_goals
      have hix:=sU;go_wp2;go_ret;exact⟨mY hs.out.symm,(AT _ _).alloc (iR _) _⟩
  ·obtain rfl:k=4:=by omega
   have hs:Hid (gD c=true):=Uq Hall.out;clear Hall;go_wp2;go_ret;exact⟨mY hs.out.symm,(AT _ _).alloc (iR _) _⟩
theorem Xz{a:World}(h:Below B a w)(n:Nat):Below B a (w.drewN n):=⟨h.os,h.tape,h.output,h.size,h.block⟩
theorem tO(c:Ctx)(r:Nat)(n:Int)(w:World)(hr:r<4):
  Calls aa.prog 83 #[c9 c,.agg #[.int .i64 r,.int .i64 n]] w λe w'=>e=.returned (.bool (decide (n<=c r)))/\Below w.heap.size w w':=by
 rcases fp hr with rfl|rfl|rfl|rfl
 all_goals
  go_enter aa.func83,aa.ntmps83;go_wp2;go_quiet (fail);go_wp2;go_ret;exact⟨rfl,Xz (((AT _ _).alloc (iR _) _).alloc (by simp) _) _⟩
theorem vt{d x y:Int}(h:d=x):(if d<y then y else d)=max x y:=by
 subst h;rw[Int.max_def];split<;>split<;>omega
theorem sC(a b:Ctx)(w:World):
  Calls aa.prog 64 #[c9 a,c9 b] w λe w'=>e=.returned (c9 (aZ a b))/\Below w.heap.size w w':=by
 go_enter aa.func64,aa.ntmps64;go_wp2;go_loopw [8] (λi w'=>∃k:Nat,k<=4/\i=.int .i64 k/\∃d0 d1 d2 d3:Int,w'=((w.alloc (.cells #[.int .i64 d0,.int .i64 d1,.int .i64 d2,.int .i64 d3] 102)).alloc (.cells #[.int .i64 (b 0),.int .i64 (b 1),.int .i64 (b 2),.int .i64 (b 3)] 102)).alloc (.cells #[.int .i64 0,.int .i64 0,.int .i64 0,.int .i64 0] 102)/\Hid (d0=if 0<k then aZ a b 0 else a 0)/\Hid (d1=if 1<k then aZ a b 1 else a 1)/\Hid (d2=if 2<k then aZ a b 2 else a 2)/\Hid (d3=if 3<k then aZ a b 3 else a 3)) (λi _=>4-(intOf i).toNat)
 case atStart=>exact⟨0,by omega,rfl,_,_,_,_,rfl,rfl,rfl,rfl,rfl⟩
 case round=>
  obtain⟨k,hk,rfl,d0,d1,d2,d3,rfl,h0,h1,h2,h3⟩:=hrel;by_cases hlt:k<4
  ·have hix:=sU;rcases fp hlt with rfl|rfl|rfl|rfl
   ·go_wp2;exact⟨⟨1,by omega,rfl,_,_,_,_,rfl,(by first|exact vt h0.out|exact congrArg (max · _) h0.out),h1,h2,h3⟩,by simp[intOf]⟩
   ·go_wp2;exact⟨⟨2,by omega,rfl,_,_,_,_,rfl,h0,(by first|exact vt h1.out|exact congrArg (max · _) h1.out),h2,h3⟩,by simp[intOf]⟩
   ·go_wp2;exact⟨⟨3,by omega,rfl,_,_,_,_,rfl,h0,h1,(by first|exact vt h2.out|exact congrArg (max · _) h2.out),h3⟩,by simp[intOf]⟩
   ·go_wp2;exact⟨⟨4,by omega,rfl,_,_,_,_,rfl,h0,h1,h2,(by first|exact vt h3.out|exact congrArg (max · _) h3.out)⟩,by simp[intOf]⟩
  ·obtain rfl:k=4:=by omega
   go_wp2;refine XF (v:=c9 (aZ a b)) ?_ rfl ⟨rfl,?_⟩
   ·simp[results,aa.results64,go_sem];exact⟨h0.out,h1.out,h2.out,h3.out⟩
   ·exact (((AT _ _).alloc (iR _) _).alloc (by simp) _).alloc (by simp;omega) _
def aX(l:List aj):List Value:=l.flatMap dG
theorem ym(l:List aj):(aX l).length=l.length*3:=by
 induction l with
 |nil=>rfl
 |cons v l ih=>simp only[aX,XM,Xk,Xp] at*;rw[ih];simp[dG];omega
theorem rL(a b:List aj):aX (a++b)=aX a++aX b:=by simp[aX]
def aW(l:List aj)(c:Ctx):List aj:=l.filter λv=>!gQ c v
def aC(w:World)(sv:Value)(l:List aj):Prop:=w.ownsRow 0 144 3 sv l.length (aX l)
theorem xg(l:List aj)(k:Nat)(h:k<l.length):
  (aX l)[k*3]?=some (.int .i64 l[k].rep)/\(aX l)[k*3+1]?=some (.int .i64 l[k].n)/\(aX l)[k*3+2]?=some (.string l[k].val):=by
 induction l generalizing k with
 |nil=>simp at h
 |cons v l ih=>
  have e:aX (v::l)=dG v++aX l:=by simp[aX]
  cases k with
  |zero=>simp[e,dG]
  |succ k=>
   have h':k<l.length:=by simpa using h
   have:=ih k h';rw[e];simp only[List.getElem_cons_succ];have e0:(k+1)*3=k*3+3:=by omega
   rw[e0];refine⟨?_,?_,?_⟩
   ·rw[List.getElem?_append_right (by simp[dG])];simpa[dG] using this.1
   ·rw[List.getElem?_append_right (by simp[dG])];simp only[dG,Xp,XW];rw[show k*3+3+1-(0+1+1+1)=k*3+1 from by omega];exact this.2.1
   ·rw[List.getElem?_append_right (by simp[dG])];simp only[dG,Xp,XW];rw[show k*3+3+2-(0+1+1+1)=k*3+2 from by omega];exact this.2.2
theorem aC.cells{sv:Value}{l:List aj}(h:aC w sv l)(hk:k<l.length):
  ∃g cap,sv=.slice (some ⟨g,0,none⟩) l.length cap/\g<w.heap.size/\l.length<=cap/\cap<=maxLen/\
   w.cell? ⟨g,k*3,none⟩=some (.int .i64 l[k].rep)/\w.cell? ⟨g,k*3+1,none⟩=some (.int .i64 l[k].n)/\w.cell? ⟨g,k*3+2,none⟩=some (.string l[k].val):=by
 obtain⟨h1,h2⟩:=h;rcases h2 with⟨_,h2⟩|⟨g,cap,cur,hv,_,hh,hn,hc,hs,ht⟩
 ·omega
 ·refine⟨g,cap,hv,(Array.getElem?_eq_some_iff.1 hh).1,hn,hc,?_⟩;have hf:=xg l k hk;have key:∀j v,j<l.length*3->(aX l)[j]?=some v->w.cell? ⟨g,j,none⟩=some v:=by
   intro j v hj hv;simp only[World.cell?,hh];rw[<-ht,List.getElem?_take,AS hj]at hv;simpa using hv
  exact⟨key _ _ (by omega) hf.1,key _ _ (by omega) hf.2.1,key _ _ (by omega) hf.2.2⟩
theorem zP(w:World)(cs:Array Value)(t:TypeId)(o:Nat):(w.alloc (.cells cs t)).cell? ⟨w.heap.size,o,none⟩=cs[o]? :=by
 simp only[World.cell?,BY];rfl
theorem tQ{base:Nat}{size:Nat}{n:Nat}(h:w.ownsRow base e size v n xs)(hk:∀g,g<w.heap.size->v.ownBlock=some g->w'.heap[g]?=w.heap[g]?):w'.ownsRow base e size v n xs:=by
 refine⟨h.1,?_⟩;rcases h.2 with h2|⟨g,cap,cur,hv,hg,hh,r⟩
 ·exact Or.inl h2
 ·exact Or.inr ⟨g,cap,cur,hv,hg,by rw[hk g (Array.getElem?_eq_some_iff.1 hh).1 (by rw[hv];rfl)];exact hh,r⟩
theorem ec{base:Nat}{size:Nat}{n:Nat}(h:w.ownsRow base e size v n xs)(hb:Below B w w')(hB:w.heap.size<=B):w'.ownsRow base e size v n xs:=
 tQ h λg hg _=>hb.block g (by omega)
theorem ej{base base':Nat}{size:Nat}{n:Nat}(h:w.ownsRow base e size v n xs)(hb:base'<=base):w.ownsRow base' e size v n xs:=by
 refine⟨h.1,?_⟩;rcases h.2 with h2|⟨g,cap,cur,hv,hg,r⟩
 ·exact Or.inl h2
 ·exact Or.inr ⟨g,cap,cur,hv,by omega,r⟩
theorem aa.vJ:(aa.prog.info? 144).map (λi=>(i.zero,i.size,i.bytes))=some (some (.agg #[.int .i64 0,.int .i64 0,.string ⟨#[]⟩]),3,32):=by kernel_rfl
theorem OA(l:List aj)(c:Ctx)(k:Nat)(h:k<l.length):aW (l.take (k+1)) c=aW (l.take k) c++(if gQ c l[k]=true then [] else [l[k]]):=by
 rw[Xq h];simp only[aW,List.filter_append];congr 1;cases hs:gQ c l[k]<;>simp[hs]
theorem pn(c:Ctx)(sv:Value)(l:List aj)(seen:Ctx)(w:World)(h:aC w sv l)(hr:∀v∈l,v.rep<4)(hlen:l.length<=100000):
  Calls aa.prog 63 #[.agg #[.int .i64 (c 0),.int .i64 (c 1),.int .i64 (c 2),.int .i64 (c 3),sv],c9 seen] w λe w'=>∃v',e=.returned v'/\w'.ownsRow w.heap.size 144 3 v' (aW l seen).length (aX (aW l seen))/\Below w.heap.size w w':=by
 obtain⟨ad,cap,hsv,hcap⟩: ∃ad cap,sv=.slice ad l.length cap/\(cap:Int)<=9223372036854775807:=by
  rcases h.2 with⟨h1,h2⟩|⟨g,cap,cur,hv,_,_,_,h3,_⟩
  ·exact⟨_,_,by rw[h1,h2],by simp⟩
  ·exact⟨_,_,hv,by unfold maxLen at h3;omega⟩
 subst hsv;have H:Hid _:=h;have HR:Hid _:=hr;clear h hr;go_enter aa.func63,aa.ntmps63;go_wp2;go_loopw [5,11] (λlf i wr=>∃k:Nat,k<=l.length/\i=.int .i64 k/\Hid (wr.ownsRow (w.heap.size+2) 144 3 lf (aW (l.take k) seen).length (aX (aW (l.take k) seen)))/\Hid (Below (w.heap.size+2) ((w.alloc (.cells #[.int .i64 (c 0),.int .i64 (c 1),.int .i64 (c 2),.int .i64 (c 3),.slice ad l.length cap] 106)).alloc (.cells #[.int .i64 (seen 0),.int .i64 (seen 1),.int .i64 (seen 2),.int .i64 (seen 3)] 102)) wr)) (λ_ i _=>l.length-(intOf i).toNat)
 case atStart=>exact⟨0,by omega,rfl,⟨by simp[aX,aW],Or.inl ⟨rfl,by simp[aW]⟩⟩,AT _ _⟩
 case round=>
  obtain⟨k,hk,rfl,aD,hbel⟩:=hrel;by_cases hlt:k<l.length
  ·obtain⟨g,cap',hsv',hg,_,_,c0,c1,c2⟩:=aC.cells H.out hlt;have hrk:Hid (l[k].rep<4):=HR.out _ (Xe hlt);have hsn:=OA l seen k hlt;have HS:Hid _:=hsn;clear hsn;generalize hrr:l[k].rep=r at*;generalize hnn:l[k].n=n at*;generalize hvv:l[k].val=s at*;have Hvk:Hid (l[k]=(r,n,s)):=by rw[<-hrr,<-hnn,<-hvv];rfl
   clear hrr hnn hvv;cases hsv';have hb:=hbel.out;have hsz:w.heap.size+2<=wr.heap.size:=by have:=hb.size;simp at this;omega
   have old:∀o,wr.cell? ⟨g,o,none⟩=w.cell? ⟨g,o,none⟩:=λo=>by
    rw[hb.cell (p:=⟨g,o,none⟩) (by simp;omega),World.cell?_alloc_lt _ _ _ (by simp;omega),World.cell?_alloc_lt _ _ _ (by simp;omega)]
   have d0:wr.cell? ⟨g,k*3,none⟩=some (.int .i64 r):=(old _).trans c0;have d1:wr.cell? ⟨g,k*3+1,none⟩=some (.int .i64 n):=(old _).trans c1;have d2:wr.cell? ⟨g,k*3+2,none⟩=some (.string s):=(old _).trans c2;have sbox:∀o,wr.cell? ⟨w.heap.size+1,o,none⟩=#[Value.int .i64 (seen 0),.int .i64 (seen 1),.int .i64 (seen 2),.int .i64 (seen 3)][o]? :=λo=>by
    rw[hb.cell (p:=⟨w.heap.size+1,o,none⟩) (by simp)];exact World.cell?_alloc_at _ _ _ _ (by simp)
   have s0:=sbox 0;have s1:=sbox 1;have s2:=sbox 2;have s3:=sbox 3;simp at s0 s1 s2 s3;have g63:(k:Int)<(l.length:Int):=by omega
   have k0:(0:Int)<=(k:Int):=by omega
   have Hc:Hid _:=And.intro c0 (And.intro c1 c2);clear c0 c1 c2 old sbox hb;have a0:∀ob,(wr.alloc ob).cell? ⟨w.heap.size+1,0,none⟩=some (.int .i64 (seen 0)):=λob=>by rw[World.cell?_alloc_lt _ _ _ (by simp;omega)];exact s0
   have a1:∀ob,(wr.alloc ob).cell? ⟨w.heap.size+1,1,none⟩=some (.int .i64 (seen 1)):=λob=>by rw[World.cell?_alloc_lt _ _ _ (by simp;omega)];exact s1
   have a2:∀ob,(wr.alloc ob).cell? ⟨w.heap.size+1,2,none⟩=some (.int .i64 (seen 2)):=λob=>by rw[World.cell?_alloc_lt _ _ _ (by simp;omega)];exact s2
   have a3:∀ob,(wr.alloc ob).cell? ⟨w.heap.size+1,3,none⟩=some (.int .i64 (seen 3)):=λob=>by rw[World.cell?_alloc_lt _ _ _ (by simp;omega)];exact s3
   clear s0 s1 s2 s3;have hrk':=hrk.out;have e1:∀w1,Below (wr.heap.size+1) (wr.alloc (.cells #[.int .i64 r,.int .i64 n,.string s] 144)) w1->Below (w.heap.size+2) ((w.alloc (.cells #[.int .i64 (c 0),.int .i64 (c 1),.int .i64 (c 2),.int .i64 (c 3),.slice (some ⟨g,0,none⟩) l.length cap] 106)).alloc (.cells #[.int .i64 (seen 0),.int .i64 (seen 1),.int .i64 (seen 2),.int .i64 (seen 3)] 102)) w1:=λw1 hw=>(hbel.out.alloc (by omega) _).trans (hw.mono (by omega));have E1:Hid _:=e1;clear e1;have E2:Hid (∀w1,Below (wr.heap.size+1) (wr.alloc (.cells #[.int .i64 r,.int .i64 n,.string s] 144)) w1->w1.ownsRow (w.heap.size+2) 144 3 u5 (aW (List.take k l) seen).length (aX (aW (List.take k l) seen))):=λw1 hw=>ec (ec aD.out ((AT wr.heap.size wr).alloc (iR _) _) (iR _)) hw (by simp);have eF:gQ seen l[k]=decide (n<=seen r):=by rw[Hvk.out];rfl
   have HQ:Hid _:=eF;clear eF;by_cases hseen:n<=seen r
   ·have HS':Hid (aW (List.take (k+1) l) seen=aW (List.take k l) seen):=by
     have:=HS.out;rw[HQ.out,AS (by simpa using hseen),Ya]at this;exact this
    clear HS;have hd:decide (n<=seen r)=true:=by simpa using hseen
    clear hseen;go_wp2_with (go_at_call 83;refine (tO seen r n _ hrk').mono ?_;rintro e w1 ⟨rfl,hb1⟩;simp at hb1)
    exact⟨⟨k+1,by omega,by go_num,by rw[HS'.out];exact E2.out _ hb1,E1.out _ hb1⟩,by simp[intOf];omega⟩
   ·have HS':Hid (aW (List.take (k+1) l) seen=aW (List.take k l) seen++ [(r,n,s)]):=by
     have:=HS.out;rw[HQ.out,AI (by simpa using hseen),Hvk.out]at this;exact this
    clear HS;obtain⟨i0,hi0,hz0,hz1,hz2⟩:=Xm aa.vJ;have hd:decide (n<=seen r)=false:=by simpa using hseen
    clear hseen;have hul:Hid ((aW (List.take k l) seen).length<=100000):=Xb (List.length_filter_le _ _) (by simp;omega);go_wp2_with (first
     |(go_at_call 83;refine (tO seen r n _ hrk').mono ?_;rintro e w1 ⟨rfl,hb1⟩;simp at hb1;have v0:w1.cell? ⟨wr.heap.size,0,none⟩=some (.int .i64 r):=(hb1.cell (p:=⟨wr.heap.size,0,none⟩) (by simp)).trans (zP _ _ _ _);have v1:w1.cell? ⟨wr.heap.size,1,none⟩=some (.int .i64 n):=(hb1.cell (p:=⟨wr.heap.size,1,none⟩) (by simp)).trans (zP _ _ _ _);have v2:w1.cell? ⟨wr.heap.size,2,none⟩=some (.string s):=(hb1.cell (p:=⟨wr.heap.size,2,none⟩) (by simp)).trans (zP _ _ _ _);have z1:w.heap.size+2<=w1.heap.size:=by (have:=hb1.size;simp at this;omega))
     |(at_builtin;refine YP _ rfl _ _ _ rfl (w.heap.size+2) 144 i0 _ 3 32 aa.underlying104 hi0 hz0 hz1 hz2 rfl (by omega) u5 _ _ rfl ((E2.out _ hb1).alloc _) ⟨w1.heap.size,0,none⟩ 1 1 [.int .i64 r,.int .i64 n,.string s] rfl rfl (Xr (cs:=#[.int .i64 r,.int .i64 n,.string s]) (t:=144) (fr:=(0,0)) (BY w1 _)) (by simp[Value.oneCell']) (by omega) (by have:=hul.out;unfold maxLen;omega) (by have:=hul.out;omega) (by simp;omega) (w1.heap.size+1) (by simp) ?_;intro gg capn w2 hown2 hgrow hat hlt2))
    refine⟨⟨k+1,by omega,by go_num,?_,?_⟩,by simp[intOf];omega⟩
    ·rw[HS'.out,rL,Xk];exact hown2
    ·have hB:=(E1.out _ hb1).alloc (by omega) (.cells #[.int .i64 r,.int .i64 n,.string s] 144);refine hB.grown hgrow (by simp;omega) λq hq=>?_;rcases aD.out.2 with⟨h1,_⟩|⟨g1,cap1,cur1,hv1,hg1,_⟩
     ·rw[h1]at hq;cases hq
     ·rw[hv1]at hq;simp[Value.ownBlock]at hq;omega
  ·have hkl:k=l.length:=by omega
   have HK:Hid (List.take k l=l):=YA (by omega);have HO:Hid _:=aD.out;clear aD;go_wp2;go_ret;refine⟨_,rfl,?_,?_⟩
   ·have:=HO.out;rw[HK.out]at this;exact ej this (by omega)
   ·exact ((((AT _ _).alloc (iR _) _).alloc (by simp) _).trans (hbel.out.mono (by omega)))
end Go.Proofs.YtldmcdeibiclkaaGreatDoorQ
