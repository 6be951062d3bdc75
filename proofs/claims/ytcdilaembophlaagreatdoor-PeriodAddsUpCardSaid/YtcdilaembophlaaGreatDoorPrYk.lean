/-
  What every card of the statements about periods needs: what the listed variable gives, and that the door's own heap meets its condition. No condition of its own.
-/
import Derived.Test.YtcdilaembophlaaGreatDoorPrYa
import Derived.Lib.LaidTab
import Derived.Test.YtcdilaembophlaaGreatDoorCards
import Derived.Test.YtcdilaembophlaaGreatDoorTie
import Derived.SevenTiedAt
import Derived.OpenShut
import Derived.ShutString
import Derived.ChangeOld
import Derived.LaidMore
import Derived.SizedLaws
import Derived.Lib.SmallJoins
namespace Go.Proofs.YtcdilaembophlaaGreatDoor
open Go Go.RowKit Go.Lib
theorem Per.RetV.out {P : Program} {f : FuncId} {args : Array Value} {v : Value} {w : World} (h : Calls P f args w (Per.RetV v w)) : Calls P f args w fun e w' => e = .returned v ∧ Below w.heap.size w w' := h

theorem own : ownKnob Tryz.prog.godebug = none := by kernel_rfl
theorem laidOut : laidOutB Tryz.prog = true := by kernel_rfl

theorem gLg : Tryz.prog.globalNamed "payroll/calendar.longest" = some 0 := by kernel_rfl
theorem tLg : (Tryz.prog.globals[0]?).map (·.type) = some 89 := by kernel_rfl
def lgTab : List Int := [31, 29, 31, 30, 31, 30, 31, 31, 30, 31, 30, 31]
theorem lgIs_of_tab {w : World} (h : Lib.TabIs Tryz.prog w "payroll/calendar.longest" .i64 lgTab) : LgIs w := by
  intro i hi
  have h' : w.var? Tryz.prog "payroll/calendar.longest" = some (lgTab.map fun z => Value.int .i64 z).toArray := h
  rw [World.var?_cell gLg h' i]
  have a : ∀ i : Nat, i < 12 → (lgTab.map fun z => Value.int .i64 z).toArray[i]? = some (.int .i64 (lgT i)) := by
    intro i hi
    rcases (by omega : i = 0 ∨ i = 1 ∨ i = 2 ∨ i = 3 ∨ i = 4 ∨ i = 5 ∨ i = 6 ∨ i = 7 ∨ i = 8 ∨ i = 9 ∨ i = 10 ∨ i = 11) with rfl | rfl | rfl | rfl | rfl | rfl | rfl | rfl | rfl | rfl | rfl | rfl <;> rfl
  exact a i hi
theorem i64_wf {a : Int} (h : (Lit.int .i64 a).wf = true) : -9223372036854775808 ≤ a ∧ a ≤ 9223372036854775807 := by
  simp [Lit.wf, IntKind.min, IntKind.max, IntKind.signed, IntKind.bits] at h; omega

theorem cells_ratio : Tryz.prog.cellsOf 27 = 2 := by kernel_rfl
/-- The door's own heap meets the condition. -/
theorem door_met1 (os : Os) (args : Array Value) : laidMetH Tryz.prog [("payroll/calendar.longest", Rows.laid_payroll_calendar_longest)] ((World.doorLaid Tryz.prog 400 os).forCall (fun _ _ => 0) ⟨#[], args, []⟩).memory :=
  laidMetH_of_parts3 (fuel := 8) (laidMet_of_run' 8 (by kernel_rfl) (by kernel_rfl)) (by kernel_rfl) (by kernel_rfl)
theorem lg_of_laid {W : World} (h : laidMetH Tryz.prog [("payroll/calendar.longest", Rows.laid_payroll_calendar_longest)] W) : LgIs W := by
  rw [MakeChecks.laidMetH_plain _ _ _ (by kernel_rfl)] at h
  obtain ⟨ps, ⟨g0, t0, cs0, f0, p0, q0, hg0, ht0, hv0, hd0, _, _⟩, _, _⟩ := h
  obtain rfl := Option.some.inj (gLg.symm.trans hg0)
  obtain rfl := Option.some.inj (tLg.symm.trans ht0)
  refine lgIs_of_tab ?_
  unfold Lib.TabIs
  rw [hv0, ← Lib.cells_of_tab (zs := lgTab) Tryz.underlying89 Tryz.underlying3 (by kernel_rfl) (by kernel_rfl) hd0]
end Go.Proofs.YtcdilaembophlaaGreatDoor
