/-
  What every row of the calendar's statements needs: what the listed variables give, and that the door's own heap meets their condition. No condition of its own.
-/
import Derived.Test.YtfoocingingpcaaDoorPrCz
import Derived.Lib.LaidTab
import Derived.Test.YtfoocingingpcaaDoorCards
import Derived.Test.YtfoocingingpcaaDoorTie
import Derived.SevenTiedAt
import Derived.OpenShut
import Derived.ShutString
import Derived.ChangeOld
import Derived.LaidMore
import Derived.SizedLaws
import Derived.Lib.SmallJoins
namespace Go.Proofs.YtfoocingingpcaaDoor
open Go Go.RowKit Go.Lib

theorem own : ownKnob Tryd.prog.godebug = none := by kernel_rfl
theorem laidOut : laidOutB Tryd.prog = true := by kernel_rfl

theorem gPow : Tryd.prog.globalNamed "internal/strconv.uint64pow10" = some 3 := by kernel_rfl
theorem gLg : Tryd.prog.globalNamed "payroll/calendar.longest" = some 0 := by kernel_rfl
theorem tPow : (Tryd.prog.globals[3]?).map (·.type) = some 120 := by kernel_rfl
theorem tLg : (Tryd.prog.globals[0]?).map (·.type) = some 65 := by kernel_rfl
def lgTab : List Int := [31, 29, 31, 30, 31, 30, 31, 31, 30, 31, 30, 31]
theorem lgIs_of_tab {w : World} (h : Lib.TabIs Tryd.prog w "payroll/calendar.longest" .i64 lgTab) : LgIs w := by
  intro i hi
  have h' : w.var? Tryd.prog "payroll/calendar.longest" = some (lgTab.map fun z => Value.int .i64 z).toArray := h
  rw [World.var?_cell gLg h' i]
  have a : ∀ i : Nat, i < 12 → (lgTab.map fun z => Value.int .i64 z).toArray[i]? = some (.int .i64 (lgT i)) := by
    intro i hi
    rcases (by omega : i = 0 ∨ i = 1 ∨ i = 2 ∨ i = 3 ∨ i = 4 ∨ i = 5 ∨ i = 6 ∨ i = 7 ∨ i = 8 ∨ i = 9 ∨ i = 10 ∨ i = 11) with rfl | rfl | rfl | rfl | rfl | rfl | rfl | rfl | rfl | rfl | rfl | rfl <;> rfl
  exact a i hi
theorem i64_wf {a : Int} (h : (Lit.int .i64 a).wf = true) : -9223372036854775808 ≤ a ∧ a ≤ 9223372036854775807 := by
  simp [Lit.wf, IntKind.min, IntKind.max, IntKind.signed, IntKind.bits] at h; omega

/-- The door's own heap meets the condition. -/
theorem door_met (os : Os) (args : Array Value) : laidMetH Tryd.prog [("math/bits.deBruijn32tab", Rows.laid_math_bits_deBruijn32tab), ("math/bits.deBruijn64tab", Rows.laid_math_bits_deBruijn64tab), ("internal/strconv.uint64pow10", Rows.laid_internal_strconv_uint64pow10), ("payroll/calendar.longest", Rows.laid_payroll_calendar_longest)] ((World.doorLaid Tryd.prog 400 os).forCall (fun _ _ => 0) ⟨#[], args, []⟩).memory :=
  laidMetH_of_parts3 (fuel := 8) (laidMet_of_run' 8 (by kernel_rfl) (by kernel_rfl)) (by kernel_rfl) (by kernel_rfl)
theorem okc_of_laid {W : World} (h : laidMetH Tryd.prog [("math/bits.deBruijn32tab", Rows.laid_math_bits_deBruijn32tab), ("math/bits.deBruijn64tab", Rows.laid_math_bits_deBruijn64tab), ("internal/strconv.uint64pow10", Rows.laid_internal_strconv_uint64pow10), ("payroll/calendar.longest", Rows.laid_payroll_calendar_longest)] W) : OKC W := by
  rw [MakeChecks.laidMetH_plain _ _ _ (by kernel_rfl)] at h
  obtain ⟨ps, ⟨g0, t0, cs0, f0, p0, q0, hg0, ht0, hv0, hd0, ⟨g1, t1, cs1, f1, p1, q1, hg1, ht1, hv1, hd1, ⟨g2, t2, cs2, f2, p2, q2, hg2, ht2, hv2, hd2, ⟨g3, t3, cs3, f3, p3, q3, hg3, ht3, hv3, hd3, _, _⟩, _⟩, _⟩, _⟩, _, _⟩ := h
  obtain rfl := Option.some.inj (gPow.symm.trans hg2)
  obtain rfl := Option.some.inj (tPow.symm.trans ht2)
  obtain rfl := Option.some.inj (gLg.symm.trans hg3)
  obtain rfl := Option.some.inj (tLg.symm.trans ht3)
  refine ⟨?_, lgIs_of_tab ?_⟩
  · unfold Lib.TabIs
    rw [hv2, ← Lib.cells_of_tab (zs := Lib.pow10Tab) Tryd.underlying120 Tryd.underlying97 (by kernel_rfl) (by kernel_rfl) hd2]
  · unfold Lib.TabIs
    rw [hv3, ← Lib.cells_of_tab (zs := lgTab) Tryd.underlying65 Tryd.underlying3 (by kernel_rfl) (by kernel_rfl) hd3]
end Go.Proofs.YtfoocingingpcaaDoor
