/-
  Layer 1 (ratio): the sanity check of the statements answers true. Condition: the listed variables read as laid.
-/
import Derived.Test.YtjhnapbaaifmnaaDoorPrPars2
import Derived.Test.YtjhnapbaaifmnaaDoorPrAs
namespace Go.Proofs.YtjhnapbaaifmnaaDoor
open Go Go.RowKit Go.Lib

theorem sane_new1 : newT 6 (-4) = (-3, 2, 0) := by decide +kernel
theorem sane_new2 : newT 1 1000003 = (0, 0, 4) := by decide +kernel
theorem sane_fmt : fmtL (-3) 2 = [45, 51, 47, 50] := by
  have h1 : vldB (-3) 2 = true := by decide +kernel
  have h2 : Lib.itoa (-3) = [45, 51] := by
    show 45 :: Lib.decDigits 3 = _
    rw [Lib.decDigits_one (by omega)]; rfl
  have h3 : Lib.itoa 2 = [50] := by
    show Lib.decDigits 2 = _
    rw [Lib.decDigits_one (by omega)]; rfl
  unfold fmtL
  rw [h1, h2, h3]; rfl
theorem sane_pars : parsT ⟨#[45, 51, 47, 50]⟩ = (-3, 2, true) := by
  refine parsT_yes _ (-3) 2 (by decide +kernel) ?_
  rw [sane_fmt]
  decide +kernel
theorem sane_floor : floorT (-3) 2 = -2 := by decide +kernel
theorem sane_vld : vldB (-3) 2 = true := by decide +kernel

set_option maxRecDepth 100000 in
set_option maxHeartbeats 4000000 in
theorem sane_any (w : World) (hok : OKW w) : Calls Tryd.prog 12 #[] w fun e w' => e = .returned (.bool true) ∧ Below w.heap.size w w' := by
  go_enter Tryd.func12, Tryd.ntmps12
  go_wp2_with fail
  refine (new_any 6 (-4) (by omega) (by omega) (by omega) (by omega) _).mono ?_
  rw [sane_new1]
  rintro e w1 ⟨rfl, hw1⟩
  go_wp2_with fail
  refine (new_any 1 1000003 (by omega) (by omega) (by omega) (by omega) _).mono ?_
  rw [sane_new2]
  rintro e w2 ⟨rfl, hw2⟩
  have y210 : w2.cell? ⟨w1.heap.size, 0, none⟩ = some (.int .i64 (-3)) := cell_below (by go_simp) hw2
  have y211 : w2.cell? ⟨w1.heap.size, 1, none⟩ = some (.int .i64 (2)) := cell_below (by go_simp) hw2
  have z2 : w1.heap.size < w2.heap.size := by have := hw2.size; (try simp at this); omega
  have hB2 : Below w.heap.size w w2 := Below.trans (b := _) (Below.alloc hw1 hw1.size _) (hw2.mono (by have := hw1.size; (try simp); omega))
  go_wp2_with fail
  refine (pars_any ⟨#[45, 51, 47, 50]⟩ (by decide) _ (hok.below (Below.alloc hB2 hB2.size _))).mono ?_
  rw [sane_pars]
  rintro e w3 ⟨rfl, hw3⟩
  have y310 : w3.cell? ⟨w1.heap.size, 0, none⟩ = some (.int .i64 (-3)) := cell_below (by go_simp) hw3
  have y311 : w3.cell? ⟨w1.heap.size, 1, none⟩ = some (.int .i64 (2)) := cell_below (by go_simp) hw3
  have z3 : w1.heap.size < w3.heap.size := by have := hw3.size; (try simp at this); omega
  have hB3 : Below w.heap.size w w3 := Below.trans (b := _) (Below.alloc hB2 hB2.size _) (hw3.mono (by have := hB2.size; (try simp); omega))
  clear y210 y211
  go_wp2_with fail
  refine (floor_any (-3) 2 (by omega) (by omega) (by omega) (by omega) _).mono ?_
  rw [sane_floor]
  rintro e w4 ⟨rfl, hw4⟩
  have y410 : w4.cell? ⟨w1.heap.size, 0, none⟩ = some (.int .i64 (-3)) := cell_below (by go_simp) hw4
  have y411 : w4.cell? ⟨w1.heap.size, 1, none⟩ = some (.int .i64 (2)) := cell_below (by go_simp) hw4
  have y430 : w4.cell? ⟨w3.heap.size, 0, none⟩ = some (.int .i64 (-3)) := cell_below (by go_simp) hw4
  have y431 : w4.cell? ⟨w3.heap.size, 1, none⟩ = some (.int .i64 (2)) := cell_below (by go_simp) hw4
  have hB4 : Below w.heap.size w w4 := Below.trans (b := _) (Below.alloc hB3 hB3.size _) (hw4.mono (by have := hB3.size; (try simp); omega))
  clear y310 y311
  go_wp2_with fail
  refine (fmt_any (-3) 2 (by omega) (by omega) (by omega) (by omega) _ (hok.below hB4)).mono ?_
  rw [sane_fmt]
  rintro e w5 ⟨rfl, hw5⟩
  have y510 : w5.cell? ⟨w1.heap.size, 0, none⟩ = some (.int .i64 (-3)) := cell_below (by go_simp) hw5
  have y511 : w5.cell? ⟨w1.heap.size, 1, none⟩ = some (.int .i64 (2)) := cell_below (by go_simp) hw5
  have hB5 : Below w.heap.size w w5 := hB4.trans (hw5.mono hB4.size)
  clear y410 y411 y430 y431
  go_wp2_with fail
  refine (valid_any (-3) 2 (by omega) (by omega) (by omega) (by omega) _).mono ?_
  rw [sane_vld]
  rintro e w6 ⟨rfl, hw6⟩
  have hB6 : Below w.heap.size w w6 := hB5.trans (hw6.mono hB5.size)
  go_wp2_with fail
  go_ret
  exact ⟨rfl, hB6⟩
end Go.Proofs.YtjhnapbaaifmnaaDoor
