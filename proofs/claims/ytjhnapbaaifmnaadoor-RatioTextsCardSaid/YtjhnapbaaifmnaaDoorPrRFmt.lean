/-
  Layer 1 (ratio): the contract of the reference's Format. Condition: the fraction's parts are ints.
-/
import Derived.Test.YtjhnapbaaifmnaaDoorPrDec
namespace Go.Proofs.YtjhnapbaaifmnaaDoor
open Go Go.RowKit Go.Lib

set_option maxRecDepth 100000 in
set_option maxHeartbeats 2000000 in
theorem rfmt_any (a b : Int) (ha0 : -9223372036854775808 ≤ a) (ha1 : a ≤ 9223372036854775807) (hb0 : -9223372036854775808 ≤ b) (hb1 : b ≤ 9223372036854775807) (w : World) :
    Calls Tryd.prog 18 #[.agg #[.int .i64 a, .int .i64 b]] w fun e w' => e = .returned (.string ⟨(fmtL a b).toArray⟩) ∧ Below w.heap.size w w' := by
  cases hv : vldB a b
  · have H := Lib.hid (show fmtL a b = [] by unfold fmtL; rw [hv]; rfl)
    go_enter Tryd.func18, Tryd.ntmps18
    go_wp2_with fail
    refine (rvalid_any _ _ (by omega) (by omega) (by omega) (by omega) _).mono ?_
    rintro e w1 ⟨rfl, hw1⟩
    have hB1 : Below w.heap.size w w1 := (Below.alloc (Below.refl _ _) (by simp) _).trans (hw1.mono (by simp <;> omega))
    go_wp2_with fail
    go_ret
    exact ⟨by rw [H.out]; rfl, hB1⟩
  · obtain ⟨p7, p8, p9, p10⟩ := vld_bd hv
    by_cases h1 : b = 1
    · subst h1
      have H := Lib.hid (show fmtL a 1 = Lib.itoa a by unfold fmtL; rw [hv]; rfl)
      go_enter Tryd.func18, Tryd.ntmps18
      go_wp2_with fail
      refine (rvalid_any _ _ (by omega) (by omega) (by omega) (by omega) _).mono ?_
      rintro e w1 ⟨rfl, hw1⟩
      obtain ⟨hcw1, hfw1⟩ := bcell hw1
      have hB1 : Below w.heap.size w w1 := (Below.alloc (Below.refl _ _) (by simp) _).trans (hw1.mono (by simp <;> omega))
      go_wp2_with fail
      refine (dec_any _ (by omega) (by omega) _).mono ?_
      rintro e w2 ⟨rfl, hw2⟩
      have hB2 : Below w.heap.size w w2 := hB1.trans (hw2.mono hB1.size)
      go_wp2_with fail
      go_ret
      exact ⟨by rw [H.out]; rfl, hB2⟩
    · have hb1' : (b == 1) = false := by simp; omega
      have H := Lib.hid (show fmtL a b = Lib.itoa a ++ [47] ++ Lib.itoa b by unfold fmtL; rw [hv, if_neg h1]; rfl)
      clear h1
      go_enter Tryd.func18, Tryd.ntmps18
      go_wp2_with fail
      refine (rvalid_any _ _ (by omega) (by omega) (by omega) (by omega) _).mono ?_
      rintro e w1 ⟨rfl, hw1⟩
      obtain ⟨hcw1, hfw1⟩ := bcell hw1
      have hB1 : Below w.heap.size w w1 := (Below.alloc (Below.refl _ _) (by simp) _).trans (hw1.mono (by simp <;> omega))
      go_wp2_with fail
      have x1 : w1.cell? ⟨w.heap.size, 0, none⟩ = some (.int .i64 a) := (hcw1 _ _ (by simp <;> omega)).trans (by go_simp)
      have x2 : w1.cell? ⟨w.heap.size, 1, none⟩ = some (.int .i64 b) := (hcw1 _ _ (by simp <;> omega)).trans (by go_simp)
      have hz : w.heap.size < w1.heap.size := by have := hw1.size; simp at this; omega
      have l1 := Lib.itoa_length_le a (by omega) (by omega)
      have l2 := Lib.itoa_length_le b (by omega) (by omega)
      have k1 : ¬ 9223372036854775807 < (Lib.itoa a).length + 1 := by omega
      have k2 : ¬ 9223372036854775807 < (Lib.itoa a).length + 1 + (Lib.itoa b).length := by omega
      clear hcw1 hfw1
      go_region_held3 (fun w' => w'.cell? ⟨w.heap.size, 0, none⟩ = some (.int .i64 a) ∧ w'.cell? ⟨w.heap.size, 1, none⟩ = some (.int .i64 b) ∧ Below w.heap.size w w') (first | exact ⟨x1, x2, Below.drew hB1⟩ | exact ⟨y1, y2, y4⟩)
        (first | (go_at_call 44; go_split_ands; refine (dec_any _ ?_ ?_ _).mono ?_; (omega); (omega); rintro e w3 ⟨rfl, hw3⟩; (have y1 := cell_below (v := .int .i64 a) (p := ⟨w.heap.size, 0, none⟩) (by assumption) hw3); (have y2 := cell_below (v := .int .i64 b) (p := ⟨w.heap.size, 1, none⟩) (by assumption) hw3); (have y4 : Below w.heap.size w w3 := Below.trans (by assumption) (hw3.mono (Below.size (by assumption))))))
      go_split_ands
      go_wp2
      go_ret
      exact ⟨by rw [H.out, bapp, bapp]; rfl, by assumption⟩
end Go.Proofs.YtjhnapbaaifmnaaDoor
