/-
  Layer 1 (ratio): contracts of Add, Sub, Div, Neg, Compare and Floor, and of the reference's. Conditions: the parts of the fractions fit their kinds.
-/
import Derived.Test.YtcdilaembophlaaGreatDoorPrVal
namespace Go.Proofs.YtcdilaembophlaaGreatDoor
open Go Go.RowKit Go.Lib

/-- What the operations compute. -/
def addT (a b c d : Int) : Int × Int × Int := if vldB a b && vldB c d then newT (a * d + c * b) (b * d) else (0, 0, 1)
def subT (a b c d : Int) : Int × Int × Int := if vldB a b && vldB c d then newT (a * d - c * b) (b * d) else (0, 0, 1)
def divT (a b c d : Int) : Int × Int × Int := if vldB a b && vldB c d then newT (a * d) (b * c) else (0, 0, 1)
def negT (a b : Int) : Int × Int × Int := if vldB a b then (-a, b, 0) else (0, 0, 1)
def cmpT (a b c d : Int) : Int := if vldB a b && vldB c d then (if a * d < c * b then -1 else if c * b < a * d then 1 else 0) else 0
def floorT (a b : Int) : Int := if vldB a b then a / b else 0

theorem two_cases (x y : Bool) : (x = false) ∨ (x = true ∧ y = false) ∨ (x = true ∧ y = true) := by cases x <;> cases y <;> simp
theorem boxed3 (w : World) (a b c : Obj) : Below w.heap.size w (((w.alloc a).alloc b).alloc c) :=
  Below.alloc (Below.alloc (Below.alloc (Below.refl _ _) (by simp) _) (by simp <;> omega) _) (by simp <;> omega) _
theorem boxed2 (w : World) (a b : Obj) : Below w.heap.size w ((w.alloc a).alloc b) :=
  Below.alloc (Below.alloc (Below.refl _ _) (by simp) _) (by simp <;> omega) _
theorem boxed1 (w : World) (a : Obj) : Below w.heap.size w (w.alloc a) := Below.alloc (Below.refl _ _) (by simp) _

set_option maxHeartbeats 2000000 in
theorem radd_any (a b c d : Int) (ha0 : -9223372036854775808 ≤ a) (ha1 : a ≤ 9223372036854775807) (hb0 : -9223372036854775808 ≤ b) (hb1 : b ≤ 9223372036854775807) (hc0 : -9223372036854775808 ≤ c) (hc1 : c ≤ 9223372036854775807) (hd0 : -9223372036854775808 ≤ d) (hd1 : d ≤ 9223372036854775807) (w : World) :
    Calls Tryz.prog 20 #[.agg #[.int .i64 a, .int .i64 b], .agg #[.int .i64 c, .int .i64 d]] w fun e w' => e = .returned (.tuple #[.agg #[.int .i64 (addT a b c d).1, .int .i64 (addT a b c d).2.1], .int .i64 (addT a b c d).2.2]) ∧ Below w.heap.size w w' := by
  rcases two_cases (vldB a b) (vldB c d) with hv | ⟨hv, hk⟩ | ⟨hv, hk⟩
  · have H := Lib.hid (show addT a b c d = (0, 0, 1) by unfold addT; rw [hv]; rfl)
    go_enter Tryz.func20, Tryz.ntmps20
    go_wp2_with fail
    refine (rvalid_any _ _ (by omega) (by omega) (by omega) (by omega) _).mono ?_
    rintro e w1 ⟨rfl, hw1⟩
    obtain ⟨hcw1, hfw1⟩ := bcell hw1
    have hB1 : Below w.heap.size w w1 := (boxed3 _ _ _ _).trans (hw1.mono (by simp <;> omega))
    have hz1 : w.heap.size + 2 < w1.heap.size := by have := hw1.size; simp at this; omega
    go_wp2_with fail
    refine bodyPost_ret (v := retT (addT a b c d)) (by rw [H.out]; simp [results, Tryz.results20, go_sem, hcw1, retT]) rfl ⟨rfl, ?_⟩
    repeat (first | exact Below.refl _ _ | assumption | refine below_drewN ?_ _ | refine Below.setCell ?_ (by simp <;> omega) _ | refine Below.alloc ?_ (by simp <;> omega) _)
  · have H := Lib.hid (show addT a b c d = (0, 0, 1) by unfold addT; rw [hv, hk]; rfl)
    go_enter Tryz.func20, Tryz.ntmps20
    go_wp2_with fail
    refine (rvalid_any _ _ (by omega) (by omega) (by omega) (by omega) _).mono ?_
    rintro e w1 ⟨rfl, hw1⟩
    obtain ⟨hcw1, hfw1⟩ := bcell hw1
    have hB1 : Below w.heap.size w w1 := (boxed3 _ _ _ _).trans (hw1.mono (by simp <;> omega))
    have hz1 : w.heap.size + 2 < w1.heap.size := by have := hw1.size; simp at this; omega
    go_wp2_with fail
    refine (rvalid_any _ _ (by omega) (by omega) (by omega) (by omega) _).mono ?_
    rintro e w2 ⟨rfl, hw2⟩
    have hv2 := hw1.trans (hw2.mono hw1.size)
    obtain ⟨hcw2, hfw2⟩ := bcell hv2
    have hB2 : Below w.heap.size w w2 := hB1.trans (hw2.mono (by omega))
    have hz2 : w.heap.size + 2 < w2.heap.size := by have := hw2.size; omega
    clear hcw1 hfw1
    go_wp2_with fail
    refine bodyPost_ret (v := retT (addT a b c d)) (by rw [H.out]; simp [results, Tryz.results20, go_sem, hcw2, retT]) rfl ⟨rfl, ?_⟩
    repeat (first | exact Below.refl _ _ | assumption | refine below_drewN ?_ _ | refine Below.setCell ?_ (by simp <;> omega) _ | refine Below.alloc ?_ (by simp <;> omega) _)
  · have H := Lib.hid (show addT a b c d = newT (a * d + c * b) (b * d) by unfold addT; rw [hv, hk]; rfl)
    obtain ⟨p1, p2⟩ := cross_bd hv hk
    obtain ⟨p3, p4⟩ := cross_bd hk hv
    obtain ⟨p5, p6⟩ := den_bd hv hk
    obtain ⟨p7, p8, p9, p10⟩ := vld_bd hv
    obtain ⟨q7, q8, q9, q10⟩ := vld_bd hk
    go_enter Tryz.func20, Tryz.ntmps20
    go_wp2_with fail
    refine (rvalid_any _ _ (by omega) (by omega) (by omega) (by omega) _).mono ?_
    rintro e w1 ⟨rfl, hw1⟩
    obtain ⟨hcw1, hfw1⟩ := bcell hw1
    have hB1 : Below w.heap.size w w1 := (boxed3 _ _ _ _).trans (hw1.mono (by simp <;> omega))
    have hz1 : w.heap.size + 2 < w1.heap.size := by have := hw1.size; simp at this; omega
    go_wp2_with fail
    refine (rvalid_any _ _ (by omega) (by omega) (by omega) (by omega) _).mono ?_
    rintro e w2 ⟨rfl, hw2⟩
    have hv2 := hw1.trans (hw2.mono hw1.size)
    obtain ⟨hcw2, hfw2⟩ := bcell hv2
    have hB2 : Below w.heap.size w w2 := hB1.trans (hw2.mono (by omega))
    have hz2 : w.heap.size + 2 < w2.heap.size := by have := hw2.size; omega
    clear hcw1 hfw1
    go_wp2_with fail
    refine (rnew_any _ _ (by omega) (by omega) (by omega) (by omega) _).mono ?_
    rintro e w3 ⟨rfl, hw3⟩
    have hv3 := hv2.trans (hw3.mono hv2.size)
    obtain ⟨hcw3, hfw3⟩ := bcell hv3
    clear hcw2 hfw2
    have hB3 : Below w.heap.size w w3 := hB2.trans (hw3.mono (by omega))
    go_wp2_with fail
    refine bodyPost_ret (v := retT (addT a b c d)) (by rw [H.out]; simp [results, Tryz.results20, go_sem, hcw3, retT]) rfl ⟨rfl, ?_⟩
    repeat (first | exact Below.refl _ _ | assumption | refine below_drewN ?_ _ | refine Below.setCell ?_ (by simp <;> omega) _ | refine Below.alloc ?_ (by simp <;> omega) _)

theorem den_num {a b c d : Int} (h : vldB a b = true) (k : vldB c d = true) : -1000000000000000000 ≤ b * c ∧ b * c ≤ 1000000000000000000 := by
  have := cross_bd k h
  rw [Int.mul_comm c b] at this; exact this

end Go.Proofs.YtcdilaembophlaaGreatDoor
