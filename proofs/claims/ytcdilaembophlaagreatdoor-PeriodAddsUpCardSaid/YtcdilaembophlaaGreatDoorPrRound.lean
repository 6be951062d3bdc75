/-
  A bridge: the rounding's texts stand on the calendar's tape. No condition of its own.
-/
import Derived.Test.YtcdilaembophlaaGreatDoorPrTp
import Derived.Test.YtcdilaembophlaaGreatDoorShelf
import Derived.WalkSmall
namespace Go.Proofs.YtcdilaembophlaaGreatDoor
open Go Go.RowKit Go.Lib
theorem cmp3 (x y : Int) : (x < y ∧ Lib.compareInt x y = -1) ∨ (x = y ∧ Lib.compareInt x y = 0) ∨ (y < x ∧ Lib.compareInt x y = 1) := by
  unfold Lib.compareInt
  rcases Int.lt_trichotomy x y with h | h | h
  · exact .inl ⟨h, by rw [if_pos h]⟩
  · exact .inr (.inl ⟨h, by rw [if_neg (by omega), if_neg (by omega)]⟩)
  · exact .inr (.inr ⟨h, by rw [if_neg (by omega), if_pos h]⟩)
/-- What within answers. -/
def witB (n lo hi : Int) : Bool := decide (lo ≤ n) && decide (n ≤ hi)
theorem wit_yes {n lo hi : Int} (h0 : lo ≤ n) (h1 : n ≤ hi) : witB n lo hi = true := by unfold witB; rw [decide_eq_true h0, decide_eq_true h1]; rfl
theorem wit_no {n lo hi : Int} (h : ¬ (lo ≤ n ∧ n ≤ hi)) : witB n lo hi = false := by unfold witB; simp; omega
set_option maxHeartbeats 1000000 in
theorem wit_any (n lo hi : Int) (w : World) : Calls Tryz.prog 58 #[.int .i64 n, .int .i64 lo, .int .i64 hi] w fun e w' => e = .returned (.bool (witB n lo hi)) ∧ w = w' := by
  by_cases h0 : lo ≤ n
  · have H : Hid (witB n lo hi = decide (n ≤ hi)) := Lib.hid (by unfold witB; rw [decide_eq_true h0]; rfl)
    go_enter Tryz.func58, Tryz.ntmps58
    go_wp2
    go_ret
    exact ⟨by rw [H.out]; rfl, rfl⟩
  · have H : Hid (witB n lo hi = false) := Lib.hid (wit_no (by omega))
    have h1 : decide (lo ≤ n) = false := decide_eq_false h0
    go_enter Tryz.func58, Tryz.ntmps58
    go_wp2
    go_ret
    exact ⟨by rw [H.out]; rfl, rfl⟩
theorem wit_of {n lo hi : Int} (h : witB n lo hi = true) : lo ≤ n ∧ n ≤ hi := by unfold witB at h; simpa using h
theorem wit_not {n lo hi : Int} (h : witB n lo hi = false) : n < lo ∨ (lo ≤ n ∧ hi < n) := by unfold witB at h; simp at h; omega
end Go.Proofs.YtcdilaembophlaaGreatDoor
