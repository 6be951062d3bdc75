/-
  Layer 1 (ratio): contracts of Valid and of the reference's Valid. Conditions: the fraction's parts fit their kinds.
-/
import Derived.Test.YtcdilaembophlaaGreatDoorPrNew
namespace Go.Proofs.YtcdilaembophlaaGreatDoor
open Go Go.RowKit Go.Lib

/-- What Valid computes. -/
def vldB (n d : Int) : Bool := decide (1 ≤ d ∧ d ≤ 1000000 ∧ -1000000000000 ≤ n ∧ n ≤ 1000000000000) && (Nat.gcd n.natAbs d.natAbs == 1)
theorem vldB_out (n d : Int) (h : ¬ (1 ≤ d ∧ d ≤ 1000000 ∧ -1000000000000 ≤ n ∧ n ≤ 1000000000000)) : vldB n d = false := by unfold vldB; rw [decide_eq_false h]; rfl
theorem vldB_in (n d : Int) (h : 1 ≤ d ∧ d ≤ 1000000 ∧ -1000000000000 ≤ n ∧ n ≤ 1000000000000) : vldB n d = (((Nat.gcd n.natAbs d.natAbs : Nat) : Int) == 1) := by
  unfold vldB; rw [decide_eq_true h, Bool.true_and, Bool.eq_iff_iff]; simp; omega

set_option maxHeartbeats 1000000 in
theorem rvalid_any (n d : Int) (hn0 : -9223372036854775808 ≤ n) (hn1 : n ≤ 9223372036854775807) (hd0 : -9223372036854775808 ≤ d) (hd1 : d ≤ 9223372036854775807) (w : World) :
    Calls Tryz.prog 40 #[.agg #[.int .i64 n, .int .i64 d]] w fun e w' => e = .returned (.bool (vldB n d)) ∧ Below w.heap.size w w' := by
  have hc : (1 ≤ d ∧ d ≤ 1000000 ∧ -1000000000000 ≤ n ∧ n ≤ 1000000000000) ∨ d < 1 ∨ (1 ≤ d ∧ 1000000 < d) ∨ (1 ≤ d ∧ d ≤ 1000000 ∧ n < -1000000000000) ∨ (1 ≤ d ∧ d ≤ 1000000 ∧ -1000000000000 ≤ n ∧ 1000000000000 < n) := by omega
  rcases hc with ⟨h1, h2, h3, h4⟩ | h1 | ⟨h1, h2⟩ | ⟨h1, h2, h3⟩ | ⟨h1, h2, h3, h4⟩
  · have H := Lib.hid (vldB_in n d ⟨h1, h2, h3, h4⟩)
    have g1 : decide (1 ≤ d) = true := decide_eq_true h1
    have g2 : decide (d ≤ 1000000) = true := decide_eq_true h2
    have g3 : decide (-1000000000000 ≤ n) = true := decide_eq_true h3
    have g4 : decide (n ≤ 1000000000000) = true := decide_eq_true h4
    go_enter Tryz.func40, Tryz.ntmps40
    go_wp2
    go_quiet (first | (go_at_call 61; exact quiet_left (size_any _ (by omega) (by omega) _)) | (go_at_call 60; exact quiet_more (com_any _ _ (by omega) (by omega) _)))
    go_wp2
    go_ret
    refine ⟨by rw [H.out]; rfl, ?_⟩
    exact below_drewN ((Below.refl _ _).alloc (Nat.le_refl _) _) _
  all_goals
    have H := Lib.hid (vldB_out n d (by omega))
  · have g1 : decide (1 ≤ d) = false := decide_eq_false (by omega)
    go_enter Tryz.func40, Tryz.ntmps40
    go_wp2
    go_quiet (fail)
    go_wp2
    go_ret
    refine ⟨by rw [H.out]; rfl, ?_⟩
    exact below_drewN ((Below.refl _ _).alloc (Nat.le_refl _) _) _
  · have g1 : decide (1 ≤ d) = true := decide_eq_true h1
    have g2 : decide (d ≤ 1000000) = false := decide_eq_false (by omega)
    go_enter Tryz.func40, Tryz.ntmps40
    go_wp2
    go_quiet (fail)
    go_wp2
    go_ret
    refine ⟨by rw [H.out]; rfl, ?_⟩
    exact below_drewN ((Below.refl _ _).alloc (Nat.le_refl _) _) _
  · have g1 : decide (1 ≤ d) = true := decide_eq_true h1
    have g2 : decide (d ≤ 1000000) = true := decide_eq_true h2
    have g3 : decide (-1000000000000 ≤ n) = false := decide_eq_false (by omega)
    go_enter Tryz.func40, Tryz.ntmps40
    go_wp2
    go_quiet (fail)
    go_wp2
    go_ret
    refine ⟨by rw [H.out]; rfl, ?_⟩
    exact below_drewN ((Below.refl _ _).alloc (Nat.le_refl _) _) _
  · have g1 : decide (1 ≤ d) = true := decide_eq_true h1
    have g2 : decide (d ≤ 1000000) = true := decide_eq_true h2
    have g3 : decide (-1000000000000 ≤ n) = true := decide_eq_true h3
    have g4 : decide (n ≤ 1000000000000) = false := decide_eq_false (by omega)
    go_enter Tryz.func40, Tryz.ntmps40
    go_wp2
    go_quiet (fail)
    go_wp2
    go_ret
    refine ⟨by rw [H.out]; rfl, ?_⟩
    exact below_drewN ((Below.refl _ _).alloc (Nat.le_refl _) _) _

theorem vld_bd {n d : Int} (h : vldB n d = true) : 1 ≤ d ∧ d ≤ 1000000 ∧ -1000000000000 ≤ n ∧ n ≤ 1000000000000 := by
  unfold vldB at h; simp at h; exact h.1
theorem vld_gcd {n d : Int} (h : vldB n d = true) : Nat.gcd n.natAbs d.natAbs = 1 := by
  unfold vldB at h; simp at h; exact h.2
theorem vld_mk {n d : Int} (h : 1 ≤ d ∧ d ≤ 1000000 ∧ -1000000000000 ≤ n ∧ n ≤ 1000000000000) (g : Nat.gcd n.natAbs d.natAbs = 1) : vldB n d = true := by
  unfold vldB; simp; exact ⟨h, g⟩
theorem mul_bd {n d N D : Int} (h1 : -N ≤ n) (h2 : n ≤ N) (h3 : 0 ≤ d) (h4 : d ≤ D) (h5 : 0 ≤ N) : -(N * D) ≤ n * d ∧ n * d ≤ N * D := by
  have a1 : n * d ≤ N * d := Int.mul_le_mul_of_nonneg_right h2 h3
  have a2 : N * d ≤ N * D := Int.mul_le_mul_of_nonneg_left h4 h5
  have a3 : -N * d ≤ n * d := Int.mul_le_mul_of_nonneg_right h1 h3
  have a4 : -N * d = -(N * d) := Int.neg_mul ..
  omega
theorem cross_bd {a b c d : Int} (h : vldB a b = true) (k : vldB c d = true) : -1000000000000000000 ≤ a * d ∧ a * d ≤ 1000000000000000000 := by
  have hb := vld_bd h
  have kb := vld_bd k
  have := mul_bd (n := a) (d := d) (N := 1000000000000) (D := 1000000) (by omega) (by omega) (by omega) (by omega) (by omega)
  omega
theorem den_bd {a b c d : Int} (h : vldB a b = true) (k : vldB c d = true) : 1 ≤ b * d ∧ b * d ≤ 1000000000000 := by
  have hb := vld_bd h
  have kb := vld_bd k
  have := mul_bd (n := b) (d := d) (N := 1000000) (D := 1000000) (by omega) (by omega) (by omega) (by omega) (by omega)
  have h2 : 0 < b * d := Int.mul_pos (by omega) (by omega)
  omega
end Go.Proofs.YtcdilaembophlaaGreatDoor
