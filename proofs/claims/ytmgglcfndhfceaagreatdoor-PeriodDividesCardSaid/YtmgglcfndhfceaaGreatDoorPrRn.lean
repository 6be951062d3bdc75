/-
  The reference of layer 3 (calendar): the contract of named: what a rule names for a year. Conditions: a valid rule, a year from 1970 to 2199.
-/
import Derived.Test.YtmgglcfndhfceaaGreatDoorPrRv
namespace Go.Proofs.YtmgglcfndhfceaaGreatDoor
open Go Go.RowKit Go.Lib
set_option linter.unusedVariables false

set_option maxRecDepth 100000 in
set_option maxHeartbeats 1000000 in
theorem rn0_t1 (y month day L D : Int) (hl : (∀ w : World, Calls Tryz.prog 35 #[.int .i64 y, .int .i64 month] w fun e w' => e = .returned (.int .i64 L) ∧ w = w')) (hr : (∀ w : World, Calls Tryz.prog 53 #[.int .i64 y, .int .i64 month, .int .i64 day] w fun e w' => e = .returned (.int .i64 D) ∧ w = w')) (hd : decide (L < day) = false) (b0 : -1000 ≤ D) (b1 : D ≤ 90000) (i0 : 0 ≤ D) (i1 : D ≤ 84005) (w : World) :
    Calls Tryz.prog 85 #[.agg #[.int .i64 0, .int .i64 month, .int .i64 day, .int .i64 0, .int .i64 0, .bool false], .int .i64 y] w (Ret2 (D) true w) := by
  have u0 := (Cal.wd_bd (D)).1
  have u1 := (Cal.wd_bd (D)).2
  go_enter Tryz.func85, Tryz.ntmps85
  go_wp2
  go_quiet ((go_at_call 35; first | (with_reducible exact quiet_left (hl _)) | (with_reducible exact quiet_add_left (hl _))))
  go_wp2_with (first | (go_at_call 53; (with_reducible refine (hr _).mono ?_); rintro e w' ⟨rfl, rfl⟩) | (go_at_call 16; (with_reducible refine (rInDays_yes _ i0 i1 _).mono ?_); rintro e w' ⟨rfl, rfl⟩))
  go_ret2
  exact Ret2.of rfl rfl rfl (by first | exact Below.alloc (Below.refl _ _) (Nat.le_refl _) _ | exact below_drewN (Below.alloc (Below.refl _ _) (Nat.le_refl _) _) _ | exact below_drewN (below_drewN (Below.alloc (Below.refl _ _) (Nat.le_refl _) _) _) _)
set_option maxRecDepth 100000 in
set_option maxHeartbeats 1000000 in
theorem rn0_t2 (y month day L D : Int) (hl : (∀ w : World, Calls Tryz.prog 35 #[.int .i64 y, .int .i64 month] w fun e w' => e = .returned (.int .i64 L) ∧ w = w')) (hr : (∀ w : World, Calls Tryz.prog 53 #[.int .i64 y, .int .i64 month, .int .i64 day] w fun e w' => e = .returned (.int .i64 D) ∧ w = w')) (hd : decide (L < day) = false) (b0 : -1000 ≤ D) (b1 : D ≤ 90000) (hi : D < 0 ∨ 84005 < D) (w : World) :
    Calls Tryz.prog 85 #[.agg #[.int .i64 0, .int .i64 month, .int .i64 day, .int .i64 0, .int .i64 0, .bool false], .int .i64 y] w (Ret2 (D) false w) := by
  have u0 := (Cal.wd_bd (D)).1
  have u1 := (Cal.wd_bd (D)).2
  go_enter Tryz.func85, Tryz.ntmps85
  go_wp2
  go_quiet ((go_at_call 35; first | (with_reducible exact quiet_left (hl _)) | (with_reducible exact quiet_add_left (hl _))))
  go_wp2_with (first | (go_at_call 53; (with_reducible refine (hr _).mono ?_); rintro e w' ⟨rfl, rfl⟩) | (go_at_call 16; (with_reducible refine (rInDays_no _ hi _).mono ?_); rintro e w' ⟨rfl, rfl⟩))
  go_ret2
  exact Ret2.of rfl rfl rfl (by first | exact Below.alloc (Below.refl _ _) (Nat.le_refl _) _ | exact below_drewN (Below.alloc (Below.refl _ _) (Nat.le_refl _) _) _ | exact below_drewN (below_drewN (Below.alloc (Below.refl _ _) (Nat.le_refl _) _) _) _)
set_option maxRecDepth 100000 in
set_option maxHeartbeats 1000000 in
theorem rn0_t3 (y month day L D : Int) (hl : (∀ w : World, Calls Tryz.prog 35 #[.int .i64 y, .int .i64 month] w fun e w' => e = .returned (.int .i64 L) ∧ w = w')) (hr : (∀ w : World, Calls Tryz.prog 53 #[.int .i64 y, .int .i64 month, .int .i64 day] w fun e w' => e = .returned (.int .i64 D) ∧ w = w')) (hd : decide (L < day) = false) (b0 : -1000 ≤ D) (b1 : D ≤ 90000) (hg : decide (5 ≤ Cal.wd (D)) = true) (i0 : 0 ≤ D + (7 - Cal.wd (D))) (i1 : D + (7 - Cal.wd (D)) ≤ 84005) (w : World) :
    Calls Tryz.prog 85 #[.agg #[.int .i64 0, .int .i64 month, .int .i64 day, .int .i64 0, .int .i64 0, .bool true], .int .i64 y] w (Ret2 (D + (7 - Cal.wd (D))) true w) := by
  have u0 := (Cal.wd_bd (D)).1
  have u1 := (Cal.wd_bd (D)).2
  go_enter Tryz.func85, Tryz.ntmps85
  go_wp2
  go_quiet ((go_at_call 35; first | (with_reducible exact quiet_left (hl _)) | (with_reducible exact quiet_add_left (hl _))))
  go_wp2_with (first | (go_at_call 53; (with_reducible refine (hr _).mono ?_); rintro e w' ⟨rfl, rfl⟩) | (go_at_call 71; (with_reducible refine (rshown _ (by omega) (by omega) _).mono ?_); rintro e w' ⟨rfl, rfl⟩) | (go_at_call 16; (with_reducible refine (rInDays_yes _ i0 i1 _).mono ?_); rintro e w' ⟨rfl, rfl⟩))
  go_ret2
  exact Ret2.of rfl rfl rfl (by first | exact Below.alloc (Below.refl _ _) (Nat.le_refl _) _ | exact below_drewN (Below.alloc (Below.refl _ _) (Nat.le_refl _) _) _ | exact below_drewN (below_drewN (Below.alloc (Below.refl _ _) (Nat.le_refl _) _) _) _)
set_option maxRecDepth 100000 in
set_option maxHeartbeats 1000000 in
theorem rn0_t4 (y month day L D : Int) (hl : (∀ w : World, Calls Tryz.prog 35 #[.int .i64 y, .int .i64 month] w fun e w' => e = .returned (.int .i64 L) ∧ w = w')) (hr : (∀ w : World, Calls Tryz.prog 53 #[.int .i64 y, .int .i64 month, .int .i64 day] w fun e w' => e = .returned (.int .i64 D) ∧ w = w')) (hd : decide (L < day) = false) (b0 : -1000 ≤ D) (b1 : D ≤ 90000) (hg : decide (5 ≤ Cal.wd (D)) = true) (hi : D + (7 - Cal.wd (D)) < 0 ∨ 84005 < D + (7 - Cal.wd (D))) (w : World) :
    Calls Tryz.prog 85 #[.agg #[.int .i64 0, .int .i64 month, .int .i64 day, .int .i64 0, .int .i64 0, .bool true], .int .i64 y] w (Ret2 (D + (7 - Cal.wd (D))) false w) := by
  have u0 := (Cal.wd_bd (D)).1
  have u1 := (Cal.wd_bd (D)).2
  go_enter Tryz.func85, Tryz.ntmps85
  go_wp2
  go_quiet ((go_at_call 35; first | (with_reducible exact quiet_left (hl _)) | (with_reducible exact quiet_add_left (hl _))))
  go_wp2_with (first | (go_at_call 53; (with_reducible refine (hr _).mono ?_); rintro e w' ⟨rfl, rfl⟩) | (go_at_call 71; (with_reducible refine (rshown _ (by omega) (by omega) _).mono ?_); rintro e w' ⟨rfl, rfl⟩) | (go_at_call 16; (with_reducible refine (rInDays_no _ hi _).mono ?_); rintro e w' ⟨rfl, rfl⟩))
  go_ret2
  exact Ret2.of rfl rfl rfl (by first | exact Below.alloc (Below.refl _ _) (Nat.le_refl _) _ | exact below_drewN (Below.alloc (Below.refl _ _) (Nat.le_refl _) _) _ | exact below_drewN (below_drewN (Below.alloc (Below.refl _ _) (Nat.le_refl _) _) _) _)
set_option maxRecDepth 100000 in
set_option maxHeartbeats 1000000 in
theorem rn0_t5 (y month day L D : Int) (hl : (∀ w : World, Calls Tryz.prog 35 #[.int .i64 y, .int .i64 month] w fun e w' => e = .returned (.int .i64 L) ∧ w = w')) (hr : (∀ w : World, Calls Tryz.prog 53 #[.int .i64 y, .int .i64 month, .int .i64 day] w fun e w' => e = .returned (.int .i64 D) ∧ w = w')) (hd : decide (L < day) = false) (b0 : -1000 ≤ D) (b1 : D ≤ 90000) (hg : decide (5 ≤ Cal.wd (D)) = false) (i0 : 0 ≤ D) (i1 : D ≤ 84005) (w : World) :
    Calls Tryz.prog 85 #[.agg #[.int .i64 0, .int .i64 month, .int .i64 day, .int .i64 0, .int .i64 0, .bool true], .int .i64 y] w (Ret2 (D) true w) := by
  have u0 := (Cal.wd_bd (D)).1
  have u1 := (Cal.wd_bd (D)).2
  go_enter Tryz.func85, Tryz.ntmps85
  go_wp2
  go_quiet ((go_at_call 35; first | (with_reducible exact quiet_left (hl _)) | (with_reducible exact quiet_add_left (hl _))))
  go_wp2_with (first | (go_at_call 53; (with_reducible refine (hr _).mono ?_); rintro e w' ⟨rfl, rfl⟩) | (go_at_call 71; (with_reducible refine (rshown _ (by omega) (by omega) _).mono ?_); rintro e w' ⟨rfl, rfl⟩) | (go_at_call 16; (with_reducible refine (rInDays_yes _ i0 i1 _).mono ?_); rintro e w' ⟨rfl, rfl⟩))
  go_ret2
  exact Ret2.of rfl rfl rfl (by first | exact Below.alloc (Below.refl _ _) (Nat.le_refl _) _ | exact below_drewN (Below.alloc (Below.refl _ _) (Nat.le_refl _) _) _ | exact below_drewN (below_drewN (Below.alloc (Below.refl _ _) (Nat.le_refl _) _) _) _)
set_option maxRecDepth 100000 in
set_option maxHeartbeats 1000000 in
theorem rn0_t6 (y month day L D : Int) (hl : (∀ w : World, Calls Tryz.prog 35 #[.int .i64 y, .int .i64 month] w fun e w' => e = .returned (.int .i64 L) ∧ w = w')) (hr : (∀ w : World, Calls Tryz.prog 53 #[.int .i64 y, .int .i64 month, .int .i64 day] w fun e w' => e = .returned (.int .i64 D) ∧ w = w')) (hd : decide (L < day) = false) (b0 : -1000 ≤ D) (b1 : D ≤ 90000) (hg : decide (5 ≤ Cal.wd (D)) = false) (hi : D < 0 ∨ 84005 < D) (w : World) :
    Calls Tryz.prog 85 #[.agg #[.int .i64 0, .int .i64 month, .int .i64 day, .int .i64 0, .int .i64 0, .bool true], .int .i64 y] w (Ret2 (D) false w) := by
  have u0 := (Cal.wd_bd (D)).1
  have u1 := (Cal.wd_bd (D)).2
  go_enter Tryz.func85, Tryz.ntmps85
  go_wp2
  go_quiet ((go_at_call 35; first | (with_reducible exact quiet_left (hl _)) | (with_reducible exact quiet_add_left (hl _))))
  go_wp2_with (first | (go_at_call 53; (with_reducible refine (hr _).mono ?_); rintro e w' ⟨rfl, rfl⟩) | (go_at_call 71; (with_reducible refine (rshown _ (by omega) (by omega) _).mono ?_); rintro e w' ⟨rfl, rfl⟩) | (go_at_call 16; (with_reducible refine (rInDays_no _ hi _).mono ?_); rintro e w' ⟨rfl, rfl⟩))
  go_ret2
  exact Ret2.of rfl rfl rfl (by first | exact Below.alloc (Below.refl _ _) (Nat.le_refl _) _ | exact below_drewN (Below.alloc (Below.refl _ _) (Nat.le_refl _) _) _ | exact below_drewN (below_drewN (Below.alloc (Below.refl _ _) (Nat.le_refl _) _) _) _)
theorem rn0 (y month day L D : Int) (moved : Bool) (hl : (∀ w : World, Calls Tryz.prog 35 #[.int .i64 y, .int .i64 month] w fun e w' => e = .returned (.int .i64 L) ∧ w = w')) (hr : (∀ w : World, Calls Tryz.prog 53 #[.int .i64 y, .int .i64 month, .int .i64 day] w fun e w' => e = .returned (.int .i64 D) ∧ w = w')) (hd : decide (L < day) = false) (b0 : -1000 ≤ D) (b1 : D ≤ 90000) (w : World) :
    Calls Tryz.prog 85 #[.agg #[.int .i64 0, .int .i64 month, .int .i64 day, .int .i64 0, .int .i64 0, .bool moved], .int .i64 y] w (Ret2 (Cal.mvV moved (D)) (Cal.inD (Cal.mvV moved (D))) w) := by
  rcases moved with _ | _
  · have e : Cal.mvV false (D) = D := by unfold Cal.mvV; rw [if_neg (by simp)]
    rw [e]
    by_cases hi : 0 ≤ D ∧ D ≤ 84005
    · rw [show Cal.inD (D) = true from decide_eq_true hi]; apply rn0_t1 <;> first | assumption | omega
    · rw [show Cal.inD (D) = false from decide_eq_false hi]; apply rn0_t2 <;> first | assumption | omega
  · by_cases hg : 5 ≤ Cal.wd (D)
    · have e : Cal.mvV true (D) = D + (7 - Cal.wd (D)) := by unfold Cal.mvV; rw [if_pos ⟨rfl, hg⟩]
      rw [e]
      have hg' := decide_eq_true hg
      by_cases hi : 0 ≤ D + (7 - Cal.wd (D)) ∧ D + (7 - Cal.wd (D)) ≤ 84005
      · rw [show Cal.inD (D + (7 - Cal.wd (D))) = true from decide_eq_true hi]; apply rn0_t3 <;> first | assumption | omega
      · rw [show Cal.inD (D + (7 - Cal.wd (D))) = false from decide_eq_false hi]; apply rn0_t4 <;> first | assumption | omega
    · have e : Cal.mvV true (D) = D := by unfold Cal.mvV; rw [if_neg (fun c => hg c.2)]
      rw [e]
      have hg' := decide_eq_false hg
      by_cases hi : 0 ≤ D ∧ D ≤ 84005
      · rw [show Cal.inD (D) = true from decide_eq_true hi]; apply rn0_t5 <;> first | assumption | omega
      · rw [show Cal.inD (D) = false from decide_eq_false hi]; apply rn0_t6 <;> first | assumption | omega
set_option maxRecDepth 100000 in
set_option maxHeartbeats 1000000 in
theorem rn1_t1 (y E off : Int) (he : (∀ w : World, Calls Tryz.prog 91 #[.int .i64 y] w fun e w' => e = .returned (.int .i64 E) ∧ w = w')) (b0 : 0 ≤ E) (b1 : E ≤ 90000) (o0 : -100 ≤ off) (o1 : off ≤ 100) (i0 : 0 ≤ E + off) (i1 : E + off ≤ 84005) (w : World) :
    Calls Tryz.prog 85 #[.agg #[.int .i64 1, .int .i64 0, .int .i64 0, .int .i64 0, .int .i64 off, .bool false], .int .i64 y] w (Ret2 (E + off) true w) := by
  have u0 := (Cal.wd_bd (E + off)).1
  have u1 := (Cal.wd_bd (E + off)).2
  go_enter Tryz.func85, Tryz.ntmps85
  go_wp2
  go_quiet ((go_at_call 91; first | (with_reducible exact quiet_left (he _)) | (with_reducible exact quiet_add_left (he _))))
  go_wp2_with (first | fail | (go_at_call 16; (with_reducible refine (rInDays_yes _ i0 i1 _).mono ?_); rintro e w' ⟨rfl, rfl⟩))
  go_ret2
  exact Ret2.of rfl rfl rfl (by first | exact Below.alloc (Below.refl _ _) (Nat.le_refl _) _ | exact below_drewN (Below.alloc (Below.refl _ _) (Nat.le_refl _) _) _ | exact below_drewN (below_drewN (Below.alloc (Below.refl _ _) (Nat.le_refl _) _) _) _)
set_option maxRecDepth 100000 in
set_option maxHeartbeats 1000000 in
theorem rn1_t2 (y E off : Int) (he : (∀ w : World, Calls Tryz.prog 91 #[.int .i64 y] w fun e w' => e = .returned (.int .i64 E) ∧ w = w')) (b0 : 0 ≤ E) (b1 : E ≤ 90000) (o0 : -100 ≤ off) (o1 : off ≤ 100) (hi : E + off < 0 ∨ 84005 < E + off) (w : World) :
    Calls Tryz.prog 85 #[.agg #[.int .i64 1, .int .i64 0, .int .i64 0, .int .i64 0, .int .i64 off, .bool false], .int .i64 y] w (Ret2 (E + off) false w) := by
  have u0 := (Cal.wd_bd (E + off)).1
  have u1 := (Cal.wd_bd (E + off)).2
  go_enter Tryz.func85, Tryz.ntmps85
  go_wp2
  go_quiet ((go_at_call 91; first | (with_reducible exact quiet_left (he _)) | (with_reducible exact quiet_add_left (he _))))
  go_wp2_with (first | fail | (go_at_call 16; (with_reducible refine (rInDays_no _ hi _).mono ?_); rintro e w' ⟨rfl, rfl⟩))
  go_ret2
  exact Ret2.of rfl rfl rfl (by first | exact Below.alloc (Below.refl _ _) (Nat.le_refl _) _ | exact below_drewN (Below.alloc (Below.refl _ _) (Nat.le_refl _) _) _ | exact below_drewN (below_drewN (Below.alloc (Below.refl _ _) (Nat.le_refl _) _) _) _)
set_option maxRecDepth 100000 in
set_option maxHeartbeats 1000000 in
theorem rn1_t3 (y E off : Int) (he : (∀ w : World, Calls Tryz.prog 91 #[.int .i64 y] w fun e w' => e = .returned (.int .i64 E) ∧ w = w')) (b0 : 0 ≤ E) (b1 : E ≤ 90000) (o0 : -100 ≤ off) (o1 : off ≤ 100) (hg : decide (5 ≤ Cal.wd (E + off)) = true) (i0 : 0 ≤ E + off + (7 - Cal.wd (E + off))) (i1 : E + off + (7 - Cal.wd (E + off)) ≤ 84005) (w : World) :
    Calls Tryz.prog 85 #[.agg #[.int .i64 1, .int .i64 0, .int .i64 0, .int .i64 0, .int .i64 off, .bool true], .int .i64 y] w (Ret2 (E + off + (7 - Cal.wd (E + off))) true w) := by
  have u0 := (Cal.wd_bd (E + off)).1
  have u1 := (Cal.wd_bd (E + off)).2
  go_enter Tryz.func85, Tryz.ntmps85
  go_wp2
  go_quiet ((go_at_call 91; first | (with_reducible exact quiet_left (he _)) | (with_reducible exact quiet_add_left (he _))))
  go_wp2_with (first | fail | (go_at_call 71; (with_reducible refine (rshown _ (by omega) (by omega) _).mono ?_); rintro e w' ⟨rfl, rfl⟩) | (go_at_call 16; (with_reducible refine (rInDays_yes _ i0 i1 _).mono ?_); rintro e w' ⟨rfl, rfl⟩))
  go_ret2
  exact Ret2.of rfl rfl rfl (by first | exact Below.alloc (Below.refl _ _) (Nat.le_refl _) _ | exact below_drewN (Below.alloc (Below.refl _ _) (Nat.le_refl _) _) _ | exact below_drewN (below_drewN (Below.alloc (Below.refl _ _) (Nat.le_refl _) _) _) _)
set_option maxRecDepth 100000 in
set_option maxHeartbeats 1000000 in
theorem rn1_t4 (y E off : Int) (he : (∀ w : World, Calls Tryz.prog 91 #[.int .i64 y] w fun e w' => e = .returned (.int .i64 E) ∧ w = w')) (b0 : 0 ≤ E) (b1 : E ≤ 90000) (o0 : -100 ≤ off) (o1 : off ≤ 100) (hg : decide (5 ≤ Cal.wd (E + off)) = true) (hi : E + off + (7 - Cal.wd (E + off)) < 0 ∨ 84005 < E + off + (7 - Cal.wd (E + off))) (w : World) :
    Calls Tryz.prog 85 #[.agg #[.int .i64 1, .int .i64 0, .int .i64 0, .int .i64 0, .int .i64 off, .bool true], .int .i64 y] w (Ret2 (E + off + (7 - Cal.wd (E + off))) false w) := by
  have u0 := (Cal.wd_bd (E + off)).1
  have u1 := (Cal.wd_bd (E + off)).2
  go_enter Tryz.func85, Tryz.ntmps85
  go_wp2
  go_quiet ((go_at_call 91; first | (with_reducible exact quiet_left (he _)) | (with_reducible exact quiet_add_left (he _))))
  go_wp2_with (first | fail | (go_at_call 71; (with_reducible refine (rshown _ (by omega) (by omega) _).mono ?_); rintro e w' ⟨rfl, rfl⟩) | (go_at_call 16; (with_reducible refine (rInDays_no _ hi _).mono ?_); rintro e w' ⟨rfl, rfl⟩))
  go_ret2
  exact Ret2.of rfl rfl rfl (by first | exact Below.alloc (Below.refl _ _) (Nat.le_refl _) _ | exact below_drewN (Below.alloc (Below.refl _ _) (Nat.le_refl _) _) _ | exact below_drewN (below_drewN (Below.alloc (Below.refl _ _) (Nat.le_refl _) _) _) _)
set_option maxRecDepth 100000 in
set_option maxHeartbeats 1000000 in
theorem rn1_t5 (y E off : Int) (he : (∀ w : World, Calls Tryz.prog 91 #[.int .i64 y] w fun e w' => e = .returned (.int .i64 E) ∧ w = w')) (b0 : 0 ≤ E) (b1 : E ≤ 90000) (o0 : -100 ≤ off) (o1 : off ≤ 100) (hg : decide (5 ≤ Cal.wd (E + off)) = false) (i0 : 0 ≤ E + off) (i1 : E + off ≤ 84005) (w : World) :
    Calls Tryz.prog 85 #[.agg #[.int .i64 1, .int .i64 0, .int .i64 0, .int .i64 0, .int .i64 off, .bool true], .int .i64 y] w (Ret2 (E + off) true w) := by
  have u0 := (Cal.wd_bd (E + off)).1
  have u1 := (Cal.wd_bd (E + off)).2
  go_enter Tryz.func85, Tryz.ntmps85
  go_wp2
  go_quiet ((go_at_call 91; first | (with_reducible exact quiet_left (he _)) | (with_reducible exact quiet_add_left (he _))))
  go_wp2_with (first | fail | (go_at_call 71; (with_reducible refine (rshown _ (by omega) (by omega) _).mono ?_); rintro e w' ⟨rfl, rfl⟩) | (go_at_call 16; (with_reducible refine (rInDays_yes _ i0 i1 _).mono ?_); rintro e w' ⟨rfl, rfl⟩))
  go_ret2
  exact Ret2.of rfl rfl rfl (by first | exact Below.alloc (Below.refl _ _) (Nat.le_refl _) _ | exact below_drewN (Below.alloc (Below.refl _ _) (Nat.le_refl _) _) _ | exact below_drewN (below_drewN (Below.alloc (Below.refl _ _) (Nat.le_refl _) _) _) _)
set_option maxRecDepth 100000 in
set_option maxHeartbeats 1000000 in
theorem rn1_t6 (y E off : Int) (he : (∀ w : World, Calls Tryz.prog 91 #[.int .i64 y] w fun e w' => e = .returned (.int .i64 E) ∧ w = w')) (b0 : 0 ≤ E) (b1 : E ≤ 90000) (o0 : -100 ≤ off) (o1 : off ≤ 100) (hg : decide (5 ≤ Cal.wd (E + off)) = false) (hi : E + off < 0 ∨ 84005 < E + off) (w : World) :
    Calls Tryz.prog 85 #[.agg #[.int .i64 1, .int .i64 0, .int .i64 0, .int .i64 0, .int .i64 off, .bool true], .int .i64 y] w (Ret2 (E + off) false w) := by
  have u0 := (Cal.wd_bd (E + off)).1
  have u1 := (Cal.wd_bd (E + off)).2
  go_enter Tryz.func85, Tryz.ntmps85
  go_wp2
  go_quiet ((go_at_call 91; first | (with_reducible exact quiet_left (he _)) | (with_reducible exact quiet_add_left (he _))))
  go_wp2_with (first | fail | (go_at_call 71; (with_reducible refine (rshown _ (by omega) (by omega) _).mono ?_); rintro e w' ⟨rfl, rfl⟩) | (go_at_call 16; (with_reducible refine (rInDays_no _ hi _).mono ?_); rintro e w' ⟨rfl, rfl⟩))
  go_ret2
  exact Ret2.of rfl rfl rfl (by first | exact Below.alloc (Below.refl _ _) (Nat.le_refl _) _ | exact below_drewN (Below.alloc (Below.refl _ _) (Nat.le_refl _) _) _ | exact below_drewN (below_drewN (Below.alloc (Below.refl _ _) (Nat.le_refl _) _) _) _)
theorem rn1 (y E off : Int) (moved : Bool) (he : (∀ w : World, Calls Tryz.prog 91 #[.int .i64 y] w fun e w' => e = .returned (.int .i64 E) ∧ w = w')) (b0 : 0 ≤ E) (b1 : E ≤ 90000) (o0 : -100 ≤ off) (o1 : off ≤ 100) (w : World) :
    Calls Tryz.prog 85 #[.agg #[.int .i64 1, .int .i64 0, .int .i64 0, .int .i64 0, .int .i64 off, .bool moved], .int .i64 y] w (Ret2 (Cal.mvV moved (E + off)) (Cal.inD (Cal.mvV moved (E + off))) w) := by
  rcases moved with _ | _
  · have e : Cal.mvV false (E + off) = E + off := by unfold Cal.mvV; rw [if_neg (by simp)]
    rw [e]
    by_cases hi : 0 ≤ E + off ∧ E + off ≤ 84005
    · rw [show Cal.inD (E + off) = true from decide_eq_true hi]; apply rn1_t1 <;> first | assumption | omega
    · rw [show Cal.inD (E + off) = false from decide_eq_false hi]; apply rn1_t2 <;> first | assumption | omega
  · by_cases hg : 5 ≤ Cal.wd (E + off)
    · have e : Cal.mvV true (E + off) = E + off + (7 - Cal.wd (E + off)) := by unfold Cal.mvV; rw [if_pos ⟨rfl, hg⟩]
      rw [e]
      have hg' := decide_eq_true hg
      by_cases hi : 0 ≤ E + off + (7 - Cal.wd (E + off)) ∧ E + off + (7 - Cal.wd (E + off)) ≤ 84005
      · rw [show Cal.inD (E + off + (7 - Cal.wd (E + off))) = true from decide_eq_true hi]; apply rn1_t3 <;> first | assumption | omega
      · rw [show Cal.inD (E + off + (7 - Cal.wd (E + off))) = false from decide_eq_false hi]; apply rn1_t4 <;> first | assumption | omega
    · have e : Cal.mvV true (E + off) = E + off := by unfold Cal.mvV; rw [if_neg (fun c => hg c.2)]
      rw [e]
      have hg' := decide_eq_false hg
      by_cases hi : 0 ≤ E + off ∧ E + off ≤ 84005
      · rw [show Cal.inD (E + off) = true from decide_eq_true hi]; apply rn1_t5 <;> first | assumption | omega
      · rw [show Cal.inD (E + off) = false from decide_eq_false hi]; apply rn1_t6 <;> first | assumption | omega
set_option maxRecDepth 100000 in
set_option maxHeartbeats 1000000 in
theorem rn2a_t1 (y month wday off L F : Int) (hl : (∀ w : World, Calls Tryz.prog 35 #[.int .i64 y, .int .i64 month] w fun e w' => e = .returned (.int .i64 L) ∧ w = w')) (hr : (∀ w : World, Calls Tryz.prog 53 #[.int .i64 y, .int .i64 month, .int .i64 1] w fun e w' => e = .returned (.int .i64 F) ∧ w = w')) (hn : decide (F + L ≤ F + (wday - Cal.wd F) % 7 + 28) = true) (hx : decide (F + L ≤ F + (wday - Cal.wd F) % 7 + 21) = false) (b0 : 0 ≤ F) (b1 : F ≤ 90000) (l0 : 28 ≤ L) (l1 : L ≤ 31) (w0 : 0 ≤ wday) (w1 : wday ≤ 6) (o0 : -7 ≤ off) (o1 : off ≤ 7) (i0 : 0 ≤ F + (wday - Cal.wd F) % 7 + 21 + off) (i1 : F + (wday - Cal.wd F) % 7 + 21 + off ≤ 84005) (w : World) :
    Calls Tryz.prog 85 #[.agg #[.int .i64 2, .int .i64 month, .int .i64 (-1), .int .i64 wday, .int .i64 off, .bool false], .int .i64 y] w (Ret2 (F + (wday - Cal.wd F) % 7 + 21 + off) true w) := by
  have u0 := (Cal.wd_bd (F + (wday - Cal.wd F) % 7 + 21 + off)).1
  have u1 := (Cal.wd_bd (F + (wday - Cal.wd F) % 7 + 21 + off)).2
  go_enter Tryz.func85, Tryz.ntmps85
  have v0 := (Cal.wd_bd F).1
  have v1 := (Cal.wd_bd F).2
  go_wp2_with (first | (go_at_call 53; (with_reducible refine (hr _).mono ?_); rintro e w' ⟨rfl, rfl⟩) | (go_at_call 35; (with_reducible refine (hl _).mono ?_); rintro e w' ⟨rfl, rfl⟩))
  go_quiet ((go_at_call 71; first | (with_reducible exact quiet_left (rshown _ (by omega) (by omega) _)) | (with_reducible exact quiet_add_left (rshown _ (by omega) (by omega) _))))
  go_wp2_with (first | fail | (go_at_call 16; (with_reducible refine (rInDays_yes _ i0 i1 _).mono ?_); rintro e w' ⟨rfl, rfl⟩))
  go_ret2
  exact Ret2.of rfl rfl rfl (by first | exact Below.alloc (Below.refl _ _) (Nat.le_refl _) _ | exact below_drewN (Below.alloc (Below.refl _ _) (Nat.le_refl _) _) _ | exact below_drewN (below_drewN (Below.alloc (Below.refl _ _) (Nat.le_refl _) _) _) _)
set_option maxRecDepth 100000 in
set_option maxHeartbeats 1000000 in
theorem rn2a_t2 (y month wday off L F : Int) (hl : (∀ w : World, Calls Tryz.prog 35 #[.int .i64 y, .int .i64 month] w fun e w' => e = .returned (.int .i64 L) ∧ w = w')) (hr : (∀ w : World, Calls Tryz.prog 53 #[.int .i64 y, .int .i64 month, .int .i64 1] w fun e w' => e = .returned (.int .i64 F) ∧ w = w')) (hn : decide (F + L ≤ F + (wday - Cal.wd F) % 7 + 28) = true) (hx : decide (F + L ≤ F + (wday - Cal.wd F) % 7 + 21) = false) (b0 : 0 ≤ F) (b1 : F ≤ 90000) (l0 : 28 ≤ L) (l1 : L ≤ 31) (w0 : 0 ≤ wday) (w1 : wday ≤ 6) (o0 : -7 ≤ off) (o1 : off ≤ 7) (hi : F + (wday - Cal.wd F) % 7 + 21 + off < 0 ∨ 84005 < F + (wday - Cal.wd F) % 7 + 21 + off) (w : World) :
    Calls Tryz.prog 85 #[.agg #[.int .i64 2, .int .i64 month, .int .i64 (-1), .int .i64 wday, .int .i64 off, .bool false], .int .i64 y] w (Ret2 (F + (wday - Cal.wd F) % 7 + 21 + off) false w) := by
  have u0 := (Cal.wd_bd (F + (wday - Cal.wd F) % 7 + 21 + off)).1
  have u1 := (Cal.wd_bd (F + (wday - Cal.wd F) % 7 + 21 + off)).2
  go_enter Tryz.func85, Tryz.ntmps85
  have v0 := (Cal.wd_bd F).1
  have v1 := (Cal.wd_bd F).2
  go_wp2_with (first | (go_at_call 53; (with_reducible refine (hr _).mono ?_); rintro e w' ⟨rfl, rfl⟩) | (go_at_call 35; (with_reducible refine (hl _).mono ?_); rintro e w' ⟨rfl, rfl⟩))
  go_quiet ((go_at_call 71; first | (with_reducible exact quiet_left (rshown _ (by omega) (by omega) _)) | (with_reducible exact quiet_add_left (rshown _ (by omega) (by omega) _))))
  go_wp2_with (first | fail | (go_at_call 16; (with_reducible refine (rInDays_no _ hi _).mono ?_); rintro e w' ⟨rfl, rfl⟩))
  go_ret2
  exact Ret2.of rfl rfl rfl (by first | exact Below.alloc (Below.refl _ _) (Nat.le_refl _) _ | exact below_drewN (Below.alloc (Below.refl _ _) (Nat.le_refl _) _) _ | exact below_drewN (below_drewN (Below.alloc (Below.refl _ _) (Nat.le_refl _) _) _) _)
set_option maxRecDepth 100000 in
set_option maxHeartbeats 1000000 in
theorem rn2a_t3 (y month wday off L F : Int) (hl : (∀ w : World, Calls Tryz.prog 35 #[.int .i64 y, .int .i64 month] w fun e w' => e = .returned (.int .i64 L) ∧ w = w')) (hr : (∀ w : World, Calls Tryz.prog 53 #[.int .i64 y, .int .i64 month, .int .i64 1] w fun e w' => e = .returned (.int .i64 F) ∧ w = w')) (hn : decide (F + L ≤ F + (wday - Cal.wd F) % 7 + 28) = true) (hx : decide (F + L ≤ F + (wday - Cal.wd F) % 7 + 21) = false) (b0 : 0 ≤ F) (b1 : F ≤ 90000) (l0 : 28 ≤ L) (l1 : L ≤ 31) (w0 : 0 ≤ wday) (w1 : wday ≤ 6) (o0 : -7 ≤ off) (o1 : off ≤ 7) (hg : decide (5 ≤ Cal.wd (F + (wday - Cal.wd F) % 7 + 21 + off)) = true) (i0 : 0 ≤ F + (wday - Cal.wd F) % 7 + 21 + off + (7 - Cal.wd (F + (wday - Cal.wd F) % 7 + 21 + off))) (i1 : F + (wday - Cal.wd F) % 7 + 21 + off + (7 - Cal.wd (F + (wday - Cal.wd F) % 7 + 21 + off)) ≤ 84005) (w : World) :
    Calls Tryz.prog 85 #[.agg #[.int .i64 2, .int .i64 month, .int .i64 (-1), .int .i64 wday, .int .i64 off, .bool true], .int .i64 y] w (Ret2 (F + (wday - Cal.wd F) % 7 + 21 + off + (7 - Cal.wd (F + (wday - Cal.wd F) % 7 + 21 + off))) true w) := by
  have u0 := (Cal.wd_bd (F + (wday - Cal.wd F) % 7 + 21 + off)).1
  have u1 := (Cal.wd_bd (F + (wday - Cal.wd F) % 7 + 21 + off)).2
  go_enter Tryz.func85, Tryz.ntmps85
  have v0 := (Cal.wd_bd F).1
  have v1 := (Cal.wd_bd F).2
  go_wp2_with (first | (go_at_call 53; (with_reducible refine (hr _).mono ?_); rintro e w' ⟨rfl, rfl⟩) | (go_at_call 35; (with_reducible refine (hl _).mono ?_); rintro e w' ⟨rfl, rfl⟩))
  go_quiet ((go_at_call 71; first | (with_reducible exact quiet_left (rshown _ (by omega) (by omega) _)) | (with_reducible exact quiet_add_left (rshown _ (by omega) (by omega) _))))
  go_wp2_with (first | fail | (go_at_call 71; (with_reducible refine (rshown _ (by omega) (by omega) _).mono ?_); rintro e w' ⟨rfl, rfl⟩) | (go_at_call 16; (with_reducible refine (rInDays_yes _ i0 i1 _).mono ?_); rintro e w' ⟨rfl, rfl⟩))
  go_ret2
  exact Ret2.of rfl rfl rfl (by first | exact Below.alloc (Below.refl _ _) (Nat.le_refl _) _ | exact below_drewN (Below.alloc (Below.refl _ _) (Nat.le_refl _) _) _ | exact below_drewN (below_drewN (Below.alloc (Below.refl _ _) (Nat.le_refl _) _) _) _)
set_option maxRecDepth 100000 in
set_option maxHeartbeats 1000000 in
theorem rn2a_t4 (y month wday off L F : Int) (hl : (∀ w : World, Calls Tryz.prog 35 #[.int .i64 y, .int .i64 month] w fun e w' => e = .returned (.int .i64 L) ∧ w = w')) (hr : (∀ w : World, Calls Tryz.prog 53 #[.int .i64 y, .int .i64 month, .int .i64 1] w fun e w' => e = .returned (.int .i64 F) ∧ w = w')) (hn : decide (F + L ≤ F + (wday - Cal.wd F) % 7 + 28) = true) (hx : decide (F + L ≤ F + (wday - Cal.wd F) % 7 + 21) = false) (b0 : 0 ≤ F) (b1 : F ≤ 90000) (l0 : 28 ≤ L) (l1 : L ≤ 31) (w0 : 0 ≤ wday) (w1 : wday ≤ 6) (o0 : -7 ≤ off) (o1 : off ≤ 7) (hg : decide (5 ≤ Cal.wd (F + (wday - Cal.wd F) % 7 + 21 + off)) = true) (hi : F + (wday - Cal.wd F) % 7 + 21 + off + (7 - Cal.wd (F + (wday - Cal.wd F) % 7 + 21 + off)) < 0 ∨ 84005 < F + (wday - Cal.wd F) % 7 + 21 + off + (7 - Cal.wd (F + (wday - Cal.wd F) % 7 + 21 + off))) (w : World) :
    Calls Tryz.prog 85 #[.agg #[.int .i64 2, .int .i64 month, .int .i64 (-1), .int .i64 wday, .int .i64 off, .bool true], .int .i64 y] w (Ret2 (F + (wday - Cal.wd F) % 7 + 21 + off + (7 - Cal.wd (F + (wday - Cal.wd F) % 7 + 21 + off))) false w) := by
  have u0 := (Cal.wd_bd (F + (wday - Cal.wd F) % 7 + 21 + off)).1
  have u1 := (Cal.wd_bd (F + (wday - Cal.wd F) % 7 + 21 + off)).2
  go_enter Tryz.func85, Tryz.ntmps85
  have v0 := (Cal.wd_bd F).1
  have v1 := (Cal.wd_bd F).2
  go_wp2_with (first | (go_at_call 53; (with_reducible refine (hr _).mono ?_); rintro e w' ⟨rfl, rfl⟩) | (go_at_call 35; (with_reducible refine (hl _).mono ?_); rintro e w' ⟨rfl, rfl⟩))
  go_quiet ((go_at_call 71; first | (with_reducible exact quiet_left (rshown _ (by omega) (by omega) _)) | (with_reducible exact quiet_add_left (rshown _ (by omega) (by omega) _))))
  go_wp2_with (first | fail | (go_at_call 71; (with_reducible refine (rshown _ (by omega) (by omega) _).mono ?_); rintro e w' ⟨rfl, rfl⟩) | (go_at_call 16; (with_reducible refine (rInDays_no _ hi _).mono ?_); rintro e w' ⟨rfl, rfl⟩))
  go_ret2
  exact Ret2.of rfl rfl rfl (by first | exact Below.alloc (Below.refl _ _) (Nat.le_refl _) _ | exact below_drewN (Below.alloc (Below.refl _ _) (Nat.le_refl _) _) _ | exact below_drewN (below_drewN (Below.alloc (Below.refl _ _) (Nat.le_refl _) _) _) _)
set_option maxRecDepth 100000 in
set_option maxHeartbeats 1000000 in
theorem rn2a_t5 (y month wday off L F : Int) (hl : (∀ w : World, Calls Tryz.prog 35 #[.int .i64 y, .int .i64 month] w fun e w' => e = .returned (.int .i64 L) ∧ w = w')) (hr : (∀ w : World, Calls Tryz.prog 53 #[.int .i64 y, .int .i64 month, .int .i64 1] w fun e w' => e = .returned (.int .i64 F) ∧ w = w')) (hn : decide (F + L ≤ F + (wday - Cal.wd F) % 7 + 28) = true) (hx : decide (F + L ≤ F + (wday - Cal.wd F) % 7 + 21) = false) (b0 : 0 ≤ F) (b1 : F ≤ 90000) (l0 : 28 ≤ L) (l1 : L ≤ 31) (w0 : 0 ≤ wday) (w1 : wday ≤ 6) (o0 : -7 ≤ off) (o1 : off ≤ 7) (hg : decide (5 ≤ Cal.wd (F + (wday - Cal.wd F) % 7 + 21 + off)) = false) (i0 : 0 ≤ F + (wday - Cal.wd F) % 7 + 21 + off) (i1 : F + (wday - Cal.wd F) % 7 + 21 + off ≤ 84005) (w : World) :
    Calls Tryz.prog 85 #[.agg #[.int .i64 2, .int .i64 month, .int .i64 (-1), .int .i64 wday, .int .i64 off, .bool true], .int .i64 y] w (Ret2 (F + (wday - Cal.wd F) % 7 + 21 + off) true w) := by
  have u0 := (Cal.wd_bd (F + (wday - Cal.wd F) % 7 + 21 + off)).1
  have u1 := (Cal.wd_bd (F + (wday - Cal.wd F) % 7 + 21 + off)).2
  go_enter Tryz.func85, Tryz.ntmps85
  have v0 := (Cal.wd_bd F).1
  have v1 := (Cal.wd_bd F).2
  go_wp2_with (first | (go_at_call 53; (with_reducible refine (hr _).mono ?_); rintro e w' ⟨rfl, rfl⟩) | (go_at_call 35; (with_reducible refine (hl _).mono ?_); rintro e w' ⟨rfl, rfl⟩))
  go_quiet ((go_at_call 71; first | (with_reducible exact quiet_left (rshown _ (by omega) (by omega) _)) | (with_reducible exact quiet_add_left (rshown _ (by omega) (by omega) _))))
  go_wp2_with (first | fail | (go_at_call 71; (with_reducible refine (rshown _ (by omega) (by omega) _).mono ?_); rintro e w' ⟨rfl, rfl⟩) | (go_at_call 16; (with_reducible refine (rInDays_yes _ i0 i1 _).mono ?_); rintro e w' ⟨rfl, rfl⟩))
  go_ret2
  exact Ret2.of rfl rfl rfl (by first | exact Below.alloc (Below.refl _ _) (Nat.le_refl _) _ | exact below_drewN (Below.alloc (Below.refl _ _) (Nat.le_refl _) _) _ | exact below_drewN (below_drewN (Below.alloc (Below.refl _ _) (Nat.le_refl _) _) _) _)
set_option maxRecDepth 100000 in
set_option maxHeartbeats 1000000 in
theorem rn2a_t6 (y month wday off L F : Int) (hl : (∀ w : World, Calls Tryz.prog 35 #[.int .i64 y, .int .i64 month] w fun e w' => e = .returned (.int .i64 L) ∧ w = w')) (hr : (∀ w : World, Calls Tryz.prog 53 #[.int .i64 y, .int .i64 month, .int .i64 1] w fun e w' => e = .returned (.int .i64 F) ∧ w = w')) (hn : decide (F + L ≤ F + (wday - Cal.wd F) % 7 + 28) = true) (hx : decide (F + L ≤ F + (wday - Cal.wd F) % 7 + 21) = false) (b0 : 0 ≤ F) (b1 : F ≤ 90000) (l0 : 28 ≤ L) (l1 : L ≤ 31) (w0 : 0 ≤ wday) (w1 : wday ≤ 6) (o0 : -7 ≤ off) (o1 : off ≤ 7) (hg : decide (5 ≤ Cal.wd (F + (wday - Cal.wd F) % 7 + 21 + off)) = false) (hi : F + (wday - Cal.wd F) % 7 + 21 + off < 0 ∨ 84005 < F + (wday - Cal.wd F) % 7 + 21 + off) (w : World) :
    Calls Tryz.prog 85 #[.agg #[.int .i64 2, .int .i64 month, .int .i64 (-1), .int .i64 wday, .int .i64 off, .bool true], .int .i64 y] w (Ret2 (F + (wday - Cal.wd F) % 7 + 21 + off) false w) := by
  have u0 := (Cal.wd_bd (F + (wday - Cal.wd F) % 7 + 21 + off)).1
  have u1 := (Cal.wd_bd (F + (wday - Cal.wd F) % 7 + 21 + off)).2
  go_enter Tryz.func85, Tryz.ntmps85
  have v0 := (Cal.wd_bd F).1
  have v1 := (Cal.wd_bd F).2
  go_wp2_with (first | (go_at_call 53; (with_reducible refine (hr _).mono ?_); rintro e w' ⟨rfl, rfl⟩) | (go_at_call 35; (with_reducible refine (hl _).mono ?_); rintro e w' ⟨rfl, rfl⟩))
  go_quiet ((go_at_call 71; first | (with_reducible exact quiet_left (rshown _ (by omega) (by omega) _)) | (with_reducible exact quiet_add_left (rshown _ (by omega) (by omega) _))))
  go_wp2_with (first | fail | (go_at_call 71; (with_reducible refine (rshown _ (by omega) (by omega) _).mono ?_); rintro e w' ⟨rfl, rfl⟩) | (go_at_call 16; (with_reducible refine (rInDays_no _ hi _).mono ?_); rintro e w' ⟨rfl, rfl⟩))
  go_ret2
  exact Ret2.of rfl rfl rfl (by first | exact Below.alloc (Below.refl _ _) (Nat.le_refl _) _ | exact below_drewN (Below.alloc (Below.refl _ _) (Nat.le_refl _) _) _ | exact below_drewN (below_drewN (Below.alloc (Below.refl _ _) (Nat.le_refl _) _) _) _)
theorem rn2a (y month wday off L F : Int) (moved : Bool) (hl : (∀ w : World, Calls Tryz.prog 35 #[.int .i64 y, .int .i64 month] w fun e w' => e = .returned (.int .i64 L) ∧ w = w')) (hr : (∀ w : World, Calls Tryz.prog 53 #[.int .i64 y, .int .i64 month, .int .i64 1] w fun e w' => e = .returned (.int .i64 F) ∧ w = w')) (hn : decide (F + L ≤ F + (wday - Cal.wd F) % 7 + 28) = true) (hx : decide (F + L ≤ F + (wday - Cal.wd F) % 7 + 21) = false) (b0 : 0 ≤ F) (b1 : F ≤ 90000) (l0 : 28 ≤ L) (l1 : L ≤ 31) (w0 : 0 ≤ wday) (w1 : wday ≤ 6) (o0 : -7 ≤ off) (o1 : off ≤ 7) (w : World) :
    Calls Tryz.prog 85 #[.agg #[.int .i64 2, .int .i64 month, .int .i64 (-1), .int .i64 wday, .int .i64 off, .bool moved], .int .i64 y] w (Ret2 (Cal.mvV moved (F + (wday - Cal.wd F) % 7 + 21 + off)) (Cal.inD (Cal.mvV moved (F + (wday - Cal.wd F) % 7 + 21 + off))) w) := by
  rcases moved with _ | _
  · have e : Cal.mvV false (F + (wday - Cal.wd F) % 7 + 21 + off) = F + (wday - Cal.wd F) % 7 + 21 + off := by unfold Cal.mvV; rw [if_neg (by simp)]
    rw [e]
    by_cases hi : 0 ≤ F + (wday - Cal.wd F) % 7 + 21 + off ∧ F + (wday - Cal.wd F) % 7 + 21 + off ≤ 84005
    · rw [show Cal.inD (F + (wday - Cal.wd F) % 7 + 21 + off) = true from decide_eq_true hi]; apply rn2a_t1 <;> first | assumption | omega
    · rw [show Cal.inD (F + (wday - Cal.wd F) % 7 + 21 + off) = false from decide_eq_false hi]; apply rn2a_t2 <;> first | assumption | omega
  · by_cases hg : 5 ≤ Cal.wd (F + (wday - Cal.wd F) % 7 + 21 + off)
    · have e : Cal.mvV true (F + (wday - Cal.wd F) % 7 + 21 + off) = F + (wday - Cal.wd F) % 7 + 21 + off + (7 - Cal.wd (F + (wday - Cal.wd F) % 7 + 21 + off)) := by unfold Cal.mvV; rw [if_pos ⟨rfl, hg⟩]
      rw [e]
      have hg' := decide_eq_true hg
      by_cases hi : 0 ≤ F + (wday - Cal.wd F) % 7 + 21 + off + (7 - Cal.wd (F + (wday - Cal.wd F) % 7 + 21 + off)) ∧ F + (wday - Cal.wd F) % 7 + 21 + off + (7 - Cal.wd (F + (wday - Cal.wd F) % 7 + 21 + off)) ≤ 84005
      · rw [show Cal.inD (F + (wday - Cal.wd F) % 7 + 21 + off + (7 - Cal.wd (F + (wday - Cal.wd F) % 7 + 21 + off))) = true from decide_eq_true hi]; apply rn2a_t3 <;> first | assumption | omega
      · rw [show Cal.inD (F + (wday - Cal.wd F) % 7 + 21 + off + (7 - Cal.wd (F + (wday - Cal.wd F) % 7 + 21 + off))) = false from decide_eq_false hi]; apply rn2a_t4 <;> first | assumption | omega
    · have e : Cal.mvV true (F + (wday - Cal.wd F) % 7 + 21 + off) = F + (wday - Cal.wd F) % 7 + 21 + off := by unfold Cal.mvV; rw [if_neg (fun c => hg c.2)]
      rw [e]
      have hg' := decide_eq_false hg
      by_cases hi : 0 ≤ F + (wday - Cal.wd F) % 7 + 21 + off ∧ F + (wday - Cal.wd F) % 7 + 21 + off ≤ 84005
      · rw [show Cal.inD (F + (wday - Cal.wd F) % 7 + 21 + off) = true from decide_eq_true hi]; apply rn2a_t5 <;> first | assumption | omega
      · rw [show Cal.inD (F + (wday - Cal.wd F) % 7 + 21 + off) = false from decide_eq_false hi]; apply rn2a_t6 <;> first | assumption | omega
set_option maxRecDepth 100000 in
set_option maxHeartbeats 1000000 in
theorem rn2b_t1 (y month wday off L F : Int) (hl : (∀ w : World, Calls Tryz.prog 35 #[.int .i64 y, .int .i64 month] w fun e w' => e = .returned (.int .i64 L) ∧ w = w')) (hr : (∀ w : World, Calls Tryz.prog 53 #[.int .i64 y, .int .i64 month, .int .i64 1] w fun e w' => e = .returned (.int .i64 F) ∧ w = w')) (hn : decide (F + L ≤ F + (wday - Cal.wd F) % 7 + 28) = false) (b0 : 0 ≤ F) (b1 : F ≤ 90000) (l0 : 28 ≤ L) (l1 : L ≤ 31) (w0 : 0 ≤ wday) (w1 : wday ≤ 6) (o0 : -7 ≤ off) (o1 : off ≤ 7) (i0 : 0 ≤ F + (wday - Cal.wd F) % 7 + 28 + off) (i1 : F + (wday - Cal.wd F) % 7 + 28 + off ≤ 84005) (w : World) :
    Calls Tryz.prog 85 #[.agg #[.int .i64 2, .int .i64 month, .int .i64 (-1), .int .i64 wday, .int .i64 off, .bool false], .int .i64 y] w (Ret2 (F + (wday - Cal.wd F) % 7 + 28 + off) true w) := by
  have u0 := (Cal.wd_bd (F + (wday - Cal.wd F) % 7 + 28 + off)).1
  have u1 := (Cal.wd_bd (F + (wday - Cal.wd F) % 7 + 28 + off)).2
  go_enter Tryz.func85, Tryz.ntmps85
  have v0 := (Cal.wd_bd F).1
  have v1 := (Cal.wd_bd F).2
  go_wp2_with (first | (go_at_call 53; (with_reducible refine (hr _).mono ?_); rintro e w' ⟨rfl, rfl⟩) | (go_at_call 35; (with_reducible refine (hl _).mono ?_); rintro e w' ⟨rfl, rfl⟩))
  go_quiet ((go_at_call 71; first | (with_reducible exact quiet_left (rshown _ (by omega) (by omega) _)) | (with_reducible exact quiet_add_left (rshown _ (by omega) (by omega) _))))
  go_wp2_with (first | fail | (go_at_call 16; (with_reducible refine (rInDays_yes _ i0 i1 _).mono ?_); rintro e w' ⟨rfl, rfl⟩))
  go_ret2
  exact Ret2.of rfl rfl rfl (by first | exact Below.alloc (Below.refl _ _) (Nat.le_refl _) _ | exact below_drewN (Below.alloc (Below.refl _ _) (Nat.le_refl _) _) _ | exact below_drewN (below_drewN (Below.alloc (Below.refl _ _) (Nat.le_refl _) _) _) _)
set_option maxRecDepth 100000 in
set_option maxHeartbeats 1000000 in
theorem rn2b_t2 (y month wday off L F : Int) (hl : (∀ w : World, Calls Tryz.prog 35 #[.int .i64 y, .int .i64 month] w fun e w' => e = .returned (.int .i64 L) ∧ w = w')) (hr : (∀ w : World, Calls Tryz.prog 53 #[.int .i64 y, .int .i64 month, .int .i64 1] w fun e w' => e = .returned (.int .i64 F) ∧ w = w')) (hn : decide (F + L ≤ F + (wday - Cal.wd F) % 7 + 28) = false) (b0 : 0 ≤ F) (b1 : F ≤ 90000) (l0 : 28 ≤ L) (l1 : L ≤ 31) (w0 : 0 ≤ wday) (w1 : wday ≤ 6) (o0 : -7 ≤ off) (o1 : off ≤ 7) (hi : F + (wday - Cal.wd F) % 7 + 28 + off < 0 ∨ 84005 < F + (wday - Cal.wd F) % 7 + 28 + off) (w : World) :
    Calls Tryz.prog 85 #[.agg #[.int .i64 2, .int .i64 month, .int .i64 (-1), .int .i64 wday, .int .i64 off, .bool false], .int .i64 y] w (Ret2 (F + (wday - Cal.wd F) % 7 + 28 + off) false w) := by
  have u0 := (Cal.wd_bd (F + (wday - Cal.wd F) % 7 + 28 + off)).1
  have u1 := (Cal.wd_bd (F + (wday - Cal.wd F) % 7 + 28 + off)).2
  go_enter Tryz.func85, Tryz.ntmps85
  have v0 := (Cal.wd_bd F).1
  have v1 := (Cal.wd_bd F).2
  go_wp2_with (first | (go_at_call 53; (with_reducible refine (hr _).mono ?_); rintro e w' ⟨rfl, rfl⟩) | (go_at_call 35; (with_reducible refine (hl _).mono ?_); rintro e w' ⟨rfl, rfl⟩))
  go_quiet ((go_at_call 71; first | (with_reducible exact quiet_left (rshown _ (by omega) (by omega) _)) | (with_reducible exact quiet_add_left (rshown _ (by omega) (by omega) _))))
  go_wp2_with (first | fail | (go_at_call 16; (with_reducible refine (rInDays_no _ hi _).mono ?_); rintro e w' ⟨rfl, rfl⟩))
  go_ret2
  exact Ret2.of rfl rfl rfl (by first | exact Below.alloc (Below.refl _ _) (Nat.le_refl _) _ | exact below_drewN (Below.alloc (Below.refl _ _) (Nat.le_refl _) _) _ | exact below_drewN (below_drewN (Below.alloc (Below.refl _ _) (Nat.le_refl _) _) _) _)
set_option maxRecDepth 100000 in
set_option maxHeartbeats 1000000 in
theorem rn2b_t3 (y month wday off L F : Int) (hl : (∀ w : World, Calls Tryz.prog 35 #[.int .i64 y, .int .i64 month] w fun e w' => e = .returned (.int .i64 L) ∧ w = w')) (hr : (∀ w : World, Calls Tryz.prog 53 #[.int .i64 y, .int .i64 month, .int .i64 1] w fun e w' => e = .returned (.int .i64 F) ∧ w = w')) (hn : decide (F + L ≤ F + (wday - Cal.wd F) % 7 + 28) = false) (b0 : 0 ≤ F) (b1 : F ≤ 90000) (l0 : 28 ≤ L) (l1 : L ≤ 31) (w0 : 0 ≤ wday) (w1 : wday ≤ 6) (o0 : -7 ≤ off) (o1 : off ≤ 7) (hg : decide (5 ≤ Cal.wd (F + (wday - Cal.wd F) % 7 + 28 + off)) = true) (i0 : 0 ≤ F + (wday - Cal.wd F) % 7 + 28 + off + (7 - Cal.wd (F + (wday - Cal.wd F) % 7 + 28 + off))) (i1 : F + (wday - Cal.wd F) % 7 + 28 + off + (7 - Cal.wd (F + (wday - Cal.wd F) % 7 + 28 + off)) ≤ 84005) (w : World) :
    Calls Tryz.prog 85 #[.agg #[.int .i64 2, .int .i64 month, .int .i64 (-1), .int .i64 wday, .int .i64 off, .bool true], .int .i64 y] w (Ret2 (F + (wday - Cal.wd F) % 7 + 28 + off + (7 - Cal.wd (F + (wday - Cal.wd F) % 7 + 28 + off))) true w) := by
  have u0 := (Cal.wd_bd (F + (wday - Cal.wd F) % 7 + 28 + off)).1
  have u1 := (Cal.wd_bd (F + (wday - Cal.wd F) % 7 + 28 + off)).2
  go_enter Tryz.func85, Tryz.ntmps85
  have v0 := (Cal.wd_bd F).1
  have v1 := (Cal.wd_bd F).2
  go_wp2_with (first | (go_at_call 53; (with_reducible refine (hr _).mono ?_); rintro e w' ⟨rfl, rfl⟩) | (go_at_call 35; (with_reducible refine (hl _).mono ?_); rintro e w' ⟨rfl, rfl⟩))
  go_quiet ((go_at_call 71; first | (with_reducible exact quiet_left (rshown _ (by omega) (by omega) _)) | (with_reducible exact quiet_add_left (rshown _ (by omega) (by omega) _))))
  go_wp2_with (first | fail | (go_at_call 71; (with_reducible refine (rshown _ (by omega) (by omega) _).mono ?_); rintro e w' ⟨rfl, rfl⟩) | (go_at_call 16; (with_reducible refine (rInDays_yes _ i0 i1 _).mono ?_); rintro e w' ⟨rfl, rfl⟩))
  go_ret2
  exact Ret2.of rfl rfl rfl (by first | exact Below.alloc (Below.refl _ _) (Nat.le_refl _) _ | exact below_drewN (Below.alloc (Below.refl _ _) (Nat.le_refl _) _) _ | exact below_drewN (below_drewN (Below.alloc (Below.refl _ _) (Nat.le_refl _) _) _) _)
set_option maxRecDepth 100000 in
set_option maxHeartbeats 1000000 in
theorem rn2b_t4 (y month wday off L F : Int) (hl : (∀ w : World, Calls Tryz.prog 35 #[.int .i64 y, .int .i64 month] w fun e w' => e = .returned (.int .i64 L) ∧ w = w')) (hr : (∀ w : World, Calls Tryz.prog 53 #[.int .i64 y, .int .i64 month, .int .i64 1] w fun e w' => e = .returned (.int .i64 F) ∧ w = w')) (hn : decide (F + L ≤ F + (wday - Cal.wd F) % 7 + 28) = false) (b0 : 0 ≤ F) (b1 : F ≤ 90000) (l0 : 28 ≤ L) (l1 : L ≤ 31) (w0 : 0 ≤ wday) (w1 : wday ≤ 6) (o0 : -7 ≤ off) (o1 : off ≤ 7) (hg : decide (5 ≤ Cal.wd (F + (wday - Cal.wd F) % 7 + 28 + off)) = true) (hi : F + (wday - Cal.wd F) % 7 + 28 + off + (7 - Cal.wd (F + (wday - Cal.wd F) % 7 + 28 + off)) < 0 ∨ 84005 < F + (wday - Cal.wd F) % 7 + 28 + off + (7 - Cal.wd (F + (wday - Cal.wd F) % 7 + 28 + off))) (w : World) :
    Calls Tryz.prog 85 #[.agg #[.int .i64 2, .int .i64 month, .int .i64 (-1), .int .i64 wday, .int .i64 off, .bool true], .int .i64 y] w (Ret2 (F + (wday - Cal.wd F) % 7 + 28 + off + (7 - Cal.wd (F + (wday - Cal.wd F) % 7 + 28 + off))) false w) := by
  have u0 := (Cal.wd_bd (F + (wday - Cal.wd F) % 7 + 28 + off)).1
  have u1 := (Cal.wd_bd (F + (wday - Cal.wd F) % 7 + 28 + off)).2
  go_enter Tryz.func85, Tryz.ntmps85
  have v0 := (Cal.wd_bd F).1
  have v1 := (Cal.wd_bd F).2
  go_wp2_with (first | (go_at_call 53; (with_reducible refine (hr _).mono ?_); rintro e w' ⟨rfl, rfl⟩) | (go_at_call 35; (with_reducible refine (hl _).mono ?_); rintro e w' ⟨rfl, rfl⟩))
  go_quiet ((go_at_call 71; first | (with_reducible exact quiet_left (rshown _ (by omega) (by omega) _)) | (with_reducible exact quiet_add_left (rshown _ (by omega) (by omega) _))))
  go_wp2_with (first | fail | (go_at_call 71; (with_reducible refine (rshown _ (by omega) (by omega) _).mono ?_); rintro e w' ⟨rfl, rfl⟩) | (go_at_call 16; (with_reducible refine (rInDays_no _ hi _).mono ?_); rintro e w' ⟨rfl, rfl⟩))
  go_ret2
  exact Ret2.of rfl rfl rfl (by first | exact Below.alloc (Below.refl _ _) (Nat.le_refl _) _ | exact below_drewN (Below.alloc (Below.refl _ _) (Nat.le_refl _) _) _ | exact below_drewN (below_drewN (Below.alloc (Below.refl _ _) (Nat.le_refl _) _) _) _)
set_option maxRecDepth 100000 in
set_option maxHeartbeats 1000000 in
theorem rn2b_t5 (y month wday off L F : Int) (hl : (∀ w : World, Calls Tryz.prog 35 #[.int .i64 y, .int .i64 month] w fun e w' => e = .returned (.int .i64 L) ∧ w = w')) (hr : (∀ w : World, Calls Tryz.prog 53 #[.int .i64 y, .int .i64 month, .int .i64 1] w fun e w' => e = .returned (.int .i64 F) ∧ w = w')) (hn : decide (F + L ≤ F + (wday - Cal.wd F) % 7 + 28) = false) (b0 : 0 ≤ F) (b1 : F ≤ 90000) (l0 : 28 ≤ L) (l1 : L ≤ 31) (w0 : 0 ≤ wday) (w1 : wday ≤ 6) (o0 : -7 ≤ off) (o1 : off ≤ 7) (hg : decide (5 ≤ Cal.wd (F + (wday - Cal.wd F) % 7 + 28 + off)) = false) (i0 : 0 ≤ F + (wday - Cal.wd F) % 7 + 28 + off) (i1 : F + (wday - Cal.wd F) % 7 + 28 + off ≤ 84005) (w : World) :
    Calls Tryz.prog 85 #[.agg #[.int .i64 2, .int .i64 month, .int .i64 (-1), .int .i64 wday, .int .i64 off, .bool true], .int .i64 y] w (Ret2 (F + (wday - Cal.wd F) % 7 + 28 + off) true w) := by
  have u0 := (Cal.wd_bd (F + (wday - Cal.wd F) % 7 + 28 + off)).1
  have u1 := (Cal.wd_bd (F + (wday - Cal.wd F) % 7 + 28 + off)).2
  go_enter Tryz.func85, Tryz.ntmps85
  have v0 := (Cal.wd_bd F).1
  have v1 := (Cal.wd_bd F).2
  go_wp2_with (first | (go_at_call 53; (with_reducible refine (hr _).mono ?_); rintro e w' ⟨rfl, rfl⟩) | (go_at_call 35; (with_reducible refine (hl _).mono ?_); rintro e w' ⟨rfl, rfl⟩))
  go_quiet ((go_at_call 71; first | (with_reducible exact quiet_left (rshown _ (by omega) (by omega) _)) | (with_reducible exact quiet_add_left (rshown _ (by omega) (by omega) _))))
  go_wp2_with (first | fail | (go_at_call 71; (with_reducible refine (rshown _ (by omega) (by omega) _).mono ?_); rintro e w' ⟨rfl, rfl⟩) | (go_at_call 16; (with_reducible refine (rInDays_yes _ i0 i1 _).mono ?_); rintro e w' ⟨rfl, rfl⟩))
  go_ret2
  exact Ret2.of rfl rfl rfl (by first | exact Below.alloc (Below.refl _ _) (Nat.le_refl _) _ | exact below_drewN (Below.alloc (Below.refl _ _) (Nat.le_refl _) _) _ | exact below_drewN (below_drewN (Below.alloc (Below.refl _ _) (Nat.le_refl _) _) _) _)
set_option maxRecDepth 100000 in
set_option maxHeartbeats 1000000 in
theorem rn2b_t6 (y month wday off L F : Int) (hl : (∀ w : World, Calls Tryz.prog 35 #[.int .i64 y, .int .i64 month] w fun e w' => e = .returned (.int .i64 L) ∧ w = w')) (hr : (∀ w : World, Calls Tryz.prog 53 #[.int .i64 y, .int .i64 month, .int .i64 1] w fun e w' => e = .returned (.int .i64 F) ∧ w = w')) (hn : decide (F + L ≤ F + (wday - Cal.wd F) % 7 + 28) = false) (b0 : 0 ≤ F) (b1 : F ≤ 90000) (l0 : 28 ≤ L) (l1 : L ≤ 31) (w0 : 0 ≤ wday) (w1 : wday ≤ 6) (o0 : -7 ≤ off) (o1 : off ≤ 7) (hg : decide (5 ≤ Cal.wd (F + (wday - Cal.wd F) % 7 + 28 + off)) = false) (hi : F + (wday - Cal.wd F) % 7 + 28 + off < 0 ∨ 84005 < F + (wday - Cal.wd F) % 7 + 28 + off) (w : World) :
    Calls Tryz.prog 85 #[.agg #[.int .i64 2, .int .i64 month, .int .i64 (-1), .int .i64 wday, .int .i64 off, .bool true], .int .i64 y] w (Ret2 (F + (wday - Cal.wd F) % 7 + 28 + off) false w) := by
  have u0 := (Cal.wd_bd (F + (wday - Cal.wd F) % 7 + 28 + off)).1
  have u1 := (Cal.wd_bd (F + (wday - Cal.wd F) % 7 + 28 + off)).2
  go_enter Tryz.func85, Tryz.ntmps85
  have v0 := (Cal.wd_bd F).1
  have v1 := (Cal.wd_bd F).2
  go_wp2_with (first | (go_at_call 53; (with_reducible refine (hr _).mono ?_); rintro e w' ⟨rfl, rfl⟩) | (go_at_call 35; (with_reducible refine (hl _).mono ?_); rintro e w' ⟨rfl, rfl⟩))
  go_quiet ((go_at_call 71; first | (with_reducible exact quiet_left (rshown _ (by omega) (by omega) _)) | (with_reducible exact quiet_add_left (rshown _ (by omega) (by omega) _))))
  go_wp2_with (first | fail | (go_at_call 71; (with_reducible refine (rshown _ (by omega) (by omega) _).mono ?_); rintro e w' ⟨rfl, rfl⟩) | (go_at_call 16; (with_reducible refine (rInDays_no _ hi _).mono ?_); rintro e w' ⟨rfl, rfl⟩))
  go_ret2
  exact Ret2.of rfl rfl rfl (by first | exact Below.alloc (Below.refl _ _) (Nat.le_refl _) _ | exact below_drewN (Below.alloc (Below.refl _ _) (Nat.le_refl _) _) _ | exact below_drewN (below_drewN (Below.alloc (Below.refl _ _) (Nat.le_refl _) _) _) _)
theorem rn2b (y month wday off L F : Int) (moved : Bool) (hl : (∀ w : World, Calls Tryz.prog 35 #[.int .i64 y, .int .i64 month] w fun e w' => e = .returned (.int .i64 L) ∧ w = w')) (hr : (∀ w : World, Calls Tryz.prog 53 #[.int .i64 y, .int .i64 month, .int .i64 1] w fun e w' => e = .returned (.int .i64 F) ∧ w = w')) (hn : decide (F + L ≤ F + (wday - Cal.wd F) % 7 + 28) = false) (b0 : 0 ≤ F) (b1 : F ≤ 90000) (l0 : 28 ≤ L) (l1 : L ≤ 31) (w0 : 0 ≤ wday) (w1 : wday ≤ 6) (o0 : -7 ≤ off) (o1 : off ≤ 7) (w : World) :
    Calls Tryz.prog 85 #[.agg #[.int .i64 2, .int .i64 month, .int .i64 (-1), .int .i64 wday, .int .i64 off, .bool moved], .int .i64 y] w (Ret2 (Cal.mvV moved (F + (wday - Cal.wd F) % 7 + 28 + off)) (Cal.inD (Cal.mvV moved (F + (wday - Cal.wd F) % 7 + 28 + off))) w) := by
  rcases moved with _ | _
  · have e : Cal.mvV false (F + (wday - Cal.wd F) % 7 + 28 + off) = F + (wday - Cal.wd F) % 7 + 28 + off := by unfold Cal.mvV; rw [if_neg (by simp)]
    rw [e]
    by_cases hi : 0 ≤ F + (wday - Cal.wd F) % 7 + 28 + off ∧ F + (wday - Cal.wd F) % 7 + 28 + off ≤ 84005
    · rw [show Cal.inD (F + (wday - Cal.wd F) % 7 + 28 + off) = true from decide_eq_true hi]; apply rn2b_t1 <;> first | assumption | omega
    · rw [show Cal.inD (F + (wday - Cal.wd F) % 7 + 28 + off) = false from decide_eq_false hi]; apply rn2b_t2 <;> first | assumption | omega
  · by_cases hg : 5 ≤ Cal.wd (F + (wday - Cal.wd F) % 7 + 28 + off)
    · have e : Cal.mvV true (F + (wday - Cal.wd F) % 7 + 28 + off) = F + (wday - Cal.wd F) % 7 + 28 + off + (7 - Cal.wd (F + (wday - Cal.wd F) % 7 + 28 + off)) := by unfold Cal.mvV; rw [if_pos ⟨rfl, hg⟩]
      rw [e]
      have hg' := decide_eq_true hg
      by_cases hi : 0 ≤ F + (wday - Cal.wd F) % 7 + 28 + off + (7 - Cal.wd (F + (wday - Cal.wd F) % 7 + 28 + off)) ∧ F + (wday - Cal.wd F) % 7 + 28 + off + (7 - Cal.wd (F + (wday - Cal.wd F) % 7 + 28 + off)) ≤ 84005
      · rw [show Cal.inD (F + (wday - Cal.wd F) % 7 + 28 + off + (7 - Cal.wd (F + (wday - Cal.wd F) % 7 + 28 + off))) = true from decide_eq_true hi]; apply rn2b_t3 <;> first | assumption | omega
      · rw [show Cal.inD (F + (wday - Cal.wd F) % 7 + 28 + off + (7 - Cal.wd (F + (wday - Cal.wd F) % 7 + 28 + off))) = false from decide_eq_false hi]; apply rn2b_t4 <;> first | assumption | omega
    · have e : Cal.mvV true (F + (wday - Cal.wd F) % 7 + 28 + off) = F + (wday - Cal.wd F) % 7 + 28 + off := by unfold Cal.mvV; rw [if_neg (fun c => hg c.2)]
      rw [e]
      have hg' := decide_eq_false hg
      by_cases hi : 0 ≤ F + (wday - Cal.wd F) % 7 + 28 + off ∧ F + (wday - Cal.wd F) % 7 + 28 + off ≤ 84005
      · rw [show Cal.inD (F + (wday - Cal.wd F) % 7 + 28 + off) = true from decide_eq_true hi]; apply rn2b_t5 <;> first | assumption | omega
      · rw [show Cal.inD (F + (wday - Cal.wd F) % 7 + 28 + off) = false from decide_eq_false hi]; apply rn2b_t6 <;> first | assumption | omega
set_option maxRecDepth 100000 in
set_option maxHeartbeats 1000000 in
theorem rn2c_t1 (y month day wday off L F : Int) (hl : (∀ w : World, Calls Tryz.prog 35 #[.int .i64 y, .int .i64 month] w fun e w' => e = .returned (.int .i64 L) ∧ w = w')) (hr : (∀ w : World, Calls Tryz.prog 53 #[.int .i64 y, .int .i64 month, .int .i64 1] w fun e w' => e = .returned (.int .i64 F) ∧ w = w')) (hd : (day == -1) = false) (d0 : 1 ≤ day) (d1 : day ≤ 5) (hx : decide (F + L ≤ F + (wday - Cal.wd F) % 7 + 7 * (day - 1)) = false) (b0 : 0 ≤ F) (b1 : F ≤ 90000) (l0 : 28 ≤ L) (l1 : L ≤ 31) (w0 : 0 ≤ wday) (w1 : wday ≤ 6) (o0 : -7 ≤ off) (o1 : off ≤ 7) (i0 : 0 ≤ F + (wday - Cal.wd F) % 7 + 7 * (day - 1) + off) (i1 : F + (wday - Cal.wd F) % 7 + 7 * (day - 1) + off ≤ 84005) (w : World) :
    Calls Tryz.prog 85 #[.agg #[.int .i64 2, .int .i64 month, .int .i64 day, .int .i64 wday, .int .i64 off, .bool false], .int .i64 y] w (Ret2 (F + (wday - Cal.wd F) % 7 + 7 * (day - 1) + off) true w) := by
  have u0 := (Cal.wd_bd (F + (wday - Cal.wd F) % 7 + 7 * (day - 1) + off)).1
  have u1 := (Cal.wd_bd (F + (wday - Cal.wd F) % 7 + 7 * (day - 1) + off)).2
  go_enter Tryz.func85, Tryz.ntmps85
  have v0 := (Cal.wd_bd F).1
  have v1 := (Cal.wd_bd F).2
  go_wp2_with (first | (go_at_call 53; (with_reducible refine (hr _).mono ?_); rintro e w' ⟨rfl, rfl⟩) | (go_at_call 35; (with_reducible refine (hl _).mono ?_); rintro e w' ⟨rfl, rfl⟩))
  go_quiet ((go_at_call 71; first | (with_reducible exact quiet_left (rshown _ (by omega) (by omega) _)) | (with_reducible exact quiet_add_left (rshown _ (by omega) (by omega) _))))
  go_wp2_with (first | fail | (go_at_call 16; (with_reducible refine (rInDays_yes _ i0 i1 _).mono ?_); rintro e w' ⟨rfl, rfl⟩))
  go_ret2
  exact Ret2.of rfl rfl rfl (by first | exact Below.alloc (Below.refl _ _) (Nat.le_refl _) _ | exact below_drewN (Below.alloc (Below.refl _ _) (Nat.le_refl _) _) _ | exact below_drewN (below_drewN (Below.alloc (Below.refl _ _) (Nat.le_refl _) _) _) _)
set_option maxRecDepth 100000 in
set_option maxHeartbeats 1000000 in
theorem rn2c_t2 (y month day wday off L F : Int) (hl : (∀ w : World, Calls Tryz.prog 35 #[.int .i64 y, .int .i64 month] w fun e w' => e = .returned (.int .i64 L) ∧ w = w')) (hr : (∀ w : World, Calls Tryz.prog 53 #[.int .i64 y, .int .i64 month, .int .i64 1] w fun e w' => e = .returned (.int .i64 F) ∧ w = w')) (hd : (day == -1) = false) (d0 : 1 ≤ day) (d1 : day ≤ 5) (hx : decide (F + L ≤ F + (wday - Cal.wd F) % 7 + 7 * (day - 1)) = false) (b0 : 0 ≤ F) (b1 : F ≤ 90000) (l0 : 28 ≤ L) (l1 : L ≤ 31) (w0 : 0 ≤ wday) (w1 : wday ≤ 6) (o0 : -7 ≤ off) (o1 : off ≤ 7) (hi : F + (wday - Cal.wd F) % 7 + 7 * (day - 1) + off < 0 ∨ 84005 < F + (wday - Cal.wd F) % 7 + 7 * (day - 1) + off) (w : World) :
    Calls Tryz.prog 85 #[.agg #[.int .i64 2, .int .i64 month, .int .i64 day, .int .i64 wday, .int .i64 off, .bool false], .int .i64 y] w (Ret2 (F + (wday - Cal.wd F) % 7 + 7 * (day - 1) + off) false w) := by
  have u0 := (Cal.wd_bd (F + (wday - Cal.wd F) % 7 + 7 * (day - 1) + off)).1
  have u1 := (Cal.wd_bd (F + (wday - Cal.wd F) % 7 + 7 * (day - 1) + off)).2
  go_enter Tryz.func85, Tryz.ntmps85
  have v0 := (Cal.wd_bd F).1
  have v1 := (Cal.wd_bd F).2
  go_wp2_with (first | (go_at_call 53; (with_reducible refine (hr _).mono ?_); rintro e w' ⟨rfl, rfl⟩) | (go_at_call 35; (with_reducible refine (hl _).mono ?_); rintro e w' ⟨rfl, rfl⟩))
  go_quiet ((go_at_call 71; first | (with_reducible exact quiet_left (rshown _ (by omega) (by omega) _)) | (with_reducible exact quiet_add_left (rshown _ (by omega) (by omega) _))))
  go_wp2_with (first | fail | (go_at_call 16; (with_reducible refine (rInDays_no _ hi _).mono ?_); rintro e w' ⟨rfl, rfl⟩))
  go_ret2
  exact Ret2.of rfl rfl rfl (by first | exact Below.alloc (Below.refl _ _) (Nat.le_refl _) _ | exact below_drewN (Below.alloc (Below.refl _ _) (Nat.le_refl _) _) _ | exact below_drewN (below_drewN (Below.alloc (Below.refl _ _) (Nat.le_refl _) _) _) _)
set_option maxRecDepth 100000 in
set_option maxHeartbeats 1000000 in
theorem rn2c_t3 (y month day wday off L F : Int) (hl : (∀ w : World, Calls Tryz.prog 35 #[.int .i64 y, .int .i64 month] w fun e w' => e = .returned (.int .i64 L) ∧ w = w')) (hr : (∀ w : World, Calls Tryz.prog 53 #[.int .i64 y, .int .i64 month, .int .i64 1] w fun e w' => e = .returned (.int .i64 F) ∧ w = w')) (hd : (day == -1) = false) (d0 : 1 ≤ day) (d1 : day ≤ 5) (hx : decide (F + L ≤ F + (wday - Cal.wd F) % 7 + 7 * (day - 1)) = false) (b0 : 0 ≤ F) (b1 : F ≤ 90000) (l0 : 28 ≤ L) (l1 : L ≤ 31) (w0 : 0 ≤ wday) (w1 : wday ≤ 6) (o0 : -7 ≤ off) (o1 : off ≤ 7) (hg : decide (5 ≤ Cal.wd (F + (wday - Cal.wd F) % 7 + 7 * (day - 1) + off)) = true) (i0 : 0 ≤ F + (wday - Cal.wd F) % 7 + 7 * (day - 1) + off + (7 - Cal.wd (F + (wday - Cal.wd F) % 7 + 7 * (day - 1) + off))) (i1 : F + (wday - Cal.wd F) % 7 + 7 * (day - 1) + off + (7 - Cal.wd (F + (wday - Cal.wd F) % 7 + 7 * (day - 1) + off)) ≤ 84005) (w : World) :
    Calls Tryz.prog 85 #[.agg #[.int .i64 2, .int .i64 month, .int .i64 day, .int .i64 wday, .int .i64 off, .bool true], .int .i64 y] w (Ret2 (F + (wday - Cal.wd F) % 7 + 7 * (day - 1) + off + (7 - Cal.wd (F + (wday - Cal.wd F) % 7 + 7 * (day - 1) + off))) true w) := by
  have u0 := (Cal.wd_bd (F + (wday - Cal.wd F) % 7 + 7 * (day - 1) + off)).1
  have u1 := (Cal.wd_bd (F + (wday - Cal.wd F) % 7 + 7 * (day - 1) + off)).2
  go_enter Tryz.func85, Tryz.ntmps85
  have v0 := (Cal.wd_bd F).1
  have v1 := (Cal.wd_bd F).2
  go_wp2_with (first | (go_at_call 53; (with_reducible refine (hr _).mono ?_); rintro e w' ⟨rfl, rfl⟩) | (go_at_call 35; (with_reducible refine (hl _).mono ?_); rintro e w' ⟨rfl, rfl⟩))
  go_quiet ((go_at_call 71; first | (with_reducible exact quiet_left (rshown _ (by omega) (by omega) _)) | (with_reducible exact quiet_add_left (rshown _ (by omega) (by omega) _))))
  go_wp2_with (first | fail | (go_at_call 71; (with_reducible refine (rshown _ (by omega) (by omega) _).mono ?_); rintro e w' ⟨rfl, rfl⟩) | (go_at_call 16; (with_reducible refine (rInDays_yes _ i0 i1 _).mono ?_); rintro e w' ⟨rfl, rfl⟩))
  go_ret2
  exact Ret2.of rfl rfl rfl (by first | exact Below.alloc (Below.refl _ _) (Nat.le_refl _) _ | exact below_drewN (Below.alloc (Below.refl _ _) (Nat.le_refl _) _) _ | exact below_drewN (below_drewN (Below.alloc (Below.refl _ _) (Nat.le_refl _) _) _) _)
set_option maxRecDepth 100000 in
set_option maxHeartbeats 1000000 in
theorem rn2c_t4 (y month day wday off L F : Int) (hl : (∀ w : World, Calls Tryz.prog 35 #[.int .i64 y, .int .i64 month] w fun e w' => e = .returned (.int .i64 L) ∧ w = w')) (hr : (∀ w : World, Calls Tryz.prog 53 #[.int .i64 y, .int .i64 month, .int .i64 1] w fun e w' => e = .returned (.int .i64 F) ∧ w = w')) (hd : (day == -1) = false) (d0 : 1 ≤ day) (d1 : day ≤ 5) (hx : decide (F + L ≤ F + (wday - Cal.wd F) % 7 + 7 * (day - 1)) = false) (b0 : 0 ≤ F) (b1 : F ≤ 90000) (l0 : 28 ≤ L) (l1 : L ≤ 31) (w0 : 0 ≤ wday) (w1 : wday ≤ 6) (o0 : -7 ≤ off) (o1 : off ≤ 7) (hg : decide (5 ≤ Cal.wd (F + (wday - Cal.wd F) % 7 + 7 * (day - 1) + off)) = true) (hi : F + (wday - Cal.wd F) % 7 + 7 * (day - 1) + off + (7 - Cal.wd (F + (wday - Cal.wd F) % 7 + 7 * (day - 1) + off)) < 0 ∨ 84005 < F + (wday - Cal.wd F) % 7 + 7 * (day - 1) + off + (7 - Cal.wd (F + (wday - Cal.wd F) % 7 + 7 * (day - 1) + off))) (w : World) :
    Calls Tryz.prog 85 #[.agg #[.int .i64 2, .int .i64 month, .int .i64 day, .int .i64 wday, .int .i64 off, .bool true], .int .i64 y] w (Ret2 (F + (wday - Cal.wd F) % 7 + 7 * (day - 1) + off + (7 - Cal.wd (F + (wday - Cal.wd F) % 7 + 7 * (day - 1) + off))) false w) := by
  have u0 := (Cal.wd_bd (F + (wday - Cal.wd F) % 7 + 7 * (day - 1) + off)).1
  have u1 := (Cal.wd_bd (F + (wday - Cal.wd F) % 7 + 7 * (day - 1) + off)).2
  go_enter Tryz.func85, Tryz.ntmps85
  have v0 := (Cal.wd_bd F).1
  have v1 := (Cal.wd_bd F).2
  go_wp2_with (first | (go_at_call 53; (with_reducible refine (hr _).mono ?_); rintro e w' ⟨rfl, rfl⟩) | (go_at_call 35; (with_reducible refine (hl _).mono ?_); rintro e w' ⟨rfl, rfl⟩))
  go_quiet ((go_at_call 71; first | (with_reducible exact quiet_left (rshown _ (by omega) (by omega) _)) | (with_reducible exact quiet_add_left (rshown _ (by omega) (by omega) _))))
  go_wp2_with (first | fail | (go_at_call 71; (with_reducible refine (rshown _ (by omega) (by omega) _).mono ?_); rintro e w' ⟨rfl, rfl⟩) | (go_at_call 16; (with_reducible refine (rInDays_no _ hi _).mono ?_); rintro e w' ⟨rfl, rfl⟩))
  go_ret2
  exact Ret2.of rfl rfl rfl (by first | exact Below.alloc (Below.refl _ _) (Nat.le_refl _) _ | exact below_drewN (Below.alloc (Below.refl _ _) (Nat.le_refl _) _) _ | exact below_drewN (below_drewN (Below.alloc (Below.refl _ _) (Nat.le_refl _) _) _) _)
set_option maxRecDepth 100000 in
set_option maxHeartbeats 1000000 in
theorem rn2c_t5 (y month day wday off L F : Int) (hl : (∀ w : World, Calls Tryz.prog 35 #[.int .i64 y, .int .i64 month] w fun e w' => e = .returned (.int .i64 L) ∧ w = w')) (hr : (∀ w : World, Calls Tryz.prog 53 #[.int .i64 y, .int .i64 month, .int .i64 1] w fun e w' => e = .returned (.int .i64 F) ∧ w = w')) (hd : (day == -1) = false) (d0 : 1 ≤ day) (d1 : day ≤ 5) (hx : decide (F + L ≤ F + (wday - Cal.wd F) % 7 + 7 * (day - 1)) = false) (b0 : 0 ≤ F) (b1 : F ≤ 90000) (l0 : 28 ≤ L) (l1 : L ≤ 31) (w0 : 0 ≤ wday) (w1 : wday ≤ 6) (o0 : -7 ≤ off) (o1 : off ≤ 7) (hg : decide (5 ≤ Cal.wd (F + (wday - Cal.wd F) % 7 + 7 * (day - 1) + off)) = false) (i0 : 0 ≤ F + (wday - Cal.wd F) % 7 + 7 * (day - 1) + off) (i1 : F + (wday - Cal.wd F) % 7 + 7 * (day - 1) + off ≤ 84005) (w : World) :
    Calls Tryz.prog 85 #[.agg #[.int .i64 2, .int .i64 month, .int .i64 day, .int .i64 wday, .int .i64 off, .bool true], .int .i64 y] w (Ret2 (F + (wday - Cal.wd F) % 7 + 7 * (day - 1) + off) true w) := by
  have u0 := (Cal.wd_bd (F + (wday - Cal.wd F) % 7 + 7 * (day - 1) + off)).1
  have u1 := (Cal.wd_bd (F + (wday - Cal.wd F) % 7 + 7 * (day - 1) + off)).2
  go_enter Tryz.func85, Tryz.ntmps85
  have v0 := (Cal.wd_bd F).1
  have v1 := (Cal.wd_bd F).2
  go_wp2_with (first | (go_at_call 53; (with_reducible refine (hr _).mono ?_); rintro e w' ⟨rfl, rfl⟩) | (go_at_call 35; (with_reducible refine (hl _).mono ?_); rintro e w' ⟨rfl, rfl⟩))
  go_quiet ((go_at_call 71; first | (with_reducible exact quiet_left (rshown _ (by omega) (by omega) _)) | (with_reducible exact quiet_add_left (rshown _ (by omega) (by omega) _))))
  go_wp2_with (first | fail | (go_at_call 71; (with_reducible refine (rshown _ (by omega) (by omega) _).mono ?_); rintro e w' ⟨rfl, rfl⟩) | (go_at_call 16; (with_reducible refine (rInDays_yes _ i0 i1 _).mono ?_); rintro e w' ⟨rfl, rfl⟩))
  go_ret2
  exact Ret2.of rfl rfl rfl (by first | exact Below.alloc (Below.refl _ _) (Nat.le_refl _) _ | exact below_drewN (Below.alloc (Below.refl _ _) (Nat.le_refl _) _) _ | exact below_drewN (below_drewN (Below.alloc (Below.refl _ _) (Nat.le_refl _) _) _) _)
set_option maxRecDepth 100000 in
set_option maxHeartbeats 1000000 in
theorem rn2c_t6 (y month day wday off L F : Int) (hl : (∀ w : World, Calls Tryz.prog 35 #[.int .i64 y, .int .i64 month] w fun e w' => e = .returned (.int .i64 L) ∧ w = w')) (hr : (∀ w : World, Calls Tryz.prog 53 #[.int .i64 y, .int .i64 month, .int .i64 1] w fun e w' => e = .returned (.int .i64 F) ∧ w = w')) (hd : (day == -1) = false) (d0 : 1 ≤ day) (d1 : day ≤ 5) (hx : decide (F + L ≤ F + (wday - Cal.wd F) % 7 + 7 * (day - 1)) = false) (b0 : 0 ≤ F) (b1 : F ≤ 90000) (l0 : 28 ≤ L) (l1 : L ≤ 31) (w0 : 0 ≤ wday) (w1 : wday ≤ 6) (o0 : -7 ≤ off) (o1 : off ≤ 7) (hg : decide (5 ≤ Cal.wd (F + (wday - Cal.wd F) % 7 + 7 * (day - 1) + off)) = false) (hi : F + (wday - Cal.wd F) % 7 + 7 * (day - 1) + off < 0 ∨ 84005 < F + (wday - Cal.wd F) % 7 + 7 * (day - 1) + off) (w : World) :
    Calls Tryz.prog 85 #[.agg #[.int .i64 2, .int .i64 month, .int .i64 day, .int .i64 wday, .int .i64 off, .bool true], .int .i64 y] w (Ret2 (F + (wday - Cal.wd F) % 7 + 7 * (day - 1) + off) false w) := by
  have u0 := (Cal.wd_bd (F + (wday - Cal.wd F) % 7 + 7 * (day - 1) + off)).1
  have u1 := (Cal.wd_bd (F + (wday - Cal.wd F) % 7 + 7 * (day - 1) + off)).2
  go_enter Tryz.func85, Tryz.ntmps85
  have v0 := (Cal.wd_bd F).1
  have v1 := (Cal.wd_bd F).2
  go_wp2_with (first | (go_at_call 53; (with_reducible refine (hr _).mono ?_); rintro e w' ⟨rfl, rfl⟩) | (go_at_call 35; (with_reducible refine (hl _).mono ?_); rintro e w' ⟨rfl, rfl⟩))
  go_quiet ((go_at_call 71; first | (with_reducible exact quiet_left (rshown _ (by omega) (by omega) _)) | (with_reducible exact quiet_add_left (rshown _ (by omega) (by omega) _))))
  go_wp2_with (first | fail | (go_at_call 71; (with_reducible refine (rshown _ (by omega) (by omega) _).mono ?_); rintro e w' ⟨rfl, rfl⟩) | (go_at_call 16; (with_reducible refine (rInDays_no _ hi _).mono ?_); rintro e w' ⟨rfl, rfl⟩))
  go_ret2
  exact Ret2.of rfl rfl rfl (by first | exact Below.alloc (Below.refl _ _) (Nat.le_refl _) _ | exact below_drewN (Below.alloc (Below.refl _ _) (Nat.le_refl _) _) _ | exact below_drewN (below_drewN (Below.alloc (Below.refl _ _) (Nat.le_refl _) _) _) _)
theorem rn2c (y month day wday off L F : Int) (moved : Bool) (hl : (∀ w : World, Calls Tryz.prog 35 #[.int .i64 y, .int .i64 month] w fun e w' => e = .returned (.int .i64 L) ∧ w = w')) (hr : (∀ w : World, Calls Tryz.prog 53 #[.int .i64 y, .int .i64 month, .int .i64 1] w fun e w' => e = .returned (.int .i64 F) ∧ w = w')) (hd : (day == -1) = false) (d0 : 1 ≤ day) (d1 : day ≤ 5) (hx : decide (F + L ≤ F + (wday - Cal.wd F) % 7 + 7 * (day - 1)) = false) (b0 : 0 ≤ F) (b1 : F ≤ 90000) (l0 : 28 ≤ L) (l1 : L ≤ 31) (w0 : 0 ≤ wday) (w1 : wday ≤ 6) (o0 : -7 ≤ off) (o1 : off ≤ 7) (w : World) :
    Calls Tryz.prog 85 #[.agg #[.int .i64 2, .int .i64 month, .int .i64 day, .int .i64 wday, .int .i64 off, .bool moved], .int .i64 y] w (Ret2 (Cal.mvV moved (F + (wday - Cal.wd F) % 7 + 7 * (day - 1) + off)) (Cal.inD (Cal.mvV moved (F + (wday - Cal.wd F) % 7 + 7 * (day - 1) + off))) w) := by
  rcases moved with _ | _
  · have e : Cal.mvV false (F + (wday - Cal.wd F) % 7 + 7 * (day - 1) + off) = F + (wday - Cal.wd F) % 7 + 7 * (day - 1) + off := by unfold Cal.mvV; rw [if_neg (by simp)]
    rw [e]
    by_cases hi : 0 ≤ F + (wday - Cal.wd F) % 7 + 7 * (day - 1) + off ∧ F + (wday - Cal.wd F) % 7 + 7 * (day - 1) + off ≤ 84005
    · rw [show Cal.inD (F + (wday - Cal.wd F) % 7 + 7 * (day - 1) + off) = true from decide_eq_true hi]; apply rn2c_t1 <;> first | assumption | omega
    · rw [show Cal.inD (F + (wday - Cal.wd F) % 7 + 7 * (day - 1) + off) = false from decide_eq_false hi]; apply rn2c_t2 <;> first | assumption | omega
  · by_cases hg : 5 ≤ Cal.wd (F + (wday - Cal.wd F) % 7 + 7 * (day - 1) + off)
    · have e : Cal.mvV true (F + (wday - Cal.wd F) % 7 + 7 * (day - 1) + off) = F + (wday - Cal.wd F) % 7 + 7 * (day - 1) + off + (7 - Cal.wd (F + (wday - Cal.wd F) % 7 + 7 * (day - 1) + off)) := by unfold Cal.mvV; rw [if_pos ⟨rfl, hg⟩]
      rw [e]
      have hg' := decide_eq_true hg
      by_cases hi : 0 ≤ F + (wday - Cal.wd F) % 7 + 7 * (day - 1) + off + (7 - Cal.wd (F + (wday - Cal.wd F) % 7 + 7 * (day - 1) + off)) ∧ F + (wday - Cal.wd F) % 7 + 7 * (day - 1) + off + (7 - Cal.wd (F + (wday - Cal.wd F) % 7 + 7 * (day - 1) + off)) ≤ 84005
      · rw [show Cal.inD (F + (wday - Cal.wd F) % 7 + 7 * (day - 1) + off + (7 - Cal.wd (F + (wday - Cal.wd F) % 7 + 7 * (day - 1) + off))) = true from decide_eq_true hi]; apply rn2c_t3 <;> first | assumption | omega
      · rw [show Cal.inD (F + (wday - Cal.wd F) % 7 + 7 * (day - 1) + off + (7 - Cal.wd (F + (wday - Cal.wd F) % 7 + 7 * (day - 1) + off))) = false from decide_eq_false hi]; apply rn2c_t4 <;> first | assumption | omega
    · have e : Cal.mvV true (F + (wday - Cal.wd F) % 7 + 7 * (day - 1) + off) = F + (wday - Cal.wd F) % 7 + 7 * (day - 1) + off := by unfold Cal.mvV; rw [if_neg (fun c => hg c.2)]
      rw [e]
      have hg' := decide_eq_false hg
      by_cases hi : 0 ≤ F + (wday - Cal.wd F) % 7 + 7 * (day - 1) + off ∧ F + (wday - Cal.wd F) % 7 + 7 * (day - 1) + off ≤ 84005
      · rw [show Cal.inD (F + (wday - Cal.wd F) % 7 + 7 * (day - 1) + off) = true from decide_eq_true hi]; apply rn2c_t5 <;> first | assumption | omega
      · rw [show Cal.inD (F + (wday - Cal.wd F) % 7 + 7 * (day - 1) + off) = false from decide_eq_false hi]; apply rn2c_t6 <;> first | assumption | omega
set_option maxRecDepth 100000 in
set_option maxHeartbeats 1000000 in
theorem rn0x (y month day L : Int) (moved : Bool) (hl : (∀ w : World, Calls Tryz.prog 35 #[.int .i64 y, .int .i64 month] w fun e w' => e = .returned (.int .i64 L) ∧ w = w')) (hd : decide (L < day) = true) (w : World) :
    Calls Tryz.prog 85 #[.agg #[.int .i64 0, .int .i64 month, .int .i64 day, .int .i64 0, .int .i64 0, .bool moved], .int .i64 y] w (Ret2 0 false w) := by
  go_enter Tryz.func85, Tryz.ntmps85
  go_wp2
  go_quiet ((go_at_call 35; first | (with_reducible exact quiet_left (hl _)) | (with_reducible exact quiet_add_left (hl _))))
  go_wp2
  go_ret2
  exact Ret2.of rfl rfl rfl (by first | exact Below.alloc (Below.refl _ _) (Nat.le_refl _) _ | exact below_drewN (Below.alloc (Below.refl _ _) (Nat.le_refl _) _) _ | exact below_drewN (below_drewN (Below.alloc (Below.refl _ _) (Nat.le_refl _) _) _) _)
set_option maxRecDepth 100000 in
set_option maxHeartbeats 1000000 in
theorem rn2x (y month day wday off L F : Int) (moved : Bool) (hl : (∀ w : World, Calls Tryz.prog 35 #[.int .i64 y, .int .i64 month] w fun e w' => e = .returned (.int .i64 L) ∧ w = w')) (hr : (∀ w : World, Calls Tryz.prog 53 #[.int .i64 y, .int .i64 month, .int .i64 1] w fun e w' => e = .returned (.int .i64 F) ∧ w = w')) (hd : (day == -1) = false) (d0 : 1 ≤ day) (d1 : day ≤ 5) (hx : decide (F + L ≤ F + (wday - Cal.wd F) % 7 + 7 * (day - 1)) = true) (b0 : 0 ≤ F) (b1 : F ≤ 90000) (l0 : 28 ≤ L) (l1 : L ≤ 31) (w0 : 0 ≤ wday) (w1 : wday ≤ 6) (o0 : -7 ≤ off) (o1 : off ≤ 7) (w : World) :
    Calls Tryz.prog 85 #[.agg #[.int .i64 2, .int .i64 month, .int .i64 day, .int .i64 wday, .int .i64 off, .bool moved], .int .i64 y] w (Ret2 0 false w) := by
  have v0 := (Cal.wd_bd F).1
  have v1 := (Cal.wd_bd F).2
  go_enter Tryz.func85, Tryz.ntmps85
  go_wp2_with (first | (go_at_call 53; (with_reducible refine (hr _).mono ?_); rintro e w' ⟨rfl, rfl⟩) | (go_at_call 35; (with_reducible refine (hl _).mono ?_); rintro e w' ⟨rfl, rfl⟩))
  go_quiet ((go_at_call 71; first | (with_reducible exact quiet_left (rshown _ (by omega) (by omega) _)) | (with_reducible exact quiet_add_left (rshown _ (by omega) (by omega) _))))
  go_wp2
  go_ret2
  exact Ret2.of rfl rfl rfl (by first | exact Below.alloc (Below.refl _ _) (Nat.le_refl _) _ | exact below_drewN (Below.alloc (Below.refl _ _) (Nat.le_refl _) _) _ | exact below_drewN (below_drewN (Below.alloc (Below.refl _ _) (Nat.le_refl _) _) _) _)

/-- What named leaves: whether the rule names a day, and that day. -/
def RetN (h : Cal.Hol) (y : Int) (w : World) (e : Ending) (w' : World) : Prop := ∃ v : Int, e = .returned (.tuple #[.int .i64 v, .bool (h.b y)]) ∧ (h.b y = true → v = h.v y) ∧ Below w.heap.size w w'
theorem RetN.of {h : Cal.Hol} {y D : Int} {w : World} {e : Ending} {w' : World} (hp : h.plB y = true) (hd : h.pl y = D) (r : Ret2 (Cal.mvV h.moved D) (Cal.inD (Cal.mvV h.moved D)) w e w') : RetN h y w e w' := by
  have e1 : h.v y = Cal.mvV h.moved D := by unfold Cal.Hol.v; rw [hd]
  have e2 : h.b y = Cal.inD (Cal.mvV h.moved D) := by unfold Cal.Hol.b; rw [hp, e1]; rfl
  exact ⟨_, by rw [e2]; exact r.1, fun _ => e1.symm, r.2⟩
theorem RetN.none {h : Cal.Hol} {y : Int} {w : World} {e : Ending} {w' : World} (hp : h.plB y = false) (r : Ret2 0 false w e w') : RetN h y w e w' := by
  have e2 : h.b y = false := by unfold Cal.Hol.b; rw [hp]; rfl
  exact ⟨0, by rw [e2]; exact r.1, (fun c => by rw [e2] at c; cases c), r.2⟩
set_option maxHeartbeats 1000000 in
theorem rnamed_any (h : Cal.Hol) (y : Int) (hv : h.ok = true) (y0 : 1970 ≤ y) (y1 : y ≤ 2199) (w : World) :
    Calls Tryz.prog 85 #[.agg #[.int .i64 h.kind, .int .i64 h.month, .int .i64 h.day, .int .i64 h.wday, .int .i64 h.off, .bool h.moved], .int .i64 y] w (RetN h y w) := by
  have hv' := of_decide_eq_true hv
  obtain ⟨kind, month, day, wday, off, moved⟩ := h
  simp only at hv'
  rcases hv' with ⟨rfl, m0, m1, d0, d1, rfl, rfl⟩ | ⟨rfl, rfl, rfl, rfl, o0, o1⟩ | ⟨rfl, m0, m1, hd, w0, w1, o0, o1⟩
  · have hl := fun w => rlen_any y month (by omega) (by omega) m0 m1 w
    by_cases hi : Cal.Is y month day
    · have hr := fun w => rraw y month day (by omega) (by omega) m0 m1 (by omega) (by have := hi.d1; have := Cal.dm_bd y (month - 1); omega) w
      have e : Cal.nY y + cumP y month + day - 1 = Cal.dayT y month day := rfl
      rw [e] at hr
      have r := hi.date.range
      exact (rn0 y month day _ _ moved hl hr (decide_eq_false (by have := hi.d1; omega)) (by omega) (by omega) w).mono fun e w' h => RetN.of (by unfold Cal.Hol.plB Cal.plB; simp [hi]) (by unfold Cal.Hol.pl Cal.plV; simp [hi]) h
    · have hd : Cal.dm y (month - 1) < day := Int.lt_of_not_ge fun c => hi ⟨y0, y1, m0, m1, d0, c⟩
      exact (rn0x y month day _ moved hl (decide_eq_true hd) w).mono fun e w' h => RetN.none (by unfold Cal.Hol.plB Cal.plB; simp [hi]) h
  · have he := fun w => reaster0 y y0 y1 w
    have r := Cal.eaT_bd y y0 y1
    exact (rn1 y _ off moved he (by omega) (by omega) o0 o1 w).mono fun e w' h => RetN.of (by unfold Cal.Hol.plB Cal.plB; simp) (by unfold Cal.Hol.pl Cal.plV; simp) h
  · have e1 := Cal.fst_at y (month - 1) (by omega) (by omega)
    have e2 := Cal.len_at y (month - 1) (by omega) (by omega)
    rw [show 12 * (y - 1970) + (month - 1) = 12 * (y - 1970) + month - 1 by omega] at e1 e2
    have hl := fun w => rlen_any y month (by omega) (by omega) m0 m1 w
    rw [← e2] at hl
    have hr := fun w => rraw y month 1 (by omega) (by omega) m0 m1 (by omega) (by omega) w
    rw [show Cal.nY y + cumP y month + 1 - 1 = Cal.fst (12 * (y - 1970) + month - 1) by rw [e1]; unfold cumP; omega] at hr
    obtain ⟨f0, f1⟩ := Cal.fst_bd (12 * (y - 1970) + month - 1) (by omega) (by omega)
    obtain ⟨l0, l1⟩ := Cal.len_bd (12 * (y - 1970) + month - 1)
    have PL : Cal.Hol.pl ⟨2, month, day, wday, off, moved⟩ y = Cal.nthV (12 * (y - 1970) + month - 1) wday day + off := by unfold Cal.Hol.pl Cal.plV; simp
    have PB : Cal.Hol.plB ⟨2, month, day, wday, off, moved⟩ y = Cal.nthB (12 * (y - 1970) + month - 1) wday day := by unfold Cal.Hol.plB Cal.plB; simp
    clear e1 e2
    unfold Cal.nthV at PL
    unfold Cal.nthB Cal.nthV at PB
    generalize Cal.fst (12 * (y - 1970) + month - 1) = F at hr f0 f1 PL PB
    generalize Cal.len (12 * (y - 1970) + month - 1) = L at hl l0 l1 PL PB
    by_cases hm : day = -1
    · subst hm
      rw [if_pos (by omega)] at PL PB
      by_cases hn : F + L ≤ F + (wday - Cal.wd F) % 7 + 28
      · exact (rn2a y month wday off L F moved hl hr (decide_eq_true hn) (decide_eq_false (by omega)) (by omega) (by omega) l0 l1 w0 w1 o0 o1 w).mono fun e w' h => RetN.of PB (by rw [PL]; unfold Cal.wd at hn ⊢; omega) h
      · exact (rn2b y month wday off L F moved hl hr (decide_eq_false hn) (by omega) (by omega) l0 l1 w0 w1 o0 o1 w).mono fun e w' h => RetN.of PB (by rw [PL]; unfold Cal.wd at hn ⊢; omega) h
    · rw [if_neg (by omega)] at PL PB
      rw [if_neg (by omega)] at PB
      by_cases hx : F + L ≤ F + (wday - Cal.wd F) % 7 + 7 * (day - 1)
      · exact (rn2x y month day wday off L F moved hl hr (beqF hm) (by omega) (by omega) (decide_eq_true hx) (by omega) (by omega) l0 l1 w0 w1 o0 o1 w).mono fun e w' h => RetN.none (by rw [PB]; exact decide_eq_false (by omega)) h
      · exact (rn2c y month day wday off L F moved hl hr (beqF hm) (by omega) (by omega) (decide_eq_false hx) (by omega) (by omega) l0 l1 w0 w1 o0 o1 w).mono fun e w' h => RetN.of (by rw [PB]; exact decide_eq_true (by omega)) PL h
end Go.Proofs.YtmgglcfndhfceaaGreatDoor
