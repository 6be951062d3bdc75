/-
  The reference of layer 5 (period): the contract of Span. Conditions: the arguments fit their kinds.
-/
import Derived.Test.YtmgglcfndhfceaaGreatDoorPrYr
namespace Go.Proofs.YtmgglcfndhfceaaGreatDoor.Per
open Go Go.RowKit Go.Lib Go.Proofs.YtmgglcfndhfceaaGreatDoor Go.Proofs.YtmgglcfndhfceaaGreatDoor.Cal

theorem rfirst_in (m : Int) (h0 : 0 ≤ m) (h1 : m ≤ 2759) (w : World) : Calls Tryz.prog 19 #[.int .i64 m] w fun e w' => e = .returned (.tuple #[.int .i64 (fst m), .bool true]) ∧ w = w' := by
  have := rfirst_v m w
  rwa [show fstV m = fst m by unfold fstV; rw [if_pos ⟨h0, h1⟩], show inM m = true by unfold inM; exact decide_eq_true ⟨h0, h1⟩] at this
theorem rlen_in (m : Int) (h0 : 0 ≤ m) (h1 : m ≤ 2759) (w : World) : Calls Tryz.prog 20 #[.int .i64 m] w fun e w' => e = .returned (.int .i64 (len m)) ∧ w = w' := by
  have := rlen_v m w
  rwa [show lenV m = len m by unfold lenV; rw [if_pos ⟨h0, h1⟩]] at this

set_option maxRecDepth 100000 in
set_option maxHeartbeats 1000000 in
theorem rpspan_bad (k a n : Int) (h : ¬ okP k a) (w : World) : Calls Tryz.prog 8 #[.agg #[.int .i64 k, .int .i64 a], .int .i64 n] w (RetS 0 0 2 w) := by
  have C1 := Lib.hid (rpvalid_no k a h)
  have I0 := SpI.new w k a
  go_enter Tryz.func8, Tryz.ntmps8
  go_wp2_with fail
  refine (C1.out _).mono ?_
  rintro e w1 ⟨rfl, hw1⟩
  have I1 := I0.step hw1
  have r0 := I1.res.c0
  have r1 := I1.res.c1
  have q0 := I1.res.f0
  have q1 := I1.res.f1
  clear hw1 I0
  go_wp2_with fail
  exact bodyPost_ret (v := .tuple #[.agg #[.int .i64 0, .int .i64 0], .int .i64 2]) (by simp [results, Tryz.results8, go_sem, r0, r1]) rfl (by with_reducible exact RetS.of rfl rfl rfl rfl (SpI.fin (by assumption) _ _))
set_option maxRecDepth 100000 in
set_option maxHeartbeats 1000000 in
theorem rpspan_neg (k a n : Int) (h : okP k a) (hn : decide (n < 0) = true) (w : World) : Calls Tryz.prog 8 #[.agg #[.int .i64 k, .int .i64 a], .int .i64 n] w (RetS 0 0 2 w) := by
  have C1 := Lib.hid (rpvalid_yes k a h)
  have I0 := SpI.new w k a
  go_enter Tryz.func8, Tryz.ntmps8
  go_wp2_with fail
  refine (C1.out _).mono ?_
  rintro e w1 ⟨rfl, hw1⟩
  have I1 := I0.step hw1
  have z0 := I1.box.c0
  have z1 := I1.box.c1
  clear hw1 I0
  have r0 := I1.res.c0
  have r1 := I1.res.c1
  have q0 := I1.res.f0
  have q1 := I1.res.f1
  go_wp2_with fail
  exact bodyPost_ret (v := .tuple #[.agg #[.int .i64 0, .int .i64 0], .int .i64 2]) (by simp [results, Tryz.results8, go_sem, r0, r1]) rfl (by with_reducible exact RetS.of rfl rfl rfl rfl (SpI.fin (by first | assumption | exact I1.drewN _) _ _))
set_option maxRecDepth 100000 in
set_option maxHeartbeats 4000000 in
theorem rpspan_far (k a n : Int) (h : okP k a) (n0 : 0 ≤ n) (hn : cnt k a ≤ n) (w : World) : Calls Tryz.prog 8 #[.agg #[.int .i64 k, .int .i64 a], .int .i64 n] w (RetS 0 0 2 w) := by
  have C1 := Lib.hid (rpvalid_yes k a h)
  have C2 := Lib.hid (rpcount_yes k a h)
  clear h
  generalize cnt k a = N at *
  have t1 : decide (n < 0) = false := decide_eq_false (by omega)
  have t2 : decide (N ≤ n) = true := decide_eq_true hn
  clear n0 hn
  have I0 := SpI.new w k a
  go_enter Tryz.func8, Tryz.ntmps8
  go_wp2_with fail
  refine (C1.out _).mono ?_
  rintro e w1 ⟨rfl, hw1⟩
  have I1 := I0.step hw1
  have z0 := I1.box.c0
  have z1 := I1.box.c1
  clear hw1 I0
  go_wp2_with fail
  refine (C2.out _).mono ?_
  rintro e w3 ⟨rfl, hw3⟩
  have I4 := I1.step hw3
  clear z0 z1 I1 hw3
  have z0 := I4.box.c0
  have z1 := I4.box.c1
  have r0 := I4.res.c0
  have r1 := I4.res.c1
  have q0 := I4.res.f0
  have q1 := I4.res.f1
  go_wp2_with fail
  exact bodyPost_ret (v := .tuple #[.agg #[.int .i64 0, .int .i64 0], .int .i64 2]) (by simp [results, Tryz.results8, go_sem, r0, r1]) rfl (by with_reducible exact RetS.of rfl rfl rfl rfl (SpI.fin (by assumption) _ _))
set_option maxRecDepth 100000 in
set_option maxHeartbeats 4000000 in
theorem rpspan_m (a n : Int) (h : okP 0 a) (n0 : 0 ≤ n) (hn : n < cnt 0 a) (w : World) : Calls Tryz.prog 8 #[.agg #[.int .i64 0, .int .i64 a], .int .i64 n] w (RetS (sF 0 a n) (sT 0 a n) 0 w) := by
  have C1 := Lib.hid (rpvalid_yes 0 a h)
  have C2 := Lib.hid (rpcount_yes 0 a h)
  have n1 : n ≤ 2759 := by rw [cnt_0] at hn; omega
  have C3 := Lib.hid (rfirst_in n n0 n1)
  have C4 := Lib.hid (rlen_in n n0 n1)
  obtain ⟨f0, f1, f2, f3⟩ := fst_le n n0 n1
  have E1 := Lib.hid (sF_0 a n)
  have E2 := Lib.hid (sT_0 a n)
  generalize fst n = f at *
  generalize len n = l at *
  clear h
  generalize cnt 0 a = N at *
  have t1 : decide (n < 0) = false := decide_eq_false (by omega)
  have t2 : decide (N ≤ n) = false := decide_eq_false (by omega)
  clear hn
  have I0 := SpI.new w 0 a
  go_enter Tryz.func8, Tryz.ntmps8
  go_wp2_with fail
  refine (C1.out _).mono ?_
  rintro e w1 ⟨rfl, hw1⟩
  have I1 := I0.step hw1
  have z0 := I1.box.c0
  have z1 := I1.box.c1
  clear hw1 I0
  go_wp2_with fail
  refine (C2.out _).mono ?_
  rintro e w3 ⟨rfl, hw3⟩
  have I4 := I1.step hw3
  clear z0 z1 I1 hw3
  have z0 := I4.box.c0
  have z1 := I4.box.c1
  have r0 := I4.res.c0
  have r1 := I4.res.c1
  have q0 := I4.res.f0
  have q1 := I4.res.f1
  go_wp2_with (first | (go_at_call 19; refine (C3.out _).mono ?_; rintro e w' ⟨rfl, rfl⟩) | (go_at_call 20; refine (C4.out _).mono ?_; rintro e w' ⟨rfl, rfl⟩))
  exact bodyPost_ret (v := .tuple #[.agg #[.int .i64 (max f 0), .int .i64 (min (f + l - 1) 84005)], .int .i64 0]) (by simp [results, Tryz.results8, go_sem, r0, r1]) rfl (by with_reducible exact RetS.of rfl (by rw [E1.out]; omega) (by rw [E2.out]; omega) rfl (SpI.fin (by assumption) _ _))
set_option maxRecDepth 100000 in
set_option maxHeartbeats 4000000 in
theorem rpspan_h0 (a n : Int) (h : okP 1 a) (n0 : 0 ≤ n) (hn : n < cnt 1 a) (hp : n % 2 = 0) (w : World) : Calls Tryz.prog 8 #[.agg #[.int .i64 1, .int .i64 a], .int .i64 n] w (RetS (sF 1 a n) (sT 1 a n) 0 w) := by
  have C1 := Lib.hid (rpvalid_yes 1 a h)
  have C2 := Lib.hid (rpcount_yes 1 a h)
  have n1 : n ≤ 5519 := by rw [cnt_1] at hn; omega
  have C3 := Lib.hid (rfirst_in (n / 2) (by omega) (by omega))
  have C4 := Lib.hid (rlen_in (n / 2) (by omega) (by omega))
  obtain ⟨f0, f1, f2, f3⟩ := fst_le (n / 2) (by omega) (by omega)
  have E1 := Lib.hid (show sF 1 a n = fst (n / 2) by rw [sF_1]; rw [if_pos hp])
  have E2 := Lib.hid (show sT 1 a n = fst (n / 2) + 14 by rw [sT_1]; rw [if_pos hp])
  generalize fst (n / 2) = f at *
  generalize len (n / 2) = l at *
  have tp : (n % 2 == 1) = false := by simp; omega
  clear h
  generalize cnt 1 a = N at *
  have t1 : decide (n < 0) = false := decide_eq_false (by omega)
  have t2 : decide (N ≤ n) = false := decide_eq_false (by omega)
  clear hn
  have I0 := SpI.new w 1 a
  go_enter Tryz.func8, Tryz.ntmps8
  go_wp2_with fail
  refine (C1.out _).mono ?_
  rintro e w1 ⟨rfl, hw1⟩
  have I1 := I0.step hw1
  have z0 := I1.box.c0
  have z1 := I1.box.c1
  clear hw1 I0
  go_wp2_with fail
  refine (C2.out _).mono ?_
  rintro e w3 ⟨rfl, hw3⟩
  have I4 := I1.step hw3
  clear z0 z1 I1 hw3
  have z0 := I4.box.c0
  have z1 := I4.box.c1
  have r0 := I4.res.c0
  have r1 := I4.res.c1
  have q0 := I4.res.f0
  have q1 := I4.res.f1
  go_wp2_with (first | (go_at_call 19; refine (C3.out _).mono ?_; rintro e w' ⟨rfl, rfl⟩) | (go_at_call 20; refine (C4.out _).mono ?_; rintro e w' ⟨rfl, rfl⟩))
  exact bodyPost_ret (v := .tuple #[.agg #[.int .i64 (max f 0), .int .i64 (min (f + 14) 84005)], .int .i64 0]) (by simp [results, Tryz.results8, go_sem, r0, r1]) rfl (by with_reducible exact RetS.of rfl (by rw [E1.out]; omega) (by rw [E2.out]; omega) rfl (SpI.fin (by assumption) _ _))
set_option maxRecDepth 100000 in
set_option maxHeartbeats 4000000 in
theorem rpspan_h1 (a n : Int) (h : okP 1 a) (n0 : 0 ≤ n) (hn : n < cnt 1 a) (hp : ¬ n % 2 = 0) (w : World) : Calls Tryz.prog 8 #[.agg #[.int .i64 1, .int .i64 a], .int .i64 n] w (RetS (sF 1 a n) (sT 1 a n) 0 w) := by
  have C1 := Lib.hid (rpvalid_yes 1 a h)
  have C2 := Lib.hid (rpcount_yes 1 a h)
  have n1 : n ≤ 5519 := by rw [cnt_1] at hn; omega
  have C3 := Lib.hid (rfirst_in (n / 2) (by omega) (by omega))
  have C4 := Lib.hid (rlen_in (n / 2) (by omega) (by omega))
  obtain ⟨f0, f1, f2, f3⟩ := fst_le (n / 2) (by omega) (by omega)
  have E1 := Lib.hid (show sF 1 a n = fst (n / 2) + 15 by rw [sF_1]; rw [if_neg hp])
  have E2 := Lib.hid (show sT 1 a n = fst (n / 2) + len (n / 2) - 1 by rw [sT_1]; rw [if_neg hp])
  generalize fst (n / 2) = f at *
  generalize len (n / 2) = l at *
  have tp : (n % 2 == 1) = true := by simp; omega
  clear h
  generalize cnt 1 a = N at *
  have t1 : decide (n < 0) = false := decide_eq_false (by omega)
  have t2 : decide (N ≤ n) = false := decide_eq_false (by omega)
  clear hn
  have I0 := SpI.new w 1 a
  go_enter Tryz.func8, Tryz.ntmps8
  go_wp2_with fail
  refine (C1.out _).mono ?_
  rintro e w1 ⟨rfl, hw1⟩
  have I1 := I0.step hw1
  have z0 := I1.box.c0
  have z1 := I1.box.c1
  clear hw1 I0
  go_wp2_with fail
  refine (C2.out _).mono ?_
  rintro e w3 ⟨rfl, hw3⟩
  have I4 := I1.step hw3
  clear z0 z1 I1 hw3
  have z0 := I4.box.c0
  have z1 := I4.box.c1
  have r0 := I4.res.c0
  have r1 := I4.res.c1
  have q0 := I4.res.f0
  have q1 := I4.res.f1
  go_wp2_with (first | (go_at_call 19; refine (C3.out _).mono ?_; rintro e w' ⟨rfl, rfl⟩) | (go_at_call 20; refine (C4.out _).mono ?_; rintro e w' ⟨rfl, rfl⟩))
  exact bodyPost_ret (v := .tuple #[.agg #[.int .i64 (max (f + 15) 0), .int .i64 (min (f + l - 1) 84005)], .int .i64 0]) (by simp [results, Tryz.results8, go_sem, r0, r1]) rfl (by with_reducible exact RetS.of rfl (by rw [E1.out]; omega) (by rw [E2.out]; omega) rfl (SpI.fin (by assumption) _ _))
set_option maxRecDepth 100000 in
set_option maxHeartbeats 4000000 in
theorem rpspan_w (k a n : Int) (hk : k = 2 ∨ k = 3) (h : okP k a) (a0 : 0 ≤ a) (a1 : a ≤ L k) (n0 : 0 ≤ n) (hn : n < cnt k a) (w : World) : Calls Tryz.prog 8 #[.agg #[.int .i64 k, .int .i64 a], .int .i64 n] w (RetS (sF k a n) (sT k a n) 0 w) := by
  have C1 := Lib.hid (rpvalid_yes k a h)
  have C2 := Lib.hid (rpcount_yes k a h)
  have C3 := Lib.hid (rplen_any k a)
  have E1 := Lib.hid (show sF k a n = max 0 (n * L k - (L k - a) % L k) from sF_w k a n (by omega) (by omega))
  have E2 := Lib.hid (show sT k a n = min 84005 (n * L k - (L k - a) % L k + L k - 1) from sT_w k a n (by omega) (by omega))
  have hc := cnt_bd k a
  have l0 : 7 ≤ L k := by have := L_bd k; omega
  have l1 : L k ≤ 14 := by have := L_bd k; omega
  have n1 : n ≤ 12003 := by omega
  have t00 : (k == 0) = false := beqF (by omega)
  have t01 : (k == 1) = false := beqF (by omega)
  clear hc hk
  generalize L k = l at *
  have g0 : 0 ≤ l - a := by omega
  have eA : (l - a) % l = -a % l := by simp
  have E1' := Lib.hid (E1.out.trans (by rw [eA]))
  have E2' := Lib.hid (E2.out.trans (by rw [eA]))
  have g1 : 0 ≤ -a % l := Int.emod_nonneg _ (by omega)
  have g2 : -a % l < l := Int.emod_lt_of_pos _ (by omega)
  clear eA
  have m0 : 0 ≤ n * l := Int.mul_nonneg n0 (by omega)
  have m1 : n * l ≤ 12003 * 14 := Int.mul_le_mul n1 l1 (by omega) (by omega)
  clear h
  generalize cnt k a = N at *
  have t1 : decide (n < 0) = false := decide_eq_false (by omega)
  have t2 : decide (N ≤ n) = false := decide_eq_false (by omega)
  clear hn
  have I0 := SpI.new w k a
  go_enter Tryz.func8, Tryz.ntmps8
  go_wp2_with fail
  refine (C1.out _).mono ?_
  rintro e w1 ⟨rfl, hw1⟩
  have I1 := I0.step hw1
  have z0 := I1.box.c0
  have z1 := I1.box.c1
  clear hw1 I0
  go_wp2_with fail
  refine (C2.out _).mono ?_
  rintro e w3 ⟨rfl, hw3⟩
  have I4 := I1.step hw3
  clear z0 z1 I1 hw3
  have z0 := I4.box.c0
  have z1 := I4.box.c1
  have r0 := I4.res.c0
  have r1 := I4.res.c1
  have q0 := I4.res.f0
  have q1 := I4.res.f1
  go_wp2_with fail
  refine (C3.out _).mono ?_
  rintro e w5 ⟨rfl, hw5⟩
  have I5 := I4.step hw5
  clear hw5 z0 z1 r0 r1 q0 q1 I4
  have z0 := I5.box.c0
  have z1 := I5.box.c1
  have r0 := I5.res.c0
  have r1 := I5.res.c1
  have q0 := I5.res.f0
  have q1 := I5.res.f1
  go_wp2_with fail
  exact bodyPost_ret (v := .tuple #[.agg #[.int .i64 (max (n * l - -a % l) 0), .int .i64 (min (n * l - -a % l + l - 1) 84005)], .int .i64 0]) (by simp [results, Tryz.results8, go_sem, r0, r1]) rfl (by with_reducible exact RetS.of rfl (by rw [E1'.out]; omega) (by rw [E2'.out]; omega) rfl (SpI.fin (by assumption) _ _))
theorem rpspan_yes (k a n : Int) (h : spP k a n) (w : World) : Calls Tryz.prog 8 #[.agg #[.int .i64 k, .int .i64 a], .int .i64 n] w (RetS (sF k a n) (sT k a n) 0 w) := by
  obtain ⟨h, n0, n1⟩ := h
  by_cases e0 : k = 0
  · subst e0; exact rpspan_m a n h n0 n1 w
  · by_cases e1 : k = 1
    · subst e1
      by_cases hp : n % 2 = 0
      · exact rpspan_h0 a n h n0 n1 hp w
      · exact rpspan_h1 a n h n0 n1 hp w
    · have : (k = 2 ∧ a ≤ 13) ∨ (k = 3 ∧ a ≤ 6) := by unfold okP at h; omega
      refine rpspan_w k a n (by omega) h (by unfold okP at h; omega) ?_ n0 n1 w
      rcases this with ⟨rfl, h⟩ | ⟨rfl, h⟩
      · rw [L_2]; omega
      · rw [L_3]; omega
theorem rpspan_any (k a n : Int) (w : World) : Calls Tryz.prog 8 #[.agg #[.int .i64 k, .int .i64 a], .int .i64 n] w (RetS (spF k a n) (spT k a n) (spE k a n) w) := by
  by_cases h : spP k a n
  · obtain ⟨e1, e2, e3⟩ := sp_yes h
    rw [e1, e2, e3]; exact rpspan_yes k a n h w
  · obtain ⟨e1, e2, e3⟩ := sp_no h
    rw [e1, e2, e3]
    by_cases ho : okP k a
    · by_cases c : n < 0
      · exact rpspan_neg k a n ho (decide_eq_true c) w
      · refine rpspan_far k a n ho (by omega) ?_ w
        by_cases c2 : cnt k a ≤ n
        · exact c2
        · exact absurd ⟨ho, by omega, by omega⟩ h
    · exact rpspan_bad k a n ho w
end Go.Proofs.YtmgglcfndhfceaaGreatDoor.Per
