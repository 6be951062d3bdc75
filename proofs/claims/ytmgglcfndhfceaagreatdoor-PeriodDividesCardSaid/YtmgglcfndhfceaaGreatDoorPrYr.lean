/-
  The reference of layer 5 (period): contracts of length, Valid, of, Of, Count, Span. Conditions: the arguments fit their kinds.
-/
import Derived.Test.YtmgglcfndhfceaaGreatDoorPrYc
namespace Go.Proofs.YtmgglcfndhfceaaGreatDoor.Per
open Go Go.RowKit Go.Lib Go.Proofs.YtmgglcfndhfceaaGreatDoor Go.Proofs.YtmgglcfndhfceaaGreatDoor.Cal

set_option maxHeartbeats 400000 in
theorem rplen_any (k a : Int) (w : World) :
    Calls Tryz.prog 21 #[.agg #[.int .i64 k, .int .i64 a]] w (RetI (L k) w) := by
  rcases hb : (k == 2) with _ | _
  · have E := Lib.hid (show L k = 7 by unfold L; rw [if_neg (by simpa using hb)])
    go_enter Tryz.func21, Tryz.ntmps21
    go_wp2
    go_ret
    exact RetI.of rfl E.out ((Below.refl _ _).alloc (Nat.le_refl _) _)
  · have E := Lib.hid (show L k = 14 by unfold L; rw [if_pos (by simpa using hb)])
    go_enter Tryz.func21, Tryz.ntmps21
    go_wp2
    go_ret
    exact RetI.of rfl E.out ((Below.refl _ _).alloc (Nat.le_refl _) _)

/-! Valid -/
set_option maxHeartbeats 1000000 in
theorem rpvalid_o (k a : Int) (h0 : (k == 0) = false) (h1 : (k == 1) = false) (h2 : (k == 2) = false) (h3 : (k == 3) = false) (w : World) :
    Calls Tryz.prog 15 #[.agg #[.int .i64 k, .int .i64 a]] w (RetI 2 w) := by
  go_enter Tryz.func15, Tryz.ntmps15
  go_wp2
  go_ret
  exact ⟨rfl, (Below.refl _ _).alloc (Nat.le_refl _) _⟩
set_option maxHeartbeats 1000000 in
theorem rpvalid_m (k a : Int) (hk : k = 0 ∨ k = 1) (ha : (a == 0) = false) (w : World) :
    Calls Tryz.prog 15 #[.agg #[.int .i64 k, .int .i64 a]] w (RetI 2 w) := by
  rcases hk with rfl | rfl
  all_goals
    go_enter Tryz.func15, Tryz.ntmps15
    go_wp2
    go_ret
    exact ⟨rfl, (Below.refl _ _).alloc (Nat.le_refl _) _⟩
set_option maxHeartbeats 1000000 in
theorem rpvalid_m0 (k : Int) (hk : k = 0 ∨ k = 1) (w : World) :
    Calls Tryz.prog 15 #[.agg #[.int .i64 k, .int .i64 0]] w (RetI 0 w) := by
  rcases hk with rfl | rfl
  all_goals
    go_enter Tryz.func15, Tryz.ntmps15
    go_wp2
    go_ret
    exact ⟨rfl, (Below.refl _ _).alloc (Nat.le_refl _) _⟩
set_option maxHeartbeats 1000000 in
theorem rpvalid_wn (k a : Int) (h0 : (k == 0) = false) (h1 : (k == 1) = false) (h23 : ((k == 2) = true) ∨ ((k == 2) = false ∧ (k == 3) = true)) (ha : decide (0 ≤ a) = false) (w : World) :
    Calls Tryz.prog 15 #[.agg #[.int .i64 k, .int .i64 a]] w (RetI 2 w) := by
  rcases h23 with h2 | ⟨h2, h3⟩
  all_goals
    go_enter Tryz.func15, Tryz.ntmps15
    go_wp2_with fail
    have R0 := Box2.new w 27 k a
    have z0 := R0.c0
    have z1 := R0.c1
    have hB0 : Below w.heap.size w (w.alloc (.cells #[.int .i64 k, .int .i64 a] 27)) := (Below.refl _ _).alloc (Nat.le_refl _) _
    go_quiet (fail)
    go_wp2
    go_ret
    exact ⟨rfl, below_drewN hB0 _⟩
set_option maxHeartbeats 1000000 in
theorem rpvalid_w (k a l : Int) (b : Bool) (h0 : (k == 0) = false) (h1 : (k == 1) = false) (h23 : ((k == 2) = true) ∨ ((k == 2) = false ∧ (k == 3) = true)) (C : Hid (∀ w, Calls Tryz.prog 21 #[.agg #[.int .i64 k, .int .i64 a]] w (RetI l w))) (ha : decide (0 ≤ a) = true) (hb : decide (a < l) = b) (w : World) :
    Calls Tryz.prog 15 #[.agg #[.int .i64 k, .int .i64 a]] w (RetI (if b then 0 else 2) w) := by
  rcases b with _ | _
  all_goals
    rcases h23 with h2 | ⟨h2, h3⟩
    all_goals
      go_enter Tryz.func15, Tryz.ntmps15
      go_wp2_with fail
      have R0 := Box2.new w 27 k a
      have z0 := R0.c0
      have z1 := R0.c1
      have hB0 : Below w.heap.size w (w.alloc (.cells #[.int .i64 k, .int .i64 a] 27)) := (Below.refl _ _).alloc (Nat.le_refl _) _
      go_region_held3 (fun w' => w'.cell? ⟨w.heap.size, 0, none⟩ = some (.int .i64 k) ∧ w'.cell? ⟨w.heap.size, 1, none⟩ = some (.int .i64 a) ∧ Box2 w' w.heap.size 27 k a ∧ Below w.heap.size w w')
        (first | exact ⟨z0, z1, R0, hB0.drew⟩ | exact ⟨R1.c0, R1.c1, R1, B1⟩)
        (first | (go_at_call 21; go_split_ands; refine (C.out _).mono ?_; rintro e w1 ⟨rfl, hw1⟩; (have R1 : Box2 w1 w.heap.size 27 k a := Box2.step (by assumption) hw1); (have B1 : Below w.heap.size w w1 := Below.trans (by assumption) (hw1.mono (Below.size (by assumption))))))
      go_split_ands
      go_wp2
      go_ret
      exact ⟨rfl, by assumption⟩
theorem beqT {a b : Int} (h : a = b) : (a == b) = true := by simp [h]
theorem rpvalid_any (k a : Int) (w : World) : Calls Tryz.prog 15 #[.agg #[.int .i64 k, .int .i64 a]] w (RetI (vE k a) w) := by
  unfold vE
  by_cases h01 : k = 0 ∨ k = 1
  · by_cases ha : a = 0
    · subst ha
      rw [if_pos (by unfold okP; omega)]; exact rpvalid_m0 k h01 w
    · rw [if_neg (by unfold okP; omega)]; exact rpvalid_m k a h01 (beqF ha) w
  · by_cases h23 : k = 2 ∨ k = 3
    · have t23 : ((k == 2) = true) ∨ ((k == 2) = false ∧ (k == 3) = true) := by
        rcases h23 with h | h
        · exact .inl (beqT h)
        · exact .inr ⟨beqF (by omega), beqT h⟩
      by_cases ha : 0 ≤ a
      · have hL : L k = if k = 2 then 14 else 7 := rfl
        have := rpvalid_w k a (L k) (decide (a < L k)) (beqF (by omega)) (beqF (by omega)) t23 (Lib.hid (rplen_any k a)) (decide_eq_true ha) rfl w
        by_cases c : a < L k
        · rw [decide_eq_true c, if_pos rfl] at this
          rw [hL] at c
          rw [if_pos (by unfold okP; split at c <;> omega)]; exact this
        · rw [decide_eq_false c, if_neg (by simp)] at this
          rw [hL] at c
          rw [if_neg (by unfold okP; split at c <;> omega)]; exact this
      · rw [if_neg (by unfold okP; omega)]
        exact rpvalid_wn k a (beqF (by omega)) (beqF (by omega)) t23 (decide_eq_false ha) w
    · rw [if_neg (by unfold okP; omega)]
      exact rpvalid_o k a (beqF (by omega)) (beqF (by omega)) (beqF (by omega)) (beqF (by omega)) w
theorem rpvalid_yes (k a : Int) (h : okP k a) (w : World) : Calls Tryz.prog 15 #[.agg #[.int .i64 k, .int .i64 a]] w (RetI 0 w) := by
  have := rpvalid_any k a w
  rwa [show vE k a = 0 by unfold vE; rw [if_pos h]] at this
theorem rpvalid_no (k a : Int) (h : ¬ okP k a) (w : World) : Calls Tryz.prog 15 #[.agg #[.int .i64 k, .int .i64 a]] w (RetI 2 w) := by
  have := rpvalid_any k a w
  rwa [show vE k a = 2 by unfold vE; rw [if_neg h]] at this

/-! of -/
set_option maxRecDepth 100000 in
set_option maxHeartbeats 1000000 in
theorem rpnum_0 (a x : Int) (h0 : 0 ≤ x) (h1 : x ≤ 84005) (w : World) :
    Calls Tryz.prog 17 #[.agg #[.int .i64 0, .int .i64 a], .int .i64 x] w (RetI (nO 0 a x) w) := by
  have M := mO_spec x h0 h1
  have E := Lib.hid (nO_0 a x)
  have C := Lib.hid (rmonth_md x _ _ M)
  clear M
  generalize mO x = m at *
  go_enter Tryz.func17, Tryz.ntmps17
  go_wp2_with (go_at_call 32; refine (C.out _).mono ?_; rintro e w' ⟨rfl, rfl⟩)
  go_ret
  exact RetI.of rfl E.out ((Below.refl _ _).alloc (Nat.le_refl _) _)
set_option maxRecDepth 100000 in
set_option maxHeartbeats 1000000 in
theorem rpnum_1 (a x : Int) (h0 : 0 ≤ x) (h1 : x ≤ 84005) (w : World) :
    Calls Tryz.prog 17 #[.agg #[.int .i64 1, .int .i64 a], .int .i64 x] w (RetI (nO 1 a x) w) := by
  have M := mO_spec x h0 h1
  have E := Lib.hid (nO_1 a x)
  have C := Lib.hid (rmonth_md x _ _ M)
  have C2 := Lib.hid (rdate_yes x _ _ _ M.date)
  have m0 := M.m0
  have m1 := M.m1
  have d0 := M.d0
  have d1 := M.d1
  have d2 := (len_bd (mO x)).2
  have d3 : x - fst (mO x) ≤ 31 := by omega
  have d4 : x - fst (mO x) = x - fst (mO x) := rfl
  by_cases c : x < fst (mO x) + 15
  · have E2 := Lib.hid (show nO 1 a x = 2 * mO x by rw [E.out, if_pos c]; omega)
    have c2 : x - fst (mO x) + 1 ≤ 15 := by omega
    clear E M d1 d2 d4 c
    generalize x - fst (mO x) = d at *
    generalize mO x = m at *
    generalize 1970 + m / 12 = y at *
    generalize m % 12 = q at *
    have t : decide (15 < d + 1) = false := decide_eq_false (by omega)
    go_enter Tryz.func17, Tryz.ntmps17
    go_wp2_with (first | (go_at_call 32; refine (C.out _).mono ?_; rintro e w' ⟨rfl, rfl⟩) | (go_at_call 33; refine (C2.out _).mono ?_; rintro e w' ⟨rfl, rfl⟩))
    go_ret
    exact RetI.of rfl E2.out ((Below.refl _ _).alloc (Nat.le_refl _) _)
  · have E2 := Lib.hid (show nO 1 a x = 2 * mO x + 1 by rw [E.out, if_neg c])
    have c2 : 15 < x - fst (mO x) + 1 := by omega
    clear E M d1 d2 d4 c
    generalize x - fst (mO x) = d at *
    generalize mO x = m at *
    generalize 1970 + m / 12 = y at *
    generalize m % 12 = q at *
    have t : decide (15 < d + 1) = true := decide_eq_true (by omega)
    go_enter Tryz.func17, Tryz.ntmps17
    go_wp2_with (first | (go_at_call 32; refine (C.out _).mono ?_; rintro e w' ⟨rfl, rfl⟩) | (go_at_call 33; refine (C2.out _).mono ?_; rintro e w' ⟨rfl, rfl⟩))
    go_ret
    exact RetI.of rfl E2.out ((Below.refl _ _).alloc (Nat.le_refl _) _)
set_option maxRecDepth 100000 in
set_option maxHeartbeats 1000000 in
theorem rpnum_w (k a x : Int) (hk : k = 2 ∨ k = 3) (a0 : 0 ≤ a) (a1 : a ≤ L k) (h0 : 0 ≤ x) (h1 : x ≤ 84005) (w : World) :
    Calls Tryz.prog 17 #[.agg #[.int .i64 k, .int .i64 a], .int .i64 x] w (RetI (nO k a x) w) := by
  have E := Lib.hid (show nO k a x = (x + (L k - a) % L k) / L k from nO_w k a x (by omega) (by omega))
  have C := Lib.hid (rplen_any k a)
  have l0 : 7 ≤ L k := by have := L_bd k; omega
  have l1 : L k ≤ 14 := by have := L_bd k; omega
  have t0 : (k == 0) = false := beqF (by omega)
  have t1 : (k == 1) = false := beqF (by omega)
  clear hk
  generalize L k = l at *
  have g0 : 0 ≤ l - a := by omega
  have eA : (l - a) % l = -a % l := by simp
  have E' := Lib.hid (E.out.trans (by rw [eA]))
  have g1 : 0 ≤ -a % l := Int.emod_nonneg _ (by omega)
  have g2 : -a % l < l := Int.emod_lt_of_pos _ (by omega)
  clear eA
  go_enter Tryz.func17, Tryz.ntmps17
  go_wp2_with fail
  have R0 := Box2.new w 27 k a
  refine (C.out _).mono ?_
  rintro e w1 ⟨rfl, hw1⟩
  have R1 := R0.step hw1
  have hB1 : Below w.heap.size w w1 := Below.trans ((Below.refl w.heap.size w).alloc (Nat.le_refl _) _) (hw1.mono (by simp))
  have z0 := R1.c0
  have z1 := R1.c1
  clear hw1 R0 R1
  go_wp2_with fail
  go_ret
  exact RetI.of rfl E'.out hB1
theorem rpnum_any (k a x : Int) (hk : okP k a) (h0 : 0 ≤ x) (h1 : x ≤ 84005) (w : World) :
    Calls Tryz.prog 17 #[.agg #[.int .i64 k, .int .i64 a], .int .i64 x] w (RetI (nO k a x) w) := by
  by_cases e0 : k = 0
  · subst e0; exact rpnum_0 a x h0 h1 w
  · by_cases e1 : k = 1
    · subst e1; exact rpnum_1 a x h0 h1 w
    · have : (k = 2 ∧ a ≤ 13) ∨ (k = 3 ∧ a ≤ 6) := by unfold okP at hk; omega
      refine rpnum_w k a x (by omega) (by unfold okP at hk; omega) ?_ h0 h1 w
      rcases this with ⟨rfl, h⟩ | ⟨rfl, h⟩
      · rw [L_2]; omega
      · rw [L_3]; omega

/-! Of -/
set_option maxHeartbeats 1000000 in
theorem rpof_bad (k a x : Int) (h : ¬ okP k a) (w : World) : Calls Tryz.prog 6 #[.agg #[.int .i64 k, .int .i64 a], .int .i64 x] w (RetT 0 2 w) := by
  have C1 := Lib.hid (rpvalid_no k a h)
  go_enter Tryz.func6, Tryz.ntmps6
  go_wp2_with fail
  refine (C1.out _).mono ?_
  rintro e w1 ⟨rfl, hw1⟩
  go_wp2
  go_ret2
  exact RetT.of rfl rfl rfl (Below.trans ((Below.refl w.heap.size w).alloc (Nat.le_refl _) _) (hw1.mono (by simp)))
set_option maxHeartbeats 1000000 in
theorem rpof_far (k a x : Int) (h : okP k a) (hx : x < 0 ∨ 84005 < x) (w : World) : Calls Tryz.prog 6 #[.agg #[.int .i64 k, .int .i64 a], .int .i64 x] w (RetT 0 2 w) := by
  have C1 := Lib.hid (rpvalid_yes k a h)
  go_enter Tryz.func6, Tryz.ntmps6
  go_wp2_with fail
  refine (C1.out _).mono ?_
  rintro e w1 ⟨rfl, hw1⟩
  go_wp2_with (go_at_call 16; (with_reducible refine (rInDays_no _ hx _).mono ?_); rintro e w' ⟨rfl, rfl⟩)
  go_ret2
  exact RetT.of rfl rfl rfl (Below.trans ((Below.refl w.heap.size w).alloc (Nat.le_refl _) _) (hw1.mono (by simp)))
set_option maxRecDepth 100000 in
set_option maxHeartbeats 1000000 in
theorem rpof_yes (k a x : Int) (h : okP k a) (h0 : 0 ≤ x) (h1 : x ≤ 84005) (w : World) : Calls Tryz.prog 6 #[.agg #[.int .i64 k, .int .i64 a], .int .i64 x] w (RetT (nO k a x) 0 w) := by
  have C1 := Lib.hid (rpvalid_yes k a h)
  have C2 := Lib.hid (rpnum_any k a x h h0 h1)
  generalize nO k a x = n at *
  go_enter Tryz.func6, Tryz.ntmps6
  go_wp2_with fail
  have R := Box2.new w 27 k a
  refine (C1.out _).mono ?_
  rintro e w1 ⟨rfl, hw1⟩
  have R1 := R.step hw1
  have hB1 : Below w.heap.size w w1 := Below.trans ((Below.refl w.heap.size w).alloc (Nat.le_refl _) _) (hw1.mono (by simp))
  have z0 := R1.c0
  have z1 := R1.c1
  clear hw1 R
  go_wp2_with (first | (go_at_call 16; (with_reducible refine (rInDays_yes _ h0 h1 _).mono ?_); rintro e w' ⟨rfl, rfl⟩) | (go_at_call 17; refine (C2.out _).mono ?_; rintro e w2 ⟨rfl, hw2⟩))
  go_ret2
  exact RetT.of rfl rfl rfl (hB1.trans (hw2.mono hB1.size))
theorem rpof_any (k a x : Int) (w : World) : Calls Tryz.prog 6 #[.agg #[.int .i64 k, .int .i64 a], .int .i64 x] w (RetT (ofV k a x) (ofE k a x) w) := by
  unfold ofV ofE
  by_cases h : okP k a
  · by_cases hx : 0 ≤ x ∧ x ≤ 84005
    · rw [if_pos ⟨h, hx⟩, if_pos h, if_pos hx]; exact rpof_yes k a x h hx.1 hx.2 w
    · rw [if_neg (fun c => hx c.2), if_pos h, if_neg hx]; exact rpof_far k a x h (by omega) w
  · rw [if_neg (fun c => h c.1), if_neg h]; exact rpof_bad k a x h w

/-! Count -/
set_option maxHeartbeats 1000000 in
theorem rpcount_bad (k a : Int) (h : ¬ okP k a) (w : World) : Calls Tryz.prog 18 #[.agg #[.int .i64 k, .int .i64 a]] w (RetI 0 w) := by
  have C1 := Lib.hid (rpvalid_no k a h)
  go_enter Tryz.func18, Tryz.ntmps18
  go_wp2_with fail
  refine (C1.out _).mono ?_
  rintro e w1 ⟨rfl, hw1⟩
  go_wp2
  go_ret
  exact ⟨rfl, Below.trans ((Below.refl w.heap.size w).alloc (Nat.le_refl _) _) (hw1.mono (by simp))⟩
set_option maxRecDepth 100000 in
set_option maxHeartbeats 1000000 in
theorem rpcount_yes (k a : Int) (h : okP k a) (w : World) : Calls Tryz.prog 18 #[.agg #[.int .i64 k, .int .i64 a]] w (RetI (cnt k a) w) := by
  have C1 := Lib.hid (rpvalid_yes k a h)
  have C2 := Lib.hid (rpnum_any k a 84005 h (by omega) (by omega))
  have E := Lib.hid (show cnt k a = nO k a 84005 + 1 from rfl)
  have B := nO_in k a 84005 (by omega) (by omega)
  have B2 := cnt_bd k a
  obtain ⟨n0, n1, _, _⟩ := B
  obtain ⟨_, n2⟩ := B2
  have n3 : nO k a 84005 ≤ 12003 := by omega
  clear n1 n2
  generalize nO k a 84005 = n at *
  go_enter Tryz.func18, Tryz.ntmps18
  go_wp2_with fail
  have R := Box2.new w 27 k a
  refine (C1.out _).mono ?_
  rintro e w1 ⟨rfl, hw1⟩
  have R1 := R.step hw1
  have hB1 : Below w.heap.size w w1 := Below.trans ((Below.refl w.heap.size w).alloc (Nat.le_refl _) _) (hw1.mono (by simp))
  have z0 := R1.c0
  have z1 := R1.c1
  clear hw1 R
  go_wp2_with (go_at_call 17; refine (C2.out _).mono ?_; rintro e w2 ⟨rfl, hw2⟩)
  go_ret
  exact RetI.of rfl E.out (hB1.trans (hw2.mono hB1.size))
theorem rpcount_any (k a : Int) (w : World) : Calls Tryz.prog 18 #[.agg #[.int .i64 k, .int .i64 a]] w (RetI (cnV k a) w) := by
  unfold cnV
  by_cases h : okP k a
  · rw [if_pos h]; exact rpcount_yes k a h w
  · rw [if_neg h]; exact rpcount_bad k a h w
end Go.Proofs.YtmgglcfndhfceaaGreatDoor.Per
