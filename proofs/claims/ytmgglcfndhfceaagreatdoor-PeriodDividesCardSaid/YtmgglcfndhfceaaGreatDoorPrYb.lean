/-
  Layer 5 (period): contracts of number, Valid, Of, Span, Count. Conditions: the arguments fit their kinds; the table of month lengths reads as the program's text lays it.
-/
import Derived.Test.YtmgglcfndhfceaaGreatDoorPrYk
namespace Go.Proofs.YtmgglcfndhfceaaGreatDoor.Per
open Go Go.RowKit Go.Lib Go.Proofs.YtmgglcfndhfceaaGreatDoor Go.Proofs.YtmgglcfndhfceaaGreatDoor.Cal

/-! Valid -/
set_option maxHeartbeats 1000000 in
theorem pvalid_o (k a : Int) (h0 : (k == 0) = false) (h1 : (k == 1) = false) (h2 : (k == 2) = false) (h3 : (k == 3) = false) (w : World) :
    Calls Tryz.prog 46 #[.agg #[.int .i64 k, .int .i64 a]] w (RetI 2 w) := by
  go_enter Tryz.func46, Tryz.ntmps46
  go_wp2_with (go_at_call 36; (with_reducible refine (pwithin_no _ _ _ (by omega) _).mono ?_); rintro e w' ⟨rfl, rfl⟩)
  go_ret
  exact ⟨rfl, (Below.refl _ _).alloc (Nat.le_refl _) _⟩
set_option maxHeartbeats 1000000 in
theorem pvalid_m (k a : Int) (hk : k = 0 ∨ k = 1) (ha : ¬ a = 0) (w : World) :
    Calls Tryz.prog 46 #[.agg #[.int .i64 k, .int .i64 a]] w (RetI 2 w) := by
  rcases hk with rfl | rfl
  all_goals
    go_enter Tryz.func46, Tryz.ntmps46
    go_wp2_with (go_at_call 36; (with_reducible refine (pwithin_no _ _ _ (by omega) _).mono ?_); rintro e w' ⟨rfl, rfl⟩)
    go_ret
    exact ⟨rfl, (Below.refl _ _).alloc (Nat.le_refl _) _⟩
set_option maxHeartbeats 1000000 in
theorem pvalid_m0 (k : Int) (hk : k = 0 ∨ k = 1) (w : World) :
    Calls Tryz.prog 46 #[.agg #[.int .i64 k, .int .i64 0]] w (RetI 0 w) := by
  rcases hk with rfl | rfl
  all_goals
    go_enter Tryz.func46, Tryz.ntmps46
    go_wp2_with (go_at_call 36; (with_reducible refine (pwithin_yes _ _ _ (by omega) (by omega) _).mono ?_); rintro e w' ⟨rfl, rfl⟩)
    go_ret
    exact ⟨rfl, (Below.refl _ _).alloc (Nat.le_refl _) _⟩
theorem L_2 : L 2 = 14 := rfl
theorem L_3 : L 3 = 7 := rfl
set_option maxHeartbeats 1000000 in
theorem pvalid_w (k a l : Int) (hk : (k = 2 ∧ l = 14) ∨ (k = 3 ∧ l = 7)) (b : Bool) (ha : b = true ↔ (0 ≤ a ∧ a ≤ l - 1)) (w : World) :
    Calls Tryz.prog 46 #[.agg #[.int .i64 k, .int .i64 a]] w (RetI (if b then 0 else 2) w) := by
  have C : Hid (∀ w, Calls Tryz.prog 49 #[.agg #[.int .i64 k, .int .i64 a]] w (RetI l w)) := Lib.hid fun w => by
    have := plen_any k a w
    rcases hk with ⟨rfl, rfl⟩ | ⟨rfl, rfl⟩
    · rwa [L_2] at this
    · rwa [L_3] at this
  have l0 : 7 ≤ l := by omega
  have l1 : l ≤ 14 := by omega
  have hk' : k = 2 ∨ k = 3 := by omega
  clear hk
  rcases b with _ | _
  · have hn : a < 0 ∨ l - 1 < a := by simp at ha; omega
    clear ha
    have R := Box2.new w 27 k a
    rcases hk' with rfl | rfl
    all_goals
      go_enter Tryz.func46, Tryz.ntmps46
      go_wp2_with fail
      refine (C.out _).mono ?_
      rintro e w1 ⟨rfl, hw1⟩
      have z1 := (R.step hw1).c1
      have hB := Below.trans ((Below.refl w.heap.size w).alloc (Nat.le_refl _) _) (hw1.mono (by simp))
      clear hw1 R
      go_wp2_with (go_at_call 36; (with_reducible refine (pwithin_no _ _ _ hn _).mono ?_); rintro e w' ⟨rfl, rfl⟩)
      go_ret
      exact ⟨rfl, hB⟩
  · have hn : 0 ≤ a ∧ a ≤ l - 1 := ha.mp rfl
    clear ha
    obtain ⟨n0, n1⟩ := hn
    have R := Box2.new w 27 k a
    rcases hk' with rfl | rfl
    all_goals
      go_enter Tryz.func46, Tryz.ntmps46
      go_wp2_with fail
      refine (C.out _).mono ?_
      rintro e w1 ⟨rfl, hw1⟩
      have z1 := (R.step hw1).c1
      have hB := Below.trans ((Below.refl w.heap.size w).alloc (Nat.le_refl _) _) (hw1.mono (by simp))
      clear hw1 R
      go_wp2_with (go_at_call 36; (with_reducible refine (pwithin_yes _ _ _ n0 n1 _).mono ?_); rintro e w' ⟨rfl, rfl⟩)
      go_ret
      exact ⟨rfl, hB⟩
theorem beqF {a b : Int} (h : ¬ a = b) : (a == b) = false := by simp [h]
theorem pvalid_any (k a : Int) (w : World) : Calls Tryz.prog 46 #[.agg #[.int .i64 k, .int .i64 a]] w (RetI (vE k a) w) := by
  unfold vE
  by_cases h01 : k = 0 ∨ k = 1
  · by_cases ha : a = 0
    · subst ha
      rw [if_pos (by unfold okP; omega)]; exact pvalid_m0 k h01 w
    · rw [if_neg (by unfold okP; omega)]; exact pvalid_m k a h01 ha w
  · by_cases h2 : k = 2
    · have := pvalid_w k a 14 (.inl ⟨h2, rfl⟩) (decide (0 ≤ a ∧ a ≤ 14 - 1)) (by simp) w
      by_cases c : 0 ≤ a ∧ a ≤ 14 - 1
      · rw [if_pos (by unfold okP; omega)]; rwa [decide_eq_true c, if_pos rfl] at this
      · rw [if_neg (by unfold okP; omega)]; rwa [decide_eq_false c, if_neg (by simp)] at this
    · by_cases h3 : k = 3
      · have := pvalid_w k a 7 (.inr ⟨h3, rfl⟩) (decide (0 ≤ a ∧ a ≤ 7 - 1)) (by simp) w
        by_cases c : 0 ≤ a ∧ a ≤ 7 - 1
        · rw [if_pos (by unfold okP; omega)]; rwa [decide_eq_true c, if_pos rfl] at this
        · rw [if_neg (by unfold okP; omega)]; rwa [decide_eq_false c, if_neg (by simp)] at this
      · rw [if_neg (by unfold okP; omega)]
        exact pvalid_o k a (beqF (by omega)) (beqF (by omega)) (beqF h2) (beqF h3) w

/-! number -/
set_option maxRecDepth 100000 in
set_option maxHeartbeats 1000000 in
theorem pnum_0 (a x : Int) (h0 : 0 ≤ x) (h1 : x ≤ 84005) (w : World) (hl : LgIs w) :
    Calls Tryz.prog 47 #[.agg #[.int .i64 0, .int .i64 a], .int .i64 x] w (RetI (nO 0 a x) w) := by
  have M := mO_spec x h0 h1
  have E := Lib.hid (nO_0 a x)
  have C := Lib.hid (fun w hl => month_md x _ _ M w hl)
  clear M
  generalize mO x = m at *
  have hl1 : LgIs (w.alloc (.cells #[.int .i64 0, .int .i64 a] 27)) := hl.below ((Below.refl _ _).alloc (Nat.le_refl _) _)
  go_enter Tryz.func47, Tryz.ntmps47
  go_wp2_with (go_at_call 64; refine (C.out _ hl1).mono ?_; rintro e w' ⟨rfl, rfl⟩)
  go_ret
  exact RetI.of rfl E.out ((Below.refl _ _).alloc (Nat.le_refl _) _)
set_option maxRecDepth 100000 in
set_option maxHeartbeats 1000000 in
theorem pnum_1 (a x : Int) (h0 : 0 ≤ x) (h1 : x ≤ 84005) (w : World) (hl : LgIs w) :
    Calls Tryz.prog 47 #[.agg #[.int .i64 1, .int .i64 a], .int .i64 x] w (RetI (nO 1 a x) w) := by
  have M := mO_spec x h0 h1
  have E := Lib.hid (nO_1 a x)
  have C := Lib.hid (fun w hl => month_md x _ _ M w hl)
  have C2 := Lib.hid (fun w hl => pmonth_any (mO x) M.m0 M.m1 w hl)
  obtain ⟨f0, f1, f2, f3⟩ := fst_le (mO x) M.m0 M.m1
  have m0 := M.m0
  have m1 := M.m1
  clear M
  generalize mO x = m at *
  generalize fst m = f at *
  generalize len m = l at *
  have hl1 : LgIs (w.alloc (.cells #[.int .i64 1, .int .i64 a] 27)) := hl.below ((Below.refl _ _).alloc (Nat.le_refl _) _)
  have hf0 := fld0 f (f + l - 1)
  by_cases c : x < f + 15
  · have E2 := Lib.hid (show nO 1 a x = 2 * m by rw [E.out, if_pos c]; omega)
    clear E
    go_enter Tryz.func47, Tryz.ntmps47
    go_wp2_with (first | (go_at_call 64; refine (C.out _ hl1).mono ?_; rintro e w' ⟨rfl, rfl⟩) | (go_at_call 48; refine (C2.out _ hl1).mono ?_; rintro e w1 ⟨rfl, hw1⟩))
    go_ret
    exact RetI.of rfl E2.out (((Below.refl _ _).alloc (Nat.le_refl _) _).trans (hw1.mono (by simp)))
  · have E2 := Lib.hid (show nO 1 a x = 2 * m + 1 by rw [E.out, if_neg c])
    clear E
    go_enter Tryz.func47, Tryz.ntmps47
    go_wp2_with (first | (go_at_call 64; refine (C.out _ hl1).mono ?_; rintro e w' ⟨rfl, rfl⟩) | (go_at_call 48; refine (C2.out _ hl1).mono ?_; rintro e w1 ⟨rfl, hw1⟩))
    go_ret
    exact RetI.of rfl E2.out (((Below.refl _ _).alloc (Nat.le_refl _) _).trans (hw1.mono (by simp)))
theorem nO_wbd (x b l : Int) (h0 : 0 ≤ x) (h1 : x ≤ 84005) (b0 : 0 ≤ b) (b1 : b < l) (l0 : 7 ≤ l) (l1 : l ≤ 14) : 0 ≤ (x + b) / l ∧ (x + b) / l ≤ 84019 := by
  have hl : 0 < l := by omega
  refine ⟨Int.ediv_nonneg (by omega) (by omega), ?_⟩
  have := Int.ediv_le_self (a := x + b) l (by omega)
  omega
set_option maxRecDepth 100000 in
set_option maxHeartbeats 1000000 in
theorem pnum_w (k a x : Int) (hk : k = 2 ∨ k = 3) (a0 : 0 ≤ a) (a1 : a ≤ L k) (h0 : 0 ≤ x) (h1 : x ≤ 84005) (w : World) :
    Calls Tryz.prog 47 #[.agg #[.int .i64 k, .int .i64 a], .int .i64 x] w (RetI (nO k a x) w) := by
  have E := Lib.hid (nO_w k a x (by omega) (by omega))
  have C := Lib.hid (plen_any k a)
  have C2 := Lib.hid (pbef_any k a a0 a1)
  obtain ⟨b0, b1⟩ := bef_bd k a
  have l0 : 7 ≤ L k := by have := L_bd k; omega
  have l1 : L k ≤ 14 := by have := L_bd k; omega
  have t0 : (k == 0) = false := beqF (by omega)
  have t1 : (k == 1) = false := beqF (by omega)
  clear hk
  generalize L k = l at *
  generalize bef k a = b at *
  have hz : ¬ l = 0 := by omega
  have d0 : 0 ≤ x + b := by omega
  obtain ⟨q0, q1⟩ := nO_wbd x b l h0 h1 b0 b1 l0 l1
  have e1 : IntKind.i64.wrap (x + b) = x + b := IntWalk.i64_in _ (by omega)
  have e2 : (x + b).tdiv l = (x + b) / l := Int.tdiv_eq_ediv_of_nonneg d0
  have e3 : IntKind.i64.wrap ((x + b) / l) = (x + b) / l := IntWalk.i64_in _ (by omega)
  go_enter Tryz.func47, Tryz.ntmps47
  go_wp2_with fail
  have R0 := Box2.new w 27 k a
  have z0 := R0.c0
  have z1 := R0.c1
  have hB0 : Below w.heap.size w (w.alloc (.cells #[.int .i64 k, .int .i64 a] 27)) := (Below.refl _ _).alloc (Nat.le_refl _) _
  go_region_held3 (fun w' => w'.cell? ⟨w.heap.size, 0, none⟩ = some (.int .i64 k) ∧ w'.cell? ⟨w.heap.size, 1, none⟩ = some (.int .i64 a) ∧ Box2 w' w.heap.size 27 k a ∧ Below w.heap.size w w')
    (first | exact ⟨z0, z1, R0, hB0.drew⟩ | exact ⟨R1.c0, R1.c1, R1, B1⟩)
    (first
      | (go_at_call 49; go_split_ands; refine (C.out _).mono ?_; rintro e w1 ⟨rfl, hw1⟩; (have R1 : Box2 w1 w.heap.size 27 k a := Box2.step (by assumption) hw1); (have B1 : Below w.heap.size w w1 := Below.trans (by assumption) (hw1.mono (Below.size (by assumption)))))
      | (go_at_call 50; go_split_ands; refine (C2.out _).mono ?_; rintro e w1 ⟨rfl, hw1⟩; (have R1 : Box2 w1 w.heap.size 27 k a := Box2.step (by assumption) hw1); (have B1 : Below w.heap.size w w1 := Below.trans (by assumption) (hw1.mono (Below.size (by assumption))))))
  go_split_ands
  go_wp2
  go_ret
  exact RetI.of rfl E.out (by assumption)
theorem pnum_any (k a x : Int) (hk : okP k a) (h0 : 0 ≤ x) (h1 : x ≤ 84005) (w : World) (hl : LgIs w) :
    Calls Tryz.prog 47 #[.agg #[.int .i64 k, .int .i64 a], .int .i64 x] w (RetI (nO k a x) w) := by
  by_cases e0 : k = 0
  · subst e0; exact pnum_0 a x h0 h1 w hl
  · by_cases e1 : k = 1
    · subst e1; exact pnum_1 a x h0 h1 w hl
    · have : (k = 2 ∧ a ≤ 13) ∨ (k = 3 ∧ a ≤ 6) := by unfold okP at hk; omega
      refine pnum_w k a x (by omega) (by unfold okP at hk; omega) ?_ h0 h1 w
      rcases this with ⟨rfl, h⟩ | ⟨rfl, h⟩
      · rw [L_2]; omega
      · rw [L_3]; omega
end Go.Proofs.YtmgglcfndhfceaaGreatDoor.Per
