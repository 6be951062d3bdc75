/-
  Layer 2 (rounding): contracts of the reference's nearest, of within, known and Mode. Conditions: a positive denominator; the numbers are small enough.
-/
import Derived.Test.YtnkpbkebbfelfaaPrRnd
namespace Go.Proofs.Ytnkpbkebbfelfaa
open Go Go.RowKit Go.Lib
set_option linter.unusedVariables false

theorem rest_eq (n d : Int) : n - n / d * d = n % d := by
  have f := Int.mul_ediv_add_emod n d
  have c : n / d * d = d * (n / d) := Int.mul_comm ..
  omega
theorem pick_m0 {q r d : Int} {neg : Bool} (hr : 0 < r) : pickT q r d 0 neg = if neg then q + 1 else q := by unfold pickT; rw [if_neg (by omega)]; rfl
theorem pick_m1 {q r d : Int} {neg : Bool} (hr : 0 < r) : pickT q r d 1 neg = if neg then q else q + 1 := by unfold pickT; rw [if_neg (by omega)]; rfl
theorem pick_m2 {q r d : Int} {neg : Bool} (hr : 0 < r) : pickT q r d 2 neg = q := by unfold pickT; rw [if_neg (by omega)]; rfl
theorem pick_m3 {q r d : Int} {neg : Bool} (hr : 0 < r) : pickT q r d 3 neg = q + 1 := by unfold pickT; rw [if_neg (by omega)]; rfl
theorem pick_lo {q r d m : Int} {neg : Bool} (hr : 0 < r) (hm : 4 ≤ m) (c : r < d - r) : pickT q r d m neg = q := by
  unfold pickT; rw [if_neg (by omega), if_neg (by omega), if_neg (by omega), if_neg (by omega), if_neg (by omega), if_neg (by omega), if_pos c]
theorem pick_hi {q r d m : Int} {neg : Bool} (hr : 0 < r) (hm : 4 ≤ m) (c : d - r < r) : pickT q r d m neg = q + 1 := by
  unfold pickT; rw [if_neg (by omega), if_neg (by omega), if_neg (by omega), if_neg (by omega), if_neg (by omega), if_pos c]
theorem pick_t4 {q r d : Int} {neg : Bool} (hr : 0 < r) (c : r = d - r) : pickT q r d 4 neg = if neg then q else q + 1 := by
  unfold pickT; rw [if_neg (by omega), if_neg (by omega), if_neg (by omega), if_neg (by omega), if_neg (by omega), if_neg (by omega), if_neg (by omega)]; rfl
theorem pick_t5 {q r d : Int} {neg : Bool} (hr : 0 < r) (c : r = d - r) : pickT q r d 5 neg = if neg then q + 1 else q := by
  unfold pickT; rw [if_neg (by omega), if_neg (by omega), if_neg (by omega), if_neg (by omega), if_neg (by omega), if_neg (by omega), if_neg (by omega)]; rfl
theorem pick_t6e {q r d : Int} {neg : Bool} (hr : 0 < r) (c : r = d - r) (h : q % 2 = 0) : pickT q r d 6 neg = q := by
  unfold pickT; rw [if_neg (by omega), if_neg (by omega), if_neg (by omega), if_neg (by omega), if_neg (by omega), if_neg (by omega), if_neg (by omega), if_neg (by omega), if_neg (by omega), if_pos h]
theorem pick_t6o {q r d : Int} {neg : Bool} (hr : 0 < r) (c : r = d - r) (h : ¬ q % 2 = 0) : pickT q r d 6 neg = q + 1 := by
  unfold pickT; rw [if_neg (by omega), if_neg (by omega), if_neg (by omega), if_neg (by omega), if_neg (by omega), if_neg (by omega), if_neg (by omega), if_neg (by omega), if_neg (by omega), if_neg h]

set_option maxHeartbeats 4000000 in
theorem near_pos (n d m : Int) (hd : 1 ≤ d) (hd1 : d ≤ 1000000000000000000) (hn : 0 ≤ n) (h1 : n ≤ 1000000000000000000) (hm0 : 0 ≤ m) (hm1 : m ≤ 6) (w : World) :
    Calls Try.prog 44 #[.int .i64 n, .int .i64 d, .int .i64 m] w fun e w' => e = .returned (.int .i64 (rndT n d m)) ∧ w = w' := by
  obtain ⟨q1, q2, q3, q4⟩ := ediv_bd n d hd hn
  have r1 : 0 ≤ n % d := Int.emod_nonneg _ (by omega)
  have r2 : n % d < d := Int.emod_lt_of_pos _ (by omega)
  have re := rest_eq n d
  have g1 : decide (n < 0) = false := decide_eq_false (by omega)
  have H : Hid (rndT n d m = pickT (n / d) (n % d) d m false) := Lib.hid (by unfold rndT; rw [g1])
  have hev : (n / d % 2 = 0 ∧ (n / d % 2 == 0) = true) ∨ (¬ n / d % 2 = 0 ∧ (n / d % 2 == 0) = false) := by by_cases h : n / d % 2 = 0 <;> simp [h]
  by_cases hr : n % d = 0
  · have H := Lib.hid (rnd_zero n d m hr)
    have hr2 : (n % d == 0) = true := by simp [hr]
    clear hr
    go_enter Try.func44, Try.ntmps44
    go_wp2
    go_ret
    exact ⟨ret_int (by rw [H.out]), rfl⟩
  · have hr2 : (n % d == 0) = false := by simp [hr]
    have hr3 : 0 < n % d := by omega
    clear hr
    obtain ⟨hp, hp2⟩ | ⟨hp, hp2⟩ := hev
    all_goals
      have HP := Lib.hid hp
      clear hp
    all_goals
      rcases mode7 hm0 hm1 with rfl | rfl | rfl | rfl | rfl | rfl | rfl <;> rcases (by omega : n % d < d - n % d ∨ n % d = d - n % d ∨ d - n % d < n % d) with c | c | c
    all_goals
      first
      | have t1 : (n % d == d - n % d) = false := by simp; omega
      | have t1 : (n % d == d - n % d) = true := by simp; omega
      have C := Lib.hid c
      first
      | have c1 : decide (d - n % d < n % d) = true := by simp; omega
      | have c1 : decide (d - n % d < n % d) = false := by simp; omega
      clear c
    all_goals
      go_enter Try.func44, Try.ntmps44
      go_wp2
      all_goals
        go_ret
        exact ⟨ret_int (by rw [H.out]; refine Eq.symm ?_; first | exact pick_m0 hr3 | exact pick_m1 hr3 | exact pick_m2 hr3 | exact pick_m3 hr3 | exact pick_lo hr3 (by omega) C.out | exact pick_hi hr3 (by omega) C.out | exact pick_t4 hr3 C.out | exact pick_t5 hr3 C.out | exact pick_t6e hr3 C.out HP.out | exact pick_t6o hr3 C.out HP.out), rfl⟩
set_option maxHeartbeats 4000000 in
theorem near_neg (n d m : Int) (hd : 1 ≤ d) (hd1 : d ≤ 1000000000000000000) (hn : n < 0) (h1 : -1000000000000000000 ≤ n) (hm0 : 0 ≤ m) (hm1 : m ≤ 6) (w : World) :
    Calls Try.prog 44 #[.int .i64 n, .int .i64 d, .int .i64 m] w fun e w' => e = .returned (.int .i64 (rndT n d m)) ∧ w = w' := by
  obtain ⟨q1, q2, q3, q4⟩ := tdiv_bd n d hd hn
  have r1 : 0 ≤ n % d := Int.emod_nonneg _ (by omega)
  have r2 : n % d < d := Int.emod_lt_of_pos _ (by omega)
  have re := rest_eq n d
  have g1 : decide (n < 0) = true := decide_eq_true hn
  have H : Hid (rndT n d m = pickT (n / d) (n % d) d m true) := Lib.hid (by unfold rndT; rw [g1])
  have hev : (n / d % 2 = 0 ∧ ((n / d).tmod 2 == 0) = true) ∨ (¬ n / d % 2 = 0 ∧ ((n / d).tmod 2 == 0) = false) := by
    have a := mod_tmod (n / d) 2
    have b := tmod_lo (n / d) 2 (by omega)
    have c := tmod_hi (n / d) 2 (by omega)
    by_cases h : n / d % 2 = 0
    · left; simp; omega
    · right; simp; omega
  by_cases ht : n.tmod d < 0
  · have te := floor_low n d hd ht
    have tl := less_of_tmod n d ht
    have tg : decide (n < n.tdiv d * d) = true := decide_eq_true tl
    have q5 : n / d * d ≤ n := by have := rest_eq n d; omega
    have q6 : -1000000000000000000 - d ≤ n / d * d := by have := rest_eq n d; omega
    clear ht
    by_cases hr : n % d = 0
    · have H := Lib.hid (rnd_zero n d m hr)
      have hr2 : (n % d == 0) = true := by simp [hr]
      clear hr
      go_enter Try.func44, Try.ntmps44
      go_wp2
      go_ret
      exact ⟨ret_int (by rw [H.out]), rfl⟩
    · have hr2 : (n % d == 0) = false := by simp [hr]
      have hr3 : 0 < n % d := by omega
      clear hr
      obtain ⟨hp, hp2⟩ | ⟨hp, hp2⟩ := hev
      all_goals
        have HP := Lib.hid hp
        clear hp
      all_goals
        rcases mode7 hm0 hm1 with rfl | rfl | rfl | rfl | rfl | rfl | rfl <;> rcases (by omega : n % d < d - n % d ∨ n % d = d - n % d ∨ d - n % d < n % d) with c | c | c
      all_goals
        first
        | have t1 : (n % d == d - n % d) = false := by simp; omega
        | have t1 : (n % d == d - n % d) = true := by simp; omega
        have C := Lib.hid c
        first
        | have c1 : decide (d - n % d < n % d) = true := by simp; omega
        | have c1 : decide (d - n % d < n % d) = false := by simp; omega
        clear c
      all_goals
        go_enter Try.func44, Try.ntmps44
        go_wp2
        all_goals
          go_ret
          exact ⟨ret_int (by rw [H.out]; refine Eq.symm ?_; first | exact pick_m0 hr3 | exact pick_m1 hr3 | exact pick_m2 hr3 | exact pick_m3 hr3 | exact pick_lo hr3 (by omega) C.out | exact pick_hi hr3 (by omega) C.out | exact pick_t4 hr3 C.out | exact pick_t5 hr3 C.out | exact pick_t6e hr3 C.out HP.out | exact pick_t6o hr3 C.out HP.out), rfl⟩
  · have te := floor_same n d hd (by omega)
    have tl := notless_of_tmod n d (by omega)
    have tg : decide (n < n.tdiv d * d) = false := decide_eq_false (by omega)
    have q5 : n / d * d ≤ n := by have := rest_eq n d; omega
    have q6 : -1000000000000000000 - d ≤ n / d * d := by have := rest_eq n d; omega
    have hr : n % d = 0 := by
      have e := Int.mul_tdiv_add_tmod n d
      have f := Int.mul_ediv_add_emod n d
      have r3 : n.tmod d ≤ 0 := by
        have := Int.tmod_nonneg (a := -n) d (by omega)
        rw [Int.neg_tmod] at this; omega
      rw [te] at e
      omega
    rw [te] at q1 q2 q3 q4 tl tg
    clear ht
    have H := Lib.hid (rnd_zero n d m hr)
    have hr2 : (n % d == 0) = true := by simp [hr]
    clear hr
    go_enter Try.func44, Try.ntmps44
    go_wp2
    go_ret
    exact ⟨ret_int (by rw [H.out]), rfl⟩

theorem near_any (n d m : Int) (hd : 1 ≤ d) (hd1 : d ≤ 1000000000000000000) (h0 : -1000000000000000000 ≤ n) (h1 : n ≤ 1000000000000000000) (hm0 : 0 ≤ m) (hm1 : m ≤ 6) (w : World) :
    Calls Try.prog 44 #[.int .i64 n, .int .i64 d, .int .i64 m] w fun e w' => e = .returned (.int .i64 (rndT n d m)) ∧ w = w' := by
  by_cases hn : 0 ≤ n
  · exact near_pos n d m hd hd1 hn h1 hm0 hm1 w
  · exact near_neg n d m hd hd1 (by omega) h0 hm0 hm1 w

/-- What within answers. -/
def witB (n lo hi : Int) : Bool := decide (lo ≤ n) && decide (n ≤ hi)
theorem wit_yes {n lo hi : Int} (h0 : lo ≤ n) (h1 : n ≤ hi) : witB n lo hi = true := by unfold witB; rw [decide_eq_true h0, decide_eq_true h1]; rfl
theorem wit_no {n lo hi : Int} (h : ¬ (lo ≤ n ∧ n ≤ hi)) : witB n lo hi = false := by unfold witB; simp; omega
set_option maxHeartbeats 1000000 in
theorem wit_any (n lo hi : Int) (w : World) : Calls Try.prog 34 #[.int .i64 n, .int .i64 lo, .int .i64 hi] w fun e w' => e = .returned (.bool (witB n lo hi)) ∧ w = w' := by
  by_cases h0 : lo ≤ n
  · have H : Hid (witB n lo hi = decide (n ≤ hi)) := Lib.hid (by unfold witB; rw [decide_eq_true h0]; rfl)
    go_enter Try.func34, Try.ntmps34
    go_wp2
    go_ret
    exact ⟨by rw [H.out]; rfl, rfl⟩
  · have H : Hid (witB n lo hi = false) := Lib.hid (wit_no (by omega))
    have h1 : decide (lo ≤ n) = false := decide_eq_false h0
    go_enter Try.func34, Try.ntmps34
    go_wp2
    go_ret
    exact ⟨by rw [H.out]; rfl, rfl⟩
set_option maxHeartbeats 1000000 in
theorem known_any (m : Int) (w : World) : Calls Try.prog 41 #[.int .i64 m] w fun e w' => e = .returned (.bool (witB m 0 6)) ∧ w = w' := by
  go_enter Try.func41, Try.ntmps41
  go_wp2_with (go_at_call 34; refine (wit_any _ _ _ _).mono ?_; rintro e w' ⟨rfl, rfl⟩)
  go_ret
  exact ⟨rfl, rfl⟩
set_option maxHeartbeats 1000000 in
theorem rmode_any (m : Int) (w : World) : Calls Try.prog 43 #[.int .i64 m] w fun e w' => e = .returned (.bool (witB m 0 6)) ∧ w = w' := by
  by_cases h0 : 0 ≤ m
  · have H : Hid (witB m 0 6 = decide (m ≤ 6)) := Lib.hid (by unfold witB; rw [decide_eq_true h0]; rfl)
    go_enter Try.func43, Try.ntmps43
    go_wp2
    go_ret
    exact ⟨by rw [H.out]; rfl, rfl⟩
  · have H : Hid (witB m 0 6 = false) := Lib.hid (wit_no (by omega))
    have h1 : decide (0 ≤ m) = false := decide_eq_false h0
    go_enter Try.func43, Try.ntmps43
    go_wp2
    go_ret
    exact ⟨by rw [H.out]; rfl, rfl⟩
end Go.Proofs.Ytnkpbkebbfelfaa
