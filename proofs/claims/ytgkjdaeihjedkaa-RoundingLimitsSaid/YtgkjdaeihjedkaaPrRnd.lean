/-
  Layer 2 (rounding): what rounding computes, as plain numbers. Conditions: a positive denominator.
-/
import Derived.Test.YtgkjdaeihjedkaaPrAs
namespace Go.Proofs.Ytgkjdaeihjedkaa
open Go Go.RowKit Go.Lib
set_option linter.unusedVariables false

/-- The number between two neighbours: q is the lower one, r the rest above it. -/
def pickT (q r d m : Int) (neg : Bool) : Int :=
  if r = 0 then q
  else if m = 0 then (if neg then q + 1 else q)
  else if m = 1 then (if neg then q else q + 1)
  else if m = 2 then q
  else if m = 3 then q + 1
  else if d - r < r then q + 1
  else if r < d - r then q
  else if m = 4 then (if neg then q else q + 1)
  else if m = 5 then (if neg then q + 1 else q)
  else if q % 2 = 0 then q else q + 1
/-- The integer to which n / d is rounded. -/
def rndT (n d m : Int) : Int := pickT (n / d) (n % d) d m (decide (n < 0))

theorem pickT_near (q r d m : Int) (neg : Bool) : pickT q r d m neg = q ∨ (pickT q r d m neg = q + 1 ∧ r ≠ 0) := by
  unfold pickT
  by_cases h : r = 0
  · simp [h]
  · rw [if_neg h]
    (repeat' split) <;> (first | exact .inl rfl | exact .inr ⟨rfl, h⟩)
theorem rndT_near (n d m : Int) : rndT n d m = n / d ∨ (rndT n d m = n / d + 1 ∧ n % d ≠ 0) := pickT_near ..
theorem rndT_bd (n d m B : Int) (hd : 1 ≤ d) (h0 : -B ≤ n) (h1 : n ≤ B) (hB : 0 ≤ B) : -B ≤ rndT n d m ∧ rndT n d m ≤ B := by
  have a1 := Int.mul_ediv_add_emod n d
  have a2 := Int.emod_nonneg n (show d ≠ 0 by omega)
  have a3 := Int.emod_lt_of_pos n (show 0 < d by omega)
  have h : -B ≤ n / d ∧ n / d ≤ B ∧ (n % d ≠ 0 → n / d + 1 ≤ B) := by
    have q0 : -B ≤ n / d := by
      rw [Int.le_ediv_iff_mul_le (by omega)]
      have : -B * d ≤ -B * 1 := Int.mul_le_mul_of_nonpos_left (by omega) hd
      omega
    have q1 : n / d ≤ B := by
      refine Int.ediv_le_of_le_mul (by omega) ?_
      have : B * 1 ≤ B * d := Int.mul_le_mul_of_nonneg_left hd hB
      omega
    refine ⟨q0, q1, fun hr => ?_⟩
    rcases Int.lt_or_eq_of_le q1 with h | h
    · omega
    · exfalso
      rw [h] at a1
      have : d * B ≥ 1 * B := Int.mul_le_mul_of_nonneg_right hd hB
      omega
  rcases rndT_near n d m with e | ⟨e, hr⟩
  · omega
  · have := h.2.2 hr; omega

/-- What outward answers. -/
def outB (m : Int) (neg odd : Bool) (half : Int) : Bool :=
  if m = 1 then true else if m = 2 then neg else if m = 3 then !neg else if m = 4 then decide (0 ≤ half) else if m = 5 then decide (0 < half)
  else if m = 6 then (decide (0 < half) || (half == 0 && odd)) else false

theorem cmp3 (x y : Int) : (x < y ∧ Lib.compareInt x y = -1) ∨ (x = y ∧ Lib.compareInt x y = 0) ∨ (y < x ∧ Lib.compareInt x y = 1) := by
  unfold Lib.compareInt
  rcases Int.lt_trichotomy x y with h | h | h
  · exact .inl ⟨h, by rw [if_pos h]⟩
  · exact .inr (.inl ⟨h, by rw [if_neg (by omega), if_neg (by omega)]⟩)
  · exact .inr (.inr ⟨h, by rw [if_neg (by omega), if_pos h]⟩)
theorem mode7 {m : Int} (h0 : 0 ≤ m) (h1 : m ≤ 6) : m = 0 ∨ m = 1 ∨ m = 2 ∨ m = 3 ∨ m = 4 ∨ m = 5 ∨ m = 6 := by omega

theorem pick_pos (q r d m : Int) (h0 : 0 ≤ m) (h1 : m ≤ 6) (hr : 0 < r) (hd : r < d) :
    pickT q r d m false = if outB m false (q % 2 != 0) (Lib.compareInt (2 * r) d) then q + 1 else q := by
  unfold pickT
  rw [if_neg (show ¬ r = 0 by omega)]
  have hq : q % 2 = 0 ∨ q % 2 = 1 := by omega
  rcases mode7 h0 h1 with rfl | rfl | rfl | rfl | rfl | rfl | rfl <;> rcases cmp3 (2 * r) d with ⟨c, e⟩ | ⟨c, e⟩ | ⟨c, e⟩ <;> rw [e] <;> simp [outB]
  all_goals first
    | omega
    | (rw [if_neg (by omega), if_pos (by omega)])
    | (rw [if_pos (by omega)])
    | (rw [if_neg (by omega), if_neg (by omega)]; rcases hq with hq | hq <;> simp [hq])
theorem pick_neg (i t d m : Int) (h0 : 0 ≤ m) (h1 : m ≤ 6) (ht : 0 < t) (hd : t < d) :
    pickT (i - 1) (d - t) d m true = if outB m true (i % 2 != 0) (Lib.compareInt (2 * t) d) then i - 1 else i := by
  unfold pickT
  rw [if_neg (show ¬ d - t = 0 by omega)]
  have hq : (i % 2 = 0 ∧ (i - 1) % 2 = 1) ∨ (i % 2 = 1 ∧ (i - 1) % 2 = 0) := by omega
  rcases mode7 h0 h1 with rfl | rfl | rfl | rfl | rfl | rfl | rfl <;> rcases cmp3 (2 * t) d with ⟨c, e⟩ | ⟨c, e⟩ | ⟨c, e⟩ <;> rw [e] <;> simp [outB]
  all_goals first
    | omega
    | (rw [if_neg (by omega), if_pos (by omega)])
    | (rw [if_pos (by omega)])
    | (rw [if_neg (by omega), if_neg (by omega)]; rcases hq with ⟨hq, hp⟩ | ⟨hq, hp⟩ <;> simp [hq, hp])
theorem rnd_zero (n d m : Int) (h : n % d = 0) : rndT n d m = n / d := by unfold rndT pickT; rw [if_pos h]
theorem rnd_pos (n d m : Int) (hn : 0 ≤ n) (hd : 1 ≤ d) (h0 : 0 ≤ m) (h1 : m ≤ 6) (hr : n % d ≠ 0) :
    rndT n d m = if outB m false (n / d % 2 != 0) (Lib.compareInt (2 * (n % d)) d) then n / d + 1 else n / d := by
  unfold rndT
  rw [decide_eq_false (by omega)]
  exact pick_pos _ _ _ _ h0 h1 (by have := Int.emod_nonneg n (show d ≠ 0 by omega); omega) (Int.emod_lt_of_pos _ (by omega))
theorem neg_parts (n d : Int) (hd : 1 ≤ d) (h : n.tmod d < 0) : n / d = n.tdiv d - 1 ∧ n % d = d - -n.tmod d := by
  have h1 := floor_low n d hd h
  have e := Int.mul_tdiv_add_tmod n d
  have f := Int.mul_ediv_add_emod n d
  rw [← h1, Int.mul_sub] at f
  exact ⟨h1.symm, by omega⟩
theorem rnd_neg (n d m : Int) (hn : n < 0) (hd : 1 ≤ d) (h0 : 0 ≤ m) (h1 : m ≤ 6) (hr : n.tmod d < 0) :
    rndT n d m = if outB m true (n.tdiv d % 2 != 0) (Lib.compareInt (2 * (-n.tmod d)) d) then n.tdiv d - 1 else n.tdiv d := by
  unfold rndT
  rw [decide_eq_true hn]
  obtain ⟨e1, e2⟩ := neg_parts n d hd hr
  rw [e1, e2]
  have l := Int.lt_tmod_of_pos n (b := d) (by omega)
  exact pick_neg _ _ _ _ h0 h1 (by omega) (by omega)
theorem rnd_neg0 (n d m : Int) (hd : 1 ≤ d) (hr : n.tmod d = 0) : rndT n d m = n.tdiv d := by
  have h := floor_same n d hd (by omega)
  rw [h, rnd_zero]
  have e := Int.mul_tdiv_add_tmod n d
  have f := Int.mul_ediv_add_emod n d
  rw [← h] at f
  omega

set_option maxHeartbeats 1000000 in
theorem out_any (m : Int) (neg odd : Bool) (half : Int) (w : World) :
    Calls Try.prog 29 #[.int .i64 m, .bool neg, .bool odd, .int .i64 half] w fun e w' => e = .returned (.bool (outB m neg odd half)) ∧ w = w' := by
  by_cases e1 : m = 1
  · subst e1
    go_enter Try.func29, Try.ntmps29
    go_wp2
    go_ret
    exact ⟨rfl, rfl⟩
  by_cases e2 : m = 2
  · subst e2
    go_enter Try.func29, Try.ntmps29
    go_wp2
    go_ret
    exact ⟨rfl, rfl⟩
  by_cases e3 : m = 3
  · subst e3
    go_enter Try.func29, Try.ntmps29
    go_wp2
    go_ret
    exact ⟨rfl, rfl⟩
  by_cases e4 : m = 4
  · subst e4
    go_enter Try.func29, Try.ntmps29
    go_wp2
    go_ret
    exact ⟨rfl, rfl⟩
  by_cases e5 : m = 5
  · subst e5
    go_enter Try.func29, Try.ntmps29
    go_wp2
    go_ret
    exact ⟨rfl, rfl⟩
  by_cases e6 : m = 6
  · subst e6
    rcases Int.lt_trichotomy half 0 with h | rfl | h
    · have HE : Hid (outB 6 neg odd half = decide (0 < half)) := Lib.hid (by unfold outB; simp; omega)
      have h2 : (half == 0) = false := by simp; omega
      go_enter Try.func29, Try.ntmps29
      go_wp2
      go_ret
      exact ⟨by rw [HE.out]; rfl, rfl⟩
    · have HE : Hid (outB 6 neg odd 0 = odd) := Lib.hid (by unfold outB; simp)
      go_enter Try.func29, Try.ntmps29
      go_wp2
      go_ret
      exact ⟨by rw [HE.out]; rfl, rfl⟩
    · have HE : Hid (outB 6 neg odd half = true) := Lib.hid (by unfold outB; simp; omega)
      go_enter Try.func29, Try.ntmps29
      go_wp2
      go_ret
      exact ⟨by rw [HE.out]; rfl, rfl⟩
  · have HE : Hid (outB m neg odd half = false) := Lib.hid (by unfold outB; rw [if_neg e1, if_neg e2, if_neg e3, if_neg e4, if_neg e5, if_neg e6])
    have f1 : (m == 1) = false := by simpa using e1
    have f2 : (m == 2) = false := by simpa using e2
    have f3 : (m == 3) = false := by simpa using e3
    have f4 : (m == 4) = false := by simpa using e4
    have f5 : (m == 5) = false := by simpa using e5
    have f6 : (m == 6) = false := by simpa using e6
    go_enter Try.func29, Try.ntmps29
    go_wp2
    go_ret
    exact ⟨by rw [HE.out]; rfl, rfl⟩
theorem tmod2_ne (i : Int) : (i.tmod 2 != 0) = (i % 2 != 0) := by
  have a := mod_tmod i 2
  have b := tmod_lo i 2 (by omega)
  have c := tmod_hi i 2 (by omega)
  rw [Bool.eq_iff_iff]; simp; omega
set_option maxHeartbeats 1000000 in
theorem quo_any (n d m : Int) (hd : 1 ≤ d) (hd1 : d ≤ 1000000000000000000) (h0 : -1000000000000000000 ≤ n) (h1 : n ≤ 1000000000000000000) (hm0 : 0 ≤ m) (hm1 : m ≤ 6) (w : World) :
    Calls Try.prog 24 #[.int .i64 n, .int .i64 d, .int .i64 m] w fun e w' => e = .returned (.int .i64 (rndT n d m)) ∧ ∃ k, w' = w.drewN k := by
  by_cases hn : 0 ≤ n
  · obtain ⟨q1, q2, q3, q4⟩ := ediv_bd n d hd hn
    have r1 : 0 ≤ n % d := Int.emod_nonneg _ (by omega)
    have r2 : n % d < d := Int.emod_lt_of_pos _ (by omega)
    have g1 : decide (n < 0) = false := decide_eq_false (by omega)
    by_cases hr : n % d = 0
    · have H := Lib.hid (rnd_zero n d m hr)
      have hr2 : (n % d != 0) = false := by simp [hr]
      clear hr
      go_enter Try.func24, Try.ntmps24
      go_wp2
      go_quiet (fail)
      go_wp2
      go_ret
      exact ⟨ret_int (by rw [H.out]), _, rfl⟩
    · have H0 := rnd_pos n d m hn hd hm0 hm1 hr
      have hr2 : (n % d != 0) = true := by simp [hr]
      clear hr
      cases hb : outB m false (n / d % 2 != 0) (Lib.compareInt (2 * (n % d)) d)
      all_goals
        rw [hb] at H0
        have H := Lib.hid H0
        clear H0
        go_enter Try.func24, Try.ntmps24
        go_wp2
        go_quiet (fail)
        go_wp2_with (first | (go_at_call 21; refine (Try.cmp_Compare_int _ _ _).mono ?_; rintro e w' ⟨rfl, rfl⟩) | (go_at_call 29; refine (out_any _ _ _ _ _).mono ?_; rintro e w' ⟨rfl, rfl⟩))
        go_ret
        exact ⟨ret_int (by rw [H.out]; rfl), _, rfl⟩
  · obtain ⟨q1, q2, q3, q4⟩ := tdiv_bd n d hd (by omega)
    have r1 := tmod_lo n d hd
    have r3 : n.tmod d ≤ 0 := by
      have := Int.tmod_nonneg (a := -n) d (by omega)
      rw [Int.neg_tmod] at this; omega
    have g1 : decide (n < 0) = true := decide_eq_true (by omega)
    by_cases hr : n.tmod d = 0
    · have H := Lib.hid (rnd_neg0 n d m hd hr)
      have hr2 : (-n.tmod d != 0) = false := by simp [hr]
      clear hr
      go_enter Try.func24, Try.ntmps24
      go_wp2
      go_quiet (fail)
      go_wp2
      go_ret
      exact ⟨ret_int (by rw [H.out]), _, rfl⟩
    · have H0 := rnd_neg n d m (by omega) hd hm0 hm1 (by omega)
      have hr2 : (-n.tmod d != 0) = true := by simp [hr]
      have r4 : n.tmod d < 0 := by omega
      clear hr r3
      rw [← tmod2_ne] at H0
      cases hb : outB m true ((n.tdiv d).tmod 2 != 0) (Lib.compareInt (2 * -n.tmod d) d)
      all_goals
        rw [hb] at H0
        have H := Lib.hid H0
        clear H0
        go_enter Try.func24, Try.ntmps24
        go_wp2
        go_quiet (fail)
        go_wp2_with (first | (go_at_call 21; refine (Try.cmp_Compare_int _ _ _).mono ?_; rintro e w' ⟨rfl, rfl⟩) | (go_at_call 29; refine (out_any _ _ _ _ _).mono ?_; rintro e w' ⟨rfl, rfl⟩))
        go_ret
        exact ⟨ret_int (by rw [H.out]; first | rfl | (simp; omega)), _, rfl⟩
end Go.Proofs.Ytgkjdaeihjedkaa
