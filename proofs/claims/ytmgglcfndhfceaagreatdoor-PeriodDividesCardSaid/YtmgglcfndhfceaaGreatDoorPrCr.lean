/-
  The reference of layer 3 (calendar): contracts of lengths, before, raw, InYears, InDays, Shown, Day, Date, Weekday, Month, Week, First, Length, AddMonths, Easter. Conditions: the arguments fit their kinds.
-/
import Derived.Test.YtmgglcfndhfceaaGreatDoorPrCl
namespace Go.Proofs.YtmgglcfndhfceaaGreatDoor
open Go Go.RowKit Go.Lib

/-- The days of the months ahead of month k (from 1). -/
def cumP (y k : Int) : Int := Cal.cum y (k - 1)

/-- The leap years ahead of year c, up to a constant. -/
def lv (c : Int) : Int := (c - 1) / 4 - (c - 1) / 100 + (c - 1) / 400
theorem lv_same_all : ∀ n : Fin 233, ∀ i : Fin 4, (1969 + (n.val : Int) + (i.val : Int)) % 4 = 0 → lv (1969 + (n.val : Int) + (i.val : Int)) = lv (1969 + (n.val : Int)) := by decide +kernel
theorem lv_same (y c : Int) (h0 : 1969 ≤ y) (h1 : y ≤ 2201) (hc : y ≤ c) (hc' : c ≤ y + 3) (h4 : c % 4 = 0) : lv c = lv y := by
  have h := lv_same_all ⟨(y - 1969).toNat, by omega⟩ ⟨(c - y).toNat, by omega⟩
  simp only at h
  rw [show (1969 : Int) + ((y - 1969).toNat : Nat) = y by omega, show y + (((c - y).toNat : Nat) : Int) = c by omega] at h
  exact h h4
theorem lv_hi_all : ∀ n : Fin 239, lv (1972 + (n.val : Int)) ≤ 600 := by decide +kernel
theorem lv_hi (c : Int) (h0 : 1972 ≤ c) (h1 : c ≤ 2210) : lv c ≤ 600 := by
  have h := lv_hi_all ⟨(c - 1972).toNat, by omega⟩
  simp only at h
  rwa [show (1972 : Int) + ((c - 1972).toNat : Nat) = c by omega] at h
theorem lv_step_all : ∀ n : Fin 239, (1972 + (n.val : Int)) % 4 = 0 → lv (1972 + (n.val : Int) + 4) = lv (1972 + (n.val : Int)) + Cal.lp (1972 + (n.val : Int)) := by decide +kernel
theorem lv_step (c : Int) (h0 : 1972 ≤ c) (h1 : c ≤ 2210) (h4 : c % 4 = 0) : lv (c + 4) = lv c + Cal.lp c := by
  have h := lv_step_all ⟨(c - 1972).toNat, by omega⟩
  simp only at h
  rw [show (1972 : Int) + ((c - 1972).toNat : Nat) = c by omega] at h
  exact h h4
set_option maxRecDepth 100000 in
set_option maxHeartbeats 1000000 in
theorem rlen_1 (y : Int) (w : World) : Calls Tryz.prog 35 #[.int .i64 y, .int .i64 1] w fun e w' => e = .returned (.int .i64 31) ∧ w = w' := by
  go_enter Tryz.func35, Tryz.ntmps35
  go_wp2
  go_ret
  exact ⟨rfl, rfl⟩
set_option maxRecDepth 100000 in
set_option maxHeartbeats 1000000 in
theorem rlen_3 (y : Int) (w : World) : Calls Tryz.prog 35 #[.int .i64 y, .int .i64 3] w fun e w' => e = .returned (.int .i64 31) ∧ w = w' := by
  go_enter Tryz.func35, Tryz.ntmps35
  go_wp2
  go_ret
  exact ⟨rfl, rfl⟩
set_option maxRecDepth 100000 in
set_option maxHeartbeats 1000000 in
theorem rlen_4 (y : Int) (w : World) : Calls Tryz.prog 35 #[.int .i64 y, .int .i64 4] w fun e w' => e = .returned (.int .i64 30) ∧ w = w' := by
  go_enter Tryz.func35, Tryz.ntmps35
  go_wp2
  go_ret
  exact ⟨rfl, rfl⟩
set_option maxRecDepth 100000 in
set_option maxHeartbeats 1000000 in
theorem rlen_5 (y : Int) (w : World) : Calls Tryz.prog 35 #[.int .i64 y, .int .i64 5] w fun e w' => e = .returned (.int .i64 31) ∧ w = w' := by
  go_enter Tryz.func35, Tryz.ntmps35
  go_wp2
  go_ret
  exact ⟨rfl, rfl⟩
set_option maxRecDepth 100000 in
set_option maxHeartbeats 1000000 in
theorem rlen_6 (y : Int) (w : World) : Calls Tryz.prog 35 #[.int .i64 y, .int .i64 6] w fun e w' => e = .returned (.int .i64 30) ∧ w = w' := by
  go_enter Tryz.func35, Tryz.ntmps35
  go_wp2
  go_ret
  exact ⟨rfl, rfl⟩
set_option maxRecDepth 100000 in
set_option maxHeartbeats 1000000 in
theorem rlen_7 (y : Int) (w : World) : Calls Tryz.prog 35 #[.int .i64 y, .int .i64 7] w fun e w' => e = .returned (.int .i64 31) ∧ w = w' := by
  go_enter Tryz.func35, Tryz.ntmps35
  go_wp2
  go_ret
  exact ⟨rfl, rfl⟩
set_option maxRecDepth 100000 in
set_option maxHeartbeats 1000000 in
theorem rlen_8 (y : Int) (w : World) : Calls Tryz.prog 35 #[.int .i64 y, .int .i64 8] w fun e w' => e = .returned (.int .i64 31) ∧ w = w' := by
  go_enter Tryz.func35, Tryz.ntmps35
  go_wp2
  go_ret
  exact ⟨rfl, rfl⟩
set_option maxRecDepth 100000 in
set_option maxHeartbeats 1000000 in
theorem rlen_9 (y : Int) (w : World) : Calls Tryz.prog 35 #[.int .i64 y, .int .i64 9] w fun e w' => e = .returned (.int .i64 30) ∧ w = w' := by
  go_enter Tryz.func35, Tryz.ntmps35
  go_wp2
  go_ret
  exact ⟨rfl, rfl⟩
set_option maxRecDepth 100000 in
set_option maxHeartbeats 1000000 in
theorem rlen_10 (y : Int) (w : World) : Calls Tryz.prog 35 #[.int .i64 y, .int .i64 10] w fun e w' => e = .returned (.int .i64 31) ∧ w = w' := by
  go_enter Tryz.func35, Tryz.ntmps35
  go_wp2
  go_ret
  exact ⟨rfl, rfl⟩
set_option maxRecDepth 100000 in
set_option maxHeartbeats 1000000 in
theorem rlen_11 (y : Int) (w : World) : Calls Tryz.prog 35 #[.int .i64 y, .int .i64 11] w fun e w' => e = .returned (.int .i64 30) ∧ w = w' := by
  go_enter Tryz.func35, Tryz.ntmps35
  go_wp2
  go_ret
  exact ⟨rfl, rfl⟩
set_option maxRecDepth 100000 in
set_option maxHeartbeats 1000000 in
theorem rlen_12 (y : Int) (w : World) : Calls Tryz.prog 35 #[.int .i64 y, .int .i64 12] w fun e w' => e = .returned (.int .i64 31) ∧ w = w' := by
  go_enter Tryz.func35, Tryz.ntmps35
  go_wp2
  go_ret
  exact ⟨rfl, rfl⟩
set_option maxRecDepth 100000 in
set_option maxHeartbeats 1000000 in
theorem rlen_2 (y : Int) (h0 : 0 ≤ y) (h1 : y ≤ 1000000) (w : World) : Calls Tryz.prog 35 #[.int .i64 y, .int .i64 2] w fun e w' => e = .returned (.int .i64 (28 + Cal.lp y)) ∧ w = w' := by
  rcases ha : (y % 4 == 0) with _ | _ <;> rcases hb : (y % 100 == 0) with _ | _ <;> rcases hc : (y % 400 == 0) with _ | _
  all_goals
    have L : Hid (Cal.lp y = _) := Lib.hid (by unfold Cal.lp Cal.lpB; rw [bne, ha, hb, hc])
    have hb' : (y % 100 != 0) = !(y % 100 == 0) := rfl
    rw [hb] at hb'
    simp only [Bool.not_false, Bool.not_true] at hb'
    go_enter Tryz.func35, Tryz.ntmps35
    go_wp2
    go_ret
    exact ⟨retI (by rw [L.out]; rfl), rfl⟩
theorem rlen_any (y k : Int) (h0 : 0 ≤ y) (h1 : y ≤ 1000000) (k0 : 1 ≤ k) (k1 : k ≤ 12) (w : World) : Calls Tryz.prog 35 #[.int .i64 y, .int .i64 k] w fun e w' => e = .returned (.int .i64 (Cal.dm y (k - 1))) ∧ w = w' := by
  rcases (by omega : k = 1 ∨ k = 2 ∨ k = 3 ∨ k = 4 ∨ k = 5 ∨ k = 6 ∨ k = 7 ∨ k = 8 ∨ k = 9 ∨ k = 10 ∨ k = 11 ∨ k = 12) with rfl | rfl | rfl | rfl | rfl | rfl | rfl | rfl | rfl | rfl | rfl | rfl
  · exact rlen_1 y w
  · exact rlen_2 y h0 h1 w
  · exact rlen_3 y w
  · exact rlen_4 y w
  · exact rlen_5 y w
  · exact rlen_6 y w
  · exact rlen_7 y w
  · exact rlen_8 y w
  · exact rlen_9 y w
  · exact rlen_10 y w
  · exact rlen_11 y w
  · exact rlen_12 y w
set_option maxRecDepth 100000 in
set_option maxHeartbeats 1000000 in
theorem rbefore (y : Int) (h0 : 1969 ≤ y) (h1 : y ≤ 2201) (w : World) : Calls Tryz.prog 51 #[.int .i64 y] w fun e w' => e = .returned (.int .i64 (Cal.nY y)) ∧ w = w' := by
  go_enter Tryz.func51, Tryz.ntmps51
  go_wp2
  go_loop [3, 4] (fun x z => ∃ n c : Int, 1972 ≤ c ∧ c ≤ 2210 ∧ Hid (c % 4 = 0 ∧ (c < y + 4 ∨ c = 1972) ∧ n = (y - 1970) * 365 + lv c - 477) ∧ -1000 ≤ n ∧ n ≤ 100000 ∧ x = .int .i64 n ∧ z = .int .i64 c) (fun _ z => (2300 - intOf z).toNat)
  case atStart => exact ⟨_, _, by omega, by omega, Lib.hid ⟨by omega, .inr rfl, by rw [show lv 1972 = 477 from rfl]; omega⟩, by omega, by omega, rfl, rfl⟩
  case round =>
    obtain ⟨n, c, c0, c1, H, n0, n1, rfl, rfl⟩ := hrel
    by_cases hc : c < y
    · have L := Lib.hid (lv_step c c0 (by omega))
      rcases hp : Cal.lp c == 1 with _ | _
      · have e : 28 + Cal.lp c = 28 := by have := Cal.lp_01 c; simp at hp; omega
        have C := Lib.hid (rlen_2 c (by omega) (by omega))
        rw [e] at C
        have E := Lib.hid e
        clear e hp
        go_wp2_with (go_at_call 35; (with_reducible refine (C.out _).mono ?_); rintro e w' ⟨rfl, rfl⟩)
        go_round
        case rel => exact ⟨n, c + 4, by omega, by omega, Lib.hid (by have h := H.out; have l := L.out h.1; have e := E.out; omega), by omega, by omega, rfl, rfl⟩
        case measure => simp [intOf]; omega
      · have e : 28 + Cal.lp c = 29 := by simp at hp; omega
        have C := Lib.hid (rlen_2 c (by omega) (by omega))
        rw [e] at C
        have E := Lib.hid e
        clear e hp
        go_wp2_with (go_at_call 35; (with_reducible refine (C.out _).mono ?_); rintro e w' ⟨rfl, rfl⟩)
        go_round
        case rel => exact ⟨n + 1, c + 4, by omega, by omega, Lib.hid (by have h := H.out; have l := L.out h.1; have e := E.out; omega), by omega, by have h := H.out; have l := lv_hi c c0 (by omega); omega, rfl, rfl⟩
        case measure => simp [intOf]; omega
    · go_wp2
      go_ret
      exact ⟨retI (by have h := H.out; have l := lv_same y c h0 h1 (by omega) (by omega) h.1; have e : Cal.nY y = 365 * (y - 1970) + lv y - 477 := (by unfold Cal.nY lv; omega); omega), rfl⟩
set_option maxRecDepth 100000 in
set_option maxHeartbeats 1000000 in
theorem rraw (y k d : Int) (h0 : 1969 ≤ y) (h1 : y ≤ 2200) (k0 : 1 ≤ k) (k1 : k ≤ 12) (d0 : -100 ≤ d) (d1 : d ≤ 100) (w : World) : Calls Tryz.prog 53 #[.int .i64 y, .int .i64 k, .int .i64 d] w fun e w' => e = .returned (.int .i64 (Cal.nY y + cumP y k + d - 1)) ∧ w = w' := by
  obtain ⟨n0, n1⟩ := Cal.nY_bd y h0 (by omega)
  have S := Lib.hid (show ∀ j, 1 ≤ j → j ≤ 11 → cumP y (j + 1) = cumP y j + Cal.dm y (j - 1) from fun j a b => by
    have h := Cal.cum_succ y (j - 1) (by omega) (by omega)
    unfold cumP
    rw [show j + 1 - 1 = j - 1 + 1 by omega, h])
  have S0 : Hid (cumP y 1 = 0) := Lib.hid (by unfold cumP; exact Cal.cum_0 y)
  go_enter Tryz.func53, Tryz.ntmps53
  go_wp2_with (go_at_call 51; (with_reducible refine (rbefore _ h0 (by omega) _).mono ?_); rintro e w' ⟨rfl, rfl⟩)
  go_loop [7, 8] (fun x z => ∃ n m : Int, 1 ≤ m ∧ m ≤ k ∧ -1000 ≤ n ∧ n ≤ 100000 ∧ Hid (n = Cal.nY y + cumP y m + d - 1) ∧ x = .int .i64 n ∧ z = .int .i64 m) (fun _ z => (k - intOf z).toNat)
  case atStart => exact ⟨_, _, by omega, by omega, by omega, by omega, Lib.hid (by rw [S0.out]; omega), rfl, rfl⟩
  case round =>
    obtain ⟨n, m, m0, m1, b0, b1, N, rfl, rfl⟩ := hrel
    by_cases hm : m < k
    · have s := S.out m m0 (by omega)
      have cb := Cal.cum_bd y m (by omega) (by omega)
      have D := Cal.dm_bd y (m - 1)
      have b2 : n + Cal.dm y (m - 1) = Cal.nY y + cumP y (m + 1) + d - 1 := by rw [N.out, s]; omega
      have b3 : cumP y (m + 1) = Cal.cum y m := by unfold cumP; rw [show m + 1 - 1 = m by omega]
      have b4 : -1000 ≤ n + Cal.dm y (m - 1) ∧ n + Cal.dm y (m - 1) ≤ 100000 := by omega
      have B2 := Lib.hid b2
      clear s b2 b3 cb
      go_wp2_with (go_at_call 35; (with_reducible refine (rlen_any _ _ (by omega) (by omega) (by omega) (by omega) _).mono ?_); rintro e w' ⟨rfl, rfl⟩)
      go_round
      case rel => exact ⟨_, m + 1, by omega, by omega, b4.1, b4.2, B2, rfl, rfl⟩
      case measure => simp [intOf]; omega
    · obtain rfl : m = k := by omega
      go_wp2
      go_ret
      exact ⟨retI N.out, rfl⟩
set_option maxRecDepth 100000 in
set_option maxHeartbeats 1000000 in
theorem rInYears_yes (n : Int) (h0 : 1970 ≤ n) (h1 : n ≤ 2199) (w : World) : Calls Tryz.prog 52 #[.int .i64 n] w fun e w' => e = .returned (.bool true) ∧ w = w' := by
  go_enter Tryz.func52, Tryz.ntmps52
  go_wp2
  go_ret
  exact ⟨rfl, rfl⟩
set_option maxRecDepth 100000 in
set_option maxHeartbeats 1000000 in
theorem rInYears_no (n : Int) (h : n < 1970 ∨ 2199 < n) (w : World) : Calls Tryz.prog 52 #[.int .i64 n] w fun e w' => e = .returned (.bool false) ∧ w = w' := by
  by_cases h0 : 1970 ≤ n
  · have h1 : 2199 < n := by omega
    have hd : decide (n ≤ 2199) = false := decide_eq_false (by omega)
    clear h
    go_enter Tryz.func52, Tryz.ntmps52
    go_wp2
    go_ret
    exact ⟨rfl, rfl⟩
  · have h1 : n < 1970 := by omega
    clear h h0
    go_enter Tryz.func52, Tryz.ntmps52
    go_wp2
    go_ret
    exact ⟨rfl, rfl⟩
set_option maxRecDepth 100000 in
set_option maxHeartbeats 1000000 in
theorem rInDays_yes (n : Int) (h0 : 0 ≤ n) (h1 : n ≤ 84005) (w : World) : Calls Tryz.prog 16 #[.int .i64 n] w fun e w' => e = .returned (.bool true) ∧ w = w' := by
  go_enter Tryz.func16, Tryz.ntmps16
  go_wp2
  go_ret
  exact ⟨rfl, rfl⟩
set_option maxRecDepth 100000 in
set_option maxHeartbeats 1000000 in
theorem rInDays_no (n : Int) (h : n < 0 ∨ 84005 < n) (w : World) : Calls Tryz.prog 16 #[.int .i64 n] w fun e w' => e = .returned (.bool false) ∧ w = w' := by
  by_cases h0 : 0 ≤ n
  · have h1 : 84005 < n := by omega
    have hd : decide (n ≤ 84005) = false := decide_eq_false (by omega)
    clear h
    go_enter Tryz.func16, Tryz.ntmps16
    go_wp2
    go_ret
    exact ⟨rfl, rfl⟩
  · have h1 : n < 0 := by omega
    clear h h0
    go_enter Tryz.func16, Tryz.ntmps16
    go_wp2
    go_ret
    exact ⟨rfl, rfl⟩
set_option maxRecDepth 100000 in
set_option maxHeartbeats 1000000 in
theorem rshown (d : Int) (h0 : -1000000 ≤ d) (h1 : d ≤ 1000000) (w : World) : Calls Tryz.prog 71 #[.int .i64 d] w fun e w' => e = .returned (.int .i64 (Cal.wd d)) ∧ w = w' := by
  have l1 := tmod_lo (d + 3) 7 (by omega)
  have l2 := tmod_hi (d + 3) 7 (by omega)
  by_cases h : 0 ≤ d + 3
  · have E := Lib.hid (show (d + 3) % 7 = Cal.wd d from rfl)
    clear l1 l2
    go_enter Tryz.func71, Tryz.ntmps71
    go_wp2
    go_ret
    exact ⟨retI (by have := E.out; unfold Cal.wd; omega), rfl⟩
  · have E := Lib.hid (show (d + 3).tmod 7 % 7 = Cal.wd d by exact (mod_tmod (d + 3) 7).symm)
    go_enter Tryz.func71, Tryz.ntmps71
    go_wp2
    go_ret
    exact ⟨retI E.out, rfl⟩
set_option maxRecDepth 100000 in
set_option maxHeartbeats 1000000 in
theorem rday_no (y k d : Int) (h : ¬ Cal.Is y k d) (w : World) : Calls Tryz.prog 34 #[.int .i64 y, .int .i64 k, .int .i64 d] w fun e w' => e = .returned (.tuple #[.int .i64 0, .bool false]) ∧ w = w' := by
  by_cases hy : 1970 ≤ y ∧ y ≤ 2199
  · obtain ⟨y0, y1⟩ := hy
    by_cases k0 : k < 1
    · clear h
      go_enter Tryz.func34, Tryz.ntmps34
      go_wp2_with (go_at_call 52; (with_reducible refine (rInYears_yes _ (by omega) (by omega) _).mono ?_); rintro e w' ⟨rfl, rfl⟩)
      go_ret2
      exact ⟨rfl, rfl⟩
    · by_cases k1 : 12 < k
      · clear h
        go_enter Tryz.func34, Tryz.ntmps34
        go_wp2_with (go_at_call 52; (with_reducible refine (rInYears_yes _ (by omega) (by omega) _).mono ?_); rintro e w' ⟨rfl, rfl⟩)
        go_ret2
        exact ⟨rfl, rfl⟩
      · by_cases d0 : d < 1
        · clear h
          go_enter Tryz.func34, Tryz.ntmps34
          go_wp2_with (go_at_call 52; (with_reducible refine (rInYears_yes _ (by omega) (by omega) _).mono ?_); rintro e w' ⟨rfl, rfl⟩)
          go_ret2
          exact ⟨rfl, rfl⟩
        · have d1 : Cal.dm y (k - 1) < d := Int.lt_of_not_ge fun c => h ⟨y0, y1, by omega, by omega, by omega, c⟩
          clear h
          go_enter Tryz.func34, Tryz.ntmps34
          go_wp2_with (first | (go_at_call 52; (with_reducible refine (rInYears_yes _ (by omega) (by omega) _).mono ?_); rintro e w' ⟨rfl, rfl⟩) | (go_at_call 35; (with_reducible refine (rlen_any _ _ (by omega) (by omega) (by omega) (by omega) _).mono ?_); rintro e w' ⟨rfl, rfl⟩))
          go_ret2
          exact ⟨rfl, rfl⟩
  · have hy' : y < 1970 ∨ 2199 < y := by omega
    clear h hy
    go_enter Tryz.func34, Tryz.ntmps34
    go_wp2_with (go_at_call 52; (with_reducible refine (rInYears_no _ hy' _).mono ?_); rintro e w' ⟨rfl, rfl⟩)
    go_ret2
    exact ⟨rfl, rfl⟩
set_option maxRecDepth 100000 in
set_option maxHeartbeats 1000000 in
theorem rday_yes (y k d : Int) (h : Cal.Is y k d) (w : World) : Calls Tryz.prog 34 #[.int .i64 y, .int .i64 k, .int .i64 d] w fun e w' => e = .returned (.tuple #[.int .i64 (Cal.dayT y k d), .bool true]) ∧ w = w' := by
  obtain ⟨y0, y1, k0, k1, d0, d1⟩ := h
  have d2 : d ≤ 31 := by have := Cal.dm_bd y (k - 1); omega
  go_enter Tryz.func34, Tryz.ntmps34
  go_wp2_with (first | (go_at_call 52; (with_reducible refine (rInYears_yes _ (by omega) (by omega) _).mono ?_); rintro e w' ⟨rfl, rfl⟩) | (go_at_call 35; (with_reducible refine (rlen_any _ _ (by omega) (by omega) (by omega) (by omega) _).mono ?_); rintro e w' ⟨rfl, rfl⟩) | (go_at_call 53; (with_reducible refine (rraw _ _ _ (by omega) (by omega) (by omega) (by omega) (by omega) (by omega) _).mono ?_); rintro e w' ⟨rfl, rfl⟩))
  go_ret2
  exact ⟨rfl, rfl⟩
set_option maxRecDepth 100000 in
set_option maxHeartbeats 1000000 in
theorem rdate_no (day : Int) (h : day < 0 ∨ 84005 < day) (w : World) : Calls Tryz.prog 33 #[.int .i64 day] w fun e w' => e = .returned (.tuple #[.int .i64 0, .int .i64 0, .int .i64 0, .bool false]) ∧ w = w' := by
  go_enter Tryz.func33, Tryz.ntmps33
  go_wp2_with (go_at_call 16; (with_reducible refine (rInDays_no _ h _).mono ?_); rintro e w' ⟨rfl, rfl⟩)
  exact bodyPost_ret (v := .tuple #[.int .i64 0, .int .i64 0, .int .i64 0, .bool false]) (by simp [results, Tryz.results33, go_sem]) rfl ⟨rfl, rfl⟩
set_option maxRecDepth 100000 in
set_option maxHeartbeats 2000000 in
theorem rdate_yes (day y k d : Int) (h : Cal.DateIs day y k d) (w : World) : Calls Tryz.prog 33 #[.int .i64 day] w fun e w' => e = .returned (.tuple #[.int .i64 y, .int .i64 (k + 1), .int .i64 (d + 1), .bool true]) ∧ w = w' := by
  obtain ⟨r0, r1⟩ := h.range
  obtain ⟨hy1, hy2⟩ := h.year
  obtain ⟨n0, n1⟩ := Cal.nY_bd y (by have := h.y0; omega) (by have := h.y1; omega)
  have H := Lib.hid h
  have g := Cal.guess day r0
  have gy : 1970 + day / 366 ≤ y := by
    have := Cal.nY_lt (a := 1970 + day / 366) (b := y + 1) (by omega)
    omega
  have g0 : 0 ≤ day / 366 := by omega
  have SY := Lib.hid (show ∀ c, c ≤ y → (Cal.nY (c + 1) ≤ day ↔ c < y) from fun c hc => ⟨fun h => by
    have := Cal.nY_lt (a := c + 1) (b := y + 1) (by omega); omega, fun h => by
    have := (Cal.nY_mono (c + 1) y (by omega)).1; omega⟩)
  obtain ⟨y0, y1, k0, k1, d0, d1, eq⟩ := h
  have S := Lib.hid (show ∀ j, 0 ≤ j → j ≤ k → (Cal.cum y (j + 1) = Cal.cum y j + Cal.dm y j ∧ 0 ≤ Cal.cum y j ∧ (j < k → Cal.dm y j ≤ day - Cal.nY y - Cal.cum y j)) from fun j j0 j1 => ⟨Cal.cum_succ y j j0 (by omega), (Cal.cum_bd y j j0 (by omega)).1, fun jk => by
    have a := Cal.cum_succ y j j0 (by omega)
    have b := Cal.cum_mono y (j + 1) k (by omega) (by omega) (by omega)
    omega⟩)
  clear eq d1 hy2 g
  go_enter Tryz.func33, Tryz.ntmps33
  go_wp2_with (go_at_call 16; (with_reducible refine (rInDays_yes _ r0 r1 _).mono ?_); rintro e w' ⟨rfl, rfl⟩)
  go_loop [6] (fun x => ∃ c : Int, 1970 ≤ c ∧ c ≤ y ∧ x = .int .i64 c) (fun x => (y - intOf x).toNat)
  case atStart => exact ⟨_, by omega, gy, rfl⟩
  case round =>
    obtain ⟨c, hc0, hc1, rfl⟩ := hrel
    have s := SY.out c hc1
    by_cases h : c < y
    · have hd : decide (Cal.nY (c + 1) ≤ day) = true := decide_eq_true (s.mpr h)
      clear s
      go_wp2_with (go_at_call 51; (with_reducible refine (rbefore _ (by omega) (by omega) _).mono ?_); rintro e w' ⟨rfl, rfl⟩)
      go_round
      case rel => exact ⟨c + 1, by omega, by omega, rfl⟩
      case measure => simp [intOf]; omega
    · have hd : decide (Cal.nY (c + 1) ≤ day) = false := decide_eq_false (fun k => h (s.mp k))
      obtain rfl : c = y := by omega
      clear s
      go_wp2_with (go_at_call 51; (with_reducible refine (rbefore _ (by omega) (by omega) _).mono ?_); rintro e w' ⟨rfl, rfl⟩)
      go_loop [7, 8] (fun x z => ∃ j r : Int, 0 ≤ j ∧ j ≤ k ∧ 0 ≤ r ∧ r ≤ 100000 ∧ Hid (r = day - Cal.nY c - Cal.cum c j) ∧ x = .int .i64 r ∧ z = .int .i64 (j + 1)) (fun _ z => (k + 1 - intOf z).toNat)
      case atStart => exact ⟨0, _, by omega, by omega, by omega, by omega, Lib.hid (by rw [Cal.cum_0]; omega), rfl, rfl⟩
      case round =>
        obtain ⟨j, r, j0, j1, r0, r1, R, rfl, rfl⟩ := hrel
        obtain ⟨s2, s3, s4⟩ := S.out j j0 j1
        rw [← R.out] at s4
        have S2 := Lib.hid s2
        obtain ⟨l0, l1⟩ := Cal.dm_bd c j
        have C := Lib.hid (rlen_any c (j + 1) (by omega) (by omega) (by omega) (by omega))
        rw [show j + 1 - 1 = j by omega] at C
        clear s2
        by_cases hj : j < k
        · have s5 : Cal.dm c j ≤ r := s4 hj
          clear s4
          go_wp2_with (go_at_call 35; (with_reducible refine (C.out _).mono ?_); rintro e w' ⟨rfl, rfl⟩)
          go_round
          case rel => exact ⟨j + 1, r - Cal.dm c j, by omega, by omega, by omega, by omega, Lib.hid (by rw [S2.out, R.out]; omega), rfl, rfl⟩
          case measure => simp [intOf]; omega
        · obtain rfl : j = k := by omega
          have hr : r = d := by rw [R.out]; have := H.out.eq; omega
          have s5 : r < Cal.dm c j := by rw [hr]; exact H.out.d1
          have HR := Lib.hid hr
          clear s4 hr
          go_wp2_with (go_at_call 35; (with_reducible refine (C.out _).mono ?_); rintro e w' ⟨rfl, rfl⟩)
          refine bodyPost_ret (v := .tuple #[.int .i64 c, .int .i64 (j + 1), .int .i64 (r + 1), .bool true]) (by simp [results, Tryz.results33, go_sem]) rfl ⟨?_, rfl⟩
          rw [HR.out]
end Go.Proofs.YtmgglcfndhfceaaGreatDoor
