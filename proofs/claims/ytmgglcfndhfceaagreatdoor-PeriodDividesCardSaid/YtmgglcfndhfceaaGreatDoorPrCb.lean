/-
  Layer 3 (calendar): contracts of First, Day, Date, Weekday, Month, AddMonths, Week, Easter. Conditions: the arguments fit their kinds; the table of month lengths reads as the program's text lays it.
-/
import Derived.Test.YtmgglcfndhfceaaGreatDoorPrCa
namespace Go.Proofs.YtmgglcfndhfceaaGreatDoor
open Go Go.RowKit Go.Lib

theorem ret2I {a b : Int} {c : Bool} (h : a = b) : Ending.returned (.tuple #[.int .i64 a, .bool c]) = .returned (.tuple #[.int .i64 b, .bool c]) := by rw [h]
theorem length_int (m : Int) (h0 : 0 ≤ m) (h1 : m ≤ 2759) (w : World) (hl : LgIs w) :
    Calls Tryz.prog 66 #[.int .i64 m] w fun e w' => e = .returned (.int .i64 (Cal.len m)) ∧ w = w' := by
  obtain ⟨n, rfl⟩ := Int.eq_ofNat_of_zero_le h0
  exact length_yes n (by omega) w hl

set_option maxRecDepth 100000 in
set_option maxHeartbeats 400000 in
theorem first_no (m : Int) (h : m < 0 ∨ 2759 < m) (w : World) :
    Calls Tryz.prog 65 #[.int .i64 m] w fun e w' => e = .returned (.tuple #[.int .i64 0, .bool false]) ∧ w = w' := by
  go_enter Tryz.func65, Tryz.ntmps65
  go_wp2_with (go_at_call 67; (with_reducible refine (within_no _ _ _ h _).mono ?_); rintro e w' ⟨rfl, rfl⟩)
  go_ret2
  exact ⟨rfl, rfl⟩
set_option maxRecDepth 100000 in
set_option maxHeartbeats 1000000 in
theorem first_yes (m : Int) (h0 : 0 ≤ m) (h1 : m ≤ 2759) (w : World) (hl : LgIs w) :
    Calls Tryz.prog 65 #[.int .i64 m] w fun e w' => e = .returned (.tuple #[.int .i64 (Cal.fst m), .bool true]) ∧ w = w' := by
  have S := Lib.hid (Cal.fst_start m)
  go_enter Tryz.func65, Tryz.ntmps65
  go_wp2_with (first | (go_at_call 67; (with_reducible refine (within_yes _ _ _ (by omega) (by omega) _).mono ?_); rintro e w' ⟨rfl, rfl⟩) | (go_at_call 80; (with_reducible refine (newYear_any _ (by omega) (by omega) _).mono ?_); rintro e w' ⟨rfl, rfl⟩))
  go_loop [4, 5] (fun x z => ∃ c : Int, m - m % 12 ≤ c ∧ c ≤ m ∧ x = .int .i64 (Cal.fst c) ∧ z = .int .i64 c) (fun _ z => (m - intOf z).toNat)
  case atStart => exact ⟨_, by omega, by omega, by rw [S.out], rfl⟩
  case round =>
    obtain ⟨c, hc0, hc1, rfl, rfl⟩ := hrel
    obtain ⟨f0, f1⟩ := Cal.fst_bd c (by omega) (by omega)
    obtain ⟨l0, l1⟩ := Cal.len_bd c
    have F := Lib.hid (Cal.fst_succ c)
    by_cases h : c < m
    · go_wp2_with (go_at_call 66; (with_reducible refine (length_int _ (by omega) (by omega) _ hl).mono ?_); rintro e w' ⟨rfl, rfl⟩)
      go_round
      case rel => exact ⟨c + 1, by omega, by omega, by rw [F.out], rfl⟩
      case measure => simp [intOf]; omega
    · go_wp2
      go_ret2
      obtain rfl : c = m := by omega
      exact ⟨rfl, rfl⟩

set_option maxRecDepth 100000 in
set_option maxHeartbeats 1000000 in
theorem day_no (y k d : Int) (b0 : -9223372036854775808 ≤ y) (b1 : y ≤ 9223372036854775807) (b2 : -9223372036854775808 ≤ k) (b3 : k ≤ 9223372036854775807) (h : ¬ Cal.Is y k d) (w : World) (hl : LgIs w) :
    Calls Tryz.prog 94 #[.int .i64 y, .int .i64 k, .int .i64 d] w fun e w' => e = .returned (.tuple #[.int .i64 0, .bool false]) ∧ w = w' := by
  by_cases hy : 1970 ≤ y ∧ y ≤ 2199
  · obtain ⟨y0, y1⟩ := hy
    by_cases hk : 1 ≤ k ∧ k ≤ 12
    · obtain ⟨k0, k1⟩ := hk
      have e := Cal.len_at y (k - 1) (by omega) (by omega)
      rw [show 12 * (y - 1970) + (k - 1) = 12 * (y - 1970) + k - 1 by omega] at e
      have hd : d < 1 ∨ Cal.len (12 * (y - 1970) + k - 1) < d := by
        rcases Int.lt_or_le d 1 with c | c
        · exact .inl c
        · exact .inr (by rw [e]; exact Int.lt_of_not_ge fun c' => h ⟨y0, y1, k0, k1, c, c'⟩)
      clear h e
      go_enter Tryz.func94, Tryz.ntmps94
      go_wp2_with (first | (go_at_call 66; (with_reducible refine (length_int _ (by omega) (by omega) _ hl).mono ?_); rintro e w' ⟨rfl, rfl⟩) | (go_at_call 79; (with_reducible refine (number_any _ _ (by omega) (by omega) (by omega) (by omega) _).mono ?_); rintro e w' ⟨rfl, rfl⟩) | (go_at_call 67; (with_reducible refine (within_no _ _ _ hd _).mono ?_); rintro e w' ⟨rfl, rfl⟩) | (go_at_call 67; (with_reducible refine (within_yes _ _ _ (by omega) (by omega) _).mono ?_); rintro e w' ⟨rfl, rfl⟩))
      go_ret2
      exact ⟨rfl, rfl⟩
    · have hk' : k < 1 ∨ 12 < k := by omega
      clear h hk
      go_enter Tryz.func94, Tryz.ntmps94
      go_wp2_with (first | (go_at_call 67; (with_reducible refine (within_no _ _ _ hk' _).mono ?_); rintro e w' ⟨rfl, rfl⟩) | (go_at_call 67; (with_reducible refine (within_yes _ _ _ (by omega) (by omega) _).mono ?_); rintro e w' ⟨rfl, rfl⟩))
      go_ret2
      exact ⟨rfl, rfl⟩
  · have hy' : y < 1970 ∨ 2199 < y := by omega
    clear h hy
    go_enter Tryz.func94, Tryz.ntmps94
    go_wp2_with (go_at_call 67; (with_reducible refine (within_no _ _ _ hy' _).mono ?_); rintro e w' ⟨rfl, rfl⟩)
    go_ret2
    exact ⟨rfl, rfl⟩
set_option maxRecDepth 100000 in
set_option maxHeartbeats 1000000 in
theorem day_yes (y k d : Int) (h : Cal.Is y k d) (w : World) (hl : LgIs w) :
    Calls Tryz.prog 94 #[.int .i64 y, .int .i64 k, .int .i64 d] w fun e w' => e = .returned (.tuple #[.int .i64 (Cal.dayT y k d), .bool true]) ∧ w = w' := by
  obtain ⟨y0, y1, k0, k1, d0, d1⟩ := h
  have e := Cal.len_at y (k - 1) (by omega) (by omega)
  have e2 := Cal.fst_at y (k - 1) (by omega) (by omega)
  rw [show 12 * (y - 1970) + (k - 1) = 12 * (y - 1970) + k - 1 by omega] at e e2
  have hd : d ≤ Cal.len (12 * (y - 1970) + k - 1) := by rw [e]; exact d1
  obtain ⟨l0, l1⟩ := Cal.len_bd (12 * (y - 1970) + k - 1)
  obtain ⟨f0, f1⟩ := Cal.fst_bd (12 * (y - 1970) + k - 1) (by omega) (by omega)
  have E2 := Lib.hid e2
  clear e e2 d1
  go_enter Tryz.func94, Tryz.ntmps94
  go_wp2_with (first | (go_at_call 66; (with_reducible refine (length_int _ (by omega) (by omega) _ hl).mono ?_); rintro e w' ⟨rfl, rfl⟩) | (go_at_call 79; (with_reducible refine (number_any _ _ (by omega) (by omega) (by omega) (by omega) _).mono ?_); rintro e w' ⟨rfl, rfl⟩) | (go_at_call 67; (with_reducible refine (within_yes _ _ _ (by omega) hd _).mono ?_); rintro e w' ⟨rfl, rfl⟩) | (go_at_call 67; (with_reducible refine (within_yes _ _ _ (by omega) (by omega) _).mono ?_); rintro e w' ⟨rfl, rfl⟩) | (go_at_call 65; (with_reducible refine (first_yes _ (by omega) (by omega) _ hl).mono ?_); rintro e w' ⟨rfl, rfl⟩))
  go_ret2
  exact ⟨by rw [E2.out]; rfl, rfl⟩

set_option maxRecDepth 100000 in
set_option maxHeartbeats 400000 in
theorem date_no (day : Int) (h : day < 0 ∨ 84005 < day) (w : World) :
    Calls Tryz.prog 78 #[.int .i64 day] w fun e w' => e = .returned (.tuple #[.int .i64 0, .int .i64 0, .int .i64 0, .bool false]) ∧ w = w' := by
  go_enter Tryz.func78, Tryz.ntmps78
  go_wp2_with (go_at_call 67; (with_reducible refine (within_no _ _ _ h _).mono ?_); rintro e w' ⟨rfl, rfl⟩)
  exact bodyPost_ret (v := .tuple #[.int .i64 0, .int .i64 0, .int .i64 0, .bool false]) (by simp [results, Tryz.results78, go_sem]) rfl ⟨rfl, rfl⟩
set_option maxRecDepth 100000 in
set_option maxHeartbeats 1000000 in
theorem date_yes (day y k d : Int) (h : Cal.DateIs day y k d) (w : World) (hl : LgIs w) :
    Calls Tryz.prog 78 #[.int .i64 day] w fun e w' => e = .returned (.tuple #[.int .i64 y, .int .i64 (k + 1), .int .i64 (d + 1), .bool true]) ∧ w = w' := by
  obtain ⟨r0, r1⟩ := h.range
  obtain ⟨hy1, hy2⟩ := h.year
  obtain ⟨n0, n1⟩ := Cal.nY_bd y (by have := h.y0; omega) (by have := h.y1; omega)
  have H := Lib.hid h
  obtain ⟨y0, y1, k0, k1, d0, d1, eq⟩ := h
  have S := Lib.hid (show ∀ j, 0 ≤ j → j ≤ k → (Cal.len (12 * (y - 1970) + j) = Cal.dm y j ∧ Cal.cum y (j + 1) = Cal.cum y j + Cal.dm y j ∧ 0 ≤ Cal.cum y j ∧ (j < k → Cal.dm y j ≤ day - Cal.nY y - Cal.cum y j)) from fun j j0 j1 => ⟨Cal.len_at y j j0 (by omega), Cal.cum_succ y j j0 (by omega), (Cal.cum_bd y j j0 (by omega)).1, fun jk => by
    have a := Cal.cum_succ y j j0 (by omega)
    have b := Cal.cum_mono y (j + 1) k (by omega) (by omega) (by omega)
    omega⟩)
  clear eq d1 hy2
  go_enter Tryz.func78, Tryz.ntmps78
  go_wp2_with (first | (go_at_call 67; (with_reducible refine (within_yes _ _ _ (by omega) (by omega) _).mono ?_); rintro e w' ⟨rfl, rfl⟩) | (go_at_call 69; (with_reducible refine (yearOf_any _ y (by omega) (by omega) H.out.year.1 H.out.year.2 _).mono ?_); rintro e w' ⟨rfl, rfl⟩) | (go_at_call 79; (with_reducible refine (number_any _ _ (by omega) (by omega) (by omega) (by omega) _).mono ?_); rintro e w' ⟨rfl, rfl⟩) | (go_at_call 80; (with_reducible refine (newYear_any _ (by omega) (by omega) _).mono ?_); rintro e w' ⟨rfl, rfl⟩))
  go_loop [7, 8] (fun x z => ∃ j m r : Int, 0 ≤ j ∧ j ≤ k ∧ 0 ≤ m ∧ m ≤ 2759 ∧ 0 ≤ r ∧ r ≤ 100000 ∧ Hid (m = 12 * (y - 1970) + j) ∧ Hid (r = day - Cal.nY y - Cal.cum y j) ∧ x = .int .i64 m ∧ z = .int .i64 r) (fun x _ => (12 * (y - 1970) + k - intOf x).toNat)
  case atStart => exact ⟨0, _, _, by omega, by omega, by omega, by omega, by omega, by omega, Lib.hid (by omega), Lib.hid (by rw [Cal.cum_0]; omega), rfl, rfl⟩
  case round =>
    obtain ⟨j, m, r, j0, j1, m0, m1, r0, r1, M, R, rfl, rfl⟩ := hrel
    obtain ⟨s1, s2, s3, s4⟩ := S.out j j0 j1
    rw [← M.out] at s1
    rw [← R.out] at s4
    have S2 := Lib.hid s2
    obtain ⟨l0, l1⟩ := Cal.len_bd m
    clear s2
    by_cases hj : j < k
    · have s5 : Cal.len m ≤ r := by rw [s1]; exact s4 hj
      have S1 := Lib.hid s1
      clear s1 s4
      go_wp2_with (go_at_call 66; (with_reducible refine (length_int _ (by omega) (by omega) _ hl).mono ?_); rintro e w' ⟨rfl, rfl⟩)
      go_round
      case rel => exact ⟨j + 1, m + 1, r - Cal.len m, by omega, by omega, by omega, by have := M.out; omega, by omega, by omega, Lib.hid (by rw [M.out]; omega), Lib.hid (by rw [S2.out, S1.out, R.out]; omega), rfl, rfl⟩
      case measure => simp [intOf]; have := M.out; omega
    · obtain rfl : j = k := by omega
      have hr : r = d := by rw [R.out]; have := H.out.eq; omega
      have s5 : r < Cal.len m := by rw [s1, hr]; exact H.out.d1
      have HR := Lib.hid hr
      have e12 : m % 12 = j := by rw [M.out]; omega
      have E := Lib.hid e12
      clear s1 s4 hr e12
      go_wp2_with (go_at_call 66; (with_reducible refine (length_int _ (by omega) (by omega) _ hl).mono ?_); rintro e w' ⟨rfl, rfl⟩)
      refine bodyPost_ret (v := .tuple #[.int .i64 y, .int .i64 (m % 12 + 1), .int .i64 (r + 1), .bool true]) (by simp [results, Tryz.results78, go_sem]) rfl ⟨?_, rfl⟩
      rw [E.out, HR.out]

set_option maxRecDepth 100000 in
set_option maxHeartbeats 400000 in
theorem month_no (day : Int) (h : day < 0 ∨ 84005 < day) (w : World) :
    Calls Tryz.prog 64 #[.int .i64 day] w fun e w' => e = .returned (.int .i64 (-1)) ∧ w = w' := by
  go_enter Tryz.func64, Tryz.ntmps64
  go_wp2_with (go_at_call 78; (with_reducible refine (date_no _ h _).mono ?_); rintro e w' ⟨rfl, rfl⟩)
  go_ret
  exact ⟨rfl, rfl⟩
set_option maxRecDepth 100000 in
set_option maxHeartbeats 400000 in
theorem month_yes (day y k d : Int) (h : Cal.DateIs day y k d) (w : World) (hl : LgIs w) :
    Calls Tryz.prog 64 #[.int .i64 day] w fun e w' => e = .returned (.int .i64 (12 * (y - 1970) + k)) ∧ w = w' := by
  have H := Lib.hid h
  obtain ⟨y0, y1, k0, k1, d0, d1, eq⟩ := h
  clear d1 eq
  go_enter Tryz.func64, Tryz.ntmps64
  go_wp2_with (first | (go_at_call 78; (with_reducible refine (date_yes _ y k d H.out _ hl).mono ?_); rintro e w' ⟨rfl, rfl⟩) | (go_at_call 79; (with_reducible refine (number_any _ _ (by omega) (by omega) (by omega) (by omega) _).mono ?_); rintro e w' ⟨rfl, rfl⟩))
  go_ret
  exact ⟨retI (by omega), rfl⟩

set_option maxRecDepth 100000 in
set_option maxHeartbeats 400000 in
theorem moon_any (y : Int) (h0 : 1970 ≤ y) (h1 : y ≤ 2199) (w : World) :
    Calls Tryz.prog 109 #[.int .i64 y] w fun e w' => e = .returned (.int .i64 (Cal.moonT y)) ∧ w = w' := by
  go_enter Tryz.func109, Tryz.ntmps109
  go_wp2
  go_ret
  exact ⟨retI rfl, rfl⟩
set_option maxRecDepth 100000 in
set_option maxHeartbeats 400000 in
theorem easter_no (y : Int) (b0 : -9223372036854775808 ≤ y) (b1 : y ≤ 9223372036854775807) (h : y < 1970 ∨ 2199 < y) (w : World) (hl : LgIs w) :
    Calls Tryz.prog 95 #[.int .i64 y] w fun e w' => e = .returned (.tuple #[.int .i64 0, .bool false]) ∧ w = w' := by
  have H : ¬ Cal.Is y 3 1 := fun c => by have := c.y0; have := c.y1; omega
  go_enter Tryz.func95, Tryz.ntmps95
  go_wp2_with (go_at_call 94; (with_reducible refine (day_no _ _ _ b0 b1 (by omega) (by omega) H _ hl).mono ?_); rintro e w' ⟨rfl, rfl⟩)
  go_ret2
  exact ⟨rfl, rfl⟩
set_option maxRecDepth 100000 in
set_option maxHeartbeats 400000 in
theorem easter_yes (y : Int) (h0 : 1970 ≤ y) (h1 : y ≤ 2199) (w : World) (hl : LgIs w) :
    Calls Tryz.prog 95 #[.int .i64 y] w fun e w' => e = .returned (.tuple #[.int .i64 (Cal.eaT y), .bool true]) ∧ w = w' := by
  have H : Cal.Is y 3 1 := ⟨h0, h1, by omega, by omega, by omega, by have := Cal.dm_bd y (3 - 1); omega⟩
  obtain ⟨c0, c1⟩ := H.date.range
  obtain ⟨m0, m1⟩ := Cal.moon_bd y
  obtain ⟨b0, b1⟩ := Cal.wd_bd (Cal.dayT y 3 1 + Cal.moonT y - 1)
  go_enter Tryz.func95, Tryz.ntmps95
  go_wp2_with (first | (go_at_call 94; (with_reducible refine (day_yes _ _ _ H _ hl).mono ?_); rintro e w' ⟨rfl, rfl⟩) | (go_at_call 109; (with_reducible refine (moon_any _ h0 h1 _).mono ?_); rintro e w' ⟨rfl, rfl⟩) | (go_at_call 70; (with_reducible refine (weekday_any _ (by omega) (by omega) _).mono ?_); rintro e w' ⟨rfl, rfl⟩))
  go_ret2
  refine ⟨?_, rfl⟩
  have e : Cal.dayT y 3 1 = Cal.nY y + Cal.cum y 2 := by unfold Cal.dayT; rw [show (3 : Int) - 1 = 2 from rfl]; omega
  rw [e]; rfl

end Go.Proofs.YtmgglcfndhfceaaGreatDoor
