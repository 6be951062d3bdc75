/-
  Layer 3 (calendar): the contracts of days told by month and day of the month; the walks of CalendarEaster, CalendarInverse, CalendarAddMonths: the answer is true. Condition: the listed variables read as the program's text lays them.
-/
import Derived.Test.YtfoocingingpcaaDoorPrCz
namespace Go.Proofs.YtfoocingingpcaaDoor
open Go Go.RowKit Go.Lib Go.Sort

/-- Day 'day' is day d (from 0) of month number m. -/
structure MD (day m d : Int) : Prop where
  m0 : 0 ≤ m
  m1 : m ≤ 2759
  d0 : 0 ≤ d
  d1 : d < Cal.len m
  eq : day = Cal.fst m + d
theorem MD.date {day m d : Int} (h : MD day m d) : Cal.DateIs day (1970 + m / 12) (m % 12) d := by
  rw [h.eq]; exact Cal.date_mk m d h.m0 h.m1 h.d0 h.d1
theorem md_num (m : Int) : 12 * (1970 + m / 12 - 1970) + m % 12 = m := by omega
theorem md_ex (day : Int) (h0 : 0 ≤ day) (h1 : day ≤ 84005) : ∃ m d, MD day m d := by
  obtain ⟨y, k, d, h⟩ := Cal.date_ex day h0 h1
  have e := h.month
  have := h.y0; have := h.y1; have := h.k0; have := h.k1
  exact ⟨12 * (y - 1970) + k, d, by omega, by omega, h.d0, by rw [e.2]; exact h.d1, by omega⟩
theorem MD.range {day m d : Int} (h : MD day m d) : 0 ≤ day ∧ day ≤ 84005 := h.date.range
theorem date_md (day m d : Int) (h : MD day m d) (w : World) (hl : LgIs w) :
    Calls Tryd.prog 24 #[.int .i64 day] w fun e w' => e = .returned (.tuple #[.int .i64 (1970 + m / 12), .int .i64 (m % 12 + 1), .int .i64 (d + 1), .bool true]) ∧ w = w' := date_yes day _ _ _ h.date w hl
theorem month_md (day m d : Int) (h : MD day m d) (w : World) (hl : LgIs w) :
    Calls Tryd.prog 32 #[.int .i64 day] w fun e w' => e = .returned (.int .i64 m) ∧ w = w' := by
  have c := month_yes day _ _ _ h.date w hl
  rwa [md_num] at c
theorem day_md (day m d : Int) (h : MD day m d) (w : World) (hl : LgIs w) :
    Calls Tryd.prog 22 #[.int .i64 (1970 + m / 12), .int .i64 (m % 12 + 1), .int .i64 (d + 1)] w fun e w' => e = .returned (.tuple #[.int .i64 day, .bool true]) ∧ w = w' := by
  have c := day_yes _ _ _ h.date.is.1 w hl
  rwa [h.date.is.2] at c
theorem add_a (day m d n : Int) (h : MD day m d) (h0 : 0 ≤ m + n) (h1 : m + n ≤ 2759) (hd : d + 1 ≤ Cal.len (m + n)) (w : World) (hl : LgIs w) :
    Calls Tryd.prog 28 #[.int .i64 day, .int .i64 n] w fun e w' => e = .returned (.tuple #[.int .i64 (Cal.fst (m + n) + d), .bool true]) ∧ w = w' := by
  have c := addM_yes day n _ _ _ h.date (by rw [md_num]; omega) (by rw [md_num]; omega) w hl
  rw [md_num, show min (d + 1) (Cal.len (m + n)) = d + 1 by omega, show Cal.fst (m + n) + (d + 1) - 1 = Cal.fst (m + n) + d by omega] at c
  exact c
theorem add_b (day m d n : Int) (h : MD day m d) (h0 : 0 ≤ m + n) (h1 : m + n ≤ 2759) (hd : Cal.len (m + n) ≤ d) (w : World) (hl : LgIs w) :
    Calls Tryd.prog 28 #[.int .i64 day, .int .i64 n] w fun e w' => e = .returned (.tuple #[.int .i64 (Cal.fst (m + n) + (Cal.len (m + n) - 1)), .bool true]) ∧ w = w' := by
  have c := addM_yes day n _ _ _ h.date (by rw [md_num]; omega) (by rw [md_num]; omega) w hl
  rw [md_num, show min (d + 1) (Cal.len (m + n)) = Cal.len (m + n) by omega, show Cal.fst (m + n) + Cal.len (m + n) - 1 = Cal.fst (m + n) + (Cal.len (m + n) - 1) by omega] at c
  exact c
theorem add_far (day m d n : Int) (h : MD day m d) (hn : m + n < 0 ∨ 2759 < m + n) (w : World) (hl : LgIs w) :
    Calls Tryd.prog 28 #[.int .i64 day, .int .i64 n] w fun e w' => e = .returned (.tuple #[.int .i64 0, .bool false]) ∧ w = w' :=
  addM_far day n _ _ _ h.date (by rw [md_num]; omega) w hl
theorem MD.mk0 (m d : Int) (h0 : 0 ≤ m) (h1 : m ≤ 2759) (d0 : 0 ≤ d) (d1 : d < Cal.len m) : MD (Cal.fst m + d) m d := ⟨h0, h1, d0, d1, rfl⟩

set_option maxRecDepth 100000 in
set_option maxHeartbeats 2000000 in
theorem easter_walk (n : Int) (n0 : -9223372036854775808 ≤ n) (n1 : n ≤ 9223372036854775807) (w : World) (hok : OKC w) :
    Calls Tryd.prog 9 #[.int .i64 n] w fun e w' => e = .returned (.bool true) ∧ Below w.heap.size w w' := by
  have hl := hok.lg
  have m0 := modT_lo n 230 (by omega)
  have m1 := modT_hi n 230 (by omega)
  have M := Lib.hid (mod_any n 230 n0 n1 (by omega) (by omega))
  generalize modT n 230 = m at m0 m1 M
  obtain ⟨e1, e2, e3, e4, _⟩ := Cal.easter_at (1970 + m) (by omega) (by omega)
  rw [show 12 * (1970 + m - 1970) + 2 = 12 * (1970 + m - 1970) + 2 from rfl, Cal.fst_at _ 2 (by omega) (by omega)] at e3
  rw [Cal.fst_at _ 3 (by omega) (by omega)] at e4
  have b2 := Cal.dm_bd (1970 + m) (3 - 1)
  have b3 := Cal.dm_bd (1970 + m) (4 - 1)
  have i2 : Cal.Is (1970 + m) 3 22 := ⟨by omega, by omega, by omega, by omega, by omega, by omega⟩
  have i3 : Cal.Is (1970 + m) 4 25 := ⟨by omega, by omega, by omega, by omega, by omega, by omega⟩
  have I2 := Lib.hid i2
  have I3 := Lib.hid i3
  have t1 : (Cal.wd (Cal.eaT (1970 + m)) == 6) = true := by rw [e2]; rfl
  have t2 : decide (Cal.dayT (1970 + m) 3 22 ≤ Cal.eaT (1970 + m)) = true := decide_eq_true (by unfold Cal.dayT; rw [show (3 : Int) - 1 = 2 from rfl]; omega)
  have t3 : decide (Cal.eaT (1970 + m) ≤ Cal.dayT (1970 + m) 4 25) = true := decide_eq_true (by unfold Cal.dayT; rw [show (4 : Int) - 1 = 3 from rfl]; omega)
  obtain ⟨r0, r1⟩ := Cal.eaT_bd (1970 + m) (by omega) (by omega)
  clear e1 e2 e3 e4 b2 b3 i2 i3 n0 n1
  go_enter Tryd.func9, Tryd.ntmps9
  go_wp2_with (first | (go_at_call 12; (with_reducible refine (M.out _).mono ?_); rintro e w' ⟨rfl, rfl⟩) | (go_at_call 38; (with_reducible refine (easter_yes _ (by omega) (by omega) _ hl).mono ?_); rintro e w' ⟨rfl, rfl⟩) | (go_at_call 22; (with_reducible refine (day_yes _ _ _ I2.out _ hl).mono ?_); rintro e w' ⟨rfl, rfl⟩) | (go_at_call 22; (with_reducible refine (day_yes _ _ _ I3.out _ hl).mono ?_); rintro e w' ⟨rfl, rfl⟩) | (go_at_call 30; (with_reducible refine (weekdayX_yes _ r0 r1 _).mono ?_); rintro e w' ⟨rfl, rfl⟩))
  refine (sane_any _ hok).mono ?_
  rintro e w1 ⟨rfl, hw1⟩
  go_wp2_with fail
  go_ret
  exact ⟨rfl, hw1⟩

set_option maxRecDepth 100000 in
set_option maxHeartbeats 2000000 in
theorem inverse_walk (n : Int) (n0 : -9223372036854775808 ≤ n) (n1 : n ≤ 9223372036854775807) (w : World) (hok : OKC w) :
    Calls Tryd.prog 8 #[.int .i64 n] w fun e w' => e = .returned (.bool true) ∧ Below w.heap.size w w' := by
  have hl := hok.lg
  have m0 := modT_lo n 83999 (by omega)
  have m1 := modT_hi n 83999 (by omega)
  have M := Lib.hid (mod_any n 83999 n0 n1 (by omega) (by omega))
  have k0 := modT_lo n 2759 (by omega)
  have k1 := modT_hi n 2759 (by omega)
  have K := Lib.hid (mod_any n 2759 n0 n1 (by omega) (by omega))
  generalize modT n 83999 = d at m0 m1 M
  generalize modT n 2759 = k at k0 k1 K
  obtain ⟨m, x, hd⟩ := md_ex d m0 (by omega)
  have D := Lib.hid hd
  have l0 := Cal.len_bd k
  have l1 := Cal.len_bd (k + 1)
  have fs := Cal.fst_succ k
  have A1 : Hid (MD (Cal.fst (k + 1) - 1) k (Cal.len k - 1)) := Lib.hid ⟨k0, by omega, by omega, by omega, by omega⟩
  have A2 : Hid (MD (Cal.fst (k + 1)) (k + 1) 0) := Lib.hid ⟨by omega, by omega, by omega, by omega, by omega⟩
  have t1 : (Cal.wd (d + 7) != Cal.wd d) = false := by unfold Cal.wd; simp; omega
  have t2 : (Cal.wd (d + 1) == Cal.wd d) = false := by unfold Cal.wd; simp; omega
  have t3 : (Cal.fst k + Cal.len k == Cal.fst (k + 1)) = true := by simp; omega
  obtain ⟨f0, f1⟩ := Cal.fst_bd k k0 (by omega)
  obtain ⟨f2, f3⟩ := Cal.fst_bd (k + 1) (by omega) (by omega)
  obtain ⟨l2, l3⟩ := l0
  have x0 := hd.d0
  have x1 : x ≤ 31 := by have := hd.d1; have := Cal.len_bd m; omega
  have y0 := hd.m0
  have y1 := hd.m1
  clear fs hd n0 n1 l1
  go_enter Tryd.func8, Tryd.ntmps8
  go_wp2_with (first | (go_at_call 12; (with_reducible refine (M.out _).mono ?_); rintro e w' ⟨rfl, rfl⟩) | (go_at_call 12; (with_reducible refine (K.out _).mono ?_); rintro e w' ⟨rfl, rfl⟩) | (go_at_call 24; (with_reducible refine (date_md _ _ _ D.out _ hl).mono ?_); rintro e w' ⟨rfl, rfl⟩) | (go_at_call 22; (with_reducible refine (day_md _ _ _ D.out _ hl).mono ?_); rintro e w' ⟨rfl, rfl⟩) | (go_at_call 30; (with_reducible refine (weekdayX_yes _ (by omega) (by omega) _).mono ?_); rintro e w' ⟨rfl, rfl⟩) | (go_at_call 34; (with_reducible refine (first_yes _ (by omega) (by omega) _ hl).mono ?_); rintro e w' ⟨rfl, rfl⟩) | (go_at_call 36; (with_reducible refine (length_int _ (by omega) (by omega) _ hl).mono ?_); rintro e w' ⟨rfl, rfl⟩) | (go_at_call 32; (with_reducible refine (month_md _ _ _ A1.out _ hl).mono ?_); rintro e w' ⟨rfl, rfl⟩) | (go_at_call 32; (with_reducible refine (month_md _ _ _ A2.out _ hl).mono ?_); rintro e w' ⟨rfl, rfl⟩))
  refine (sane_any _ hok).mono ?_
  rintro e w1 ⟨rfl, hw1⟩
  go_wp2_with fail
  go_ret
  exact ⟨rfl, hw1⟩

set_option maxRecDepth 100000 in
set_option maxHeartbeats 4000000 in
theorem addm_walk (n k : Int) (n0 : -9223372036854775808 ≤ n) (n1 : n ≤ 9223372036854775807) (k0 : -9223372036854775808 ≤ k) (k1 : k ≤ 9223372036854775807) (w : World) (hok : OKC w) :
    Calls Tryd.prog 10 #[.int .i64 n, .int .i64 k] w fun e w' => e = .returned (.bool true) ∧ Below w.heap.size w w' := by
  have hl := hok.lg
  have m0 := modT_lo n 84006 (by omega)
  have m1 := modT_hi n 84006 (by omega)
  have M := Lib.hid (mod_any n 84006 n0 n1 (by omega) (by omega))
  have b0 := modT_lo k 49 (by omega)
  have b1 := modT_hi k 49 (by omega)
  have K := Lib.hid (mod_any k 49 k0 k1 (by omega) (by omega))
  clear n0 n1 k0 k1
  generalize modT n 84006 = d at m0 m1 M
  generalize modT k 49 = b at b0 b1 K
  obtain ⟨m, x, hd⟩ := md_ex d m0 (by omega)
  have D := Lib.hid hd
  have x0 := hd.d0
  have x1 : x ≤ 30 := by have := hd.d1; have := Cal.len_bd m; omega
  have y0 := hd.m0
  have y1 := hd.m1
  clear hd
  by_cases hr : m + (b - 24) < 0 ∨ 2759 < m + (b - 24)
  · by_cases hr' : m + (b - 24) < 0
    · clear hr
      go_enter Tryd.func10, Tryd.ntmps10
      go_wp2_with (first | (go_at_call 12; (with_reducible refine (M.out _).mono ?_); rintro e w' ⟨rfl, rfl⟩) | (go_at_call 12; (with_reducible refine (K.out _).mono ?_); rintro e w' ⟨rfl, rfl⟩) | (go_at_call 28; (with_reducible refine (add_far _ _ _ _ D.out (by omega) _ hl).mono ?_); rintro e w' ⟨rfl, rfl⟩) | (go_at_call 32; (with_reducible refine (month_md _ _ _ D.out _ hl).mono ?_); rintro e w' ⟨rfl, rfl⟩))
      refine (sane_any _ hok).mono ?_
      rintro e w1 ⟨rfl, hw1⟩
      go_wp2_with fail
      go_ret
      exact ⟨rfl, hw1⟩
    · have hr2 : 2759 < m + (b - 24) := by omega
      clear hr hr'
      go_enter Tryd.func10, Tryd.ntmps10
      go_wp2_with (first | (go_at_call 12; (with_reducible refine (M.out _).mono ?_); rintro e w' ⟨rfl, rfl⟩) | (go_at_call 12; (with_reducible refine (K.out _).mono ?_); rintro e w' ⟨rfl, rfl⟩) | (go_at_call 28; (with_reducible refine (add_far _ _ _ _ D.out (by omega) _ hl).mono ?_); rintro e w' ⟨rfl, rfl⟩) | (go_at_call 32; (with_reducible refine (month_md _ _ _ D.out _ hl).mono ?_); rintro e w' ⟨rfl, rfl⟩))
      refine (sane_any _ hok).mono ?_
      rintro e w1 ⟨rfl, hw1⟩
      go_wp2_with fail
      go_ret
      exact ⟨rfl, hw1⟩
  · have q0 : 0 ≤ m + (b - 24) := by omega
    have q1 : m + (b - 24) ≤ 2759 := by omega
    clear hr
    obtain ⟨l2, l3⟩ := Cal.len_bd (m + (b - 24))
    obtain ⟨f0, f1⟩ := Cal.fst_bd (m + (b - 24)) q0 (by omega)
    by_cases hx : x + 1 ≤ Cal.len (m + (b - 24))
    · have E := Lib.hid (MD.mk0 (m + (b - 24)) x q0 q1 x0 (by omega))
      go_enter Tryd.func10, Tryd.ntmps10
      go_wp2_with (first | (go_at_call 12; (with_reducible refine (M.out _).mono ?_); rintro e w' ⟨rfl, rfl⟩) | (go_at_call 12; (with_reducible refine (K.out _).mono ?_); rintro e w' ⟨rfl, rfl⟩) | (go_at_call 28; (with_reducible refine (add_a _ _ _ _ D.out q0 q1 hx _ hl).mono ?_); rintro e w' ⟨rfl, rfl⟩) | (go_at_call 32; (with_reducible refine (month_md _ _ _ D.out _ hl).mono ?_); rintro e w' ⟨rfl, rfl⟩) | (go_at_call 32; (with_reducible refine (month_md _ _ _ E.out _ hl).mono ?_); rintro e w' ⟨rfl, rfl⟩) | (go_at_call 24; (with_reducible refine (date_md _ _ _ D.out _ hl).mono ?_); rintro e w' ⟨rfl, rfl⟩) | (go_at_call 24; (with_reducible refine (date_md _ _ _ E.out _ hl).mono ?_); rintro e w' ⟨rfl, rfl⟩))
      refine (sane_any _ hok).mono ?_
      rintro e w1 ⟨rfl, hw1⟩
      go_wp2_with fail
      go_ret
      exact ⟨rfl, hw1⟩
    · have hx' : Cal.len (m + (b - 24)) ≤ x := by omega
      have E := Lib.hid (MD.mk0 (m + (b - 24)) (Cal.len (m + (b - 24)) - 1) q0 q1 (by omega) (by omega))
      clear hx
      go_enter Tryd.func10, Tryd.ntmps10
      go_wp2_with (first | (go_at_call 12; (with_reducible refine (M.out _).mono ?_); rintro e w' ⟨rfl, rfl⟩) | (go_at_call 12; (with_reducible refine (K.out _).mono ?_); rintro e w' ⟨rfl, rfl⟩) | (go_at_call 28; (with_reducible refine (add_b _ _ _ _ D.out q0 q1 hx' _ hl).mono ?_); rintro e w' ⟨rfl, rfl⟩) | (go_at_call 32; (with_reducible refine (month_md _ _ _ D.out _ hl).mono ?_); rintro e w' ⟨rfl, rfl⟩) | (go_at_call 32; (with_reducible refine (month_md _ _ _ E.out _ hl).mono ?_); rintro e w' ⟨rfl, rfl⟩) | (go_at_call 24; (with_reducible refine (date_md _ _ _ D.out _ hl).mono ?_); rintro e w' ⟨rfl, rfl⟩) | (go_at_call 24; (with_reducible refine (date_md _ _ _ E.out _ hl).mono ?_); rintro e w' ⟨rfl, rfl⟩) | (go_at_call 36; (with_reducible refine (length_int _ (by omega) (by omega) _ hl).mono ?_); rintro e w' ⟨rfl, rfl⟩))
      refine (sane_any _ hok).mono ?_
      rintro e w1 ⟨rfl, hw1⟩
      go_wp2_with fail
      go_ret
      exact ⟨rfl, hw1⟩
end Go.Proofs.YtfoocingingpcaaDoor
