/-
  Layer 3 (calendar): what both the program and the reference compute, for every number: Day, Date, Weekday, Month, Week, First, Length, AddMonths, Easter. Conditions: the arguments fit their kinds; the table of month lengths reads as the program's text lays it.
-/
import Derived.Test.YtmgglcfndhfceaaGreatDoorPrCr
import Derived.Deep.DeepCutAuto
namespace Go.Proofs.YtmgglcfndhfceaaGreatDoor
open Go Go.RowKit Go.Lib

theorem i64m (n : Int) (h : -9223372036854775808 ≤ n ∧ n ≤ 9223372036854775807) : -9223372036854775808 ≤ n := h.1
/-- A number that fits an int. -/
def Fits (n : Int) : Prop := -9223372036854775808 ≤ n ∧ n ≤ 9223372036854775807
def dayV (y k d : Int) : Int := if Cal.Is y k d then Cal.dayT y k d else 0
def dayO (y k d : Int) : Bool := decide (Cal.Is y k d)
def inM (m : Int) : Bool := decide (0 ≤ m ∧ m ≤ 2759)
def fstV (m : Int) : Int := if 0 ≤ m ∧ m ≤ 2759 then Cal.fst m else 0
def lenV (m : Int) : Int := if 0 ≤ m ∧ m ≤ 2759 then Cal.len m else 0
def inY (y : Int) : Bool := decide (1970 ≤ y ∧ y ≤ 2199)
def eaV (y : Int) : Int := if 1970 ≤ y ∧ y ≤ 2199 then Cal.eaT y else 0
def wdV (x : Int) : Int := if 0 ≤ x ∧ x ≤ 84005 then Cal.wd x else -1

/-- The results of Date. -/
def DateR (x y k d : Int) (ok : Bool) : Prop := (ok = true ∧ Cal.DateIs x y (k - 1) (d - 1)) ∨ (ok = false ∧ (x < 0 ∨ 84005 < x) ∧ y = 0 ∧ k = 0 ∧ d = 0)
theorem DateR.uniq {x y k d y' k' d' : Int} {ok ok' : Bool} (h : DateR x y k d ok) (h' : DateR x y' k' d' ok') : y' = y ∧ k' = k ∧ d' = d ∧ ok' = ok := by
  rcases h with ⟨rfl, h⟩ | ⟨rfl, hx, rfl, rfl, rfl⟩ <;> rcases h' with ⟨rfl, h'⟩ | ⟨rfl, hx', rfl, rfl, rfl⟩
  · obtain ⟨a, b, c⟩ := h.uniq h'
    exact ⟨by omega, by omega, by omega, rfl⟩
  · have := h.range; omega
  · have := h'.range; omega
  · exact ⟨rfl, rfl, rfl, rfl⟩
def DateP (x : Int) (w : World) (e : Ending) (w' : World) : Prop := ∃ (y k d : Int) (ok : Bool), e = .returned (.tuple #[.int .i64 y, .int .i64 k, .int .i64 d, .bool ok]) ∧ DateR x y k d ok ∧ w = w'
theorem date_of {f : Nat} {x : Int} {w : World} (hn : (x < 0 ∨ 84005 < x) → Calls Tryz.prog f #[.int .i64 x] w fun e w' => e = .returned (.tuple #[.int .i64 0, .int .i64 0, .int .i64 0, .bool false]) ∧ w = w')
    (hy : ∀ y k d, Cal.DateIs x y k d → Calls Tryz.prog f #[.int .i64 x] w fun e w' => e = .returned (.tuple #[.int .i64 y, .int .i64 (k + 1), .int .i64 (d + 1), .bool true]) ∧ w = w') : Calls Tryz.prog f #[.int .i64 x] w (DateP x w) := by
  by_cases h : x < 0 ∨ 84005 < x
  · exact (hn h).mono fun e w' ⟨he, hw⟩ => ⟨0, 0, 0, false, he, .inr ⟨rfl, h, rfl, rfl, rfl⟩, hw⟩
  · obtain ⟨y, k, d, hd⟩ := Cal.date_ex x (by omega) (by omega)
    refine (hy y k d hd).mono fun e w' ⟨he, hw⟩ => ⟨y, k + 1, d + 1, true, he, .inl ⟨rfl, ?_⟩, hw⟩
    rw [show k + 1 - 1 = k by omega, show d + 1 - 1 = d by omega]; exact hd
theorem cdate_r (x : Int) (w : World) (hl : LgIs w) : Calls Tryz.prog 78 #[.int .i64 x] w (DateP x w) := date_of (fun h => date_no x h w) fun y k d h => date_yes x y k d h w hl
theorem rdate_r (x : Int) (w : World) : Calls Tryz.prog 33 #[.int .i64 x] w (DateP x w) := date_of (fun h => rdate_no x h w) fun y k d h => rdate_yes x y k d h w

theorem cday_v (y k d : Int) (hy : Fits y) (hk : Fits k) (w : World) (hl : LgIs w) : Calls Tryz.prog 94 #[.int .i64 y, .int .i64 k, .int .i64 d] w fun e w' => e = .returned (.tuple #[.int .i64 (dayV y k d), .bool (dayO y k d)]) ∧ w = w' := by
  unfold dayV dayO
  by_cases h : Cal.Is y k d
  · rw [if_pos h, decide_eq_true h]; exact day_yes y k d h w hl
  · rw [if_neg h, decide_eq_false h]; exact day_no y k d hy.1 hy.2 hk.1 hk.2 h w hl
theorem rday_v (y k d : Int) (w : World) : Calls Tryz.prog 34 #[.int .i64 y, .int .i64 k, .int .i64 d] w fun e w' => e = .returned (.tuple #[.int .i64 (dayV y k d), .bool (dayO y k d)]) ∧ w = w' := by
  unfold dayV dayO
  by_cases h : Cal.Is y k d
  · rw [if_pos h, decide_eq_true h]; exact rday_yes y k d h w
  · rw [if_neg h, decide_eq_false h]; exact rday_no y k d h w

theorem cfirst_v (m : Int) (w : World) (hl : LgIs w) : Calls Tryz.prog 65 #[.int .i64 m] w fun e w' => e = .returned (.tuple #[.int .i64 (fstV m), .bool (inM m)]) ∧ w = w' := by
  unfold fstV inM
  by_cases h : 0 ≤ m ∧ m ≤ 2759
  · rw [if_pos h, decide_eq_true h]; exact first_yes m h.1 h.2 w hl
  · rw [if_neg h, decide_eq_false h]; exact first_no m (by omega) w
theorem clen_v (m : Int) (w : World) (hl : LgIs w) : Calls Tryz.prog 66 #[.int .i64 m] w fun e w' => e = .returned (.int .i64 (lenV m)) ∧ w = w' := by
  unfold lenV
  by_cases h : 0 ≤ m ∧ m ≤ 2759
  · rw [if_pos h]; exact length_int m h.1 h.2 w hl
  · rw [if_neg h]; exact length_no m (by omega) w
theorem ceaster_v (y : Int) (hy : Fits y) (w : World) (hl : LgIs w) : Calls Tryz.prog 95 #[.int .i64 y] w fun e w' => e = .returned (.tuple #[.int .i64 (eaV y), .bool (inY y)]) ∧ w = w' := by
  unfold eaV inY
  by_cases h : 1970 ≤ y ∧ y ≤ 2199
  · rw [if_pos h, decide_eq_true h]; exact easter_yes y h.1 h.2 w hl
  · rw [if_neg h, decide_eq_false h]; exact easter_no y hy.1 hy.2 (by omega) w hl
set_option maxRecDepth 100000 in
set_option maxHeartbeats 1000000 in
theorem rfirst_v (m : Int) (w : World) : Calls Tryz.prog 19 #[.int .i64 m] w fun e w' => e = .returned (.tuple #[.int .i64 (fstV m), .bool (inM m)]) ∧ w = w' := by
  by_cases h : 0 ≤ m ∧ m ≤ 2759
  · obtain ⟨h0, h1⟩ := h
    have I : Cal.Is (1970 + m / 12) (1 + m % 12) 1 := ⟨by omega, by omega, by omega, by omega, by omega, by have := Cal.dm_bd (1970 + m / 12) (1 + m % 12 - 1); omega⟩
    have E : Hid (Cal.dayT (1970 + m / 12) (1 + m % 12) 1 = fstV m ∧ true = inM m) := Lib.hid ⟨by
      unfold fstV Cal.dayT Cal.fst; rw [if_pos ⟨h0, h1⟩, show 1 + m % 12 - 1 = m % 12 by omega]; omega, (decide_eq_true (p := 0 ≤ m ∧ m ≤ 2759) ⟨h0, h1⟩).symm⟩
    have HI := Lib.hid I
    clear I
    go_enter Tryz.func19, Tryz.ntmps19
    go_wp2_with (go_at_call 34; (with_reducible refine (rday_yes _ _ _ HI.out _).mono ?_); rintro e w' ⟨rfl, rfl⟩)
    go_ret2
    exact ⟨by rw [← E.out.1, ← E.out.2]; rfl, rfl⟩
  · have E : Hid (fstV m = 0 ∧ inM m = false) := Lib.hid ⟨by unfold fstV; rw [if_neg h], decide_eq_false h⟩
    by_cases h0 : m < 0
    · clear h
      go_enter Tryz.func19, Tryz.ntmps19
      go_wp2
      go_ret2
      exact ⟨by rw [E.out.1, E.out.2]; rfl, rfl⟩
    · have h1 : 2759 < m := by omega
      clear h
      go_enter Tryz.func19, Tryz.ntmps19
      go_wp2
      go_ret2
      exact ⟨by rw [E.out.1, E.out.2]; rfl, rfl⟩
set_option maxRecDepth 100000 in
set_option maxHeartbeats 1000000 in
theorem rlen_v (m : Int) (w : World) : Calls Tryz.prog 20 #[.int .i64 m] w fun e w' => e = .returned (.int .i64 (lenV m)) ∧ w = w' := by
  by_cases h : 0 ≤ m ∧ m ≤ 2759
  · obtain ⟨h0, h1⟩ := h
    have E : Hid (Cal.dm (1970 + m / 12) (1 + m % 12 - 1) = lenV m) := Lib.hid (by
      unfold lenV Cal.len; rw [if_pos ⟨h0, h1⟩, show 1 + m % 12 - 1 = m % 12 by omega])
    go_enter Tryz.func20, Tryz.ntmps20
    go_wp2_with (go_at_call 35; (with_reducible refine (rlen_any _ _ (by omega) (by omega) (by omega) (by omega) _).mono ?_); rintro e w' ⟨rfl, rfl⟩)
    go_ret
    exact ⟨retI E.out, rfl⟩
  · have E : Hid (lenV m = 0) := Lib.hid (by unfold lenV; rw [if_neg h])
    by_cases h0 : m < 0
    · clear h
      go_enter Tryz.func20, Tryz.ntmps20
      go_wp2
      go_ret
      exact ⟨retI E.out.symm, rfl⟩
    · have h1 : 2759 < m := by omega
      clear h
      go_enter Tryz.func20, Tryz.ntmps20
      go_wp2
      go_ret
      exact ⟨retI E.out.symm, rfl⟩
set_option maxRecDepth 100000 in
set_option maxHeartbeats 1000000 in
theorem reaster0 (y : Int) (h0 : 1970 ≤ y) (h1 : y ≤ 2199) (w : World) : Calls Tryz.prog 91 #[.int .i64 y] w fun e w' => e = .returned (.int .i64 (Cal.eaT y)) ∧ w = w' := by
  obtain ⟨e1, g2, g3, g4, e5, e6, e7⟩ := Cal.easter_at y h0 h1
  have E1 : Hid (Cal.eaT y = Cal.nY y + cumP y (Cal.eF y / 31) + (Cal.eF y % 31 + 1) - 1) := Lib.hid (by rw [e1]; unfold Cal.erT cumP; omega)
  have D : Hid ((19 * (y % 19) + y / 100 - y / 100 / 4 - (y / 100 - (y / 100 + 8) / 25 + 1) / 3 + 15) % 30 = Cal.eD y) := Lib.hid rfl
  have EE : Hid ((32 + 2 * (y / 100 % 4) + 2 * (y % 100 / 4) - Cal.eD y - y % 4) % 7 = Cal.eE y) := Lib.hid (by unfold Cal.eE; rw [show y % 100 % 4 = y % 4 by omega])
  have FF : Hid (Cal.eD y + Cal.eE y - 7 * ((y % 19 + 11 * Cal.eD y + 22 * Cal.eE y) / 451) + 114 = Cal.eF y) := Lib.hid rfl
  have d0 : 0 ≤ Cal.eD y := by unfold Cal.eD; omega
  have d1 : Cal.eD y ≤ 29 := by unfold Cal.eD; omega
  have ee0 : 0 ≤ Cal.eE y := by unfold Cal.eE; omega
  have ee1 : Cal.eE y ≤ 6 := by unfold Cal.eE; omega
  have f0 : 93 ≤ Cal.eF y := by omega
  have f1 : Cal.eF y ≤ 200 := by omega
  clear e1 g2 g3 g4
  go_enter Tryz.func91, Tryz.ntmps91
  go_upto_region 2 with fail
  go_cut [6] (fun s wx => s = .int .i64 (Cal.eD y) ∧ wx = w)
  case first =>
    clear e5 e6 e7 f0 f1 ee0 ee1 d0 d1
    go_wp2_with fail
    go_meet
    exact ⟨by rw [← D.out], rfl⟩
  case rest =>
    obtain ⟨rfl, rfl⟩ := hcut
    go_upto_region 3 with fail
    go_cut [7] (fun s wx => s = .int .i64 (Cal.eE y) ∧ wx = wc)
    case first =>
      clear e5 e6 e7 f0 f1 ee0 ee1
      go_wp2_with fail
      go_meet
      exact ⟨by rw [← EE.out], rfl⟩
    case rest =>
      obtain ⟨rfl, rfl⟩ := hcut
      go_upto_region 4 with fail
      go_cut [8] (fun s wx => s = .int .i64 (Cal.eF y) ∧ wx = wc)
      case first =>
        clear e5 e6 e7 f0 f1
        go_wp2_with fail
        go_meet
        exact ⟨by rw [← FF.out], rfl⟩
      case rest =>
        obtain ⟨rfl, rfl⟩ := hcut
        go_wp2_with (go_at_call 53; (with_reducible refine (rraw _ _ _ (by omega) (by omega) (by omega) (by omega) (by omega) (by omega) _).mono ?_); rintro e w' ⟨rfl, rfl⟩)
        go_ret
        exact ⟨retI E1.out.symm, rfl⟩
/-- The result of Month. -/
def MonthR (x m : Int) : Prop := (∃ d, MD x m d) ∨ ((x < 0 ∨ 84005 < x) ∧ m = -1)
theorem MD.uniq {x m d m' d' : Int} (h : MD x m d) (h' : MD x m' d') : m' = m ∧ d' = d := by
  obtain ⟨a, b, c⟩ := h.date.uniq h'.date
  exact ⟨by omega, by omega⟩
theorem MonthR.uniq {x m m' : Int} (h : MonthR x m) (h' : MonthR x m') : m' = m := by
  rcases h with ⟨d, h⟩ | ⟨hx, rfl⟩ <;> rcases h' with ⟨d', h'⟩ | ⟨hx', rfl⟩
  · exact (h.uniq h').1
  · have := h.range; omega
  · have := h'.range; omega
  · rfl
def MonthP (x : Int) (w : World) (e : Ending) (w' : World) : Prop := ∃ m : Int, e = .returned (.int .i64 m) ∧ MonthR x m ∧ w = w'
theorem month_of {f : Nat} {x : Int} {w : World} (hn : (x < 0 ∨ 84005 < x) → Calls Tryz.prog f #[.int .i64 x] w fun e w' => e = .returned (.int .i64 (-1)) ∧ w = w')
    (hy : ∀ m d, MD x m d → Calls Tryz.prog f #[.int .i64 x] w fun e w' => e = .returned (.int .i64 m) ∧ w = w') : Calls Tryz.prog f #[.int .i64 x] w (MonthP x w) := by
  by_cases h : x < 0 ∨ 84005 < x
  · exact (hn h).mono fun e w' ⟨he, hw⟩ => ⟨-1, he, .inr ⟨h, rfl⟩, hw⟩
  · obtain ⟨m, d, hd⟩ := md_ex x (by omega) (by omega)
    exact (hy m d hd).mono fun e w' ⟨he, hw⟩ => ⟨m, he, .inl ⟨d, hd⟩, hw⟩
theorem cmonth_r (x : Int) (w : World) (hl : LgIs w) : Calls Tryz.prog 64 #[.int .i64 x] w (MonthP x w) := month_of (fun h => month_no x h w) fun m d h => month_md x m d h w hl
set_option maxRecDepth 100000 in
set_option maxHeartbeats 1000000 in
theorem rmonth_no (x : Int) (h : x < 0 ∨ 84005 < x) (w : World) : Calls Tryz.prog 32 #[.int .i64 x] w fun e w' => e = .returned (.int .i64 (-1)) ∧ w = w' := by
  go_enter Tryz.func32, Tryz.ntmps32
  go_wp2_with (go_at_call 33; (with_reducible refine (rdate_no _ h _).mono ?_); rintro e w' ⟨rfl, rfl⟩)
  go_ret
  exact ⟨rfl, rfl⟩
set_option maxRecDepth 100000 in
set_option maxHeartbeats 1000000 in
theorem rmonth_md (x m d : Int) (h : MD x m d) (w : World) : Calls Tryz.prog 32 #[.int .i64 x] w fun e w' => e = .returned (.int .i64 m) ∧ w = w' := by
  have H := Lib.hid h.date
  have m0 := h.m0
  have m1 := h.m1
  clear h
  go_enter Tryz.func32, Tryz.ntmps32
  go_wp2_with (go_at_call 33; (with_reducible refine (rdate_yes _ _ _ _ H.out _).mono ?_); rintro e w' ⟨rfl, rfl⟩)
  go_ret
  exact ⟨retI (by omega), rfl⟩
theorem rmonth_r (x : Int) (w : World) : Calls Tryz.prog 32 #[.int .i64 x] w (MonthP x w) := month_of (fun h => rmonth_no x h w) fun m d h => rmonth_md x m d h w

/-- The results of Week. -/
def WeekR (x a b : Int) (ok : Bool) : Prop := (ok = true ∧ (0 ≤ x ∧ x ≤ 84005) ∧ (Cal.nY a ≤ x - Cal.wd x + 3 ∧ x - Cal.wd x + 3 < Cal.nY (a + 1)) ∧ b = (x - Cal.wd x + 3 - Cal.nY a) / 7 + 1) ∨ (ok = false ∧ (x < 0 ∨ 84005 < x) ∧ a = 0 ∧ b = 0)
theorem WeekR.uniq {x a b a' b' : Int} {ok ok' : Bool} (h : WeekR x a b ok) (h' : WeekR x a' b' ok') : a' = a ∧ b' = b ∧ ok' = ok := by
  rcases h with ⟨rfl, hx, hy, rfl⟩ | ⟨rfl, hx, rfl, rfl⟩ <;> rcases h' with ⟨rfl, hx', hy', rfl⟩ | ⟨rfl, hx', rfl, rfl⟩
  · obtain rfl := Cal.year_uniq hy hy'
    exact ⟨rfl, rfl, rfl⟩
  · omega
  · omega
  · exact ⟨rfl, rfl, rfl⟩
def WeekP (x : Int) (w : World) (e : Ending) (w' : World) : Prop := ∃ (a b : Int) (ok : Bool), e = .returned (.tuple #[.int .i64 a, .int .i64 b, .bool ok]) ∧ WeekR x a b ok ∧ w = w'
theorem week_of {f : Nat} {x : Int} {w : World} (hn : (x < 0 ∨ 84005 < x) → Calls Tryz.prog f #[.int .i64 x] w fun e w' => e = .returned (.tuple #[.int .i64 0, .int .i64 0, .bool false]) ∧ w = w')
    (hy : ∀ y, 0 ≤ x → x ≤ 84005 → Cal.nY y ≤ x - Cal.wd x + 3 → x - Cal.wd x + 3 < Cal.nY (y + 1) → Calls Tryz.prog f #[.int .i64 x] w fun e w' => e = .returned (.tuple #[.int .i64 y, .int .i64 ((x - Cal.wd x + 3 - Cal.nY y) / 7 + 1), .bool true]) ∧ w = w') : Calls Tryz.prog f #[.int .i64 x] w (WeekP x w) := by
  by_cases h : x < 0 ∨ 84005 < x
  · exact (hn h).mono fun e w' ⟨he, hw⟩ => ⟨0, 0, false, he, .inr ⟨rfl, h, rfl, rfl⟩, hw⟩
  · have t0 : 0 ≤ x - Cal.wd x + 3 := by unfold Cal.wd; omega
    have t1 : x - Cal.wd x + 3 ≤ 84010 := by unfold Cal.wd; omega
    obtain ⟨y, a, b, c, d⟩ := Cal.year_ex 231 (x - Cal.wd x + 3) t0 (by rw [show (1970 : Int) + (231 : Nat) = 2201 from rfl, Cal.nY_2201]; omega)
    exact (hy y (by omega) (by omega) c d).mono fun e w' ⟨he, hw⟩ => ⟨y, _, true, he, .inl ⟨rfl, ⟨by omega, by omega⟩, ⟨c, d⟩, rfl⟩, hw⟩
/-- The results of AddMonths. -/
def AddR (x n v : Int) (ok : Bool) : Prop := (∃ m d, MD x m d ∧ (0 ≤ m + n ∧ m + n ≤ 2759) ∧ v = Cal.fst (m + n) + min (d + 1) (Cal.len (m + n)) - 1 ∧ ok = true) ∨ (ok = false ∧ v = 0 ∧ ((x < 0 ∨ 84005 < x) ∨ ∃ m d, MD x m d ∧ (m + n < 0 ∨ 2759 < m + n)))
theorem AddR.uniq {x n v v' : Int} {ok ok' : Bool} (h : AddR x n v ok) (h' : AddR x n v' ok') : v' = v ∧ ok' = ok := by
  rcases h with ⟨m, d, hm, hr, rfl, rfl⟩ | ⟨rfl, rfl, hr⟩ <;> rcases h' with ⟨m', d', hm', hr', rfl, rfl⟩ | ⟨rfl, rfl, hr'⟩
  · obtain ⟨rfl, rfl⟩ := hm.uniq hm'
    exact ⟨rfl, rfl⟩
  · rcases hr' with hr' | ⟨m', d', hm', hr'⟩
    · have := hm.range; omega
    · obtain ⟨rfl, rfl⟩ := hm.uniq hm'; omega
  · rcases hr with hr | ⟨m, d, hm, hr⟩
    · have := hm'.range; omega
    · obtain ⟨rfl, rfl⟩ := hm.uniq hm'; omega
  · exact ⟨rfl, rfl⟩
def AddP (x n : Int) (w : World) (e : Ending) (w' : World) : Prop := ∃ (v : Int) (ok : Bool), e = .returned (.tuple #[.int .i64 v, .bool ok]) ∧ AddR x n v ok ∧ w = w'
theorem add_of {f : Nat} {x n : Int} {w : World} (hn : (x < 0 ∨ 84005 < x) → Calls Tryz.prog f #[.int .i64 x, .int .i64 n] w fun e w' => e = .returned (.tuple #[.int .i64 0, .bool false]) ∧ w = w')
    (hf : ∀ m d, MD x m d → (m + n < 0 ∨ 2759 < m + n) → Calls Tryz.prog f #[.int .i64 x, .int .i64 n] w fun e w' => e = .returned (.tuple #[.int .i64 0, .bool false]) ∧ w = w')
    (hy : ∀ m d, MD x m d → 0 ≤ m + n → m + n ≤ 2759 → Calls Tryz.prog f #[.int .i64 x, .int .i64 n] w fun e w' => e = .returned (.tuple #[.int .i64 (Cal.fst (m + n) + min (d + 1) (Cal.len (m + n)) - 1), .bool true]) ∧ w = w') : Calls Tryz.prog f #[.int .i64 x, .int .i64 n] w (AddP x n w) := by
  by_cases h : x < 0 ∨ 84005 < x
  · exact (hn h).mono fun e w' ⟨he, hw⟩ => ⟨0, false, he, .inr ⟨rfl, rfl, .inl h⟩, hw⟩
  · obtain ⟨m, d, hd⟩ := md_ex x (by omega) (by omega)
    by_cases hr : m + n < 0 ∨ 2759 < m + n
    · exact (hf m d hd hr).mono fun e w' ⟨he, hw⟩ => ⟨0, false, he, .inr ⟨rfl, rfl, .inr ⟨m, d, hd, hr⟩⟩, hw⟩
    · exact (hy m d hd (by omega) (by omega)).mono fun e w' ⟨he, hw⟩ => ⟨_, true, he, .inl ⟨m, d, hd, ⟨by omega, by omega⟩, rfl, rfl⟩, hw⟩
end Go.Proofs.YtmgglcfndhfceaaGreatDoor
