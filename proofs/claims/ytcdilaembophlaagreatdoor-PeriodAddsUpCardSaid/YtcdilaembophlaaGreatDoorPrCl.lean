/-
  Layer 3 (calendar): the contracts of days told by month and day of the month; the walks of CalendarEaster, CalendarInverse, CalendarAddMonths: the answer is true. Condition: the listed variables read as the program's text lays them.
-/
import Derived.Test.YtcdilaembophlaaGreatDoorPrCz
namespace Go.Proofs.YtcdilaembophlaaGreatDoor
open Go Go.RowKit Go.Lib Go.Sort

/-- Day 'day' is day d (from 0) of month number m. -/
structure MD (day m d : Int) : Prop where
  m0 : 0 ≤ m
  m1 : m ≤ 2759
  d0 : 0 ≤ d
  d1 : d < Cal.len m
  eq : day = Cal.fst m + d
theorem MD.date {day m d : Int} (h : MD day m d) : Cal.DateIs day (1970 + m / 12) (m % 12) d := by
  rw [h.eq]; exact Cal.date_mk m d h.m0 h.m1 h.d0 h.d1
theorem md_num (m : Int) : 12 * (1970 + m / 12 - 1970) + m % 12 = m := by omega
theorem md_ex (day : Int) (h0 : 0 ≤ day) (h1 : day ≤ 84005) : ∃ m d, MD day m d := by
  obtain ⟨y, k, d, h⟩ := Cal.date_ex day h0 h1
  have e := h.month
  have := h.y0; have := h.y1; have := h.k0; have := h.k1
  exact ⟨12 * (y - 1970) + k, d, by omega, by omega, h.d0, by rw [e.2]; exact h.d1, by omega⟩
theorem MD.range {day m d : Int} (h : MD day m d) : 0 ≤ day ∧ day ≤ 84005 := h.date.range
theorem date_md (day m d : Int) (h : MD day m d) (w : World) (hl : LgIs w) :
    Calls Tryz.prog 81 #[.int .i64 day] w fun e w' => e = .returned (.tuple #[.int .i64 (1970 + m / 12), .int .i64 (m % 12 + 1), .int .i64 (d + 1), .bool true]) ∧ w = w' := date_yes day _ _ _ h.date w hl
theorem month_md (day m d : Int) (h : MD day m d) (w : World) (hl : LgIs w) :
    Calls Tryz.prog 67 #[.int .i64 day] w fun e w' => e = .returned (.int .i64 m) ∧ w = w' := by
  have c := month_yes day _ _ _ h.date w hl
  rwa [md_num] at c
theorem day_md (day m d : Int) (h : MD day m d) (w : World) (hl : LgIs w) :
    Calls Tryz.prog 97 #[.int .i64 (1970 + m / 12), .int .i64 (m % 12 + 1), .int .i64 (d + 1)] w fun e w' => e = .returned (.tuple #[.int .i64 day, .bool true]) ∧ w = w' := by
  have c := day_yes _ _ _ h.date.is.1 w hl
  rwa [h.date.is.2] at c
theorem MD.mk0 (m d : Int) (h0 : 0 ≤ m) (h1 : m ≤ 2759) (d0 : 0 ≤ d) (d1 : d < Cal.len m) : MD (Cal.fst m + d) m d := ⟨h0, h1, d0, d1, rfl⟩

end Go.Proofs.YtcdilaembophlaaGreatDoor
