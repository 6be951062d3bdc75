/-
  Layer 3 (calendar): the contract of the sanity check that every statement of the layer ends with: it is true. Condition: the listed variables read as the program's text lays them.
-/
import Derived.Test.YtfoocingingpcaaDoorPrCy
namespace Go.Proofs.YtfoocingingpcaaDoor
open Go Go.RowKit Go.Lib Go.Sort

theorem s_is : Cal.Is 2026 11 16 := by decide
theorem s_day : Cal.dayT 2026 11 16 = 20773 := by decide
theorem s_date1 : Cal.DateIs 20849 2027 0 30 := ⟨by decide, by decide, by decide, by decide, by decide, by decide, by decide⟩
theorem s_add : Cal.fst (12 * (2027 - 1970) + 0 + 1) + min (30 + 1) (Cal.len (12 * (2027 - 1970) + 0 + 1)) - 1 = 20877 := by decide
theorem s_date2 : Cal.DateIs 20877 2027 1 27 := ⟨by decide, by decide, by decide, by decide, by decide, by decide, by decide⟩
theorem s_date3 : Cal.DateIs 20548 2026 3 4 := ⟨by decide, by decide, by decide, by decide, by decide, by decide, by decide⟩
theorem s_ea : Cal.eaT 2026 = 20548 := by decide
theorem s_wd : Cal.wd 20773 = 0 := by decide
theorem dd2 (a b : Nat) (ha : 0 < a) (hb : b < 10) (h : a < 10) : Lib.decDigits (10 * a + b) = [UInt8.ofNat (48 + a), UInt8.ofNat (48 + b)] := by
  rw [Lib.decDigits, dif_neg (by omega), show (10 * a + b) / 10 = a by omega, show (10 * a + b) % 10 = b by omega, Lib.decDigits_one h]; rfl
theorem s_y (b : Nat) (hb : b < 10) : Lib.itoa (2020 + b : Nat) = [50, 48, 50, UInt8.ofNat (48 + b)] := by
  show Lib.decDigits (2020 + b) = _
  rw [Lib.decDigits, dif_neg (by omega), show (2020 + b) / 10 = 202 by omega, show (2020 + b) % 10 = b by omega, Lib.decDigits, dif_neg (by omega), show 202 / 10 = 10 * 2 + 0 from rfl, dd2 2 0 (by omega) (by omega) (by omega)]; rfl
theorem s_t1 : dateL 2027 (1 + 1) (27 + 1) = [50, 48, 50, 55, 45, 48, 50, 45, 50, 56] := by
  unfold dateL twoL
  rw [show (2027 : Int) = ((2020 + 7 : Nat) : Int) from rfl, s_y 7 (by omega), Lib.decDigits_one (by decide), Lib.decDigits_one (by decide), Lib.decDigits_one (by decide), Lib.decDigits_one (by decide)]; rfl
theorem s_t2 : dateL 2026 (3 + 1) (4 + 1) = [50, 48, 50, 54, 45, 48, 52, 45, 48, 53] := by
  unfold dateL twoL
  rw [show (2026 : Int) = ((2020 + 6 : Nat) : Int) from rfl, s_y 6 (by omega), Lib.decDigits_one (by decide), Lib.decDigits_one (by decide), Lib.decDigits_one (by decide), Lib.decDigits_one (by decide)]; rfl
def sH : Cal.Hol := ⟨2, 11, 4, 3, 0, false⟩
theorem s_one : Cal.oneY [sH] 2026 = [20783] := by decide
theorem s_can : canon (Cal.oneY [sH] 2026) = [20783] := by
  rw [s_one]
  exact Cal.asc_ext _ _ (canon_asc _) (by simp) fun v => mem_canon _ v
theorem s_ok : [sH].all Cal.Hol.ok = true := by decide

theorem c_day (w : World) (hl : LgIs w) : Calls Tryd.prog 22 #[.int .i64 2026, .int .i64 11, .int .i64 16] w fun e w' => e = .returned (.tuple #[.int .i64 20773, .bool true]) ∧ w = w' := by
  have h := day_yes 2026 11 16 s_is w hl; rwa [s_day] at h
theorem c_add (w : World) (hl : LgIs w) : Calls Tryd.prog 28 #[.int .i64 20849, .int .i64 1] w fun e w' => e = .returned (.tuple #[.int .i64 20877, .bool true]) ∧ w = w' := by
  have h := addM_yes 20849 1 2027 0 30 s_date1 (by decide) (by decide) w hl; rwa [s_add] at h
theorem c_week (w : World) : Calls Tryd.prog 26 #[.int .i64 20773] w fun e w' => e = .returned (.tuple #[.int .i64 2026, .int .i64 47, .bool true]) ∧ w = w' :=
  week_yes 20773 2026 (by decide) (by decide) (by decide) (by decide) w
theorem c_ea (w : World) (hl : LgIs w) : Calls Tryd.prog 38 #[.int .i64 2026] w fun e w' => e = .returned (.tuple #[.int .i64 20548, .bool true]) ∧ w = w' := by
  have h := easter_yes 2026 (by decide) (by decide) w hl; rwa [s_ea] at h
theorem c_wd (w : World) : Calls Tryd.prog 30 #[.int .i64 20773] w fun e w' => e = .returned (.int .i64 0) ∧ w = w' := by
  have h := weekdayX_yes 20773 (by decide) (by decide) w; rwa [s_wd] at h
theorem c_f1 (w : World) (hok : OKC w) : Calls Tryd.prog 43 #[.int .i64 20877] w fun e w' => e = .returned (.string ⟨#[50, 48, 50, 55, 45, 48, 50, 45, 50, 56]⟩) ∧ Below w.heap.size w w' := by
  have h := fmt_yes 20877 2027 1 27 s_date2 w hok; rwa [s_t1] at h
theorem c_f2 (w : World) (hok : OKC w) : Calls Tryd.prog 43 #[.int .i64 20548] w fun e w' => e = .returned (.string ⟨#[50, 48, 50, 54, 45, 48, 52, 45, 48, 53]⟩) ∧ Below w.heap.size w w' := by
  have h := fmt_yes 20548 2026 3 4 s_date3 w hok; rwa [s_t2] at h

set_option maxRecDepth 100000 in
set_option maxHeartbeats 4000000 in
theorem sane_any (w : World) (hok : OKC w) :
    Calls Tryd.prog 17 #[] w fun e w' => e = .returned (.bool true) ∧ Below w.heap.size w w' := by
  have hl := hok.lg
  go_enter Tryd.func17, Tryd.ntmps17
  go_wp2_with (first | (go_at_call 22; (with_reducible refine (c_day _ hl).mono ?_); rintro e w' ⟨rfl, rfl⟩) | (go_at_call 28; (with_reducible refine (c_add _ hl).mono ?_); rintro e w' ⟨rfl, rfl⟩) | (go_at_call 26; (with_reducible refine (c_week _).mono ?_); rintro e w' ⟨rfl, rfl⟩) | (go_at_call 38; (with_reducible refine (c_ea _ hl).mono ?_); rintro e w' ⟨rfl, rfl⟩))
  have hB0 : Below w.heap.size w (w.alloc (.cells #[.int .i64 2, .int .i64 11, .int .i64 4, .int .i64 3, .int .i64 0, .bool false] 25)) := Below.alloc (Below.refl _ _) (Nat.le_refl _) _
  refine (hol_ok (some ⟨w.heap.size, 0, none⟩) 1 1 [sH] (by omega) 2026 (by omega) (by omega) s_ok _ ⟨rfl, fun _ => ⟨_, rfl, by simp, fun i hi => ?_⟩⟩ (hl.below hB0)).mono ?_
  · obtain rfl : i = 0 := by simpa using hi
    refine ⟨?_, ?_, ?_, ?_, ?_, ?_⟩ <;> go_simp <;> rfl
  rintro e w1 ⟨v, rfl, hI, hw1⟩
  rw [s_can] at hI
  rcases hI with ⟨h, _⟩ | ⟨g, off, cap, rfl, _, _, _, hx⟩
  · cases h
  · have c0 : w1.cell? ⟨g, off, none⟩ = some (.int .i64 20783) := hx 0 (by simp)
    have hB1 : Below w.heap.size w w1 := hB0.trans (hw1.mono (by simp))
    have hok1 := hok.below hB1
    simp only [List.length_singleton]
    clear hx hw1 hB0
    go_wp2_with fail
    refine (c_f1 _ hok1).mono ?_
    rintro e w2 ⟨rfl, hw2⟩
    have c1 := cellB c0 hw2
    have hB2 := hB1.trans (hw2.mono hB1.size)
    have hok2 := hok.below hB2
    clear c0 hw2 hok1 hB1
    go_wp2_with fail
    refine (c_f2 _ hok2).mono ?_
    rintro e w3 ⟨rfl, hw3⟩
    have c2 := cellB c1 hw3
    have hB3 := hB2.trans (hw3.mono hB2.size)
    clear c1 hw3 hok2 hB2
    go_wp2_with (go_at_call 30; (with_reducible refine (c_wd _).mono ?_); rintro e w' ⟨rfl, rfl⟩)
    go_ret
    exact ⟨rfl, hB3⟩
end Go.Proofs.YtfoocingingpcaaDoor
