/-
  Layer 3 (calendar): the contract of the sanity check that every statement of the layer ends with: it is true. Condition: the listed variables read as the program's text lays them.
-/
import Derived.Test.YtcdilaembophlaaGreatDoorPrCy
namespace Go.Proofs.YtcdilaembophlaaGreatDoor
open Go Go.RowKit Go.Lib Go.Sort

theorem s_is : Cal.Is 2026 11 16 := by decide
theorem s_day : Cal.dayT 2026 11 16 = 20773 := by decide
theorem s_date1 : Cal.DateIs 20849 2027 0 30 := ⟨by decide, by decide, by decide, by decide, by decide, by decide, by decide⟩
theorem s_add : Cal.fst (12 * (2027 - 1970) + 0 + 1) + min (30 + 1) (Cal.len (12 * (2027 - 1970) + 0 + 1)) - 1 = 20877 := by decide
theorem s_date2 : Cal.DateIs 20877 2027 1 27 := ⟨by decide, by decide, by decide, by decide, by decide, by decide, by decide⟩
theorem s_date3 : Cal.DateIs 20548 2026 3 4 := ⟨by decide, by decide, by decide, by decide, by decide, by decide, by decide⟩
theorem s_ea : Cal.eaT 2026 = 20548 := by decide
theorem s_wd : Cal.wd 20773 = 0 := by decide
theorem dd2 (a b : Nat) (ha : 0 < a) (hb : b < 10) (h : a < 10) : Lib.decDigits (10 * a + b) = [UInt8.ofNat (48 + a), UInt8.ofNat (48 + b)] := by
  rw [Lib.decDigits, dif_neg (by omega), show (10 * a + b) / 10 = a by omega, show (10 * a + b) % 10 = b by omega, Lib.decDigits_one h]; rfl
theorem s_y (b : Nat) (hb : b < 10) : Lib.itoa (2020 + b : Nat) = [50, 48, 50, UInt8.ofNat (48 + b)] := by
  show Lib.decDigits (2020 + b) = _
  rw [Lib.decDigits, dif_neg (by omega), show (2020 + b) / 10 = 202 by omega, show (2020 + b) % 10 = b by omega, Lib.decDigits, dif_neg (by omega), show 202 / 10 = 10 * 2 + 0 from rfl, dd2 2 0 (by omega) (by omega) (by omega)]; rfl
theorem s_t1 : dateL 2027 (1 + 1) (27 + 1) = [50, 48, 50, 55, 45, 48, 50, 45, 50, 56] := by
  unfold dateL twoL
  rw [show (2027 : Int) = ((2020 + 7 : Nat) : Int) from rfl, s_y 7 (by omega), Lib.decDigits_one (by decide), Lib.decDigits_one (by decide), Lib.decDigits_one (by decide), Lib.decDigits_one (by decide)]; rfl
theorem s_t2 : dateL 2026 (3 + 1) (4 + 1) = [50, 48, 50, 54, 45, 48, 52, 45, 48, 53] := by
  unfold dateL twoL
  rw [show (2026 : Int) = ((2020 + 6 : Nat) : Int) from rfl, s_y 6 (by omega), Lib.decDigits_one (by decide), Lib.decDigits_one (by decide), Lib.decDigits_one (by decide), Lib.decDigits_one (by decide)]; rfl
def sH : Cal.Hol := ⟨2, 11, 4, 3, 0, false⟩
theorem s_one : Cal.oneY [sH] 2026 = [20783] := by decide
theorem s_can : canon (Cal.oneY [sH] 2026) = [20783] := by
  rw [s_one]
  exact Cal.asc_ext _ _ (canon_asc _) (by simp) fun v => mem_canon _ v
theorem s_ok : [sH].all Cal.Hol.ok = true := by decide

theorem c_day (w : World) (hl : LgIs w) : Calls Tryz.prog 97 #[.int .i64 2026, .int .i64 11, .int .i64 16] w fun e w' => e = .returned (.tuple #[.int .i64 20773, .bool true]) ∧ w = w' := by
  have h := day_yes 2026 11 16 s_is w hl; rwa [s_day] at h
theorem c_ea (w : World) (hl : LgIs w) : Calls Tryz.prog 98 #[.int .i64 2026] w fun e w' => e = .returned (.tuple #[.int .i64 20548, .bool true]) ∧ w = w' := by
  have h := easter_yes 2026 (by decide) (by decide) w hl; rwa [s_ea] at h
end Go.Proofs.YtcdilaembophlaaGreatDoor
