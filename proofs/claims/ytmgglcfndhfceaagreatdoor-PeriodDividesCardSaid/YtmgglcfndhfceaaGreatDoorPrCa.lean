/-
  Layer 3 (calendar): contracts of the leaves: within, leap, newYear, number, weekday, yearOf, Length, First, Day, Date. Conditions: the arguments fit their kinds; the table of month lengths reads as the program's text lays it.
-/
import Derived.Test.YtmgglcfndhfceaaGreatDoorRows
import Derived.Test.YtmgglcfndhfceaaGreatDoorPrCm
import Derived.Test.YtmgglcfndhfceaaGreatDoorPrLeaf
import Derived.WalkKit
import Derived.ProofKit
import Derived.Below
import Derived.Lib.Hide
import Derived.Deep.QuietTactic
import Derived.BigQuiet
import Derived.Outline
import Derived.IntWalk
import Derived.LoopTactic
import Derived.WalkSmall
namespace Go.Proofs.YtmgglcfndhfceaaGreatDoor
open Go Go.RowKit Go.Lib

theorem retI {k : IntKind} {a b : Int} (h : a = b) : Ending.returned (.int k a) = .returned (.int k b) := by rw [h]
theorem retB {a b : Bool} (h : a = b) : Ending.returned (.bool a) = .returned (.bool b) := by rw [h]

set_option maxHeartbeats 400000 in
theorem within_yes (n lo hi : Int) (h0 : lo ≤ n) (h1 : n ≤ hi) (w : World) :
    Calls Tryz.prog 67 #[.int .i64 n, .int .i64 lo, .int .i64 hi] w fun e w' => e = .returned (.bool true) ∧ w = w' := by
  go_enter Tryz.func67, Tryz.ntmps67
  go_wp2
  go_ret
  exact ⟨rfl, rfl⟩
set_option maxHeartbeats 400000 in
theorem within_no (n lo hi : Int) (h : n < lo ∨ hi < n) (w : World) :
    Calls Tryz.prog 67 #[.int .i64 n, .int .i64 lo, .int .i64 hi] w fun e w' => e = .returned (.bool false) ∧ w = w' := by
  by_cases h0 : lo ≤ n
  · have h1 : hi < n := by omega
    have hd : decide (n ≤ hi) = false := decide_eq_false (by omega)
    clear h
    go_enter Tryz.func67, Tryz.ntmps67
    go_wp2
    go_ret
    exact ⟨rfl, rfl⟩
  · have h1 : n < lo := by omega
    clear h h0
    go_enter Tryz.func67, Tryz.ntmps67
    go_wp2
    go_ret
    exact ⟨rfl, rfl⟩

set_option maxHeartbeats 400000 in
theorem leap_any (y : Int) (h0 : 0 ≤ y) (h1 : y ≤ 1000000) (w : World) :
    Calls Tryz.prog 81 #[.int .i64 y] w fun e w' => e = .returned (.bool (Cal.lpB y)) ∧ w = w' := by
  rcases ha : (y % 4 == 0) with _ | _ <;> rcases hb : (y % 100 == 0) with _ | _ <;> rcases hc : (y % 400 == 0) with _ | _
  all_goals
    have L : Hid (Cal.lpB y = _) := Lib.hid (by unfold Cal.lpB; rw [bne, ha, hb, hc])
    have hb' : (y % 100 != 0) = !(y % 100 == 0) := rfl
    rw [hb] at hb'
    simp only [Bool.not_false, Bool.not_true] at hb'
    go_enter Tryz.func81, Tryz.ntmps81
    go_wp2
    go_ret
    exact ⟨retB (by rw [L.out]; rfl), rfl⟩

set_option maxHeartbeats 400000 in
theorem newYear_any (y : Int) (h0 : 1 ≤ y) (h1 : y ≤ 1000000) (w : World) :
    Calls Tryz.prog 80 #[.int .i64 y] w fun e w' => e = .returned (.int .i64 (Cal.nY y)) ∧ w = w' := by
  go_enter Tryz.func80, Tryz.ntmps80
  go_wp2
  go_ret
  exact ⟨rfl, rfl⟩

set_option maxHeartbeats 400000 in
theorem number_any (y k : Int) (h0 : 0 ≤ y) (h1 : y ≤ 1000000) (h2 : 0 ≤ k) (h3 : k ≤ 1000000) (w : World) :
    Calls Tryz.prog 79 #[.int .i64 y, .int .i64 k] w fun e w' => e = .returned (.int .i64 (12 * (y - 1970) + k - 1)) ∧ w = w' := by
  go_enter Tryz.func79, Tryz.ntmps79
  go_wp2
  go_ret
  exact ⟨rfl, rfl⟩

set_option maxHeartbeats 400000 in
theorem weekday_any (d : Int) (h0 : -1000000 ≤ d) (h1 : d ≤ 1000000) (w : World) :
    Calls Tryz.prog 70 #[.int .i64 d] w fun e w' => e = .returned (.int .i64 (Cal.wd d)) ∧ w = w' := by
  by_cases h : 0 ≤ d + 3
  · go_enter Tryz.func70, Tryz.ntmps70
    go_wp2
    go_ret
    exact ⟨retI rfl, rfl⟩
  · have l1 := tmod_lo (d + 3) 7 (by omega)
    have l2 := tmod_hi (d + 3) 7 (by omega)
    by_cases h' : (d + 3).tmod 7 < 0
    · go_enter Tryz.func70, Tryz.ntmps70
      go_wp2
      go_ret
      exact ⟨retI (mod_neg (d + 3) 7 h' l1), rfl⟩
    · go_enter Tryz.func70, Tryz.ntmps70
      go_wp2
      go_ret
      exact ⟨retI (mod_pos (d + 3) 7 (by omega) l2), rfl⟩

set_option maxHeartbeats 400000 in
theorem yearOf_any (day y : Int) (h0 : 0 ≤ day) (h1 : day ≤ 100000) (h2 : Cal.nY y ≤ day) (h3 : day < Cal.nY (y + 1)) (w : World) :
    Calls Tryz.prog 69 #[.int .i64 day] w fun e w' => e = .returned (.int .i64 y) ∧ w = w' := by
  have g := Cal.guess day h0
  have gy : 1970 + day / 366 ≤ y := by
    have := Cal.nY_lt (a := 1970 + day / 366) (b := y + 1) (by omega)
    omega
  have yb : y ≤ 3000 := by
    have := (Cal.nY_mono 1970 y (by omega)).1
    rw [Cal.nY_1970] at this; omega
  have g0 : 0 ≤ day / 366 := by omega
  have S := Lib.hid (show ∀ c, c ≤ y → (Cal.nY (c + 1) ≤ day ↔ c < y) from fun c hc => ⟨fun h => by
    have := Cal.nY_lt (a := c + 1) (b := y + 1) (by omega); omega, fun h => by
    have := (Cal.nY_mono (c + 1) y (by omega)).1; omega⟩)
  clear h2 h3 g
  go_enter Tryz.func69, Tryz.ntmps69
  go_wp2
  go_loop [3] (fun x => ∃ c : Int, 1970 ≤ c ∧ c ≤ y ∧ x = .int .i64 c) (fun x => (y - intOf x).toNat)
  case atStart => exact ⟨_, by omega, gy, rfl⟩
  case round =>
    obtain ⟨c, hc0, hc1, rfl⟩ := hrel
    have s := S.out c hc1
    by_cases h : c < y
    · have hd : decide (Cal.nY (c + 1) ≤ day) = true := decide_eq_true (s.mpr h)
      clear s
      go_wp2_with (go_at_call 80; refine (newYear_any _ (by omega) (by omega) _).mono ?_; rintro e w' ⟨rfl, rfl⟩)
      go_round
      case rel => exact ⟨c + 1, by omega, by omega, rfl⟩
      case measure => simp [intOf]; omega
    · have hd : decide (Cal.nY (c + 1) ≤ day) = false := decide_eq_false (fun k => h (s.mp k))
      clear s
      go_wp2_with (go_at_call 80; refine (newYear_any _ (by omega) (by omega) _).mono ?_; rintro e w' ⟨rfl, rfl⟩)
      go_ret
      exact ⟨retI (by omega), rfl⟩

/-- The greatest lengths of the months. -/
def lgT (k : Int) : Int := if k = 1 then 29 else if k = 3 ∨ k = 5 ∨ k = 8 ∨ k = 10 then 30 else 31
/-- The table of month lengths reads as the program's text lays it. -/
def LgIs (w : World) : Prop := ∀ i : Nat, i < 12 → w.cell? ⟨0, i, none⟩ = some (.int .i64 (lgT i))
theorem LgIs.below {w w' : World} (h : LgIs w) (hb : Below w.heap.size w w') : LgIs w' := fun i hi =>
  (hb.cell (World.block_lt_of_cell? w _ (h i hi))).trans (h i hi)

set_option maxHeartbeats 400000 in
theorem length_no (m : Int) (h : m < 0 ∨ 2759 < m) (w : World) :
    Calls Tryz.prog 66 #[.int .i64 m] w fun e w' => e = .returned (.int .i64 0) ∧ w = w' := by
  go_enter Tryz.func66, Tryz.ntmps66
  go_wp2_with (go_at_call 67; refine (within_no _ _ _ h _).mono ?_; rintro e w' ⟨rfl, rfl⟩)
  go_ret
  exact ⟨rfl, rfl⟩
set_option maxHeartbeats 400000 in
theorem length_yes (m : Nat) (h : m ≤ 2759) (w : World) (hl : LgIs w) :
    Calls Tryz.prog 66 #[.int .i64 m] w fun e w' => e = .returned (.int .i64 (Cal.len m)) ∧ w = w' := by
  have c := hl (m % 12) (by omega)
  clear hl
  by_cases h2 : m % 12 = 1
  · have t : ((m : Int) == 12 * (1970 + (m : Int) / 12 - 1970) + 2 - 1) = true := by simp; omega
    rcases hp : Cal.lpB (1970 + (m : Int) / 12) with _ | _
    · have E := Lib.hid (show Cal.len m = 28 by unfold Cal.len Cal.dm Cal.lp; rw [hp, if_pos (by omega)]; rfl)
      go_enter Tryz.func66, Tryz.ntmps66
      go_wp2_with (first | (go_at_call 67; refine (within_yes _ _ _ (by omega) (by omega) _).mono ?_; rintro e w' ⟨rfl, rfl⟩) | (go_at_call 79; refine (number_any _ _ (by omega) (by omega) (by omega) (by omega) _).mono ?_; rintro e w' ⟨rfl, rfl⟩) | (go_at_call 81; refine (leap_any _ (by omega) (by omega) _).mono ?_; rintro e w' ⟨rfl, rfl⟩))
      go_ret
      exact ⟨retI E.out.symm, rfl⟩
    · have E := Lib.hid (show Cal.len m = 29 by unfold Cal.len Cal.dm Cal.lp; rw [hp, if_pos (by omega)]; rfl)
      have e2 : lgT (m % 12 : Nat) = 29 := by rw [h2]; rfl
      rw [e2] at c
      clear e2 h2
      go_enter Tryz.func66, Tryz.ntmps66
      go_wp2_with (first | (go_at_call 67; refine (within_yes _ _ _ (by omega) (by omega) _).mono ?_; rintro e w' ⟨rfl, rfl⟩) | (go_at_call 79; refine (number_any _ _ (by omega) (by omega) (by omega) (by omega) _).mono ?_; rintro e w' ⟨rfl, rfl⟩) | (go_at_call 81; refine (leap_any _ (by omega) (by omega) _).mono ?_; rintro e w' ⟨rfl, rfl⟩))
      go_ret
      exact ⟨retI E.out.symm, rfl⟩
  · have t : ((m : Int) == 12 * (1970 + (m : Int) / 12 - 1970) + 2 - 1) = false := by simp; omega
    have E := Lib.hid (show Cal.len m = lgT (m % 12 : Nat) by
      have e : ((m % 12 : Nat) : Int) = (m : Int) % 12 := by omega
      have h3 : ¬ ((m : Int) % 12 = 1) := by omega
      unfold Cal.len Cal.dm lgT
      rw [e]
      simp only [h3, if_false])
    go_enter Tryz.func66, Tryz.ntmps66
    go_wp2_with (first | (go_at_call 67; refine (within_yes _ _ _ (by omega) (by omega) _).mono ?_; rintro e w' ⟨rfl, rfl⟩) | (go_at_call 79; refine (number_any _ _ (by omega) (by omega) (by omega) (by omega) _).mono ?_; rintro e w' ⟨rfl, rfl⟩) | (go_at_call 81; refine (leap_any _ (by omega) (by omega) _).mono ?_; rintro e w' ⟨rfl, rfl⟩))
    go_ret
    exact ⟨retI E.out.symm, rfl⟩
end Go.Proofs.YtmgglcfndhfceaaGreatDoor
