/-
  Layer 6 (timeline): contracts of At and check, of the program; of check, of the reference. Condition: the list reads as changes.
-/
import Derived.Test.YtdpgmjmmnjbbiaaPrUf
namespace Go.Proofs.Ytdpgmjmmnjbbiaa.Tl
open Go Go.RowKit Go.Lib Go.Sort Go.Shelf Go.Proofs Go.Proofs.Ytdpgmjmmnjbbiaa Go.Proofs.Ytdpgmjmmnjbbiaa.Tp
set_option linter.unusedVariables false

theorem Lst.more {w w' : World} {a : Option Addr} {n cap : Nat} {cs : List Chg} (h : Lst w a n cap cs) (hb : Below w.heap.size w w') : Lst w' a n cap cs := ⟨(h.1.below hb).mono hb.size, h.2⟩
/-- What At answers: the value, and the error. -/
def atO (cs : List Chg) (d k : Int) : Option Int := if valE cs = 0 ∧ 0 ≤ d ∧ d ≤ 84005 then valL cs k d else none
def atE (cs : List Chg) (d : Int) : Int := if valE cs ≠ 0 then valE cs else if 0 ≤ d ∧ d ≤ 84005 then 0 else 2
def AtR (cs : List Chg) (d k : Int) (w : World) (e : Ending) (w' : World) : Prop := e = .returned (.tuple #[.int .i64 ((atO cs d k).getD 0), .bool (atO cs d k).isSome, .int .i64 (atE cs d)]) ∧ Below w.heap.size w w'
def ErrR (c : Int) (w : World) (e : Ending) (w' : World) : Prop := e = .returned (.int .i64 c) ∧ Below w.heap.size w w'

set_option maxRecDepth 100000 in
set_option maxHeartbeats 2000000 in
theorem at_any (a : Option Addr) (n cap : Nat) (cs : List Chg) (d k : Int) (w : World) (h : Lst w a n cap cs) :
    Calls Try.prog 17 #[.slice a n cap, .int .i64 d, .int .i64 k] w (AtR cs d k w) := by
  have H := Lib.hid h
  have CV := Lib.hid (valid_any a n cap cs h.2.2 w h.1)
  clear h
  by_cases hv : valE cs = 0
  · have n1 := (valE_ok hv).1
    have n2 : n ≤ 1024 := by rw [← H.out.1.1]; exact n1
    by_cases hd : 0 ≤ d ∧ d ≤ 84005
    · have EO := Lib.hid (show atO cs d k = valL cs k d from if_pos ⟨hv, hd⟩)
      have EE := Lib.hid (show atE cs d = 0 by unfold atE; rw [if_neg (by simp [hv]), if_pos hd])
      rw [hv] at CV
      clear hv n1
      go_enter Try.func17, Try.ntmps17
      go_wp2_with fail
      refine CV.out.mono ?_
      rintro e w1 ⟨rfl, hw1⟩
      have H1 := Lib.hid (H.out.more hw1)
      have B1 := Lib.hid hw1
      clear hw1 H
      go_wp2_with fail
      refine (wit_yes d 0 84005 hd w1).mono ?_
      rintro e w' ⟨rfl, rfl⟩
      go_wp2_with fail
      refine (steps_any a n cap cs k (by omega) _ H1.out).mono ?_
      rintro e w2 ⟨a2, c2, rfl, r2, b2, _, _⟩
      have R2 := Lib.hid r2
      have B2 := Lib.hid (B1.out.trans (b2.mono B1.out.size))
      have n3 := stepsL_length cs k
      have CW := Lib.hid (value_any a2 (stepsL cs k).length c2 (stepsL cs k) d (by omega) (by have := H1.out.1.1; omega) (stepsL_asc cs k) w2 r2)
      rw [valF_steps] at CW
      clear r2 b2 n3
      generalize (stepsL cs k).length = m at *
      go_wp2_with fail
      refine CW.out.mono ?_
      rintro e w3 ⟨rfl, b3⟩
      have B3 := Lib.hid (B2.out.trans (b3.mono B2.out.size))
      clear b3
      go_wp2_with fail
      go_ret3
      unfold AtR
      rw [EO.out, EE.out]
      exact ⟨rfl, B3.out⟩
    · have EO := Lib.hid (show atO cs d k = none from if_neg fun h => hd h.2)
      have EE := Lib.hid (show atE cs d = 2 by unfold atE; rw [if_neg (by simp [hv]), if_neg hd])
      rw [hv] at CV
      clear hv n1
      go_enter Try.func17, Try.ntmps17
      go_wp2_with fail
      refine CV.out.mono ?_
      rintro e w1 ⟨rfl, hw1⟩
      have B1 := Lib.hid hw1
      clear hw1 H
      go_wp2_with fail
      refine (wit_no d 0 84005 hd w1).mono ?_
      rintro e w' ⟨rfl, rfl⟩
      go_wp2_with fail
      go_ret3
      unfold AtR
      rw [EO.out, EE.out]
      exact ⟨rfl, B1.out⟩
  · have EO := Lib.hid (show atO cs d k = none from if_neg fun h => hv h.1)
    have EE := Lib.hid (show atE cs d = valE cs by unfold atE; rw [if_pos hv])
    have t0 : (valE cs != 0) = true := by simpa using hv
    generalize valE cs = c at *
    clear hv
    go_enter Try.func17, Try.ntmps17
    go_wp2_with fail
    refine CV.out.mono ?_
    rintro e w1 ⟨rfl, hw1⟩
    have B1 := Lib.hid hw1
    clear hw1 H
    go_wp2_with fail
    go_ret3
    unfold AtR
    rw [EO.out, EE.out]
    exact ⟨rfl, B1.out⟩

set_option maxRecDepth 100000 in
set_option maxHeartbeats 2000000 in
theorem chk_any (a : Option Addr) (n cap : Nat) (cs : List Chg) (fr to : Int) (w : World) (h : Lst w a n cap cs) :
    Calls Try.prog 36 #[.slice a n cap, .int .i64 fr, .int .i64 to] w (ErrR (chkE cs fr to) w) := by
  have CV := Lib.hid (valid_any a n cap cs h.2.2 w h.1)
  clear h
  by_cases hv : valE cs = 0
  · rw [hv] at CV
    have E0 := Lib.hid (show chkE cs fr to = if ¬ (0 ≤ fr ∧ fr ≤ 84005 ∧ 0 ≤ to ∧ to ≤ 84005) then 2 else if to < fr then 1 else 0 from if_neg (by simp [hv]))
    clear hv
    go_enter Try.func36, Try.ntmps36
    go_wp2_with fail
    refine CV.out.mono ?_
    rintro e w1 ⟨rfl, hw1⟩
    have B1 := Lib.hid hw1
    clear hw1 CV
    by_cases h1 : 0 ≤ fr ∧ fr ≤ 84005
    · by_cases h2 : 0 ≤ to ∧ to ≤ 84005
      · have E1 := Lib.hid (E0.out.trans (if_neg (by omega)))
        by_cases h3 : to < fr
        · have EC := Lib.hid (E1.out.trans (if_pos h3))
          have t3 : decide (to < fr) = true := decide_eq_true h3
          go_wp2_with (first | (go_at_call 31; (with_reducible refine (wit_yes _ _ _ (by omega) _).mono ?_); rintro e w' ⟨rfl, rfl⟩) | (go_at_call 31; (with_reducible refine (wit_no _ _ _ (by omega) _).mono ?_); rintro e w' ⟨rfl, rfl⟩))
          go_ret
          exact ⟨retI EC.out.symm, B1.out⟩
        · have EC := Lib.hid (E1.out.trans (if_neg h3))
          have t3 : decide (to < fr) = false := decide_eq_false h3
          go_wp2_with (first | (go_at_call 31; (with_reducible refine (wit_yes _ _ _ (by omega) _).mono ?_); rintro e w' ⟨rfl, rfl⟩) | (go_at_call 31; (with_reducible refine (wit_no _ _ _ (by omega) _).mono ?_); rintro e w' ⟨rfl, rfl⟩))
          go_ret
          exact ⟨retI EC.out.symm, B1.out⟩
      · have EC := Lib.hid (E0.out.trans (if_pos (by omega)))
        go_wp2_with (first | (go_at_call 31; (with_reducible refine (wit_yes _ _ _ (by omega) _).mono ?_); rintro e w' ⟨rfl, rfl⟩) | (go_at_call 31; (with_reducible refine (wit_no _ _ _ (by omega) _).mono ?_); rintro e w' ⟨rfl, rfl⟩))
        go_ret
        exact ⟨retI EC.out.symm, B1.out⟩
    · have EC := Lib.hid (E0.out.trans (if_pos (by omega)))
      go_wp2_with (first | (go_at_call 31; (with_reducible refine (wit_yes _ _ _ (by omega) _).mono ?_); rintro e w' ⟨rfl, rfl⟩) | (go_at_call 31; (with_reducible refine (wit_no _ _ _ (by omega) _).mono ?_); rintro e w' ⟨rfl, rfl⟩))
      go_ret
      exact ⟨retI EC.out.symm, B1.out⟩
  · have EC := Lib.hid (show chkE cs fr to = valE cs from if_pos hv)
    have t0 : (valE cs != 0) = true := by simpa using hv
    generalize valE cs = c at *
    clear hv
    go_enter Try.func36, Try.ntmps36
    go_wp2_with fail
    refine CV.out.mono ?_
    rintro e w1 ⟨rfl, hw1⟩
    have B1 := Lib.hid hw1
    clear hw1
    go_wp2_with fail
    go_ret
    exact ⟨retI EC.out.symm, B1.out⟩

set_option maxRecDepth 100000 in
set_option maxHeartbeats 2000000 in
theorem rchk_any (a : Option Addr) (n cap : Nat) (cs : List Chg) (fr to : Int) (w : World) (h : Lst w a n cap cs) :
    Calls Try.prog 39 #[.slice a n cap, .int .i64 fr, .int .i64 to] w (ErrR (chkE cs fr to) w) := by
  have CV := Lib.hid (rvalid_any a n cap cs h.2.2 w h.1)
  clear h
  by_cases hv : valE cs = 0
  · rw [hv] at CV
    have E0 := Lib.hid (show chkE cs fr to = if ¬ (0 ≤ fr ∧ fr ≤ 84005 ∧ 0 ≤ to ∧ to ≤ 84005) then 2 else if to < fr then 1 else 0 from if_neg (by simp [hv]))
    clear hv
    go_enter Try.func39, Try.ntmps39
    go_wp2_with fail
    refine CV.out.mono ?_
    rintro e w1 ⟨rfl, hw1⟩
    have B1 := Lib.hid hw1
    clear hw1 CV
    by_cases h1 : 0 ≤ fr ∧ fr ≤ 84005
    · by_cases h2 : 0 ≤ to ∧ to ≤ 84005
      · have E1 := Lib.hid (E0.out.trans (if_neg (by omega)))
        by_cases h3 : to < fr
        · have EC := Lib.hid (E1.out.trans (if_pos h3))
          have t3 : decide (to < fr) = true := decide_eq_true h3
          have p1 : decide (fr < 0) = false := decide_eq_false (by omega)
          have p2 : decide (84005 < fr) = false := decide_eq_false (by omega)
          have p3 : decide (to < 0) = false := decide_eq_false (by omega)
          have p4 : decide (84005 < to) = false := decide_eq_false (by omega)
          go_wp2_with fail
          go_ret
          exact ⟨retI EC.out.symm, B1.out⟩
        · have EC := Lib.hid (E1.out.trans (if_neg h3))
          have t3 : decide (to < fr) = false := decide_eq_false h3
          have p1 : decide (fr < 0) = false := decide_eq_false (by omega)
          have p2 : decide (84005 < fr) = false := decide_eq_false (by omega)
          have p3 : decide (to < 0) = false := decide_eq_false (by omega)
          have p4 : decide (84005 < to) = false := decide_eq_false (by omega)
          go_wp2_with fail
          go_ret
          exact ⟨retI EC.out.symm, B1.out⟩
      · have EC := Lib.hid (E0.out.trans (if_pos (by omega)))
        by_cases q : to < 0
        · have p1 : decide (fr < 0) = false := decide_eq_false (by omega)
          have p2 : decide (84005 < fr) = false := decide_eq_false (by omega)
          have p3 : decide (to < 0) = true := decide_eq_true q
          go_wp2_with fail
          go_ret
          exact ⟨retI EC.out.symm, B1.out⟩
        · have p1 : decide (fr < 0) = false := decide_eq_false (by omega)
          have p2 : decide (84005 < fr) = false := decide_eq_false (by omega)
          have p3 : decide (to < 0) = false := decide_eq_false q
          have p4 : decide (84005 < to) = true := decide_eq_true (by omega)
          go_wp2_with fail
          go_ret
          exact ⟨retI EC.out.symm, B1.out⟩
    · have EC := Lib.hid (E0.out.trans (if_pos (by omega)))
      by_cases q : fr < 0
      · have p1 : decide (fr < 0) = true := decide_eq_true q
        go_wp2_with fail
        go_ret
        exact ⟨retI EC.out.symm, B1.out⟩
      · have p1 : decide (fr < 0) = false := decide_eq_false q
        have p2 : decide (84005 < fr) = true := decide_eq_true (by omega)
        go_wp2_with fail
        go_ret
        exact ⟨retI EC.out.symm, B1.out⟩
  · have EC := Lib.hid (show chkE cs fr to = valE cs from if_pos hv)
    have t0 : (valE cs != 0) = true := by simpa using hv
    generalize valE cs = c at *
    clear hv
    go_enter Try.func39, Try.ntmps39
    go_wp2_with fail
    refine CV.out.mono ?_
    rintro e w1 ⟨rfl, hw1⟩
    have B1 := Lib.hid hw1
    clear hw1
    go_wp2_with fail
    go_ret
    exact ⟨retI EC.out.symm, B1.out⟩
end Go.Proofs.Ytdpgmjmmnjbbiaa.Tl
