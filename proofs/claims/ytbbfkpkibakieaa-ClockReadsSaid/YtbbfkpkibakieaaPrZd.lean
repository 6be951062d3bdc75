/-
  Layer 4 (clock): contracts of isOffset, isInstant, near, Valid, validAt. Conditions: the arguments fit their kinds; the zone's changes lie in their cells.
-/
import Derived.Test.YtbbfkpkibakieaaPrZc
import Derived.Deep.LoopGhost
namespace Go.Proofs.Ytbbfkpkibakieaa
open Go Go.RowKit Go.Lib

set_option maxHeartbeats 400000 in
theorem off_yes (n : Int) (h0 : -840 ≤ n) (h1 : n ≤ 840) (w : World) :
    Calls Try.prog 24 #[.int .i64 n] w fun e w' => e = .returned (.bool true) ∧ w = w' := by
  go_enter Try.func24, Try.ntmps24
  go_wp2
  go_ret
  exact ⟨rfl, rfl⟩
set_option maxHeartbeats 400000 in
theorem off_no (n : Int) (h : n < -840 ∨ 840 < n) (w : World) :
    Calls Try.prog 24 #[.int .i64 n] w fun e w' => e = .returned (.bool false) ∧ w = w' := by
  rcases h with h | h
  · go_enter Try.func24, Try.ntmps24
    go_wp2
    go_ret
    exact ⟨rfl, rfl⟩
  · have h' : -840 ≤ n := by omega
    have hf : decide (n ≤ 840) = false := by simp; omega
    go_enter Try.func24, Try.ntmps24
    go_wp2
    go_ret
    exact ⟨rfl, rfl⟩
set_option maxHeartbeats 400000 in
theorem ins_yes (n : Int) (h0 : 0 ≤ n) (h1 : n ≤ 120968639) (w : World) :
    Calls Try.prog 25 #[.int .i64 n] w fun e w' => e = .returned (.bool true) ∧ w = w' := by
  go_enter Try.func25, Try.ntmps25
  go_wp2
  go_ret
  exact ⟨rfl, rfl⟩
set_option maxHeartbeats 400000 in
theorem ins_no (n : Int) (h : n < 0 ∨ 120968639 < n) (w : World) :
    Calls Try.prog 25 #[.int .i64 n] w fun e w' => e = .returned (.bool false) ∧ w = w' := by
  rcases h with h | h
  · go_enter Try.func25, Try.ntmps25
    go_wp2
    go_ret
    exact ⟨rfl, rfl⟩
  · have h' : 0 ≤ n := by omega
    have hf : decide (n ≤ 120968639) = false := by simp; omega
    go_enter Try.func25, Try.ntmps25
    go_wp2
    go_ret
    exact ⟨rfl, rfl⟩

/-- What near computes. -/
def nearT (n : Int) : Int := if n < -841 then -841 else if 120969480 < n then 120969480 else n
theorem nearT_bd (n : Int) : -841 ≤ nearT n ∧ nearT n ≤ 120969480 := by unfold nearT; split <;> (try split) <;> omega
theorem retI {k : IntKind} {a b : Int} (h : a = b) : Ending.returned (.int k a) = .returned (.int k b) := by rw [h]
set_option maxHeartbeats 400000 in
theorem near_any (n : Int) (w : World) :
    Calls Try.prog 34 #[.int .i64 n] w fun e w' => e = .returned (.int .i64 (nearT n)) ∧ w = w' := by
  by_cases h0 : n < -841
  · have H := Lib.hid (show nearT n = -841 by unfold nearT; rw [if_pos h0])
    go_enter Try.func34, Try.ntmps34
    go_wp2
    go_ret
    exact ⟨retI (by rw [H.out]), rfl⟩
  · by_cases h1 : 120969480 < n
    · have H := Lib.hid (show nearT n = 120969480 by unfold nearT; rw [if_neg h0, if_pos h1])
      go_enter Try.func34, Try.ntmps34
      go_wp2
      go_ret
      exact ⟨retI (by rw [H.out]), rfl⟩
    · have H := Lib.hid (show nearT n = n by unfold nearT; rw [if_neg h0, if_neg h1])
      go_enter Try.func34, Try.ntmps34
      go_wp2
      go_ret
      exact ⟨retI (by rw [H.out]), rfl⟩

/-- The first error of the changes behind the instant b. -/
def vL : Int → List (Int × Int) → Int
  | _, [] => 0
  | b, c :: r => if c.1 < 0 ∨ 120968639 < c.1 ∨ c.2 < -840 ∨ 840 < c.2 then 2 else if c.1 ≤ b then 1 else vL c.1 r
/-- The first error of a zone. -/
def vE (off : Int) (cs : List (Int × Int)) : Int := if 64 < cs.length then 3 else if off < -840 ∨ 840 < off then 2 else vL (-1) cs

set_option maxRecDepth 100000 in
set_option maxHeartbeats 1000000 in
theorem valid_many (off : Int) (a : Option Addr) (n cap : Nat) (hn : 64 < n) (hn' : n ≤ 9223372036854775807) (w : World) :
    Calls Try.prog 10 #[.agg #[.int .i64 off, .slice a n cap]] w fun e w' => e = .returned (.int .i64 3) ∧ Below w.heap.size w w' := by
  go_enter Try.func10, Try.ntmps10
  go_wp2
  go_ret
  exact ⟨rfl, (Below.refl _ _).alloc (Nat.le_refl _) _⟩
set_option maxRecDepth 100000 in
set_option maxHeartbeats 1000000 in
theorem valid_off (off : Int) (a : Option Addr) (n cap : Nat) (hn : n ≤ 64) (ho : off < -840 ∨ 840 < off) (w : World) :
    Calls Try.prog 10 #[.agg #[.int .i64 off, .slice a n cap]] w fun e w' => e = .returned (.int .i64 2) ∧ Below w.heap.size w w' := by
  go_enter Try.func10, Try.ntmps10
  go_wp2_with (go_at_call 24; (with_reducible refine (off_no _ ho _).mono ?_); rintro e w' ⟨rfl, rfl⟩)
  go_ret
  exact ⟨rfl, (Below.refl _ _).alloc (Nat.le_refl _) _⟩
set_option maxRecDepth 100000 in
set_option maxHeartbeats 2000000 in
theorem valid_in (off : Int) (a : Option Addr) (n cap : Nat) (cs : List (Int × Int)) (hn : n ≤ 64) (o0 : -840 ≤ off) (o1 : off ≤ 840) (w : World) (hr : ChRow w w.heap.size a n cs) :
    Calls Try.prog 10 #[.agg #[.int .i64 off, .slice a n cap]] w fun e w' => e = .returned (.int .i64 (vL (-1) cs)) ∧ Below w.heap.size w w' := by
  go_enter Try.func10, Try.ntmps10
  go_wp2_with (go_at_call 24; (with_reducible refine (off_yes _ o0 o1 _).mono ?_); rintro e w' ⟨rfl, rfl⟩)
  go_loopw [3, 17] (fun b x wr => ∃ (k : Nat) (z : Int), k ≤ n ∧ x = .int .i64 k ∧ b = .int .i64 z ∧ Hid (vL (-1) cs = vL z (cs.drop k)) ∧ Below w.heap.size w wr) (fun _ x _ => n - (intOf x).toNat)
  case atStart => exact ⟨0, -1, by omega, rfl, rfl, Lib.hid rfl, (Below.refl _ _).alloc (Nat.le_refl _) _⟩
  case round =>
    obtain ⟨k, z, hk, rfl, rfl, HA, hB⟩ := hrel
    by_cases hlt : k < n
    · obtain ⟨hlen, hcs⟩ := hr.below hB
      obtain ⟨x, rfl, hx, hc⟩ := hcs (by omega)
      have hk' : k < cs.length := by omega
      obtain ⟨c0, c1⟩ := hc k hk'
      have S := Lib.hid (List.drop_eq_getElem_cons hk')
      generalize cs[k] = c at *
      clear hc hcs
      have hB1 : Below w.heap.size w (wr.alloc (.cells #[.int .i64 c.1, .int .i64 c.2] 27)) := hB.alloc hB.size _
      by_cases hA : c.1 < 0 ∨ 120968639 < c.1
      · go_wp2_with (go_at_call 25; (with_reducible refine (ins_no _ hA _).mono ?_); rintro e w' ⟨rfl, rfl⟩)
        go_ret
        refine ⟨retI ?_, hB1⟩
        rw [HA.out, S.out]; unfold vL; rw [if_pos (by omega)]
      · have a0 : 0 ≤ c.1 := by omega
        have a1 : c.1 ≤ 120968639 := by omega
        by_cases hO : c.2 < -840 ∨ 840 < c.2
        · go_wp2_with (first | (go_at_call 25; (with_reducible refine (ins_yes _ a0 a1 _).mono ?_); rintro e w' ⟨rfl, rfl⟩) | (go_at_call 24; (with_reducible refine (off_no _ hO _).mono ?_); rintro e w' ⟨rfl, rfl⟩))
          go_ret
          refine ⟨retI ?_, hB1⟩
          rw [HA.out, S.out]; unfold vL; rw [if_pos (by omega)]
        · have p0 : -840 ≤ c.2 := by omega
          have p1 : c.2 ≤ 840 := by omega
          by_cases hz : c.1 ≤ z
          · go_wp2_with (first | (go_at_call 25; (with_reducible refine (ins_yes _ a0 a1 _).mono ?_); rintro e w' ⟨rfl, rfl⟩) | (go_at_call 24; (with_reducible refine (off_yes _ p0 p1 _).mono ?_); rintro e w' ⟨rfl, rfl⟩))
            go_ret
            refine ⟨retI ?_, hB1⟩
            rw [HA.out, S.out]; unfold vL; rw [if_neg (by omega), if_pos hz]
          · go_wp2_with (first | (go_at_call 25; (with_reducible refine (ins_yes _ a0 a1 _).mono ?_); rintro e w' ⟨rfl, rfl⟩) | (go_at_call 24; (with_reducible refine (off_yes _ p0 p1 _).mono ?_); rintro e w' ⟨rfl, rfl⟩))
            go_roundw
            case rel => exact ⟨k + 1, c.1, by omega, by go_num, rfl, Lib.hid (by rw [HA.out, S.out]; conv => lhs; unfold vL; rw [if_neg (by omega), if_neg (by omega)]), hB1⟩
            case measure => simp [intOf]; omega
    · go_wp2
      go_ret
      refine ⟨retI ?_, hB⟩
      rw [HA.out, List.drop_eq_nil_of_le (by have := hr.1; omega)]; rfl

theorem valid_any (off : Int) (a : Option Addr) (n cap : Nat) (cs : List (Int × Int)) (hn : n ≤ 9223372036854775807) (w : World) (hr : ChRow w w.heap.size a n cs) :
    Calls Try.prog 10 #[.agg #[.int .i64 off, .slice a n cap]] w fun e w' => e = .returned (.int .i64 (vE off cs)) ∧ Below w.heap.size w w' := by
  have hl := hr.1
  unfold vE
  by_cases h : 64 < n
  · rw [if_pos (by omega)]; exact valid_many off a n cap h hn w
  · rw [if_neg (by omega)]
    by_cases ho : off < -840 ∨ 840 < off
    · rw [if_pos ho]; exact valid_off off a n cap (by omega) ho w
    · rw [if_neg ho]; exact valid_in off a n cap cs (by omega) (by omega) (by omega) w hr

/-- The first error of a zone and an instant. -/
def vAE (off : Int) (cs : List (Int × Int)) (t : Int) : Int := if vE off cs = 0 then (if t < 0 ∨ 120968639 < t then 2 else 0) else vE off cs
set_option maxRecDepth 100000 in
set_option maxHeartbeats 1000000 in
theorem validAt_any (off : Int) (a : Option Addr) (n cap : Nat) (cs : List (Int × Int)) (t : Int) (hn : n ≤ 9223372036854775807) (w : World) (hr : ChRow w w.heap.size a n cs) :
    Calls Try.prog 37 #[.agg #[.int .i64 off, .slice a n cap], .int .i64 t] w fun e w' => e = .returned (.int .i64 (vAE off cs t)) ∧ Below w.heap.size w w' := by
  have V := Lib.hid (valid_any off a n cap cs hn)
  have hE : vAE off cs t = if vE off cs = 0 then (if t < 0 ∨ 120968639 < t then 2 else 0) else vE off cs := rfl
  have HE := Lib.hid hE
  clear hE
  generalize vE off cs = v at *
  by_cases hv : v = 0
  · subst hv
    by_cases ht : t < 0 ∨ 120968639 < t
    · go_enter Try.func37, Try.ntmps37
      go_wp2_with fail
      refine (V.out _ ((hr.below ((Below.refl _ _).alloc (Nat.le_refl _) _)).mono (by simp))).mono ?_
      rintro e w1 ⟨rfl, hw1⟩
      go_wp2_with (go_at_call 25; (with_reducible refine (ins_no _ ht _).mono ?_); rintro e w' ⟨rfl, rfl⟩)
      go_ret
      exact ⟨retI (by rw [HE.out, if_pos trivial, if_pos ht]), ((Below.refl _ _).alloc (Nat.le_refl _) _).trans (hw1.mono (by simp))⟩
    · go_enter Try.func37, Try.ntmps37
      go_wp2_with fail
      refine (V.out _ ((hr.below ((Below.refl _ _).alloc (Nat.le_refl _) _)).mono (by simp))).mono ?_
      rintro e w1 ⟨rfl, hw1⟩
      go_wp2_with (go_at_call 25; (with_reducible refine (ins_yes _ (by omega) (by omega) _).mono ?_); rintro e w' ⟨rfl, rfl⟩)
      go_ret
      exact ⟨retI (by rw [HE.out, if_pos trivial, if_neg ht]), ((Below.refl _ _).alloc (Nat.le_refl _) _).trans (hw1.mono (by simp))⟩
  · have hb : (v == 0) = false := by simp [hv]
    go_enter Try.func37, Try.ntmps37
    go_wp2_with fail
    refine (V.out _ ((hr.below ((Below.refl _ _).alloc (Nat.le_refl _) _)).mono (by simp))).mono ?_
    rintro e w1 ⟨rfl, hw1⟩
    go_wp2
    go_ret
    exact ⟨retI (by rw [HE.out, if_neg hv]), ((Below.refl _ _).alloc (Nat.le_refl _) _).trans (hw1.mono (by simp))⟩
end Go.Proofs.Ytbbfkpkibakieaa
