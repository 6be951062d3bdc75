/-
  Layer 1 (ratio): contracts of fit, New and the reference's New, Valid and the reference's Valid. Conditions: the arguments fit their kinds.
-/
import Derived.Test.YtmgglcfndhfceaaGreatDoorPrLeaf
namespace Go.Proofs.YtmgglcfndhfceaaGreatDoor
open Go Go.RowKit Go.Lib

/-- What fit computes, of the reduced terms x / y. -/
def cutT (neg : Bool) (x y : Int) : Int × Int × Int := if 1000000000000 < x ∨ 1000000 < y then (0, 0, 4) else (if neg then -x else x, y, 0)
def fitT (neg : Bool) (n d : Nat) : Int × Int × Int := cutT neg (n / Nat.gcd n d : Nat) (d / Nat.gcd n d : Nat)
theorem cutT_big (neg : Bool) (x y : Int) (h : 1000000000000 < x ∨ 1000000 < y) : cutT neg x y = (0, 0, 4) := by unfold cutT; rw [if_pos h]
theorem cutT_neg (x y : Int) (h1 : x ≤ 1000000000000) (h2 : y ≤ 1000000) : cutT true x y = (-x, y, 0) := by unfold cutT; rw [if_neg (by omega)]; rfl
theorem cutT_pos (x y : Int) (h1 : x ≤ 1000000000000) (h2 : y ≤ 1000000) : cutT false x y = (x, y, 0) := by unfold cutT; rw [if_neg (by omega)]; rfl
theorem cutT_ok (neg : Bool) (x y : Int) (h1 : x ≤ 1000000000000) (h2 : y ≤ 1000000) : cutT neg x y = (if neg then -x else x, y, 0) := by unfold cutT; rw [if_neg (by omega)]
theorem quo_u64 (n g x : Nat) (hn : (n : Int) ≤ 18446744073709551615) (hx : x = n / g) : IntKind.u64.wrap ((n : Int) / (g : Int)) = (x : Int) := by
  subst hx
  have h : ((n : Int) / (g : Int)) = ((n / g : Nat) : Int) := (Int.natCast_ediv ..).symm
  have h2 : n / g ≤ n := Nat.div_le_self _ _
  generalize n / g = z at *
  rw [h]; exact IntWalk.u64_in _ (by omega)

/-- The ending of a call that returns a fraction and an error: a value in three parts. -/
def retT (t : Int × Int × Int) : Value := .tuple #[.agg #[.int .i64 t.1, .int .i64 t.2.1], .int .i64 t.2.2]
theorem retT_of {a b c : Int} {t : Int × Int × Int} (h : t = (a, b, c)) : Ending.returned (.tuple #[.agg #[.int .i64 a, .int .i64 b], .int .i64 c]) = .returned (.tuple #[.agg #[.int .i64 t.1, .int .i64 t.2.1], .int .i64 t.2.2]) := by rw [h]

set_option maxHeartbeats 1000000 in
theorem fit_any (neg : Bool) (n d : Nat) (hn : (n : Int) ≤ 18446744073709551615) (hd : (d : Int) ≤ 18446744073709551615) (hd1 : 1 ≤ d) (w : World) :
    Calls Tryz.prog 58 #[.bool neg, .int .u64 n, .int .u64 d] w fun e w' => e = .returned (.tuple #[.agg #[.int .i64 (fitT neg n d).1, .int .i64 (fitT neg n d).2.1], .int .i64 (fitT neg n d).2.2]) ∧ Below w.heap.size w w' := by
  have hg : 1 ≤ Nat.gcd n d := Nat.gcd_pos_of_pos_right _ hd1
  obtain ⟨x, hx⟩ : ∃ x, x = n / Nat.gcd n d := ⟨_, rfl⟩
  obtain ⟨y, hy⟩ : ∃ y, y = d / Nat.gcd n d := ⟨_, rfl⟩
  have ex := quo_u64 n (Nat.gcd n d) x hn hx
  have ey := quo_u64 d (Nat.gcd n d) y hd hy
  have H : Hid (fitT neg n d = cutT neg x y) := Lib.hid (by unfold fitT; rw [hx, hy])
  clear hx hy
  by_cases h1 : 1000000000000 < x
  · have h1' : decide (1000000000000 < (x : Int)) = true := by simp; omega
    go_enter Tryz.func58, Tryz.ntmps58
    go_wp2_with (go_at_call 73; refine (div_any _ _ hn hd _).mono ?_; rintro e w' ⟨rfl, rfl⟩)
    go_quiet (fail)
    go_wp2
    refine bodyPost_ret (v := .tuple #[.agg #[.int .i64 0, .int .i64 0], .int .i64 4]) (by simp [results, Tryz.results58, go_sem]) rfl ⟨retT_of (by rw [H.out, cutT_big _ _ _ (by omega)]), ?_⟩
    exact ((below_drewN ((Below.refl _ _).alloc (Nat.le_refl _) _) _).setCell (by simp) _).setCell (by simp) _
  · by_cases h2 : 1000000 < y
    · go_enter Tryz.func58, Tryz.ntmps58
      go_wp2_with (go_at_call 73; refine (div_any _ _ hn hd _).mono ?_; rintro e w' ⟨rfl, rfl⟩)
      go_quiet (fail)
      go_wp2
      refine bodyPost_ret (v := .tuple #[.agg #[.int .i64 0, .int .i64 0], .int .i64 4]) (by simp [results, Tryz.results58, go_sem]) rfl ⟨retT_of (by rw [H.out, cutT_big _ _ _ (by omega)]), ?_⟩
      exact ((below_drewN ((Below.refl _ _).alloc (Nat.le_refl _) _) _).setCell (by simp) _).setCell (by simp) _
    · cases neg
      all_goals
        go_enter Tryz.func58, Tryz.ntmps58
        go_wp2_with (go_at_call 73; refine (div_any _ _ hn hd _).mono ?_; rintro e w' ⟨rfl, rfl⟩)
        go_quiet (fail)
        go_wp2
      · refine bodyPost_ret (v := .tuple #[.agg #[.int .i64 x, .int .i64 y], .int .i64 0]) (by simp [results, Tryz.results58, go_sem]) rfl ⟨retT_of (by rw [H.out, cutT_pos _ _ (by omega) (by omega)]), ?_⟩
        repeat (first | exact Below.refl _ _ | refine below_drewN ?_ _ | refine Below.setCell ?_ (by simp) _ | refine Below.alloc ?_ (by simp) _)
      · refine bodyPost_ret (v := .tuple #[.agg #[.int .i64 (-x), .int .i64 y], .int .i64 0]) (by simp [results, Tryz.results58, go_sem]) rfl ⟨retT_of (by rw [H.out, cutT_neg _ _ (by omega) (by omega)]), ?_⟩
        repeat (first | exact Below.refl _ _ | refine below_drewN ?_ _ | refine Below.setCell ?_ (by simp) _ | refine Below.alloc ?_ (by simp) _)

/-- What New computes. -/
def newT (n d : Int) : Int × Int × Int := if d = 0 then (0, 0, 5) else fitT (decide (n < 0) != decide (d < 0)) n.natAbs d.natAbs
theorem newT_zero (n : Int) : newT n 0 = (0, 0, 5) := rfl
theorem newT_fit (n d : Int) (s t : Bool) (hd : d ≠ 0) (h1 : decide (n < 0) = s) (h2 : decide (d < 0) = t) : newT n d = fitT (s != t) n.natAbs d.natAbs := by unfold newT; rw [if_neg hd, h1, h2]
theorem bcell {W w1 : World} (hb : Below W.heap.size W w1) : (∀ b o, b < W.heap.size → w1.cell? ⟨b, o, none⟩ = W.cell? ⟨b, o, none⟩) ∧ (∀ b o, b < W.heap.size → w1.frozen? ⟨b, o, none⟩ = W.frozen? ⟨b, o, none⟩) :=
  ⟨fun b o h => hb.cell (p := ⟨b, o, none⟩) h, fun b o h => hb.frozen (p := ⟨b, o, none⟩) h⟩

set_option maxHeartbeats 1000000 in
theorem new_any (n d : Int) (hn0 : -9223372036854775808 ≤ n) (hn1 : n ≤ 9223372036854775807) (hd0 : -9223372036854775808 ≤ d) (hd1 : d ≤ 9223372036854775807) (w : World) :
    Calls Tryz.prog 42 #[.int .i64 n, .int .i64 d] w fun e w' => e = .returned (.tuple #[.agg #[.int .i64 (newT n d).1, .int .i64 (newT n d).2.1], .int .i64 (newT n d).2.2]) ∧ Below w.heap.size w w' := by
  by_cases hz : d = 0
  · subst hz
    go_enter Tryz.func42, Tryz.ntmps42
    go_wp2
    refine bodyPost_ret (v := .tuple #[.agg #[.int .i64 0, .int .i64 0], .int .i64 5]) (by simp [results, Tryz.results42, go_sem]) rfl ⟨retT_of (newT_zero n), ?_⟩
    repeat (first | exact Below.refl _ _ | refine below_drewN ?_ _ | refine Below.setCell ?_ (by simp) _ | refine Below.alloc ?_ (by simp) _)
  · have hz1 : (d == 0) = false := by simpa using hz
    rcases Decidable.em (n < 0) with hs | hs <;> rcases Decidable.em (d < 0) with ht | ht
    all_goals
      have H := Lib.hid (newT_fit n d _ _ hz (by first | exact decide_eq_true hs | exact decide_eq_false hs) (by first | exact decide_eq_true ht | exact decide_eq_false ht))
      have hq : 1 ≤ d.natAbs := by omega
      clear hz
      go_enter Tryz.func42, Tryz.ntmps42
      go_wp2_with (first | (go_at_call 59; refine (mag_any _ (by omega) (by omega) _).mono ?_; rintro e w' ⟨rfl, rfl⟩) | (go_at_call 58; refine (fit_any _ _ _ (by omega) (by omega) hq _).mono ?_; rintro e w1 ⟨rfl, hb⟩; (obtain ⟨hc, hf⟩ := bcell hb)))
      refine bodyPost_ret (v := retT (newT n d)) (by rw [H.out]; simp [results, Tryz.results42, go_sem, hc, retT]) rfl ⟨rfl, ?_⟩
      repeat (first | exact Below.refl _ _ | exact Below.trans (Below.alloc (Below.refl _ _) (Nat.le_refl _) _) (hb.mono (by simp)) | refine below_drewN ?_ _ | refine Below.setCell ?_ (by simp) _ | refine Below.alloc ?_ (by simp) _)

set_option maxHeartbeats 1000000 in
theorem rnew_any (n d : Int) (hn0 : -9223372036854775808 ≤ n) (hn1 : n ≤ 9223372036854775807) (hd0 : -9223372036854775808 ≤ d) (hd1 : d ≤ 9223372036854775807) (w : World) :
    Calls Tryz.prog 43 #[.int .i64 n, .int .i64 d] w fun e w' => e = .returned (.tuple #[.agg #[.int .i64 (newT n d).1, .int .i64 (newT n d).2.1], .int .i64 (newT n d).2.2]) ∧ Below w.heap.size w w' := by
  by_cases hz : d = 0
  · subst hz
    go_enter Tryz.func43, Tryz.ntmps43
    go_wp2
    refine bodyPost_ret (v := .tuple #[.agg #[.int .i64 0, .int .i64 0], .int .i64 5]) (by simp [results, Tryz.results43, go_sem]) rfl ⟨retT_of (newT_zero n), ?_⟩
    repeat (first | exact Below.refl _ _ | refine below_drewN ?_ _ | refine Below.setCell ?_ (by simp) _ | refine Below.alloc ?_ (by simp) _)
  · have hz1 : (d == 0) = false := by simpa using hz
    have hg : 1 ≤ Nat.gcd n.natAbs d.natAbs := Nat.gcd_pos_of_pos_right _ (by omega)
    obtain ⟨x, hx⟩ : ∃ x, x = n.natAbs / Nat.gcd n.natAbs d.natAbs := ⟨_, rfl⟩
    obtain ⟨y, hy⟩ : ∃ y, y = d.natAbs / Nat.gcd n.natAbs d.natAbs := ⟨_, rfl⟩
    have ex := quo_u64 n.natAbs (Nat.gcd n.natAbs d.natAbs) x (by omega) hx
    have ey := quo_u64 d.natAbs (Nat.gcd n.natAbs d.natAbs) y (by omega) hy
    cases hs1 : decide (n < 0) <;> cases ht1 : decide (d < 0)
    all_goals
      have hs := hs1
      have ht := ht1
      simp only [decide_eq_true_eq, decide_eq_false_iff_not, Int.not_lt] at hs ht
      have H0 := newT_fit n d _ _ hz hs1 ht1
      unfold fitT at H0
      rw [← hx, ← hy] at H0
      have H := Lib.hid H0
      clear H0 hz
      have hc : 1000000000000 < x ∨ (x ≤ 1000000000000 ∧ 1000000 < y) ∨ (x ≤ 1000000000000 ∧ y ≤ 1000000) := by omega
      rcases hc with h1 | ⟨h1, h2⟩ | ⟨h1, h2⟩
    all_goals
      clear hx hy
      go_enter Tryz.func43, Tryz.ntmps43
      go_wp2_with (first | (go_at_call 60; refine (size_any _ (by omega) (by omega) _).mono ?_; rintro e w' ⟨rfl, rfl⟩) | (go_at_call 61; refine (com_any _ _ (by omega) (by omega) _).mono ?_; rintro e w1 ⟨rfl, k, rfl⟩))
      go_quiet (fail)
      go_wp2
    all_goals
      first
      | refine bodyPost_ret (v := retT (newT n d)) (by rw [H.out, cutT_big _ _ _ (by omega)]; simp [results, Tryz.results43, go_sem, retT]) rfl ⟨rfl, ?_⟩
      | refine bodyPost_ret (v := retT (newT n d)) (by rw [H.out, cutT_ok _ _ _ (by omega) (by omega)]; simp [results, Tryz.results43, go_sem, retT]) rfl ⟨rfl, ?_⟩
      repeat (first | exact Below.refl _ _ | refine below_drewN ?_ _ | refine Below.setCell ?_ (by simp) _ | refine Below.alloc ?_ (by simp) _)
end Go.Proofs.YtmgglcfndhfceaaGreatDoor
