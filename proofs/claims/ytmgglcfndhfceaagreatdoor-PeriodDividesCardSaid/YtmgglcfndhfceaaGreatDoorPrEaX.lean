/-
  Allocate and the reference's Allocate where they refuse: too many weights, a number out of its limits, no weight at all. Conditions: the weights lie in memory.
-/
import Derived.Test.YtmgglcfndhfceaaGreatDoorPrRaX
namespace Go.Proofs.YtmgglcfndhfceaaGreatDoor
open Go Go.RowKit Go.Lib Go.Sort Go.Shelf Go.Proofs Go.Proofs.YtmgglcfndhfceaaGreatDoor.Mg
set_option linter.unusedVariables false

/-- Refused with this number. -/
def RefR (c : Int) (w : World) (e : Ending) (w' : World) : Prop := e = .returned (.tuple #[.slice none 0 0, .int .i64 c]) ∧ w = w'

set_option maxHeartbeats 2000000 in
theorem al_limit (T : Int) (a : Option Addr) (n cap : Nat) (hn : 1024 < n) (hn1 : n ≤ 9223372036854775807) (w : World) : Calls Tryz.prog 44 #[.int .i64 T, .slice a n cap] w (RefR 3 w) := by
  have h1 : decide (1024 < (n : Int)) = true := decide_eq_true (by omega)
  go_enter Tryz.func44, Tryz.ntmps44
  go_wp2_with fail
  go_ret2
  exact ⟨rfl, rfl⟩
set_option maxHeartbeats 2000000 in
theorem ra_limit (T : Int) (a : Option Addr) (n cap : Nat) (hn : 1024 < n) (hn1 : n ≤ 9223372036854775807) (w : World) : Calls Tryz.prog 45 #[.int .i64 T, .slice a n cap] w (RefR 3 w) := by
  have h1 : decide (1024 < (n : Int)) = true := decide_eq_true (by omega)
  go_enter Tryz.func45, Tryz.ntmps45
  go_wp2_with fail
  go_ret2
  exact ⟨rfl, rfl⟩
set_option maxHeartbeats 2000000 in
theorem al_range (T : Int) (a : Option Addr) (n cap : Nat) (hn : n ≤ 1024) (hT : T < -1000000000 ∨ 1000000000 < T) (w : World) : Calls Tryz.prog 44 #[.int .i64 T, .slice a n cap] w (RefR 2 w) := by
  have h1 : decide (1024 < (n : Int)) = false := decide_eq_false (by omega)
  have e1 : witB T (-1000000000) 1000000000 = false := wit_no (by omega)
  go_enter Tryz.func44, Tryz.ntmps44
  go_wp2_with (go_at_call 62; refine (wit_any _ _ _ _).mono ?_; rintro e w' ⟨rfl, rfl⟩)
  go_ret2
  exact ⟨rfl, rfl⟩
set_option maxHeartbeats 2000000 in
theorem ra_range (T : Int) (a : Option Addr) (n cap : Nat) (hn : n ≤ 1024) (hT : T < -1000000000 ∨ 1000000000 < T) (w : World) : Calls Tryz.prog 45 #[.int .i64 T, .slice a n cap] w (RefR 2 w) := by
  have h1 : decide (1024 < (n : Int)) = false := decide_eq_false (by omega)
  rcases hT with hT | hT
  · have t1 : decide (T < -1000000000) = true := decide_eq_true hT
    go_enter Tryz.func45, Tryz.ntmps45
    go_wp2_with fail
    go_ret2
    exact ⟨rfl, rfl⟩
  · have t1 : decide (T < -1000000000) = false := decide_eq_false (by omega)
    have t2 : decide (1000000000 < T) = true := decide_eq_true hT
    go_enter Tryz.func45, Tryz.ntmps45
    go_wp2_with fail
    go_ret2
    exact ⟨rfl, rfl⟩
set_option maxHeartbeats 2000000 in
theorem ra_nil (T : Int) (a : Option Addr) (cap : Nat) (h0 : -1000000000 ≤ T) (h1 : T ≤ 1000000000) (w : World) : Calls Tryz.prog 45 #[.int .i64 T, .slice a 0 cap] w (RefR 5 w) := by
  have t1 : decide (T < -1000000000) = false := decide_eq_false (by omega)
  have t2 : decide (1000000000 < T) = false := decide_eq_false (by omega)
  go_enter Tryz.func45, Tryz.ntmps45
  go_wp2_with fail
  refine wp_loop_rounds 1 ?_
  rw [rounds_succ]
  go_wp2_with fail
  go_ret2
  exact ⟨rfl, rfl⟩

set_option maxRecDepth 100000 in
set_option maxHeartbeats 4000000 in
theorem al_weight (n b : Nat) (T : Int) (x : Addr) (cap : Nat) (g : Nat → Int) (hn : n ≤ 1024) (h0 : -1000000000 ≤ T) (h1 : T ≤ 1000000000) (hb : b < n) (g0 : ∀ k, k < b → 0 ≤ g k) (g1 : ∀ k, k < b → g k ≤ 1000000000) (hg : g b < 0 ∨ 1000000000 < g b) (w : World) (hrow : WRow w x n g) : Calls Tryz.prog 44 #[.int .i64 T, .slice (some x) n cap] w (RefR 2 w) := by
  have e1 := wit_yes h0 h1
  have HR := Lib.hid hrow
  have H0 := Lib.hid g0
  have H1 := Lib.hid g1
  have hn2 : decide (1024 < (n : Int)) = false := decide_eq_false (by omega)
  have t1 : decide (T < -1000000000) = false := decide_eq_false (by omega)
  have t2 : decide (1000000000 < T) = false := decide_eq_false (by omega)
  clear hrow g0 g1
  go_enter Tryz.func44, Tryz.ntmps44
  go_wp2_with (go_at_call 62; refine (wit_any _ _ _ _).mono ?_; rintro e w' ⟨rfl, rfl⟩)
  go_loop [6, 19] (fun sv i => ∃ k : Nat, k ≤ b ∧ i = .int .i64 k ∧ sv = .int .i64 (sumTo g k)) (fun _ i => b - (RowKit.intOf i).toNat)
  case atStart => exact ⟨0, by omega, rfl, rfl⟩
  case round =>
    obtain ⟨k, hk, rfl, rfl⟩ := hrel
    have c1 := HR.out k (by omega)
    have c0 : (k : Int) < (n : Int) := by omega
    have c5 := sumTo_nonneg (g := g) (n := k) fun i hi => H0.out i (by omega)
    have c6 := sumTo_bd (g := g) (n := k) (M := 1000000000) fun i hi => H1.out i (by omega)
    by_cases hlt : k < b
    · have c2 := H0.out k hlt
      have c3 := H1.out k hlt
      have c4 := wit_yes c2 c3
      have HQ := Lib.hid (show sumTo g (k + 1) = sumTo g k + g k from rfl)
      go_wp2_with (go_at_call 62; refine (wit_any _ _ _ _).mono ?_; rintro e w' ⟨rfl, rfl⟩)
      go_round
      case rel => exact ⟨k + 1, hlt, by go_num, by rw [HQ.out]⟩
      case measure => (first | omega | (simp [RowKit.intOf]; omega))
    · obtain rfl : k = b := by omega
      have c4 : witB (g k) 0 1000000000 = false := wit_no (by omega)
      go_wp2_with (go_at_call 62; refine (wit_any _ _ _ _).mono ?_; rintro e w' ⟨rfl, rfl⟩)
      go_ret2
      exact ⟨rfl, rfl⟩

set_option maxRecDepth 100000 in
set_option maxHeartbeats 4000000 in
theorem ra_weight (n b : Nat) (T : Int) (x : Addr) (cap : Nat) (g : Nat → Int) (hn : n ≤ 1024) (h0 : -1000000000 ≤ T) (h1 : T ≤ 1000000000) (hb : b < n) (g0 : ∀ k, k < b → 0 ≤ g k) (g1 : ∀ k, k < b → g k ≤ 1000000000) (hg : g b < 0 ∨ 1000000000 < g b) (w : World) (hrow : WRow w x n g) : Calls Tryz.prog 45 #[.int .i64 T, .slice (some x) n cap] w (RefR 2 w) := by
  have e1 := wit_yes h0 h1
  have HR := Lib.hid hrow
  have H0 := Lib.hid g0
  have H1 := Lib.hid g1
  have hn2 : decide (1024 < (n : Int)) = false := decide_eq_false (by omega)
  have t1 : decide (T < -1000000000) = false := decide_eq_false (by omega)
  have t2 : decide (1000000000 < T) = false := decide_eq_false (by omega)
  clear hrow g0 g1
  clear e1
  go_enter Tryz.func45, Tryz.ntmps45
  go_wp2_with fail
  go_loop [6, 7] (fun sv i => ∃ k : Nat, k ≤ b ∧ i = .int .i64 k ∧ sv = .int .i64 (sumTo g k)) (fun _ i => b - (RowKit.intOf i).toNat)
  case atStart => exact ⟨0, by omega, rfl, rfl⟩
  case round =>
    obtain ⟨k, hk, rfl, rfl⟩ := hrel
    have c1 := HR.out k (by omega)
    have c0 : (k : Int) < (n : Int) := by omega
    have c5 := sumTo_nonneg (g := g) (n := k) fun i hi => H0.out i (by omega)
    have c6 := sumTo_bd (g := g) (n := k) (M := 1000000000) fun i hi => H1.out i (by omega)
    by_cases hlt : k < b
    · have c2 := H0.out k hlt
      have c3 := H1.out k hlt
      have d2 : decide (g k < 0) = false := decide_eq_false (by omega)
      have d3 : decide (1000000000 < g k) = false := decide_eq_false (by omega)
      have HQ := Lib.hid (show sumTo g (k + 1) = sumTo g k + g k from rfl)
      go_wp2_with fail
      go_round
      case rel => exact ⟨k + 1, hlt, by go_num, by rw [HQ.out]⟩
      case measure => (first | omega | (simp [RowKit.intOf]; omega))
    · obtain rfl : k = b := by omega
      rcases hg with hg | hg
      · have d2 : decide (g k < 0) = true := decide_eq_true hg
        go_wp2_with fail
        go_ret2
        exact ⟨rfl, rfl⟩
      · have d2 : decide (g k < 0) = false := decide_eq_false (by omega)
        have d3 : decide (1000000000 < g k) = true := decide_eq_true hg
        go_wp2_with fail
        go_ret2
        exact ⟨rfl, rfl⟩

set_option maxRecDepth 100000 in
set_option maxHeartbeats 4000000 in
theorem ra_zero (n : Nat) (T : Int) (x : Addr) (cap : Nat) (g : Nat → Int) (hn : n ≤ 1024) (h0 : -1000000000 ≤ T) (h1 : T ≤ 1000000000) (g0 : ∀ k, k < n → 0 ≤ g k) (g1 : ∀ k, k < n → g k ≤ 1000000000) (hS : sumTo g n = 0) (w : World) (hrow : WRow w x n g) :
    Calls Tryz.prog 45 #[.int .i64 T, .slice (some x) n cap] w (RefR 5 w) := by
  have e1 := wit_yes h0 h1
  have HR := Lib.hid hrow
  have H0 := Lib.hid g0
  have H1 := Lib.hid g1
  have hn2 : decide (1024 < (n : Int)) = false := decide_eq_false (by omega)
  have t1 : decide (T < -1000000000) = false := decide_eq_false (by omega)
  have t2 : decide (1000000000 < T) = false := decide_eq_false (by omega)
  clear hrow g0 g1
  clear e1
  have HS := Lib.hid hS
  clear hS
  go_enter Tryz.func45, Tryz.ntmps45
  go_wp2_with fail
  go_loop [6, 7] (fun sv i => ∃ k : Nat, k ≤ n ∧ i = .int .i64 k ∧ sv = .int .i64 (sumTo g k)) (fun _ i => n - (RowKit.intOf i).toNat)
  case atStart => exact ⟨0, by omega, rfl, rfl⟩
  case round =>
    obtain ⟨k, hk, rfl, rfl⟩ := hrel
    have c5 := sumTo_nonneg (g := g) (n := k) fun i hi => H0.out i (by omega)
    have c6 := sumTo_bd (g := g) (n := k) (M := 1000000000) fun i hi => H1.out i (by omega)
    by_cases hlt : k < n
    · have c1 := HR.out k hlt
      have c2 := H0.out k hlt
      have c3 := H1.out k hlt
      have d2 : decide (g k < 0) = false := decide_eq_false (by omega)
      have d3 : decide (1000000000 < g k) = false := decide_eq_false (by omega)
      have HQ := Lib.hid (show sumTo g (k + 1) = sumTo g k + g k from rfl)
      go_wp2_with fail
      go_round
      case rel => exact ⟨k + 1, hlt, by go_num, by rw [HQ.out]⟩
      case measure => (first | omega | (simp [RowKit.intOf]; omega))
    · obtain rfl : k = n := by omega
      have hss := HS.out
      go_wp2_with fail
      go_ret2
      exact ⟨rfl, rfl⟩

/-- The first weight that is out of its limits, if one is. -/
theorem first_bad (g : Nat → Int) : ∀ n : Nat, (∀ k, k < n → 0 ≤ g k ∧ g k ≤ 1000000000) ∨ ∃ b, b < n ∧ (∀ k, k < b → 0 ≤ g k ∧ g k ≤ 1000000000) ∧ (g b < 0 ∨ 1000000000 < g b)
  | 0 => .inl (fun k hk => by omega)
  | n + 1 => by
    rcases first_bad g n with h | ⟨b, h1, h2, h3⟩
    · by_cases hg : 0 ≤ g n ∧ g n ≤ 1000000000
      · exact .inl (fun k hk => by
          by_cases e : k = n
          · rw [e]; exact hg
          · exact h k (by omega))
      · exact .inr ⟨n, by omega, h, by omega⟩
    · exact .inr ⟨b, by omega, h2, h3⟩
end Go.Proofs.YtmgglcfndhfceaaGreatDoor
