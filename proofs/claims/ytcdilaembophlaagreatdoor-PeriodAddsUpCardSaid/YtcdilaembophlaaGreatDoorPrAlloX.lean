/-
  Layer 2 (rounding): contracts of Allocate at up to 1024 weights within their limits. Conditions: the weights lie in memory and are within their limits; the total is within its limits.
-/
import Derived.Test.YtcdilaembophlaaGreatDoorPrDivX
namespace Go.Proofs.YtcdilaembophlaaGreatDoor
open Go Go.RowKit Go.Lib Go.Sort Go.Shelf Go.Proofs
set_option linter.unusedVariables false

theorem ret_pair {v : Value} {a b : Int} (h : a = b) : Ending.returned (.tuple #[v, .int .i64 a]) = .returned (.tuple #[v, .int .i64 b]) := by rw [h]

set_option maxHeartbeats 2000000 in
/-- No weight at all. -/
theorem alloc_nil (T : Int) (a : Option Addr) (cap : Nat) (h0 : -1000000000 ≤ T) (h1 : T ≤ 1000000000) (w : World) :
    Calls Tryz.prog 39 #[.int .i64 T, .slice a 0 cap] w fun e w' => e = .returned (.tuple #[.slice none 0 0, .int .i64 5]) ∧ w = w' := by
  have e1 := wit_yes h0 h1
  go_enter Tryz.func39, Tryz.ntmps39
  go_wp2_with (go_at_call 58; refine (wit_any _ _ _ _).mono ?_; rintro e w' ⟨rfl, rfl⟩)
  refine wp_loop_rounds 1 ?_
  rw [rounds_succ]
  go_wp2
  go_ret2
  exact ⟨rfl, rfl⟩

/-- What Allocate gives. -/
def alloF (T s : Int) (g : Nat → Int) (n : Nat) [Inhabited (Fin n)] (i : Nat) : Int :=
  if T < 0 then -(partF (-T) s g n (missK (-T) s g n) i) else partF T s g n (missK T s g n) i

set_option maxRecDepth 100000 in
set_option maxHeartbeats 4000000 in
theorem alloc_zero (n : Nat) (T : Int) (x : Addr) (cap : Nat) (g : Nat → Int) (hn : n ≤ 1024) (h0 : -1000000000 ≤ T) (h1 : T ≤ 1000000000) (g0 : ∀ k, k < n → 0 ≤ g k) (g1 : ∀ k, k < n → g k ≤ 1000000000) (hS : sumTo g n = 0) (w : World) (hrow : WRow w x n g) :
    Calls Tryz.prog 39 #[.int .i64 T, .slice (some x) n cap] w fun e w' => e = .returned (.tuple #[.slice none 0 0, .int .i64 5]) ∧ w = w' := by
  have e1 := wit_yes h0 h1
  have HR := Lib.hid hrow
  have H0 := Lib.hid g0
  have H1 := Lib.hid g1
  have HS := Lib.hid hS
  have hn2 : decide (1024 < (n : Int)) = false := decide_eq_false (by omega)
  clear hrow g0 g1 hS
  go_enter Tryz.func39, Tryz.ntmps39
  go_wp2_with (go_at_call 58; refine (wit_any _ _ _ _).mono ?_; rintro e w' ⟨rfl, rfl⟩)
  go_loop [6, 19] (fun sv i => ∃ k : Nat, k ≤ n ∧ i = .int .i64 k ∧ sv = .int .i64 (sumTo g k)) (fun _ i => n - (RowKit.intOf i).toNat)
  case atStart => exact ⟨0, by omega, rfl, rfl⟩
  case round =>
    obtain ⟨k, hk, rfl, rfl⟩ := hrel
    by_cases hlt : k < n
    · have c1 := HR.out k hlt
      have c2 := H0.out k hlt
      have c3 := H1.out k hlt
      have c4 := wit_yes c2 c3
      have c5 := sumTo_nonneg (g := g) (n := k) fun i hi => H0.out i (by omega)
      have c6 := sumTo_bd (g := g) (n := k) (M := 1000000000) fun i hi => H1.out i (by omega)
      have HQ := Lib.hid (show sumTo g (k + 1) = sumTo g k + g k from rfl)
      go_wp2_with (go_at_call 58; refine (wit_any _ _ _ _).mono ?_; rintro e w' ⟨rfl, rfl⟩)
      go_round
      case rel => exact ⟨k + 1, hlt, by go_num, by rw [HQ.out]⟩
      case measure => (first | omega | (simp [RowKit.intOf]; omega))
    · obtain rfl : k = n := by omega
      have hs := HS.out
      go_wp2
      go_ret2
      exact ⟨rfl, rfl⟩

set_option maxRecDepth 100000 in
set_option maxHeartbeats 8000000 in
theorem alloc_pos (n : Nat) [Inhabited (Fin n)] (T s : Int) (x : Addr) (cap : Nat) (g : Nat → Int) (hn : n ≤ 1024) (h0 : -1000000000 ≤ T) (h1 : T ≤ 1000000000) (g0 : ∀ k, k < n → 0 ≤ g k) (g1 : ∀ k, k < n → g k ≤ 1000000000) (hS : sumTo g n = s) (hs : 1 ≤ s) (w : World) (hx : x.block < w.heap.size) (hrow : WRow w x n g) :
    Calls Tryz.prog 39 #[.int .i64 T, .slice (some x) n cap] w fun e w' =>
      e = .returned (.tuple #[.slice (some ⟨w.heap.size + 3, 0, none⟩) n n, .int .i64 0]) ∧ RowI w' (w.heap.size + 3) n (alloF T s g n) ∧ Below w.heap.size w w' := by
  have e1 := wit_yes h0 h1
  have hn1 : 1 ≤ n := by
    rcases Nat.eq_zero_or_pos n with h | h
    · subst h; simp [sumTo] at hS; omega
    · exact h
  have hs1 : s ≤ 1000000000000000000 := by
    have := sumTo_bd (g := g) (n := n) (M := 1000000000) g1
    omega
  have HR := Lib.hid hrow
  have H0 := Lib.hid g0
  have H1 := Lib.hid g1
  have HS := Lib.hid hS
  have HX := Lib.hid hx
  have hn2 : decide (1024 < (n : Int)) = false := decide_eq_false (by omega)
  clear hrow g0 g1 hS hx
  go_enter Tryz.func39, Tryz.ntmps39
  go_wp2_with (go_at_call 58; refine (wit_any _ _ _ _).mono ?_; rintro e w' ⟨rfl, rfl⟩)
  go_loop [6, 19] (fun sv i => ∃ k : Nat, k ≤ n ∧ i = .int .i64 k ∧ sv = .int .i64 (sumTo g k)) (fun _ i => n - (RowKit.intOf i).toNat)
  case atStart => exact ⟨0, by omega, rfl, rfl⟩
  case round =>
    obtain ⟨k, hk, rfl, rfl⟩ := hrel
    by_cases hlt : k < n
    · have c1 := HR.out k hlt
      have c2 := H0.out k hlt
      have c3 := H1.out k hlt
      have c4 := wit_yes c2 c3
      have c5 := sumTo_nonneg (g := g) (n := k) fun i hi => H0.out i (by omega)
      have c6 := sumTo_bd (g := g) (n := k) (M := 1000000000) fun i hi => H1.out i (by omega)
      have HQ := Lib.hid (show sumTo g (k + 1) = sumTo g k + g k from rfl)
      go_wp2_with (go_at_call 58; refine (wit_any _ _ _ _).mono ?_; rintro e w' ⟨rfl, rfl⟩)
      go_round
      case rel => exact ⟨k + 1, hlt, by go_num, by rw [HQ.out]⟩
      case measure => (first | omega | (simp [RowKit.intOf]; omega))
    · obtain rfl : k = n := by omega
      have hss := HS.out
      have hs0 : (s == 0) = false := by simp; omega
      rcases Int.lt_or_le T 0 with hT | hT
      · have hT2 : decide (0 ≤ T) = false := decide_eq_false (by omega)
        have HF : Hid (alloF T s g k = fun i => -(partF (-T) s g k (missK (-T) s g k) i)) := Lib.hid (by funext i; unfold alloF; rw [if_pos hT])
        go_wp2_with fail
        refine (divide_any k (-T) s x cap g hn1 hn (by omega) (by omega) hs hs1 H0.out H1.out HS.out w HX.out HR.out).mono ?_
        rintro e w1 ⟨rfl, hP, hB⟩
        have HP := Lib.hid hP
        have HB := Lib.hid hB
        clear hP hB
        go_wp2_with fail
        go_loopw [10, 45] (fun v i wr => ∃ t : Nat, t ≤ k ∧ i = .int .i64 t ∧ RowI wr (w.heap.size + 3) k (fun i => if i < t then -(partF (-T) s g k (missK (-T) s g k) i) else partF (-T) s g k (missK (-T) s g k) i) ∧ Below w.heap.size w wr) (fun _ i _ => k - (RowKit.intOf i).toNat)
        case atStart => exact ⟨0, by omega, rfl, HP.out.congr fun i hi => by simp, HB.out⟩
        case round =>
          clear HP HB
          obtain ⟨t, ht, rfl, hP, hB⟩ := hrel
          by_cases hlt2 : t < k
          · have y3 := hP.cell t hlt2
            rw [if_neg (by omega)] at y3
            have y4 := hP.free t hlt2
            obtain ⟨y5, y6⟩ := part_bd (T := -T) (t := missK (-T) s g k) (by omega) hs H0.out HS.out hlt2
            have y7 := (missK_eq (T := -T) (g := g) (by omega) hs H0.out HS.out).2
            have N1 := Lib.hid (hP.set hlt2 (-(partF (-T) s g k (missK (-T) s g k) t)))
            have N4 := Lib.hid hB
            clear hP hB
            go_wp2_with fail
            refine ⟨⟨t + 1, hlt2, by go_num, N1.out.congr fun i hi => ?_, N4.out.setCell (by show w.heap.size ≤ w.heap.size + 3; omega) _⟩, by simp [RowKit.intOf]; omega⟩
            by_cases e : i = t
            · subst e; rw [if_pos rfl, if_pos (by omega)]
            · rw [if_neg e]
              by_cases e2 : i < t
              · rw [if_pos e2, if_pos (by omega)]
              · rw [if_neg e2, if_neg (by omega)]
          · obtain rfl : t = k := by omega
            have HP := Lib.hid hP
            have HB := Lib.hid hB
            clear hP hB
            go_wp2_with fail
            go_ret2
            exact ⟨rfl, HP.out.congr fun i hi => by rw [HF.out, if_pos hi], HB.out⟩
      · have hT2 : decide (0 ≤ T) = true := decide_eq_true hT
        have HF : Hid (alloF T s g k = partF T s g k (missK T s g k)) := Lib.hid (by funext i; unfold alloF; rw [if_neg (by omega)])
        go_wp2_with fail
        refine (divide_any k T s x cap g hn1 hn hT h1 hs hs1 H0.out H1.out HS.out w HX.out HR.out).mono ?_
        rintro e w1 ⟨rfl, hP, hB⟩
        have HP := Lib.hid hP
        have HB := Lib.hid hB
        clear hP hB
        go_wp2_with fail
        go_ret2
        exact ⟨rfl, by rw [HF.out]; exact HP.out, HB.out⟩
end Go.Proofs.YtcdilaembophlaaGreatDoor
