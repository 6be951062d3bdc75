/-
  Layer 6 (timeline): the contract of the reference's Compare. No condition.
-/
import Derived.Test.YtdpgmjmmnjbbiaaPrUt
namespace Go.Proofs.Ytdpgmjmmnjbbiaa.Tl
open Go Go.RowKit Go.Lib Go.Sort Go.Shelf Go.Proofs Go.Proofs.Ytdpgmjmmnjbbiaa Go.Proofs.Ytdpgmjmmnjbbiaa.Tp
set_option linter.unusedVariables false

/-- What the reference compares, in its order. -/
def xl (c : Chg) : Nat → Int
  | 0 => c.fr
  | 1 => c.kn
  | 2 => if c.de then 1 else 0
  | _ => c.va
theorem xl_lt (a b : Chg) (i : Nat) (hi : i < 4) (he : ∀ j, j < i → xl a j = xl b j) (h : xl a i < xl b i) : cmpC a b = -1 := by
  obtain ⟨f1, k1, v1, d1⟩ := a
  obtain ⟨f2, k2, v2, d2⟩ := b
  rcases i with _ | _ | _ | _ | i
  · simp only [xl] at h; simp only [cmpC, cmpI]; rw [if_pos h]; rfl
  · have e0 := he 0 (by omega); simp only [xl] at h e0; subst e0; simp [cmpC, cmpI, h]
  · have e0 := he 0 (by omega); have e1 := he 1 (by omega); simp only [xl] at h e0 e1; subst e0 e1
    cases d1 <;> cases d2 <;> simp at h <;> simp [cmpC, cmpI]
  · have e0 := he 0 (by omega); have e1 := he 1 (by omega); have e2 := he 2 (by omega); simp only [xl] at h e0 e1 e2; subst e0 e1
    cases d1 <;> cases d2 <;> simp at e2 <;> simp [cmpC, cmpI, h]
  · omega
theorem xl_gt (a b : Chg) (i : Nat) (hi : i < 4) (he : ∀ j, j < i → xl a j = xl b j) (h : xl b i < xl a i) : cmpC a b = 1 := by
  obtain ⟨f1, k1, v1, d1⟩ := a
  obtain ⟨f2, k2, v2, d2⟩ := b
  rcases i with _ | _ | _ | _ | i
  · simp only [xl] at h; simp only [cmpC, cmpI]; rw [if_neg (by omega : ¬ f1 < f2), if_pos h]; rfl
  · have e0 := he 0 (by omega); simp only [xl] at h e0; subst e0
    have h2 : ¬ k1 < k2 := by omega
    simp [cmpC, cmpI, h, h2]
  · have e0 := he 0 (by omega); have e1 := he 1 (by omega); simp only [xl] at h e0 e1; subst e0 e1
    cases d1 <;> cases d2 <;> simp at h <;> simp [cmpC, cmpI]
  · have e0 := he 0 (by omega); have e1 := he 1 (by omega); have e2 := he 2 (by omega); simp only [xl] at h e0 e1 e2; subst e0 e1
    have h2 : ¬ v1 < v2 := by omega
    cases d1 <;> cases d2 <;> simp at e2 <;> simp [cmpC, cmpI, h, h2]
  · omega
theorem xl_eq (a b : Chg) (he : ∀ j, j < 4 → xl a j = xl b j) : cmpC a b = 0 := by
  obtain ⟨f1, k1, v1, d1⟩ := a
  obtain ⟨f2, k2, v2, d2⟩ := b
  have e0 := he 0 (by omega); have e1 := he 1 (by omega); have e2 := he 2 (by omega); have e3 := he 3 (by omega)
  simp only [xl] at e0 e1 e2 e3; subst e0 e1 e3
  cases d1 <;> cases d2 <;> simp at e2 <;> simp [cmpC, cmpI]
theorem below_dN {B : Nat} {w W : World} (h : Below B w W) (n : Nat) : Below B w (W.drewN n) := ⟨h.os, h.tape, h.output, h.size, h.block⟩
/-- Four numbers in a block. -/
def AR (s : Nat) (x : Nat → Int) (w : World) : Prop := ∀ j, j < 4 → w.cell? ⟨s, j, none⟩ = some (.int .i64 (x j))
theorem AR.of {s : Nat} {x : Nat → Int} {w : World} (h0 : w.cell? ⟨s, 0, none⟩ = some (.int .i64 (x 0))) (h1 : w.cell? ⟨s, 1, none⟩ = some (.int .i64 (x 1))) (h2 : w.cell? ⟨s, 2, none⟩ = some (.int .i64 (x 2))) (h3 : w.cell? ⟨s, 3, none⟩ = some (.int .i64 (x 3))) : AR s x w := by
  intro j hj
  rcases j with _ | _ | _ | _ | j
  · exact h0
  · exact h1
  · exact h2
  · exact h3
  · omega
theorem AR.drew {s : Nat} {x : Nat → Int} {w : World} (h : AR s x w) (n : Nat) : AR s x (w.drewN n) := fun j hj => by rw [← h j hj]; simp

set_option maxRecDepth 100000 in
set_option maxHeartbeats 4000000 in
theorem rcmp_false_false (f1 k1 v1 f2 k2 v2 : Int) (w : World) : Calls Try.prog 42 #[.agg #[.int .i64 f1, .int .i64 k1, .int .i64 v1, .bool false], .agg #[.int .i64 f2, .int .i64 k2, .int .i64 v2, .bool false]] w fun e w' => e = .returned (.int .i64 (cmpC ⟨f1, k1, v1, false⟩ ⟨f2, k2, v2, false⟩)) ∧ Below w.heap.size w w' := by
  have XLT := Lib.hid (xl_lt ⟨f1, k1, v1, false⟩ ⟨f2, k2, v2, false⟩)
  have XGT := Lib.hid (xl_gt ⟨f1, k1, v1, false⟩ ⟨f2, k2, v2, false⟩)
  have XEQ := Lib.hid (xl_eq ⟨f1, k1, v1, false⟩ ⟨f2, k2, v2, false⟩)
  obtain ⟨X, hX⟩ : ∃ X, X = xl ⟨f1, k1, v1, false⟩ := ⟨_, rfl⟩
  obtain ⟨Y, hY⟩ : ∃ Y, Y = xl ⟨f2, k2, v2, false⟩ := ⟨_, rfl⟩
  rw [← hX, ← hY] at XLT XGT XEQ
  have EX := Lib.hid hX
  have EY := Lib.hid hY
  clear hX hY
  obtain ⟨R, hR⟩ : ∃ R, R = cmpC ⟨f1, k1, v1, false⟩ ⟨f2, k2, v2, false⟩ := ⟨_, rfl⟩
  rw [← hR] at XLT XGT XEQ ⊢
  clear hR
  go_enter Try.func42, Try.ntmps42
  go_wp2_with fail
  go_loopw [7] (fun z wr => ∃ k : Nat, k ≤ 4 ∧ z = .int .i64 k ∧ Hid (∀ j, j < k → X j = Y j) ∧ Hid (AR (w.heap.size + 2) X wr) ∧ Hid (AR (w.heap.size + 3) Y wr) ∧ Below w.heap.size w wr) (fun z _ => 4 - (intOf z).toNat)
  case atStart =>
    refine ⟨0, by omega, rfl, Lib.hid (fun j hj => absurd hj (by omega)), Lib.hid ?_, Lib.hid ?_, ?_⟩
    · rw [EX.out]; exact AR.of (by go_simp; rfl) (by go_simp; rfl) (by go_simp; rfl) (by go_simp; rfl)
    · rw [EY.out]; exact AR.of (by go_simp; rfl) (by go_simp; rfl) (by go_simp; rfl) (by go_simp; rfl)
    · repeat (first | exact Below.refl _ _ | assumption | refine Below.setCell ?_ (by simp <;> omega) _ | refine Below.alloc ?_ (by simp <;> omega) _)
  case round =>
    obtain ⟨k, hk, rfl, HE, HX, HY, hB⟩ := hrel
    by_cases hlt : k < 4
    · have hd0 : decide ((k : Int) < 4) = true := decide_eq_true (by omega)
      have i0 : (0 : Int) ≤ (k : Int) := by omega
      have i1 : (k : Int) < 4 := by omega
      have cx := HX.out k hlt
      have cy := HY.out k hlt
      have L1 := Lib.hid (XLT.out k hlt HE.out)
      have L2 := Lib.hid (XGT.out k hlt HE.out)
      have L3 := Lib.hid (fun (h : X k = Y k) => (show ∀ j, j < k + 1 → X j = Y j from fun j hj => by
        by_cases e : j = k
        · subst e; exact h
        · exact HE.out j (by omega)))
      generalize X k = p at cx L1 L2 L3
      generalize Y k = q at cy L1 L2 L3
      go_wp2_with fail
      by_cases h1 : p < q
      · have t1 : decide (p < q) = true := decide_eq_true h1
        go_quiet (fail)
        go_wp2_with fail
        obtain rfl := L1.out h1
        go_ret
        exact ⟨rfl, by first | exact below_dN hB _ | exact below_dN (below_dN hB _) _⟩
      · have t1 : decide (p < q) = false := decide_eq_false h1
        go_quiet (fail)
        go_wp2_with fail
        by_cases h2 : q < p
        · have t2 : decide (q < p) = true := decide_eq_true h2
          go_quiet (fail)
          go_wp2_with fail
          obtain rfl := L2.out h2
          go_ret
          exact ⟨rfl, by first | exact below_dN hB _ | exact below_dN (below_dN hB _) _⟩
        · have t2 : decide (q < p) = false := decide_eq_false h2
          go_quiet (fail)
          go_wp2_with fail
          go_roundw
          case rel => exact ⟨k + 1, by omega, by go_num, Lib.hid (L3.out (by omega)), Lib.hid (HX.out.drew _), Lib.hid (HY.out.drew _), below_dN hB _⟩
          case measure => simp [intOf]; omega
    · obtain rfl : k = 4 := by omega
      have hd0 : decide ((4 : Int) < 4) = false := by decide
      go_wp2_with fail
      obtain rfl := XEQ.out HE.out
      go_ret
      exact ⟨rfl, hB⟩
set_option maxRecDepth 100000 in
set_option maxHeartbeats 4000000 in
theorem rcmp_false_true (f1 k1 v1 f2 k2 v2 : Int) (w : World) : Calls Try.prog 42 #[.agg #[.int .i64 f1, .int .i64 k1, .int .i64 v1, .bool false], .agg #[.int .i64 f2, .int .i64 k2, .int .i64 v2, .bool true]] w fun e w' => e = .returned (.int .i64 (cmpC ⟨f1, k1, v1, false⟩ ⟨f2, k2, v2, true⟩)) ∧ Below w.heap.size w w' := by
  have XLT := Lib.hid (xl_lt ⟨f1, k1, v1, false⟩ ⟨f2, k2, v2, true⟩)
  have XGT := Lib.hid (xl_gt ⟨f1, k1, v1, false⟩ ⟨f2, k2, v2, true⟩)
  have XEQ := Lib.hid (xl_eq ⟨f1, k1, v1, false⟩ ⟨f2, k2, v2, true⟩)
  obtain ⟨X, hX⟩ : ∃ X, X = xl ⟨f1, k1, v1, false⟩ := ⟨_, rfl⟩
  obtain ⟨Y, hY⟩ : ∃ Y, Y = xl ⟨f2, k2, v2, true⟩ := ⟨_, rfl⟩
  rw [← hX, ← hY] at XLT XGT XEQ
  have EX := Lib.hid hX
  have EY := Lib.hid hY
  clear hX hY
  obtain ⟨R, hR⟩ : ∃ R, R = cmpC ⟨f1, k1, v1, false⟩ ⟨f2, k2, v2, true⟩ := ⟨_, rfl⟩
  rw [← hR] at XLT XGT XEQ ⊢
  clear hR
  go_enter Try.func42, Try.ntmps42
  go_wp2_with fail
  go_loopw [7] (fun z wr => ∃ k : Nat, k ≤ 4 ∧ z = .int .i64 k ∧ Hid (∀ j, j < k → X j = Y j) ∧ Hid (AR (w.heap.size + 2) X wr) ∧ Hid (AR (w.heap.size + 3) Y wr) ∧ Below w.heap.size w wr) (fun z _ => 4 - (intOf z).toNat)
  case atStart =>
    refine ⟨0, by omega, rfl, Lib.hid (fun j hj => absurd hj (by omega)), Lib.hid ?_, Lib.hid ?_, ?_⟩
    · rw [EX.out]; exact AR.of (by go_simp; rfl) (by go_simp; rfl) (by go_simp; rfl) (by go_simp; rfl)
    · rw [EY.out]; exact AR.of (by go_simp; rfl) (by go_simp; rfl) (by go_simp; rfl) (by go_simp; rfl)
    · repeat (first | exact Below.refl _ _ | assumption | refine Below.setCell ?_ (by simp <;> omega) _ | refine Below.alloc ?_ (by simp <;> omega) _)
  case round =>
    obtain ⟨k, hk, rfl, HE, HX, HY, hB⟩ := hrel
    by_cases hlt : k < 4
    · have hd0 : decide ((k : Int) < 4) = true := decide_eq_true (by omega)
      have i0 : (0 : Int) ≤ (k : Int) := by omega
      have i1 : (k : Int) < 4 := by omega
      have cx := HX.out k hlt
      have cy := HY.out k hlt
      have L1 := Lib.hid (XLT.out k hlt HE.out)
      have L2 := Lib.hid (XGT.out k hlt HE.out)
      have L3 := Lib.hid (fun (h : X k = Y k) => (show ∀ j, j < k + 1 → X j = Y j from fun j hj => by
        by_cases e : j = k
        · subst e; exact h
        · exact HE.out j (by omega)))
      generalize X k = p at cx L1 L2 L3
      generalize Y k = q at cy L1 L2 L3
      go_wp2_with fail
      by_cases h1 : p < q
      · have t1 : decide (p < q) = true := decide_eq_true h1
        go_quiet (fail)
        go_wp2_with fail
        obtain rfl := L1.out h1
        go_ret
        exact ⟨rfl, by first | exact below_dN hB _ | exact below_dN (below_dN hB _) _⟩
      · have t1 : decide (p < q) = false := decide_eq_false h1
        go_quiet (fail)
        go_wp2_with fail
        by_cases h2 : q < p
        · have t2 : decide (q < p) = true := decide_eq_true h2
          go_quiet (fail)
          go_wp2_with fail
          obtain rfl := L2.out h2
          go_ret
          exact ⟨rfl, by first | exact below_dN hB _ | exact below_dN (below_dN hB _) _⟩
        · have t2 : decide (q < p) = false := decide_eq_false h2
          go_quiet (fail)
          go_wp2_with fail
          go_roundw
          case rel => exact ⟨k + 1, by omega, by go_num, Lib.hid (L3.out (by omega)), Lib.hid (HX.out.drew _), Lib.hid (HY.out.drew _), below_dN hB _⟩
          case measure => simp [intOf]; omega
    · obtain rfl : k = 4 := by omega
      have hd0 : decide ((4 : Int) < 4) = false := by decide
      go_wp2_with fail
      obtain rfl := XEQ.out HE.out
      go_ret
      exact ⟨rfl, hB⟩
set_option maxRecDepth 100000 in
set_option maxHeartbeats 4000000 in
theorem rcmp_true_false (f1 k1 v1 f2 k2 v2 : Int) (w : World) : Calls Try.prog 42 #[.agg #[.int .i64 f1, .int .i64 k1, .int .i64 v1, .bool true], .agg #[.int .i64 f2, .int .i64 k2, .int .i64 v2, .bool false]] w fun e w' => e = .returned (.int .i64 (cmpC ⟨f1, k1, v1, true⟩ ⟨f2, k2, v2, false⟩)) ∧ Below w.heap.size w w' := by
  have XLT := Lib.hid (xl_lt ⟨f1, k1, v1, true⟩ ⟨f2, k2, v2, false⟩)
  have XGT := Lib.hid (xl_gt ⟨f1, k1, v1, true⟩ ⟨f2, k2, v2, false⟩)
  have XEQ := Lib.hid (xl_eq ⟨f1, k1, v1, true⟩ ⟨f2, k2, v2, false⟩)
  obtain ⟨X, hX⟩ : ∃ X, X = xl ⟨f1, k1, v1, true⟩ := ⟨_, rfl⟩
  obtain ⟨Y, hY⟩ : ∃ Y, Y = xl ⟨f2, k2, v2, false⟩ := ⟨_, rfl⟩
  rw [← hX, ← hY] at XLT XGT XEQ
  have EX := Lib.hid hX
  have EY := Lib.hid hY
  clear hX hY
  obtain ⟨R, hR⟩ : ∃ R, R = cmpC ⟨f1, k1, v1, true⟩ ⟨f2, k2, v2, false⟩ := ⟨_, rfl⟩
  rw [← hR] at XLT XGT XEQ ⊢
  clear hR
  go_enter Try.func42, Try.ntmps42
  go_wp2_with fail
  go_loopw [7] (fun z wr => ∃ k : Nat, k ≤ 4 ∧ z = .int .i64 k ∧ Hid (∀ j, j < k → X j = Y j) ∧ Hid (AR (w.heap.size + 2) X wr) ∧ Hid (AR (w.heap.size + 3) Y wr) ∧ Below w.heap.size w wr) (fun z _ => 4 - (intOf z).toNat)
  case atStart =>
    refine ⟨0, by omega, rfl, Lib.hid (fun j hj => absurd hj (by omega)), Lib.hid ?_, Lib.hid ?_, ?_⟩
    · rw [EX.out]; exact AR.of (by go_simp; rfl) (by go_simp; rfl) (by go_simp; rfl) (by go_simp; rfl)
    · rw [EY.out]; exact AR.of (by go_simp; rfl) (by go_simp; rfl) (by go_simp; rfl) (by go_simp; rfl)
    · repeat (first | exact Below.refl _ _ | assumption | refine Below.setCell ?_ (by simp <;> omega) _ | refine Below.alloc ?_ (by simp <;> omega) _)
  case round =>
    obtain ⟨k, hk, rfl, HE, HX, HY, hB⟩ := hrel
    by_cases hlt : k < 4
    · have hd0 : decide ((k : Int) < 4) = true := decide_eq_true (by omega)
      have i0 : (0 : Int) ≤ (k : Int) := by omega
      have i1 : (k : Int) < 4 := by omega
      have cx := HX.out k hlt
      have cy := HY.out k hlt
      have L1 := Lib.hid (XLT.out k hlt HE.out)
      have L2 := Lib.hid (XGT.out k hlt HE.out)
      have L3 := Lib.hid (fun (h : X k = Y k) => (show ∀ j, j < k + 1 → X j = Y j from fun j hj => by
        by_cases e : j = k
        · subst e; exact h
        · exact HE.out j (by omega)))
      generalize X k = p at cx L1 L2 L3
      generalize Y k = q at cy L1 L2 L3
      go_wp2_with fail
      by_cases h1 : p < q
      · have t1 : decide (p < q) = true := decide_eq_true h1
        go_quiet (fail)
        go_wp2_with fail
        obtain rfl := L1.out h1
        go_ret
        exact ⟨rfl, by first | exact below_dN hB _ | exact below_dN (below_dN hB _) _⟩
      · have t1 : decide (p < q) = false := decide_eq_false h1
        go_quiet (fail)
        go_wp2_with fail
        by_cases h2 : q < p
        · have t2 : decide (q < p) = true := decide_eq_true h2
          go_quiet (fail)
          go_wp2_with fail
          obtain rfl := L2.out h2
          go_ret
          exact ⟨rfl, by first | exact below_dN hB _ | exact below_dN (below_dN hB _) _⟩
        · have t2 : decide (q < p) = false := decide_eq_false h2
          go_quiet (fail)
          go_wp2_with fail
          go_roundw
          case rel => exact ⟨k + 1, by omega, by go_num, Lib.hid (L3.out (by omega)), Lib.hid (HX.out.drew _), Lib.hid (HY.out.drew _), below_dN hB _⟩
          case measure => simp [intOf]; omega
    · obtain rfl : k = 4 := by omega
      have hd0 : decide ((4 : Int) < 4) = false := by decide
      go_wp2_with fail
      obtain rfl := XEQ.out HE.out
      go_ret
      exact ⟨rfl, hB⟩
set_option maxRecDepth 100000 in
set_option maxHeartbeats 4000000 in
theorem rcmp_true_true (f1 k1 v1 f2 k2 v2 : Int) (w : World) : Calls Try.prog 42 #[.agg #[.int .i64 f1, .int .i64 k1, .int .i64 v1, .bool true], .agg #[.int .i64 f2, .int .i64 k2, .int .i64 v2, .bool true]] w fun e w' => e = .returned (.int .i64 (cmpC ⟨f1, k1, v1, true⟩ ⟨f2, k2, v2, true⟩)) ∧ Below w.heap.size w w' := by
  have XLT := Lib.hid (xl_lt ⟨f1, k1, v1, true⟩ ⟨f2, k2, v2, true⟩)
  have XGT := Lib.hid (xl_gt ⟨f1, k1, v1, true⟩ ⟨f2, k2, v2, true⟩)
  have XEQ := Lib.hid (xl_eq ⟨f1, k1, v1, true⟩ ⟨f2, k2, v2, true⟩)
  obtain ⟨X, hX⟩ : ∃ X, X = xl ⟨f1, k1, v1, true⟩ := ⟨_, rfl⟩
  obtain ⟨Y, hY⟩ : ∃ Y, Y = xl ⟨f2, k2, v2, true⟩ := ⟨_, rfl⟩
  rw [← hX, ← hY] at XLT XGT XEQ
  have EX := Lib.hid hX
  have EY := Lib.hid hY
  clear hX hY
  obtain ⟨R, hR⟩ : ∃ R, R = cmpC ⟨f1, k1, v1, true⟩ ⟨f2, k2, v2, true⟩ := ⟨_, rfl⟩
  rw [← hR] at XLT XGT XEQ ⊢
  clear hR
  go_enter Try.func42, Try.ntmps42
  go_wp2_with fail
  go_loopw [7] (fun z wr => ∃ k : Nat, k ≤ 4 ∧ z = .int .i64 k ∧ Hid (∀ j, j < k → X j = Y j) ∧ Hid (AR (w.heap.size + 2) X wr) ∧ Hid (AR (w.heap.size + 3) Y wr) ∧ Below w.heap.size w wr) (fun z _ => 4 - (intOf z).toNat)
  case atStart =>
    refine ⟨0, by omega, rfl, Lib.hid (fun j hj => absurd hj (by omega)), Lib.hid ?_, Lib.hid ?_, ?_⟩
    · rw [EX.out]; exact AR.of (by go_simp; rfl) (by go_simp; rfl) (by go_simp; rfl) (by go_simp; rfl)
    · rw [EY.out]; exact AR.of (by go_simp; rfl) (by go_simp; rfl) (by go_simp; rfl) (by go_simp; rfl)
    · repeat (first | exact Below.refl _ _ | assumption | refine Below.setCell ?_ (by simp <;> omega) _ | refine Below.alloc ?_ (by simp <;> omega) _)
  case round =>
    obtain ⟨k, hk, rfl, HE, HX, HY, hB⟩ := hrel
    by_cases hlt : k < 4
    · have hd0 : decide ((k : Int) < 4) = true := decide_eq_true (by omega)
      have i0 : (0 : Int) ≤ (k : Int) := by omega
      have i1 : (k : Int) < 4 := by omega
      have cx := HX.out k hlt
      have cy := HY.out k hlt
      have L1 := Lib.hid (XLT.out k hlt HE.out)
      have L2 := Lib.hid (XGT.out k hlt HE.out)
      have L3 := Lib.hid (fun (h : X k = Y k) => (show ∀ j, j < k + 1 → X j = Y j from fun j hj => by
        by_cases e : j = k
        · subst e; exact h
        · exact HE.out j (by omega)))
      generalize X k = p at cx L1 L2 L3
      generalize Y k = q at cy L1 L2 L3
      go_wp2_with fail
      by_cases h1 : p < q
      · have t1 : decide (p < q) = true := decide_eq_true h1
        go_quiet (fail)
        go_wp2_with fail
        obtain rfl := L1.out h1
        go_ret
        exact ⟨rfl, by first | exact below_dN hB _ | exact below_dN (below_dN hB _) _⟩
      · have t1 : decide (p < q) = false := decide_eq_false h1
        go_quiet (fail)
        go_wp2_with fail
        by_cases h2 : q < p
        · have t2 : decide (q < p) = true := decide_eq_true h2
          go_quiet (fail)
          go_wp2_with fail
          obtain rfl := L2.out h2
          go_ret
          exact ⟨rfl, by first | exact below_dN hB _ | exact below_dN (below_dN hB _) _⟩
        · have t2 : decide (q < p) = false := decide_eq_false h2
          go_quiet (fail)
          go_wp2_with fail
          go_roundw
          case rel => exact ⟨k + 1, by omega, by go_num, Lib.hid (L3.out (by omega)), Lib.hid (HX.out.drew _), Lib.hid (HY.out.drew _), below_dN hB _⟩
          case measure => simp [intOf]; omega
    · obtain rfl : k = 4 := by omega
      have hd0 : decide ((4 : Int) < 4) = false := by decide
      go_wp2_with fail
      obtain rfl := XEQ.out HE.out
      go_ret
      exact ⟨rfl, hB⟩
theorem rcmp_any (a b : Chg) (w : World) : Calls Try.prog 42 #[vC a, vC b] w fun e w' => e = .returned (.int .i64 (cmpC a b)) ∧ Below w.heap.size w w' := by
  obtain ⟨f1, k1, v1, d1⟩ := a
  obtain ⟨f2, k2, v2, d2⟩ := b
  cases d1 <;> cases d2
  · exact rcmp_false_false f1 k1 v1 f2 k2 v2 w
  · exact rcmp_false_true f1 k1 v1 f2 k2 v2 w
  · exact rcmp_true_false f1 k1 v1 f2 k2 v2 w
  · exact rcmp_true_true f1 k1 v1 f2 k2 v2 w
end Go.Proofs.Ytdpgmjmmnjbbiaa.Tl
