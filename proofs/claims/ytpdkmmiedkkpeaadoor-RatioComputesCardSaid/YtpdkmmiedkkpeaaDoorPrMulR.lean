/-
  Layer 1 (ratio): the contract of the reference's Mul. Conditions: the parts of the fractions fit their kinds.
-/
import Derived.Test.YtpdkmmiedkkpeaaDoorPrMul
namespace Go.Proofs.YtpdkmmiedkkpeaaDoor
open Go Go.RowKit Go.Lib

theorem cut_zero (neg : Bool) : cutT neg ((0 : Nat) : Int) ((1 : Nat) : Int) = (0, 1, 0) := by cases neg <;> rfl
theorem big_of_quo (X Y M : Nat) (hX : 0 < X) (hM : 1000000000000 / X = M) (h : M < Y) : 1000000000000 < X * Y := by
  rw [← hM, Nat.div_lt_iff_lt_mul hX, Nat.mul_comm] at h; exact h
theorem small_of_quo (X Y M : Nat) (hX : 0 < X) (hM : 1000000000000 / X = M) (h : ¬ M < Y) : X * Y ≤ 1000000000000 := by
  rw [← hM, Nat.div_lt_iff_lt_mul hX, Nat.mul_comm] at h; omega

set_option maxRecDepth 100000 in
set_option maxHeartbeats 4000000 in
theorem rmul_any (a b c d : Int) (ha0 : -9223372036854775808 ≤ a) (ha1 : a ≤ 9223372036854775807) (hb0 : -9223372036854775808 ≤ b) (hb1 : b ≤ 9223372036854775807) (hc0 : -9223372036854775808 ≤ c) (hc1 : c ≤ 9223372036854775807) (hd0 : -9223372036854775808 ≤ d) (hd1 : d ≤ 9223372036854775807) (w : World) :
    Calls Tryd.prog 36 #[.agg #[.int .i64 a, .int .i64 b], .agg #[.int .i64 c, .int .i64 d]] w fun e w' => e = .returned (.tuple #[.agg #[.int .i64 (mulT a b c d).1, .int .i64 (mulT a b c d).2.1], .int .i64 (mulT a b c d).2.2]) ∧ Below w.heap.size w w' := by
  rcases two_cases (vldB a b) (vldB c d) with hv | ⟨hv, hk⟩ | ⟨hv, hk⟩
  · have H := Lib.hid (show mulT a b c d = (0, 0, 1) by unfold mulT; rw [hv]; rfl)
    go_enter Tryd.func36, Tryd.ntmps36
    go_wp2_with fail
    refine (rvalid_any _ _ (by omega) (by omega) (by omega) (by omega) _).mono ?_
    rintro e w1 ⟨rfl, hw1⟩
    obtain ⟨hcw1, hfw1⟩ := bcell hw1
    have hB1 : Below w.heap.size w w1 := (boxed3 _ _ _ _).trans (hw1.mono (by simp <;> omega))
    have hz1 : w.heap.size + 2 < w1.heap.size := by have := hw1.size; simp at this; omega
    go_wp2_with fail
    refine bodyPost_ret (v := retT (mulT a b c d)) (by rw [H.out]; simp [results, Tryd.results36, go_sem, hcw1, retT]) rfl ⟨rfl, ?_⟩
    repeat (first | exact Below.refl _ _ | assumption | refine below_drewN ?_ _ | refine Below.setCell ?_ (by simp <;> omega) _ | refine Below.alloc ?_ (by simp <;> omega) _)
  · have H := Lib.hid (show mulT a b c d = (0, 0, 1) by unfold mulT; rw [hv, hk]; rfl)
    go_enter Tryd.func36, Tryd.ntmps36
    go_wp2_with fail
    refine (rvalid_any _ _ (by omega) (by omega) (by omega) (by omega) _).mono ?_
    rintro e w1 ⟨rfl, hw1⟩
    obtain ⟨hcw1, hfw1⟩ := bcell hw1
    have hB1 : Below w.heap.size w w1 := (boxed3 _ _ _ _).trans (hw1.mono (by simp <;> omega))
    have hz1 : w.heap.size + 2 < w1.heap.size := by have := hw1.size; simp at this; omega
    go_wp2_with fail
    refine (rvalid_any _ _ (by omega) (by omega) (by omega) (by omega) _).mono ?_
    rintro e w2 ⟨rfl, hw2⟩
    have hv2 := hw1.trans (hw2.mono hw1.size)
    obtain ⟨hcw2, hfw2⟩ := bcell hv2
    have hB2 : Below w.heap.size w w2 := hB1.trans (hw2.mono (by omega))
    have hz2 : w.heap.size + 2 < w2.heap.size := by have := hw2.size; omega
    clear hcw1 hfw1
    go_wp2_with fail
    refine bodyPost_ret (v := retT (mulT a b c d)) (by rw [H.out]; simp [results, Tryd.results36, go_sem, hcw2, retT]) rfl ⟨rfl, ?_⟩
    repeat (first | exact Below.refl _ _ | assumption | refine below_drewN ?_ _ | refine Below.setCell ?_ (by simp <;> omega) _ | refine Below.alloc ?_ (by simp <;> omega) _)
  · obtain ⟨p7, p8, p9, p10⟩ := vld_bd hv
    obtain ⟨q7, q8, q9, q10⟩ := vld_bd hk
    have H := Lib.hid (show mulT a b c d = cutT (decide (a < 0) != decide (c < 0)) (mulN a b c d) (mulD a b c d) by unfold mulT; rw [hv, hk]; rfl)
    have hfp : 1 ≤ Nat.gcd a.natAbs d.natAbs := Nat.gcd_pos_of_pos_right _ (by omega)
    have hsp : 1 ≤ Nat.gcd c.natAbs b.natAbs := Nat.gcd_pos_of_pos_right _ (by omega)
    obtain ⟨X, hX⟩ : ∃ X, X = a.natAbs / Nat.gcd a.natAbs d.natAbs := ⟨_, rfl⟩
    obtain ⟨Y, hY⟩ : ∃ Y, Y = c.natAbs / Nat.gcd c.natAbs b.natAbs := ⟨_, rfl⟩
    obtain ⟨Q, hQ⟩ : ∃ Q, Q = b.natAbs / Nat.gcd c.natAbs b.natAbs := ⟨_, rfl⟩
    obtain ⟨R, hR⟩ : ∃ R, R = d.natAbs / Nat.gcd a.natAbs d.natAbs := ⟨_, rfl⟩
    have eX := quo_u64 _ _ X (by omega) hX
    have eY := quo_u64 _ _ Y (by omega) hY
    have eQ := quo_u64 _ _ Q (by omega) hQ
    have eR := quo_u64 _ _ R (by omega) hR
    have bX : X ≤ 1000000000000 := by rw [hX]; exact div_le_bd _ _ _ (by omega)
    have bY : Y ≤ 1000000000000 := by rw [hY]; exact div_le_bd _ _ _ (by omega)
    have bQ : Q ≤ 1000000 := by rw [hQ]; exact div_le_bd _ _ _ (by omega)
    have bR : R ≤ 1000000 := by rw [hR]; exact div_le_bd _ _ _ (by omega)
    have bXY := prod_le_bd _ _ _ _ bX bY
    have bQR := prod_le_bd _ _ _ _ bQ bR
    have HN := Lib.hid (show mulN a b c d = X * Y by unfold mulN; rw [hX, hY])
    have HD := Lib.hid (show mulD a b c d = Q * R by unfold mulD; rw [hQ, hR])
    have HC := Lib.hid (mul_cop a.natAbs b.natAbs c.natAbs d.natAbs (vld_gcd hv) (vld_gcd hk) (by omega) (by omega))
    rw [← hX, ← hY, ← hQ, ← hR] at HC
    clear hX hY hQ hR
    obtain ⟨N, hN⟩ : ∃ N, N = X * Y := ⟨_, rfl⟩
    obtain ⟨D, hD⟩ : ∃ D, D = Q * R := ⟨_, rfl⟩
    have eD : IntKind.u64.wrap ((Q : Int) * (R : Int)) = (D : Int) := by
      rw [show (Q : Int) * (R : Int) = (D : Int) by rw [hD]; simp]
      exact IntWalk.u64_in _ (by omega)
    rw [← hN] at bXY HN HC
    rw [← hD] at bQR HD HC
    have HF := Lib.hid (show mulT a b c d = cutT (decide (a < 0) != decide (c < 0)) N D by rw [H.out, HN.out, HD.out])
    clear hD H HN HD
    have g1 : ¬ b = 0 := by omega
    have g2 : ¬ d = 0 := by omega
    rcases (by omega : X = 0 ∨ (0 < X ∧ Y = 0) ∨ (0 < X ∧ 0 < Y)) with hx | ⟨hx, hy⟩ | ⟨hx, hy⟩
    · have hN0 : N = 0 := by rw [hN, hx, Nat.zero_mul]
      have hD1 : D = 1 := by have := HC.out; rw [hN0, Nat.gcd_zero_left] at this; exact this
      have HZ := Lib.hid (show mulT a b c d = (0, 1, 0) by rw [HF.out, hN0, hD1]; exact cut_zero _)
      rw [hx] at eX
      have eX0 : IntKind.u64.wrap ((a.natAbs : Int) / (Nat.gcd a.natAbs d.natAbs : Nat)) = 0 := by rw [eX]; rfl
      clear eX hN hN0 hD1 hx
      go_enter Tryd.func36, Tryd.ntmps36
      go_wp2_with fail
      refine (rvalid_any _ _ (by omega) (by omega) (by omega) (by omega) _).mono ?_
      rintro e w1 ⟨rfl, hw1⟩
      obtain ⟨hcw1, hfw1⟩ := bcell hw1
      have hB1 : Below w.heap.size w w1 := (boxed3 _ _ _ _).trans (hw1.mono (by simp <;> omega))
      have hz1 : w.heap.size + 2 < w1.heap.size := by have := hw1.size; simp at this; omega
      go_wp2_with fail
      refine (rvalid_any _ _ (by omega) (by omega) (by omega) (by omega) _).mono ?_
      rintro e w2 ⟨rfl, hw2⟩
      have hv2 := hw1.trans (hw2.mono hw1.size)
      obtain ⟨hcw2, hfw2⟩ := bcell hv2
      have hB2 : Below w.heap.size w w2 := hB1.trans (hw2.mono (by omega))
      have hz2 : w.heap.size + 2 < w2.heap.size := by have := hw2.size; omega
      clear hcw1 hfw1
      go_wp2_with fail
      go_quiet (first | (go_at_call 32; first | exact quiet_left (size_any _ (by omega) (by omega) _) | exact quiet_add_left (size_any _ (by omega) (by omega) _)) | (go_at_call 33; first | exact quiet_more (com_any _ _ (by omega) (by omega) _) | exact quiet_add (com_any _ _ (by omega) (by omega) _)))
      go_wp2_with fail
      go_quiet ((go_at_call 32; first | exact quiet_left (size_any _ (by omega) (by omega) _) | exact quiet_add_left (size_any _ (by omega) (by omega) _)))
      go_wp2_with fail
      go_quiet ((go_at_call 32; first | exact quiet_left (size_any _ (by omega) (by omega) _) | exact quiet_add_left (size_any _ (by omega) (by omega) _)))
      go_wp2
      refine bodyPost_ret (v := retT (mulT a b c d)) (by rw [HZ.out]; simp [results, Tryd.results36, go_sem, hcw2, retT]) rfl ⟨rfl, ?_⟩
      repeat (first | exact Below.refl _ _ | assumption | refine below_drewN ?_ _ | refine Below.setCell ?_ (by simp <;> omega) _ | refine Below.alloc ?_ (by simp <;> omega) _)
    · have hN0 : N = 0 := by rw [hN, hy, Nat.mul_zero]
      have hD1 : D = 1 := by have := HC.out; rw [hN0, Nat.gcd_zero_left] at this; exact this
      have HZ := Lib.hid (show mulT a b c d = (0, 1, 0) by rw [HF.out, hN0, hD1]; exact cut_zero _)
      rw [hy] at eY
      have eY0 : IntKind.u64.wrap ((c.natAbs : Int) / (Nat.gcd c.natAbs b.natAbs : Nat)) = 0 := by rw [eY]; rfl
      have hx0 : ((X : Int) == 0) = false := by simp; omega
      clear eY hN hN0 hD1 hy
      go_enter Tryd.func36, Tryd.ntmps36
      go_wp2_with fail
      refine (rvalid_any _ _ (by omega) (by omega) (by omega) (by omega) _).mono ?_
      rintro e w1 ⟨rfl, hw1⟩
      obtain ⟨hcw1, hfw1⟩ := bcell hw1
      have hB1 : Below w.heap.size w w1 := (boxed3 _ _ _ _).trans (hw1.mono (by simp <;> omega))
      have hz1 : w.heap.size + 2 < w1.heap.size := by have := hw1.size; simp at this; omega
      go_wp2_with fail
      refine (rvalid_any _ _ (by omega) (by omega) (by omega) (by omega) _).mono ?_
      rintro e w2 ⟨rfl, hw2⟩
      have hv2 := hw1.trans (hw2.mono hw1.size)
      obtain ⟨hcw2, hfw2⟩ := bcell hv2
      have hB2 : Below w.heap.size w w2 := hB1.trans (hw2.mono (by omega))
      have hz2 : w.heap.size + 2 < w2.heap.size := by have := hw2.size; omega
      clear hcw1 hfw1
      go_wp2_with fail
      go_quiet (first | (go_at_call 32; first | exact quiet_left (size_any _ (by omega) (by omega) _) | exact quiet_add_left (size_any _ (by omega) (by omega) _)) | (go_at_call 33; first | exact quiet_more (com_any _ _ (by omega) (by omega) _) | exact quiet_add (com_any _ _ (by omega) (by omega) _)))
      go_wp2_with fail
      go_quiet ((go_at_call 32; first | exact quiet_left (size_any _ (by omega) (by omega) _) | exact quiet_add_left (size_any _ (by omega) (by omega) _)))
      go_wp2_with fail
      go_quiet ((go_at_call 32; first | exact quiet_left (size_any _ (by omega) (by omega) _) | exact quiet_add_left (size_any _ (by omega) (by omega) _)))
      go_wp2
      refine bodyPost_ret (v := retT (mulT a b c d)) (by rw [HZ.out]; simp [results, Tryd.results36, go_sem, hcw2, retT]) rfl ⟨rfl, ?_⟩
      repeat (first | exact Below.refl _ _ | assumption | refine below_drewN ?_ _ | refine Below.setCell ?_ (by simp <;> omega) _ | refine Below.alloc ?_ (by simp <;> omega) _)
    · have hx0 : ((X : Int) == 0) = false := by simp; omega
      have hy0 : ((Y : Int) == 0) = false := by simp; omega
      have hx1 : ¬ X = 0 := by omega
      obtain ⟨M, hM⟩ : ∃ M, 1000000000000 / X = M := ⟨_, rfl⟩
      have bM : M ≤ 1000000000000 := by rw [← hM]; exact Nat.div_le_self _ _
      have eM : (1000000000000 : Int) / (X : Int) = (M : Int) := by rw [← hM]; simp
      have bg := Lib.hid (big_of_quo X Y M hx hM)
      have sm := Lib.hid (small_of_quo X Y M hx hM)
      rcases (by omega : M < Y ∨ (Y ≤ M ∧ 1000000 < D) ∨ (Y ≤ M ∧ D ≤ 1000000)) with h1 | ⟨h1, h2⟩ | ⟨h1, h2⟩
      · have HZ := Lib.hid (show mulT a b c d = (0, 0, 4) by rw [HF.out]; exact cutT_big _ _ _ (by have := bg.out h1; rw [← hN] at this; omega))
        clear hM hN
        go_enter Tryd.func36, Tryd.ntmps36
        go_wp2_with fail
        refine (rvalid_any _ _ (by omega) (by omega) (by omega) (by omega) _).mono ?_
        rintro e w1 ⟨rfl, hw1⟩
        obtain ⟨hcw1, hfw1⟩ := bcell hw1
        have hB1 : Below w.heap.size w w1 := (boxed3 _ _ _ _).trans (hw1.mono (by simp <;> omega))
        have hz1 : w.heap.size + 2 < w1.heap.size := by have := hw1.size; simp at this; omega
        go_wp2_with fail
        refine (rvalid_any _ _ (by omega) (by omega) (by omega) (by omega) _).mono ?_
        rintro e w2 ⟨rfl, hw2⟩
        have hv2 := hw1.trans (hw2.mono hw1.size)
        obtain ⟨hcw2, hfw2⟩ := bcell hv2
        have hB2 : Below w.heap.size w w2 := hB1.trans (hw2.mono (by omega))
        have hz2 : w.heap.size + 2 < w2.heap.size := by have := hw2.size; omega
        clear hcw1 hfw1
        go_wp2_with fail
        go_quiet (first | (go_at_call 32; first | exact quiet_left (size_any _ (by omega) (by omega) _) | exact quiet_add_left (size_any _ (by omega) (by omega) _)) | (go_at_call 33; first | exact quiet_more (com_any _ _ (by omega) (by omega) _) | exact quiet_add (com_any _ _ (by omega) (by omega) _)))
        go_wp2_with fail
        go_quiet ((go_at_call 32; first | exact quiet_left (size_any _ (by omega) (by omega) _) | exact quiet_add_left (size_any _ (by omega) (by omega) _)))
        go_wp2_with fail
        go_quiet ((go_at_call 32; first | exact quiet_left (size_any _ (by omega) (by omega) _) | exact quiet_add_left (size_any _ (by omega) (by omega) _)))
        go_wp2
        refine bodyPost_ret (v := retT (mulT a b c d)) (by rw [HZ.out]; simp [results, Tryd.results36, go_sem, hcw2, retT]) rfl ⟨rfl, ?_⟩
        repeat (first | exact Below.refl _ _ | assumption | refine below_drewN ?_ _ | refine Below.setCell ?_ (by simp <;> omega) _ | refine Below.alloc ?_ (by simp <;> omega) _)
      · have HZ := Lib.hid (show mulT a b c d = (0, 0, 4) by rw [HF.out]; exact cutT_big _ _ _ (by omega))
        clear hM hN
        go_enter Tryd.func36, Tryd.ntmps36
        go_wp2_with fail
        refine (rvalid_any _ _ (by omega) (by omega) (by omega) (by omega) _).mono ?_
        rintro e w1 ⟨rfl, hw1⟩
        obtain ⟨hcw1, hfw1⟩ := bcell hw1
        have hB1 : Below w.heap.size w w1 := (boxed3 _ _ _ _).trans (hw1.mono (by simp <;> omega))
        have hz1 : w.heap.size + 2 < w1.heap.size := by have := hw1.size; simp at this; omega
        go_wp2_with fail
        refine (rvalid_any _ _ (by omega) (by omega) (by omega) (by omega) _).mono ?_
        rintro e w2 ⟨rfl, hw2⟩
        have hv2 := hw1.trans (hw2.mono hw1.size)
        obtain ⟨hcw2, hfw2⟩ := bcell hv2
        have hB2 : Below w.heap.size w w2 := hB1.trans (hw2.mono (by omega))
        have hz2 : w.heap.size + 2 < w2.heap.size := by have := hw2.size; omega
        clear hcw1 hfw1
        go_wp2_with fail
        go_quiet (first | (go_at_call 32; first | exact quiet_left (size_any _ (by omega) (by omega) _) | exact quiet_add_left (size_any _ (by omega) (by omega) _)) | (go_at_call 33; first | exact quiet_more (com_any _ _ (by omega) (by omega) _) | exact quiet_add (com_any _ _ (by omega) (by omega) _)))
        go_wp2_with fail
        go_quiet ((go_at_call 32; first | exact quiet_left (size_any _ (by omega) (by omega) _) | exact quiet_add_left (size_any _ (by omega) (by omega) _)))
        go_wp2_with fail
        go_quiet ((go_at_call 32; first | exact quiet_left (size_any _ (by omega) (by omega) _) | exact quiet_add_left (size_any _ (by omega) (by omega) _)))
        go_wp2
        refine bodyPost_ret (v := retT (mulT a b c d)) (by rw [HZ.out]; simp [results, Tryd.results36, go_sem, hcw2, retT]) rfl ⟨rfl, ?_⟩
        repeat (first | exact Below.refl _ _ | assumption | refine below_drewN ?_ _ | refine Below.setCell ?_ (by simp <;> omega) _ | refine Below.alloc ?_ (by simp <;> omega) _)
      · have bN : N ≤ 1000000000000 := by have := sm.out (by omega); rw [← hN] at this; exact this
        have eN : (X : Int) * (Y : Int) = (N : Int) := by rw [hN]; simp
        have HZ := Lib.hid (show mulT a b c d = (if (decide (a < 0) != decide (c < 0)) then -(N : Int) else (N : Int), (D : Int), 0) by rw [HF.out]; exact cutT_ok _ _ _ (by omega) (by omega))
        clear hM hN
        cases sa : decide (a < 0) <;> cases sc : decide (c < 0)
        all_goals
          go_enter Tryd.func36, Tryd.ntmps36
          go_wp2_with fail
          refine (rvalid_any _ _ (by omega) (by omega) (by omega) (by omega) _).mono ?_
          rintro e w1 ⟨rfl, hw1⟩
          obtain ⟨hcw1, hfw1⟩ := bcell hw1
          have hB1 : Below w.heap.size w w1 := (boxed3 _ _ _ _).trans (hw1.mono (by simp <;> omega))
          have hz1 : w.heap.size + 2 < w1.heap.size := by have := hw1.size; simp at this; omega
          go_wp2_with fail
          refine (rvalid_any _ _ (by omega) (by omega) (by omega) (by omega) _).mono ?_
          rintro e w2 ⟨rfl, hw2⟩
          have hv2 := hw1.trans (hw2.mono hw1.size)
          obtain ⟨hcw2, hfw2⟩ := bcell hv2
          have hB2 : Below w.heap.size w w2 := hB1.trans (hw2.mono (by omega))
          have hz2 : w.heap.size + 2 < w2.heap.size := by have := hw2.size; omega
          clear hcw1 hfw1
          go_wp2_with fail
          go_quiet (first | (go_at_call 32; first | exact quiet_left (size_any _ (by omega) (by omega) _) | exact quiet_add_left (size_any _ (by omega) (by omega) _)) | (go_at_call 33; first | exact quiet_more (com_any _ _ (by omega) (by omega) _) | exact quiet_add (com_any _ _ (by omega) (by omega) _)))
          generalize nq = n1
          go_wp2_with fail
          go_quiet ((go_at_call 32; first | exact quiet_left (size_any _ (by omega) (by omega) _) | exact quiet_add_left (size_any _ (by omega) (by omega) _)))
          generalize nq = n2
          go_wp2_with fail
          go_quiet ((go_at_call 32; first | exact quiet_left (size_any _ (by omega) (by omega) _) | exact quiet_add_left (size_any _ (by omega) (by omega) _)))
          generalize nq = n3
          try simp only [World.drewN_drewN]
          have hbW := below_drewN hv2 (n1 + n2 + n3)
          have hBW := below_drewN hB2 (n1 + n2 + n3)
          have hzW : w.heap.size + 2 < (w2.drewN (n1 + n2 + n3)).heap.size := hz2
          generalize w2.drewN (n1 + n2 + n3) = W at *
          obtain ⟨hcW, hfW⟩ := bcell hbW
          have hzW0 : w.heap.size < W.heap.size := by omega
          have hzW1 : w.heap.size + 1 < W.heap.size := by omega
          have hzW2 : w.heap.size + 1 + 1 < W.heap.size := by omega
          clear hcw2 hfw2
          go_wp2
          refine bodyPost_ret (v := retT (mulT a b c d)) (by rw [HZ.out]; simp [results, Tryd.results36, go_sem, hcW, hzW2, retT, sa, sc]) rfl ⟨rfl, ?_⟩
          repeat (first | exact Below.refl _ _ | assumption | refine below_drewN ?_ _ | refine Below.setCell ?_ (by simp <;> omega) _ | refine Below.alloc ?_ (by simp <;> omega) _)
end Go.Proofs.YtpdkmmiedkkpeaaDoor
