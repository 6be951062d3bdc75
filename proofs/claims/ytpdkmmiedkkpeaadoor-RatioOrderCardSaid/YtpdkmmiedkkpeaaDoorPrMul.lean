/-
  Layer 1 (ratio): the contracts of Mul and of the reference's Mul. Conditions: the parts of the fractions fit their kinds.
-/
import Derived.Test.YtpdkmmiedkkpeaaDoorPrAr
import Derived.Test.YtpdkmmiedkkpeaaDoorShelf
import Derived.Deep.RegionWith
import Derived.Deep.RegionHeld3
namespace Go.Proofs.YtpdkmmiedkkpeaaDoor
open Go Go.RowKit Go.Lib

/-- The terms of a product in lowest terms. -/
def mulN (a b c d : Int) : Nat := (a.natAbs / Nat.gcd a.natAbs d.natAbs) * (c.natAbs / Nat.gcd c.natAbs b.natAbs)
def mulD (a b c d : Int) : Nat := (b.natAbs / Nat.gcd c.natAbs b.natAbs) * (d.natAbs / Nat.gcd a.natAbs d.natAbs)
def mulT (a b c d : Int) : Int × Int × Int := if vldB a b && vldB c d then cutT (decide (a < 0) != decide (c < 0)) (mulN a b c d) (mulD a b c d) else (0, 0, 1)
theorem mul_cop (x p y q : Nat) (h1 : Nat.gcd x p = 1) (h2 : Nat.gcd y q = 1) (hp : 0 < p) (hq : 0 < q) :
    Nat.gcd ((x / Nat.gcd x q) * (y / Nat.gcd y p)) ((p / Nat.gcd y p) * (q / Nat.gcd x q)) = 1 := by
  have f : 0 < Nat.gcd x q := Nat.gcd_pos_of_pos_right _ hq
  have s : 0 < Nat.gcd y p := Nat.gcd_pos_of_pos_right _ hp
  have c1 : Nat.Coprime (x / Nat.gcd x q) (q / Nat.gcd x q) := Nat.coprime_div_gcd_div_gcd f
  have c2 : Nat.Coprime (y / Nat.gcd y p) (p / Nat.gcd y p) := Nat.coprime_div_gcd_div_gcd s
  have c3 : Nat.Coprime (x / Nat.gcd x q) (p / Nat.gcd y p) :=
    (Nat.Coprime.coprime_div_left (show Nat.Coprime x p from h1) (Nat.gcd_dvd_left _ _)).coprime_div_right (Nat.gcd_dvd_right _ _)
  have c4 : Nat.Coprime (y / Nat.gcd y p) (q / Nat.gcd x q) :=
    (Nat.Coprime.coprime_div_left (show Nat.Coprime y q from h2) (Nat.gcd_dvd_left _ _)).coprime_div_right (Nat.gcd_dvd_right _ _)
  exact Nat.Coprime.mul_left (Nat.Coprime.mul_right c3 c1) (Nat.Coprime.mul_right c2 c4)
theorem fit_cop (neg : Bool) (n d : Nat) (h : Nat.gcd n d = 1) : fitT neg n d = cutT neg n d := by unfold fitT; rw [h, Nat.div_one, Nat.div_one]
theorem div_le_bd (n g B : Nat) (h : n ≤ B) : n / g ≤ B := Nat.le_trans (Nat.div_le_self _ _) h
theorem prod_le_bd (m n A B : Nat) (h : m ≤ A) (k : n ≤ B) : m * n ≤ A * B := Nat.mul_le_mul h k
theorem quiet_add_left {P : Program} {f : FuncId} {args : Array Value} {w : World} {a n : Nat} {v : Value}
    (h : Calls P f args (w.drewN (a + n)) fun e w' => e = .returned v ∧ w.drewN (a + n) = w') :
    Calls P f args (w.drewN (a + n)) fun e w'' => e = .returned v ∧ ∃ m, w'' = w.drewN (a + m) :=
  h.mono fun _ _ ⟨he, hm⟩ => ⟨he, n, hm.symm⟩
theorem quiet_add {P : Program} {f : FuncId} {args : Array Value} {w : World} {a n : Nat} {v : Value}
    (h : Calls P f args (w.drewN (a + n)) fun e w' => e = .returned v ∧ ∃ m, w' = (w.drewN (a + n)).drewN m) :
    Calls P f args (w.drewN (a + n)) fun e w'' => e = .returned v ∧ ∃ m, w'' = w.drewN (a + m) :=
  h.mono fun _ _ ⟨he, m, hm⟩ => ⟨he, n + m, by rw [hm, World.drewN_drewN, Nat.add_assoc]⟩
theorem far2 {w : World} {p : Nat} {o1 o2 q o : Nat} {u v : Value} (h : p ≠ q) : ((w.setCell ⟨p, o1, none⟩ u).setCell ⟨p, o2, none⟩ v).cell? ⟨q, o, none⟩ = w.cell? ⟨q, o, none⟩ := by
  exact (World.cell?_setCell_far _ ⟨p, o2, none⟩ ⟨q, o, none⟩ v h).trans (World.cell?_setCell_far _ ⟨p, o1, none⟩ ⟨q, o, none⟩ u h)
theorem mul64_at (x y hi lo : Nat) (hx : (x : Int) ≤ 18446744073709551615) (hy : (y : Int) ≤ 18446744073709551615) (h1 : RowKit.Hid (x * y / 18446744073709551616 = hi)) (h2 : RowKit.Hid (x * y % 18446744073709551616 = lo)) (w : World) :
    Calls Tryd.prog 49 #[.int .u64 x, .int .u64 y] w fun e w' => e = .returned (.tuple #[.int .u64 hi, .int .u64 lo]) ∧ w = w' := by
  have := Tryd.bits_Mul64 x y (by omega) (by omega) w
  rw [h1.out, h2.out] at this
  exact this.mono fun _ _ ⟨a, b⟩ => ⟨a, b.symm⟩

set_option maxRecDepth 100000 in
set_option maxHeartbeats 4000000 in
theorem mul_any (a b c d : Int) (ha0 : -9223372036854775808 ≤ a) (ha1 : a ≤ 9223372036854775807) (hb0 : -9223372036854775808 ≤ b) (hb1 : b ≤ 9223372036854775807) (hc0 : -9223372036854775808 ≤ c) (hc1 : c ≤ 9223372036854775807) (hd0 : -9223372036854775808 ≤ d) (hd1 : d ≤ 9223372036854775807) (w : World) :
    Calls Tryd.prog 25 #[.agg #[.int .i64 a, .int .i64 b], .agg #[.int .i64 c, .int .i64 d]] w fun e w' => e = .returned (.tuple #[.agg #[.int .i64 (mulT a b c d).1, .int .i64 (mulT a b c d).2.1], .int .i64 (mulT a b c d).2.2]) ∧ Below w.heap.size w w' := by
  rcases two_cases (vldB a b) (vldB c d) with hv | ⟨hv, hk⟩ | ⟨hv, hk⟩
  · have H := Lib.hid (show mulT a b c d = (0, 0, 1) by unfold mulT; rw [hv]; rfl)
    go_enter Tryd.func25, Tryd.ntmps25
    go_wp2_with fail
    refine (valid_any _ _ (by omega) (by omega) (by omega) (by omega) _).mono ?_
    rintro e w1 ⟨rfl, hw1⟩
    obtain ⟨hcw1, hfw1⟩ := bcell hw1
    have hB1 : Below w.heap.size w w1 := (boxed3 _ _ _ _).trans (hw1.mono (by simp <;> omega))
    have hz1 : w.heap.size + 2 < w1.heap.size := by have := hw1.size; simp at this; omega
    go_wp2_with fail
    refine bodyPost_ret (v := retT (mulT a b c d)) (by rw [H.out]; simp [results, Tryd.results25, go_sem, hcw1, retT]) rfl ⟨rfl, ?_⟩
    repeat (first | exact Below.refl _ _ | assumption | refine below_drewN ?_ _ | refine Below.setCell ?_ (by simp <;> omega) _ | refine Below.alloc ?_ (by simp <;> omega) _)
  · have H := Lib.hid (show mulT a b c d = (0, 0, 1) by unfold mulT; rw [hv, hk]; rfl)
    go_enter Tryd.func25, Tryd.ntmps25
    go_wp2_with fail
    refine (valid_any _ _ (by omega) (by omega) (by omega) (by omega) _).mono ?_
    rintro e w1 ⟨rfl, hw1⟩
    obtain ⟨hcw1, hfw1⟩ := bcell hw1
    have hB1 : Below w.heap.size w w1 := (boxed3 _ _ _ _).trans (hw1.mono (by simp <;> omega))
    have hz1 : w.heap.size + 2 < w1.heap.size := by have := hw1.size; simp at this; omega
    go_wp2_with fail
    refine (valid_any _ _ (by omega) (by omega) (by omega) (by omega) _).mono ?_
    rintro e w2 ⟨rfl, hw2⟩
    have hv2 := hw1.trans (hw2.mono hw1.size)
    obtain ⟨hcw2, hfw2⟩ := bcell hv2
    have hB2 : Below w.heap.size w w2 := hB1.trans (hw2.mono (by omega))
    have hz2 : w.heap.size + 2 < w2.heap.size := by have := hw2.size; omega
    clear hcw1 hfw1
    go_wp2_with fail
    refine bodyPost_ret (v := retT (mulT a b c d)) (by rw [H.out]; simp [results, Tryd.results25, go_sem, hcw2, retT]) rfl ⟨rfl, ?_⟩
    repeat (first | exact Below.refl _ _ | assumption | refine below_drewN ?_ _ | refine Below.setCell ?_ (by simp <;> omega) _ | refine Below.alloc ?_ (by simp <;> omega) _)
  · obtain ⟨p7, p8, p9, p10⟩ := vld_bd hv
    obtain ⟨q7, q8, q9, q10⟩ := vld_bd hk
    have H := Lib.hid (show mulT a b c d = cutT (decide (a < 0) != decide (c < 0)) (mulN a b c d) (mulD a b c d) by unfold mulT; rw [hv, hk]; rfl)
    have hfp : 1 ≤ Nat.gcd a.natAbs d.natAbs := Nat.gcd_pos_of_pos_right _ (by omega)
    have hsp : 1 ≤ Nat.gcd c.natAbs b.natAbs := Nat.gcd_pos_of_pos_right _ (by omega)
    obtain ⟨X, hX⟩ : ∃ X, X = a.natAbs / Nat.gcd a.natAbs d.natAbs := ⟨_, rfl⟩
    obtain ⟨Y, hY⟩ : ∃ Y, Y = c.natAbs / Nat.gcd c.natAbs b.natAbs := ⟨_, rfl⟩
    obtain ⟨Q, hQ⟩ : ∃ Q, Q = b.natAbs / Nat.gcd c.natAbs b.natAbs := ⟨_, rfl⟩
    obtain ⟨R, hR⟩ : ∃ R, R = d.natAbs / Nat.gcd a.natAbs d.natAbs := ⟨_, rfl⟩
    have eX := quo_u64 _ _ X (by omega) hX
    have eY := quo_u64 _ _ Y (by omega) hY
    have eQ := quo_u64 _ _ Q (by omega) hQ
    have eR := quo_u64 _ _ R (by omega) hR
    have bX : X ≤ 1000000000000 := by rw [hX]; exact div_le_bd _ _ _ (by omega)
    have bY : Y ≤ 1000000000000 := by rw [hY]; exact div_le_bd _ _ _ (by omega)
    have bQ : Q ≤ 1000000 := by rw [hQ]; exact div_le_bd _ _ _ (by omega)
    have bR : R ≤ 1000000 := by rw [hR]; exact div_le_bd _ _ _ (by omega)
    have bXY := prod_le_bd _ _ _ _ bX bY
    have bQR := prod_le_bd _ _ _ _ bQ bR
    have HN := Lib.hid (show mulN a b c d = X * Y by unfold mulN; rw [hX, hY])
    have HD := Lib.hid (show mulD a b c d = Q * R by unfold mulD; rw [hQ, hR])
    have HC := Lib.hid (mul_cop a.natAbs b.natAbs c.natAbs d.natAbs (vld_gcd hv) (vld_gcd hk) (by omega) (by omega))
    rw [← hX, ← hY, ← hQ, ← hR] at HC
    have HQ := Lib.hid (show 0 < Q by rw [hQ]; exact Nat.div_pos (Nat.le_of_dvd (by omega) (Nat.gcd_dvd_right _ _)) (by omega))
    have HR := Lib.hid (show 0 < R by rw [hR]; exact Nat.div_pos (Nat.le_of_dvd (by omega) (Nat.gcd_dvd_right _ _)) (by omega))
    clear hX hY hQ hR
    obtain ⟨N, hN⟩ : ∃ N, N = X * Y := ⟨_, rfl⟩
    obtain ⟨D, hD⟩ : ∃ D, D = Q * R := ⟨_, rfl⟩
    have hD1 : 1 ≤ D := by
      have : D ≠ 0 := by
        intro h0
        have h1 := HC.out
        rw [← hD, h0, Nat.gcd_zero_right, ← hN] at h1
        have h2 : 0 < Q := by have := HQ.out; omega
        have h3 : 0 < R := by have := HR.out; omega
        have := Nat.mul_pos h2 h3
        omega
      omega
    have eD : IntKind.u64.wrap ((Q : Int) * (R : Int)) = (D : Int) := by
      rw [show (Q : Int) * (R : Int) = (D : Int) by rw [hD]; simp]
      exact IntWalk.u64_in _ (by omega)
    rw [← hN] at bXY HN HC
    rw [← hD] at bQR HD HC
    have HF := Lib.hid (show mulT a b c d = cutT (decide (a < 0) != decide (c < 0)) N D by rw [H.out, HN.out, HD.out])
    clear hD H HN HD
    by_cases hbig : N < 18446744073709551616
    · have H1 := Lib.hid (show X * Y / 18446744073709551616 = 0 by omega)
      have H2 := Lib.hid (show X * Y % 18446744073709551616 = N by omega)
      clear hN
      cases sa : decide (a < 0) <;> cases sc : decide (c < 0)
      all_goals
        go_enter Tryd.func25, Tryd.ntmps25
        go_wp2_with fail
        refine (valid_any _ _ (by omega) (by omega) (by omega) (by omega) _).mono ?_
        rintro e w1 ⟨rfl, hw1⟩
        obtain ⟨hcw1, hfw1⟩ := bcell hw1
        have hB1 : Below w.heap.size w w1 := (boxed3 _ _ _ _).trans (hw1.mono (by simp <;> omega))
        have hz1 : w.heap.size + 2 < w1.heap.size := by have := hw1.size; simp at this; omega
        go_wp2_with fail
        refine (valid_any _ _ (by omega) (by omega) (by omega) (by omega) _).mono ?_
        rintro e w2 ⟨rfl, hw2⟩
        have hv2 := hw1.trans (hw2.mono hw1.size)
        obtain ⟨hcw2, hfw2⟩ := bcell hv2
        have hB2 : Below w.heap.size w w2 := hB1.trans (hw2.mono (by omega))
        have hz2 : w.heap.size + 2 < w2.heap.size := by have := hw2.size; omega
        clear hcw1 hfw1
        go_wp2_with fail
        go_quiet ((go_at_call 31; first | exact quiet_left (mag_any _ (by omega) (by omega) _) | exact quiet_add_left (mag_any _ (by omega) (by omega) _)))
        go_wp2_with fail
        go_quiet ((go_at_call 31; first | exact quiet_left (mag_any _ (by omega) (by omega) _) | exact quiet_add_left (mag_any _ (by omega) (by omega) _)))
        go_wp2_with (go_at_call 48; refine (div_any _ _ (by omega) (by omega) _).mono ?_; rintro e w' ⟨rfl, rfl⟩)
        go_quiet ((go_at_call 49; first | exact quiet_left (mul64_at _ _ _ _ (by omega) (by omega) H1 H2 _) | exact quiet_add_left (mul64_at _ _ _ _ (by omega) (by omega) H1 H2 _)))
        go_wp2_with fail
        have x1 : w2.cell? ⟨w.heap.size, 0, none⟩ = some (.int .i64 a) := (hcw2 _ _ (by simp <;> omega)).trans (by go_simp)
        have x2 : w2.cell? ⟨w.heap.size + 1, 0, none⟩ = some (.int .i64 c) := (hcw2 _ _ (by simp <;> omega)).trans (by go_simp)
        have g1 : ¬ b = 0 := by omega
        have g2 : ¬ d = 0 := by omega
        go_region_held3 (fun w' => w'.cell? ⟨w.heap.size, 0, none⟩ = some (.int .i64 a) ∧ w'.cell? ⟨w.heap.size + 1, 0, none⟩ = some (.int .i64 c)) (first | exact ⟨x1, x2⟩ | exact ⟨y1, y2⟩ | exact ⟨(far2 (by omega)).trans y1, (far2 (by omega)).trans y2⟩)
          (first | (go_at_call 30; refine (fit_any _ _ _ (by omega) (by omega) hD1 _).mono ?_; rintro e w3 ⟨rfl, hw3⟩; (have hv3 := hv2.trans (c := w3) ⟨hw3.os, hw3.tape, hw3.output, hw3.size, fun k hk => hw3.block k (Nat.lt_of_lt_of_le hk hv2.size)⟩); (obtain ⟨hcw3, hfw3⟩ := bcell hv3); (have y1 : w3.cell? ⟨w.heap.size, 0, none⟩ = some (.int .i64 a) := (hcw3 _ _ (by simp <;> omega)).trans (by go_simp)); (have y2 : w3.cell? ⟨w.heap.size + 1, 0, none⟩ = some (.int .i64 c) := (hcw3 _ _ (by simp <;> omega)).trans (by go_simp))))
        go_wp2
        have HB : Below w.heap.size w w3 := hB2.trans (c := w3) ⟨hw3.os, hw3.tape, hw3.output, hw3.size, fun k hk => hw3.block k (Nat.lt_of_lt_of_le hk hB2.size)⟩
        refine bodyPost_ret (v := retT (mulT a b c d)) (by rw [HF.out, ← fit_cop _ _ _ HC.out]; simp [results, Tryd.results25, go_sem, hcw3, retT, sa, sc]) rfl ⟨rfl, ?_⟩
        repeat (first | exact Below.refl _ _ | assumption | refine below_drewN ?_ _ | refine Below.setCell ?_ (by simp <;> omega) _ | refine Below.alloc ?_ (by simp <;> omega) _)
    · obtain ⟨hi, ehi⟩ : ∃ hi, X * Y / 18446744073709551616 = hi := ⟨_, rfl⟩
      obtain ⟨lo, elo⟩ : ∃ lo, X * Y % 18446744073709551616 = lo := ⟨_, rfl⟩
      have hh : 1 ≤ hi := by omega
      have H1 := Lib.hid ehi
      have H2 := Lib.hid elo
      clear ehi elo hN
      go_enter Tryd.func25, Tryd.ntmps25
      go_wp2_with fail
      refine (valid_any _ _ (by omega) (by omega) (by omega) (by omega) _).mono ?_
      rintro e w1 ⟨rfl, hw1⟩
      obtain ⟨hcw1, hfw1⟩ := bcell hw1
      have hB1 : Below w.heap.size w w1 := (boxed3 _ _ _ _).trans (hw1.mono (by simp <;> omega))
      have hz1 : w.heap.size + 2 < w1.heap.size := by have := hw1.size; simp at this; omega
      go_wp2_with fail
      refine (valid_any _ _ (by omega) (by omega) (by omega) (by omega) _).mono ?_
      rintro e w2 ⟨rfl, hw2⟩
      have hv2 := hw1.trans (hw2.mono hw1.size)
      obtain ⟨hcw2, hfw2⟩ := bcell hv2
      have hB2 : Below w.heap.size w w2 := hB1.trans (hw2.mono (by omega))
      have hz2 : w.heap.size + 2 < w2.heap.size := by have := hw2.size; omega
      clear hcw1 hfw1
      go_wp2_with fail
      go_quiet ((go_at_call 31; first | exact quiet_left (mag_any _ (by omega) (by omega) _) | exact quiet_add_left (mag_any _ (by omega) (by omega) _)))
      go_wp2_with fail
      go_quiet ((go_at_call 31; first | exact quiet_left (mag_any _ (by omega) (by omega) _) | exact quiet_add_left (mag_any _ (by omega) (by omega) _)))
      go_wp2_with (go_at_call 48; refine (div_any _ _ (by omega) (by omega) _).mono ?_; rintro e w' ⟨rfl, rfl⟩)
      go_quiet ((go_at_call 49; first | exact quiet_left (mul64_at _ _ _ _ (by omega) (by omega) H1 H2 _) | exact quiet_add_left (mul64_at _ _ _ _ (by omega) (by omega) H1 H2 _)))
      go_wp2_with fail
      refine bodyPost_ret (v := retT (mulT a b c d)) (by rw [HF.out, cutT_big _ _ _ (by omega)]; simp [results, Tryd.results25, go_sem, hcw2, retT]) rfl ⟨rfl, ?_⟩
      repeat (first | exact Below.refl _ _ | assumption | refine below_drewN ?_ _ | refine Below.setCell ?_ (by simp <;> omega) _ | refine Below.alloc ?_ (by simp <;> omega) _)
end Go.Proofs.YtpdkmmiedkkpeaaDoor
