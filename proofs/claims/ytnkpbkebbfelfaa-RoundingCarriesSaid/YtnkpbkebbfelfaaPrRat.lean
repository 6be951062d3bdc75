/-
  Layer 1 (ratio): what the operations compute, as rational numbers. Plain mathematics; no condition.
-/
import Derived.Test.YtnkpbkebbfelfaaPrMul
import Derived.Test.YtnkpbkebbfelfaaPrAs
namespace Go.Proofs.Ytnkpbkebbfelfaa
open Go Go.RowKit Go.Lib

/-- The fraction of a rational number, or the error. -/
def outT (q : Rat) : Int × Int × Int := if q.num.natAbs ≤ 1000000000000 ∧ q.den ≤ 1000000 then (q.num, (q.den : Int), 0) else (0, 0, 4)

theorem newT_gcd (n d : Int) (m : Nat) (x y : Nat) (hm : 0 < m) (hn : n.natAbs = x * m) (hd : d.natAbs = y * m) (hy : 0 < y) (hc : Nat.gcd x y = 1) : newT n d = cutT (decide (n < 0) != decide (d < 0)) x y := by
  have hd0 : d ≠ 0 := by
    intro h; rw [h] at hd
    have := Nat.mul_pos hy hm
    simp at hd; omega
  rw [newT_fit n d _ _ hd0 rfl rfl]
  unfold fitT
  rw [hn, hd, Nat.gcd_mul_right, hc, Nat.one_mul, Nat.mul_div_cancel _ hm, Nat.mul_div_cancel _ hm]

theorem cut_out (q : Rat) (s : Bool) (h : q.num = if s then -(q.num.natAbs : Int) else (q.num.natAbs : Int)) : cutT s q.num.natAbs q.den = outT q := by
  unfold outT
  by_cases hs : q.num.natAbs ≤ 1000000000000 ∧ q.den ≤ 1000000
  · rw [if_pos hs, cutT_ok _ _ _ (by omega) (by omega), ← h]
  · rw [if_neg hs, cutT_big _ _ _ (by omega)]

theorem newT_out (n d : Int) (hd : d ≠ 0) : newT n d = outT (Rat.divInt n d) := by
  obtain ⟨q, hq⟩ : ∃ q, q = Rat.divInt n d := ⟨_, rfl⟩
  obtain ⟨m, hm, e1, e2⟩ := Rat.divInt_num_den (n' := q.num) (d' := q.den) (z' := q.den_nz) (c := q.reduced) hd (by rw [← hq])
  rw [← hq]
  have hy : 0 < q.den := Nat.pos_of_ne_zero q.den_nz
  rw [newT_gcd n d m.natAbs q.num.natAbs q.den (by omega) (by rw [e1, Int.natAbs_mul]) (by rw [e2, Int.natAbs_mul, Int.natAbs_natCast]) hy q.reduced]
  refine cut_out q _ ?_
  have hdy : (0 : Int) < (q.den : Int) := by omega
  rcases Int.lt_trichotomy m 0 with h | h | h
  · have hd2 : d < 0 := by rw [e2]; exact Int.mul_neg_of_pos_of_neg hdy h
    rcases Int.lt_trichotomy q.num 0 with k | k | k
    · have hn2 : 0 < n := by rw [e1]; exact Int.mul_pos_of_neg_of_neg k h
      rw [decide_eq_false (by omega), decide_eq_true hd2]; simp; omega
    · rw [k]; simp
    · have hn2 : n < 0 := by rw [e1]; exact Int.mul_neg_of_pos_of_neg k h
      rw [decide_eq_true hn2, decide_eq_true hd2]; simp; omega
  · exact absurd h hm
  · have hd2 : 0 < d := by rw [e2]; exact Int.mul_pos hdy h
    rcases Int.lt_trichotomy q.num 0 with k | k | k
    · have hn2 : n < 0 := by rw [e1]; exact Int.mul_neg_of_neg_of_pos k h
      rw [decide_eq_true hn2, decide_eq_false (by omega)]; simp; omega
    · rw [k]; simp
    · have hn2 : 0 < n := by rw [e1]; exact Int.mul_pos k h
      rw [decide_eq_false (by omega), decide_eq_false (by omega)]; simp; omega

/-- A valid fraction is its rational number's. -/
theorem out_valid (a b : Int) (h : vldB a b = true) : outT (Rat.divInt a b) = (a, b, 0) ∧ (Rat.divInt a b).num = a ∧ ((Rat.divInt a b).den : Int) = b := by
  obtain ⟨h1, h2, h3, h4⟩ := vld_bd h
  have hg := vld_gcd h
  have e := newT_out a b (by omega)
  rw [newT_gcd a b 1 a.natAbs b.natAbs (by omega) (by simp) (by simp) (by omega) hg, cutT_ok _ _ _ (by omega) (by omega)] at e
  have e2 : outT (Rat.divInt a b) = (a, b, 0) := by
    rw [← e]
    rcases Int.lt_trichotomy a 0 with k | k | k
    · rw [decide_eq_true k, decide_eq_false (by omega)]; simp; omega
    · subst k; simp; omega
    · rw [decide_eq_false (by omega), decide_eq_false (by omega)]; simp; omega
  refine ⟨e2, ?_⟩
  unfold outT at e2
  split at e2
  · simp only [Prod.mk.injEq] at e2; exact ⟨e2.1, e2.2.1⟩
  · simp at e2
theorem valid_of_out (q : Rat) (h : (outT q).2.2 = 0) : outT q = (q.num, (q.den : Int), 0) ∧ vldB q.num q.den = true ∧ Rat.divInt q.num q.den = q := by
  have hy : 0 < q.den := Nat.pos_of_ne_zero q.den_nz
  unfold outT at h ⊢
  split at h
  · rename_i hs
    rw [if_pos hs]
    refine ⟨rfl, vld_mk (by omega) (by rw [Int.natAbs_natCast]; exact q.reduced), Rat.num_divInt_den q⟩
  · simp at h
end Go.Proofs.Ytnkpbkebbfelfaa
