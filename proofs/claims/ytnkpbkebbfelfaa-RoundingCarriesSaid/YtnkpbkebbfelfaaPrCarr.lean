/-
  Layer 2 (rounding): the fractions of the statement on carried amounts are all multiples of 1/21000, and are counted in these. Conditions: the counts are small.
-/
import Derived.Test.YtnkpbkebbfelfaaPrMono
import Derived.Test.YtnkpbkebbfelfaaPrCarry
namespace Go.Proofs.Ytnkpbkebbfelfaa
open Go Go.RowKit Go.Lib
set_option linter.unusedVariables false

theorem newT_eq {n d n' d' : Int} (hd : 1 ≤ d) (hd' : 1 ≤ d') (h : n * d' = n' * d) : newT n d = newT n' d' := by
  rw [newT_out n d (by omega), newT_out n' d' (by omega), (Rat.divInt_eq_divInt_iff (show d ≠ 0 by omega) (show d' ≠ 0 by omega)).2 h]
/-- The fraction x / y is K / 21000. -/
structure Fr (K x y : Int) : Prop where
  eq : newT K 21000 = (x, y, 0)
theorem Fr.vld {K x y : Int} (h : Fr K x y) : vldB x y = true := (newT_val (by omega) h.eq).1
theorem Fr.val {K x y : Int} (h : Fr K x y) : x * 21000 = K * y := (newT_val (by omega) h.eq).2
theorem Fr.mk' {K : Int} (h0 : -1000000000000 ≤ K) (h1 : K ≤ 1000000000000) : Fr K (newT K 21000).1 (newT K 21000).2.1 :=
  ⟨Prod.ext rfl (Prod.ext rfl (Tp.newT_small K 21000 h0 h1 (by omega) (by omega)).1)⟩
theorem Fr.out {K x y : Int} (h : Fr K x y) : x = (newT K 21000).1 ∧ y = (newT K 21000).2.1 := by rw [h.eq]; exact ⟨rfl, rfl⟩
theorem fr_add {K J a b c d : Int} (h : Fr K a b) (k : Fr J c d) : addT a b c d = newT (K + J) 21000 := by
  have e : addT a b c d = newT (a * d + c * b) (b * d) := by unfold addT; rw [h.vld, k.vld]; rfl
  have h1 := h.val
  have k1 := k.val
  have hb := (vld_bd h.vld).1
  have hd := (vld_bd k.vld).1
  rw [e]
  refine newT_eq ?_ (by omega) ?_
  · have := Int.mul_pos (show 0 < b by omega) (show 0 < d by omega); omega
  · have p : a * d * 21000 = K * (b * d) := by rw [Int.mul_right_comm, h1, Int.mul_assoc]
    have q : c * b * 21000 = J * (b * d) := by rw [Int.mul_right_comm, k1, Int.mul_assoc, Int.mul_comm d b]
    rw [Int.add_mul, Int.add_mul, p, q]
theorem fr_sub {K J a b c d : Int} (h : Fr K a b) (k : Fr J c d) : subT a b c d = newT (K - J) 21000 := by
  have e : subT a b c d = newT (a * d - c * b) (b * d) := by unfold subT; rw [h.vld, k.vld]; rfl
  have h1 := h.val
  have k1 := k.val
  have hb := (vld_bd h.vld).1
  have hd := (vld_bd k.vld).1
  rw [e]
  refine newT_eq ?_ (by omega) ?_
  · have := Int.mul_pos (show 0 < b by omega) (show 0 < d by omega); omega
  · have p : a * d * 21000 = K * (b * d) := by rw [Int.mul_right_comm, h1, Int.mul_assoc]
    have q : c * b * 21000 = J * (b * d) := by rw [Int.mul_right_comm, k1, Int.mul_assoc, Int.mul_comm d b]
    rw [Int.sub_mul, Int.sub_mul, p, q]
theorem rnd_same {n1 d1 n2 d2 m : Int} (h1 : 1 ≤ d1) (h2 : 1 ≤ d2) (h : n1 * d2 = n2 * d1) (m0 : 0 ≤ m) (m1 : m ≤ 6) : rndT n1 d1 m = rndT n2 d2 m :=
  Int.le_antisymm (rnd_mono h1 h2 (by omega) m0 m1) (rnd_mono h2 h1 (by omega) m0 m1)
theorem fr_pos {U c d : Int} (k : Fr U c d) (hU : 0 < U) : 0 < c := by
  have k1 := k.val
  have hd := (vld_bd k.vld).1
  have := Int.mul_pos hU (show 0 < d by omega)
  omega
theorem fr_round {K U a b c d m : Int} (h : Fr K a b) (k : Fr U c d) (hU : 0 < U) (hm : witB m 0 6 = true) : roundT a b c d m = newT (rndT K U m * U) 21000 := by
  have h1 := h.val
  have k1 := k.val
  have hb := (vld_bd h.vld).1
  have hd := (vld_bd k.vld).1
  have hc := fr_pos k hU
  obtain ⟨m0, m1⟩ := wit_of hm
  rw [roundT_yes h.vld k.vld hc hm]
  have e : rndT (a * d) (b * c) m = rndT K U m := by
    refine rnd_same ?_ (by omega) ?_ m0 m1
    · have := Int.mul_pos (show 0 < b by omega) hc; omega
    · have p : a * d * U * 21000 = K * (b * c) * 21000 := by
        have p1 : a * d * U * 21000 = a * 21000 * (U * d) := by rw [Int.mul_assoc a d U, Int.mul_right_comm, Int.mul_comm d U]
        have p2 : K * (b * c) * 21000 = K * b * (c * 21000) := by rw [← Int.mul_assoc K b c, Int.mul_assoc (K * b) c]
        rw [p1, p2, h1, k1]
      omega
  rw [e]
  refine newT_eq (by omega) (by omega) ?_
  rw [Int.mul_assoc, k1, Int.mul_assoc]
theorem fr_less {K J a b c d : Int} (h : Fr K a b) (k : Fr J c d) (hl : K < J) : cmpT a b c d = -1 := by
  have h1 := h.val
  have k1 := k.val
  have hb := (vld_bd h.vld).1
  have hd := (vld_bd k.vld).1
  have hp : 0 < b * d := Int.mul_pos (by omega) (by omega)
  have p : a * d * 21000 = K * (b * d) := by rw [Int.mul_right_comm, h1, Int.mul_assoc]
  have q : c * b * 21000 = J * (b * d) := by rw [Int.mul_right_comm, k1, Int.mul_assoc, Int.mul_comm d b]
  have r : K * (b * d) < J * (b * d) := Int.mul_lt_mul_of_pos_right hl hp
  unfold cmpT
  rw [h.vld, k.vld]
  simp only [Bool.and_self, if_true]
  rw [if_pos (by omega)]
theorem fr_neg {K a b : Int} (h : Fr K a b) : Fr (-K) (-a) b := by
  have h1 := h.val
  have v := h.vld
  have bd := vld_bd v
  refine ⟨newT_of_val (by omega) (vld_mk ⟨bd.1, bd.2.1, by omega, by omega⟩ (by rw [Int.natAbs_neg]; exact vld_gcd v)) ?_⟩
  rw [Int.neg_mul, h1, Int.neg_mul]
theorem fr_made {v q : Int} (hq : q ∈ ([3, 7, 100, 1] : List Int)) : newT v q = newT (v * (21000 / q)) 21000 := by
  simp only [List.mem_cons, List.not_mem_nil, or_false] at hq
  refine newT_eq (by omega) (by omega) ?_
  rcases hq with rfl | rfl | rfl | rfl <;> simp <;> omega
theorem fr_step {p q : Int} (hq : q ∈ ([100, 1, 20, 100, 2, 1000, 1] : List Int)) : newT p q = newT (p * (21000 / q)) 21000 := by
  simp only [List.mem_cons, List.not_mem_nil, or_false] at hq
  refine newT_eq (by omega) (by omega) ?_
  rcases hq with rfl | rfl | rfl | rfl | rfl | rfl | rfl <;> simp <;> omega
/-- One step of carrying, in 21000ths. -/
theorem fr_carry {R N U a b c d e f m : Int} (h : Fr R a b) (k : Fr N c d) (u : Fr U e f) (hU : 0 < U) (hU1 : U ≤ 100000000) (hm : witB m 0 6 = true) (h0 : -1000000000 ≤ R + N) (h1 : R + N ≤ 1000000000) :
    ∃ P x1 x2 y1 y2, carryT a b c d e f m = (x1, x2, y1, y2, 0) ∧ Fr P x1 x2 ∧ Fr (R + N - P) y1 y2 ∧ -U < R + N - P ∧ R + N - P < U := by
  have s1 := fr_add h k
  have S := Fr.mk' (K := R + N) (by omega) (by omega)
  rw [S.eq] at s1
  have s2 := fr_round S u hU hm
  have b := rndT_mul (R + N) U m (by omega)
  obtain ⟨P, hP⟩ : ∃ P, P = rndT (R + N) U m * U := ⟨_, rfl⟩
  rw [← hP] at s2 b
  have Q := Fr.mk' (K := P) (by omega) (by omega)
  rw [Q.eq] at s2
  have s3 := fr_sub S Q
  have L := Fr.mk' (K := R + N - P) (by omega) (by omega)
  rw [L.eq] at s3
  exact ⟨P, _, _, _, _, carry_4 s1 s2 s3, Q, L, by omega, by omega⟩
end Go.Proofs.Ytnkpbkebbfelfaa
