/-
  Layer 1 (ratio): the contract of the reference's Parse. Condition: the string's length is an int.
-/
import Derived.Test.YtjhnapbaaifmnaaDoorPrDig
namespace Go.Proofs.YtjhnapbaaifmnaaDoor
open Go Go.RowKit Go.Lib

theorem dig_bd (k : Nat) : ∀ (n : Int) (l : List UInt8) (b : Int), 0 ≤ n → n ≤ b → 0 ≤ (digL k n l).1 ∧ (digL k n l).1 ≤ (b + 1) * 10 ^ k ∧ (digL k n l).2.length ≤ l.length := by
  induction k with
  | zero => intro n l b h0 h1; refine ⟨h0, ?_, Nat.le_refl _⟩; show n ≤ (b + 1) * 10 ^ 0; simp; omega
  | succ k ih =>
    intro n l b h0 h1
    have hp : (0 : Int) < 10 ^ k := Int.pow_pos (by omega)
    have hs : (10 : Int) ^ (k + 1) = 10 ^ k * 10 := Int.pow_succ _ _
    have hb : (b + 1) ≤ (b + 1) * 10 ^ (k + 1) := by
      have : (b + 1) * 1 ≤ (b + 1) * 10 ^ (k + 1) := Int.mul_le_mul_of_nonneg_left (by omega) (by omega)
      omega
    cases l with
    | nil => exact ⟨h0, by show n ≤ _; omega, Nat.le_refl _⟩
    | cons c l =>
      have hc : c.toNat < 256 := c.toNat_lt
      by_cases h : 48 ≤ c.toNat ∧ c.toNat ≤ 57
      · have e : digL (k + 1) n (c :: l) = digL k (n * 10 + ((c.toNat : Int) - 48)) l := by show (if _ then _ else _) = _; rw [if_pos h]
        rw [e]
        obtain ⟨p, q, r⟩ := ih (n * 10 + ((c.toNat : Int) - 48)) l (b * 10 + 9) (by omega) (by omega)
        refine ⟨p, ?_, by simp; omega⟩
        rw [hs]
        have : (b * 10 + 9 + 1) * (10 : Int) ^ k = (b + 1) * (10 ^ k * 10) := by
          rw [show b * 10 + 9 + 1 = (b + 1) * 10 by omega, Int.mul_assoc, Int.mul_comm 10]
        omega
      · have e : digL (k + 1) n (c :: l) = (n, c :: l) := by show (if _ then _ else _) = _; rw [if_neg h]
        rw [e]
        exact ⟨h0, by show n ≤ _; omega, Nat.le_refl _⟩
theorem dig13 (l : List UInt8) : 0 ≤ (digL 13 0 l).1 ∧ (digL 13 0 l).1 ≤ 10000000000000 ∧ (digL 13 0 l).2.length ≤ l.length := by
  have := dig_bd 13 0 l 0 (by omega) (by omega)
  refine ⟨this.1, ?_, this.2.2⟩
  have h := this.2.1
  simpa using h
/-- What the reference's Parse reads, ahead of its test: the sign cut off, the two numbers, what is behind them. -/
def rdL (l : List UInt8) : Int × Int × List UInt8 :=
  let neg := match l with | c :: _ => c == 45 | [] => false
  let body := if neg then l.tail else l
  let a := digL 13 0 body
  let s := match a.2 with | c :: _ => c == 47 | [] => false
  let b := if s then digL 13 0 a.2.tail else (1, a.2)
  (if neg then -a.1 else a.1, b.1, b.2)
/-- What the reference's Parse gives. -/
def rparsT (l : List UInt8) : Int × Int × Bool :=
  if (rdL l).2.2 = [] ∧ fmtL (rdL l).1 (rdL l).2.1 = l ∧ l ≠ [] then ((rdL l).1, (rdL l).2.1, true) else (0, 0, false)
end Go.Proofs.YtjhnapbaaifmnaaDoor
