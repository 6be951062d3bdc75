/-
  Layer 1 (ratio): the contracts of Mul and of the reference's Mul. Conditions: the parts of the fractions fit their kinds.
-/
import Derived.Test.YtnkpbkebbfelfaaPrAr
import Derived.Test.YtnkpbkebbfelfaaShelf
import Derived.Deep.RegionWith
import Derived.Deep.RegionHeld3
namespace Go.Proofs.Ytnkpbkebbfelfaa
open Go Go.RowKit Go.Lib

/-- The terms of a product in lowest terms. -/
def mulN (a b c d : Int) : Nat := (a.natAbs / Nat.gcd a.natAbs d.natAbs) * (c.natAbs / Nat.gcd c.natAbs b.natAbs)
def mulD (a b c d : Int) : Nat := (b.natAbs / Nat.gcd c.natAbs b.natAbs) * (d.natAbs / Nat.gcd a.natAbs d.natAbs)
def mulT (a b c d : Int) : Int × Int × Int := if vldB a b && vldB c d then cutT (decide (a < 0) != decide (c < 0)) (mulN a b c d) (mulD a b c d) else (0, 0, 1)
theorem mul_cop (x p y q : Nat) (h1 : Nat.gcd x p = 1) (h2 : Nat.gcd y q = 1) (hp : 0 < p) (hq : 0 < q) :
    Nat.gcd ((x / Nat.gcd x q) * (y / Nat.gcd y p)) ((p / Nat.gcd y p) * (q / Nat.gcd x q)) = 1 := by
  have f : 0 < Nat.gcd x q := Nat.gcd_pos_of_pos_right _ hq
  have s : 0 < Nat.gcd y p := Nat.gcd_pos_of_pos_right _ hp
  have c1 : Nat.Coprime (x / Nat.gcd x q) (q / Nat.gcd x q) := Nat.coprime_div_gcd_div_gcd f
  have c2 : Nat.Coprime (y / Nat.gcd y p) (p / Nat.gcd y p) := Nat.coprime_div_gcd_div_gcd s
  have c3 : Nat.Coprime (x / Nat.gcd x q) (p / Nat.gcd y p) :=
    (Nat.Coprime.coprime_div_left (show Nat.Coprime x p from h1) (Nat.gcd_dvd_left _ _)).coprime_div_right (Nat.gcd_dvd_right _ _)
  have c4 : Nat.Coprime (y / Nat.gcd y p) (q / Nat.gcd x q) :=
    (Nat.Coprime.coprime_div_left (show Nat.Coprime y q from h2) (Nat.gcd_dvd_left _ _)).coprime_div_right (Nat.gcd_dvd_right _ _)
  exact Nat.Coprime.mul_left (Nat.Coprime.mul_right c3 c1) (Nat.Coprime.mul_right c2 c4)
theorem fit_cop (neg : Bool) (n d : Nat) (h : Nat.gcd n d = 1) : fitT neg n d = cutT neg n d := by unfold fitT; rw [h, Nat.div_one, Nat.div_one]
theorem div_le_bd (n g B : Nat) (h : n ≤ B) : n / g ≤ B := Nat.le_trans (Nat.div_le_self _ _) h
theorem prod_le_bd (m n A B : Nat) (h : m ≤ A) (k : n ≤ B) : m * n ≤ A * B := Nat.mul_le_mul h k
theorem quiet_add_left {P : Program} {f : FuncId} {args : Array Value} {w : World} {a n : Nat} {v : Value}
    (h : Calls P f args (w.drewN (a + n)) fun e w' => e = .returned v ∧ w.drewN (a + n) = w') :
    Calls P f args (w.drewN (a + n)) fun e w'' => e = .returned v ∧ ∃ m, w'' = w.drewN (a + m) :=
  h.mono fun _ _ ⟨he, hm⟩ => ⟨he, n, hm.symm⟩
theorem quiet_add {P : Program} {f : FuncId} {args : Array Value} {w : World} {a n : Nat} {v : Value}
    (h : Calls P f args (w.drewN (a + n)) fun e w' => e = .returned v ∧ ∃ m, w' = (w.drewN (a + n)).drewN m) :
    Calls P f args (w.drewN (a + n)) fun e w'' => e = .returned v ∧ ∃ m, w'' = w.drewN (a + m) :=
  h.mono fun _ _ ⟨he, m, hm⟩ => ⟨he, n + m, by rw [hm, World.drewN_drewN, Nat.add_assoc]⟩
theorem far2 {w : World} {p : Nat} {o1 o2 q o : Nat} {u v : Value} (h : p ≠ q) : ((w.setCell ⟨p, o1, none⟩ u).setCell ⟨p, o2, none⟩ v).cell? ⟨q, o, none⟩ = w.cell? ⟨q, o, none⟩ := by
  exact (World.cell?_setCell_far _ ⟨p, o2, none⟩ ⟨q, o, none⟩ v h).trans (World.cell?_setCell_far _ ⟨p, o1, none⟩ ⟨q, o, none⟩ u h)
end Go.Proofs.Ytnkpbkebbfelfaa
