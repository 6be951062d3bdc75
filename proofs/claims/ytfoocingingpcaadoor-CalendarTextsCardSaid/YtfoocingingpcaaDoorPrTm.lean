/-
  CalendarTexts' mathematics: the ten bytes of a date's text; Atoi of its parts. No condition.
-/
import Derived.Test.YtfoocingingpcaaDoorPrCy
import Derived.Test.YtfoocingingpcaaDoorPrTrip
namespace Go.Proofs.YtfoocingingpcaaDoor
open Go Go.RowKit Go.Lib

theorem ceq (c : UInt8) (k : Nat) (h : k < 10) : c = UInt8.ofNat (48 + k) ↔ c.toNat = 48 + k :=
  ⟨by rintro rfl; exact digit_nat k h, fun e => UInt8.toNat_inj.mp (by rw [e, digit_nat k h])⟩
theorem dec_more (n : Nat) (h : ¬ n < 10) : decDigits n = decDigits (n / 10) ++ [UInt8.ofNat (48 + n % 10)] := by rw [decDigits, dif_neg h]
theorem itoa4 (y : Nat) (h0 : 1000 ≤ y) (h1 : y ≤ 9999) : itoa (y : Int) = [UInt8.ofNat (48 + y / 1000), UInt8.ofNat (48 + y / 100 % 10), UInt8.ofNat (48 + y / 10 % 10), UInt8.ofNat (48 + y % 10)] := by
  unfold itoa
  rw [if_neg (by omega), Int.toNat_natCast, dec_more y (by omega), dec_more (y / 10) (by omega), dec_more (y / 10 / 10) (by omega), decDigits_one (i := y / 10 / 10 / 10) (by omega), show y / 10 / 10 / 10 = y / 1000 by omega, show y / 10 / 10 = y / 100 by omega]
  rfl
theorem twoL2 (n : Nat) (h : n ≤ 99) : twoL (n : Int) = [UInt8.ofNat (48 + n / 10), UInt8.ofNat (48 + n % 10)] := by
  unfold twoL
  rw [show ((n : Int) / 10).toNat = n / 10 by omega, show ((n : Int) % 10).toNat = n % 10 by omega, decDigits_one (i := n / 10) (by omega), decDigits_one (i := n % 10) (by omega)]
  rfl
theorem atoi2 (n : Nat) (h : n ≤ 99) : atoiAll (twoL (n : Int)) = .ok (n : Int) := by
  by_cases h1 : n < 10
  · have e : twoL (n : Int) = 48 :: decDigits n := by
      rw [twoL2 n h, decDigits_one h1, show n / 10 = 0 by omega, show n % 10 = n by omega]; rfl
    rw [e, atoiAll_plain _ _ (by decide) (by decide)]
    have m : parseMag (48 :: decDigits n) = .ok n := by
      unfold parseMag
      rw [if_neg (by simp)]
      have p := pu_dec n (by omega)
      unfold parseUint10
      rw [if_pos (by decide)]
      simpa using p
    rw [m]
    unfold signless
    simp only
    rw [if_neg (by omega)]
  · have e : twoL (n : Int) = itoa (n : Int) := by
      unfold itoa
      rw [if_neg (by omega), Int.toNat_natCast, twoL2 n h, dec_more n h1, decDigits_one (i := n / 10) (by omega)]
      rfl
    rw [e]
    exact atoi_itoa _ (by omega) (by omega)

/-- A digit. -/
def Dig (c : UInt8) : Prop := 48 ≤ c.toNat ∧ c.toNat ≤ 57
def dv (c : UInt8) : Int := (c.toNat : Int) - 48
/-- Ten bytes spell a date. -/
def Spell (b0 b1 b2 b3 b4 b5 b6 b7 b8 b9 : UInt8) (y m d : Int) : Prop :=
  Dig b0 ∧ Dig b1 ∧ Dig b2 ∧ Dig b3 ∧ Dig b5 ∧ Dig b6 ∧ Dig b8 ∧ Dig b9 ∧ b4 = 45 ∧ b7 = 45 ∧ y = ((dv b0 * 10 + dv b1) * 10 + dv b2) * 10 + dv b3 ∧ m = dv b5 * 10 + dv b6 ∧ d = dv b8 * 10 + dv b9
theorem dateL_eq (y m d : Nat) (y0 : 1000 ≤ y) (y1 : y ≤ 9999) (hm : m ≤ 99) (hd : d ≤ 99) : dateL y m d = [UInt8.ofNat (48 + y / 1000), UInt8.ofNat (48 + y / 100 % 10), UInt8.ofNat (48 + y / 10 % 10), UInt8.ofNat (48 + y % 10), 45, UInt8.ofNat (48 + m / 10), UInt8.ofNat (48 + m % 10), 45, UInt8.ofNat (48 + d / 10), UInt8.ofNat (48 + d % 10)] := by
  unfold dateL
  rw [itoa4 y y0 y1, twoL2 m hm, twoL2 d hd]
  rfl
theorem spell_iff (b0 b1 b2 b3 b4 b5 b6 b7 b8 b9 : UInt8) (y m d : Int) (y0 : 1000 ≤ y) (y1 : y ≤ 9999) (m0 : 0 ≤ m) (m1 : m ≤ 99) (d0 : 0 ≤ d) (d1 : d ≤ 99) :
    [b0, b1, b2, b3, b4, b5, b6, b7, b8, b9] = dateL y m d ↔ Spell b0 b1 b2 b3 b4 b5 b6 b7 b8 b9 y m d := by
  obtain ⟨y, rfl⟩ := Int.eq_ofNat_of_zero_le (show 0 ≤ y by omega)
  obtain ⟨m, rfl⟩ := Int.eq_ofNat_of_zero_le m0
  obtain ⟨d, rfl⟩ := Int.eq_ofNat_of_zero_le d0
  rw [dateL_eq y m d (by omega) (by omega) (by omega) (by omega)]
  unfold Spell Dig dv
  simp only [List.cons.injEq, and_true, ceq _ _ (show y / 1000 < 10 by omega), ceq _ _ (show y / 100 % 10 < 10 by omega), ceq _ _ (show y / 10 % 10 < 10 by omega), ceq _ _ (show y % 10 < 10 by omega), ceq _ _ (show m / 10 < 10 by omega), ceq _ _ (show m % 10 < 10 by omega), ceq _ _ (show d / 10 < 10 by omega), ceq _ _ (show d % 10 < 10 by omega)]
  constructor
  · rintro ⟨h0, h1, h2, h3, h4, h5, h6, h7, h8, h9⟩
    refine ⟨?_, ?_, ?_, ?_, ?_, ?_, ?_, ?_, h4, h7, ?_, ?_, ?_⟩ <;> omega
  · rintro ⟨h0, h1, h2, h3, h5, h6, h8, h9, h4, h7, e1, e2, e3⟩
    refine ⟨?_, ?_, ?_, ?_, h4, ?_, ?_, h7, ?_, ?_⟩ <;> omega
end Go.Proofs.YtfoocingingpcaaDoor
