/-
  RatioRoundTrip's mathematics, first part: a numeral that Itoa writes is read back by Atoi; the bytes of a numeral.
-/
import Derived.Lib.AtoiAllCases
import Derived.Lib.ItoaMem
import Derived.Lib.IndexLaws
namespace Go.Proofs.YtfoocingingpcaaDoor
open Go Go.RowKit Go.Lib

theorem digit_nat (d : Nat) (h : d < 10) : (UInt8.ofNat (48 + d)).toNat = 48 + d := by
  rw [UInt8.toNat_ofNat']; omega
theorem pu_app : ∀ (l : List UInt8) (acc u d : Nat), parseUint10 acc l = .ok u → d < 10 → u * 10 + d < 18446744073709551616 → parseUint10 acc (l ++ [UInt8.ofNat (48 + d)]) = .ok (u * 10 + d)
  | [], acc, u, d, h, hd, hu => by
    simp only [parseUint10] at h
    injection h with h
    subst h
    have e := digit_nat d hd
    simp only [List.nil_append, parseUint10]
    rw [e, if_pos (by omega), if_neg (by omega), if_neg (by omega)]
    congr 1
    omega
  | c :: r, acc, u, d, h, hd, hu => by
    simp only [List.cons_append, parseUint10] at h ⊢
    split at h
    · rename_i hc
      rw [if_pos hc]
      split at h
      · cases h
      · rename_i h1
        rw [if_neg h1]
        split at h
        · cases h
        · rename_i h2
          rw [if_neg h2]
          exact pu_app r _ u d h hd hu
    · cases h
theorem pu_dec (u : Nat) : u < 18446744073709551616 → parseUint10 0 (decDigits u) = .ok u := by
  induction u using Nat.strongRecOn with
  | _ u ih =>
    intro h
    rw [decDigits]
    split
    · rename_i hu
      have := pu_app [] 0 0 u rfl hu (by omega)
      simpa using this
    · rename_i hu
      have := pu_app _ 0 (u / 10) (u % 10) (ih (u / 10) (by omega) (by omega)) (by omega) (by omega)
      rw [this]
      congr 1
      omega
theorem dec_ne (u : Nat) : decDigits u ≠ [] := by
  rw [decDigits]
  split
  · simp
  · simp
theorem dec_mem (u : Nat) : ∀ b ∈ decDigits u, 48 ≤ b.toNat ∧ b.toNat ≤ 57 := by
  induction u using Nat.strongRecOn with
  | _ u ih =>
    intro b hb
    rw [decDigits] at hb
    split at hb
    · rename_i hu
      simp only [List.mem_singleton] at hb
      rw [hb, digit_nat u hu]; omega
    · rename_i hu
      rw [List.mem_append] at hb
      rcases hb with hb | hb
      · exact ih (u / 10) (by omega) b hb
      · simp only [List.mem_singleton] at hb
        rw [hb, digit_nat (u % 10) (by omega)]; omega
theorem mag_dec (u : Nat) (h : u < 18446744073709551616) : parseMag (decDigits u) = .ok u := by
  unfold parseMag
  rw [if_neg (dec_ne u), pu_dec u h]
theorem itoa_mem (n : Int) : ∀ b ∈ itoa n, b.toNat ≠ 47 := by
  intro b hb
  unfold itoa at hb
  split at hb
  · rw [List.mem_cons] at hb
    rcases hb with rfl | hb
    · decide
    · have := dec_mem _ b hb; omega
  · have := dec_mem _ b hb; omega
theorem atoi_itoa (n : Int) (h0 : -9223372036854775808 ≤ n) (h1 : n ≤ 9223372036854775807) : atoiAll (itoa n) = .ok n := by
  unfold itoa
  split
  · rename_i hn
    rw [atoiAll_minus, mag_dec _ (by omega)]
    unfold signed
    simp only
    rw [if_neg (by omega)]
    congr 1
    omega
  · rename_i hn
    rcases hd : decDigits n.toNat with _ | ⟨c, r⟩
    · exact absurd hd (dec_ne _)
    · have hc := dec_mem n.toNat c (by rw [hd]; exact List.mem_cons_self)
      unfold atoiAll
      simp only
      rw [if_neg (by omega), ← hd, mag_dec _ (by omega)]
      simp only
      rw [if_neg (by omega), if_neg (by omega), if_neg (by omega)]
      congr 1
      omega
end Go.Proofs.YtfoocingingpcaaDoor
