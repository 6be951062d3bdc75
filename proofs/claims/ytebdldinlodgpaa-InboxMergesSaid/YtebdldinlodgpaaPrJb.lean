/-
  Layer 7 (records): contracts of Sum, of the program and of the reference: the checksum of some bytes. Condition: the row reads as bytes.
-/
import Derived.Test.YtebdldinlodgpaaPrJa
namespace Go.Proofs.Ytebdldinlodgpaa.Rc
open Go Go.RowKit Go.Lib Go.Sort Go.Shelf Go.Proofs Go.Proofs.Ytebdldinlodgpaa Go.Proofs.Ytebdldinlodgpaa.Tp
set_option linter.unusedVariables false

theorem crcF_nil (s : Nat) : crcF s [] = s := rfl
theorem crcF_take {bs : List Nat} {k : Nat} (h : k < bs.length) (s : Nat) : crcF s (bs.take (k + 1)) = crc1 (crcF s (bs.take k)) bs[k]! := by
  rw [take_succ' h, crcF_append, crcF_cons, crcF_nil]
/-- k of the eight bits. -/
def stN (s : Nat) : Nat → Nat
  | 0 => s
  | k + 1 => st (stN s k)
theorem stN_lt {s : Nat} (h : s < 65536) (k : Nat) : stN s k < 65536 := by induction k with | zero => exact h | succ k ih => exact st_lt ih
theorem stN8 (s : Nat) : stN s 8 = st8 s := rfl
/-- A bit, as the program reckons it. -/
theorem st_prog (s : Nat) (h : s < 65536) : bits .xor .u16 (IntKind.u16.wrap ((s : Int) * 2)) ((s : Int) / 32768 * 4129) = ((st s : Nat) : Int) := by
  unfold st
  by_cases h1 : s < 32768
  · rw [if_pos h1, show (s : Int) / 32768 = 0 by omega, IntKind.wrap_u16, show ((s : Int) * 2) % 65536 = ((2 * s : Nat) : Int) by omega, show (0 * 4129 : Int) = ((0 : Nat) : Int) by decide, u16_xor_nat _ _ (by omega) (by decide), Nat.xor_zero]
  · rw [if_neg h1, show (s : Int) / 32768 = 1 by omega, IntKind.wrap_u16, show ((s : Int) * 2) % 65536 = ((2 * s - 65536 : Nat) : Int) by omega, show (1 * 4129 : Int) = ((4129 : Nat) : Int) by decide, u16_xor_nat _ _ (by omega) (by decide)]
theorem x8_prog (s c : Nat) (h : s < 65536) (hc : c < 256) : bits .xor .u16 (s : Int) ((c : Int) * 256) = ((s ^^^ (c * 256) : Nat) : Int) := by
  rw [show ((c : Int) * 256) = ((c * 256 : Nat) : Int) by omega, u16_xor_nat _ _ h (by omega)]
theorem i64_ofInt (a : Nat) (ha : a < 9223372036854775808) : (BitVec.ofInt 64 (a : Int)).toNat = a := by
  rw [BitVec.ofInt_natCast, BitVec.toNat_ofNat]; exact Nat.mod_eq_of_lt (by omega)
theorem i64_xor_nat (a b : Nat) (ha : a < 4294967296) (hb : b < 4294967296) : bits .xor .i64 (a : Int) (b : Int) = ((a ^^^ b : Nat) : Int) := by
  have hx : a ^^^ b < 2 ^ 32 := Nat.xor_lt_two_pow (by omega) (by omega)
  show IntKind.i64.wrap ((BitVec.ofInt 64 (a : Int) ^^^ BitVec.ofInt 64 (b : Int)).toNat : Int) = _
  rw [BitVec.toNat_xor, i64_ofInt a (by omega), i64_ofInt b (by omega), IntKind.wrap_i64]
  omega
theorem i64_mask16 (a : Nat) (ha : a < 131072) : bits .and .i64 (a : Int) 65535 = ((a % 65536 : Nat) : Int) := by
  have := bits_mask .i64 63 (by decide) wraps_i64 16 (by decide) (a : Int) (by omega) (by omega)
  rw [show ((2 : Int) ^ 16 - 1) = 65535 by decide] at this
  rw [this]; omega

set_option maxRecDepth 100000 in
set_option maxHeartbeats 2000000 in
theorem sum_any (a : Option Addr) (n cap : Nat) (bs : List Nat) (hn : n ≤ 9223372036854775807) (w : World) (h : BRow w a n bs) :
    Calls Try.prog 21 #[.slice a n cap] w fun e w' => e = .returned (.int .i64 (crc bs : Nat)) ∧ w' = w := by
  have H := Lib.hid h
  clear h
  go_enter Try.func21, Try.ntmps21
  go_wp2
  go_loop [3, 9] (fun s z => ∃ k : Nat, k ≤ n ∧ z = .int .i64 k ∧ s = .int .u16 (crcF 65535 (bs.take k) : Nat)) (fun _ z => n - (intOf z).toNat)
  case atStart => exact ⟨0, by omega, rfl, rfl⟩
  case round =>
    obtain ⟨k, hk, rfl, rfl⟩ := hrel
    have hs := crcF_lt (s := 65535) (by decide) (take_by H.out.2.1 k)
    by_cases hlt : k < n
    · obtain ⟨x, hx0, hx⟩ := H.out.2.2 (by omega)
      subst hx0
      have c0 := hx k hlt
      have b0 := H.out.byte hlt
      have HE := Lib.hid (crcF_take (bs := bs) (k := k) (by have := H.out.1; omega) 65535)
      generalize crcF 65535 (bs.take k) = s at *
      generalize bs[k]! = c at *
      have ho := x8_prog s c hs b0
      have hq := xor_lt hs b0
      have HF := Lib.hid (show crc1 s c = stN (s ^^^ (c * 256)) 8 from rfl)
      generalize s ^^^ (c * 256) = q at *
      have i1 : (k : Int) < (n : Int) := by omega
      clear hx
      go_wp2
      go_loop [3, 18] (fun s z => ∃ j : Nat, j ≤ 8 ∧ z = .int .i64 j ∧ s = .int .u16 (stN q j : Nat)) (fun _ z => 8 - (intOf z).toNat)
      case atStart => exact ⟨0, by omega, rfl, rfl⟩
      case round =>
        obtain ⟨j, hj, rfl, rfl⟩ := hrel
        have ht := stN_lt hq j
        by_cases hj2 : j < 8
        · have HG := Lib.hid (show st (stN q j) = stN q (j + 1) from rfl)
          generalize stN q j = t at *
          have hp := st_prog t ht
          have i2 : (j : Int) < 8 := by omega
          go_wp2
          go_round
          case rel => exact ⟨j + 1, by omega, by go_num, by rw [← HG.out, ← hp]⟩
          case measure => simp [intOf]; omega
        · obtain rfl : j = 8 := by omega
          go_wp2
          go_round
          case rel => exact ⟨k + 1, by omega, by go_num, by rw [HE.out, HF.out]⟩
          case measure => simp [intOf]; omega
    · obtain rfl : k = n := by omega
      have e : crcF 65535 (bs.take k) = crc bs := by rw [List.take_of_length_le (by have := H.out.1; omega)]; rfl
      rw [e] at hs ⊢
      generalize hr : crc bs = r at hs ⊢
      have HR := Lib.hid hr
      clear hr
      have wr : IntKind.i64.wrap (r : Int) = (r : Int) := by rw [IntKind.wrap_i64]; omega
      go_wp2
      go_ret
      exact ⟨by rw [HR.out]; rfl, rfl⟩

set_option maxRecDepth 100000 in
set_option maxHeartbeats 2000000 in
theorem rsum_any (a : Option Addr) (n cap : Nat) (bs : List Nat) (hn : n ≤ 9223372036854775807) (w : World) (h : BRow w a n bs) :
    Calls Try.prog 22 #[.slice a n cap] w fun e w' => e = .returned (.int .i64 (crc bs : Nat)) ∧ w' = w := by
  have H := Lib.hid h
  clear h
  go_enter Try.func22, Try.ntmps22
  go_wp2
  go_loop [3, 4] (fun s z => ∃ k : Nat, k ≤ n ∧ z = .int .i64 k ∧ s = .int .i64 (crcF 65535 (bs.take k) : Nat)) (fun _ z => n - (intOf z).toNat)
  case atStart => exact ⟨0, by omega, rfl, rfl⟩
  case round =>
    obtain ⟨k, hk, rfl, rfl⟩ := hrel
    have hs := crcF_lt (s := 65535) (by decide) (take_by H.out.2.1 k)
    by_cases hlt : k < n
    · obtain ⟨x, hx0, hx⟩ := H.out.2.2 (by omega)
      subst hx0
      have c0 := hx k hlt
      have b0 := H.out.byte hlt
      have HE := Lib.hid (crcF_take (bs := bs) (k := k) (by have := H.out.1; omega) 65535)
      generalize crcF 65535 (bs.take k) = s at *
      generalize bs[k]! = c at *
      have ho : bits .xor .i64 (s : Int) ((c : Int) * 256) = ((s ^^^ (c * 256) : Nat) : Int) := by
        rw [show ((c : Int) * 256) = ((c * 256 : Nat) : Int) by omega, i64_xor_nat _ _ (by omega) (by omega)]
      have hq := xor_lt hs b0
      have HF := Lib.hid (show crc1 s c = stN (s ^^^ (c * 256)) 8 from rfl)
      generalize s ^^^ (c * 256) = q at *
      have i1 : (k : Int) < (n : Int) := by omega
      clear hx
      go_wp2
      go_loop [3, 5] (fun s z => ∃ j : Nat, j ≤ 8 ∧ z = .int .i64 j ∧ s = .int .i64 (stN q j : Nat)) (fun _ z => 8 - (intOf z).toNat)
      case atStart => exact ⟨0, by omega, rfl, rfl⟩
      case round =>
        obtain ⟨j, hj, rfl, rfl⟩ := hrel
        have ht := stN_lt hq j
        by_cases hj2 : j < 8
        · have HG := Lib.hid (show st (stN q j) = stN q (j + 1) from rfl)
          generalize stN q j = t at *
          have i2 : (j : Int) < 8 := by omega
          by_cases h1 : t < 32768
          · have t0 : decide ((65535 : Int) < (t : Int) * 2) = false := decide_eq_false (by omega)
            have HS := Lib.hid (show st t = 2 * t from if_pos h1)
            go_wp2
            go_round
            case rel => exact ⟨j + 1, by omega, by go_num, by rw [← HG.out, HS.out]; simp; omega⟩
            case measure => simp [intOf]; omega
          · have t0 : decide ((65535 : Int) < (t : Int) * 2) = true := decide_eq_true (by omega)
            have HS := Lib.hid (show st t = (2 * t - 65536) ^^^ 4129 from if_neg h1)
            have hm : bits .and .i64 ((t : Int) * 2) 65535 = ((2 * t - 65536 : Nat) : Int) := by
              rw [show ((t : Int) * 2) = ((t * 2 : Nat) : Int) by omega, i64_mask16 _ (by omega)]; omega
            have hx' := i64_xor_nat (2 * t - 65536) 4129 (by omega) (by decide)
            generalize 2 * t - 65536 = r at *
            go_wp2
            go_round
            case rel => exact ⟨j + 1, by omega, by go_num, by rw [← HG.out, HS.out, ← hx']; rfl⟩
            case measure => simp [intOf]; omega
        · obtain rfl : j = 8 := by omega
          go_wp2
          go_round
          case rel => exact ⟨k + 1, by omega, by go_num, by rw [HE.out, HF.out]⟩
          case measure => simp [intOf]; omega
    · obtain rfl : k = n := by omega
      have e : crcF 65535 (bs.take k) = crc bs := by rw [List.take_of_length_le (by have := H.out.1; omega)]; rfl
      rw [e] at hs ⊢
      generalize hr : crc bs = r at hs ⊢
      have HR := Lib.hid hr
      clear hr
      have wr : IntKind.i64.wrap (r : Int) = (r : Int) := by rw [IntKind.wrap_i64]; omega
      go_wp2
      go_ret
      exact ⟨by rw [HR.out]; rfl, rfl⟩
end Go.Proofs.Ytebdldinlodgpaa.Rc
