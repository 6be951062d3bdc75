/-
  Layer 1 (ratio): the contract of the reference's digits: at most 13 digits at the beginning of a string.
-/
import Derived.Test.YtjhnapbaaifmnaaDoorPrRFmt
namespace Go.Proofs.YtjhnapbaaifmnaaDoor
open Go Go.RowKit Go.Lib

/-- What digits computes: k digits may still be read, n is read. -/
def digL : Nat → Int → List UInt8 → Int × List UInt8
  | 0, n, l => (n, l)
  | _ + 1, n, [] => (n, [])
  | k + 1, n, c :: l => if 48 ≤ c.toNat ∧ c.toNat ≤ 57 then digL k (n * 10 + ((c.toNat : Int) - 48)) l else (n, c :: l)

set_option maxRecDepth 100000 in
set_option maxHeartbeats 4000000 in
theorem dig_any (l : List UInt8) (hl : l.length ≤ 9223372036854775807) (w : World) :
    Calls Tryd.prog 47 #[.string ⟨l.toArray⟩] w fun e w' => e = .returned (.tuple #[.int .i64 (digL 13 0 l).1, .string ⟨(digL 13 0 l).2.toArray⟩]) ∧ Below w.heap.size w w' := by
  go_enter Tryd.func47, Tryd.ntmps47
  go_wp2_with fail
  go_loopw [0, 4, 5] (fun s m i wr => ∃ (T : List UInt8) (N : Int) (k : Nat), s = .string ⟨T.toArray⟩ ∧ m = .int .i64 N ∧ i = .int .i64 k ∧ k ≤ 13 ∧ 0 ≤ N ∧ N < 10 ^ k ∧ T.length ≤ 9223372036854775807 ∧ digL (13 - k) N T = digL 13 0 l ∧ Below w.heap.size w wr) (fun _ _ i _ => (13 - RowKit.intOf i).toNat)
  case atStart => exact ⟨l, 0, 0, rfl, rfl, rfl, by omega, by omega, by simp, hl, rfl, Below.refl _ _⟩
  case round =>
    obtain ⟨T, N, k, rfl, rfl, rfl, hk, hN0, hN1, hT, hD, hB⟩ := hrel
    have HD := Lib.hid hD
    have HB := Lib.hid hB
    have HN1 := Lib.hid hN1
    have hP : (10 : Int) ^ k ≤ 10000000000000 := by
      have e : ((10 ^ k : Nat) : Int) = (10 : Int) ^ k := by simp
      have := Nat.pow_le_pow_right (n := 10) (by omega) hk
      rw [← e]; omega
    have hN2 : N ≤ 10000000000000 := by omega
    clear hD hB hN1 hP
    by_cases h : k < 13
    · rcases T with _ | ⟨c, T⟩
      · have hr : digL 13 0 l = (N, []) := by
          rw [← HD.out]; obtain ⟨j, hj⟩ : ∃ j, 13 - k = j + 1 := ⟨12 - k, by omega⟩
          rw [hj]; rfl
        have HR := Lib.hid hr
        clear hr
        go_wp2_with fail
        refine bodyPost_ret (v := .tuple #[.int .i64 N, .string ⟨(([] : List UInt8)).toArray⟩]) (by simp [results, Tryd.results47, go_sem]) rfl ⟨by rw [HR.out], HB.out⟩
      · have he : ∀ h, (⟨(c :: T).toArray⟩ : ByteArray)[0]'h = c := fun _ => rfl
        have hz : ((T.length : Int) + 1 == 0) = false := by simp; omega
        have hc8 : c.toNat < 256 := c.toNat_lt
        by_cases h1 : 48 ≤ c.toNat
        · have g1 : decide ((c.toNat : Int) < 48) = false := decide_eq_false (by omega)
          have g1' : decide (c.toNat < 48) = false := decide_eq_false (by omega)
          by_cases h2 : c.toNat ≤ 57
          · have g2 : decide ((57 : Int) < (c.toNat : Int)) = false := decide_eq_false (by omega)
            have g2' : decide (57 < c.toNat) = false := decide_eq_false (by omega)
            go_wp2_with fail
            go_quiet (fail)
            have hx : (⟨(c :: T).toArray⟩ : ByteArray).extract 1 (T.length + 1) = ⟨T.toArray⟩ := ByteArray.ext (by simp)
            have hp : (10 : Int) ^ (k + 1) = 10 ^ k * 10 := Int.pow_succ _ _
            have hn := HN1.out
            have hr : digL (13 - (k + 1)) (N * 10 + ((c.toNat : Int) - 48)) T = digL 13 0 l := by
              rw [← HD.out]; obtain ⟨j, hj⟩ : ∃ j, 13 - k = j + 1 := ⟨12 - k, by omega⟩
              rw [hj, show 13 - (k + 1) = j by omega]; show _ = (if _ then _ else _); rw [if_pos ⟨h1, h2⟩]
            go_wp2_with fail
            refine ⟨⟨T, N * 10 + ((c.toNat : Int) - 48), k + 1, by rw [hx], rfl, by go_num, by omega, by omega, by rw [hp]; omega, by simp at hT; omega, hr, below_drewN HB.out _⟩, by simp [RowKit.intOf]; omega⟩
          · have g2 : decide ((57 : Int) < (c.toNat : Int)) = true := decide_eq_true (by omega)
            have g2' : decide (57 < c.toNat) = true := decide_eq_true (by omega)
            have hr : digL 13 0 l = (N, c :: T) := by
              rw [← HD.out]; obtain ⟨j, hj⟩ : ∃ j, 13 - k = j + 1 := ⟨12 - k, by omega⟩
              rw [hj]; show (if _ then _ else _) = _; rw [if_neg (by omega)]
            have HR := Lib.hid hr
            clear hr
            go_wp2_with fail
            refine bodyPost_ret (v := .tuple #[.int .i64 N, .string ⟨(c :: T).toArray⟩]) (by simp [results, Tryd.results47, go_sem]) rfl ⟨by rw [HR.out], HB.out⟩
        · have g1 : decide ((c.toNat : Int) < 48) = true := decide_eq_true (by omega)
          have g1' : decide (c.toNat < 48) = true := decide_eq_true (by omega)
          have hr : digL 13 0 l = (N, c :: T) := by
            rw [← HD.out]; obtain ⟨j, hj⟩ : ∃ j, 13 - k = j + 1 := ⟨12 - k, by omega⟩
            rw [hj]; show (if _ then _ else _) = _; rw [if_neg (by omega)]
          have HR := Lib.hid hr
          clear hr
          go_wp2_with fail
          refine bodyPost_ret (v := .tuple #[.int .i64 N, .string ⟨(c :: T).toArray⟩]) (by simp [results, Tryd.results47, go_sem]) rfl ⟨by rw [HR.out], HB.out⟩
    · obtain rfl : k = 13 := by omega
      have hr : digL 13 0 l = (N, T) := by rw [← HD.out]; rfl
      have HR := Lib.hid hr
      clear hr
      go_wp2_with fail
      refine bodyPost_ret (v := .tuple #[.int .i64 N, .string ⟨T.toArray⟩]) (by simp [results, Tryd.results47, go_sem]) rfl ⟨by rw [HR.out], HB.out⟩
end Go.Proofs.YtjhnapbaaifmnaaDoor
