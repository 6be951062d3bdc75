/-
  Layer 1 (ratio): the contract of the reference's Decimal: what strconv.Itoa gives. Condition: an int.
-/
import Derived.Test.YtjhnapbaaifmnaaDoorPrFmt
import Derived.Lib.SlBytesRow
namespace Go.Proofs.YtjhnapbaaifmnaaDoor
open Go Go.RowKit Go.Lib

/-- What the loop keeps: the digits of M, if there are any left, and L behind them are those of N. -/
def DecI (N M : Nat) (L : List UInt8) : Prop := (L = [] ∧ M = N) ∨ (L ≠ [] ∧ ((M = 0 ∧ L = decDigits N) ∨ (M ≠ 0 ∧ decDigits M ++ L = decDigits N)))
theorem dec_start (N : Nat) : DecI N N [] := .inl ⟨rfl, rfl⟩
theorem dec_step {N M : Nat} {L : List UInt8} (h : DecI N M L) (hc : M ≠ 0 ∨ L = []) : DecI N (M / 10) (UInt8.ofNat (48 + M % 10) :: L) := by
  have key : ∀ K : Nat, decDigits K = (if K / 10 = 0 then [] else decDigits (K / 10)) ++ [UInt8.ofNat (48 + K % 10)] := by
    intro K
    by_cases hK : K < 10
    · rw [decDigits_one hK, if_pos (by omega), Nat.mod_eq_of_lt hK]; rfl
    · rw [decDigits, dif_neg hK, if_neg (by omega)]
  refine .inr ⟨by simp, ?_⟩
  rcases h with ⟨rfl, rfl⟩ | ⟨hL, ⟨rfl, _⟩ | ⟨hM, e⟩⟩
  · have k := key M
    by_cases z : M / 10 = 0
    · rw [if_pos z] at k; exact .inl ⟨z, k.symm⟩
    · rw [if_neg z] at k; exact .inr ⟨z, k.symm⟩
  · rcases hc with hc | hc
    · exact absurd rfl hc
    · exact absurd hc hL
  · have k := key M
    by_cases z : M / 10 = 0
    · rw [if_pos z] at k; rw [k] at e; exact .inl ⟨z, by simpa using e⟩
    · rw [if_neg z] at k; rw [k] at e; exact .inr ⟨z, by simpa using e⟩
theorem dec_end {N : Nat} {L : List UInt8} (h : DecI N 0 L) (hL : L ≠ []) : L = decDigits N := by
  rcases h with ⟨h, _⟩ | ⟨_, ⟨_, h⟩ | ⟨h, _⟩⟩
  · exact absurd h hL
  · exact h
  · exact absurd rfl h
theorem dec_len {N M : Nat} {L : List UInt8} (h : DecI N M L) (hN : N ≤ 9223372036854775808) : L.length ≤ 20 := by
  have k : (decDigits N).length ≤ 20 := by rw [decDigits_length]; exact nDigits_le20 N (by omega)
  rcases h with ⟨rfl, _⟩ | ⟨_, ⟨_, h⟩ | ⟨_, h⟩⟩
  · simp
  · rw [h]; exact k
  · rw [← h, List.length_append] at k; omega
/-- 'string([]byte{z})'. -/
theorem conv_one (w : World) (z : Int) (c : Nat) (hz : z = c) (hc : c < 256) :
    (convert 69 9 (.slice (some ⟨w.heap.size, 0, none⟩) 1 1)).run Tryd.prog (w.alloc (.cells #[.int .u8 z] 5)) = .ok (.string ⟨#[UInt8.ofNat c]⟩) (w.alloc (.cells #[.int .u8 z] 5)) := by
  subst hz
  have hB : Lib.Bytes (w.alloc (.cells #[.int .u8 (c : Int)] 5)) w.heap.size 0 ⟨#[UInt8.ofNat c]⟩ := by
    intro i hi
    obtain rfl : i = 0 := by have : i < 1 := hi; omega
    have e : (ByteArray.mk #[UInt8.ofNat c])[0].toNat = c := by show (UInt8.ofNat c).toNat = c; simp; omega
    rw [e]
    exact World.cell?_alloc_new _ _ _ _
  exact Lib.run_convert_whole (P := Tryd.prog) _ 69 5 9 (by kernel_rfl) (by kernel_rfl) (by kernel_rfl) w.heap.size 0 ⟨#[UInt8.ofNat c]⟩ hB 1
/-- 1 where the string is empty. -/
def emptyOf : Value → Nat
  | .string b => if b.size = 0 then 1 else 0
  | _ => 0

set_option maxRecDepth 100000 in
set_option maxHeartbeats 4000000 in
theorem dec_any (n : Int) (h0 : -9223372036854775808 ≤ n) (h1 : n ≤ 9223372036854775807) (w : World) :
    Calls Tryd.prog 44 #[.int .i64 n] w fun e w' => e = .returned (.string ⟨(Lib.itoa n).toArray⟩) ∧ Below w.heap.size w w' := by
  go_enter Tryd.func44, Tryd.ntmps44
  go_wp2_with (go_at_call 32; refine (size_any n h0 h1 _).mono ?_; rintro e w' ⟨rfl, rfl⟩)
  have b10 : n.natAbs ≤ 9223372036854775808 := by omega
  go_loopw [3, 4] (fun s m wr => ∃ (M : Nat) (L : List UInt8), s = .string ⟨L.toArray⟩ ∧ m = .int .u64 M ∧ DecI n.natAbs M L ∧ M ≤ 9223372036854775808 ∧ Below w.heap.size w wr) (fun s m _ => (RowKit.intOf m).toNat + emptyOf s)
  case atStart => exact ⟨n.natAbs, [], rfl, rfl, dec_start _, b10, Below.refl _ _⟩
  case round =>
    obtain ⟨M, L, rfl, rfl, hD, hM, hB⟩ := hrel
    have hlen := dec_len hD b10
    have HD := Lib.hid hD
    have HB := Lib.hid hB
    clear hD hB
    have hx : UInt8.ofNat (48 + M % 10) = 48 + UInt8.ofNat (M % 10) := by simp [UInt8.ofNat_add]
    have hS := Lib.hid (show Value.string (⟨#[48 + UInt8.ofNat (M % 10)]⟩ ++ ⟨L.toArray⟩) = Value.string ⟨(UInt8.ofNat (48 + M % 10) :: L).toArray⟩ by
      rw [show UInt8.ofNat (48 + M % 10) :: L = [UInt8.ofNat (48 + M % 10)] ++ L from rfl, bapp, hx])
    have hm0 := Lib.hid (show emptyOf (Value.string (⟨#[48 + UInt8.ofNat (M % 10)]⟩ ++ ⟨L.toArray⟩)) = 0 by
      rw [hS.out]; show (if ((UInt8.ofNat (48 + M % 10) :: L).toArray).size = 0 then 1 else 0) = 0; rw [if_neg (by simp)])
    have hc := conv_one wr (48 + (M : Int) % 10) (48 + M % 10) (by omega) (by omega)
    clear hx
    by_cases hz : M = 0
    · have hg : decide ((0 : Int) < (M : Int)) = false := decide_eq_false (by omega)
      have hg' : decide (0 < M) = false := decide_eq_false (by omega)
      have hZ := Lib.hid hz
      clear hz
      by_cases hL : L = []
      · have hE : L.isEmpty = true := by rw [hL]; rfl
        have hLL := Lib.hid hL
        clear hL
        go_wp2_with fail
        have hz := hZ.out
        have hm1 : emptyOf (Value.string ⟨L.toArray⟩) = 1 := by rw [hLL.out]; rfl
        rw [hm0.out, hm1]
        exact ⟨⟨M / 10, UInt8.ofNat (48 + M % 10) :: L, hS.out, by go_num, dec_step HD.out (.inr hLL.out), by omega, HB.out.alloc HB.out.size _⟩, by simp [RowKit.intOf]; omega⟩
      · have hE : L.isEmpty = false := by cases L with | nil => exact absurd rfl hL | cons _ _ => rfl
        have hd : L = decDigits n.natAbs := dec_end (hZ.out ▸ HD.out) hL
        have HL := Lib.hid hd
        clear hL hd hc
        by_cases hn : n < 0
        · have hn' : decide (n < 0) = true := decide_eq_true hn
          have hI := Lib.hid (show itoa n = 45 :: L by unfold itoa; rw [if_pos hn, HL.out])
          clear hn
          go_wp2_with fail
          go_ret
          exact ⟨by rw [hI.out, show (45 :: L) = [45] ++ L from rfl, bapp]; rfl, HB.out⟩
        · have hn' : decide (n < 0) = false := decide_eq_false hn
          have hI := Lib.hid (show itoa n = L by unfold itoa; rw [if_neg hn, HL.out]; congr 1; omega)
          clear hn
          go_wp2_with fail
          go_ret
          exact ⟨by rw [hI.out]; rfl, HB.out⟩
    · have hg : decide ((0 : Int) < (M : Int)) = true := decide_eq_true (by omega)
      have hg' : decide (0 < M) = true := decide_eq_true (by omega)
      have hZ := Lib.hid hz
      clear hz
      go_wp2_with fail
      have hz := hZ.out
      rw [hm0.out]
      exact ⟨⟨M / 10, UInt8.ofNat (48 + M % 10) :: L, hS.out, by go_num, dec_step HD.out (.inl hz), by omega, HB.out.alloc HB.out.size _⟩, by simp [RowKit.intOf]; omega⟩
end Go.Proofs.YtjhnapbaaifmnaaDoor
