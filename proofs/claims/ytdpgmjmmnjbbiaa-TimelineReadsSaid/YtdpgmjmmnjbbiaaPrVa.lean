/-
  Layer 6 (timeline): the walk of TimelineMerges: the answer is true. Condition: the two arguments read as changes.
-/
import Derived.Test.YtdpgmjmmnjbbiaaPrUy
namespace Go.Proofs.Ytdpgmjmmnjbbiaa.Tl
open Go Go.RowKit Go.Lib Go.Sort Go.Shelf Go.Proofs Go.Proofs.Ytdpgmjmmnjbbiaa Go.Proofs.Ytdpgmjmmnjbbiaa.Tp
set_option linter.unusedVariables false

theorem mrgL_len (l m : List Chg) : (mrgL l m).length ≤ 1024 := by
  unfold mrgL
  split
  · rename_i h
    unfold mrgE at h
    split at h
    · contradiction
    · split at h
      · contradiction
      · split at h
        · cases h
        · omega
  · simp
set_option maxRecDepth 100000 in
set_option maxHeartbeats 4000000 in
theorem merges_any (a : Option Addr) (na ca : Nat) (l : List Chg) (b : Option Addr) (nb cb : Nat) (m : List Chg) (w : World) (ha : Lst w a na ca l) (hb : Lst w b nb cb m) :
    Calls Try.prog 13 #[.slice a na ca, .slice b nb cb] w (TrueR w) := by
  have C1 := Lib.hid (merge_any a na ca l b nb cb m w ha hb)
  have C2 := Lib.hid (fun W ha hb => rmerge_any a na ca l b nb cb m W ha hb)
  have HA := Lib.hid ha
  have HB := Lib.hid hb
  have ML := mrgL_len l m
  unfold MrgR at C1 C2
  have te : (mrgE l m == mrgE l m) = true := by simp
  generalize mrgL l m = u at *
  generalize mrgE l m = er at *
  clear ha hb
  go_enter Try.func13, Try.ntmps13
  go_wp2_with fail
  refine C1.out.mono ?_
  rintro e w1 ⟨x, cx, rfl, hx, b1⟩
  have X1 := Lib.hid (hx.lst (by omega))
  have HA1 := Lib.hid (HA.out.more b1)
  have HB1 := Lib.hid (HB.out.more b1)
  have B1 := Lib.hid b1
  clear hx b1 HA HB C1
  go_wp2_with fail
  refine (C2.out w1 HA1.out HB1.out).mono ?_
  rintro e w2 ⟨y, cy, rfl, hy, b2⟩
  have Y2 := Lib.hid (hy.lst (by omega))
  have X2 := Lib.hid (X1.out.more b2)
  have B2 := Lib.hid (B1.out.trans (b2.mono B1.out.size))
  clear hy b2 HA1 HB1 C2 X1 B1
  generalize u.length = n at *
  have S := Lib.hid (same_one x n cx y cy u (by omega) _ X2.out.1 Y2.out.1)
  clear X2 Y2
  go_wp2_with (go_at_call 15; (with_reducible refine S.out.mono ?_); rintro e w3 ⟨rfl, b3⟩)
  go_ret
  exact ⟨rfl, B2.out.trans (b3.mono B2.out.size)⟩

set_option maxRecDepth 100000 in
set_option maxHeartbeats 4000000 in
theorem merges_walk (t0 : Option Addr) (len cap : Nat) (zs : List Int) (a : Option Addr) (na ca : Nat) (l : List Chg) (b : Option Addr) (nb cb : Nat) (m : List Chg) (w : World) (hr : IsRow w t0 len cap zs) (hlen : len ≤ 9223372036854775807) (ha : Lst w a na ca l) (hb : Lst w b nb cb m) :
    Calls Try.prog 4 #[.slice t0 len cap, .slice a na ca, .slice b nb cb] w (TrueR w) := by
  have T0 := Lib.hid (tape_new hr hlen 45)
  have B0 := Lib.hid (show Below w.heap.size w (w.alloc (.cells #[.slice t0 len cap, .int .i64 0] 45)) from (Below.refl _ _).alloc (Nat.le_refl _) _)
  have MA := Lib.hid (fun W (hB : Below w.heap.size w W) => merges_any a na ca l b nb cb m W (ha.more hB) (hb.more hB))
  clear hr hlen ha hb
  go_enter Try.func4, Try.ntmps4
  go_wp2_with fail
  refine (gnew_any t0 len cap _).mono ?_
  rintro e w0 ⟨rfl, rfl⟩
  go_wp2_with fail
  go_loopw [8] (fun z wr => ∃ i : Nat, i ≤ 3 ∧ z = .int .i64 i ∧ Hid (TapeAt w.heap.size wr) ∧ Hid (Below w.heap.size w wr)) (fun z _ => 3 - (intOf z).toNat)
  case atStart => exact ⟨0, by omega, rfl, T0, B0⟩
  case round =>
    clear T0 B0
    obtain ⟨i, hi, rfl, HT, HB⟩ := hrel
    by_cases hlt : i < 3
    · have hd0 : decide ((i : Int) < 3) = true := decide_eq_true (by omega)
      go_wp2_with fail
      refine (changes_any w.heap.size 6 true (by omega) _ HT.out).mono ?_
      rintro e w1 ⟨a1, c1, cs1, rfl, hA1, hl1, _, T1, O1⟩
      have HT1 := Lib.hid T1
      have NB1 := Lib.hid (hA1.ne (b := w.heap.size) HT.out.lt)
      have L1 := Lib.hid (hA1.lst (by omega))
      have B1 := Lib.hid (HB.out.trans (O1.below (Nat.le_refl _) HB.out.size))
      clear HT HB hA1 T1 O1
      generalize cs1.length = n1 at *
      go_wp2_with fail
      refine (changes_any w.heap.size 6 true (by omega) _ HT1.out).mono ?_
      rintro e w2 ⟨a2, c2, cs2, rfl, hA2, hl2, _, T2, O2⟩
      have HT2 := Lib.hid T2
      have L2 := Lib.hid (hA2.lst (by omega))
      have L1' := Lib.hid (L1.out.only O2 NB1.out)
      have B2 := Lib.hid (B1.out.trans (O2.below (Nat.le_refl _) B1.out.size))
      clear HT1 B1 L1 hA2 T2 O2 NB1
      generalize cs2.length = n2 at *
      have C := Lib.hid (merges_any a1 n1 c1 cs1 a2 n2 c2 cs2 w2 L1'.out L2.out)
      clear L1' L2
      go_wp2_with fail
      refine C.out.mono ?_
      rintro e w3 ⟨rfl, b3⟩
      have HT3 := Lib.hid (HT2.out.below b3)
      have B3 := Lib.hid (B2.out.trans (b3.mono B2.out.size))
      clear HT2 B2 b3 C
      go_wp2_with fail
      go_roundw
      case rel => exact ⟨i + 1, by omega, by go_num, HT3, B3⟩
      case measure => simp [intOf]; omega
    · have hd0 : decide ((i : Int) < 3) = false := decide_eq_false (by omega)
      have M := Lib.hid (MA.out _ HB.out)
      clear MA HT
      by_cases q1 : 40 < na
      · have t1 : decide ((40 : Int) < (na : Int)) = true := decide_eq_true (by omega)
        go_wp2_with fail
        go_ret
        exact ⟨rfl, HB.out⟩
      · have t1 : decide ((40 : Int) < (na : Int)) = false := decide_eq_false (by omega)
        by_cases q2 : 40 < nb
        · have t2 : decide ((40 : Int) < (nb : Int)) = true := decide_eq_true (by omega)
          go_wp2_with fail
          go_ret
          exact ⟨rfl, HB.out⟩
        · have t2 : decide ((40 : Int) < (nb : Int)) = false := decide_eq_false (by omega)
          go_wp2_with (first
            | (go_at_call 13; (with_reducible refine M.out.mono ?_); rintro e w8 ⟨rfl, b8⟩)
            | (go_at_call 12; (with_reducible refine (sane_any _).mono ?_); rintro e w9 ⟨rfl, b9⟩))
          go_ret
          exact ⟨rfl, (HB.out.trans (b8.mono HB.out.size)).trans (b9.mono (HB.out.trans (b8.mono HB.out.size)).size)⟩
end Go.Proofs.Ytdpgmjmmnjbbiaa.Tl
