/-
  RoundingParts: the walk: five made products and an arbitrary one agree; the answer is true.
-/
import Derived.Test.YtnkpbkebbfelfaaPrKept
import Derived.Test.YtnkpbkebbfelfaaPrPart
import Derived.Test.YtnkpbkebbfelfaaPrSane2
namespace Go.Proofs.Ytnkpbkebbfelfaa
open Go Go.RowKit Go.Lib Go.Proofs.Ytnkpbkebbfelfaa.Tp
set_option linter.unusedVariables false

set_option maxRecDepth 100000 in
set_option maxHeartbeats 8000000 in
theorem parts_walk (p : Option Addr) (len cap : Nat) (zs : List Int) (a n d u m : Int) (ha0 : -9223372036854775808 ≤ a) (ha1 : a ≤ 9223372036854775807) (hn0 : -9223372036854775808 ≤ n) (hn1 : n ≤ 9223372036854775807) (hd0 : -9223372036854775808 ≤ d) (hd1 : d ≤ 9223372036854775807) (hu0 : -9223372036854775808 ≤ u) (hu1 : u ≤ 9223372036854775807) (hm0 : -9223372036854775808 ≤ m) (hm1 : m ≤ 9223372036854775807)
    (w : World) (hr : IsRow w p len cap zs) (hl : len ≤ 9223372036854775807) :
    Calls Try.prog 5 #[.slice p len cap, .int .i64 a, .int .i64 n, .int .i64 d, .int .i64 u, .int .i64 m] w fun e w' => e = .returned (.bool true) ∧ Below w.heap.size w w' := by
  have K0 : Kept w w.heap.size (w.alloc (.cells #[.slice p len cap, .int .i64 0] 53)) := ⟨tape_new hr hl _, boxed1 _ _, Nat.le_refl _⟩
  have HK := Lib.hid K0
  clear hr K0
  go_enter Try.func5, Try.ntmps5
  go_wp2_with (go_at_call 11; refine (gnew_any _ _ _ _).mono ?_; rintro e w' ⟨rfl, rfl⟩)
  go_loopw [14] (fun i wr => ∃ k : Nat, k ≤ 5 ∧ i = .int .i64 k ∧ Kept w w.heap.size wr) (fun i _ => (5 - RowKit.intOf i).toNat)
  case atStart => exact ⟨0, by omega, rfl, HK.out⟩
  case round =>
    clear HK
    obtain ⟨k, hk, rfl, hI⟩ := hrel
    have I0 := Lib.hid hI
    clear hI
    by_cases h : k < 5
    · go_wp2_with fail
      refine (next_any w.heap.size 200001 (by omega) (by omega) _ I0.out.tape).mono ?_
      rintro e w1 ⟨v1, rfl, x1, y1, T1, O1⟩
      have I1 := Lib.hid (I0.out.only T1 O1)
      clear T1 O1 I0
      go_wp2_with fail
      refine (pick_new w.heap.size [v1 - 100000, 1000000000000, -1000000000000, -5] (by simp) (by simp) _ _ _ (by simp) I1.out.tape).mono ?_
      rintro e w2 ⟨p2, rfl, m2, T2, O2⟩
      have I2 := Lib.hid (I1.out.only T2 O2)
      simp only [List.mem_cons, List.not_mem_nil, or_false] at m2
      have r2 : -1000000000000 ≤ p2 ∧ p2 ≤ 1000000000000 := by omega
      clear T2 O2 I1 m2
      go_wp2_with fail
      refine (next_any w.heap.size 1000 (by omega) (by omega) _ I2.out.tape).mono ?_
      rintro e w3 ⟨v3, rfl, x3, y3, T3, O3⟩
      have I3 := Lib.hid (I2.out.only T3 O3)
      clear T3 O3 I2
      go_wp2_with fail
      refine (pick_new w.heap.size [v3, 1000000, 0] (by simp) (by simp) _ _ _ (by simp) I3.out.tape).mono ?_
      rintro e w4 ⟨p4, rfl, m4, T4, O4⟩
      have I4 := Lib.hid (I3.out.only T4 O4)
      simp only [List.mem_cons, List.not_mem_nil, or_false] at m4
      have r4 : 0 ≤ p4 ∧ p4 ≤ 1000000 := by omega
      clear T4 O4 I3 m4
      go_wp2_with fail
      refine (next_any w.heap.size 1000 (by omega) (by omega) _ I4.out.tape).mono ?_
      rintro e w5 ⟨v5, rfl, x5, y5, T5, O5⟩
      have I5 := Lib.hid (I4.out.only T5 O5)
      clear T5 O5 I4
      go_wp2_with fail
      refine (pick_new w.heap.size [1 + v5, 1000000, 1] (by simp) (by simp) _ _ _ (by simp) I5.out.tape).mono ?_
      rintro e w6 ⟨p6, rfl, m6, T6, O6⟩
      have I6 := Lib.hid (I5.out.only T6 O6)
      simp only [List.mem_cons, List.not_mem_nil, or_false] at m6
      have r6 : 1 ≤ p6 ∧ p6 ≤ 1000000 := by omega
      clear T6 O6 I5 m6
      go_wp2_with fail
      refine (pick_new w.heap.size [1, 5, 100, 1000000] (by simp) (by simp) _ _ _ (by simp) I6.out.tape).mono ?_
      rintro e w7 ⟨p7, rfl, m7, T7, O7⟩
      have I7 := Lib.hid (I6.out.only T7 O7)
      simp only [List.mem_cons, List.not_mem_nil, or_false] at m7
      have r7 : 1 ≤ p7 ∧ p7 ≤ 1000000 := by omega
      clear T7 O7 I6 m7
      go_wp2_with fail
      refine (next_any w.heap.size 7 (by omega) (by omega) _ I7.out.tape).mono ?_
      rintro e w8 ⟨v8, rfl, x8, y8, T8, O8⟩
      have I8 := Lib.hid (I7.out.only T8 O8)
      clear T8 O8 I7
      go_wp2_with fail
      refine (part_any p2 p4 p6 p7 v8 (by omega) (by omega) (by omega) (by omega) (by omega) (by omega) (by omega) (by omega) (by omega) (by omega) _).mono ?_
      rintro e w9 ⟨rfl, q9, rfl⟩
      have I9 := Lib.hid (I8.out.drewN q9)
      clear I8
      go_wp2_with fail
      refine (rpart_any p2 p4 p6 p7 v8 (by omega) (by omega) (by omega) (by omega) (by omega) (by omega) (by omega) (by omega) (by omega) (by omega) _).mono ?_
      rintro e w10 ⟨rfl, rfl⟩
      go_wp2_with fail
      exact ⟨⟨k + 1, by omega, by go_num, I9.out⟩, by simp [RowKit.intOf]; omega⟩
    · obtain rfl : k = 5 := by omega
      go_wp2_with fail
      refine (part_any a n d u m ha0 ha1 hn0 hn1 hd0 hd1 hu0 hu1 hm0 hm1 _).mono ?_
      rintro e w9 ⟨rfl, q9, rfl⟩
      have I9 := Lib.hid (I0.out.drewN q9)
      clear I0
      go_wp2_with fail
      refine (rpart_any a n d u m ha0 ha1 hn0 hn1 hd0 hd1 hu0 hu1 hm0 hm1 _).mono ?_
      rintro e w10 ⟨rfl, rfl⟩
      go_wp2_with fail
      refine (sane_any _).mono ?_
      rintro e w11 ⟨rfl, hw⟩
      have I11 := Lib.hid (I9.out.more hw)
      clear hw I9
      go_wp2_with fail
      go_ret
      exact ⟨rfl, I11.out.below⟩
end Go.Proofs.Ytnkpbkebbfelfaa
