/-
  RoundingAllocates returns true: the parts of a division, or the error, are those of the reference, for made and for arbitrary arguments. Condition: the lists' cells hold ints.
-/
import Derived.Test.YtgkjdaeihjedkaaPrBoX
import Derived.Test.YtgkjdaeihjedkaaPrWtsX
import Derived.Test.YtgkjdaeihjedkaaPrSanX
import Derived.Deep.RegionHeld3
namespace Go.Proofs.Ytgkjdaeihjedkaa
open Go Go.RowKit Go.Lib Go.Sort Go.Shelf Go.Proofs Go.Proofs.Ytgkjdaeihjedkaa.Tp
set_option linter.unusedVariables false

theorem wsl_row {w : World} {a : Option Addr} {n cap m : Nat} {zs : List Int} (h : IsRow w a n cap zs) (hm : m ≤ n) : WSl w a m (fun i => zs.getD i 0) := by
  rcases h with ⟨_, h, _⟩ | ⟨x, h0, h1, h2, h3, h4, _⟩
  · exact .inl (by omega)
  · rcases Nat.eq_zero_or_pos m with e | e
    · exact .inl e
    · have hb := World.block_lt_of_cell? w _ (h4 0 (by omega))
      rw [add_block] at hb
      exact .inr ⟨x, h0, hb, fun i hi => h4 i (by omega)⟩
theorem row_keep {w w' : World} {a : Option Addr} {n cap : Nat} {zs : List Int} (h : IsRow w a n cap zs) (hb : Below w.heap.size w w') : IsRow w' a n cap zs := by
  rcases h with h | ⟨x, h0, h1, h2, h3, h4, h5⟩
  · exact .inl h
  · exact .inr ⟨x, h0, h1, h2, h3, fun i hi => (hb.cell (World.block_lt_of_cell? w _ (h4 i hi))).trans (h4 i hi), h5⟩

set_option maxRecDepth 100000 in
set_option maxHeartbeats 4000000 in
theorem all_walk (p : Option Addr) (len cap0 : Nat) (zs : List Int) (T : Int) (a2 : Option Addr) (n2 cap2 : Nat) (zs2 : List Int) (hT0 : -9223372036854775808 ≤ T) (hT1 : T ≤ 9223372036854775807)
    (w : World) (hr : IsRow w p len cap0 zs) (hl : len ≤ 9223372036854775807) (hr2 : IsRow w a2 n2 cap2 zs2) (hl2 : n2 ≤ 9223372036854775807) :
    Calls Try.prog 4 #[.slice p len cap0, .int .i64 T, .slice a2 n2 cap2] w fun e w' => e = .returned (.bool true) ∧ Below w.heap.size w w' := by
  have K0 : Kept w w.heap.size (w.alloc (.cells #[.slice p len cap0, .int .i64 0] 37)) := ⟨tape_new hr hl _, boxed1 _ _, Nat.le_refl _⟩
  have HK := Lib.hid K0
  have HR2 := Lib.hid hr2
  have hc2 : n2 ≤ cap2 ∧ cap2 ≤ 9223372036854775807 := by
    rcases hr2 with ⟨_, h1, h2, _⟩ | ⟨_, _, h1, h2, _⟩
    · omega
    · unfold maxLen at h2; omega
  clear hr K0 hr2
  go_enter Try.func4, Try.ntmps4
  go_wp2_with (go_at_call 5; refine (gnew_any _ _ _ _).mono ?_; rintro e w' ⟨rfl, rfl⟩)
  go_loopw [8] (fun i wr => ∃ k : Nat, k ≤ 4 ∧ i = .int .i64 k ∧ Hid (Kept w w.heap.size wr)) (fun i _ => 4 - (RowKit.intOf i).toNat)
  case atStart => exact ⟨0, by omega, rfl, HK⟩
  case round =>
    clear HK
    obtain ⟨k, hk, rfl, HK⟩ := hrel
    by_cases hlt : k < 4
    · go_wp2_with fail
      refine (next_any w.heap.size 1000 (by omega) (by omega) _ HK.out.tape).mono ?_
      rintro e w1 ⟨v1, rfl, x1, y1, T1, O1⟩
      have I1 := Lib.hid (HK.out.only T1 O1)
      clear T1 O1 HK
      go_wp2_with fail
      refine (next_any w.heap.size 7 (by omega) (by omega) _ I1.out.tape).mono ?_
      rintro e w2 ⟨v2, rfl, x2, y2, T2, O2⟩
      have I2 := Lib.hid (I1.out.only T2 O2)
      clear T2 O2 I1
      go_wp2_with fail
      refine (pick_new w.heap.size [100, -v1, v2, 1000000000, -1000000000, 1000000001] (by simp) (by simp) w2 3 _ rfl I2.out.tape).mono ?_
      rintro e w3 ⟨v3, rfl, m3, T3, O3⟩
      have I3 := Lib.hid (I2.out.only T3 O3)
      clear T3 O3 I2 m3
      go_wp2_with fail
      refine (weights_any w.heap.size _ I3.out.tape).mono ?_
      rintro e w4 ⟨n, cap, a, g, rfl, hn6, hg, hwt, T4, O4⟩
      have I4 := Lib.hid (I3.out.only T4 O4)
      have hw4 : WSl w4 a n g := by
        rcases hwt with h | ⟨x, h1, h2, h3, h4⟩
        · exact .inl h
        · exact .inr ⟨x, h1, h4, h2⟩
      have HW := Lib.hid hw4
      clear T4 O4 I3 hg hwt hw4
      go_wp2_with fail
      refine (allocates_any v3 a n cap g (by omega) _ HW.out).mono ?_
      rintro e w5 ⟨rfl, h5⟩
      have I5 := Lib.hid (I4.out.more h5)
      clear h5 I4 HW
      go_wp2_with fail
      go_roundw
      case rel => exact ⟨k + 1, hlt, by go_num, I5⟩
      case measure => simp [RowKit.intOf]; omega
    · have KD := HK.out.more (Below.drew (Below.refl _ _))
      have HM := Lib.hid (mod_any T 1000 hT0 hT1 (by omega) (by omega))
      rcases Nat.lt_or_ge 60 n2 with h60 | h60
      · have t1 : decide ((60 : Int) < (n2 : Int)) = true := decide_eq_true (by omega)
        rcases Nat.lt_or_ge 1024 n2 with h1 | h1
        · have t2 : decide ((n2 : Int) ≤ 1024) = false := decide_eq_false (by omega)
          have hmin : min (n2 : Int) 60 = 60 := by omega
          have c60 : (60 : Int) ≤ (cap2 : Int) := by omega
          go_wp2_with fail
          go_region_held3 (fun w' => True) (trivial)
          (first
            | (go_at_call 6; refine (HM.out _).mono ?_; rintro e wM ⟨rfl, rfl⟩)
            | (go_at_call 11; refine (sane_any _).mono ?_; rintro e wS ⟨rfl, hS⟩; have KS := KB.more hS)
            | (go_at_call 10; refine (allocates_any _ a2 60 cap2 (fun i => zs2.getD i 0) (by omega) _ (wsl_row (row_keep HR2.out KA.below) (by omega))).mono ?_; rintro e wB ⟨rfl, hB⟩; have KB := KA.more hB)
            | (go_at_call 10; refine (allocates_any T a2 n2 cap2 (fun i => zs2.getD i 0) hl2 _ (wsl_row (row_keep HR2.out KD.below) (Nat.le_refl _))).mono ?_; rintro e wA ⟨rfl, hA⟩; have KA := KD.more hA))
          all_goals (go_wp2_with fail; go_ret; exact ⟨rfl, KS.below⟩)
        · have t2 : decide ((n2 : Int) ≤ 1024) = true := decide_eq_true (by omega)
          go_wp2_with fail
          go_quiet (fail)
          go_wp2_with fail
          go_ret
          exact ⟨rfl, (HK.out.drewN nq).below⟩
      · have t1 : decide ((60 : Int) < (n2 : Int)) = false := decide_eq_false (by omega)
        have hmin : min (n2 : Int) 60 = (n2 : Int) := by omega
        have cn : (n2 : Int) ≤ (cap2 : Int) := by omega
        have g1 : (0 : Int) ≤ (n2 : Int) := by omega
        have g3 : ((n2 : Int)).toNat = n2 := by omega
        go_wp2_with fail
        first
          | (go_region_held (fun w' => True) (trivial)
          (first
          | (go_at_call 6; refine (HM.out _).mono ?_; rintro e wM ⟨rfl, rfl⟩)
          | (go_at_call 11; refine (sane_any _).mono ?_; rintro e wS ⟨rfl, hS⟩; have KS := KB.more hS)
          | (go_at_call 10; refine (allocates_any _ a2 n2 cap2 (fun i => zs2.getD i 0) (by omega) _ (wsl_row (row_keep HR2.out KA.below) (by omega))).mono ?_; rintro e wB ⟨rfl, hB⟩; have KB := KA.more hB)
          | (go_at_call 10; refine (allocates_any T a2 n2 cap2 (fun i => zs2.getD i 0) hl2 _ (wsl_row (row_keep HR2.out KD.below) (Nat.le_refl _))).mono ?_; rintro e wA ⟨rfl, hA⟩; have KA := KD.more hA)))
          | fail
        all_goals (go_wp2_with fail; go_ret; exact ⟨rfl, KS.below⟩)
end Go.Proofs.Ytgkjdaeihjedkaa
