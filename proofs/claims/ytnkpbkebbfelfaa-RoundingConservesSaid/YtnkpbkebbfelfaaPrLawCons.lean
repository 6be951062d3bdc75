/-
  RoundingConserves: the walk: the parts of a made division add up to the whole, and each is within one of its exact part; the answer is true.
-/
import Derived.Test.YtnkpbkebbfelfaaPrWts
import Derived.Test.YtnkpbkebbfelfaaPrShare3
import Derived.Test.YtnkpbkebbfelfaaPrSane2
import Derived.Deep.DeepCutAuto
namespace Go.Proofs.Ytnkpbkebbfelfaa
open Go Go.RowKit Go.Lib Go.Proofs.Ytnkpbkebbfelfaa.Tp
set_option linter.unusedVariables false

theorem sumTo_abs {f : Nat → Int} {M : Int} : ∀ {n : Nat}, (∀ i, i < n → -M ≤ f i ∧ f i ≤ M) → -(M * n) ≤ sumTo f n ∧ sumTo f n ≤ M * n
  | 0, _ => by simp [sumTo]
  | n + 1, h => by
    have a := sumTo_abs (n := n) fun i hi => h i (by omega)
    have b := h n (by omega)
    simp only [sumTo]
    have e : M * ((n + 1 : Nat) : Int) = M * n + M := by rw [Int.natCast_succ, Int.mul_add, Int.mul_one]
    omega
section
variable {n : Nat} [Inhabited (Fin n)] {T s : Int} {g : Nat → Int}
theorem allo_total (hs : 1 ≤ s) (hS : sumTo g n = s) (h0 : ∀ i, i < n → 0 ≤ g i) : sumTo (alloF T s g n) n = T := by
  by_cases hT : T < 0
  · have e : alloF T s g n = fun i => -(partF (-T) s g n (missK (-T) s g n) i) := by funext i; unfold alloF; rw [if_pos hT]
    rw [e, sumTo_neg, part_total (by omega) hs hS h0]; omega
  · have e : alloF T s g n = partF T s g n (missK T s g n) := by funext i; unfold alloF; rw [if_neg hT]
    rw [e, part_total (by omega) hs hS h0]
theorem allo_pos {i : Nat} (hT : 0 ≤ T) (hs : 1 ≤ s) (hS : sumTo g n = s) (h0 : ∀ i, i < n → 0 ≤ g i) :
    alloF T s g n i = T * g i / s ∨ (alloF T s g n i = T * g i / s + 1 ∧ T * g i % s ≠ 0) := by
  unfold alloF; rw [if_neg (by omega)]; exact part_near hT hs hS h0
theorem allo_neg {i : Nat} (hT : T < 0) (hs : 1 ≤ s) (hS : sumTo g n = s) (h0 : ∀ i, i < n → 0 ≤ g i) (hgi : 0 ≤ g i) :
    alloF T s g n i = (T * g i).tdiv s ∨ (alloF T s g n i = (T * g i).tdiv s - 1 ∧ (T * g i).tmod s ≠ 0) := by
  unfold alloF; rw [if_pos hT]
  have a := part_near (T := -T) (s := s) (g := g) (n := n) (i := i) (by omega) hs hS h0
  have e : T * g i = -(-T * g i) := by rw [Int.neg_mul, Int.neg_neg]
  rw [e, Int.neg_tdiv, Int.neg_tmod]
  have hg : 0 ≤ -T * g i := Int.mul_nonneg (by omega) hgi
  rw [Int.tdiv_eq_ediv_of_nonneg hg, Int.tmod_eq_emod_of_nonneg hg]
  omega
theorem allo_zero {i : Nat} (hs : 1 ≤ s) (hS : sumTo g n = s) (h0 : ∀ i, i < n → 0 ≤ g i) (hg : g i = 0) : alloF T s g n i = 0 := by
  by_cases hT : T < 0
  · have := allo_neg (i := i) hT hs hS h0 (by omega)
    rw [hg] at this
    simpa using this
  · have := allo_pos (i := i) (T := T) (by omega) hs hS h0
    rw [hg] at this
    simpa using this
theorem allo_bd {i : Nat} (hT0 : -1000000000 ≤ T) (hT1 : T ≤ 1000000000) (hs : 1 ≤ s) (hS : sumTo g n = s) (h0 : ∀ i, i < n → 0 ≤ g i) (hi : i < n) (hn : n ≤ 6) : -1000000100 ≤ alloF T s g n i ∧ alloF T s g n i ≤ 1000000100 := by
  unfold alloF
  by_cases hT : T < 0
  · rw [if_pos hT]
    have a := part_bd (T := -T) (t := missK (-T) s g n) (by omega) hs h0 hS hi
    have b := (missK_eq (T := -T) (by omega) hs h0 hS).2
    omega
  · rw [if_neg hT]
    have a := part_bd (T := T) (t := missK T s g n) (by omega) hs h0 hS hi
    have b := (missK_eq (T := T) (by omega) hs h0 hS).2
    omega
end

set_option maxRecDepth 100000 in
set_option maxHeartbeats 1000000 in
theorem cons_walk (p : Option Addr) (len cap0 : Nat) (zs : List Int) (T : Int) (hT0 : -9223372036854775808 ≤ T) (hT1 : T ≤ 9223372036854775807)
    (w : World) (hr : IsRow w p len cap0 zs) (hl : len ≤ 9223372036854775807) :
    Calls Try.prog 9 #[.slice p len cap0, .int .i64 T] w fun e w' => e = .returned (.bool true) ∧ Below w.heap.size w w' := by
  have K0 : Kept w w.heap.size (w.alloc (.cells #[.slice p len cap0, .int .i64 0] 53)) := ⟨tape_new hr hl _, boxed1 _ _, Nat.le_refl _⟩
  have HK := Lib.hid K0
  clear hr K0
  go_enter Try.func9, Try.ntmps9
  go_wp2_with (go_at_call 11; refine (gnew_any _ _ _ _).mono ?_; rintro e w' ⟨rfl, rfl⟩)
  refine (weights_any w.heap.size _ HK.out.tape).mono ?_
  rintro e w1 ⟨n, cap, a, g, rfl, hn6, hg, hwt, T1, O1⟩
  have I1 := Lib.hid (HK.out.only T1 O1)
  have HG := Lib.hid hg
  have HWt1 : Hid (n = 0 ∨ ∃ x, a = some x ∧ WRow w1 x n g ∧ w.heap.size < x.block ∧ x.block < w1.heap.size) := Lib.hid (by
    rcases hwt with h | ⟨x, h1, h2, h3, h4⟩
    · exact .inl h
    · exact .inr ⟨x, h1, h2, by simp at h3; omega, h4⟩)
  clear HK T1 O1 hg hwt
  have m0 := modT_lo T 2000000001 (by omega)
  have m1 := modT_hi T 2000000001 (by omega)
  go_wp2_with (go_at_call 12; refine (mod_any T 2000000001 hT0 hT1 (by omega) (by omega) _).mono ?_; rintro e w' ⟨rfl, rfl⟩)
  refine (next_any w.heap.size 2 (by omega) (by omega) _ I1.out.tape).mono ?_
  rintro e w2 ⟨v2, rfl, x2, y2, T2, O2⟩
  have I2 := Lib.hid (I1.out.only T2 O2)
  have HWt2 : Hid (n = 0 ∨ ∃ x, a = some x ∧ WRow w2 x n g ∧ w.heap.size < x.block ∧ x.block < w2.heap.size) := Lib.hid (by
    rcases HWt1.out with h | ⟨x, h1, h2, h3, h4⟩
    · exact .inl h
    · exact .inr ⟨x, h1, h2.keep (O2.block _ h4 (by omega)), h3, by have := O2.size; omega⟩)
  clear T2 O2 I1 HWt1
  go_upto_if 25 with fail
  go_cut [7] (fun nv wx => ∃ N : Int, nv = .int .i64 N ∧ -1000000000 ≤ N ∧ N ≤ 1000000000 ∧ Hid (Kept w w.heap.size wx) ∧ Hid (n = 0 ∨ ∃ x, a = some x ∧ WRow wx x n g ∧ w.heap.size < x.block ∧ x.block < wx.heap.size))
  case first =>
    by_cases hv : v2 = 0
    · subst hv
      go_wp2_with fail
      refine (next_any w.heap.size 2001 (by omega) (by omega) _ I2.out.tape).mono ?_
      rintro e w3 ⟨v3, rfl, x3, y3, T3, O3⟩
      have I := Lib.hid (I2.out.only T3 O3)
      have HWt : Hid (n = 0 ∨ ∃ x, a = some x ∧ WRow w3 x n g ∧ w.heap.size < x.block ∧ x.block < w3.heap.size) := Lib.hid (by
        rcases HWt2.out with h | ⟨x, h1, h2, h3, h4⟩
        · exact .inl h
        · exact .inr ⟨x, h1, h2.keep (O3.block _ h4 (by omega)), h3, by have := O3.size; omega⟩)
      clear T3 O3 I2 HWt2
      go_wp2_with fail
      go_meet
      exact ⟨_, rfl, by omega, by omega, I, HWt⟩
    · have hv2 : (v2 == 0) = false := by simp [hv]
      clear hv
      go_wp2_with fail
      go_meet
      exact ⟨_, rfl, by omega, by omega, I2, HWt2⟩
  case rest =>
    obtain ⟨N, rfl, nb0', nb1', I, HWt⟩ := hcut
    clear I2 HWt2 m0 m1
    rcases Nat.eq_zero_or_pos n with hn0 | hn0
    · subst hn0
      go_wp2_with fail
      refine (alloc_nil N a cap nb0' nb1' _).mono ?_
      rintro e w5 ⟨rfl, rfl⟩
      go_wp2_with fail
      refine wp_loop_rounds 1 ?_
      rw [rounds_succ]
      go_wp2_with (go_at_call 17; refine (sane_any _).mono ?_; rintro e wv ⟨rfl, hwv⟩)
      go_ret
      exact ⟨rfl, I.out.below.trans (hwv.mono I.out.below.size)⟩
    obtain ⟨x, rfl, HR, hxb, hxs⟩ : ∃ x, a = some x ∧ Hid (WRow wc x n g) ∧ w.heap.size < x.block ∧ x.block < wc.heap.size := by
      rcases HWt.out with h | ⟨x, h1, h2, h3, h4⟩
      · omega
      · exact ⟨x, h1, Lib.hid h2, h3, h4⟩
    haveI : Inhabited (Fin n) := ⟨⟨0, hn0⟩⟩
    have sb := sumTo_abs (f := g) (M := 1000000000) (n := n) fun i hi => by have := HG.out i hi; omega
    have sb0 := sumTo_nonneg (g := g) (n := n) fun i hi => (HG.out i hi).1
    have HL : Hid (∀ k, k < n → wc.cell? (x.add k) = some (.int .i64 (g k)) ∧ -6000000000 ≤ sumTo g k ∧ sumTo g k ≤ 6000000000) := Lib.hid fun k hk => ⟨HR.out k hk, by
      have := sumTo_abs (f := g) (M := 1000000000) (n := k) fun i hi => by have := HG.out i (by omega); omega
      omega⟩
    rcases (by omega : sumTo g n = 0 ∨ 1 ≤ sumTo g n) with hz | hz
    · have HZ := Lib.hid hz
      clear sb sb0 hz
      go_wp2_with fail
      refine (alloc_zero n N x cap g (by omega) nb0' nb1' (fun k hk => (HG.out k hk).1) (fun k hk => (HG.out k hk).2) HZ.out _ HR.out).mono ?_
      rintro e w5 ⟨rfl, rfl⟩
      go_wp2_with fail
      go_loop [10, 11] (fun sv i => ∃ k : Nat, k ≤ n ∧ i = .int .i64 k ∧ sv = .int .i64 (sumTo g k)) (fun _ i => n - (RowKit.intOf i).toNat)
      case atStart => exact ⟨0, by omega, rfl, rfl⟩
      case round =>
        obtain ⟨k, hk, rfl, rfl⟩ := hrel
        by_cases hlt : k < n
        · obtain ⟨c1, c2, c3⟩ := HL.out k hlt
          obtain ⟨c4, c5⟩ := HG.out k hlt
          have HQ := Lib.hid (show sumTo g (k + 1) = sumTo g k + g k from rfl)
          go_wp2
          go_round
          case rel => exact ⟨k + 1, hlt, by go_num, by rw [HQ.out]⟩
          case measure => first | omega | (simp [RowKit.intOf]; omega)
        · obtain rfl : k = n := by omega
          have hz := HZ.out
          go_wp2_with (go_at_call 17; refine (sane_any _).mono ?_; rintro e wv ⟨rfl, hwv⟩)
          go_ret
          exact ⟨rfl, I.out.below.trans (hwv.mono I.out.below.size)⟩
    · have HZ := Lib.hid hz
      clear hz
      go_wp2_with fail
      refine (alloc_pos n N (sumTo g n) x cap g (by omega) nb0' nb1' (fun k hk => (HG.out k hk).1) (fun k hk => (HG.out k hk).2) rfl HZ.out _ hxs HR.out).mono ?_
      rintro e w5 ⟨rfl, hP, hB⟩
      have HP := Lib.hid hP
      have I5 := Lib.hid (I.out.more hB)
      have HR5 := Lib.hid (HR.out.below hB hxs)
      have HL5 : Hid (∀ k, k < n → w5.cell? (x.add k) = some (.int .i64 (g k)) ∧ -6000000000 ≤ sumTo g k ∧ sumTo g k ≤ 6000000000) := Lib.hid fun k hk => ⟨HR5.out k hk, (HL.out k hk).2⟩
      clear hP hB
      go_wp2_with fail
      go_loop [10, 11] (fun sv i => ∃ k : Nat, k ≤ n ∧ i = .int .i64 k ∧ sv = .int .i64 (sumTo g k)) (fun _ i => n - (RowKit.intOf i).toNat)
      case atStart => exact ⟨0, by omega, rfl, rfl⟩
      case round =>
        obtain ⟨k, hk, rfl, rfl⟩ := hrel
        by_cases hlt : k < n
        · obtain ⟨c1, c2, c3⟩ := HL5.out k hlt
          obtain ⟨c4, c5⟩ := HG.out k hlt
          have HQ := Lib.hid (show sumTo g (k + 1) = sumTo g k + g k from rfl)
          go_wp2
          go_round
          case rel => exact ⟨k + 1, hlt, by go_num, by rw [HQ.out]⟩
          case measure => first | omega | (simp [RowKit.intOf]; omega)
        · obtain rfl : k = n := by omega
          obtain ⟨f, hf⟩ : ∃ f, f = alloF N (sumTo g k) g k := ⟨_, rfl⟩
          obtain ⟨s, hs⟩ : ∃ s, sumTo g k = s := ⟨_, rfl⟩
          have hz := HZ.out
          have HP6 : Hid (RowI w5 (wc.heap.size + 3) k f) := by rw [hf]; exact HP
          have HT6 : Hid (sumTo f k = N) := by rw [hf]; exact Lib.hid (allo_total hz rfl fun i hi => (HG.out i hi).1)
          have HN6 : Hid (0 ≤ N → ∀ i, i < k → f i = N * g i / s ∨ (f i = N * g i / s + 1 ∧ N * g i % s ≠ 0)) := by rw [hf, ← hs]; exact Lib.hid fun hN i hi => allo_pos hN hz rfl fun i hi => (HG.out i hi).1
          have HM6 : Hid (N < 0 → ∀ i, i < k → f i = (N * g i).tdiv s ∨ (f i = (N * g i).tdiv s - 1 ∧ (N * g i).tmod s ≠ 0)) := by rw [hf, ← hs]; exact Lib.hid fun hN i hi => allo_neg hN hz rfl (fun i hi => (HG.out i hi).1) (HG.out i hi).1
          have HO6 : Hid (∀ i, i < k → g i = 0 → f i = 0) := by rw [hf]; exact Lib.hid fun i hi h0 => allo_zero hz rfl (fun i hi => (HG.out i hi).1) h0
          have HB6 : Hid (∀ i, i < k → -1000000100 ≤ f i ∧ f i ≤ 1000000100) := by rw [hf]; exact Lib.hid fun i hi => allo_bd nb0' nb1' hz rfl (fun i hi => (HG.out i hi).1) hi (by omega)
          have s1 : 1 ≤ s := by rw [← hs]; exact hz
          have s2 : s ≤ 6000000000 := by rw [← hs]; omega
          clear hf HP HZ sb sb0 hz
          go_wp2_with fail
          go_loopw [12, 13] (fun sv i wr => ∃ t q : Nat, t ≤ k ∧ i = .int .i64 t ∧ sv = .int .i64 (sumTo f t) ∧ wr = w5.drewN q) (fun _ i _ => k - (RowKit.intOf i).toNat)
          case atStart => exact ⟨0, 0, by omega, rfl, rfl, rfl⟩
          case round =>
            obtain ⟨t, q, ht, rfl, rfl, rfl⟩ := hrel
            by_cases hlt2 : t < k
            · have c1 := (HL5.out t hlt2).1
              have c2 := HP6.out.cell t hlt2
              obtain ⟨c3, c4⟩ := HG.out t hlt2
              obtain ⟨c5, c6⟩ := HB6.out t hlt2
              have c7 := sumTo_abs (f := f) (M := 1000000100) (n := t) fun i hi => HB6.out i (by omega)
              have c8 : -10000000000 ≤ sumTo f t ∧ sumTo f t ≤ 10000000000 := by omega
              have HQ := Lib.hid (show sumTo f (t + 1) = sumTo f t + f t from rfl)
              have d1 := HN6.out
              have d2 := HM6.out
              have d3 := HO6.out t hlt2
              have d4 : -6000000000000000000 ≤ N * g t ∧ N * g t ≤ 6000000000000000000 := by
                have := mul_bd (n := N) (d := g t) (N := 1000000000) (D := 1000000000) (by omega) (by omega) c3 c4 (by omega)
                omega
              have hs' : (s == 0) = false := by simp; omega
              clear c7
              rcases (by omega : 0 ≤ N ∨ N < 0) with hs0 | hs0
              · have m0 : 0 ≤ N * g t := Int.mul_nonneg hs0 c3
                have D := d1 hs0 t hlt2
                have k1 : decide (0 ≤ N) = true := decide_eq_true hs0
                have k2 : decide (N < 0) = false := decide_eq_false (by omega)
                obtain ⟨lo, e1⟩ : ∃ lo, N * g t / s = lo := ⟨_, rfl⟩
                obtain ⟨re, e2⟩ : ∃ re, N * g t % s = re := ⟨_, rfl⟩
                rw [e1, e2] at D
                clear d1 d2
                have lb : -1000000200 ≤ lo ∧ lo ≤ 1000000200 := by omega
                by_cases hg0 : g t = 0
                · have hf := d3 hg0
                  have hG : (g t == 0) = true := by simp [hg0]
                  have hl0 : lo = 0 := by rw [← e1, hg0]; simp
                  have hr0 : re = 0 := by rw [← e2, hg0]; simp
                  subst hl0 hr0
                  clear D d3 hg0
                  go_wp2_with fail
                  go_quiet (fail)
                  go_wp2_with fail
                  exact ⟨⟨t + 1, q + nq, by omega, by go_num, by rw [HQ.out]; go_num, rfl⟩, by simp [RowKit.intOf]; omega⟩
                · have hG : (g t == 0) = false := by simp [hg0]
                  clear d3 hg0
                  by_cases hr0 : re = 0
                  · have hf : f t = lo := by omega
                    have hR : (re == 0) = true := by simp [hr0]
                    clear D hr0
                    go_wp2_with fail
                    go_quiet (fail)
                    go_wp2_with fail
                    exact ⟨⟨t + 1, q + nq, by omega, by go_num, by rw [HQ.out]; go_num, rfl⟩, by simp [RowKit.intOf]; omega⟩
                  · have hR : (re == 0) = false := by simp [hr0]
                    rcases (by omega : f t = lo ∨ f t = lo + 1) with hf | hf
                    · clear D hr0
                      go_wp2_with fail
                      go_quiet (fail)
                      go_wp2_with fail
                      exact ⟨⟨t + 1, q + nq, by omega, by go_num, by rw [HQ.out]; go_num, rfl⟩, by simp [RowKit.intOf]; omega⟩
                    · have q1 : (lo + 1 != lo) = true := by simp; omega
                      have q2 : (lo != lo + 1) = true := by simp; omega
                      clear D hr0
                      go_wp2_with fail
                      go_quiet (fail)
                      go_wp2_with fail
                      exact ⟨⟨t + 1, q + nq, by omega, by go_num, by rw [HQ.out]; go_num, rfl⟩, by simp [RowKit.intOf]; omega⟩
              · have m0 : N * g t ≤ 0 := Int.mul_nonpos_of_nonpos_of_nonneg (by omega) c3
                have D := d2 hs0 t hlt2
                have k1 : decide (0 ≤ N) = false := decide_eq_false (by omega)
                have k2 : decide (N < 0) = true := decide_eq_true hs0
                obtain ⟨lo, e1⟩ : ∃ lo, (N * g t).tdiv s = lo := ⟨_, rfl⟩
                obtain ⟨re, e2⟩ : ∃ re, (N * g t).tmod s = re := ⟨_, rfl⟩
                rw [e1, e2] at D
                clear d1 d2
                have lb : -1000000200 ≤ lo ∧ lo ≤ 1000000200 := by omega
                by_cases hg0 : g t = 0
                · have hf := d3 hg0
                  have hG : (g t == 0) = true := by simp [hg0]
                  have hl0 : lo = 0 := by rw [← e1, hg0]; simp
                  have hr0 : re = 0 := by rw [← e2, hg0]; simp
                  subst hl0 hr0
                  clear D d3 hg0
                  go_wp2_with fail
                  go_quiet (fail)
                  go_wp2_with fail
                  exact ⟨⟨t + 1, q + nq, by omega, by go_num, by rw [HQ.out]; go_num, rfl⟩, by simp [RowKit.intOf]; omega⟩
                · have hG : (g t == 0) = false := by simp [hg0]
                  clear d3 hg0
                  by_cases hr0 : re = 0
                  · have hf : f t = lo := by omega
                    have hR : (re == 0) = true := by simp [hr0]
                    clear D hr0
                    go_wp2_with fail
                    go_quiet (fail)
                    go_wp2_with fail
                    exact ⟨⟨t + 1, q + nq, by omega, by go_num, by rw [HQ.out]; go_num, rfl⟩, by simp [RowKit.intOf]; omega⟩
                  · have hR : (re == 0) = false := by simp [hr0]
                    rcases (by omega : f t = lo ∨ f t = lo - 1) with hf | hf
                    · clear D hr0
                      go_wp2_with fail
                      go_quiet (fail)
                      go_wp2_with fail
                      exact ⟨⟨t + 1, q + nq, by omega, by go_num, by rw [HQ.out]; go_num, rfl⟩, by simp [RowKit.intOf]; omega⟩
                    · have q1 : (lo - 1 != lo) = true := by simp; omega
                      have q2 : (lo != lo - 1) = true := by simp; omega
                      clear D hr0
                      go_wp2_with fail
                      go_quiet (fail)
                      go_wp2_with fail
                      exact ⟨⟨t + 1, q + nq, by omega, by go_num, by rw [HQ.out]; go_num, rfl⟩, by simp [RowKit.intOf]; omega⟩
            · obtain rfl : t = k := by omega
              have hT := HT6.out
              go_wp2_with (go_at_call 17; refine (sane_any _).mono ?_; rintro e wv ⟨rfl, hwv⟩)
              go_ret
              exact ⟨by simp, (below_drewN I5.out.below q).trans (hwv.mono I5.out.below.size)⟩
end Go.Proofs.Ytnkpbkebbfelfaa
