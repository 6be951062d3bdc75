/-
  RatioRoundTrip: the walk: what Format writes of a valid fraction is read back, and only a text that Format writes is read; the answer is true.
-/
import Derived.Test.YtjhnapbaaifmnaaDoorPrTrip2
import Derived.Test.YtjhnapbaaifmnaaDoorPrTape3
import Derived.Test.YtjhnapbaaifmnaaDoorPrSane
import Derived.Deep.DeepCutAuto
namespace Go.Proofs.YtjhnapbaaifmnaaDoor
open Go Go.RowKit Go.Lib Go.Proofs.YtjhnapbaaifmnaaDoor.Tp
theorem Tp.Res.put {u : World} {s : Nat} {x y : Int} (h : Res u s x y) (x' y' : Int) : Res ((u.setCell ⟨s, 0, none⟩ (.int .i64 x')).setCell ⟨s, 1, none⟩ (.int .i64 y')) s x' y' := by
  obtain ⟨c0, c1, f0, f1⟩ := h
  have hs : s < u.heap.size := World.block_lt_of_cell? _ _ c0
  exact ⟨by go_simp, by go_simp, by go_simp, by go_simp⟩
theorem ft_size (a b : Int) (ha0 : -9223372036854775808 ≤ a) (ha1 : a ≤ 9223372036854775807) (hb0 : -9223372036854775808 ≤ b) (hb1 : b ≤ 9223372036854775807) : (⟨(fmtL a b).toArray⟩ : ByteArray).size ≤ 281474976710656 := by
  have h1 := itoa_length_le a ha0 ha1
  have h2 := itoa_length_le b hb0 hb1
  have e : (⟨(fmtL a b).toArray⟩ : ByteArray).size = (fmtL a b).length := by simp [ByteArray.size]
  rw [e]
  unfold fmtL
  split
  · split
    · omega
    · simp; omega
  · simp
theorem parsT_no_fmt (s : ByteArray) (a b : Int) (hv : vldB a b = false) (h : s.data.toList = fmtL a b) : parsT s = (0, 0, false) := by
  have z : s.data.toList = [] := by rw [h]; unfold fmtL; rw [hv]; rfl
  have k : numOf s = none := by unfold numOf; rw [z]; rfl
  exact parsT_none s (by rw [numsOf_a s (by rw [z]; rfl), k]; rfl)
set_option maxRecDepth 100000 in
set_option maxHeartbeats 16000000 in
theorem trip_walk (p : Option Addr) (len cap : Nat) (zs : List Int) (a b : Int) (s : ByteArray) (hs : s.size ≤ 281474976710656) (ha0 : -9223372036854775808 ≤ a) (ha1 : a ≤ 9223372036854775807) (hb0 : -9223372036854775808 ≤ b) (hb1 : b ≤ 9223372036854775807)
    (w : World) (hr : IsRow w p len cap zs) (hl : len ≤ 9223372036854775807) (hok : OKW w) :
    Calls Tryd.prog 6 #[.slice p len cap, .agg #[.int .i64 a, .int .i64 b], .string s] w fun e w' => e = .returned (.bool true) ∧ Below w.heap.size w w' := by
  have hr2 : IsRow (w.alloc (.cells #[.int .i64 a, .int .i64 b] 23)) p len cap zs := by
    rcases hr with h | ⟨x, h1, h2, h3, h4, h5, h6⟩
    · exact .inl h
    · exact .inr ⟨x, h1, h2, h3, h4, fun i hi => cell_below (h5 i hi) (Below.alloc (Below.refl _ _) (Nat.le_refl _) _), h6⟩
  have T0 := tape_new hr2 hl 54
  have R0 := (Res.new w a b 23).alloc (.cells #[.slice p len cap, .int .i64 0] 54)
  clear hr hr2
  go_enter Tryd.func6, Tryd.ntmps6
  go_wp2_with fail
  refine (gnew_any _ _ _ _).mono ?_
  rintro e w' ⟨rfl, rfl⟩
  go_wp2_with fail
  refine (next_any (w.heap.size + 1) 3 (by omega) (by omega) _ (by simpa using T0)).mono ?_
  rintro e w2 ⟨v, rfl, v0, v1, T2, O2⟩
  have R2 := R0.only (by omega) O2
  have B2 : Below w.heap.size w w2 := Below.trans (b := _) (boxed2 _ _ _) (O2.below (by omega) (by simp; omega))
  clear R0 T0 O2
  by_cases hv : 0 < v
  · have hv1 : decide (0 < v) = true := decide_eq_true hv
    go_wp2_with fail
    refine (frac_any (w.heap.size + 1) _ T2).mono ?_
    rintro e w3 ⟨n, d, rfl, n0, n1, d0, d1, T3, O3⟩
    have R3 := R2.only (by omega) O3
    have B3 : Below w.heap.size w w3 := B2.trans (O3.below (by omega) B2.size)
    clear R2 B2 T2 T3 O3
    have RR := R3.put n d
    have BB := (B3.setCell (p := ⟨w.heap.size, 0, none⟩) (Nat.le_refl _) (.int .i64 n)).setCell (p := ⟨w.heap.size, 1, none⟩) (Nat.le_refl _) (.int .i64 d)
    have u0 := R3.c0
    have u1 := R3.c1
    have u2 := R3.f0
    have u3 := R3.f1
    have uz : w.heap.size < _ := World.block_lt_of_cell? _ _ u0
    clear R3 B3
    go_wp2_with fail
    refine (fmt_any n d (by omega) (by omega) (by omega) (by omega) _ (hok.below BB)).mono ?_
    rintro e w5 ⟨rfl, hw5⟩
    have R5 := RR.below hw5
    have B5 : Below w.heap.size w w5 := BB.trans (hw5.mono BB.size)
    clear RR BB u0 u1 u2 u3 uz
    rcases hvl : vldB n d with _ | _
    · have E := parsT_no_fmt ⟨(fmtL n d).toArray⟩ n d hvl rfl
      go_wp2_with fail
      refine (pars_any _ (ft_size n d (by omega) (by omega) (by omega) (by omega)) _ (hok.below B5)).mono ?_
      rw [E]
      rintro e w6 ⟨rfl, hw6⟩
      have R6 := R5.below hw6
      have B6 : Below w.heap.size w w6 := B5.trans (hw6.mono B5.size)
      clear R5 B5 hw5 hw6 E
      have q0 := R6.c0
      have q1 := R6.c1
      have zz : w.heap.size < _ := World.block_lt_of_cell? _ _ q0
      go_wp2_with fail
      refine (rvalid_any n d (by omega) (by omega) (by omega) (by omega) _).mono ?_
      rw [hvl]
      rintro e w7 ⟨rfl, hw7⟩
      have R7 := (R6.alloc (.cells #[.int .i64 0, .int .i64 0] 23)).below hw7
      have N7 := (Res.new w6 0 0 23).below hw7
      have B7 : Below w.heap.size w w7 := Below.trans (b := _) (Below.alloc B6 B6.size _) (hw7.mono (by have := B6.size; (try simp); omega))
      clear R6 B6 hw7 q0 q1 zz
      have q0 := R7.c0
      have q1 := R7.c1
      have q2 := N7.c0
      have q3 := N7.c1
      have zz : w.heap.size < _ := World.block_lt_of_cell? _ _ q0
      have zz2 : w6.heap.size < _ := World.block_lt_of_cell? _ _ q2
      clear R7 N7
      go_wp2_with fail
      refine (pars_any s hs _ (hok.below B7)).mono ?_
      clear q0 q1 q2 q3 zz zz2
      rintro e w8 ⟨rfl, hw8⟩
      have B8 : Below w.heap.size w w8 := B7.trans (hw8.mono B7.size)
      clear B7 hw8
      rcases hp : (parsT s).2.2 with _ | _
      · go_wp2_with fail
        refine (sane_any _ (hok.below (by first | exact B8 | exact Below.alloc B8 B8.size _))).mono ?_
        rintro e w14 ⟨rfl, hw14⟩
        have hB14 : Below w.heap.size w w14 := Below.trans (b := _) (by first | exact B8 | exact Below.alloc B8 B8.size _) (hw14.mono (by have := B8.size; (try simp); omega))
        go_wp2_with fail
        go_ret
        exact ⟨rfl, hB14⟩
      · obtain ⟨V, FE⟩ := parsT_vld s hp
        obtain ⟨y2, y3, y0, y1⟩ := vld_bd V
        have ES : (⟨(fmtL (parsT s).1 (parsT s).2.1).toArray⟩ : ByteArray) = s := by rw [FE]
        go_wp2_with fail
        refine (fmt_any (parsT s).1 (parsT s).2.1 (by omega) (by omega) (by omega) (by omega) _ (hok.below (by first | exact B8 | exact Below.alloc B8 B8.size _))).mono ?_
        rw [ES]
        rintro e w9 ⟨rfl, hw9⟩
        have N9 := (Res.new w8 (parsT s).1 (parsT s).2.1 23).below hw9
        have B9 : Below w.heap.size w w9 := Below.trans (b := _) (Below.alloc B8 B8.size _) (hw9.mono (by have := B8.size; (try simp); omega))
        clear B8 hw9 FE ES
        have q0 := N9.c0
        have q1 := N9.c1
        have zz : w8.heap.size < _ := World.block_lt_of_cell? _ _ q0
        go_wp2_with fail
        refine (valid_any (parsT s).1 (parsT s).2.1 (by omega) (by omega) (by omega) (by omega) _).mono ?_
        rw [V]
        rintro e w10 ⟨rfl, hw10⟩
        have B10 : Below w.heap.size w w10 := B9.trans (hw10.mono B9.size)
        clear B9 N9 q0 q1 zz hw10
        go_wp2_with fail
        refine (sane_any _ (hok.below B10)).mono ?_
        rintro e w14 ⟨rfl, hw14⟩
        have hB14 : Below w.heap.size w w14 := B10.trans (hw14.mono B10.size)
        go_wp2_with fail
        go_ret
        exact ⟨rfl, hB14⟩
    · have E := parsT_fmt ⟨(fmtL n d).toArray⟩ n d hvl (by simp)
      go_wp2_with fail
      refine (pars_any _ (ft_size n d (by omega) (by omega) (by omega) (by omega)) _ (hok.below B5)).mono ?_
      rw [E]
      rintro e w6 ⟨rfl, hw6⟩
      have R6 := R5.below hw6
      have B6 : Below w.heap.size w w6 := B5.trans (hw6.mono B5.size)
      clear R5 B5 hw5 hw6 E
      have q0 := R6.c0
      have q1 := R6.c1
      have zz : w.heap.size < _ := World.block_lt_of_cell? _ _ q0
      go_wp2_with fail
      refine (rvalid_any n d (by omega) (by omega) (by omega) (by omega) _).mono ?_
      rw [hvl]
      rintro e w7 ⟨rfl, hw7⟩
      have R7 := (R6.alloc (.cells #[.int .i64 n, .int .i64 d] 23)).below hw7
      have N7 := (Res.new w6 n d 23).below hw7
      have B7 : Below w.heap.size w w7 := Below.trans (b := _) (Below.alloc B6 B6.size _) (hw7.mono (by have := B6.size; (try simp); omega))
      clear R6 B6 hw7 q0 q1 zz
      have q0 := R7.c0
      have q1 := R7.c1
      have q2 := N7.c0
      have q3 := N7.c1
      have zz : w.heap.size < _ := World.block_lt_of_cell? _ _ q0
      have zz2 : w6.heap.size < _ := World.block_lt_of_cell? _ _ q2
      clear R7 N7
      go_wp2_with fail
      refine (pars_any s hs _ (hok.below B7)).mono ?_
      clear q0 q1 q2 q3 zz zz2
      rintro e w8 ⟨rfl, hw8⟩
      have B8 : Below w.heap.size w w8 := B7.trans (hw8.mono B7.size)
      clear B7 hw8
      rcases hp : (parsT s).2.2 with _ | _
      · go_wp2_with fail
        refine (sane_any _ (hok.below (by first | exact B8 | exact Below.alloc B8 B8.size _))).mono ?_
        rintro e w14 ⟨rfl, hw14⟩
        have hB14 : Below w.heap.size w w14 := Below.trans (b := _) (by first | exact B8 | exact Below.alloc B8 B8.size _) (hw14.mono (by have := B8.size; (try simp); omega))
        go_wp2_with fail
        go_ret
        exact ⟨rfl, hB14⟩
      · obtain ⟨V, FE⟩ := parsT_vld s hp
        obtain ⟨y2, y3, y0, y1⟩ := vld_bd V
        have ES : (⟨(fmtL (parsT s).1 (parsT s).2.1).toArray⟩ : ByteArray) = s := by rw [FE]
        go_wp2_with fail
        refine (fmt_any (parsT s).1 (parsT s).2.1 (by omega) (by omega) (by omega) (by omega) _ (hok.below (by first | exact B8 | exact Below.alloc B8 B8.size _))).mono ?_
        rw [ES]
        rintro e w9 ⟨rfl, hw9⟩
        have N9 := (Res.new w8 (parsT s).1 (parsT s).2.1 23).below hw9
        have B9 : Below w.heap.size w w9 := Below.trans (b := _) (Below.alloc B8 B8.size _) (hw9.mono (by have := B8.size; (try simp); omega))
        clear B8 hw9 FE ES
        have q0 := N9.c0
        have q1 := N9.c1
        have zz : w8.heap.size < _ := World.block_lt_of_cell? _ _ q0
        go_wp2_with fail
        refine (valid_any (parsT s).1 (parsT s).2.1 (by omega) (by omega) (by omega) (by omega) _).mono ?_
        rw [V]
        rintro e w10 ⟨rfl, hw10⟩
        have B10 : Below w.heap.size w w10 := B9.trans (hw10.mono B9.size)
        clear B9 N9 q0 q1 zz hw10
        go_wp2_with fail
        refine (sane_any _ (hok.below B10)).mono ?_
        rintro e w14 ⟨rfl, hw14⟩
        have hB14 : Below w.heap.size w w14 := B10.trans (hw14.mono B10.size)
        go_wp2_with fail
        go_ret
        exact ⟨rfl, hB14⟩
  · have hv1 : decide (0 < v) = false := decide_eq_false hv
    have RR := R2
    have BB := B2
    have q0 := RR.c0
    have q1 := RR.c1
    have zz : w.heap.size < _ := World.block_lt_of_cell? _ _ q0
    go_wp2_with fail
    refine (fmt_any a b (by omega) (by omega) (by omega) (by omega) _ (hok.below BB)).mono ?_
    rintro e w5 ⟨rfl, hw5⟩
    have R5 := RR.below hw5
    have B5 : Below w.heap.size w w5 := BB.trans (hw5.mono BB.size)
    clear RR BB q0 q1 zz
    rcases hvl : vldB a b with _ | _
    · have E := parsT_no_fmt ⟨(fmtL a b).toArray⟩ a b hvl rfl
      go_wp2_with fail
      refine (pars_any _ (ft_size a b (by omega) (by omega) (by omega) (by omega)) _ (hok.below B5)).mono ?_
      rw [E]
      rintro e w6 ⟨rfl, hw6⟩
      have R6 := R5.below hw6
      have B6 : Below w.heap.size w w6 := B5.trans (hw6.mono B5.size)
      clear R5 B5 hw5 hw6 E
      have q0 := R6.c0
      have q1 := R6.c1
      have zz : w.heap.size < _ := World.block_lt_of_cell? _ _ q0
      go_wp2_with fail
      refine (rvalid_any a b (by omega) (by omega) (by omega) (by omega) _).mono ?_
      rw [hvl]
      rintro e w7 ⟨rfl, hw7⟩
      have R7 := (R6.alloc (.cells #[.int .i64 0, .int .i64 0] 23)).below hw7
      have N7 := (Res.new w6 0 0 23).below hw7
      have B7 : Below w.heap.size w w7 := Below.trans (b := _) (Below.alloc B6 B6.size _) (hw7.mono (by have := B6.size; (try simp); omega))
      clear R6 B6 hw7 q0 q1 zz
      have q0 := R7.c0
      have q1 := R7.c1
      have q2 := N7.c0
      have q3 := N7.c1
      have zz : w.heap.size < _ := World.block_lt_of_cell? _ _ q0
      have zz2 : w6.heap.size < _ := World.block_lt_of_cell? _ _ q2
      clear R7 N7
      go_wp2_with fail
      refine (pars_any s hs _ (hok.below B7)).mono ?_
      clear q0 q1 q2 q3 zz zz2
      rintro e w8 ⟨rfl, hw8⟩
      have B8 : Below w.heap.size w w8 := B7.trans (hw8.mono B7.size)
      clear B7 hw8
      rcases hp : (parsT s).2.2 with _ | _
      · go_wp2_with fail
        refine (sane_any _ (hok.below (by first | exact B8 | exact Below.alloc B8 B8.size _))).mono ?_
        rintro e w14 ⟨rfl, hw14⟩
        have hB14 : Below w.heap.size w w14 := Below.trans (b := _) (by first | exact B8 | exact Below.alloc B8 B8.size _) (hw14.mono (by have := B8.size; (try simp); omega))
        go_wp2_with fail
        go_ret
        exact ⟨rfl, hB14⟩
      · obtain ⟨V, FE⟩ := parsT_vld s hp
        obtain ⟨y2, y3, y0, y1⟩ := vld_bd V
        have ES : (⟨(fmtL (parsT s).1 (parsT s).2.1).toArray⟩ : ByteArray) = s := by rw [FE]
        go_wp2_with fail
        refine (fmt_any (parsT s).1 (parsT s).2.1 (by omega) (by omega) (by omega) (by omega) _ (hok.below (by first | exact B8 | exact Below.alloc B8 B8.size _))).mono ?_
        rw [ES]
        rintro e w9 ⟨rfl, hw9⟩
        have N9 := (Res.new w8 (parsT s).1 (parsT s).2.1 23).below hw9
        have B9 : Below w.heap.size w w9 := Below.trans (b := _) (Below.alloc B8 B8.size _) (hw9.mono (by have := B8.size; (try simp); omega))
        clear B8 hw9 FE ES
        have q0 := N9.c0
        have q1 := N9.c1
        have zz : w8.heap.size < _ := World.block_lt_of_cell? _ _ q0
        go_wp2_with fail
        refine (valid_any (parsT s).1 (parsT s).2.1 (by omega) (by omega) (by omega) (by omega) _).mono ?_
        rw [V]
        rintro e w10 ⟨rfl, hw10⟩
        have B10 : Below w.heap.size w w10 := B9.trans (hw10.mono B9.size)
        clear B9 N9 q0 q1 zz hw10
        go_wp2_with fail
        refine (sane_any _ (hok.below B10)).mono ?_
        rintro e w14 ⟨rfl, hw14⟩
        have hB14 : Below w.heap.size w w14 := B10.trans (hw14.mono B10.size)
        go_wp2_with fail
        go_ret
        exact ⟨rfl, hB14⟩
    · have E := parsT_fmt ⟨(fmtL a b).toArray⟩ a b hvl (by simp)
      go_wp2_with fail
      refine (pars_any _ (ft_size a b (by omega) (by omega) (by omega) (by omega)) _ (hok.below B5)).mono ?_
      rw [E]
      rintro e w6 ⟨rfl, hw6⟩
      have R6 := R5.below hw6
      have B6 : Below w.heap.size w w6 := B5.trans (hw6.mono B5.size)
      clear R5 B5 hw5 hw6 E
      have q0 := R6.c0
      have q1 := R6.c1
      have zz : w.heap.size < _ := World.block_lt_of_cell? _ _ q0
      go_wp2_with fail
      refine (rvalid_any a b (by omega) (by omega) (by omega) (by omega) _).mono ?_
      rw [hvl]
      rintro e w7 ⟨rfl, hw7⟩
      have R7 := (R6.alloc (.cells #[.int .i64 a, .int .i64 b] 23)).below hw7
      have N7 := (Res.new w6 a b 23).below hw7
      have B7 : Below w.heap.size w w7 := Below.trans (b := _) (Below.alloc B6 B6.size _) (hw7.mono (by have := B6.size; (try simp); omega))
      clear R6 B6 hw7 q0 q1 zz
      have q0 := R7.c0
      have q1 := R7.c1
      have q2 := N7.c0
      have q3 := N7.c1
      have zz : w.heap.size < _ := World.block_lt_of_cell? _ _ q0
      have zz2 : w6.heap.size < _ := World.block_lt_of_cell? _ _ q2
      clear R7 N7
      go_wp2_with fail
      refine (pars_any s hs _ (hok.below B7)).mono ?_
      clear q0 q1 q2 q3 zz zz2
      rintro e w8 ⟨rfl, hw8⟩
      have B8 : Below w.heap.size w w8 := B7.trans (hw8.mono B7.size)
      clear B7 hw8
      rcases hp : (parsT s).2.2 with _ | _
      · go_wp2_with fail
        refine (sane_any _ (hok.below (by first | exact B8 | exact Below.alloc B8 B8.size _))).mono ?_
        rintro e w14 ⟨rfl, hw14⟩
        have hB14 : Below w.heap.size w w14 := Below.trans (b := _) (by first | exact B8 | exact Below.alloc B8 B8.size _) (hw14.mono (by have := B8.size; (try simp); omega))
        go_wp2_with fail
        go_ret
        exact ⟨rfl, hB14⟩
      · obtain ⟨V, FE⟩ := parsT_vld s hp
        obtain ⟨y2, y3, y0, y1⟩ := vld_bd V
        have ES : (⟨(fmtL (parsT s).1 (parsT s).2.1).toArray⟩ : ByteArray) = s := by rw [FE]
        go_wp2_with fail
        refine (fmt_any (parsT s).1 (parsT s).2.1 (by omega) (by omega) (by omega) (by omega) _ (hok.below (by first | exact B8 | exact Below.alloc B8 B8.size _))).mono ?_
        rw [ES]
        rintro e w9 ⟨rfl, hw9⟩
        have N9 := (Res.new w8 (parsT s).1 (parsT s).2.1 23).below hw9
        have B9 : Below w.heap.size w w9 := Below.trans (b := _) (Below.alloc B8 B8.size _) (hw9.mono (by have := B8.size; (try simp); omega))
        clear B8 hw9 FE ES
        have q0 := N9.c0
        have q1 := N9.c1
        have zz : w8.heap.size < _ := World.block_lt_of_cell? _ _ q0
        go_wp2_with fail
        refine (valid_any (parsT s).1 (parsT s).2.1 (by omega) (by omega) (by omega) (by omega) _).mono ?_
        rw [V]
        rintro e w10 ⟨rfl, hw10⟩
        have B10 : Below w.heap.size w w10 := B9.trans (hw10.mono B9.size)
        clear B9 N9 q0 q1 zz hw10
        go_wp2_with fail
        refine (sane_any _ (hok.below B10)).mono ?_
        rintro e w14 ⟨rfl, hw14⟩
        have hB14 : Below w.heap.size w w14 := B10.trans (hw14.mono B10.size)
        go_wp2_with fail
        go_ret
        exact ⟨rfl, hB14⟩
end Go.Proofs.YtjhnapbaaifmnaaDoor
