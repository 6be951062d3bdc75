/-
  Layer 6 (timeline): the walk of TimelinePast: the answer is true. No condition.
-/
import Derived.Test.YtdpgmjmmnjbbiaaPrUr
import Derived.Deep.RegionHeld3
import Derived.Deep.DeepCutAuto
namespace Go.Proofs.Ytdpgmjmmnjbbiaa.Tl
open Go Go.RowKit Go.Lib Go.Sort Go.Shelf Go.Proofs Go.Proofs.Ytdpgmjmmnjbbiaa Go.Proofs.Ytdpgmjmmnjbbiaa.Tp
set_option linter.unusedVariables false

theorem past_tru {w W : World} (h : Below w.heap.size w W) : TrueR w (.returned (.bool true)) W := ⟨rfl, h⟩
set_option maxRecDepth 100000 in
set_option maxHeartbeats 16000000 in
theorem past_walk (t0 : Option Addr) (len cap : Nat) (zs : List Int) (w : World) (hr : IsRow w t0 len cap zs) (hlen : len ≤ 9223372036854775807) :
    Calls Try.prog 6 #[.slice t0 len cap] w (TrueR w) := by
  have T0 := Lib.hid (tape_new hr hlen 45)
  have B0 := Lib.hid (show Below w.heap.size w (w.alloc (.cells #[.slice t0 len cap, .int .i64 0] 45)) from (Below.refl _ _).alloc (Nat.le_refl _) _)
  obtain ⟨i0, hi0, hz0, hz1, hz2⟩ := info4
  have HQ := Lib.hid (And.intro hi0 (And.intro hz0 (And.intro hz1 hz2)))
  clear hr hlen hi0 hz0 hz1 hz2
  go_enter Try.func6, Try.ntmps6
  go_wp2_with fail
  refine (gnew_any t0 len cap _).mono ?_
  rintro e w0 ⟨rfl, rfl⟩
  go_wp2_with fail
  refine (changes_any w.heap.size 8 false (by omega) _ T0.out).mono ?_
  rintro e w1 ⟨a, ca, cs, rfl, hA, hcl, hG, T1, O1⟩
  have HT1 := Lib.hid T1
  have NB := Lib.hid (hA.ne (b := w.heap.size) (by simp))
  have L1 := Lib.hid (hA.lst (by omega))
  have B1 := Lib.hid (B0.out.trans (O1.below (Nat.le_refl _) B0.out.size))
  have HGC := Lib.hid hG
  clear T0 B0 hA hG T1 O1
  go_wp2_with fail
  refine (next_any w.heap.size 30 (by omega) (by omega) _ HT1.out).mono ?_
  rintro e w2 ⟨F, rfl, F0, F1, T2, O2⟩
  have HT2 := Lib.hid T2
  have L2 := Lib.hid (L1.out.only O2 NB.out)
  have B2 := Lib.hid (B1.out.trans (O2.below (Nat.le_refl _) B1.out.size))
  have wf : IntKind.i64.wrap (20454 + F) = 20454 + F := by rw [IntKind.wrap_i64]; omega
  clear T2 O2 HT1 L1 B1
  go_wp2_with fail
  refine (next_any w.heap.size 5 (by omega) (by omega) _ HT2.out).mono ?_
  rintro e w3 ⟨V, rfl, V0, V1, T3, O3⟩
  have HT3 := Lib.hid T3
  have L3 := Lib.hid (L2.out.only O3 NB.out)
  have B3 := Lib.hid (B2.out.trans (O3.below (Nat.le_refl _) B2.out.size))
  clear T3 O3 HT2 L2 B2
  have sb : w3.heap.size ≠ w.heap.size := by have := HT3.out.lt; omega
  have ff : 20454 ≤ 20454 + F ∧ 20454 + F ≤ 20483 := by omega
  generalize 20454 + F = fr at *
  have HT4 := Lib.hid (HT3.out.alloc (.cells #[.int .i64 fr, .int .i64 20, .int .i64 V, .bool false] 42))
  have L4 := Lib.hid (L3.out.more ((Below.refl _ _).alloc (Nat.le_refl _) (.cells #[.int .i64 fr, .int .i64 20, .int .i64 V, .bool false] 42)))
  have B4 := Lib.hid (B3.out.alloc B3.out.size (.cells #[.int .i64 fr, .int .i64 20, .int .i64 V, .bool false] 42))
  have X4 := Lib.hid (Bx.new w3 ⟨fr, 20, V, false⟩ 42)
  clear HT3 L3 B3 F0 F1
  go_upto_region 4 with fail
  generalize hw4 : w3.alloc (.cells #[.int .i64 fr, .int .i64 20, .int .i64 V, .bool false] 42) = w4 at *
  have s4 : w3.heap.size < w4.heap.size := by rw [← hw4]; simp
  clear hw4
  generalize w3.heap.size = s at *
  obtain ⟨x0, x1, x2, x3⟩ := X4.out.at4
  simp only at x0 x1 x2 x3
  have own1 := Lib.hid (OwnG.drew (OwnG.lit (w0 := w4) (W := w4) (Below.refl _ _)))
  have own2 := Lib.hid (OwnG.drew ((OwnG.lit (w0 := w4) (W := w4) (Below.refl _ _)).alloc (.cells #[.int .i64 fr, .int .i64 20, .int .i64 V, .bool false] 42)))
  have own3 : Hid (OwnG w4 (.slice (some ⟨w4.heap.size + 1, 0, none⟩) 0 0) [] ((w4.alloc (.cells #[.int .i64 fr, .int .i64 20, .int .i64 V, .bool false] 42)).alloc (.cells #[] 42)).drew) := Lib.hid (by
    have h := OwnG.drew (OwnG.lit (w0 := w4) (W := w4.alloc (.cells #[.int .i64 fr, .int .i64 20, .int .i64 V, .bool false] 42)) ((Below.refl _ _).alloc (Nat.le_refl _) _))
    rwa [show (w4.alloc (.cells #[.int .i64 fr, .int .i64 20, .int .i64 V, .bool false] 42)).heap.size = w4.heap.size + 1 by simp] at h)
  have own2l : Hid (At4 ((w4.alloc (.cells #[] 42)).alloc (.cells #[.int .i64 fr, .int .i64 20, .int .i64 V, .bool false] 42)).drew ⟨w4.heap.size + 1, 0, none⟩ ⟨fr, 20, V, false⟩) := Lib.hid (by have h := (Bx.new (w4.alloc (.cells #[] 42)) ⟨fr, 20, V, false⟩ 42).at4; simp at h; exact h)
  have own3l : Hid (At4 ((w4.alloc (.cells #[.int .i64 fr, .int .i64 20, .int .i64 V, .bool false] 42)).alloc (.cells #[] 42)).drew ⟨w4.heap.size, 0, none⟩ ⟨fr, 20, V, false⟩) := Lib.hid ((Bx.new w4 ⟨fr, 20, V, false⟩ 42).alloc (.cells #[] 42)).at4
  have KS : Hid (∀ W, Below w4.heap.size w4 W → W.cell? ⟨s, 0, none⟩ = some (.int .i64 fr) ∧ W.cell? ⟨s, 1, none⟩ = some (.int .i64 20) ∧ W.cell? ⟨s, 2, none⟩ = some (.int .i64 V) ∧ W.cell? ⟨s, 3, none⟩ = some (.bool false)) := Lib.hid fun W hb => ⟨(hb.cell s4).trans x0, (hb.cell s4).trans x1, (hb.cell s4).trans x2, (hb.cell s4).trans x3⟩
  have NW := Lib.hid (fun W (hb : Below w4.heap.size w4 W) => (L4.out.more hb).news)
  have hnil := Lib.hid L4.out.2.1
  have hq1 : ([] : List Chg).length + cs.length ≤ maxLen := by unfold maxLen; simp; omega
  have hq2 : (([] : List Chg).length + cs.length) * 32 ≤ 140737488355328 := by simp; omega
  have hq3 : cs.length + 1 ≤ maxLen := by unfold maxLen; omega
  have hq4 : (cs.length + 1) * 32 ≤ 140737488355328 := by omega
  go_cut [6] (fun sl wx => Hid (OwnG w4 sl (cs ++ [⟨fr, 20, V, false⟩]) wx))
  case first =>
    clear x0 x1 x2 x3 L4 B4 X4 HT4
    go_region_held3 (fun w' => w'.cell? ⟨s, 0, none⟩ = some (.int .i64 fr) ∧ w'.cell? ⟨s, 1, none⟩ = some (.int .i64 20) ∧ w'.cell? ⟨s, 2, none⟩ = some (.int .i64 V) ∧ w'.cell? ⟨s, 3, none⟩ = some (.bool false))
      (first | (with_reducible exact KS.out _ (by (repeat (first | (with_reducible exact Below.refl _ _) | (with_reducible exact G2.below) | (with_reducible exact G1.below) | (with_reducible refine Below.drew ?_) | (with_reducible refine below_al ?_ _))))))
      (first
        | (refine step_append_opt rfl _ _ _ rfl w4.heap.size 42 i0 (.agg #[.int .i64 0, .int .i64 0, .int .i64 0, .bool false]) 4 32 Try.underlying23 HQ.out.1 HQ.out.2.1 HQ.out.2.2.1 HQ.out.2.2.2 rfl (by decide) _ _ _ rfl own1.out.row a cs.length ca (fl cs) rfl (NW.out _ own1.out.below).1 hnil.out (NW.out _ own1.out.below).2 (fl_one cs) hq1 hq2 own1.out.below.size ?_; intro v1 wA o1 g1; have G1 := OwnG.first own1.out o1 g1; clear o1 g1)
        | (refine step_append_opt rfl _ _ _ rfl w4.heap.size 42 i0 (.agg #[.int .i64 0, .int .i64 0, .int .i64 0, .bool false]) 4 32 Try.underlying23 HQ.out.1 HQ.out.2.1 HQ.out.2.2.1 HQ.out.2.2.2 rfl (by decide) _ _ _ rfl own2.out.row a cs.length ca (fl cs) rfl (NW.out _ own2.out.below).1 hnil.out (NW.out _ own2.out.below).2 (fl_one cs) hq1 hq2 own2.out.below.size ?_; intro v1 wA o1 g1; have G1 := OwnG.first own2.out o1 g1; have LT : LitC wA (w4.heap.size + 1) ⟨fr, 20, V, false⟩ := LitC.of (At4.grown (own2l.out) g1 (ne_own (by omega))); clear o1 g1)
        | (refine step_append_opt rfl _ _ _ rfl w4.heap.size 42 i0 (.agg #[.int .i64 0, .int .i64 0, .int .i64 0, .bool false]) 4 32 Try.underlying23 HQ.out.1 HQ.out.2.1 HQ.out.2.2.1 HQ.out.2.2.2 rfl (by decide) _ _ _ rfl own3.out.row a cs.length ca (fl cs) rfl (NW.out _ own3.out.below).1 hnil.out (NW.out _ own3.out.below).2 (fl_one cs) hq1 hq2 own3.out.below.size ?_; intro v1 wA o1 g1; have G1 := OwnG.first own3.out o1 g1; have LT : LitC wA w4.heap.size ⟨fr, 20, V, false⟩ := LitC.of (At4.grown (own3l.out) g1 (ne_own (by omega))); clear o1 g1)
        | (refine step_append_opt rfl _ _ _ rfl w4.heap.size 42 i0 (.agg #[.int .i64 0, .int .i64 0, .int .i64 0, .bool false]) 4 32 Try.underlying23 HQ.out.1 HQ.out.2.1 HQ.out.2.2.1 HQ.out.2.2.2 rfl (by decide) _ _ _ rfl (G1.alloc (.cells #[.int .i64 fr, .int .i64 20, .int .i64 V, .bool false] 42)).row (some ⟨wA.heap.size, 0, none⟩) 1 1 (fl [⟨fr, 20, V, false⟩]) rfl rfl (fun h => by cases h) (fun ad had => by injection had with had; subst had; exact LitC.of (Bx.new wA ⟨fr, 20, V, false⟩ 42).at4) (fl_one _) hq3 hq4 (G1.alloc (.cells #[.int .i64 fr, .int .i64 20, .int .i64 V, .bool false] 42)).below.size ?_; intro v2 wB o2 g2; have G2 := OwnG.grown (m := [⟨fr, 20, V, false⟩]) (G1.alloc (.cells #[.int .i64 fr, .int .i64 20, .int .i64 V, .bool false] 42)) o2 g2; clear o2 g2)
        | (refine step_append_opt rfl _ _ _ rfl w4.heap.size 42 i0 (.agg #[.int .i64 0, .int .i64 0, .int .i64 0, .bool false]) 4 32 Try.underlying23 HQ.out.1 HQ.out.2.1 HQ.out.2.2.1 HQ.out.2.2.2 rfl (by decide) _ _ _ rfl G1.row (some ⟨(w4.heap.size + 1), 0, none⟩) 1 1 (fl [⟨fr, 20, V, false⟩]) rfl rfl (fun h => by cases h) (fun ad had => by injection had with had; subst had; exact LT) (fl_one _) hq3 hq4 G1.below.size ?_; intro v2 wB o2 g2; have G2 := OwnG.grown (m := [⟨fr, 20, V, false⟩]) G1 o2 g2; clear o2 g2)
        | (refine step_append_opt rfl _ _ _ rfl w4.heap.size 42 i0 (.agg #[.int .i64 0, .int .i64 0, .int .i64 0, .bool false]) 4 32 Try.underlying23 HQ.out.1 HQ.out.2.1 HQ.out.2.2.1 HQ.out.2.2.2 rfl (by decide) _ _ _ rfl G1.row (some ⟨w4.heap.size, 0, none⟩) 1 1 (fl [⟨fr, 20, V, false⟩]) rfl rfl (fun h => by cases h) (fun ad had => by injection had with had; subst had; exact LT) (fl_one _) hq3 hq4 G1.below.size ?_; intro v2 wB o2 g2; have G2 := OwnG.grown (m := [⟨fr, 20, V, false⟩]) G1 o2 g2; clear o2 g2))
    all_goals
      go_wp2_with fail
      go_meet
      exact Lib.hid G2
  case rest =>
    clear x0 x1 x2 x3 own1 own2 own3 own2l own3l KS NW hnil hq1 hq2 hq3 hq4 HQ
    obtain ⟨a2, c2, hv, hA2, hb5⟩ := hcut.out.done
    injection hv with hv
    subst hv
    have HT5 := Lib.hid (HT4.out.below hb5)
    have L5 := Lib.hid (L4.out.more hb5)
    have X5 := Lib.hid (X4.out.keep (hb5.block s s4))
    have M5 := Lib.hid (OwnO.lst hA2 (by simp; omega))
    have NB2 : Hid (∀ x, a2 = some x → x.block ≠ w.heap.size) := Lib.hid (OwnA.ne (show OwnA _ w4 wc a2 c2 from hA2) HT4.out.lt)
    have B5 := Lib.hid (B4.out.trans (hb5.mono B4.out.size))
    have ML := Lib.hid (show (cs ++ [(⟨fr, 20, V, false⟩ : Chg)]).length ≤ 1024 by simp; omega)
    have VE := Lib.hid (valE_zero (l := cs) (by omega) fun c hc => (HGC.out c hc).err)
    have VM := Lib.hid (valE_zero ML.out fun c hc => by
      rcases List.mem_append.1 hc with h1 | h1
      · exact (HGC.out c h1).err
      · rw [List.mem_singleton] at h1; subst h1
        unfold errC
        rw [if_pos ⟨by show 0 ≤ fr; omega, by show fr ≤ 84005; omega, (by show (0 : Int) ≤ 20; decide), (by show (20 : Int) ≤ 2147483647; decide), by show -1000000000000 ≤ V; omega, by show V ≤ 1000000000000; omega⟩]
        rfl)
    have Q1 := Lib.hid (fun k d (h : k < 20) => valL_later cs ⟨fr, 20, V, false⟩ k d h)
    have Q2 := Lib.hid (fun d (h : d < fr) => valL_before cs ⟨fr, 20, V, false⟩ 20 d h)
    have Q3 := Lib.hid (show valL (cs ++ [(⟨fr, 20, V, false⟩ : Chg)]) 20 fr = some V from valL_on cs ⟨fr, 20, V, false⟩ 20 rfl (fun x hx => by have := (HGC.out x hx) rfl; omega) rfl)
    clear hA2 hb5 hcut HT4 L4 X4 B4 ML HGC s4
    generalize hm : cs ++ [(⟨fr, 20, V, false⟩ : Chg)] = ms at *
    generalize hln : ms.length = nm at *
    clear hm hln
    generalize hln : cs.length = nc at *
    clear hln
    go_wp2_with fail
    refine (next_any w.heap.size 20 (by omega) (by omega) _ HT5.out).mono ?_
    rintro e w6 ⟨K, rfl, K0, K1, T6, O6⟩
    have HT6 := Lib.hid T6
    have L6 := Lib.hid (L5.out.only O6 NB.out)
    have M6 := Lib.hid (M5.out.only O6 NB2.out)
    have X6 := Lib.hid (X5.out.only O6 sb)
    have B6 := Lib.hid (B5.out.trans (O6.below (Nat.le_refl _) B5.out.size))
    clear T6 O6 HT5 L5 M5 X5 B5
    go_wp2_with fail
    refine (day_any w.heap.size _ HT6.out).mono ?_
    rintro e w7 ⟨D, rfl, D0, D1, T7, O7⟩
    have L7 := Lib.hid (L6.out.only O7 NB.out)
    have M7 := Lib.hid (M6.out.only O7 NB2.out)
    have X7 := Lib.hid (X6.out.only O7 sb)
    have B7 := Lib.hid (B6.out.trans (O7.below (Nat.le_refl _) B6.out.size))
    clear T7 O7 HT6 L6 M6 X6 B6
    have E1 := Lib.hid (Q1.out K D K1)
    have hd1 : 0 ≤ D ∧ D ≤ 84005 := ⟨D0, D1⟩
    have C1 := Lib.hid (fun W h => at_ok a nc ca cs D K W h VE.out hd1)
    have C2 := Lib.hid (fun W h => at_ok a2 nm c2 ms D K W h VM.out hd1)
    rw [E1.out] at C2
    have C3 := Lib.hid (fun W h => at_ok a nc ca cs D 20 W h VE.out hd1)
    have C4 := Lib.hid (fun W h => at_ok a2 nm c2 ms D 20 W h VM.out hd1)
    have C5 := Lib.hid (fun W h => at_ok a2 nm c2 ms fr 20 W h VM.out (by omega))
    rw [Q3.out] at C5
    have QE := Lib.hid (Q2.out D)
    clear E1 Q1 Q2 Q3
    generalize valL cs K D = o1 at *
    generalize valL cs 20 D = o3 at *
    generalize valL ms 20 D = o4 at *
    unfold AtV at C1 C2 C3 C4
    have U5 : Hid (∀ W, Lst W a2 nm c2 ms → Calls Try.prog 17 #[.slice a2 nm c2, .int .i64 fr, .int .i64 20] W fun e w' => e = .returned (.tuple #[.int .i64 V, .bool true, .int .i64 0]) ∧ Below W.heap.size W w') := Lib.hid fun W h => C5.out W h
    clear C5
    have n1 : (o1.getD 0 != o1.getD 0) = false := by simp
    have n2 : (o1.isSome != o1.isSome) = false := by simp
    generalize hp1 : o1.getD 0 = p1 at *
    generalize hs1 : o1.isSome = s1 at *
    clear hp1 hs1
    go_wp2_with fail
    refine (C1.out _ L7.out).mono ?_
    rintro e w8 ⟨rfl, b8⟩
    have L8 := Lib.hid (L7.out.more b8)
    have M8 := Lib.hid (M7.out.more b8)
    have X8 := Lib.hid (X7.out.keep (b8.block s X7.out.lt))
    have B8 := Lib.hid (B7.out.trans (b8.mono B7.out.size))
    clear b8 L7 M7 X7 B7
    go_wp2_with fail
    refine (C2.out _ M8.out).mono ?_
    rintro e w9 ⟨rfl, b9⟩
    have L9 := Lib.hid (L8.out.more b9)
    have M9 := Lib.hid (M8.out.more b9)
    have X9 := Lib.hid (X8.out.keep (b9.block s X8.out.lt))
    have B9 := Lib.hid (B8.out.trans (b9.mono B8.out.size))
    clear b9 L8 M8 X8 B8 C1 C2
    go_wp2_with fail
    refine (C3.out _ L9.out).mono ?_
    rintro e w10 ⟨rfl, b10⟩
    have M10 := Lib.hid (M9.out.more b10)
    have X10 := Lib.hid (X9.out.keep (b10.block s X9.out.lt))
    have B10 := Lib.hid (B9.out.trans (b10.mono B9.out.size))
    clear b10 L9 M9 X9 B9 n1 n2
    go_wp2_with fail
    refine (C4.out _ M10.out).mono ?_
    rintro e w11 ⟨rfl, b11⟩
    have M11 := Lib.hid (M10.out.more b11)
    have X11 := Lib.hid (X10.out.keep (b11.block s X10.out.lt))
    have B11 := Lib.hid (B10.out.trans (b11.mono B10.out.size))
    clear b11 M10 X10 B10 C3 C4
    obtain ⟨y0, y1, y2, y3⟩ := X11.out.at4
    simp only at y0 y1 y2 y3
    have TAIL : Hid (∀ W, Below w11.heap.size w11 W → Lst W a2 nm c2 ms ∧ Bx W s ⟨fr, 20, V, false⟩ ∧ Below w.heap.size w W) := Lib.hid fun W hb => ⟨M11.out.more hb, X11.out.keep (hb.block s X11.out.lt), B11.out.trans (hb.mono B11.out.size)⟩
    go_upto_region 12 with fail
    go_cut [105] (fun sl wx => sl = .bool false ∧ wx = w11)
    case first =>
      by_cases hdf : D < fr
      · have td : decide (D < fr) = true := decide_eq_true hdf
        have e := QE.out hdf
        subst e
        have n1 : (o4.getD 0 != o4.getD 0) = false := by simp
        have n2 : (o4.isSome != o4.isSome) = false := by simp
        generalize o4.getD 0 = p1 at *
        generalize o4.isSome = s1 at *
        go_wp2_with fail
        go_meet
        exact ⟨rfl, rfl⟩
      · have td : decide (D < fr) = false := decide_eq_false hdf
        go_wp2_with fail
        go_meet
        exact ⟨rfl, rfl⟩
    case rest =>
      obtain ⟨rfl, rfl⟩ := hcut
      go_wp2_with fail
      refine (U5.out _ M11.out).mono ?_
      rintro e w12 ⟨rfl, b12⟩
      obtain ⟨_, X12, B12⟩ := TAIL.out _ b12
      have B12 := Lib.hid B12
      obtain ⟨z0, z1, z2, z3⟩ := X12.at4
      simp only at z0 z1 z2 z3
      have tv : (V == V) = true := by simp
      clear b12 X12 TAIL U5 M11 X11 y0 y1 y2 y3
      go_wp2_with (go_at_call 12; (with_reducible refine (sane_any _).mono ?_); rintro e w13 ⟨rfl, b13⟩)
      go_ret
      exact ⟨rfl, B12.out.trans (b13.mono B12.out.size)⟩
end Go.Proofs.Ytdpgmjmmnjbbiaa.Tl
