/-
  RatioTexts: the walk: Format and Parse and the reference's agree on made strings and on the given one; the answer is true.
-/
import Derived.Test.YtjhnapbaaifmnaaDoorPrLawTrip
import Derived.Test.YtjhnapbaaifmnaaDoorPrRPar3
namespace Go.Proofs.YtjhnapbaaifmnaaDoor
open Go Go.RowKit Go.Lib Go.Proofs.YtjhnapbaaifmnaaDoor.Tp
set_option linter.unusedVariables false

/-- What the loop keeps: the table of texts, the two fractions, the listed variables. -/
structure TxI (w : World) (g x : Nat) (a b n d : Int) (wr : World) : Prop where
  ok : OKW wr
  below : Below w.heap.size w wr
  a : Res wr w.heap.size a b
  x : Res wr x n d
  l : ∀ j, j < 13 → ∃ t : ByteArray, t.size ≤ 281474976710656 ∧ wr.cell? ⟨g, j, none⟩ = some (.string t)
theorem TxI.more {w : World} {g x : Nat} {a b n d : Int} {u v : World} (h : TxI w g x a b n d u) (hB : Below u.heap.size u v) : TxI w g x a b n d v :=
  ⟨h.ok.below hB, h.below.trans (hB.mono h.below.size), h.a.below hB, h.x.below hB, fun j hj => by obtain ⟨t, ht, hc⟩ := h.l j hj; exact ⟨t, ht, cell_below hc hB⟩⟩
theorem fmt_len (a b : Int) (ha0 : -9223372036854775808 ≤ a) (ha1 : a ≤ 9223372036854775807) (hb0 : -9223372036854775808 ≤ b) (hb1 : b ≤ 9223372036854775807) : (fmtL a b).length ≤ 43 := by
  have l1 := Lib.itoa_length_le a ha0 ha1
  have l2 := Lib.itoa_length_le b hb0 hb1
  unfold fmtL
  split
  · split
    · omega
    · simp; omega
  · simp
theorem tx_l (wv : World) (ts : List ByteArray) (ty : TypeId) (h : ∀ x ∈ ts, x.size ≤ 281474976710656) : ∀ j, j < ts.length → ∃ t : ByteArray, t.size ≤ 281474976710656 ∧ (wv.alloc (.cells (ts.map Value.string).toArray ty)).cell? ⟨wv.heap.size, j, none⟩ = some (.string t) := by
  intro j hj
  refine ⟨ts[j], h _ (List.getElem_mem hj), ?_⟩
  rw [World.cell?_alloc_at _ _ _ _ rfl]
  simp [hj]
set_option maxRecDepth 100000 in
set_option maxHeartbeats 8000000 in
theorem text_walk (p : Option Addr) (len cap : Nat) (zs : List Int) (a b : Int) (s : ByteArray) (hs : s.size ≤ 281474976710656) (ha0 : -9223372036854775808 ≤ a) (ha1 : a ≤ 9223372036854775807) (hb0 : -9223372036854775808 ≤ b) (hb1 : b ≤ 9223372036854775807)
    (w : World) (hr : IsRow w p len cap zs) (hl : len ≤ 9223372036854775807) (hok : OKW w) :
    Calls Tryd.prog 5 #[.slice p len cap, .agg #[.int .i64 a, .int .i64 b], .string s] w fun e w' => e = .returned (.bool true) ∧ Below w.heap.size w w' := by
  have hr2 : IsRow (w.alloc (.cells #[.int .i64 a, .int .i64 b] 23)) p len cap zs := by
    rcases hr with h | ⟨x, h1, h2, h3, h4, h5, h6⟩
    · exact .inl h
    · exact .inr ⟨x, h1, h2, h3, h4, fun i hi => cell_below (h5 i hi) (Below.alloc (Below.refl _ _) (Nat.le_refl _) _), h6⟩
  have T0 := tape_new hr2 hl 54
  have R0 := (Res.new w a b 23).alloc (.cells #[.slice p len cap, .int .i64 0] 54)
  clear hr hr2
  go_enter Tryd.func5, Tryd.ntmps5
  go_wp2_with fail
  refine (gnew_any _ _ _ _).mono ?_
  rintro e w' ⟨rfl, rfl⟩
  go_wp2_with fail
  refine (ratio_any (w.heap.size + 1) _ (by simpa using T0)).mono ?_
  rintro e w2 ⟨n, d, rfl, va, T2, O2⟩
  have R2 := R0.only (by omega) O2
  have B2 : Below w.heap.size w w2 := Below.trans (b := _) (boxed2 _ _ _) (O2.below (by omega) (by simp; omega))
  have VA := Lib.hid va
  have bA := vld_bd va
  have HOK := Lib.hid (hok.below B2)
  have HR := Lib.hid R2
  have z2 : w.heap.size < w2.heap.size := World.block_lt_of_cell? _ _ R2.c0
  clear R0 T0 O2 va T2 R2 hok
  go_wp2_with fail
  have hX0 : Res (w2.alloc (.cells #[.int .i64 n, .int .i64 d] 23)) w2.heap.size n d := Res.new _ _ _ _
  have hA0 := HR.out.alloc (.cells #[.int .i64 n, .int .i64 d] 23)
  have hO0 := HOK.out.below (Below.alloc (Below.refl _ _) (Nat.le_refl _) (.cells #[.int .i64 n, .int .i64 d] 23))
  have hB0 := B2.alloc B2.size (.cells #[.int .i64 n, .int .i64 d] 23)
  have lf := fmt_len n d (by omega) (by omega) (by omega) (by omega)
  have k1 : ¬ 9223372036854775807 < (fmtL n d).length + 1 := by omega
  have k2 : ¬ 9223372036854775807 < 1 + (fmtL n d).length := by omega
  generalize hw3 : (w2.alloc (.cells #[.int .i64 n, .int .i64 d] 23)) = w3 at *
  have zx : w2.heap.size < w3.heap.size := World.block_lt_of_cell? _ _ hX0.c0
  clear hw3 HR HOK
  obtain ⟨x0, x1, _, _⟩ := hX0
  have hX1 := (show Res w3 w2.heap.size n d from ⟨x0, x1, by assumption, by assumption⟩)
  have hD := Below.drew (Below.refl w3.heap.size w3)
  have hX2 := hX1.below hD
  have hA2 := hA0.below hD
  have hO2 := hO0.below hD
  have hB2 := Below.drew hB0
  go_region_held3 (fun w' => w'.cell? ⟨w2.heap.size, 0, none⟩ = some (.int .i64 n) ∧ w'.cell? ⟨w2.heap.size, 1, none⟩ = some (.int .i64 d) ∧ Res w' w2.heap.size n d ∧ Res w' w.heap.size a b ∧ OKW w' ∧ Below w.heap.size w w') (first | exact ⟨k0, kk, kX, kA, kO, kB⟩ | exact ⟨x0, x1, hX2, hA2, hO2, hB2⟩ | (go_split_ands; exact ⟨cell_below (by assumption) (Below.alloc (Below.refl _ _) (Nat.le_refl _) _), cell_below (by assumption) (Below.alloc (Below.refl _ _) (Nat.le_refl _) _), Res.alloc (by assumption) _, Res.alloc (by assumption) _, OKW.below (by assumption) (Below.alloc (Below.refl _ _) (Nat.le_refl _) _), Below.alloc (by assumption) (Below.size (by assumption)) _⟩))
    (first
      | (go_at_call 17; go_split_ands; refine (fmt_any n d ?_ ?_ ?_ ?_ _ ?_).mono ?_; (omega); (omega); (omega); (omega); (assumption); rintro e wv ⟨rfl, hwv⟩; (have k0 := cell_below (v := .int .i64 n) (p := ⟨w2.heap.size, 0, none⟩) (by assumption) hwv); (have kk := cell_below (v := .int .i64 d) (p := ⟨w2.heap.size, 1, none⟩) (by assumption) hwv); (have kX : Res wv w2.heap.size n d := Res.below (by assumption) hwv); (have kA : Res wv w.heap.size a b := Res.below (by assumption) hwv); (have kO : OKW wv := OKW.below (by assumption) hwv); (have kB : Below w.heap.size w wv := Below.trans (by assumption) (hwv.mono (Below.size (by assumption)))))
      | (go_at_call 18; go_split_ands; refine (rfmt_any n d ?_ ?_ ?_ ?_ _).mono ?_; (omega); (omega); (omega); (omega); rintro e wv ⟨rfl, hwv⟩; (have k0 := cell_below (v := .int .i64 n) (p := ⟨w2.heap.size, 0, none⟩) (by assumption) hwv); (have kk := cell_below (v := .int .i64 d) (p := ⟨w2.heap.size, 1, none⟩) (by assumption) hwv); (have kX : Res wv w2.heap.size n d := Res.below (by assumption) hwv); (have kA : Res wv w.heap.size a b := Res.below (by assumption) hwv); (have kO : OKW wv := OKW.below (by assumption) hwv); (have kB : Below w.heap.size w wv := Below.trans (by assumption) (hwv.mono (Below.size (by assumption))))))
  go_split_ands
  have hL := tx_l wv [s, ⟨(fmtL n d).toArray⟩, ⟨(fmtL n d).toArray⟩, ⟨(fmtL n d).toArray⟩ ++ ⟨#[48]⟩, ⟨#[45]⟩ ++ ⟨(fmtL n d).toArray⟩, ⟨#[48]⟩ ++ ⟨(fmtL n d).toArray⟩, ⟨#[49, 48, 48, 48, 48, 48, 48, 48, 48, 48, 48, 48, 48]⟩, ⟨#[49, 48, 48, 48, 48, 48, 48, 48, 48, 48, 48, 48, 49]⟩, ⟨#[50, 47, 52]⟩, ⟨#[45, 48]⟩, ⟨#[49, 47, 48]⟩, ⟨#[55, 47, 49, 48, 48, 48, 48, 48, 48]⟩, ⟨#[55, 47, 49, 48, 48, 48, 48, 48, 49]⟩] 9 (by
    have e : (⟨(fmtL n d).toArray⟩ : ByteArray).size = (fmtL n d).length := by show ((fmtL n d).toArray).size = _; simp
    intro x hx
    simp only [List.mem_cons, List.not_mem_nil, or_false] at hx
    rcases hx with rfl | rfl | rfl | rfl | rfl | rfl | rfl | rfl | rfl | rfl | rfl | rfl | rfl
    · exact hs
    · omega
    · omega
    all_goals first
      | (rw [ByteArray.size_append, e]; show _ + 1 ≤ _; omega)
      | (rw [ByteArray.size_append, e]; show 1 + _ ≤ _; omega)
      | decide)
  have hI : TxI w wv.heap.size w2.heap.size a b n d (wv.alloc (.cells _ 9)) := ⟨by assumption, by assumption, by assumption, by assumption, hL⟩
  have HI := Lib.hid hI
  have zw : w.heap.size < w2.heap.size := z2
  clear hI hL lf k1 k2
  go_wp2_with fail
  go_loopw [10] (fun i wr => ∃ j : Nat, j ≤ 13 ∧ i = .int .i64 j ∧ TxI w wv.heap.size w2.heap.size a b n d wr) (fun i _ => (13 - RowKit.intOf i).toNat)
  case atStart => exact ⟨0, by omega, rfl, HI.out⟩
  case round =>
    clear HI
    obtain ⟨j, hj, rfl, hI⟩ := hrel
    have I0 := Lib.hid hI
    clear hI
    by_cases h : j < 13
    · obtain ⟨t, ht, hc⟩ := I0.out.l j h
      obtain ⟨q1, q2, q3, hq⟩ : ∃ x y z, parsT t = (x, y, z) := ⟨_, _, _, rfl⟩
      have p1 := fun w hok => pars_any t ht w hok
      have p2 := fun w => rpar_any t (by omega) w
      simp only [hq] at p1
      simp only [hq, retR] at p2
      have P1 := Lib.hid p1
      have P2 := Lib.hid p2
      clear p1 p2 hq
      go_wp2_with fail
      refine (P1.out _ I0.out.ok).mono ?_
      rintro e w4 ⟨rfl, hw4⟩
      have I1 := Lib.hid (I0.out.more hw4)
      have hc4 := cell_below hc hw4
      have zc := World.block_lt_of_cell? _ _ hc4
      clear hc hw4 I0
      go_wp2_with fail
      refine (P2.out _).mono ?_
      rintro e w5 ⟨rfl, hw5⟩
      have I2 := Lib.hid ((I1.out.more (Below.alloc (Below.refl _ _) (Nat.le_refl _) (.cells #[.int .i64 q1, .int .i64 q2] 23))).more hw5)
      obtain ⟨b0, b1, _, _⟩ := (Res.new w4 q1 q2 23).below hw5
      have zb := World.block_lt_of_cell? _ _ b0
      clear hw5 hc4 zc I1
      go_wp2_with fail
      exact ⟨⟨j + 1, by omega, by go_num, I2.out.more (Below.alloc (Below.refl _ _) (Nat.le_refl _) _)⟩, by simp [RowKit.intOf]; omega⟩
    · obtain rfl : j = 13 := by omega
      obtain ⟨y0, y1, _, _⟩ := I0.out.a
      obtain ⟨x2, x3, _, _⟩ := I0.out.x
      have hOK := I0.out.ok.below (Below.drew (Below.refl wr.heap.size wr))
      have hBB := Below.drew I0.out.below
      clear I0
      go_wp2_with fail
      go_region_held3 (fun w' => w'.cell? ⟨w.heap.size, 0, none⟩ = some (.int .i64 a) ∧ w'.cell? ⟨w.heap.size, 1, none⟩ = some (.int .i64 b) ∧ w'.cell? ⟨w2.heap.size, 0, none⟩ = some (.int .i64 n) ∧ w'.cell? ⟨w2.heap.size, 1, none⟩ = some (.int .i64 d) ∧ OKW w' ∧ Below w.heap.size w w') (first | exact ⟨k0, k1, k2, k3, kO, kB⟩ | exact ⟨y0, y1, x2, x3, hOK, hBB⟩)
        (first
          | (go_at_call 17; go_split_ands; refine (fmt_any _ _ ?_ ?_ ?_ ?_ _ ?_).mono ?_; (omega); (omega); (omega); (omega); (assumption); rintro e wv ⟨rfl, hwv⟩; (have k0 := cell_below (v := .int .i64 a) (p := ⟨w.heap.size, 0, none⟩) (by assumption) hwv); (have k1 := cell_below (v := .int .i64 b) (p := ⟨w.heap.size, 1, none⟩) (by assumption) hwv); (have k2 := cell_below (v := .int .i64 n) (p := ⟨w2.heap.size, 0, none⟩) (by assumption) hwv); (have k3 := cell_below (v := .int .i64 d) (p := ⟨w2.heap.size, 1, none⟩) (by assumption) hwv); (have kO : OKW wv := OKW.below (by assumption) hwv); (have kB : Below w.heap.size w wv := Below.trans (by assumption) (hwv.mono (Below.size (by assumption)))))
          | (go_at_call 18; go_split_ands; refine (rfmt_any _ _ ?_ ?_ ?_ ?_ _).mono ?_; (omega); (omega); (omega); (omega); rintro e wv ⟨rfl, hwv⟩; (have k0 := cell_below (v := .int .i64 a) (p := ⟨w.heap.size, 0, none⟩) (by assumption) hwv); (have k1 := cell_below (v := .int .i64 b) (p := ⟨w.heap.size, 1, none⟩) (by assumption) hwv); (have k2 := cell_below (v := .int .i64 n) (p := ⟨w2.heap.size, 0, none⟩) (by assumption) hwv); (have k3 := cell_below (v := .int .i64 d) (p := ⟨w2.heap.size, 1, none⟩) (by assumption) hwv); (have kO : OKW wv := OKW.below (by assumption) hwv); (have kB : Below w.heap.size w wv := Below.trans (by assumption) (hwv.mono (Below.size (by assumption)))))
          | (go_at_call 12; go_split_ands; refine (sane_any _ ?_).mono ?_; (assumption); rintro e wv ⟨rfl, hwv⟩; (have k0 := cell_below (v := .int .i64 a) (p := ⟨w.heap.size, 0, none⟩) (by assumption) hwv); (have k1 := cell_below (v := .int .i64 b) (p := ⟨w.heap.size, 1, none⟩) (by assumption) hwv); (have k2 := cell_below (v := .int .i64 n) (p := ⟨w2.heap.size, 0, none⟩) (by assumption) hwv); (have k3 := cell_below (v := .int .i64 d) (p := ⟨w2.heap.size, 1, none⟩) (by assumption) hwv); (have kO : OKW wv := OKW.below (by assumption) hwv); (have kB : Below w.heap.size w wv := Below.trans (by assumption) (hwv.mono (Below.size (by assumption))))))
      go_split_ands
      go_wp2_with fail
      go_ret
      exact ⟨rfl, by assumption⟩
end Go.Proofs.YtjhnapbaaifmnaaDoor
